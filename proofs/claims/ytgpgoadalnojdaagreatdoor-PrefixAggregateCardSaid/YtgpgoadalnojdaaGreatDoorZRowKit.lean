/- A list of prefixes opened. -/
import Derived.Test.YtgpgoadalnojdaaGreatDoorPRowKit
import Derived.Test.YtgpgoadalnojdaaGreatDoorAggH
import Derived.Deep.Slices
namespace Go.Proofs.YtgpgoadalnojdaaGreatDoor
open Go.ChangeShapes Go.WideShapes Go.ChangeAt Go.RowKit Go.Deep

theorem cU32 : Tryz.prog.cellsOf 29 = 1 := by kernel_rfl
theorem cInt : Tryz.prog.cellsOf 3 = 1 := by kernel_rfl
theorem zadd_one (a : Addr) (i : Nat) (h : 0 < i) : a.add i = ⟨a.block, a.off + i, none⟩ := by
  unfold Addr.add
  rw [if_neg (by omega)]
theorem zadd_zero (a : Addr) : a.add 0 = a := by
  unfold Addr.add
  rw [if_pos rfl]
theorem zadd_lit (b off i : Nat) : (⟨b, off, none⟩ : Addr).add i = ⟨b, off + i, none⟩ := by
  unfold Addr.add
  split
  · rename_i h0; subst h0; rfl
  · rfl
theorem spot_none {w : World} {a : Addr} {v : Value} (h : w.cell? a = some v) : a.spot = none := by
  cases hs : a.spot with
  | none => rfl
  | some s =>
    simp only [World.cell?] at h
    split at h
    · simp [hs] at h
    · cases h

set_option maxRecDepth 100000 in
theorem open_pxs {H : Type} {enc : TypeId × Value → H} {W : World} {v : Value} {d : DataW H} {p : List MemPlace} {r : Reach} {base : Nat}
    (hval : Value.okWide Tryz.prog W r base 22 v) (h : DataW.Trod enc Tryz.prog W 0 (fun _ => true) true 22 v d p) (hlt : ∀ x ∈ p, x.block < W.heap.size) :
    ∃ A n c xs, v = .slice A n c ∧ n ≤ 9223372036854775807 ∧ PxL W A n xs := by
  obtain ⟨a0, len, cap, rfl⟩ := okWide_slice Tryz.underlying22 hval
  obtain ⟨fuel, hf⟩ := h
  rcases open_slice Tryz.underlying22 hf with ⟨hcs, hx⟩ | ⟨a, len', cap', m, n, D, Pl, hcs, _, hl, hm, hz, hx, hel⟩
  · simp [Value.cells] at hcs
    obtain ⟨rfl, rfl, rfl⟩ := hcs
    exact ⟨none, 0, 0, fun _ => (0, 0), rfl, by omega, fun i hi => by omega⟩
  · simp [Value.cells] at hcs
    obtain ⟨rfl, rfl, rfl⟩ := hcs
    simp only [Prod.mk.injEq] at hx
    obtain ⟨rfl, rfl⟩ := hx
    simp only [if_true] at hz
    subst hz
    have each : ∀ i, ∃ t : Nat × Int, i < len → (W.cell? (a.add (i * 2)) = some (.int .u32 (t.1 : Int)) ∧ W.cell? ⟨(a.add (i * 2)).block, (a.add (i * 2)).off + 1, none⟩ = some (.int .i64 t.2) ∧ t.1 < 4294967296) := by
      intro i
      by_cases hi : i < len
      · obtain ⟨cs', hc, ht⟩ := hel i (by omega)
        rw [cPx] at hc
        obtain ⟨_, hcl, hcc⟩ := World.cells?_some hc
        match cs', hcl with
        | [c0, c1], _ =>
          obtain ⟨y0, y1, n', -, -, t0, t1⟩ := trod_struct2 Tryz.underlying32 ht
          simp only [cInt, cU32] at t0 t1
          obtain ⟨k0, e0, -, w0⟩ := DataW.trod_int Tryz.underlying29 t0
          obtain ⟨k1, e1, -, w1⟩ := DataW.trod_int Tryz.underlying3 t1
          simp at e0 e1
          subst e0 e1
          have q0 := hcc 0 (by omega)
          have q1 := hcc 1 (by omega)
          rw [zadd_zero] at q0
          rw [zadd_one _ _ (by omega)] at q1
          have hk0 : 0 ≤ k0 ∧ k0 < 4294967296 := by
            simp [Lit.wf, IntKind.min, IntKind.max, IntKind.signed, IntKind.bits] at w0
            omega
          obtain ⟨j, rfl⟩ := Int.eq_ofNat_of_zero_le hk0.1
          exact ⟨(j, k1), fun _ => ⟨by simpa using q0, by simpa using q1, by show j < 4294967296; omega⟩⟩
      · exact ⟨(0, 0), fun h => absurd h hi⟩
    obtain ⟨xs, hxs⟩ := Classical.axiomOfChoice each
    obtain ⟨b, off, spot⟩ := a
    refine ⟨some ⟨b, off, spot⟩, len, _, xs, rfl, by unfold maxLen at hm; omega, fun i hi => ?_⟩
    have h0 := (hxs 0 (by omega)).1
    rw [Nat.zero_mul, zadd_zero] at h0
    have hs : spot = none := spot_none h0
    subst hs
    have hb : b < W.heap.size := by
      refine hlt (.cell b off) (List.mem_append_left _ (MemPlace.mem_row.2 ⟨0, ?_, by simp⟩))
      rw [cPx]
      omega
    obtain ⟨k0, k1, k2⟩ := hxs i hi
    rw [zadd_lit] at k0 k1
    exact ⟨b, off, rfl, hb, k0, k1, k2⟩
end Go.Proofs.YtgpgoadalnojdaaGreatDoor
