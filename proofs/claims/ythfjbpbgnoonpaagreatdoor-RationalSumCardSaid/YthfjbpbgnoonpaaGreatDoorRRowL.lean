/- An argument that is a list of numbers, opened. -/
import Derived.Test.YthfjbpbgnoonpaaGreatDoorRRowN
import Derived.Test.YthfjbpbgnoonpaaGreatDoorRLSum
import Derived.Deep.Slices
import Derived.Deep.Strs
namespace Go.Proofs.YthfjbpbgnoonpaaGreatDoor
open Go.ChangeShapes Go.WideShapes Go.ChangeAt Go.RowKit Go.Deep

theorem cBool : Tryz.prog.cellsOf 4 = 1 := by kernel_rfl
theorem cSl32 : Tryz.prog.cellsOf 22 = 1 := by kernel_rfl
theorem zadd_one (a : Addr) (i : Nat) (h : 0 < i) : a.add i = ⟨a.block, a.off + i, none⟩ := by
  unfold Addr.add
  rw [if_neg (by omega)]
theorem zadd_zero (a : Addr) : a.add 0 = a := by
  unfold Addr.add
  rw [if_pos rfl]
theorem zadd_lit (b off i : Nat) : (⟨b, off, none⟩ : Addr).add i = ⟨b, off + i, none⟩ := by
  unfold Addr.add
  split
  · rename_i h0; subst h0; rfl
  · rfl
theorem spot_none {w : World} {a : Addr} {v : Value} (h : w.cell? a = some v) : a.spot = none := by
  cases hs : a.spot with
  | none => rfl
  | some s =>
    simp only [World.cell?] at h
    split at h
    · simp [hs] at h
    · cases h

/-- What an element is. -/
def ElN (W : World) (a : Addr) (q : Rat) : Prop := ∃ s A1 n1 c1 A2 n2 c2 ds es, W.cell? a = some (.bool s) ∧ W.cell? ⟨a.block, a.off + 1, none⟩ = some (.slice A1 n1 c1) ∧ W.cell? ⟨a.block, a.off + 2, none⟩ = some (.slice A2 n2 c2) ∧ ArgN W A1 n1 c1 A2 n2 c2 ds es ∧ q = numQ s ds es
set_option maxRecDepth 100000 in
theorem open_nums {H : Type} {enc : TypeId × Value → H} {W : World} {v : Value} {d : DataW H} {p : List MemPlace} {r : Reach} {base : Nat}
    (hval : Value.okWide Tryz.prog W r base 74 v) (h : DataW.Trod enc Tryz.prog W 0 (fun _ => true) true 74 v d p) (hlt : ∀ x ∈ p, x.block < W.heap.size) :
    ∃ A n c q, v = .slice A n c ∧ n ≤ 9223372036854775807 ∧ NumL W A n q := by
  obtain ⟨a0, len, cap, rfl⟩ := okWide_slice Tryz.underlying74 hval
  obtain ⟨fuel, hf⟩ := h
  rcases open_slice Tryz.underlying74 hf with ⟨hcs, hx⟩ | ⟨a, len', cap', m, n, D, Pl, hcs, _, hl, hm, hz, hx, hel⟩
  · simp [Value.cells] at hcs
    obtain ⟨rfl, rfl, rfl⟩ := hcs
    exact ⟨none, 0, 0, fun _ => 0, rfl, by omega, fun i hi => by omega⟩
  · simp [Value.cells] at hcs
    obtain ⟨rfl, rfl, rfl⟩ := hcs
    simp only [Prod.mk.injEq] at hx
    obtain ⟨rfl, rfl⟩ := hx
    simp only [if_true] at hz
    subst hz
    have each : ∀ i, ∃ q : Rat, i < len → ElN W (a.add (i * 3)) q := by
      intro i
      by_cases hi : i < len
      · obtain ⟨cs', hc, ht⟩ := hel i (by omega)
        rw [cNum] at hc
        obtain ⟨_, hcl, hcc⟩ := World.cells?_some hc
        match cs', hcl with
        | [c0, c1, c2], _ =>
          obtain ⟨y0, y1, y2, n', hy, -, t0, t1, t2⟩ := trod_struct3 Tryz.underlying24 ht
          simp only [cBool, cSl32] at t0 t1 t2
          have hpl : Pl i = y0.2 ++ (y1.2 ++ y2.2) := by
            injection hy
          have hin : ∀ x ∈ Pl i, x.block < W.heap.size := fun x hx => hlt x (List.mem_append_right _ (List.mem_flatMap.2 ⟨i, List.mem_range.2 (by omega), hx⟩))
          obtain ⟨s, e0, -⟩ := DataW.trod_bool Tryz.underlying4 t0
          obtain ⟨A1, n1, k1, ds, e1, b1, l1, g1, a1⟩ := open_digits (v := c1) (y := y1) (by simpa using t1) (fun x hx => hin x (by rw [hpl]; simp [hx]))
          obtain ⟨A2, n2, k2, es, e2, b2, l2, g2, a2⟩ := open_digits (v := c2) (y := y2) (by simpa using t2) (fun x hx => hin x (by rw [hpl]; simp [hx]))
          have q0 := hcc 0 (by omega)
          have q1 := hcc 1 (by omega)
          have q2 := hcc 2 (by omega)
          rw [zadd_zero] at q0
          rw [zadd_one _ _ (by omega)] at q1 q2
          subst e1 e2
          obtain rfl : c0 = .bool s := by simpa using e0
          exact ⟨numQ s ds es, fun _ => ⟨s, A1, n1, k1, A2, n2, k2, ds, es, by simpa using q0, by simpa using q1, by simpa using q2, ⟨a1, a2, g1, g2, b1, b2, l1, l2⟩, rfl⟩⟩
      · exact ⟨0, fun h => absurd h hi⟩
    obtain ⟨q, hq⟩ := Classical.axiomOfChoice each
    obtain ⟨b, off, spot⟩ := a
    refine ⟨some ⟨b, off, spot⟩, len, _, q, rfl, by unfold maxLen at hm; omega, fun i hi => ?_⟩
    obtain ⟨_, _, _, _, _, _, _, _, _, h0, -⟩ := hq 0 (by omega)
    rw [Nat.zero_mul, zadd_zero] at h0
    have hs : spot = none := spot_none h0
    subst hs
    have hb : b < W.heap.size := by
      refine hlt (.cell b off) (List.mem_append_left _ (MemPlace.mem_row.2 ⟨0, ?_, by simp⟩))
      rw [cNum]
      omega
    obtain ⟨s, A1, n1, c1, A2, n2, c2, ds, es, k0, k1, k2, k3, k4⟩ := hq i hi
    rw [zadd_lit] at k0 k1 k2
    exact ⟨b, off, s, A1, n1, c1, A2, n2, c2, ds, es, rfl, hb, k0, k1, k2, k3, k4⟩
end Go.Proofs.YthfjbpbgnoonpaaGreatDoor
