/- Arguments of the types []int, []uint8, [][2]int, opened. -/
import Derived.Test.YtijoaiehnemgnaaHRowKit
import Derived.ChangeSlices
namespace Go.Proofs.Ytijoaiehnemgnaa
open Go.ChangeShapes Go.WideShapes Go.ChangeAt Go.RowKit Go.Deep

theorem cTwo : Try.prog.cellsOf 45 = 2 := by kernel_rfl
section
variable {H : Type} {enc : TypeId × Value → H} {P : Program} {w : World} {base : Nat} {spare : Nat → Bool} {held : Bool}
/-- An array of two one-cell elements, taken apart. -/
theorem two_apart {t e : TypeId} {fuel : Nat} {c0 c1 : Value} {x : DataW H × List MemPlace} (ht : P.underlying t = some (.array 2 e)) (hce : P.cellsOf e = 1)
    (h : DataW.trod enc P w base spare held fuel t [c0, c1] = some x) :
    ∃ y0 y1 n, DataW.trod enc P w base spare held n e [c0] = some y0 ∧ DataW.trod enc P w base spare held n e [c1] = some y1 := by
  cases fuel with
  | zero => simp [DataW.trod] at h
  | succ n =>
    unfold DataW.trod at h
    rw [ht] at h
    have r2 : List.range 2 = [0, 1] := rfl
    simp [r2, hce] at h
    obtain ⟨_, h⟩ := h
    cases h0 : DataW.trod enc P w base spare held n e [c0] with
    | none => simp [h0] at h
    | some y0 =>
      cases h1 : DataW.trod enc P w base spare held n e [c1] with
      | none => simp [h0, h1] at h
      | some y1 => exact ⟨y0, y1, n, h0, h1⟩
end
def IntL0 (w : World) (A : Option Addr) (m : Nat) (xs : Nat → Int) : Prop := ∀ i, i < m → ∃ a, A = some a ∧ a.block < w.heap.size ∧ w.cell? (a.add i) = some (.int .i64 (xs i))
def U8L0 (w : World) (A : Option Addr) (m : Nat) (xs : Nat → Nat) : Prop := ∀ i, i < m → ∃ a, A = some a ∧ a.block < w.heap.size ∧ w.cell? (a.add i) = some (.int .u8 (xs i : Nat)) ∧ xs i < 256
def TwoL0 (w : World) (A : Option Addr) (m : Nat) (xs : Nat → Int × Int) : Prop := ∀ i, i < m → ∃ a, A = some a ∧ a.block < w.heap.size ∧ w.cell? (a.add (i * 2)) = some (.int .i64 (xs i).1) ∧ w.cell? ⟨(a.add (i * 2)).block, (a.add (i * 2)).off + 1, none⟩ = some (.int .i64 (xs i).2)

set_option maxRecDepth 100000 in
theorem open_keys {H : Type} {enc : TypeId × Value → H} {W : World} {v : Value} {d : DataW H} {p : List MemPlace} {r : Reach} {base : Nat}
    (hval : Value.okWide Try.prog W r base 40 v) (h : DataW.Trod enc Try.prog W 0 (fun _ => true) true 40 v d p) (hlt : ∀ x ∈ p, x.block < W.heap.size) :
    ∃ A n c xs, v = .slice A n c ∧ n ≤ 9223372036854775807 ∧ IntL0 W A n xs := by
  obtain ⟨a0, len, cap, rfl⟩ := okWide_slice Try.underlying40 hval
  obtain ⟨fuel, hf⟩ := h
  rcases open_ints Try.underlying40 Try.underlying3 cInt hf with ⟨hcs, hx⟩ | ⟨a, len', cap', zs, hcs, _, hl, hm, hz, hx, hcell, hwz⟩
  · simp [Value.cells] at hcs
    obtain ⟨rfl, rfl, rfl⟩ := hcs
    exact ⟨none, 0, 0, fun _ => 0, rfl, by omega, fun i hi => by omega⟩
  · simp [Value.cells] at hcs
    obtain ⟨rfl, rfl, rfl⟩ := hcs
    simp only [Prod.mk.injEq] at hx
    obtain ⟨rfl, rfl⟩ := hx
    simp only [if_true] at hz
    refine ⟨some a, len, cap, fun i => zs.getD i 0, rfl, by unfold maxLen at hm; omega, fun i hi => ⟨a, rfl, ?_, hcell i (by omega)⟩⟩
    obtain ⟨b, off, spot⟩ := a
    exact hlt (.cell b off) (MemPlace.mem_row.2 ⟨0, by omega, by simp⟩)

set_option maxRecDepth 100000 in
theorem open_bytes {H : Type} {enc : TypeId × Value → H} {W : World} {v : Value} {d : DataW H} {p : List MemPlace} {r : Reach} {base : Nat}
    (hval : Value.okWide Try.prog W r base 44 v) (h : DataW.Trod enc Try.prog W 0 (fun _ => true) true 44 v d p) (hlt : ∀ x ∈ p, x.block < W.heap.size) :
    ∃ A n c xs, v = .slice A n c ∧ n ≤ 9223372036854775807 ∧ U8L0 W A n xs := by
  obtain ⟨a0, len, cap, rfl⟩ := okWide_slice Try.underlying44 hval
  obtain ⟨fuel, hf⟩ := h
  rcases open_ints Try.underlying44 Try.underlying5 cU8 hf with ⟨hcs, hx⟩ | ⟨a, len', cap', zs, hcs, _, hl, hm, hz, hx, hcell, hwz⟩
  · simp [Value.cells] at hcs
    obtain ⟨rfl, rfl, rfl⟩ := hcs
    exact ⟨none, 0, 0, fun _ => 0, rfl, by omega, fun i hi => by omega⟩
  · simp [Value.cells] at hcs
    obtain ⟨rfl, rfl, rfl⟩ := hcs
    simp only [Prod.mk.injEq] at hx
    obtain ⟨rfl, rfl⟩ := hx
    simp only [if_true] at hz
    have hwf : ∀ n ∈ zs, 0 ≤ n ∧ n < 256 := fun n hn => by
      have := hwz n hn
      simp [Lit.wf, IntKind.min, IntKind.max, IntKind.signed, IntKind.bits] at this
      omega
    refine ⟨some a, len, cap, fun i => (zs.getD i 0).toNat, rfl, by unfold maxLen at hm; omega, fun i hi => ?_⟩
    have hi2 : i < zs.length := by omega
    have hw := hwf (zs[i]) (List.getElem_mem hi2)
    have hg : zs.getD i 0 = zs[i] := by simp [List.getD, hi2]
    refine ⟨a, rfl, ?_, ?_, ?_⟩
    · obtain ⟨b, off, spot⟩ := a
      exact hlt (.cell b off) (MemPlace.mem_row.2 ⟨0, by omega, by simp⟩)
    · show W.cell? (a.add i) = some (.int .u8 (((zs.getD i 0).toNat : Nat) : Int))
      rw [hcell i hi2, hg, Int.toNat_of_nonneg hw.1]
    · show (zs.getD i 0).toNat < 256
      rw [hg]
      omega

set_option maxRecDepth 100000 in
theorem open_twos {H : Type} {enc : TypeId × Value → H} {W : World} {v : Value} {d : DataW H} {p : List MemPlace} {r : Reach} {base : Nat}
    (hval : Value.okWide Try.prog W r base 43 v) (h : DataW.Trod enc Try.prog W 0 (fun _ => true) true 43 v d p) (hlt : ∀ x ∈ p, x.block < W.heap.size) :
    ∃ A n c xs, v = .slice A n c ∧ n ≤ 9223372036854775807 ∧ TwoL0 W A n xs := by
  obtain ⟨a0, len, cap, rfl⟩ := okWide_slice Try.underlying43 hval
  obtain ⟨fuel, hf⟩ := h
  rcases open_slice Try.underlying43 hf with ⟨hcs, hx⟩ | ⟨a, len', cap', m, n, D, Pl, hcs, _, hl, hm, hz, hx, hel⟩
  · simp [Value.cells] at hcs
    obtain ⟨rfl, rfl, rfl⟩ := hcs
    exact ⟨none, 0, 0, fun _ => (0, 0), rfl, by omega, fun i hi => by omega⟩
  · simp [Value.cells] at hcs
    obtain ⟨rfl, rfl, rfl⟩ := hcs
    simp only [Prod.mk.injEq] at hx
    obtain ⟨rfl, rfl⟩ := hx
    simp only [if_true] at hz
    subst hz
    have each : ∀ i, ∃ t : Int × Int, i < len → (W.cell? (a.add (i * 2)) = some (.int .i64 t.1) ∧ W.cell? ⟨(a.add (i * 2)).block, (a.add (i * 2)).off + 1, none⟩ = some (.int .i64 t.2)) := by
      intro i
      by_cases hi : i < len
      · obtain ⟨cs', hc, ht⟩ := hel i (by omega)
        rw [cTwo] at hc
        obtain ⟨_, hcl, hcc⟩ := World.cells?_some hc
        match cs', hcl with
        | [c0, c1], _ =>
          obtain ⟨y0, y1, n', t0, t1⟩ := two_apart Try.underlying45 cInt ht
          obtain ⟨k0, e0, -, w0⟩ := DataW.trod_int Try.underlying3 t0
          obtain ⟨k1, e1, -, w1⟩ := DataW.trod_int Try.underlying3 t1
          simp at e0 e1
          subst e0 e1
          have q0 := hcc 0 (by omega)
          have q1 := hcc 1 (by omega)
          rw [add_zero'] at q0
          rw [add_one _ _ (by omega)] at q1
          exact ⟨(k0, k1), fun _ => ⟨by simpa using q0, by simpa using q1⟩⟩
      · exact ⟨(0, 0), fun h => absurd h hi⟩
    refine ⟨some a, len, _, fun i => (each i).choose, rfl, by unfold maxLen at hm; omega, fun i hi => ⟨a, rfl, ?_, (each i).choose_spec hi⟩⟩
    obtain ⟨b, off, spot⟩ := a
    refine hlt (.cell b off) (List.mem_append_left _ (MemPlace.mem_row.2 ⟨0, ?_, by simp⟩))
    rw [cTwo]
    omega
end Go.Proofs.Ytijoaiehnemgnaa
