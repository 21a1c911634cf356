/- What the rows of layer 3's laws share: arguments opened. -/
import Derived.Test.YtijoaiehnemgnaaHMem
import Derived.Test.YtijoaiehnemgnaaRows
import Derived.WalkKit
import Derived.ProofKit
import Derived.OpenShut
import Derived.Deep.Slices
import Derived.Deep.Strs
import Derived.Deep.Fields
namespace Go.Proofs.Ytijoaiehnemgnaa
open Go.ChangeShapes Go.WideShapes Go.ChangeAt Go.RowKit Go.Deep

theorem ownK : ownKnob Try.prog.godebug = none := by kernel_rfl
theorem laidOutT : laidOutB Try.prog = true := by kernel_rfl
theorem cInt : Try.prog.cellsOf 3 = 1 := by kernel_rfl
theorem cU8 : Try.prog.cellsOf 5 = 1 := by kernel_rfl
theorem cAct : Try.prog.cellsOf 31 = 3 := by kernel_rfl
theorem add_one (a : Addr) (i : Nat) (h : 0 < i) : a.add i = ⟨a.block, a.off + i, none⟩ := by
  unfold Addr.add
  rw [if_neg (by omega)]
theorem add_zero' (a : Addr) : a.add 0 = a := by
  unfold Addr.add
  rw [if_pos rfl]
/-- A list of calls, or nothing. -/
def ActL0 (w : World) (A : Option Addr) (m : Nat) (acts : Nat → Nat × Int × Int) : Prop := ∀ i, i < m → ∃ a, A = some a ∧ a.block < w.heap.size ∧ w.cell? (a.add (i * 3)) = some (.int .u8 ((acts i).1 : Nat)) ∧ w.cell? ⟨(a.add (i * 3)).block, (a.add (i * 3)).off + 1, none⟩ = some (.int .i64 (acts i).2.1) ∧ w.cell? ⟨(a.add (i * 3)).block, (a.add (i * 3)).off + 2, none⟩ = some (.int .i64 (acts i).2.2) ∧ (acts i).1 < 256

set_option maxRecDepth 100000 in
theorem open_acts {H : Type} {enc : TypeId × Value → H} {W : World} {v : Value} {d : DataW H} {p : List MemPlace} {r : Reach} {base : Nat}
    (hval : Value.okWide Try.prog W r base 22 v) (h : DataW.Trod enc Try.prog W 0 (fun _ => true) true 22 v d p) (hlt : ∀ x ∈ p, x.block < W.heap.size) :
    ∃ A n c acts, v = .slice A n c ∧ n ≤ 9223372036854775807 ∧ ActL0 W A n acts := by
  obtain ⟨a0, len, cap, rfl⟩ := okWide_slice Try.underlying22 hval
  obtain ⟨fuel, hf⟩ := h
  rcases open_slice Try.underlying22 hf with ⟨hcs, hx⟩ | ⟨a, len', cap', m, n, D, Pl, hcs, _, hl, hm, hz, hx, hel⟩
  · simp [Value.cells] at hcs
    obtain ⟨rfl, rfl, rfl⟩ := hcs
    exact ⟨none, 0, 0, fun _ => (0, 0, 0), rfl, by omega, fun i hi => by omega⟩
  · simp [Value.cells] at hcs
    obtain ⟨rfl, rfl, rfl⟩ := hcs
    simp only [Prod.mk.injEq] at hx
    obtain ⟨rfl, rfl⟩ := hx
    simp only [if_true] at hz
    subst hz
    have each : ∀ i, ∃ t : Nat × Int × Int, i < len → (W.cell? (a.add (i * 3)) = some (.int .u8 (t.1 : Nat)) ∧ W.cell? ⟨(a.add (i * 3)).block, (a.add (i * 3)).off + 1, none⟩ = some (.int .i64 t.2.1) ∧ W.cell? ⟨(a.add (i * 3)).block, (a.add (i * 3)).off + 2, none⟩ = some (.int .i64 t.2.2) ∧ t.1 < 256) := by
      intro i
      by_cases hi : i < len
      · obtain ⟨cs', hc, ht⟩ := hel i (by omega)
        rw [cAct] at hc
        obtain ⟨_, hcl, hcc⟩ := World.cells?_some hc
        match cs', hcl with
        | [c0, c1, c2], _ =>
          obtain ⟨y0, y1, y2, n', -, -, t0, t1, t2⟩ := trod_struct3 Try.underlying31 ht
          simp only [cInt, cU8] at t0 t1 t2
          obtain ⟨k0, e0, -, w0⟩ := DataW.trod_int Try.underlying5 t0
          obtain ⟨k1, e1, -, w1⟩ := DataW.trod_int Try.underlying3 t1
          obtain ⟨k2, e2, -, w2⟩ := DataW.trod_int Try.underlying3 t2
          simp at e0 e1 e2
          subst e0 e1 e2
          have q0 := hcc 0 (by omega)
          have q1 := hcc 1 (by omega)
          have q2 := hcc 2 (by omega)
          rw [add_zero'] at q0
          rw [add_one _ _ (by omega)] at q1 q2
          have hk0 : 0 ≤ k0 ∧ k0 < 256 := by
            simp [Lit.wf, IntKind.min, IntKind.max, IntKind.signed, IntKind.bits] at w0
            omega
          obtain ⟨j, rfl⟩ := Int.eq_ofNat_of_zero_le hk0.1
          exact ⟨(j, k1, k2), fun _ => ⟨by simpa using q0, by simpa using q1, by simpa using q2, by show j < 256; omega⟩⟩
      · exact ⟨(0, 0, 0), fun h => absurd h hi⟩
    refine ⟨some a, len, _, fun i => (each i).choose, rfl, by unfold maxLen at hm; omega, fun i hi => ⟨a, rfl, ?_, (each i).choose_spec hi⟩⟩
    obtain ⟨b, off, spot⟩ := a
    refine hlt (.cell b off) (List.mem_append_left _ (MemPlace.mem_row.2 ⟨0, ?_, by simp⟩))
    rw [cAct]
    omega
end Go.Proofs.Ytijoaiehnemgnaa
