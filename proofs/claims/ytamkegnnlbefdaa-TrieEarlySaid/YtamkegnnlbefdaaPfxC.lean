/- Contracts of package prefix: Split, Parent; of its reference likewise. -/
import Derived.Test.YtamkegnnlbefdaaPfxB
import Derived.BigRegion
namespace Go.Proofs.Ytamkegnnlbefdaa
open Go.RowKit

def splitV (a : Nat) (l : Int) : Value :=
  if vldB a l then (if l = 32 then .tuple #[pv 0 0, pv 0 0, .int .i64 2] else .tuple #[pv a (l + 1), pv (a + 2 ^ (31 - l.toNat)) (l + 1), .int .i64 0]) else .tuple #[pv 0 0, pv 0 0, .int .i64 1]
def parentV (a : Nat) (l : Int) : Value :=
  if vldB a l then (if l = 0 then .tuple #[pv 0 0, .int .i64 2] else .tuple #[pv (fst a (l.toNat - 1)) (l - 1), .int .i64 0]) else .tuple #[pv 0 0, .int .i64 1]
theorem PB.set2 {w : World} {b a a' : Nat} {l l' : Int} (h : PB w b a l) : PB ((w.setCell ⟨b, 0, none⟩ (.int .u32 (a' : Int))).setCell ⟨b, 1, none⟩ (.int .i64 l')) b a' l' := by
  unfold PB at h ⊢
  simp [World.setCell, Array.getElem?_modify, h]
theorem PB.far {w : World} {b a : Nat} {l : Int} (h : PB w b a l) {p : Addr} (hp : b ≠ p.block) (u : Value) : PB (w.setCell p u) b a l := (Below.heap_setCell w p u b hp).trans h

/-- Two boxes for results, and what lay below. -/
def Two (w : World) (b1 b2 a1 a2 : Nat) (l1 l2 : Int) (W : World) : Prop := PB W b1 a1 l1 ∧ PB W b2 a2 l2 ∧ b1 ≠ b2 ∧ w.heap.size ≤ b1 ∧ w.heap.size ≤ b2 ∧ Below w.heap.size w W
section
variable {w W : World} {b1 b2 a1 a2 a : Nat} {l1 l2 l : Int}
theorem Two.set1 (h : Two w b1 b2 a1 a2 l1 l2 W) (a : Nat) (l : Int) : Two w b1 b2 a a2 l l2 ((W.setCell ⟨b1, 0, none⟩ (.int .u32 (a : Int))).setCell ⟨b1, 1, none⟩ (.int .i64 l)) := by
  obtain ⟨h1, h2, h3, h4, h5, h6⟩ := h
  exact ⟨h1.set2, (h2.far (p := ⟨b1, 0, none⟩) (Ne.symm h3) _).far (p := ⟨b1, 1, none⟩) (Ne.symm h3) _, h3, h4, h5, (h6.setCell (p := ⟨b1, 0, none⟩) h4 _).setCell (p := ⟨b1, 1, none⟩) h4 _⟩
theorem Two.set2 (h : Two w b1 b2 a1 a2 l1 l2 W) (a : Nat) (l : Int) : Two w b1 b2 a1 a l1 l ((W.setCell ⟨b2, 0, none⟩ (.int .u32 (a : Int))).setCell ⟨b2, 1, none⟩ (.int .i64 l)) := by
  obtain ⟨h1, h2, h3, h4, h5, h6⟩ := h
  exact ⟨(h1.far (p := ⟨b2, 0, none⟩) h3 _).far (p := ⟨b2, 1, none⟩) h3 _, h2.set2, h3, h4, h5, (h6.setCell (p := ⟨b2, 0, none⟩) h5 _).setCell (p := ⟨b2, 1, none⟩) h5 _⟩
theorem Two.step {W' : World} (h : Two w b1 b2 a1 a2 l1 l2 W) (hb : Below W.heap.size W W') : Two w b1 b2 a1 a2 l1 l2 W' := by
  obtain ⟨h1, h2, h3, h4, h5, h6⟩ := h
  exact ⟨h1.step hb, h2.step hb, h3, h4, h5, h6.trans (hb.mono h6.size)⟩
theorem Two.drew (h : Two w b1 b2 a1 a2 l1 l2 W) : Two w b1 b2 a1 a2 l1 l2 W.drew := ⟨h.1, h.2.1, h.2.2.1, h.2.2.2.1, h.2.2.2.2.1, h.2.2.2.2.2.drew⟩
theorem Two.drewN (h : Two w b1 b2 a1 a2 l1 l2 W) (k : Nat) : Two w b1 b2 a1 a2 l1 l2 (W.drewN k) := ⟨h.1, h.2.1, h.2.2.1, h.2.2.2.1, h.2.2.2.2.1, bdrewN h.2.2.2.2.2 k⟩
end
/-- The worlds in which Split begins: the argument's box and two for the results. -/
theorem start3 (w : World) (a : Nat) (l : Int) : ∃ b1 b2 w3, b1 = w.heap.size + 1 ∧ b2 = b1 + 1 ∧ ((w.alloc (.cells #[.int .u32 (a : Int), .int .i64 l] 35)).alloc (.cells #[.int .u32 0, .int .i64 0] 35)).alloc (.cells #[.int .u32 0, .int .i64 0] 35) = w3 ∧
    PB w3 w.heap.size a l ∧ Two w b1 b2 0 0 0 0 w3 := by
  have hP1 := PB.new w a l
  have hb1 : Below w.heap.size w (w.alloc (.cells #[.int .u32 (a : Int), .int .i64 l] 35)) := (Below.refl _ _).alloc (Nat.le_refl _) _
  refine ⟨_, _, _, rfl, rfl, rfl, (hP1.alloc _).alloc _, ?_, ?_, ?_, ?_, ?_, ?_⟩
  · have := (PB.new (w.alloc (.cells #[.int .u32 (a : Int), .int .i64 l] 35)) 0 0).alloc (.cells #[.int .u32 0, .int .i64 0] 35)
    simpa using this
  · have := PB.new ((w.alloc (.cells #[.int .u32 (a : Int), .int .i64 l] 35)).alloc (.cells #[.int .u32 0, .int .i64 0] 35)) 0 0
    simpa using this
  · omega
  · omega
  · omega
  · exact (hb1.alloc hb1.size _).alloc (Nat.le_trans hb1.size (by simp)) _

theorem Two.cell0 {w W : World} {b1 b2 a1 a2 : Nat} {l1 l2 : Int} (h : Two w b1 b2 a1 a2 l1 l2 W) : W.cell? ⟨b1, 0, none⟩ = some (.int .u32 (a1 : Int)) := h.1.cell0
theorem run_half_shl (n : Nat) (h : n < 32) : Op.shift .shl .u32 1 .i64 (32 - ((n : Int) + 1)) = pure (.int .u32 ((2 ^ (31 - n) : Nat) : Int)) := by
  have h0 : (0 : Int) ≤ 32 - ((n : Int) + 1) := by omega
  have h1 : 32 - ((n : Int) + 1) ≤ 32 := by omega
  refine (shift_shl .u32 .i64 1 (32 - ((n : Int) + 1)) h0 h1).trans ?_
  rw [show (32 - ((n : Int) + 1)).toNat = 31 - n by omega, Int.one_mul]
  congr 2
  have hl : 2 ^ (31 - n) < 4294967296 := Nat.lt_of_le_of_lt (Nat.pow_le_pow_right (by omega) (show 31 - n ≤ 31 by omega)) (by decide)
  have : ((2 : Int) ^ (31 - n)) = ((2 ^ (31 - n) : Nat) : Int) := by simp
  rw [this]
  generalize 2 ^ (31 - n) = x at hl
  simp only [IntKind.wrap, IntKind.bits, IntKind.signed]
  simp
  omega
theorem half_or {a n : Nat} (h : n < 32) (ha : fst a n = a) (hlt : a < 4294967296) : a ||| 2 ^ (31 - n) = a + 2 ^ (31 - n) ∧ a + 2 ^ (31 - n) < 4294967296 := by
  have e : (2 : Nat) ^ (32 - n) = 2 ^ (31 - n) + 2 ^ (31 - n) := by rw [show 32 - n = (31 - n) + 1 by omega, Nat.pow_succ]; omega
  have hp := Nat.two_pow_pos (31 - n)
  have hv : Vld (a, n) := (vld_iff hlt).2 ⟨by omega, ha⟩
  have h3 := hv.2.2
  simp only [sz] at h3
  refine ⟨?_, by omega⟩
  conv => lhs; rw [← ha]
  unfold fst
  rw [Nat.mul_comm, ← Nat.two_pow_add_eq_or_of_lt (by rw [e]; omega), Nat.mul_comm]
  have : a / 2 ^ (32 - n) * 2 ^ (32 - n) = a := ha
  rw [this]

end Go.Proofs.Ytamkegnnlbefdaa
