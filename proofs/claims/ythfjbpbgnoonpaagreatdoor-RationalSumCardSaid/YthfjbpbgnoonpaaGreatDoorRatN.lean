/- Plain facts about sums and products of fractions in lowest terms. -/
import Derived.Test.YthfjbpbgnoonpaaGreatDoorRatM
namespace Go.Proofs.YthfjbpbgnoonpaaGreatDoor
theorem sg_num (q : Rat) : sg (decide (q.num < 0)) q.num.natAbs = q.num := by by_cases h : q.num < 0 <;> simp [sg, h] <;> omega
theorem sg_mul (b : Bool) (g k : Nat) : sg b (g * k) = g * sg b k := by unfold sg; cases b <;> simp [Int.mul_neg]
theorem sg_mulr (b : Bool) (k j : Nat) : sg b (k * j) = sg b k * (j : Int) := by unfold sg; cases b <;> simp [Int.neg_mul]
theorem sg_sg (s t : Bool) (x y : Nat) : sg s x * sg t y = sg (s != t) (x * y) := by unfold sg; cases s <;> cases t <;> simp [Int.neg_mul, Int.mul_neg]
theorem add_final {q r : Rat} {s : Bool} {x : Int} (hx : x = q.num * (r.den / Nat.gcd q.den r.den : Nat) + r.num * (q.den / Nat.gcd q.den r.den : Nat)) (hs : sg s x.natAbs = x) :
    mkRat (sg s (x.natAbs / Nat.gcd x.natAbs (Nat.gcd q.den r.den))) (q.den / Nat.gcd q.den r.den * (r.den / Nat.gcd q.den r.den) * (Nat.gcd q.den r.den / Nat.gcd x.natAbs (Nat.gcd q.den r.den))) = q + r ∧
    Nat.Coprime (x.natAbs / Nat.gcd x.natAbs (Nat.gcd q.den r.den)) (q.den / Nat.gcd q.den r.den * (r.den / Nat.gcd q.den r.den) * (Nat.gcd q.den r.den / Nat.gcd x.natAbs (Nat.gcd q.den r.den))) ∧
    0 < q.den / Nat.gcd q.den r.den * (r.den / Nat.gcd q.den r.den) * (Nat.gcd q.den r.den / Nat.gcd x.natAbs (Nat.gcd q.den r.den)) := by
  have e1 := Nat.mul_div_cancel' (Nat.gcd_dvd_left q.den r.den)
  have e2 := Nat.mul_div_cancel' (Nat.gcd_dvd_right q.den r.den)
  have e3 := Nat.mul_div_cancel' (Nat.gcd_dvd_left x.natAbs (Nat.gcd q.den r.den))
  have e4 := Nat.mul_div_cancel' (Nat.gcd_dvd_right x.natAbs (Nat.gcd q.den r.den))
  obtain ⟨h1, h2, h3⟩ := add_low q.reduced r.reduced (Nat.ne_of_gt q.den_pos) (Nat.ne_of_gt r.den_pos) rfl e1.symm e2.symm hx rfl e3.symm e4.symm
  refine ⟨?_, h1, by omega⟩
  have h4 := h3 (sg s (x.natAbs / Nat.gcd x.natAbs (Nat.gcd q.den r.den))) (by rw [← sg_mul, e3, hs])
  rw [add_mk]
  exact (Rat.mkRat_eq_iff h2 (Nat.mul_ne_zero (Nat.ne_of_gt q.den_pos) (Nat.ne_of_gt r.den_pos))).2 h4
theorem num_le (n : Int) (d : Nat) : (mkRat n d).num.natAbs ≤ n.natAbs := by
  rw [Rat.num_mkRat]
  split
  · simp
  · rw [Int.natAbs_ediv_of_dvd]
    · simp only [Int.natAbs_natCast]; exact Nat.div_le_self _ _
    · exact Int.ofNat_dvd_left.2 (Nat.gcd_dvd_right _ _)
theorem den_le (n : Int) {d : Nat} (hd : d ≠ 0) : (mkRat n d).den ≤ d := by
  rw [Rat.den_mkRat, if_neg hd]
  exact Nat.div_le_self _ _
theorem add_bound {q r : Rat} {a b : Nat} (h1 : q.num.natAbs < 4294967296 ^ a) (h2 : q.den < 4294967296 ^ a) (h3 : r.num.natAbs < 4294967296 ^ b) (h4 : r.den < 4294967296 ^ b) :
    (q + r).num.natAbs < 4294967296 ^ (a + b + 1) ∧ (q + r).den < 4294967296 ^ (a + b + 1) := by
  rw [add_mk]
  have l1 := Nat.mul_lt_mul'' h1 h4
  have l2 := Nat.mul_lt_mul'' h3 h2
  have l3 := Nat.mul_lt_mul'' h2 h4
  have n1 := num_le (q.num * r.den + r.num * q.den) (q.den * r.den)
  have n2 := den_le (q.num * r.den + r.num * q.den) (Nat.mul_ne_zero (Nat.ne_of_gt q.den_pos) (Nat.ne_of_gt r.den_pos))
  have n3 := Int.natAbs_add_le (q.num * r.den) (r.num * q.den)
  rw [Int.natAbs_mul, Int.natAbs_mul, Int.natAbs_natCast, Int.natAbs_natCast] at n3
  rw [← Nat.pow_add] at l1 l3
  rw [← Nat.pow_add, Nat.add_comm b a] at l2
  rw [Nat.pow_succ]
  generalize (4294967296 : Nat) ^ (a + b) = P at *
  generalize q.num.natAbs * r.den = x1 at *
  generalize r.num.natAbs * q.den = x2 at *
  constructor <;> omega
theorem mul_bound {q r : Rat} {a b : Nat} (h1 : q.num.natAbs < 4294967296 ^ a) (h2 : q.den < 4294967296 ^ a) (h3 : r.num.natAbs < 4294967296 ^ b) (h4 : r.den < 4294967296 ^ b) :
    (q * r).num.natAbs < 4294967296 ^ (a + b) ∧ (q * r).den < 4294967296 ^ (a + b) := by
  rw [mul_mk]
  have l1 := Nat.mul_lt_mul'' h1 h3
  have l3 := Nat.mul_lt_mul'' h2 h4
  have n1 := num_le (q.num * r.num) (q.den * r.den)
  have n2 := den_le (q.num * r.num) (Nat.mul_ne_zero (Nat.ne_of_gt q.den_pos) (Nat.ne_of_gt r.den_pos))
  rw [Int.natAbs_mul] at n1
  rw [← Nat.pow_add] at l1 l3
  exact ⟨Nat.lt_of_le_of_lt n1 l1, Nat.lt_of_le_of_lt n2 l3⟩
theorem mul_final {q r : Rat} : mkRat (sg (decide (q.num < 0) != decide (r.num < 0)) (q.num.natAbs / Nat.gcd q.num.natAbs r.den * (r.num.natAbs / Nat.gcd r.num.natAbs q.den))) (q.den / Nat.gcd r.num.natAbs q.den * (r.den / Nat.gcd q.num.natAbs r.den)) = q * r ∧
    Nat.Coprime (q.num.natAbs / Nat.gcd q.num.natAbs r.den * (r.num.natAbs / Nat.gcd r.num.natAbs q.den)) (q.den / Nat.gcd r.num.natAbs q.den * (r.den / Nat.gcd q.num.natAbs r.den)) ∧
    0 < q.den / Nat.gcd r.num.natAbs q.den * (r.den / Nat.gcd q.num.natAbs r.den) := by
  have e1 := Nat.mul_div_cancel' (Nat.gcd_dvd_left q.num.natAbs r.den)
  have e2 := Nat.mul_div_cancel' (Nat.gcd_dvd_right q.num.natAbs r.den)
  have e3 := Nat.mul_div_cancel' (Nat.gcd_dvd_left r.num.natAbs q.den)
  have e4 := Nat.mul_div_cancel' (Nat.gcd_dvd_right r.num.natAbs q.den)
  obtain ⟨h1, h2, h3⟩ := mul_low q.reduced r.reduced (Nat.ne_of_gt q.den_pos) (Nat.ne_of_gt r.den_pos) rfl rfl e1.symm e2.symm e3.symm e4.symm
  refine ⟨?_, h1, by omega⟩
  rw [mul_mk]
  refine (Rat.mkRat_eq_iff h2 (Nat.mul_ne_zero (Nat.ne_of_gt q.den_pos) (Nat.ne_of_gt r.den_pos))).2 ?_
  generalize q.num.natAbs / Nat.gcd q.num.natAbs r.den * (r.num.natAbs / Nat.gcd r.num.natAbs q.den) = K at h3 ⊢
  generalize q.den / Nat.gcd r.num.natAbs q.den * (r.den / Nat.gcd q.num.natAbs r.den) = D at h3 ⊢
  have hs : q.num * r.num = sg (decide (q.num < 0) != decide (r.num < 0)) (q.num.natAbs * r.num.natAbs) := by
    rw [← sg_sg, sg_num, sg_num]
  rw [hs, ← sg_mulr, ← sg_mulr, h3]
end Go.Proofs.YthfjbpbgnoonpaaGreatDoor
