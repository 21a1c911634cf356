/- The common prefix by the leading bits. -/
import Derived.Test.YtamkegnnlbefdaaTrR
namespace Go.Proofs.Ytamkegnnlbefdaa

theorem xor_zero {a b : Nat} (h : a ^^^ b = 0) : a = b := by
  apply Nat.eq_of_testBit_eq
  intro i
  have := congrArg (fun x => x.testBit i) h
  simp only [Nat.testBit_xor, Nat.zero_testBit] at this
  revert this
  cases a.testBit i <;> cases b.testBit i <;> simp
theorem xor_high {a b k : Nat} (h : a ^^^ b < 2 ^ k) : a / 2 ^ k = b / 2 ^ k := by
  have h1 : (a ^^^ b) >>> k = a >>> k ^^^ b >>> k := Nat.shiftRight_xor_distrib
  rw [Nat.shiftRight_eq_div_pow, Nat.shiftRight_eq_div_pow, Nat.shiftRight_eq_div_pow, Nat.div_eq_of_lt h] at h1
  exact xor_zero h1.symm
theorem xor_bit {a b k : Nat} (h1 : 2 ^ k ≤ a ^^^ b) (h2 : a ^^^ b < 2 ^ (k + 1)) : ¬ (a / 2 ^ k % 2 = 1 ↔ b / 2 ^ k % 2 = 1) := by
  have h3 : (a ^^^ b) >>> k = a >>> k ^^^ b >>> k := Nat.shiftRight_xor_distrib
  rw [Nat.shiftRight_eq_div_pow, Nat.shiftRight_eq_div_pow, Nat.shiftRight_eq_div_pow] at h3
  have h4 : (a ^^^ b) / 2 ^ k = 1 := by
    apply Nat.div_eq_of_lt_le
    · omega
    · rw [Nat.pow_succ] at h2; omega
  rw [h4] at h3
  exact Nat.xor_mod_two_eq_one.1 (by rw [← h3])
/-- How many leading bits of 32 are none. -/
def clz (x : Nat) : Nat := if x = 0 then 32 else 31 - Nat.log2 x
def comF (p q : Px) : Px := (p.1 / 2 ^ (32 - clz (p.1 ^^^ q.1)) * 2 ^ (32 - clz (p.1 ^^^ q.1)), clz (p.1 ^^^ q.1))
theorem cov_same_bits {p q : Px} (hp : Vld p) (hle : p.2 ≤ q.2) {n : Nat} (hn : p.2 ≤ n) (h : p.1 / 2 ^ (32 - n) = q.1 / 2 ^ (32 - n)) : Cov p q := by
  refine ⟨hle, (has_fst hp.2.1 q.1).1 ?_⟩
  obtain ⟨d, hd⟩ : ∃ d, 32 - p.2 = (32 - n) + d := ⟨(32 - p.2) - (32 - n), by omega⟩
  have e : fst q.1 p.2 = fst p.1 p.2 := by
    unfold fst
    rw [hd, Nat.pow_add, ← Nat.div_div_eq_div_mul, ← Nat.div_div_eq_div_mul, h]
  rw [e]
  exact fst_eq.2 hp.2.1
theorem com_is : Com comF := by
  intro p q hp hq h1 h2
  have hne : p.1 ≠ q.1 := fun e => by
    rcases Nat.le_total p.2 q.2 with h | h
    · exact h1 ⟨h, by omega, by have := sz_pos p.2; omega⟩
    · exact h2 ⟨h, by omega, by have := sz_pos q.2; omega⟩
  have lp := vld_lt hp
  have lq := vld_lt hq
  have hx : p.1 ^^^ q.1 ≠ 0 := fun e => hne (xor_zero e)
  have hx32 : p.1 ^^^ q.1 < 2 ^ 32 := Nat.xor_lt_two_pow lp lq
  have hc : clz (p.1 ^^^ q.1) = 31 - Nat.log2 (p.1 ^^^ q.1) := if_neg hx
  have k1 := Nat.log2_self_le hx
  have k2 := Nat.lt_log2_self (n := p.1 ^^^ q.1)
  have k3 : Nat.log2 (p.1 ^^^ q.1) < 32 := (Nat.log2_lt hx).2 hx32
  unfold comF
  rw [hc]
  generalize Nat.log2 (p.1 ^^^ q.1) = k at *
  have hi := xor_high k2
  have hb := xor_bit k1 k2
  rw [show 32 - (31 - k) = k + 1 by omega]
  have n1 : 31 - k < p.2 := by
    rcases Nat.lt_or_ge (31 - k) p.2 with h | h
    · exact h
    · exfalso
      rcases Nat.le_total p.2 q.2 with hle | hle
      · exact h1 (cov_same_bits hp hle h (by rw [show 32 - (31 - k) = k + 1 by omega]; exact hi))
      · exact h2 (cov_same_bits hq hle (n := 31 - k) (by omega) (by rw [show 32 - (31 - k) = k + 1 by omega]; exact hi.symm))
  have n2 : 31 - k < q.2 := by
    rcases Nat.lt_or_ge (31 - k) q.2 with h | h
    · exact h
    · exfalso
      rcases Nat.le_total p.2 q.2 with hle | hle
      · exact h1 (cov_same_bits hp hle (n := 31 - k) (by omega) (by rw [show 32 - (31 - k) = k + 1 by omega]; exact hi))
      · exact h2 (cov_same_bits hq hle h (by rw [show 32 - (31 - k) = k + 1 by omega]; exact hi.symm))
  have ef : p.1 / 2 ^ (k + 1) * 2 ^ (k + 1) = fst p.1 (31 - k) := by unfold fst; rw [show 32 - (31 - k) = k + 1 by omega]
  have eg : fst q.1 (31 - k) = fst p.1 (31 - k) := by unfold fst; rw [show 32 - (31 - k) = k + 1 by omega, hi]
  have hv : Vld (fst p.1 (31 - k), 31 - k) := (vld_iff (Nat.lt_of_le_of_lt (fst_le _ _) lp)).2 ⟨by omega, by rw [fst_fst _ _ _ (Nat.le_refl _)]⟩
  rw [ef]
  have c1 : Cov (fst p.1 (31 - k), 31 - k) p := ⟨Nat.le_of_lt n1, (has_fst hv.2.1 p.1).1 rfl⟩
  have c2 : Cov (fst p.1 (31 - k), 31 - k) q := ⟨Nat.le_of_lt n2, (has_fst hv.2.1 q.1).1 eg⟩
  have d : ∀ x : Nat, dir x (31 - k) = decide (x / 2 ^ k % 2 = 1) := fun x => by
    unfold dir
    rw [show 31 - (31 - k) = k by omega, decide_eq_true (show 31 - k < 32 by omega), Bool.and_true]
  refine ⟨hv, by show 31 - k < 32; omega, ?_, ?_, ?_⟩
  · rintro b rfl
    exact (cov_dir hv hp c1 (fun e => by have := congrArg Prod.snd e; simp only at this; omega)).2
  · rintro b rfl
    exact (cov_dir hv hq c2 (fun e => by have := congrArg Prod.snd e; simp only at this; omega)).2
  · show dir p.1 (31 - k) ≠ dir q.1 (31 - k)
    rw [d, d]
    intro e
    exact hb (decide_eq_decide.1 e)
end Go.Proofs.Ytamkegnnlbefdaa
