/- The number of bits, as the reference counts it. -/
import Derived.Test.YtdbhlmifioccgaaDoorRefE
namespace Go.Proofs.YtdbhlmifioccgaaDoor
open Go.RowKit

def bl (k : Nat) : Nat := if k = 0 then 0 else Nat.log2 k + 1
theorem bl_zero : bl 0 = 0 := rfl
theorem bl_half (k : Nat) (h : 0 < k) : bl k = bl (k / 2) + 1 := by
  unfold bl
  rw [if_neg (by omega)]
  rw [Nat.log2_def]
  by_cases h2 : 2 ≤ k
  · rw [if_pos h2, if_neg (by omega)]
  · rw [if_neg h2, if_pos (by omega)]
theorem bl_shift : ∀ (j k : Nat), 2 ^ j ≤ k → bl k = j + bl (k / 2 ^ j)
  | 0, k, _ => by simp
  | j + 1, k, h => by
    have hp : 0 < 2 ^ j := Nat.pow_pos (by omega)
    have h1 : 2 ^ j ≤ k / 2 := by rw [Nat.le_div_iff_mul_le (by omega)]; rw [Nat.pow_succ] at h; omega
    rw [bl_half k (by rw [Nat.pow_succ] at h; omega), bl_shift j (k / 2) h1, Nat.div_div_eq_div_mul, show 2 * 2 ^ j = 2 ^ (j + 1) by rw [Nat.pow_succ, Nat.mul_comm]]
    omega
theorem bitLen_bl : ∀ (f x : Nat), x ≤ f → x < 18446744073709551616 → Lib.bitLen x = bl x
  | 0, x, h, _ => by obtain rfl : x = 0 := by omega
                     rfl
  | f + 1, x, h, hx => by
    by_cases h0 : x = 0
    · subst h0; rfl
    · rw [Lib.bitLen_half x h0 hx, bl_half x (by omega), bitLen_bl f (x / 2) (by omega) (by omega)]
      omega
theorem bitsOf_small {k : Nat} (h0 : 0 < k) (h : k < 4294967296) : bitsOf k = bl k := by
  unfold bitsOf
  rw [digs_one h0 h]
  show (1 - 1) * 32 + Lib.bitLen k = bl k
  rw [bitLen_bl k k (Nat.le_refl _) (by omega)]
  omega
theorem bitsOf_bl : ∀ (f k : Nat), k ≤ f → 0 < k → bitsOf k = bl k
  | 0, k, h, h0 => by omega
  | f + 1, k, h, h0 => by
    by_cases hs : k < 4294967296
    · exact bitsOf_small h0 hs
    · have hr := bitsOf_bl f (k / 4294967296) (by omega) (by omega)
      have hp := digs_pos 4294967296 k (by omega) h0
      have hq : 0 < (digs 4294967296 (k / 4294967296)).length := by rw [digs_pos 4294967296 (k / 4294967296) (by omega) (by omega)]; simp
      rw [bl_shift 32 k (by show (4294967296 : Nat) ≤ k; omega), show (2 : Nat) ^ 32 = 4294967296 from rfl, ← hr]
      unfold bitsOf
      rw [hp]
      obtain ⟨d, ds, hd⟩ : ∃ d ds, digs 4294967296 (k / 4294967296) = d :: ds := by
        cases hc : digs 4294967296 (k / 4294967296) with
        | nil => rw [hc] at hq; simp at hq
        | cons d ds => exact ⟨d, ds, rfl⟩
      rw [hd]
      simp only [List.length_cons, List.getLast?_cons_cons]
      omega
theorem bits_any (k : Nat) : (if k = 0 then 0 else (bitsOf k : Int)) = (bl k : Int) := by
  by_cases h : k = 0
  · subst h; rfl
  · rw [if_neg h, bitsOf_bl k k (Nat.le_refl _) (by omega)]
end Go.Proofs.YtdbhlmifioccgaaDoor
