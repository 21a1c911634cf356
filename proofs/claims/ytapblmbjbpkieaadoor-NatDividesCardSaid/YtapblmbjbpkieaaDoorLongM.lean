/- Plain facts: long division, the whole of it. -/
import Derived.Test.YtapblmbjbpkieaaDoorShr
namespace Go.Proofs.YtapblmbjbpkieaaDoor

/-- At the head of the loop: k digits of the quotient are still to come. r: the digits of what is left; q: the digits of the quotient; V: the divisor; X: the dividend. -/
def LongV (b n L V X : Nat) (r q : Nat → Nat) (k : Nat) : Prop :=
  (∀ j, r j < b) ∧ (∀ j, q j < b) ∧ (∀ j, k + n ≤ j → r j = 0) ∧ val b (seg r k n) < V ∧ val b (seg r 0 (k + n)) + V * (b ^ k * val b (seg q k (L - k))) = X
theorem seg_shift (s : Nat → Nat) (k i n : Nat) : seg (fun j => s (k + j)) i n = seg s (k + i) n := by
  unfold seg
  exact List.map_congr_left fun j _ => by show s (k + (i + j)) = s (k + i + j); rw [Nat.add_assoc]
theorem seg_front (s : Nat → Nat) (off n : Nat) : seg s off (n + 1) = s off :: seg s (off + 1) n := by
  unfold seg
  rw [List.range_succ_eq_map, List.map_cons, List.map_map]
  rw [Nat.add_zero]
  refine congrArg _ (List.map_congr_left fun j _ => ?_)
  show s (off + (j + 1)) = s (off + 1 + j)
  rw [show off + (j + 1) = off + 1 + j by omega]
theorem val_cut {b : Nat} (s : Nat → Nat) (k n : Nat) : val b (seg s 0 (k + n)) = val b (seg s 0 k) + b ^ k * val b (seg s k n) := by
  rw [seg_append, val_append, seg_len]
/-- The loop begins: the top digits of the shifted dividend are less than the shifted divisor. -/
theorem long_init {b n L V X m S y : Nat} {r : Nat → Nat} (hb : 2 ≤ b) (hr : ∀ j, r j < b) (hz : ∀ j, m < j → r j = 0) (hm : m + 1 = L + n) (h1 : 1 ≤ n) (hX : val b (seg r 0 (m + 1)) = X) (hx : y < b ^ m) (hXs : X = y * S) (hV : b ^ (n - 1) * S ≤ V) (hS : 0 < S) : LongV b n L V X r (fun _ => 0) L := by
  refine ⟨hr, fun _ => by show 0 < b; omega, fun j hj => hz j (by omega), ?_, ?_⟩
  · refine Nat.lt_of_lt_of_le ?_ hV
    have e : val b (seg r 0 (L + n)) = y * S := by rw [← hm, hX, hXs]
    rw [val_cut] at e
    have h3 : y * S < b ^ m * S := Nat.mul_lt_mul_of_pos_right hx hS
    have h4 : b ^ m = b ^ L * b ^ (n - 1) := by rw [← Nat.pow_add]; congr 1; omega
    rw [h4, Nat.mul_assoc] at h3
    exact Nat.lt_of_mul_lt_mul_left (Nat.lt_of_le_of_lt (by omega) h3)
  · rw [Nat.sub_self, ← hm, hX]
    simp [seg, val]
theorem long_next {b n L V X k p q1 : Nat} {r q t : Nat → Nat} (_hb : 2 ≤ b) (hk : k < L) (hVb : V ≤ b ^ n) (h : LongV b n L V X r q (k + 1)) (ht : ∀ j, t j < b) (hq1 : q1 < b) (hp : p = val b (seg r k (n + 1))) (hD : val b (seg t 0 (n + 1)) + q1 * V = p ∧ val b (seg t 0 (n + 1)) < V) :
    LongV b n L V X (fun j => if k ≤ j ∧ j < k + (n + 1) then t (j - k) else r j) (fun j => if j = k then q1 else q j) k := by
  obtain ⟨hr, hq, hz, hlt, hX⟩ := h
  obtain ⟨hD1, hD2⟩ := hD
  have htn : t n = 0 := by
    rw [seg_succ, val_snoc, seg_len, Nat.zero_add] at hD2
    rcases Nat.eq_zero_or_pos (t n) with h | h
    · exact h
    · have : b ^ n * 1 ≤ b ^ n * t n := Nat.mul_le_mul_left _ h
      omega
  have e0 : val b (seg t 0 (n + 1)) = val b (seg t 0 n) := by rw [seg_succ, val_snoc, seg_len, Nat.zero_add, htn]; omega
  have e1 : seg (fun j => if k ≤ j ∧ j < k + (n + 1) then t (j - k) else r j) k n = seg t 0 n := by
    unfold seg
    refine List.map_congr_left fun j hj => ?_
    have hj := List.mem_range.1 hj
    show (if k ≤ k + j ∧ k + j < k + (n + 1) then t (k + j - k) else r (k + j)) = t (0 + j)
    rw [if_pos (by omega), show k + j - k = 0 + j by omega]
  have e2 : seg (fun j => if k ≤ j ∧ j < k + (n + 1) then t (j - k) else r j) 0 k = seg r 0 k := seg_same fun j hj => by
    show (if k ≤ 0 + j ∧ 0 + j < k + (n + 1) then t (0 + j - k) else r (0 + j)) = _
    rw [if_neg (by omega)]
  refine ⟨fun j => ?_, fun j => ?_, fun j hj => ?_, ?_, ?_⟩
  · show (if k ≤ j ∧ j < k + (n + 1) then t (j - k) else r j) < b
    split
    · exact ht _
    · exact hr j
  · show (if j = k then q1 else q j) < b
    split
    · exact hq1
    · exact hq j
  · show (if k ≤ j ∧ j < k + (n + 1) then t (j - k) else r j) = 0
    split
    · rw [show j - k = n by omega]; exact htn
    · exact hz j (by omega)
  · rw [e1, ← e0]; exact hD2
  · obtain ⟨d, hd⟩ : ∃ d, L - k = d + 1 := ⟨L - k - 1, by omega⟩
    have hd2 : L - (k + 1) = d := by omega
    rw [hd2] at hX
    rw [hd, val_cut, e1, e2, ← e0, seg_front (fun j => if j = k then q1 else q j), if_pos rfl]
    have e3 : seg (fun j => if j = k then q1 else q j) (k + 1) d = seg q (k + 1) d := by
      unfold seg
      refine List.map_congr_left fun j _ => ?_
      show (if k + 1 + j = k then q1 else q (k + 1 + j)) = _
      rw [if_neg (by omega)]
    rw [e3]
    show val b (seg r 0 k) + b ^ k * val b (seg t 0 (n + 1)) + V * (b ^ k * (q1 + b * val b (seg q (k + 1) d))) = X
    rw [show k + 1 + n = k + (n + 1) by omega, val_cut, ← hp, ← hD1] at hX
    rw [← hX, Nat.pow_succ]
    generalize val b (seg q (k + 1) d) = Y
    generalize val b (seg t 0 (n + 1)) = T
    generalize b ^ k = K
    rw [Nat.mul_add, Nat.mul_add, Nat.mul_add, ← Nat.mul_assoc K b Y]
    have : V * (K * q1) = K * (q1 * V) := by rw [Nat.mul_left_comm, Nat.mul_comm q1 V]
    omega
/-- The end: quotient and remainder of the shifted numbers, and of the numbers. -/
theorem long_end {b n L v V X x S : Nat} {r q : Nat → Nat} (h : LongV b n L V X r q 0) (hS : 0 < S) (hV : V = v * S) (hX : X = x * S) : val b (seg q 0 L) = x / v ∧ val b (seg r 0 n) / S = x % v ∧ val b (seg r 0 n) = (x % v) * S := by
  obtain ⟨-, -, -, hlt, he⟩ := h
  rw [Nat.zero_add, Nat.pow_zero, Nat.one_mul, Nat.sub_zero] at he
  subst hV hX
  have hv : 0 < v := by
    rcases Nat.eq_zero_or_pos v with rfl | h
    · omega
    · exact h
  have h0 : 0 < v * S := Nat.mul_pos hv hS
  have hq : val b (seg q 0 L) = x / v := by
    rw [← Nat.mul_div_mul_right x v hS, ← he, Nat.add_mul_div_left _ _ h0, Nat.div_eq_of_lt hlt, Nat.zero_add]
  have hr : val b (seg r 0 n) = (x % v) * S := by
    rw [← Nat.mul_mod_mul_right, ← he, Nat.add_mul_mod_self_left, Nat.mod_eq_of_lt hlt]
  refine ⟨hq, ?_, hr⟩
  rw [hr, Nat.mul_div_cancel _ hS]
/-- What shiftRight does to one digit, and to all of them. -/
theorem shr_digit {s d e : Nat} (hs : s ≤ 31) : shrD s d e * 2 ^ s + d % 2 ^ s = d + 4294967296 * (e % 2 ^ s) := by
  have hsp := pow_split (s := s) (by omega)
  have hsp2 : 2 ^ s * 2 ^ (32 - s) = 4294967296 := by rw [Nat.mul_comm]; exact hsp
  have hlo : e * 2 ^ (32 - s) % 4294967296 = (e % 2 ^ s) * 2 ^ (32 - s) := by
    rw [← hsp2, Nat.mul_mod_mul_right]
  unfold shrD
  rw [hlo, Nat.add_mul, Nat.mul_assoc, hsp]
  have := Nat.div_add_mod d (2 ^ s)
  rw [Nat.mul_comm] at this
  omega
theorem shr_val {s : Nat} (hs : s ≤ 31) (f : Nat → Nat) : ∀ n, val 4294967296 (seg (fun i => shrD s (f i) (f (i + 1))) 0 n) * 2 ^ s + f 0 % 2 ^ s = val 4294967296 (seg f 0 n) + 4294967296 ^ n * (f n % 2 ^ s)
  | 0 => by simp [seg, val]
  | n + 1 => by
    have h := shr_val hs f n
    have h2 := shr_digit (d := f n) (e := f (n + 1)) hs
    have h3 : 4294967296 ^ n * (shrD s (f n) (f (n + 1)) * 2 ^ s + f n % 2 ^ s) = 4294967296 ^ n * (f n + 4294967296 * (f (n + 1) % 2 ^ s)) := by rw [h2]
    rw [seg_succ, val_snoc, seg_len, Nat.zero_add, seg_succ, val_snoc, seg_len, Nat.zero_add, Nat.pow_succ, Nat.add_mul]
    rw [Nat.mul_add, Nat.mul_add, ← Nat.mul_assoc, ← Nat.mul_assoc] at h3
    generalize (4294967296 : Nat) ^ n = P at *
    omega
theorem shr_end {s n R : Nat} {f : Nat → Nat} (hs : s ≤ 31) (hn : f n = 0) (h : val 4294967296 (seg f 0 n) = R * 2 ^ s) : val 4294967296 (seg (fun i => shrD s (f i) (f (i + 1))) 0 n) = R := by
  have h1 := shr_val hs f n
  have hp : 0 < 2 ^ s := Nat.pow_pos (by omega)
  rw [hn, Nat.zero_mod, Nat.mul_zero, Nat.add_zero, h] at h1
  have h2 : f 0 % 2 ^ s < 2 ^ s := Nat.mod_lt _ hp
  generalize f 0 % 2 ^ s = c at *
  generalize 2 ^ s = S at *
  generalize val 4294967296 (seg (fun i => shrD s (f i) (f (i + 1))) 0 n) = T at *
  rcases Nat.lt_trichotomy T R with h3 | h3 | h3
  · have : (T + 1) * S ≤ R * S := Nat.mul_le_mul_right _ h3
    rw [Nat.add_mul] at this
    omega
  · exact h3
  · have : (R + 1) * S ≤ T * S := Nat.mul_le_mul_right _ h3
    rw [Nat.add_mul] at this
    omega
/-- The shift that sets the highest bit. -/
theorem log_shift {top : Nat} (h0 : 0 < top) (h1 : top < 4294967296) : Nat.log2 top ≤ 31 ∧ 2147483648 ≤ top * 2 ^ (31 - Nat.log2 top) ∧ (top + 1) * 2 ^ (31 - Nat.log2 top) ≤ 4294967296 := by
  have hl : 2 ^ Nat.log2 top ≤ top := Nat.log2_self_le (by omega)
  have hu : top < 2 ^ (Nat.log2 top + 1) := Nat.lt_log2_self
  obtain ⟨b, hb⟩ : ∃ b, Nat.log2 top = b := ⟨_, rfl⟩
  rw [hb] at hl hu ⊢
  have hb31 : b ≤ 31 := by
    rcases Nat.lt_or_ge 31 b with h | h
    · have h3 : (2 : Nat) ^ (31 + 1) ≤ 2 ^ b := Nat.pow_le_pow_right (by omega) h
      have e : (2 : Nat) ^ (31 + 1) = 4294967296 := by decide
      rw [e] at h3
      exact absurd (Nat.lt_of_le_of_lt (Nat.le_trans h3 hl) h1) (Nat.lt_irrefl _)
    · exact h
  have e1 : (2 : Nat) ^ b * 2 ^ (31 - b) = 2147483648 := by rw [← Nat.pow_add, show b + (31 - b) = 31 by omega]
  have e2 : (2 : Nat) ^ (b + 1) * 2 ^ (31 - b) = 4294967296 := by rw [← Nat.pow_add, show b + 1 + (31 - b) = 32 by omega]
  refine ⟨hb31, ?_, ?_⟩
  · rw [← e1]; exact Nat.mul_le_mul_right _ hl
  · rw [← e2]; exact Nat.mul_le_mul_right _ hu
theorem top_shift {top : Nat} (h0 : 0 < top) (h1 : top < 4294967296) : ∃ s : Nat, s ≤ 31 ∧ (32 - (Lib.bitLen ((top : Nat) : Int).toNat : Int)) = (s : Int) ∧ 2147483648 ≤ top * 2 ^ s ∧ (top + 1) * 2 ^ s ≤ 4294967296 := by
  obtain ⟨a, b, c⟩ := log_shift h0 h1
  refine ⟨31 - Nat.log2 top, by omega, ?_, b, c⟩
  rw [Int.toNat_natCast, bitLen_bl top top (Nat.le_refl _) (by omega)]
  unfold bl
  rw [if_neg (by omega)]
  omega
theorem long_div_at {B H P top v S d1 d0 low : Nat} (h : low + P * d0 + P * B * d1 = v * S) (hlow : low < P) (hlo : top * P ≤ v) (hhi : v < (top + 1) * P) (hS : 0 < S) (hS1 : H ≤ top * S) (hS2 : (top + 1) * S ≤ B) : d1 = 0 ∧ H ≤ d0 ∧ low + P * d0 = v * S := by
  have a1 : v * S < (top + 1) * P * S := Nat.mul_lt_mul_of_pos_right hhi hS
  have a2 : top * P * S ≤ v * S := Nat.mul_le_mul_right _ hlo
  have a3 : P * ((top + 1) * S) ≤ P * B := Nat.mul_le_mul_left _ hS2
  have a4 : P * H ≤ P * (top * S) := Nat.mul_le_mul_left _ hS1
  rw [Nat.mul_comm _ P, Nat.mul_assoc] at a1 a2
  have hd1 : d1 = 0 := by
    rcases Nat.eq_zero_or_pos d1 with h1 | h1
    · exact h1
    · have : P * B * 1 ≤ P * B * d1 := Nat.mul_le_mul_left _ h1
      omega
  subst hd1
  refine ⟨rfl, ?_, by omega⟩
  rcases Nat.lt_or_ge d0 H with h1 | h1
  · have : P * (d0 + 1) ≤ P * H := Nat.mul_le_mul_left _ h1
    rw [Nat.mul_add] at this
    omega
  · exact h1
/-- The shifted divisor: its top digit has its highest bit set, and nothing is carried out of it. -/
theorem long_div {b H n v S top : Nat} {dv : Nat → Nat} (h1 : 1 ≤ n) (hd : ∀ j, dv j < b) (hv : val b (seg dv 0 (n + 1)) = v * S) (hlo : top * b ^ (n - 1) ≤ v) (hhi : v < (top + 1) * b ^ (n - 1)) (hS : 0 < S) (hS1 : H ≤ top * S) (hS2 : (top + 1) * S ≤ b) :
    dv n = 0 ∧ H ≤ dv (n - 1) ∧ val b (seg dv 0 n) = v * S := by
  obtain ⟨m, rfl⟩ : ∃ m, n = m + 1 := ⟨n - 1, by omega⟩
  rw [Nat.add_sub_cancel] at *
  rw [seg_succ, val_snoc, seg_len, Nat.zero_add, seg_succ, val_snoc, seg_len, Nat.zero_add, Nat.pow_succ] at hv
  have hlow : val b (seg dv 0 m) < b ^ m := by
    have := val_lt (b := b) (seg dv 0 m) (fun d hdd => by
      obtain ⟨j, _, rfl⟩ := List.mem_map.1 hdd
      exact hd _)
    rwa [seg_len] at this
  rw [seg_succ, val_snoc, seg_len, Nat.zero_add]
  exact long_div_at hv hlow hlo hhi hS hS1 hS2
end Go.Proofs.YtapblmbjbpkieaaDoor
