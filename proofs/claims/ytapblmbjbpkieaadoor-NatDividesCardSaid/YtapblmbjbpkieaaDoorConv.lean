/- Plain facts: the product of numbers as sums of products of their digits. -/
import Derived.Test.YtapblmbjbpkieaaDoorSub
namespace Go.Proofs.YtapblmbjbpkieaaDoor

/-- The sum of the first i products whose places add up to k. -/
def psum (xs ys : List Nat) (k : Nat) : Nat → Nat
  | 0 => 0
  | i + 1 => psum xs ys k i + xs.getD i 0 * ys.getD (k - i) 0
def conv (xs ys : List Nat) (k : Nat) : Nat := psum xs ys k (k + 1)
theorem psum_more (xs ys : List Nat) (k i : Nat) (h : xs.length ≤ i) : ∀ n, psum xs ys k (i + n) = psum xs ys k i
  | 0 => rfl
  | n + 1 => by
    show psum xs ys k (i + n) + xs.getD (i + n) 0 * _ = _
    rw [psum_more xs ys k i h n]
    simp [List.getD, show xs.length ≤ i + n by omega]
theorem conv_at (xs ys : List Nat) (k i : Nat) (hi : i ≤ k + 1) (h : i = k + 1 ∨ xs.length ≤ i) : psum xs ys k i = conv xs ys k := by
  rcases h with rfl | h
  · rfl
  · obtain ⟨n, hn⟩ : ∃ n, k + 1 = i + n := ⟨k + 1 - i, by omega⟩
    unfold conv
    rw [hn, psum_more xs ys k i h n]
theorem psum_cons (x : Nat) (xs ys : List Nat) (k : Nat) : ∀ i, i ≤ k + 1 → psum (x :: xs) ys (k + 1) (i + 1) = x * ys.getD (k + 1) 0 + psum xs ys k i
  | 0, _ => by simp [psum]
  | i + 1, h => by
    show psum (x :: xs) ys (k + 1) (i + 1) + (x :: xs).getD (i + 1) 0 * ys.getD (k + 1 - (i + 1)) 0 = _
    rw [psum_cons x xs ys k i (by omega), show k + 1 - (i + 1) = k - i by omega]
    simp [psum, List.getD, Nat.add_assoc]
theorem conv_zero (x : Nat) (xs ys : List Nat) : conv (x :: xs) ys 0 = x * ys.getD 0 0 := by simp [conv, psum, List.getD]
theorem conv_succ (x : Nat) (xs ys : List Nat) (k : Nat) : conv (x :: xs) ys (k + 1) = x * ys.getD (k + 1) 0 + conv xs ys k := psum_cons x xs ys k (k + 1) (Nat.le_refl _)
theorem seg_cons (f : Nat → Nat) (n : Nat) : seg f 0 (n + 1) = f 0 :: seg (fun j => f (j + 1)) 0 n := by
  simp [seg, List.range_succ_eq_map, Function.comp_def]
theorem val_add (b : Nat) (f g : Nat → Nat) : ∀ n, val b (seg (fun j => f j + g j) 0 n) = val b (seg f 0 n) + val b (seg g 0 n)
  | 0 => rfl
  | n + 1 => by
    rw [seg_succ, val_snoc, seg_succ, val_snoc, seg_succ, val_snoc, val_add b f g n, seg_len, seg_len, seg_len]
    simp only [Nat.mul_add]
    omega
theorem val_times (b x : Nat) (f : Nat → Nat) : ∀ n, val b (seg (fun j => x * f j) 0 n) = x * val b (seg f 0 n)
  | 0 => rfl
  | n + 1 => by
    rw [seg_succ, val_snoc, seg_succ, val_snoc, val_times b x f n, seg_len, seg_len, Nat.mul_add, Nat.mul_left_comm]
theorem seg_getD_any (b : Nat) (ds : List Nat) (i : Nat) (h : ds.length ≤ i) : val b (seg (fun j => ds.getD j 0) 0 i) = val b ds := by
  obtain ⟨n, rfl⟩ : ∃ n, i = ds.length + n := ⟨i - ds.length, by omega⟩
  rw [val_seg_split, seg_getD, val_zeros _ _ _ _ (fun j _ => by simp [List.getD])]
  simp
theorem conv_val (b : Nat) (ys : List Nat) : ∀ xs : List Nat, val b (seg (conv xs ys) 0 (xs.length + ys.length)) = val b xs * val b ys
  | [] => by
    have h0 : ∀ k i, psum [] ys k i = 0 := by
      intro k i
      induction i with
      | zero => rfl
      | succ i ih => rw [psum, ih]; simp [List.getD]
    rw [val_zeros b (conv [] ys) _ _ (fun j _ => h0 _ _)]
    simp [val]
  | x :: xs => by
    have e : (x :: xs).length + ys.length = (xs.length + ys.length) + 1 := by simp; omega
    rw [e]
    have h1 : seg (conv (x :: xs) ys) 0 (xs.length + ys.length + 1) = seg (fun j => x * ys.getD j 0 + (if j = 0 then 0 else conv xs ys (j - 1))) 0 (xs.length + ys.length + 1) := seg_same fun j _ => by
      rw [Nat.zero_add]
      cases j with
      | zero => rw [conv_zero]; simp
      | succ j => rw [conv_succ]; simp
    rw [h1, val_add b (fun j => x * ys.getD j 0) (fun j => if j = 0 then 0 else conv xs ys (j - 1)), val_times, seg_getD_any b ys _ (by omega), seg_cons]
    have h2 : seg (fun j => (fun j => if j = 0 then 0 else conv xs ys (j - 1)) (j + 1)) 0 (xs.length + ys.length) = seg (conv xs ys) 0 (xs.length + ys.length) := seg_same fun j _ => by simp
    rw [h2]
    show x * val b ys + ((if (0:Nat) = 0 then 0 else _) + b * val b (seg (conv xs ys) 0 (xs.length + ys.length))) = (x + b * val b xs) * val b ys
    rw [conv_val b ys xs, if_pos rfl, Nat.add_mul, Nat.zero_add, Nat.mul_assoc]
theorem psum_le (xs ys : List Nat) (k B : Nat) (hx : ∀ d ∈ xs, d < B) (hy : ∀ d ∈ ys, d < B) (hB : 0 < B) : ∀ i, psum xs ys k i ≤ i * ((B - 1) * (B - 1))
  | 0 => by simp [psum]
  | i + 1 => by
    have h1 := psum_le xs ys k B hx hy hB i
    have g : ∀ (l : List Nat) (j : Nat), (∀ d ∈ l, d < B) → l.getD j 0 ≤ B - 1 := by
      intro l j hl
      by_cases h : j < l.length
      · have := hl (l[j]) (List.getElem_mem h)
        simp [List.getD, h]
        omega
      · simp [List.getD, h]
    have h2 : xs.getD i 0 * ys.getD (k - i) 0 ≤ (B - 1) * (B - 1) := Nat.mul_le_mul (g xs i hx) (g ys _ hy)
    show psum xs ys k i + _ ≤ _
    rw [Nat.add_mul, Nat.one_mul]
    omega
theorem psum_mono (xs ys : List Nat) (k i n : Nat) : psum xs ys k i ≤ psum xs ys k (i + n) := by
  induction n with
  | zero => exact Nat.le_refl _
  | succ n ih => exact Nat.le_trans ih (Nat.le_add_right _ _)
end Go.Proofs.YtapblmbjbpkieaaDoor
