/- Plain facts about the bits and the texts of prefixes. -/
import Derived.Test.YtamkegnnlbefdaaPfxM
import Derived.Lib.IndexMore
import Derived.Lib.Split
import Derived.Lib.AtoiAll
import Derived.Lib.ItoaNum
namespace Go.Proofs.Ytamkegnnlbefdaa
open Lib
theorem index_mid : ∀ (A B : List UInt8) (c : UInt8), (∀ x ∈ A, x ≠ c) → index (A ++ c :: B) [c] = A.length
  | [], B, c, _ => by simp [index]
  | a :: A, B, c, h => by
    have ha : a ≠ c := h a (by simp)
    have ih := index_mid A B c (fun x hx => h x (by simp [hx]))
    rw [List.cons_append, index, ih]
    have : List.isPrefixOf [c] (a :: (A ++ c :: B)) = false := by simp [List.isPrefixOf, Ne.symm ha]
    rw [this]
    have : ((A.length : Int) == -1) = false := by simp
    simp [this]
theorem index_no : ∀ (A : List UInt8) (c : UInt8), (∀ x ∈ A, x ≠ c) → index A [c] = -1
  | [], c, _ => by simp [index]
  | a :: A, c, h => by
    have ha : a ≠ c := h a (by simp)
    have ih := index_no A c (fun x hx => h x (by simp [hx]))
    rw [index, ih]
    have : List.isPrefixOf [c] (a :: A) = false := by simp [List.isPrefixOf, Ne.symm ha]
    rw [this]
    simp
/-- Either the byte occurs: then what lies around its first place; or it doesn't. -/
theorem around : ∀ (s : List UInt8) (c : UInt8), (∃ A B, s = A ++ c :: B ∧ ∀ x ∈ A, x ≠ c) ∨ ∀ x ∈ s, x ≠ c
  | [], c => .inr (by simp)
  | a :: s, c => by
    by_cases h : a = c
    · subst h; exact .inl ⟨[], s, rfl, by simp⟩
    · rcases around s c with ⟨A, B, rfl, hA⟩ | hn
      · exact .inl ⟨a :: A, B, rfl, fun x hx => by rcases List.mem_cons.1 hx with rfl | hx; exact h; exact hA x hx⟩
      · exact .inr fun x hx => by rcases List.mem_cons.1 hx with rfl | hx; exact h; exact hn x hx
theorem cut_mid {A B : List UInt8} {c : UInt8} (h : ∀ x ∈ A, x ≠ c) : cut (A ++ c :: B) [c] = (A, B, true) := by
  unfold cut
  rw [index_mid A B c h, if_pos (by omega)]
  simp
theorem cut_no {A : List UInt8} {c : UInt8} (h : ∀ x ∈ A, x ≠ c) : cut A [c] = (A, [], false) := by
  unfold cut
  rw [index_no A c h, if_neg (by omega)]
theorem splitK_mid {A B : List UInt8} {c : UInt8} (k : Nat) (h : ∀ x ∈ A, x ≠ c) : splitK [c] 0 (k + 1) (A ++ c :: B) = A :: splitK [c] 0 k B := by
  rw [splitK, index_mid A B c h]
  have : ((A.length : Int) == -1) = false := by simp
  rw [this]
  simp
theorem splitK_no {A : List UInt8} {c : UInt8} (k : Nat) (h : ∀ x ∈ A, x ≠ c) : splitK [c] 0 k A = [A] := by
  cases k with
  | zero => rfl
  | succ k => rw [splitK, index_no A c h]; rfl
theorem splitK_zero {A : List UInt8} {c : UInt8} : splitK [c] 0 0 A = [A] := rfl
theorem split4 {a b c d : List UInt8} (ha : ∀ x ∈ a, x ≠ 46) (hb : ∀ x ∈ b, x ≠ 46) (hc : ∀ x ∈ c, x ≠ 46) : splitN (a ++ 46 :: (b ++ 46 :: (c ++ 46 :: d))) [46] 4 = [a, b, c, d] := by
  unfold splitN
  rw [show min 4 ((a ++ 46 :: (b ++ 46 :: (c ++ 46 :: d))).length + 1) - 1 = 3 by simp; omega]
  rw [splitK_mid 2 ha, splitK_mid 1 hb, splitK_mid 0 hc, splitK_zero]
theorem split4_inv {s : List UInt8} {p : List (List UInt8)} (h : splitN s [46] 4 = p) (hp : p.length = 4) : ∃ a b c d, p = [a, b, c, d] ∧ s = a ++ 46 :: (b ++ 46 :: (c ++ 46 :: d)) := by
  subst h
  unfold splitN at *
  generalize hk : min 4 (s.length + 1) - 1 = k at hp ⊢
  have hk3 : k ≤ 3 := by omega
  clear hk
  rcases around s 46 with ⟨A, B, rfl, hA⟩ | hn
  · cases k with
    | zero => simp [splitK] at hp
    | succ k =>
      rw [splitK_mid k hA] at hp ⊢
      rcases around B 46 with ⟨A2, B2, rfl, hA2⟩ | hn
      · cases k with
        | zero => simp [splitK] at hp
        | succ k =>
          rw [splitK_mid k hA2] at hp ⊢
          rcases around B2 46 with ⟨A3, B3, rfl, hA3⟩ | hn
          · cases k with
            | zero => simp [splitK] at hp
            | succ k =>
              obtain rfl : k = 0 := by omega
              rw [splitK_mid 0 hA3]
              exact ⟨A, A2, A3, B3, rfl, rfl⟩
          · rw [splitK_no k hn] at hp; simp at hp
      · rw [splitK_no k hn] at hp; simp at hp
  · rw [splitK_no k hn] at hp; simp at hp

/-- The decimal digits of a number below 1000, in closed form. -/
def dd (n : Nat) : List UInt8 :=
  if n < 10 then [UInt8.ofNat (48 + n)] else if n < 100 then [UInt8.ofNat (48 + n / 10), UInt8.ofNat (48 + n % 10)] else [UInt8.ofNat (48 + n / 100), UInt8.ofNat (48 + n / 10 % 10), UInt8.ofNat (48 + n % 10)]
theorem dd_eq {n : Nat} (h : n < 1000) : decDigits n = dd n := by
  unfold dd
  split
  · rename_i h1; exact decDigits_one h1
  · rename_i h1
    split
    · rename_i h2; exact decDigits_two h1 h2
    · rename_i h2
      rw [decDigits, dif_neg h1, decDigits_two (by omega) (by omega)]
      simp [Nat.div_div_eq_div_mul]
theorem dd_facts : ∀ n : Nat, n < 256 → atoiAll (dd n) = .ok (n : Int) ∧ (∀ x ∈ dd n, 48 ≤ x.toNat ∧ x.toNat ≤ 57) ∧ (dd n).length ≤ 3 ∧ 1 ≤ (dd n).length := by decide +kernel
theorem dd_ne {n : Nat} (h : n < 256) : ∀ x ∈ dd n, x ≠ 46 ∧ x ≠ 47 := fun x hx => by
  have := (dd_facts n h).2.1 x hx
  exact ⟨by rintro rfl; simp at this, by rintro rfl; simp at this⟩
theorem dd_inj {m n : Nat} (hm : m < 256) (hn : n < 256) (h : dd m = dd n) : m = n := by
  have h1 := (dd_facts m hm).1
  have h2 := (dd_facts n hn).1
  rw [h, h2] at h1
  injection h1 with h1
  omega
/-- The number up to g that a list of digits spells. -/
def num (l : List UInt8) (g : Nat) : Option Nat :=
  match atoiAll l with
  | .ok v => if 0 ≤ v ∧ v ≤ g ∧ itoa v = l then some v.toNat else none
  | _ => none
theorem num_some {l : List UInt8} {g n : Nat} (hg : g < 256) : num l g = some n ↔ n ≤ g ∧ dd n = l := by
  unfold num
  constructor
  · intro h
    split at h
    · rename_i v _
      split at h
      · rename_i hv
        injection h with h
        subst h
        refine ⟨by omega, ?_⟩
        rw [← dd_eq (by omega), ← hv.2.2]
        unfold itoa
        rw [if_neg (by omega)]
      · cases h
    · cases h
  · rintro ⟨h1, rfl⟩
    rw [(dd_facts n (by omega)).1]
    have : itoa (n : Int) = dd n := by unfold itoa; rw [if_neg (by omega), ← dd_eq (by omega)]; simp
    simp [this, h1]
def fst (a l : Nat) : Nat := a / 2 ^ (32 - l) * 2 ^ (32 - l)
def msk (l : Nat) : Nat := 4294967296 - 2 ^ (32 - l)
theorem msk_eq (l : Nat) (hl : l ≤ 32) : msk l = (2 ^ l - 1) * 2 ^ (32 - l) := by
  unfold msk
  rw [Nat.sub_mul, ← Nat.pow_add, show l + (32 - l) = 32 by omega]
  simp
theorem and_msk (a l : Nat) (ha : a < 4294967296) (hl : l ≤ 32) : a &&& msk l = fst a l := by
  rw [msk_eq l hl]
  unfold fst
  apply Nat.eq_of_testBit_eq
  intro i
  rw [Nat.testBit_and, Nat.testBit_mul_two_pow, Nat.testBit_mul_two_pow, Nat.testBit_two_pow_sub_one, Nat.testBit_div_two_pow]
  by_cases h : 32 - l ≤ i
  · simp only [h, decide_true, Bool.true_and]
    by_cases h2 : i - (32 - l) < l
    · simp [h2, show i - (32 - l) + (32 - l) = i by omega]
    · have : a.testBit i = false := Nat.testBit_lt_two_pow (Nat.lt_of_lt_of_le ha (show 2 ^ 32 ≤ 2 ^ i from Nat.pow_le_pow_right (by omega) (by omega)))
      simp [h2, this, show i - (32 - l) + (32 - l) = i by omega]
  · simp [h]
theorem fst_fst (a l m : Nat) (h : l ≤ m) : fst (fst a m) l = fst a l := by
  unfold fst
  obtain ⟨d, hd⟩ : ∃ d, 32 - l = (32 - m) + d := ⟨(32 - l) - (32 - m), by omega⟩
  rw [hd, Nat.pow_add, ← Nat.div_div_eq_div_mul, ← Nat.div_div_eq_div_mul, Nat.mul_div_cancel _ (Nat.two_pow_pos _)]
theorem fst_le (a l : Nat) : fst a l ≤ a := Nat.div_mul_le_self _ _
theorem fst_sz (a l : Nat) : fst a l = a / sz l * sz l := rfl
theorem fst_eq {a l : Nat} : fst a l = a ↔ a % sz l = 0 := by
  rw [fst_sz]
  have := Nat.div_add_mod a (sz l)
  rw [Nat.mul_comm] at this
  omega
theorem fst_mod (a l : Nat) : fst a l % sz l = 0 := by rw [fst_sz]; exact Nat.mul_mod_left _ _
/-- An address belongs to a prefix if its first bits are those of the prefix. -/
theorem has_fst {p : Px} (h : p.1 % sz p.2 = 0) (x : Nat) : fst x p.2 = p.1 ↔ Has p x := by
  obtain ⟨n, hn⟩ := of_mod h
  have hs := sz_pos p.2
  have hd := Nat.div_add_mod x (sz p.2)
  have hm := Nat.mod_lt x hs
  rw [fst_sz]
  unfold Has
  constructor
  · intro e
    rw [Nat.mul_comm] at hd
    omega
  · rintro ⟨h1, h2⟩
    have : x / sz p.2 = n := by
      rw [hn] at h1 h2
      apply Nat.div_eq_of_lt_le h1
      rw [Nat.add_mul, Nat.one_mul]; exact h2
    rw [this, hn]
theorem vld_iff {a l : Nat} (ha : a < 4294967296) : Vld (a, l) ↔ l ≤ 32 ∧ fst a l = a := by
  unfold Vld
  simp only
  rw [fst_eq]
  constructor
  · rintro ⟨h1, h2, _⟩; exact ⟨h1, h2⟩
  · rintro ⟨h1, h2⟩
    refine ⟨h1, h2, ?_⟩
    have h3 : ∃ d, 4294967296 = d * sz l := ⟨2 ^ l, by unfold sz; rw [← Nat.pow_add, show l + (32 - l) = 32 by omega]⟩
    obtain ⟨d, hd⟩ := h3
    obtain ⟨n, hn⟩ := of_mod h2
    rw [hd] at ha ⊢
    rw [hn] at ha ⊢
    have := Nat.lt_of_mul_lt_mul_right ha
    calc n * sz l + sz l = (n + 1) * sz l := by rw [Nat.add_mul, Nat.one_mul]
      _ ≤ d * sz l := Nat.mul_le_mul_right _ this
theorem vld_lt {p : Px} (h : Vld p) : p.1 < 4294967296 := by have := h.2.2; have := sz_pos p.2; omega

/-- The text of a prefix. -/
def tx (a l : Nat) : List UInt8 :=
  dd (a / 16777216 % 256) ++ 46 :: (dd (a / 65536 % 256) ++ 46 :: (dd (a / 256 % 256) ++ 46 :: dd (a % 256))) ++ 47 :: dd l
/-- The address whose bytes a list of texts spells, behind acc. -/
def pa (acc : Nat) : List (List UInt8) → Option Nat
  | [] => some acc
  | p :: ps => match num p 255 with
    | some n => pa (acc * 256 % 4294967296 + n) ps
    | none => none
def pAddr (s : List UInt8) : Option Nat := if (splitN s [46] 4).length = 4 then pa 0 (splitN s [46] 4) else none
def pPfx (s : List UInt8) : Option Px :=
  match pAddr (cut s [47]).1, num (cut s [47]).2.1 32 with
  | some a, some l => if Vld (a, l) then some (a, l) else none
  | _, _ => none
theorem pa_cons {acc n : Nat} {p : List UInt8} {ps : List (List UInt8)} (h : num p 255 = some n) : pa acc (p :: ps) = pa (acc * 256 % 4294967296 + n) ps := by
  simp only [pa, h]
theorem pa_none {acc : Nat} {p : List UInt8} {ps : List (List UInt8)} (h : num p 255 = none) : pa acc (p :: ps) = none := by
  simp only [pa, h]
theorem pAddr_tx {a : Nat} (ha : a < 4294967296) : pAddr (dd (a / 16777216 % 256) ++ 46 :: (dd (a / 65536 % 256) ++ 46 :: (dd (a / 256 % 256) ++ 46 :: dd (a % 256)))) = some a := by
  have h1 : a / 16777216 % 256 < 256 := by omega
  have h2 : a / 65536 % 256 < 256 := by omega
  have h3 : a / 256 % 256 < 256 := by omega
  have h4 : a % 256 < 256 := by omega
  unfold pAddr
  rw [split4 (fun x hx => (dd_ne h1 x hx).1) (fun x hx => (dd_ne h2 x hx).1) (fun x hx => (dd_ne h3 x hx).1), if_pos (by rfl)]
  rw [pa_cons ((num_some (by omega)).2 ⟨by omega, rfl⟩), pa_cons ((num_some (by omega)).2 ⟨by omega, rfl⟩), pa_cons ((num_some (by omega)).2 ⟨by omega, rfl⟩), pa_cons ((num_some (by omega)).2 ⟨by omega, rfl⟩)]
  simp only [pa]
  congr 1
  omega
theorem pPfx_tx {a l : Nat} (h : Vld (a, l)) : pPfx (tx a l) = some (a, l) := by
  have ha := vld_lt h
  simp only at ha
  have h1 : a / 16777216 % 256 < 256 := by omega
  have h2 : a / 65536 % 256 < 256 := by omega
  have h3 : a / 256 % 256 < 256 := by omega
  have h4 : a % 256 < 256 := by omega
  have hl : l ≤ 32 := h.1
  have hne : ∀ x ∈ dd (a / 16777216 % 256) ++ 46 :: (dd (a / 65536 % 256) ++ 46 :: (dd (a / 256 % 256) ++ 46 :: dd (a % 256))), x ≠ 47 := fun x hx => by
    simp only [List.mem_append, List.mem_cons] at hx
    rcases hx with hx | rfl | hx | rfl | hx | rfl | hx
    · exact (dd_ne h1 x hx).2
    · decide
    · exact (dd_ne h2 x hx).2
    · decide
    · exact (dd_ne h3 x hx).2
    · decide
    · exact (dd_ne h4 x hx).2
  unfold pPfx tx
  rw [cut_mid hne]
  simp only
  rw [pAddr_tx ha, (num_some (by omega)).2 ⟨hl, rfl⟩]
  simp only [if_pos h]
theorem pa_inv {acc a : Nat} {p : List UInt8} {ps : List (List UInt8)} (h : pa acc (p :: ps) = some a) : ∃ n, n < 256 ∧ dd n = p ∧ pa (acc * 256 % 4294967296 + n) ps = some a := by
  cases hn : num p 255 with
  | none => rw [pa_none hn] at h; cases h
  | some n =>
    rw [pa_cons hn] at h
    have := (num_some (by omega)).1 hn
    exact ⟨n, by omega, this.2, h⟩
theorem pPfx_inv {s : List UInt8} {p : Px} (h : pPfx s = some p) : Vld p ∧ s = tx p.1 p.2 := by
  unfold pPfx at h
  split at h
  · rename_i a l h1 h2
    split at h
    · rename_i hv
      injection h with h
      subst h
      refine ⟨hv, ?_⟩
      obtain ⟨hl, hld⟩ := (num_some (by omega)).1 h2
      unfold pAddr at h1
      split at h1
      · rename_i h4
        obtain ⟨b1, b2, b3, b4, e1, e2⟩ := split4_inv rfl h4
        rw [e1] at h1
        obtain ⟨n1, hn1, k1, q1⟩ := pa_inv h1
        obtain ⟨n2, hn2, k2, q2⟩ := pa_inv q1
        obtain ⟨n3, hn3, k3, q3⟩ := pa_inv q2
        obtain ⟨n4, hn4, k4, q4⟩ := pa_inv q3
        subst k1 k2 k3 k4
        simp only [pa] at q4
        injection q4 with q4
        have g1 : a / 16777216 % 256 = n1 := by omega
        have g2 : a / 65536 % 256 = n2 := by omega
        have g3 : a / 256 % 256 = n3 := by omega
        have g4 : a % 256 = n4 := by omega
        have hs : s = (cut s [47]).1 ++ 47 :: (cut s [47]).2.1 := by
          rcases around s 47 with ⟨A, B, rfl, hA⟩ | hn
          · rw [cut_mid hA]
          · rw [cut_no hn] at hld
            simp only at hld
            have := (dd_facts l (by omega)).2.2.2
            rw [hld] at this
            simp at this
        rw [hs, e2, ← hld]
        unfold tx
        simp only [g1, g2, g3, g4]
      · cases h1
    · cases h
  · cases h
theorem tx_inj {a l b m : Nat} (h1 : Vld (a, l)) (h2 : Vld (b, m)) (h : tx a l = tx b m) : (a, l) = (b, m) := by
  have := pPfx_tx h1
  rw [h, pPfx_tx h2] at this
  injection this with this
  exact this.symm
theorem tx_len {a l : Nat} (h : l ≤ 32) : (tx a l).length ≤ 18 ∧ 1 ≤ (tx a l).length := by
  have h1 := (dd_facts (a / 16777216 % 256) (by omega)).2.2.1
  have h2 := (dd_facts (a / 65536 % 256) (by omega)).2.2.1
  have h3 := (dd_facts (a / 256 % 256) (by omega)).2.2.1
  have h4 := (dd_facts (a % 256) (by omega)).2.2.1
  have h5 : (dd l).length ≤ 2 := by unfold dd; split; simp; rw [if_pos (by omega)]; simp
  unfold tx
  simp only [List.length_append, List.length_cons]
  omega
end Go.Proofs.Ytamkegnnlbefdaa
