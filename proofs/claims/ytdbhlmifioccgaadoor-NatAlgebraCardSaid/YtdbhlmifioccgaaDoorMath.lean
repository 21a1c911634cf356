/- Plain facts about lists of digits. -/
namespace Go.Proofs.YtdbhlmifioccgaaDoor

/-- Without the zeros at the end. -/
def strip (ds : List Nat) : List Nat := (ds.reverse.dropWhile (· == 0)).reverse
theorem strip_nil : strip [] = [] := rfl
theorem strip_zero (ds : List Nat) : strip (ds ++ [0]) = strip ds := by simp [strip]
theorem strip_pos (ds : List Nat) (x : Nat) (h : x ≠ 0) : strip (ds ++ [x]) = ds ++ [x] := by simp [strip, h]
theorem take_snoc (ds : List Nat) (k : Nat) (h : k < ds.length) : ds.take (k + 1) = ds.take k ++ [ds.getD k 0] := by
  rw [List.take_succ_eq_append_getElem h]
  simp [List.getD, h]

/-- The value of digits, the lowest one first. -/
def val (b : Nat) : List Nat → Nat
  | [] => 0
  | d :: ds => d + b * val b ds
theorem val_append (b : Nat) (xs ys : List Nat) : val b (xs ++ ys) = val b xs + b ^ xs.length * val b ys := by
  induction xs with
  | nil => simp [val]
  | cons x xs ih => simp only [List.cons_append, val, ih, List.length_cons, Nat.pow_succ, Nat.mul_add]; rw [Nat.mul_comm (b ^ xs.length) b, Nat.mul_assoc, Nat.add_assoc]
theorem val_snoc (b : Nat) (xs : List Nat) (y : Nat) : val b (xs ++ [y]) = val b xs + b ^ xs.length * y := by rw [val_append]; simp [val]

/-- The digits of a number: fuel first. -/
def digsF (b : Nat) : Nat → Nat → List Nat
  | 0, _ => []
  | f + 1, k => if k = 0 then [] else k % b :: digsF b f (k / b)
def digs (b k : Nat) : List Nat := digsF b k k
theorem digsF_zero (b f : Nat) : digsF b f 0 = [] := by cases f <;> simp [digsF]
theorem digsF_eq (b : Nat) (hb : 2 ≤ b) : ∀ (f g k : Nat), k ≤ f → k ≤ g → digsF b f k = digsF b g k
  | 0, g, k, hf, _ => by obtain rfl : k = 0 := by omega
                         rw [digsF_zero, digsF_zero]
  | f + 1, 0, k, _, hg => by obtain rfl : k = 0 := by omega
                             rw [digsF_zero, digsF_zero]
  | f + 1, g + 1, k, hf, hg => by
    unfold digsF
    by_cases hk : k = 0
    · rw [if_pos hk, if_pos hk]
    · rw [if_neg hk, if_neg hk]
      have : k / b < k := Nat.div_lt_self (by omega) (by omega)
      rw [digsF_eq b hb f g (k / b) (by omega) (by omega)]
theorem digs_zero (b : Nat) : digs b 0 = [] := rfl
theorem digs_pos (b k : Nat) (hb : 2 ≤ b) (hk : 0 < k) : digs b k = k % b :: digs b (k / b) := by
  obtain ⟨f, rfl⟩ : ∃ f, k = f + 1 := ⟨k - 1, by omega⟩
  have : (f + 1) / b < f + 1 := Nat.div_lt_self (by omega) (by omega)
  show digsF b (f + 1) (f + 1) = _
  rw [digsF, if_neg (by omega), digsF_eq b hb f ((f + 1) / b) _ (by omega) (Nat.le_refl _)]
  rfl

/-- Canonical digits: each less than the base, the last one not 0. -/
def Canon (b : Nat) (ds : List Nat) : Prop := (∀ d ∈ ds, d < b) ∧ (∀ h : ds ≠ [], ds.getLast h ≠ 0)
theorem canon_nil (b : Nat) : Canon b [] := ⟨by simp, by simp⟩
theorem canon_tail {b d : Nat} {ds : List Nat} (h : Canon b (d :: ds)) : Canon b ds :=
  ⟨fun x hx => h.1 x (by simp [hx]), fun hne => by have := h.2 (by simp); rwa [List.getLast_cons hne] at this⟩
theorem val_pos {b : Nat} (hb : 2 ≤ b) : ∀ {ds : List Nat}, Canon b ds → ds ≠ [] → 0 < val b ds
  | [], _, h => absurd rfl h
  | [d], h, _ => by have := h.2 (by simp); simp [val] at *; omega
  | d :: e :: ds, h, _ => by
    have := val_pos hb (canon_tail h) (by simp)
    have : 0 < b * val b (e :: ds) := Nat.mul_pos (by omega) this
    simp only [val] at *
    omega
theorem digs_val {b : Nat} (hb : 2 ≤ b) : ∀ {ds : List Nat}, Canon b ds → digs b (val b ds) = ds
  | [], _ => rfl
  | d :: ds, h => by
    have hp := val_pos hb h (by simp)
    have hd : d < b := h.1 d (by simp)
    rw [digs_pos b _ hb hp]
    simp only [val]
    rw [Nat.add_mul_mod_self_left, Nat.mod_eq_of_lt hd, Nat.add_mul_div_left _ _ (by omega), Nat.div_eq_of_lt hd, Nat.zero_add, digs_val hb (canon_tail h)]
theorem digs_canon {b : Nat} (hb : 2 ≤ b) (k : Nat) : Canon b (digs b k) ∧ val b (digs b k) = k := by
  induction k using Nat.strongRecOn with
  | ind k ih =>
    by_cases hk : k = 0
    · subst hk; exact ⟨canon_nil b, rfl⟩
    · have hlt : k / b < k := Nat.div_lt_self (by omega) (by omega)
      obtain ⟨h1, h2⟩ := ih (k / b) hlt
      rw [digs_pos b k hb (by omega)]
      refine ⟨⟨fun d hd => ?_, fun hne => ?_⟩, ?_⟩
      · rcases List.mem_cons.1 hd with rfl | hd
        · exact Nat.mod_lt _ (by omega)
        · exact h1.1 d hd
      · by_cases he : digs b (k / b) = []
        · have h0 : k / b = 0 := by rw [← h2, he]; rfl
          simp only [he, List.getLast_singleton]
          have := Nat.div_add_mod k b
          rw [h0] at this
          simp at this
          omega
        · rw [List.getLast_cons he]; exact h1.2 he
      · simp only [val, h2]; exact Nat.mod_add_div k b
theorem strip_canon {b : Nat} (ds : List Nat) (h : ∀ d ∈ ds, d < b) : Canon b (strip ds) ∧ val b (strip ds) = val b ds := by
  induction hn : ds.length generalizing ds with
  | zero => obtain rfl := List.eq_nil_of_length_eq_zero hn; exact ⟨canon_nil b, rfl⟩
  | succ n ih =>
    obtain ⟨xs, x, rfl⟩ : ∃ xs x, ds = xs ++ [x] := ⟨ds.dropLast, ds.getLast (by intro e; simp [e] at hn), (List.dropLast_concat_getLast _).symm⟩
    by_cases hx : x = 0
    · subst hx
      rw [strip_zero, val_snoc]
      simp only [Nat.mul_zero, Nat.add_zero]
      exact ih xs (fun d hd => h d (by simp [hd])) (by simpa using hn)
    · rw [strip_pos xs x hx]
      exact ⟨⟨h, fun _ => by simpa using hx⟩, rfl⟩
/-- What is left without zeros at the end are the digits of the value. -/
theorem strip_digs {b : Nat} (hb : 2 ≤ b) (ds : List Nat) (h : ∀ d ∈ ds, d < b) : strip ds = digs b (val b ds) := by
  have := strip_canon ds h
  rw [← this.2, digs_val hb this.1]
theorem digs_lt {b : Nat} (hb : 2 ≤ b) (k : Nat) : ∀ d ∈ digs b k, d < b := (digs_canon hb k).1.1
theorem val_digs {b : Nat} (hb : 2 ≤ b) (k : Nat) : val b (digs b k) = k := (digs_canon hb k).2
theorem val_lt {b : Nat} (ds : List Nat) (h : ∀ d ∈ ds, d < b) : val b ds < b ^ ds.length := by
  induction ds with
  | nil => simp [val]
  | cons d ds ih =>
    have h1 := ih fun x hx => h x (by simp [hx])
    have h2 : d < b := h d (by simp)
    simp only [val, List.length_cons, Nat.pow_succ]
    have : b * (val b ds + 1) ≤ b * b ^ ds.length := Nat.mul_le_mul_left b h1
    rw [Nat.mul_comm b (b ^ ds.length)] at this
    rw [Nat.mul_add] at this
    omega
theorem val_ge {b : Nat} (hb : 2 ≤ b) : ∀ {ds : List Nat}, Canon b ds → ds ≠ [] → b ^ (ds.length - 1) ≤ val b ds
  | [], _, h => absurd rfl h
  | [d], h, _ => by have := h.2 (by simp); simp [val] at *; omega
  | d :: e :: ds, h, _ => by
    have ih := val_ge hb (canon_tail h) (by simp)
    simp only [List.length_cons, Nat.add_sub_cancel, val] at *
    have h2 := Nat.mul_le_mul_left b ih
    rw [Nat.pow_succ, Nat.mul_comm]
    omega
/-- How many digits a number below a power has. -/
theorem digs_len {b : Nat} (hb : 2 ≤ b) {k n : Nat} (h : k < b ^ n) : (digs b k).length ≤ n := by
  obtain ⟨h1, h2⟩ := digs_canon hb k
  by_cases he : digs b k = []
  · simp [he]
  · have := val_ge hb h1 he
    rw [h2] at this
    have hlt : b ^ ((digs b k).length - 1) < b ^ n := Nat.lt_of_le_of_lt this h
    have := (Nat.pow_lt_pow_iff_right (by omega : 1 < b)).1 hlt
    omega
end Go.Proofs.YtdbhlmifioccgaaDoor
