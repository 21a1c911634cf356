/- Plain facts of layer 7: the encodings of numbers, of records, of lists of records. -/
import Derived.Lib.Hide
namespace Go.Proofs.Ytamkegnnlbefdab

/-- The number that bytes encode, the most significant one first. -/
def numB (l : List UInt8) : Nat := l.foldl (fun n d => n * 256 + d.toNat) 0
theorem numB_nil : numB [] = 0 := rfl
theorem numB_snoc (l : List UInt8) (d : UInt8) : numB (l ++ [d]) = numB l * 256 + d.toNat := by simp [numB]
theorem numB_take (l : List UInt8) (k : Nat) (h : k < l.length) : numB (l.take (k + 1)) = numB (l.take k) * 256 + l[k].toNat := by
  rw [List.take_succ_eq_append_getElem h, numB_snoc]
theorem numB_lt (l : List UInt8) : numB l < 256 ^ l.length := by
  induction h : l.length generalizing l with
  | zero => obtain rfl := List.eq_nil_of_length_eq_zero h; simp [numB]
  | succ n ih =>
    obtain ⟨xs, x, rfl⟩ : ∃ xs x, l = xs ++ [x] := ⟨l.dropLast, l.getLast (by intro e; simp [e] at h), (List.dropLast_concat_getLast _).symm⟩
    have := ih xs (by simpa using h)
    rw [numB_snoc, Nat.pow_succ]
    have := x.toNat_lt
    omega
theorem pow_le8 {a b : Nat} (h : a ≤ b) : 256 ^ a ≤ 256 ^ b := Nat.pow_le_pow_right (by omega) h
theorem numB_lt8 {l : List UInt8} {k : Nat} (h : l.length ≤ k) : numB l < 256 ^ k := Nat.lt_of_lt_of_le (numB_lt l) (pow_le8 h)
/-- The encoding of a number in s bytes. -/
def be (n : Nat) : Nat → List UInt8
  | 0 => []
  | s + 1 => UInt8.ofNat (n / 256 ^ s) :: be n s
theorem be_len (n s : Nat) : (be n s).length = s := by
  induction s with
  | zero => rfl
  | succ s ih => simp [be, ih]
theorem numB_cons (x : UInt8) (l : List UInt8) : numB (x :: l) = x.toNat * 256 ^ l.length + numB l := by
  induction h : l.length generalizing l with
  | zero => obtain rfl := List.eq_nil_of_length_eq_zero h; simp [numB]
  | succ n ih =>
    obtain ⟨xs, y, rfl⟩ : ∃ xs y, l = xs ++ [y] := ⟨l.dropLast, l.getLast (by intro e; simp [e] at h), (List.dropLast_concat_getLast _).symm⟩
    have := ih xs (by simpa using h)
    rw [← List.cons_append, numB_snoc, numB_snoc, this, Nat.pow_succ, Nat.add_mul, Nat.mul_assoc]
    omega
theorem numB_be (n s : Nat) : numB (be n s) = n % 256 ^ s := by
  induction s with
  | zero => simp [be, numB, Nat.mod_one]
  | succ s ih =>
    simp only [be]
    rw [numB_cons, be_len, ih, Nat.pow_succ]
    have e : (UInt8.ofNat (n / 256 ^ s)).toNat = n / 256 ^ s % 256 := by simp
    rw [e, Nat.mod_mul]
    rw [Nat.mul_comm, Nat.add_comm]
theorem be_get (n : Nat) : ∀ (s j : Nat) (h : j < s), (be n s)[j]'(by rw [be_len]; exact h) = UInt8.ofNat (n / 256 ^ (s - 1 - j))
  | s + 1, 0, _ => by simp [be]
  | s + 1, j + 1, h => by
    simp only [be, List.getElem_cons_succ]
    rw [be_get n s j (by omega)]
    congr 3
    omega
theorem be2 (n : Nat) (_h : n < 65536) : be n 2 = [UInt8.ofNat (n / 256), UInt8.ofNat n] := by simp [be]
theorem be_two (h l : UInt8) : be (h.toNat * 256 + l.toNat) 2 = [h, l] := by
  have h1 := h.toNat_lt
  have h2 := l.toNat_lt
  simp only [be]
  have e1 : (h.toNat * 256 + l.toNat) / 256 ^ 1 = h.toNat := by omega
  have e2 : (h.toNat * 256 + l.toNat) / 256 ^ 0 = h.toNat * 256 + l.toNat := by simp
  rw [e1, e2]
  refine congr (congrArg _ (by simp)) (congr (congrArg _ ?_) rfl)
  apply UInt8.toNat_inj.1
  simp

abbrev Rc := Int × List UInt8
/-- The error of a record's type and length. -/
def errN (t : Int) (n : Nat) : Int := if t < 1 ∨ 255 < t then 1 else if 65535 < n then 6 else 0
def errR (r : Rc) : Int := errN r.1 r.2.length
theorem errN_ok {t : Int} {n : Nat} : errN t n = 0 ↔ 1 ≤ t ∧ t ≤ 255 ∧ n ≤ 65535 := by
  unfold errN
  split
  · simp; omega
  · split
    · simp; omega
    · simp; omega
/-- The encoding of a record. -/
def one (r : Rc) : List UInt8 := UInt8.ofNat r.1.toNat :: (be r.2.length 2 ++ r.2)
theorem one_len (r : Rc) : (one r).length = r.2.length + 3 := by simp [one, be_len]; omega
def body (rs : List Rc) : List UInt8 := rs.flatMap one
def bsz : List Rc → Nat
  | [] => 0
  | r :: rs => r.2.length + bsz rs
theorem body_nil : body [] = [] := rfl
theorem body_append (a b : List Rc) : body (a ++ b) = body a ++ body b := by simp [body]
theorem body_cons (r : Rc) (rs : List Rc) : body (r :: rs) = one r ++ body rs := by simp [body]
theorem body_snoc (a : List Rc) (r : Rc) : body (a ++ [r]) = body a ++ one r := by simp [body]
theorem bsz_append (a b : List Rc) : bsz (a ++ b) = bsz a + bsz b := by
  induction a with
  | nil => simp [bsz]
  | cons r a ih => simp [bsz, ih]; omega
theorem body_len (rs : List Rc) : (body rs).length = bsz rs + 3 * rs.length := by
  induction rs with
  | nil => rfl
  | cons r rs ih => rw [body_cons, List.length_append, one_len, ih]; simp [bsz]; omega
theorem take_snocR (l : List Rc) (k : Nat) (h : k < l.length) : l.take (k + 1) = l.take k ++ [l[k]] := List.take_succ_eq_append_getElem h
theorem bsz_take (l : List Rc) (k : Nat) : bsz (l.take k) ≤ bsz l := by
  have := bsz_append (l.take k) (l.drop k)
  rw [List.take_append_drop] at this
  omega
theorem bsz_get (l : List Rc) (k : Nat) (h : k < l.length) : l[k].2.length ≤ bsz l := by
  have := bsz_take l (k + 1)
  rw [take_snocR l k h, bsz_append] at this
  simp [bsz] at this
  omega
def firstE : List Rc → Int
  | [] => 0
  | r :: rs => if errR r = 0 then firstE rs else errR r
theorem firstE_at {rs : List Rc} {k : Nat} (h : k < rs.length) (ho : ∀ j (hj : j < k), errR (rs[j]'(by omega)) = 0) (he : errR rs[k] ≠ 0) : firstE rs = errR rs[k] := by
  induction rs generalizing k with
  | nil => simp at h
  | cons r rs ih =>
    cases k with
    | zero => simp only [List.getElem_cons_zero] at he ⊢; simp [firstE, he]
    | succ k =>
      have h0 := ho 0 (by omega)
      simp only [List.getElem_cons_zero] at h0
      simp only [firstE, h0, if_true, List.getElem_cons_succ] at he ⊢
      exact ih (by simpa using h) (fun j hj => by have := ho (j + 1) (by omega); simpa using this) he
theorem firstE_ok {rs : List Rc} : firstE rs = 0 ↔ ∀ r ∈ rs, errR r = 0 := by
  induction rs with
  | nil => simp [firstE]
  | cons r rs ih =>
    simp only [firstE, List.mem_cons, forall_eq_or_imp]
    by_cases h : errR r = 0
    · simp [h, ih]
    · simp [h]
/-- What Encode gives. -/
def encS (rs : List Rc) : List UInt8 := if firstE rs = 0 then body rs else []

/-- The record that bytes begin with, and the rest. -/
def dec1 : List UInt8 → Option (Rc × List UInt8)
  | t :: h :: l :: rest => if t.toNat = 0 ∨ rest.length < h.toNat * 256 + l.toNat then none else some (((t.toNat : Int), rest.take (h.toNat * 256 + l.toNat)), rest.drop (h.toNat * 256 + l.toNat))
  | _ => none
theorem dec1_short {b : List UInt8} (h : b.length < 3) : dec1 b = none := by
  match b, h with
  | [], _ => rfl
  | [_], _ => rfl
  | [_, _], _ => rfl
theorem dec1_eq {b : List UInt8} (h : 3 ≤ b.length) : dec1 b = if b[0].toNat = 0 ∨ b.length < b[1].toNat * 256 + b[2].toNat + 3 then none else some (((b[0].toNat : Int), (b.drop 3).take (b[1].toNat * 256 + b[2].toNat)), b.drop (3 + (b[1].toNat * 256 + b[2].toNat))) := by
  match b, h with
  | t :: x :: l :: rest, _ =>
    have e : (t :: x :: l :: rest).drop (3 + (x.toNat * 256 + l.toNat)) = rest.drop (x.toNat * 256 + l.toNat) := by
      rw [← List.drop_drop]; rfl
    show dec1 (t :: x :: l :: rest) = if t.toNat = 0 ∨ (t :: x :: l :: rest).length < x.toNat * 256 + l.toNat + 3 then none else some (((t.toNat : Int), rest.take (x.toNat * 256 + l.toNat)), (t :: x :: l :: rest).drop (3 + (x.toNat * 256 + l.toNat)))
    rw [e]
    simp only [dec1, List.length_cons]
    by_cases h : t.toNat = 0 ∨ rest.length < x.toNat * 256 + l.toNat
    · rw [if_pos h, if_pos (by omega)]
    · rw [if_neg h, if_neg (by omega)]
theorem dec1_some {b rest : List UInt8} {r : Rc} (h : dec1 b = some (r, rest)) : b = one r ++ rest ∧ errR r = 0 ∧ rest.length < b.length := by
  match b, h with
  | t :: x :: l :: tl, h =>
    simp only [dec1] at h
    split at h
    · cases h
    · rename_i hn
      injection h with h
      injection h with h1 h2
      subst h1 h2
      have ht := t.toNat_lt
      have hx := x.toNat_lt
      have hl := l.toNat_lt
      have hlen : (tl.take (x.toNat * 256 + l.toNat)).length = x.toNat * 256 + l.toNat := by rw [List.length_take]; omega
      refine ⟨?_, ?_, ?_⟩
      · simp only [one, hlen]
        rw [be_two]
        simp
      · unfold errR
        rw [errN_ok, hlen]
        simp
        omega
      · simp; omega
theorem dec1_one {r : Rc} (h : errR r = 0) (t : List UInt8) : dec1 (one r ++ t) = some (r, t) := by
  obtain ⟨a, v⟩ := r
  unfold errR at h
  rw [errN_ok] at h
  simp only at h
  obtain ⟨h1, h2, h3⟩ := h
  have e2 : be v.length 2 = [UInt8.ofNat (v.length / 256), UInt8.ofNat v.length] := be2 _ (by omega)
  have n1 : (UInt8.ofNat (v.length / 256)).toNat = v.length / 256 := by simp; omega
  have n2 : (UInt8.ofNat v.length).toNat = v.length % 256 := by simp
  have n0 : (UInt8.ofNat a.toNat).toNat = a.toNat := by simp; omega
  simp only [one, e2, List.cons_append, List.nil_append, dec1, n0, n1, n2]
  have e3 : v.length / 256 * 256 + v.length % 256 = v.length := by omega
  rw [e3, if_neg (by simp; omega)]
  simp
  omega
/-- Part of one record. -/
theorem dec1_part {r : Rc} (h : errR r = 0) {k : Nat} (hk : k < (one r).length) : dec1 ((one r).take k) = none := by
  cases hd : dec1 ((one r).take k) with
  | none => rfl
  | some x =>
    obtain ⟨r', rest⟩ := x
    obtain ⟨e, ho, -⟩ := dec1_some hd
    have h2 := dec1_one ho (rest ++ (one r).drop k)
    rw [← List.append_assoc, ← e, List.take_append_drop] at h2
    have h3 := dec1_one h []
    rw [List.append_nil, h2] at h3
    injection h3 with h3
    injection h3 with h3 h4
    have : ((one r).drop k).length = 0 := by
      have := congrArg List.length h4
      simp at this
      simp
      omega
    rw [List.length_drop] at this
    omega
/-- The records that bytes encode: fuel first. -/
def decF : Nat → List UInt8 → Option (List Rc)
  | 0, b => if b = [] then some [] else none
  | f + 1, b => if b = [] then some [] else match dec1 b with
    | none => none
    | some (r, rest) => (decF f rest).map (r :: ·)
theorem decF_nil (f : Nat) : decF f [] = some [] := by cases f <;> simp [decF]
theorem decF_step {f : Nat} {b rest : List UInt8} {r : Rc} (h : dec1 b = some (r, rest)) : decF (f + 1) b = (decF f rest).map (r :: ·) := by
  have hb : b ≠ [] := by rintro rfl; cases h
  simp [decF, hb, h]
theorem decF_none {f : Nat} {b : List UInt8} (h : dec1 b = none) (hb : b ≠ []) : decF f b = none := by
  cases f <;> simp [decF, hb, h]
theorem decF_fuel : ∀ (f g : Nat) (b : List UInt8), b.length ≤ f → b.length ≤ g → decF f b = decF g b
  | 0, g, b, h, _ => by
    obtain rfl := List.eq_nil_of_length_eq_zero (Nat.le_zero.1 h)
    rw [decF_nil, decF_nil]
  | f + 1, 0, b, _, h => by
    obtain rfl := List.eq_nil_of_length_eq_zero (Nat.le_zero.1 h)
    rw [decF_nil, decF_nil]
  | f + 1, g + 1, b, hf, hg => by
    by_cases hb : b = []
    · subst hb; rw [decF_nil, decF_nil]
    · cases hd : dec1 b with
      | none => rw [decF_none hd hb, decF_none hd hb]
      | some x =>
        obtain ⟨r, rest⟩ := x
        have := (dec1_some hd).2.2
        rw [decF_step hd, decF_step hd, decF_fuel f g rest (by omega) (by omega)]
def decS (b : List UInt8) : Option (List Rc) := decF b.length b
theorem decS_nil : decS [] = some [] := rfl
theorem decS_step {b rest : List UInt8} {r : Rc} (h : dec1 b = some (r, rest)) : decS b = (decS rest).map (r :: ·) := by
  have hl := (dec1_some h).2.2
  unfold decS
  rw [decF_fuel b.length (b.length + 1) b (Nat.le_refl _) (by omega), decF_step h, decF_fuel b.length rest.length rest (by omega) (Nat.le_refl _)]
theorem decS_none {b : List UInt8} (h : dec1 b = none) (hb : b ≠ []) : decS b = none := decF_none h hb
/-- Where a loop has come: pre has been read, t is left. -/
def At7 (b : List UInt8) (pre : List Rc) (t : List UInt8) : Prop := decS b = (decS t).map (pre ++ ·) ∧ b = body pre ++ t
theorem at7_start (b : List UInt8) : At7 b [] b := ⟨by cases decS b <;> simp, by simp [body_nil]⟩
theorem At7.step {b t rest : List UInt8} {pre : List Rc} {r : Rc} (h : At7 b pre t) (hd : dec1 t = some (r, rest)) : At7 b (pre ++ [r]) rest := by
  refine ⟨?_, ?_⟩
  · rw [h.1, decS_step hd]
    cases decS rest <;> simp
  · rw [h.2, (dec1_some hd).1, body_snoc, List.append_assoc]
theorem At7.done {b : List UInt8} {pre : List Rc} (h : At7 b pre []) : decS b = some pre := by
  rw [h.1, decS_nil]; simp
theorem At7.bad {b t : List UInt8} {pre : List Rc} (h : At7 b pre t) (hd : dec1 t = none) (ht : t ≠ []) : decS b = none := by
  rw [h.1, decS_none hd ht]; rfl
theorem decS_body {rs : List Rc} (h : ∀ r ∈ rs, errR r = 0) (t : List UInt8) : decS (body rs ++ t) = (decS t).map (rs ++ ·) := by
  induction rs with
  | nil => cases ht : decS t <;> simp [body_nil, ht]
  | cons r rs ih =>
    rw [body_cons, List.append_assoc, decS_step (dec1_one (h r (by simp)) _), ih (fun x hx => h x (by simp [hx]))]
    cases decS t <;> simp
theorem decS_enc {rs : List Rc} (h : ∀ r ∈ rs, errR r = 0) : decS (body rs) = some rs := by
  have := decS_body h []
  rw [List.append_nil, decS_nil] at this
  simpa using this
theorem decS_back {b : List UInt8} : ∀ {rs : List Rc}, decS b = some rs → body rs = b ∧ ∀ r ∈ rs, errR r = 0 := by
  induction hn : b.length using Nat.strongRecOn generalizing b with
  | ind n ih =>
    intro rs h
    by_cases hb : b = []
    · subst hb
      rw [decS_nil] at h
      injection h with h
      subst h
      exact ⟨rfl, by simp⟩
    · cases hd : dec1 b with
      | none => rw [decS_none hd hb] at h; cases h
      | some x =>
        obtain ⟨r, rest⟩ := x
        obtain ⟨e, ho, hl⟩ := dec1_some hd
        rw [decS_step hd] at h
        cases hr : decS rest with
        | none => rw [hr] at h; cases h
        | some rs' =>
          rw [hr] at h
          obtain rfl : r :: rs' = rs := by simpa using h
          obtain ⟨e2, ho2⟩ := ih rest.length (by omega) rfl hr
          refine ⟨by rw [body_cons, e2, ← e], fun x hx => ?_⟩
          rcases List.mem_cons.1 hx with rfl | hx
          · exact ho
          · exact ho2 x hx
/-- A beginning of an encoding, cut within a record. -/
theorem decS_cut {l : List Rc} (h : ∀ r ∈ l, errR r = 0) {n k : Nat} (hn : n < l.length) (h1 : (body (l.take n)).length < k) (h2 : k < (body (l.take (n + 1))).length) : decS ((body l).take k) = none := by
  have e : body l = body (l.take n) ++ (one l[n] ++ body (l.drop (n + 1))) := by
    rw [← body_cons, ← body_append, ← List.drop_eq_getElem_cons hn, List.take_append_drop]
  have hs : (body (l.take (n + 1))).length = (body (l.take n)).length + (one l[n]).length := by rw [take_snocR l n hn, body_snoc, List.length_append]
  rw [e, List.take_append, List.take_of_length_le (by omega), decS_body (fun r hr => h r (List.mem_of_mem_take hr)), List.take_append_of_le_length (by omega)]
  have hd := dec1_part (h _ (List.getElem_mem hn)) (k := k - (body (l.take n)).length) (by omega)
  rw [decS_none hd ?_]
  · rfl
  · intro e0
    have := congrArg List.length e0
    rw [List.length_take] at this
    simp [one_len] at this
    omega
theorem body_take {l : List Rc} {n k : Nat} (h : (body (l.take n)).length = k) : (body l).take k = body (l.take n) := by
  have e : body l = body (l.take n) ++ body (l.drop n) := by rw [← body_append, List.take_append_drop]
  rw [e, List.take_append, ← h]
  simp
end Go.Proofs.Ytamkegnnlbefdab
