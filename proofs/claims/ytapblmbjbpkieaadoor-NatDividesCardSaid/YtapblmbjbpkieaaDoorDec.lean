/- Decimal texts: what strconv.Itoa gives; a number's text out of the texts of its parts of nine digits. -/
import Derived.Test.YtapblmbjbpkieaaDoorRefD
import Derived.Test.YtapblmbjbpkieaaDoorNatD
import Derived.Lib.ItoaNum
import Derived.Lib.Repeat
namespace Go.Proofs.YtapblmbjbpkieaaDoor

theorem txt_cons (d : Nat) (ds : List Nat) : txt (d :: ds) = txt ds ++ [chr d] := by simp [txt]
theorem txt_append (a b : List Nat) : txt (a ++ b) = txt b ++ txt a := by simp [txt]
theorem dec_small (u : Nat) (h : u < 10) : dec u = [chr u] := by
  unfold dec
  by_cases h0 : u = 0
  · subst h0; rfl
  · rw [if_neg h0, digs_pos 10 u (by omega) (by omega), Nat.mod_eq_of_lt h, Nat.div_eq_of_lt h]; rfl
theorem dec_big (u : Nat) (h : ¬ u < 10) : dec u = dec (u / 10) ++ [chr (u % 10)] := by
  unfold dec
  rw [if_neg (by omega), if_neg (by omega), digs_pos 10 u (by omega) (by omega), txt_cons]
theorem dec_lib (u : Nat) : Lib.decDigits u = dec u := by
  induction u using Nat.strongRecOn with
  | ind u ih =>
    rw [Lib.decDigits]
    split
    · rename_i h; rw [dec_small u h]; rfl
    · rename_i h; rw [dec_big u h, ih (u / 10) (by omega)]; rfl
theorem itoa_dec (u : Nat) : Lib.itoa (u : Int) = dec u := by
  unfold Lib.itoa
  rw [if_neg (by omega), Int.toNat_natCast, dec_lib]

/-- The lowest n decimal digits, the lowest one first. -/
def padD : Nat → Nat → List Nat
  | 0, _ => []
  | n + 1, r => r % 10 :: padD n (r / 10)
theorem padD_len (n r : Nat) : (padD n r).length = n := by
  induction n generalizing r with
  | zero => rfl
  | succ n ih => simp [padD, ih]
theorem digs_split (n : Nat) : ∀ (k r : Nat), 0 < k → r < 10 ^ n → digs 10 (k * 10 ^ n + r) = padD n r ++ digs 10 k := by
  induction n with
  | zero => intro k r hk hr; simp at hr; subst hr; simp [padD]
  | succ n ih =>
    intro k r hk hr
    have hp : 0 < k * 10 ^ (n + 1) := Nat.mul_pos hk (Nat.pow_pos (by omega))
    rw [digs_pos 10 _ (by omega) (by omega)]
    have e1 : (k * 10 ^ (n + 1) + r) % 10 = r % 10 := by rw [Nat.pow_succ, ← Nat.mul_assoc]; omega
    have e2 : (k * 10 ^ (n + 1) + r) / 10 = k * 10 ^ n + r / 10 := by rw [Nat.pow_succ, ← Nat.mul_assoc]; omega
    rw [e1, e2, ih k (r / 10) hk (by rw [Nat.pow_succ] at hr; omega)]
    rfl
theorem padD_digs (n : Nat) : ∀ r, r < 10 ^ n → padD n r = digs 10 r ++ List.replicate (n - (digs 10 r).length) 0 := by
  induction n with
  | zero => intro r hr; simp at hr; subst hr; rfl
  | succ n ih =>
    intro r hr
    by_cases h0 : r = 0
    · subst h0
      have := ih 0 (Nat.pow_pos (by omega))
      simp only [padD, digs_zero, List.nil_append, List.length_nil, Nat.sub_zero] at *
      rw [Nat.zero_div, this]
      rfl
    · rw [digs_pos 10 r (by omega) (by omega)]
      simp only [padD, List.cons_append, List.length_cons]
      rw [ih (r / 10) (by rw [Nat.pow_succ] at hr; omega), show n + 1 - ((digs 10 (r / 10)).length + 1) = n - (digs 10 (r / 10)).length by omega]
/-- The text of a part, with zeros ahead up to nine letters. -/
def pad9 (r : Nat) : List UInt8 := List.replicate (9 - (dec r).length) 48 ++ dec r
theorem txt_zeros (n : Nat) : txt (List.replicate n 0) = List.replicate n 48 := by
  simp [txt, List.map_replicate]; exact .inr rfl
theorem dec_len (r : Nat) (n : Nat) (hn : 0 < n) (h : r < 10 ^ n) : (dec r).length ≤ n ∧ 0 < (dec r).length := by
  unfold dec
  split
  · simp; omega
  · rename_i h0
    rw [txt_len]
    refine ⟨digs_len (by omega) h, ?_⟩
    rw [digs_pos 10 r (by omega) (by omega)]; simp
theorem pad9_txt (r : Nat) (h : r < 1000000000) : pad9 r = txt (padD 9 r) := by
  unfold pad9
  by_cases h0 : r = 0
  · subst h0; rfl
  · rw [padD_digs 9 r h, txt_append, txt_zeros]
    unfold dec
    rw [if_neg h0, txt_len]
theorem dec_split (k r : Nat) (hk : 0 < k) (hr : r < 1000000000) : dec (k * 1000000000 + r) = dec k ++ pad9 r := by
  rw [pad9_txt r hr]
  unfold dec
  rw [if_neg (by omega), if_neg (by omega), show (1000000000 : Nat) = 10 ^ 9 from rfl, digs_split 9 k r hk hr, txt_append]
theorem repeat_zero (n : Nat) : Lib.repeatL [48] n = List.replicate n 48 := by
  induction n with
  | zero => rfl
  | succ n ih => simp [Lib.repeatL, ih, List.replicate_succ]

/-- What Parse reads: the text of a number spells it. -/
theorem numL_txt (ds : List Nat) (h : ∀ d ∈ ds, d < 10) : numL (txt ds) = val 10 ds := by
  induction ds with
  | nil => rfl
  | cons d ds ih =>
    have hd : d < 10 := h d (by simp)
    have e : (chr d).toNat = 48 + d := by unfold chr; rw [UInt8.toNat_ofNat']; omega
    rw [txt_cons, numL_snoc, ih fun x hx => h x (by simp [hx]), e]
    simp only [val]
    omega
theorem numL_dec (k : Nat) : numL (dec k) = k := by
  unfold dec
  split
  · rename_i h; subst h; rfl
  · rw [numL_txt _ (digs_lt (by omega) k), val_digs (by omega)]
theorem txt_dig (ds : List Nat) (h : ∀ d ∈ ds, d < 10) : DigL (txt ds) := by
  intro c hc
  simp only [txt, List.mem_reverse, List.mem_map] at hc
  obtain ⟨d, hd, rfl⟩ := hc
  have := h d hd
  have e : (chr d).toNat = 48 + d := by unfold chr; rw [UInt8.toNat_ofNat']; omega
  omega
theorem dec_isText (k : Nat) : isTextB ⟨(dec k).toArray⟩ := by
  have hs : (⟨(dec k).toArray⟩ : ByteArray).size = (dec k).length := by simp [ByteArray.size]
  have hp : 0 < (dec k).length := (dec_len k (k + 1) (by omega) (Nat.lt_of_lt_of_le (Nat.lt_succ_self k) (Nat.le_of_lt (Nat.lt_pow_self (by omega))))).2
  refine ⟨by omega, ?_, ?_⟩
  · intro h h48
    by_cases h0 : k = 0
    · subst h0; exact Nat.le_refl _
    · exfalso
      have hd : dec k = txt (digs 10 k) := by unfold dec; rw [if_neg h0]
      have hne : digs 10 k ≠ [] := by rw [digs_pos 10 k (by omega) (by omega)]; simp
      have hl := (digs_canon (b := 10) (by omega) k).1.2 hne
      have hlt := digs_lt (b := 10) (by omega) k _ (List.getLast_mem hne)
      have e : (dec k)[0]? = some (chr ((digs 10 k).getLast hne)) := by
        rw [hd]
        simp only [txt]
        rw [← List.map_reverse, List.getElem?_map]
        have : (digs 10 k).reverse[0]? = some ((digs 10 k).getLast hne) := by
          rw [List.getElem?_reverse (by rw [hd, txt_len] at hp; exact hp), List.getLast_eq_getElem]
          simp
        rw [this]; rfl
      have e3 : (dec k)[0] = chr ((digs 10 k).getLast hne) := by
        rw [List.getElem?_eq_getElem hp] at e
        exact Option.some.inj e
      have h49 : (dec k)[0].toNat = 48 := h48
      rw [e3] at h49
      unfold chr at h49
      rw [UInt8.toNat_ofNat'] at h49
      omega
  · refine DigL.digB (s := ⟨(dec k).toArray⟩) ?_ _
    show DigL (dec k)
    unfold dec
    split
    · intro c hc; simp at hc; subst hc; decide
    · exact txt_dig _ (digs_lt (by omega) k)
end Go.Proofs.YtapblmbjbpkieaaDoor
