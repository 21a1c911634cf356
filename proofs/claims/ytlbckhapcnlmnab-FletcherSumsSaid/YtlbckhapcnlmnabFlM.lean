/- Plain facts of layer 8: the Fletcher sums. -/
import Derived.Lib.Hide
namespace Go.Proofs.Ytlbckhapcnlmnab

/-- The sum of all bytes. -/
def s1 : List UInt8 → Nat
  | [] => 0
  | x :: r => x.toNat + s1 r
/-- The sum of the bytes, each as often as there are bytes from it on. -/
def s2 : List UInt8 → Nat
  | [] => 0
  | x :: r => (r.length + 1) * x.toNat + s2 r
theorem s1_append (l m : List UInt8) : s1 (l ++ m) = s1 l + s1 m := by
  induction l with
  | nil => simp [s1]
  | cons x r ih => simp only [List.cons_append, s1, ih]; omega
theorem s2_append (l m : List UInt8) : s2 (l ++ m) = s2 l + m.length * s1 l + s2 m := by
  induction l with
  | nil => simp [s1, s2]
  | cons x r ih =>
    simp only [List.cons_append, s1, s2, ih, List.length_append, Nat.mul_add, Nat.add_mul]
    omega
theorem s1_take (l : List UInt8) (k : Nat) (h : k < l.length) : s1 (l.take (k + 1)) = s1 (l.take k) + l[k].toNat := by
  rw [List.take_succ_eq_append_getElem h, s1_append]
  simp [s1]
theorem s2_take (l : List UInt8) (k : Nat) (h : k < l.length) : s2 (l.take (k + 1)) = s2 (l.take k) + s1 (l.take (k + 1)) := by
  rw [List.take_succ_eq_append_getElem h, s2_append, s1_append]
  simp [s1, s2]
  omega
/-- Both sums are 0. -/
def sealedB (l : List UInt8) : Bool := decide (s1 l % 255 = 0 ∧ s2 l % 255 = 0)
/-- One byte replaced. -/
theorem s1_set (l : List UInt8) (k : Nat) (h : k < l.length) (x : UInt8) : s1 (l.set k x) + l[k].toNat = s1 l + x.toNat := by
  induction l generalizing k with
  | nil => simp at h
  | cons y r ih =>
    cases k with
    | zero => simp [s1]; omega
    | succ k => simp only [List.set_cons_succ, s1, List.getElem_cons_succ]; have := ih k (by simpa using h); omega
theorem s2_set (l : List UInt8) (k : Nat) (h : k < l.length) (x : UInt8) : s2 (l.set k x) + (l.length - k) * l[k].toNat = s2 l + (l.length - k) * x.toNat := by
  induction l generalizing k with
  | nil => simp at h
  | cons y r ih =>
    cases k with
    | zero => simp [s2]; omega
    | succ k =>
      have := ih k (by simpa using h)
      simp only [List.set_cons_succ, s2, List.getElem_cons_succ, List.length_set, List.length_cons]
      rw [show r.length + 1 - (k + 1) = r.length - k by omega]
      omega
/-- A sealed list with one byte replaced is sealed exactly if the byte is the same modulo 255. -/
theorem changed (l : List UInt8) (k : Nat) (h : k < l.length) (x : UInt8) (hl : sealedB l = true) : sealedB (l.set k x) = decide (l[k].toNat % 255 = x.toNat % 255) := by
  have h1 := s1_set l k h x
  have h2 := s2_set l k h x
  unfold sealedB at *
  simp only [decide_eq_true_eq] at hl
  obtain ⟨e1, e2⟩ := hl
  by_cases he : l[k].toNat % 255 = x.toNat % 255
  · rw [decide_eq_true he, decide_eq_true_eq]
    refine ⟨by omega, ?_⟩
    have h3 : (l.length - k) * l[k].toNat % 255 = (l.length - k) * x.toNat % 255 := by rw [Nat.mul_mod, he, ← Nat.mul_mod]
    omega
  · rw [decide_eq_false he, decide_eq_false_iff_not]
    intro hh
    omega
theorem byte_mod (x y : UInt8) : (x.toNat % 255 = y.toNat % 255) ↔ (x = y ∨ x = 0 ∧ y = 255 ∨ x = 255 ∧ y = 0) := by
  have hx := x.toNat_lt
  have hy := y.toNat_lt
  simp only [← UInt8.toNat_inj]
  have e0 : (0 : UInt8).toNat = 0 := rfl
  have e1 : (255 : UInt8).toNat = 255 := rfl
  rw [e0, e1]
  omega
/-- Two neighbours exchanged. -/
def swapped (l : List UInt8) (k : Nat) : List UInt8 := (l.set k (l.getD (k + 1) 0)).set (k + 1) (l.getD k 0)
theorem exchanged (l : List UInt8) (k : Nat) (h : k + 1 < l.length) (hl : sealedB l = true) : sealedB ((l.set k l[k + 1]).set (k + 1) l[k]) = decide (l[k].toNat % 255 = l[k + 1].toNat % 255) := by
  have h1 := s1_set l k (by omega) l[k + 1]
  have h2 := s2_set l k (by omega) l[k + 1]
  have h3 := s1_set (l.set k l[k + 1]) (k + 1) (by simpa using h) l[k]
  have h4 := s2_set (l.set k l[k + 1]) (k + 1) (by simpa using h) l[k]
  have h5 : (l.set k l[k + 1])[k + 1]'(by simpa using h) = l[k + 1] := by rw [List.getElem_set_ne (by omega)]
  rw [h5] at h3 h4
  rw [List.length_set] at h4
  obtain ⟨d, hd⟩ : ∃ d, l.length - (k + 1) = d := ⟨_, rfl⟩
  have hd' : l.length - k = d + 1 := by omega
  rw [hd] at h4
  rw [hd', Nat.add_mul, Nat.add_mul] at h2
  unfold sealedB at *
  simp only [decide_eq_true_eq] at hl
  obtain ⟨e1, e2⟩ := hl
  generalize d * l[k].toNat = p at *
  generalize d * l[k + 1].toNat = q at *
  rw [decide_eq_decide]
  omega
/-- What is put where bytes shall be replaced. -/
def zeroed (l : List UInt8) (k : Nat) : List UInt8 := (l.set k 0).set (k + 1) 0
theorem zeroed_len (l : List UInt8) (k : Nat) : (zeroed l k).length = l.length := by simp [zeroed]
def chkX (l : List UInt8) (k : Nat) : Int := (((l.length - k - 1 : Nat) : Int) % 255 * ((s1 (zeroed l k) % 255 : Nat) : Int) - ((s2 (zeroed l k) % 255 : Nat) : Int)) % 255
def chkY (l : List UInt8) (k : Nat) : Int := (- ((s1 (zeroed l k) % 255 : Nat) : Int) - chkX l k) % 255
def u8 (x : Int) : UInt8 := UInt8.ofNat x.toNat
theorem u8_nat (x : Int) (_h0 : 0 ≤ x) (h1 : x < 256) : (u8 x).toNat = x.toNat := by simp [u8]; omega
theorem chkX_in (l : List UInt8) (k : Nat) : 0 ≤ chkX l k ∧ chkX l k < 255 := by unfold chkX; omega
theorem chkY_in (l : List UInt8) (k : Nat) : 0 ≤ chkY l k ∧ chkY l k < 255 := by unfold chkY; omega
def sealB (l : List UInt8) (k : Nat) : List UInt8 := ((zeroed l k).set k (u8 (chkX l k))).set (k + 1) (u8 (chkY l k))
theorem sealB_len (l : List UInt8) (k : Nat) : (sealB l k).length = l.length := by simp [sealB, zeroed]
theorem seal_mod (w x y f s S1 S2 F S : Int) (hx : x = (w % 255 * f - s) % 255) (hy : y = (-f - x) % 255) (hf : f = F % 255) (hs : s = S % 255) (h1 : S1 = F + x + y) (h2 : S2 = S + (w + 1) * x + w * y) : S1 % 255 = 0 ∧ S2 % 255 = 0 := by
  have a1 : (x + y + f) % 255 = 0 := by omega
  have hw : ∃ c, w = 255 * c + w % 255 := ⟨w / 255, by omega⟩
  obtain ⟨c, hc⟩ := hw
  obtain ⟨r, hr⟩ : ∃ r, w % 255 = r := ⟨_, rfl⟩
  rw [hr] at hx hc
  refine ⟨by omega, ?_⟩
  obtain ⟨t, ht⟩ : ∃ t, x + y + f = 255 * t := ⟨(x + y + f) / 255, by omega⟩
  have e : (w + 1) * x + w * y = x + w * (x + y) := by rw [Int.add_mul, Int.mul_add]; omega
  have e2 : x + y = 255 * t - f := by omega
  rw [Int.add_assoc, e, e2, hc] at h2
  have e3 : (255 * c + r) * (255 * t - f) = 255 * (c * (255 * t - f) + r * t) - r * f := by
    rw [Int.add_mul, Int.mul_sub r, Int.mul_add, Int.mul_assoc 255 c, Int.mul_left_comm r 255 t]
    omega
  rw [e3] at h2
  generalize c * (255 * t - f) + r * t = z at h2
  generalize r * f = p at h2 hx
  omega
theorem zeroed_get (l : List UInt8) (k : Nat) (h : k + 1 < l.length) : (zeroed l k)[k]'(by rw [zeroed_len]; omega) = 0 := by
  unfold zeroed
  rw [List.getElem_set_ne (by omega), List.getElem_set_self]
theorem seal_sealed (l : List UInt8) (k : Nat) (h : k + 1 < l.length) : sealedB (sealB l k) = true := by
  have hz := zeroed_len l k
  have hx := chkX_in l k
  have hy := chkY_in l k
  have h1 := s1_set (zeroed l k) k (by omega) (u8 (chkX l k))
  have h2 := s2_set (zeroed l k) k (by omega) (u8 (chkX l k))
  have h3 := s1_set ((zeroed l k).set k (u8 (chkX l k))) (k + 1) (by simp; omega) (u8 (chkY l k))
  have h4 := s2_set ((zeroed l k).set k (u8 (chkX l k))) (k + 1) (by simp; omega) (u8 (chkY l k))
  have h5 : ((zeroed l k).set k (u8 (chkX l k)))[k + 1]'(by simp; omega) = 0 := by
    rw [List.getElem_set_ne (by omega)]
    unfold zeroed
    rw [List.getElem_set_self]
  have e0 : (0 : UInt8).toNat = 0 := rfl
  rw [h5, e0] at h3 h4
  rw [zeroed_get l k h, e0] at h1 h2
  rw [List.length_set, hz] at h4
  rw [hz] at h2
  rw [u8_nat _ hx.1 (by omega)] at h1 h2
  rw [u8_nat _ hy.1 (by omega)] at h3 h4
  obtain ⟨d, hd⟩ : ∃ d, l.length - (k + 1) = d := ⟨_, rfl⟩
  have hd' : l.length - k = d + 1 := by omega
  rw [hd] at h4
  rw [hd'] at h2
  obtain ⟨X, hX⟩ : ∃ X : Nat, chkX l k = (X : Int) := ⟨(chkX l k).toNat, by omega⟩
  obtain ⟨Y, hY⟩ : ∃ Y : Nat, chkY l k = (Y : Int) := ⟨(chkY l k).toNat, by omega⟩
  have dX : (X : Int) = (((d : Nat) : Int) % 255 * ((s1 (zeroed l k) % 255 : Nat) : Int) - ((s2 (zeroed l k) % 255 : Nat) : Int)) % 255 := by
    rw [← hX, ← hd, show l.length - (k + 1) = l.length - k - 1 by omega]; rfl
  have dY : (Y : Int) = (- ((s1 (zeroed l k) % 255 : Nat) : Int) - (X : Int)) % 255 := by rw [← hY, ← hX]; rfl
  rw [hX] at h1 h2 h3 h4
  rw [hY] at h3 h4
  rw [Int.toNat_natCast] at h1 h2 h3 h4
  have k1 : (s1 (sealB l k) : Int) = (s1 (zeroed l k) : Int) + X + Y := by
    unfold sealB
    rw [hX, hY]
    omega
  have k2 : (s2 (sealB l k) : Int) = (s2 (zeroed l k) : Int) + ((d : Int) + 1) * X + d * Y := by
    unfold sealB
    rw [hX, hY]
    rw [Nat.mul_zero, Nat.add_zero] at h2 h4
    rw [h4, h2]
    simp
  have := seal_mod d X Y ((s1 (zeroed l k) % 255 : Nat) : Int) ((s2 (zeroed l k) % 255 : Nat) : Int) (s1 (sealB l k)) (s2 (sealB l k)) (s1 (zeroed l k)) (s2 (zeroed l k)) dX dY (by omega) (by omega) k1 k2
  unfold sealedB
  rw [decide_eq_true_eq]
  omega
/-- A sealed part ahead counts nothing. -/
theorem part_sums (x b : List UInt8) (h : sealedB x = true) : s1 (x ++ b) % 255 = s1 b % 255 ∧ s2 (x ++ b) % 255 = s2 b % 255 := by
  unfold sealedB at h
  rw [decide_eq_true_eq] at h
  rw [s1_append, s2_append]
  refine ⟨by omega, ?_⟩
  obtain ⟨t, ht⟩ : ∃ t, s1 x = 255 * t := ⟨s1 x / 255, by omega⟩
  rw [ht, Nat.mul_left_comm]
  generalize b.length * t = z
  omega
theorem zeros_sums (n : Nat) : s1 (List.replicate n 0) = 0 ∧ s2 (List.replicate n 0) = 0 := by
  induction n with
  | zero => simp [s1, s2]
  | succ n ih => simp [List.replicate_succ, s1, s2, ih.1, ih.2]
theorem zeros_sealed (n : Nat) (x : List UInt8) (h : sealedB x = true) : sealedB (List.replicate n 0 ++ x) = true := by
  have hz := zeros_sums n
  unfold sealedB at *
  rw [s1_append, s2_append, hz.1, hz.2]
  simpa using h
end Go.Proofs.Ytlbckhapcnlmnab
