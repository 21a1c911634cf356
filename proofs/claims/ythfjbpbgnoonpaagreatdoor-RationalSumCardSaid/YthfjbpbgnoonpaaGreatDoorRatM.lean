/- Plain facts about fractions in lowest terms. -/
namespace Go.Proofs.YthfjbpbgnoonpaaGreatDoor
/-- A number with a sign. -/
def sg (neg : Bool) (n : Nat) : Int := if neg then -(n : Int) else n
theorem sg_abs (neg : Bool) (n : Nat) : (sg neg n).natAbs = n := by unfold sg; split <;> simp
theorem low_eq {N n : Int} {D d : Nat} (hD : D ≠ 0) (hc : N.natAbs.Coprime D) (hd : d ≠ 0) (e : N * d = n * D) : (mkRat n d).num = N ∧ (mkRat n d).den = D := by
  have h1 : mkRat N D = ⟨N, D, hD, hc⟩ := Rat.mkRat_self ⟨N, D, hD, hc⟩
  have h2 : mkRat N D = mkRat n d := (Rat.mkRat_eq_iff hD hd).2 e
  rw [← h2, h1]
  exact ⟨rfl, rfl⟩
theorem add_mk (a b : Rat) : a + b = mkRat (a.num * b.den + b.num * a.den) (a.den * b.den) := by
  rw [Rat.add_def, Rat.normalize_eq_mkRat]
theorem mul_mk (a b : Rat) : a * b = mkRat (a.num * b.num) (a.den * b.den) := by
  rw [Rat.mul_def, Rat.normalize_eq_mkRat]
theorem div_gcd_coprime {a b : Nat} (h : 0 < Nat.gcd a b) : Nat.Coprime (a / Nat.gcd a b) (b / Nat.gcd a b) := Nat.coprime_div_gcd_div_gcd h
/-- The sum of two fractions in lowest terms. -/
theorem add_low {x : Int} {na nb : Int} {da db ap bp g g2 : Nat} (ha : na.natAbs.Coprime da) (hb : nb.natAbs.Coprime db) (hda : da ≠ 0) (hdb : db ≠ 0)
    (hg : g = Nat.gcd da db) (hap : da = g * ap) (hbp : db = g * bp) (hx : x = na * bp + nb * ap) (hg2 : g2 = Nat.gcd x.natAbs g) {y e : Nat} (hy : x.natAbs = g2 * y) (he : g = g2 * e) :
    y.Coprime (ap * bp * e) ∧ ap * bp * e ≠ 0 ∧ ∀ N : Int, x = g2 * N → N * (da * db : Nat) = (na * db + nb * da) * (ap * bp * e : Nat) := by
  have g0 : 0 < g := by rcases Nat.eq_zero_or_pos g with h | h; (rw [h] at hap; simp at hap; exact absurd hap hda); exact h
  have ap0 : 0 < ap := by rcases Nat.eq_zero_or_pos ap with h | h; (rw [h] at hap; simp at hap; exact absurd hap hda); exact h
  have bp0 : 0 < bp := by rcases Nat.eq_zero_or_pos bp with h | h; (rw [h] at hbp; simp at hbp; exact absurd hbp hdb); exact h
  have e0 : 0 < e := by rcases Nat.eq_zero_or_pos e with h | h; (rw [h] at he; simp at he; omega); exact h
  have g20 : 0 < g2 := by rcases Nat.eq_zero_or_pos g2 with h | h; (rw [h] at he; simp at he; omega); exact h
  have habp : ap.Coprime bp := by
    have := Nat.coprime_div_gcd_div_gcd (m := da) (n := db) (by omega)
    rw [← hg] at this
    rwa [show da / g = ap by rw [hap]; exact Nat.mul_div_cancel_left _ g0, show db / g = bp by rw [hbp]; exact Nat.mul_div_cancel_left _ g0] at this
  have hye : y.Coprime e := by
    have := Nat.coprime_div_gcd_div_gcd (m := x.natAbs) (n := g) (by omega)
    rw [← hg2] at this
    rwa [show x.natAbs / g2 = y by rw [hy]; exact Nat.mul_div_cancel_left _ g20, show g / g2 = e by rw [he]; exact Nat.mul_div_cancel_left _ g20] at this
  have hna : na.natAbs.Coprime ap := Nat.Coprime.coprime_dvd_right ⟨g, by rw [hap, Nat.mul_comm]⟩ ha
  have hnb : nb.natAbs.Coprime bp := Nat.Coprime.coprime_dvd_right ⟨g, by rw [hbp, Nat.mul_comm]⟩ hb
  have xap : x.natAbs.Coprime ap := by
    have h1 : (na * bp).natAbs.Coprime ap := by rw [Int.natAbs_mul]; exact Nat.Coprime.mul_left hna (by simpa using habp.symm)
    unfold Nat.Coprime at h1 ⊢
    have := Int.gcd_add_mul_right_left (ap : Int) (na * bp) nb
    simp only [Int.gcd, Int.natAbs_natCast] at this
    rw [hx, this, h1]
  have xbp : x.natAbs.Coprime bp := by
    have h1 : (nb * ap).natAbs.Coprime bp := by rw [Int.natAbs_mul]; exact Nat.Coprime.mul_left hnb (by simpa using habp)
    unfold Nat.Coprime at h1 ⊢
    have := Int.gcd_add_mul_right_left (bp : Int) (nb * ap) na
    simp only [Int.gcd, Int.natAbs_natCast] at this
    rw [hx, Int.add_comm, this, h1]
  have ydx : y ∣ x.natAbs := ⟨g2, by rw [hy, Nat.mul_comm]⟩
  refine ⟨Nat.Coprime.mul_right (Nat.Coprime.mul_right (Nat.Coprime.coprime_dvd_left ydx xap) (Nat.Coprime.coprime_dvd_left ydx xbp)) hye, ?_, fun N hN => ?_⟩
  · have := Nat.mul_pos (Nat.mul_pos ap0 bp0) e0
    omega
  · have e1 : na * (db : Int) + nb * (da : Int) = g * x := by
      rw [hx, hap, hbp]; push_cast
      rw [Int.mul_add, Int.mul_left_comm na, Int.mul_left_comm nb]
    rw [e1, hN, hap, hbp, he]
    push_cast
    simp only [Int.mul_assoc, Int.mul_left_comm, Int.mul_comm]
theorem mul_low {na nb : Int} {da db g h xa xb ya yb : Nat} (ha : na.natAbs.Coprime da) (hb : nb.natAbs.Coprime db) (hda : da ≠ 0) (hdb : db ≠ 0)
    (hg : g = Nat.gcd na.natAbs db) (hh : h = Nat.gcd nb.natAbs da) (e1 : na.natAbs = g * xa) (e2 : db = g * yb) (e3 : nb.natAbs = h * xb) (e4 : da = h * ya) :
    (xa * xb).Coprime (ya * yb) ∧ ya * yb ≠ 0 ∧ na.natAbs * nb.natAbs * (ya * yb) = (xa * xb) * (da * db) := by
  have g0 : 0 < g := by rcases Nat.eq_zero_or_pos g with h | h; (rw [h] at e2; simp at e2; exact absurd e2 hdb); exact h
  have h0 : 0 < h := by rcases Nat.eq_zero_or_pos h with h | h; (rw [h] at e4; simp at e4; exact absurd e4 hda); exact h
  have ya0 : ya ≠ 0 := by rintro rfl; simp at e4; exact hda e4
  have yb0 : yb ≠ 0 := by rintro rfl; simp at e2; exact hdb e2
  have c1 : xa.Coprime yb := by
    have := Nat.coprime_div_gcd_div_gcd (m := na.natAbs) (n := db) (by omega)
    rw [← hg] at this
    rwa [show na.natAbs / g = xa by rw [e1]; exact Nat.mul_div_cancel_left _ g0, show db / g = yb by rw [e2]; exact Nat.mul_div_cancel_left _ g0] at this
  have c2 : xb.Coprime ya := by
    have := Nat.coprime_div_gcd_div_gcd (m := nb.natAbs) (n := da) (by omega)
    rw [← hh] at this
    rwa [show nb.natAbs / h = xb by rw [e3]; exact Nat.mul_div_cancel_left _ h0, show da / h = ya by rw [e4]; exact Nat.mul_div_cancel_left _ h0] at this
  have c3 : xa.Coprime ya := Nat.Coprime.coprime_dvd_left ⟨g, by rw [e1, Nat.mul_comm]⟩ (Nat.Coprime.coprime_dvd_right ⟨h, by rw [e4, Nat.mul_comm]⟩ ha)
  have c4 : xb.Coprime yb := Nat.Coprime.coprime_dvd_left ⟨h, by rw [e3, Nat.mul_comm]⟩ (Nat.Coprime.coprime_dvd_right ⟨g, by rw [e2, Nat.mul_comm]⟩ hb)
  refine ⟨Nat.Coprime.mul_left (Nat.Coprime.mul_right c3 c1) (Nat.Coprime.mul_right c2 c4), Nat.mul_ne_zero ya0 yb0, ?_⟩
  rw [e1, e2, e3, e4]
  simp only [Nat.mul_left_comm, Nat.mul_comm]
end Go.Proofs.YthfjbpbgnoonpaaGreatDoor
