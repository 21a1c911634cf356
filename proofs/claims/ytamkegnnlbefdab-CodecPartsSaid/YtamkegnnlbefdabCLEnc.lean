/- The walk of the law CodecEncodes. -/
import Derived.Test.YtamkegnnlbefdabCoN
namespace Go.Proofs.Ytamkegnnlbefdab
open Go.RowKit

theorem bsz_le {rs : List Rc} {K : Nat} (h : ∀ i (hi : i < rs.length), rs[i].2.length ≤ K) : bsz rs ≤ rs.length * K := by
  induction rs with
  | nil => simp [bsz]
  | cons r rs ih =>
    have h0 := h 0 (by simp)
    have := ih (fun i hi => by have := h (i + 1) (by simpa using hi); simpa using this)
    simp only [bsz, List.length_cons, Nat.add_mul, List.getElem_cons_zero] at *
    omega
set_option maxRecDepth 100000 in
set_option maxHeartbeats 8000000 in
theorem lawEnc_large {w : World} {A : Option Addr} {n c : Nat} (hn : 40 < n) (hn2 : n ≤ 9223372036854775807) : Calls Try.prog 3 #[.slice A n c] w fun e w' => e = .returned (.bool true) ∧ Below w.heap.size w w' := by
  have HA := Lib.hid (awake_any w)
  have g1 : (n : Int) > 40 := by omega
  go_enter Try.func3, Try.ntmps3
  go_wp2_with fail
  refine HA.out.mono ?_
  rintro e w1 ⟨rfl, hb⟩
  have HB := Lib.hid hb
  clear hb HA
  go_wp2_with fail
  go_ret
  exact ⟨rfl, HB.out⟩
set_option maxRecDepth 100000 in
set_option maxHeartbeats 8000000 in
theorem lawEnc_heavy {w : World} {A : Option Addr} {n c : Nat} {rs : List Rc} (h : Rcs w (.slice A n c) rs) (hn : n ≤ 40) (hs : bsz rs ≤ 9223372036854775807) (hb : 70000 < bsz rs) : Calls Try.prog 3 #[.slice A n c] w fun e w' => e = .returned (.bool true) ∧ Below w.heap.size w w' := by
  have HA := Lib.hid (awake_any w)
  have HZ := Lib.hid (fun W (hw : Below w.heap.size w W) => size_any (h.below hw) hs)
  have g1 : ¬ ((n : Int) > 40) := by omega
  have g2 : ((bsz rs : Nat) : Int) > 70000 := by omega
  clear h hs hb
  generalize bsz rs = z at HZ g2
  go_enter Try.func3, Try.ntmps3
  go_wp2_with fail
  refine HA.out.mono ?_
  rintro e w1 ⟨rfl, hb⟩
  have HB := Lib.hid hb
  clear hb HA
  go_wp2_with fail
  refine (HZ.out _ HB.out).mono ?_
  rintro e w2 ⟨rfl, rfl⟩
  go_wp2_with fail
  go_ret
  exact ⟨rfl, HB.out⟩
set_option maxRecDepth 100000 in
set_option maxHeartbeats 8000000 in
theorem lawEnc_small {w : World} {A : Option Addr} {n c : Nat} {rs : List Rc} (h : Rcs w (.slice A n c) rs) (hn : n ≤ 40) (hb : bsz rs ≤ 70000) : Calls Try.prog 3 #[.slice A n c] w fun e w' => e = .returned (.bool true) ∧ Below w.heap.size w w' := by
  have HA := Lib.hid (awake_any w)
  have HH := Lib.hid h
  have HZ := Lib.hid (fun W (hw : Below w.heap.size w W) => size_any (h.below hw) (by omega))
  have HOw := Lib.hid (fun W (hw : Below w.heap.size w W) => own_any (h.below hw) (by omega))
  have HBl := Lib.hid (show (body rs).length ≤ 1000000000 by rw [body_len]; have := h.len.1; omega)
  have g1 : ¬ ((n : Int) > 40) := by omega
  have g2 : ¬ (((bsz rs : Nat) : Int) > 70000) := by omega
  clear h hb
  generalize bsz rs = z at HZ g2
  go_enter Try.func3, Try.ntmps3
  go_wp2_with fail
  refine HA.out.mono ?_
  rintro e w1 ⟨rfl, hb⟩
  have HB := Lib.hid hb
  clear hb HA
  go_wp2_with fail
  refine (HZ.out _ HB.out).mono ?_
  rintro e w2 ⟨rfl, rfl⟩
  clear HZ
  go_wp2_with fail
  refine (HOw.out _ HB.out).mono ?_
  rintro e w2 ⟨A2, c2, rfl, hR2, hb2⟩
  have HB2 := Lib.hid (HB.out.trans (hb2.mono HB.out.size))
  have HR2 := Lib.hid hR2
  have HE := Lib.hid (encode_any hR2 HBl.out)
  clear hR2 hb2 HOw
  go_wp2_with fail
  refine HE.out.mono ?_
  rintro e w3 ⟨v3, rfl, hy3, hb3⟩
  obtain ⟨E, hE⟩ : ∃ E, firstE rs = E := ⟨_, rfl⟩
  rw [hE]
  have HEq := Lib.hid hE
  have HB3 := Lib.hid (HB2.out.trans (hb3.mono HB2.out.size))
  have HR3 := Lib.hid (HR2.out.below hb3)
  have HY3 := Lib.hid hy3
  have HF := Lib.hid (refEncode_any (HH.out.below HB3.out) HBl.out)
  clear hE hb3 hy3 HE HR2
  go_wp2_with fail
  refine HF.out.mono ?_
  rintro e w4 ⟨v4, rfl, hy4, hb4⟩
  rw [HEq.out]
  have HB4 := Lib.hid (HB3.out.trans (hb4.mono HB3.out.size))
  have HBk := Lib.hid (back_any (HR3.out.below hb4) (by omega))
  have k1 := (HY3.out.below hb4).conv
  have k2 := hy4.conv
  clear hb4 hy4 HF HR3
  go_wp2_with fail
  refine HBk.out.mono ?_
  rintro e w5 ⟨A5, c5, rfl, hR5, hb5⟩
  have HB5 := Lib.hid (HB4.out.trans (hb5.mono HB4.out.size))
  have HSm := Lib.hid (same_any hR5 (HH.out.below HB5.out))
  clear hR5 hb5 HBk k1 k2
  go_wp2_with fail
  refine HSm.out.mono ?_
  rintro e w6 ⟨rfl, hb6⟩
  have HB6 := Lib.hid (HB5.out.trans (hb6.mono HB5.out.size))
  clear hb6 HSm
  go_wp2_with fail
  go_ret
  exact ⟨rfl, HB6.out⟩
/-- The law. -/
theorem lawEnc {w : World} {A : Option Addr} {n c : Nat} {rs : List Rc} (h : Rcs w (.slice A n c) rs) (hz : ∀ i (hi : i < rs.length), rs[i].2.length ≤ 140737488351232) : Calls Try.prog 3 #[.slice A n c] w fun e w' => e = .returned (.bool true) ∧ Below w.heap.size w w' := by
  by_cases hn : n ≤ 40
  · have hs : bsz rs ≤ 9223372036854775807 := by
      have h1 := bsz_le hz
      have h2 := h.len.1
      have h3 : rs.length * 140737488351232 ≤ 40 * 140737488351232 := Nat.mul_le_mul_right _ (by omega)
      omega
    by_cases hb : bsz rs ≤ 70000
    · exact lawEnc_small h hn hb
    · exact lawEnc_heavy h hn hs (by omega)
  · exact lawEnc_large (by omega) (by have := h.len; omega)
end Go.Proofs.Ytamkegnnlbefdab
