/- The walk of the law CodecRoundTrip. -/
import Derived.Test.YtamkegnnlbefdabCLEnc
import Derived.Test.YtamkegnnlbefdabCLDec
namespace Go.Proofs.Ytamkegnnlbefdab
open Go.RowKit

set_option maxRecDepth 100000 in
set_option maxHeartbeats 16000000 in
theorem lawRt_large {w : World} {A B : Option Addr} {n c m d : Nat} (hn : 40 < n) (hn2 : n ≤ 9223372036854775807) : Calls Try.prog 8 #[.slice A n c, .slice B m d] w fun e w' => e = .returned (.bool true) ∧ Below w.heap.size w w' := by
  have HA := Lib.hid (awake_any w)
  have g1 : (n : Int) > 40 := by omega
  go_enter Try.func8, Try.ntmps8
  go_wp2_with fail
  refine HA.out.mono ?_
  rintro e w1 ⟨rfl, hb⟩
  have HB := Lib.hid hb
  clear hb HA
  go_wp2_with fail
  go_ret
  exact ⟨rfl, HB.out⟩
set_option maxRecDepth 100000 in
set_option maxHeartbeats 16000000 in
theorem lawRt_heavy {w : World} {A B : Option Addr} {n c m d : Nat} {rs : List Rc} (h : Rcs w (.slice A n c) rs) (hn : n ≤ 40) (hs : bsz rs ≤ 9223372036854775807) (hb : 2000 < bsz rs) : Calls Try.prog 8 #[.slice A n c, .slice B m d] w fun e w' => e = .returned (.bool true) ∧ Below w.heap.size w w' := by
  have HA := Lib.hid (awake_any w)
  have HZ := Lib.hid (fun W (hw : Below w.heap.size w W) => size_any (h.below hw) hs)
  have g1 : ¬ ((n : Int) > 40) := by omega
  have g2 : ((bsz rs : Nat) : Int) > 2000 := by omega
  clear h hs hb
  generalize bsz rs = z at HZ g2
  go_enter Try.func8, Try.ntmps8
  go_wp2_with fail
  refine HA.out.mono ?_
  rintro e w1 ⟨rfl, hb⟩
  have HB := Lib.hid hb
  clear hb HA
  go_wp2_with fail
  refine (HZ.out _ HB.out).mono ?_
  rintro e w2 ⟨rfl, rfl⟩
  clear HZ
  go_wp2_with fail
  go_ret
  exact ⟨rfl, HB.out⟩
set_option maxRecDepth 100000 in
set_option maxHeartbeats 16000000 in
theorem lawRt_bytes {w : World} {A B : Option Addr} {n c m d : Nat} {rs : List Rc} (h : Rcs w (.slice A n c) rs) (hn : n ≤ 40) (hs : bsz rs ≤ 9223372036854775807) (hb : bsz rs ≤ 2000) (hm : 2000 < m) (hm2 : m ≤ 9223372036854775807) : Calls Try.prog 8 #[.slice A n c, .slice B m d] w fun e w' => e = .returned (.bool true) ∧ Below w.heap.size w w' := by
  have HA := Lib.hid (awake_any w)
  have HZ := Lib.hid (fun W (hw : Below w.heap.size w W) => size_any (h.below hw) hs)
  have g1 : ¬ ((n : Int) > 40) := by omega
  have g2 : ¬ (((bsz rs : Nat) : Int) > 2000) := by omega
  have g3 : (m : Int) > 2000 := by omega
  clear h hs hb
  generalize bsz rs = z at HZ g2
  go_enter Try.func8, Try.ntmps8
  go_wp2_with fail
  refine HA.out.mono ?_
  rintro e w1 ⟨rfl, hb⟩
  have HB := Lib.hid hb
  clear hb HA
  go_wp2_with fail
  refine (HZ.out _ HB.out).mono ?_
  rintro e w2 ⟨rfl, rfl⟩
  clear HZ
  go_wp2_with fail
  go_ret
  exact ⟨rfl, HB.out⟩
set_option maxRecDepth 100000 in
set_option maxHeartbeats 16000000 in
theorem lawRt_small {w : World} {A B : Option Addr} {n c m d : Nat} {rs : List Rc} {b : List UInt8} (h : Rcs w (.slice A n c) rs) (hy : By w (.slice B m d) b) (hn : n ≤ 40) (hs : bsz rs ≤ 9223372036854775807) (hb : bsz rs ≤ 2000) (hm : m ≤ 2000) : Calls Try.prog 8 #[.slice A n c, .slice B m d] w fun e w' => e = .returned (.bool true) ∧ Below w.heap.size w w' := by
  have HA := Lib.hid (awake_any w)
  have HZ := Lib.hid (fun W (hw : Below w.heap.size w W) => size_any (h.below hw) hs)
  have g1 : ¬ ((n : Int) > 40) := by omega
  have g2 : ¬ (((bsz rs : Nat) : Int) > 2000) := by omega
  have g3 : ¬ ((m : Int) > 2000) := by omega
  have HH := Lib.hid h
  have HY := Lib.hid hy
  have HYl := Lib.hid (show b.length ≤ 100000000 by have := hy.len.1; omega)
  have HOw := Lib.hid (fun W (hw : Below w.heap.size w W) => own_any (h.below hw) (by omega))
  have HBl := Lib.hid (show (body rs).length ≤ 100000000 by rw [body_len]; have := h.len.1; omega)
  clear h hs hb hy
  generalize bsz rs = z at HZ g2
  go_enter Try.func8, Try.ntmps8
  go_wp2_with fail
  refine HA.out.mono ?_
  rintro e w1 ⟨rfl, hb⟩
  have HB := Lib.hid hb
  clear hb HA
  go_wp2_with fail
  refine (HZ.out _ HB.out).mono ?_
  rintro e w2 ⟨rfl, rfl⟩
  clear HZ
  go_wp2_with fail
  refine (HOw.out _ HB.out).mono ?_
  rintro e w2 ⟨A2, c2, rfl, hR2, hb2⟩
  have HB2 := Lib.hid (HB.out.trans (hb2.mono HB.out.size))
  have HE := Lib.hid (encode_any hR2 (by have := HBl.out; omega))
  clear hR2 hb2 HOw
  go_wp2_with fail
  refine HE.out.mono ?_
  rintro e w3 ⟨v3, rfl, hy3, hb3⟩
  have HB3 := Lib.hid (HB2.out.trans (hb3.mono HB2.out.size))
  by_cases hf : firstE rs = 0
  · have he3 : encS rs = body rs := by unfold encS; rw [if_pos hf]
    rw [hf]
    rw [he3] at hy3
    obtain ⟨A3, c3, e3, -⟩ := hy3.form
    subst e3
    have HD := Lib.hid ((decode_any hy3 HBl.out).mono (fun e w' hP => DecP.some hP (decS_enc (firstE_ok.1 hf))))
    clear hb3 hy3 HE he3 hf
    go_wp2_with fail
    refine HD.out.mono ?_
    rintro e w4 ⟨hb4, A4, n4, c4, rfl, hR4⟩
    have HB4 := Lib.hid (HB3.out.trans (hb4.mono HB3.out.size))
    have hn4 : n4 ≤ 10000000 := by have h1 := hR4.len.1; have h2 := HH.out.len.1; omega
    have HBk := Lib.hid (back_any hR4 hn4)
    clear hb4 hR4 HD
    go_wp2_with fail
    refine HBk.out.mono ?_
    rintro e w5 ⟨A5, c5, rfl, hR5, hb5⟩
    have HB5 := Lib.hid (HB4.out.trans (hb5.mono HB4.out.size))
    have HSm := Lib.hid (same_any hR5 (HH.out.below HB5.out))
    clear hR5 hb5 HBk
    go_wp2_with fail
    refine HSm.out.mono ?_
    rintro e w6 ⟨rfl, hb6⟩
    have HB6 := Lib.hid (HB5.out.trans (hb6.mono HB5.out.size))
    clear hb6 HSm
    cases hdc : decS b with
    | none =>
      have HD2 := Lib.hid ((decode_any (HY.out.below HB6.out) HYl.out).mono (fun e w' hP => DecP.none hP hdc))
      clear hdc
      go_wp2_with fail
      refine HD2.out.mono ?_
      rintro e y1 ⟨hb, rfl⟩
      have HT1 := Lib.hid (HB6.out.trans (hb.mono HB6.out.size))
      clear hb HD2
      go_wp2_with fail
      go_ret
      exact ⟨rfl, HT1.out⟩
    | some rs2 =>
      have HD2 := Lib.hid ((decode_any (HY.out.below HB6.out) HYl.out).mono (fun e w' hP => DecP.some hP hdc))
      have HBK := Lib.hid (decS_back hdc)
      clear hdc
      go_wp2_with fail
      refine HD2.out.mono ?_
      rintro e y1 ⟨hb, A7, n7, c7, rfl, hR7⟩
      have HT1 := Lib.hid (HB6.out.trans (hb.mono HB6.out.size))
      have HE7 := Lib.hid (encode_any hR7 (by rw [HBK.out.1]; have := HYl.out; omega))
      clear hb HD2 hR7
      go_wp2_with fail
      refine HE7.out.mono ?_
      rintro e y2 ⟨v8, rfl, hy8, hb8⟩
      have hf8 : firstE rs2 = 0 := firstE_ok.2 HBK.out.2
      have he8 : encS rs2 = b := by unfold encS; rw [if_pos hf8, HBK.out.1]
      rw [hf8]
      rw [he8] at hy8
      have HT2 := Lib.hid (HT1.out.trans (hb8.mono HT1.out.size))
      have k1 := hy8.conv
      have k2 := (HY.out.below HT2.out).conv
      clear hb8 hy8 hf8 he8 HE7
      go_wp2_with fail
      go_ret
      exact ⟨rfl, HT2.out⟩
  · obtain ⟨E, hE⟩ : ∃ E, firstE rs = E := ⟨_, rfl⟩
    rw [hE] at hf ⊢
    clear hE hb3 hy3 HE
    cases hdc : decS b with
    | none =>
      have HD2 := Lib.hid ((decode_any (HY.out.below HB3.out) HYl.out).mono (fun e w' hP => DecP.none hP hdc))
      clear hdc
      go_wp2_with fail
      refine HD2.out.mono ?_
      rintro e y1 ⟨hb, rfl⟩
      have HT1 := Lib.hid (HB3.out.trans (hb.mono HB3.out.size))
      clear hb HD2
      go_wp2_with fail
      go_ret
      exact ⟨rfl, HT1.out⟩
    | some rs2 =>
      have HD2 := Lib.hid ((decode_any (HY.out.below HB3.out) HYl.out).mono (fun e w' hP => DecP.some hP hdc))
      have HBK := Lib.hid (decS_back hdc)
      clear hdc
      go_wp2_with fail
      refine HD2.out.mono ?_
      rintro e y1 ⟨hb, A7, n7, c7, rfl, hR7⟩
      have HT1 := Lib.hid (HB3.out.trans (hb.mono HB3.out.size))
      have HE7 := Lib.hid (encode_any hR7 (by rw [HBK.out.1]; have := HYl.out; omega))
      clear hb HD2 hR7
      go_wp2_with fail
      refine HE7.out.mono ?_
      rintro e y2 ⟨v8, rfl, hy8, hb8⟩
      have hf8 : firstE rs2 = 0 := firstE_ok.2 HBK.out.2
      have he8 : encS rs2 = b := by unfold encS; rw [if_pos hf8, HBK.out.1]
      rw [hf8]
      rw [he8] at hy8
      have HT2 := Lib.hid (HT1.out.trans (hb8.mono HT1.out.size))
      have k1 := hy8.conv
      have k2 := (HY.out.below HT2.out).conv
      clear hb8 hy8 hf8 he8 HE7
      go_wp2_with fail
      go_ret
      exact ⟨rfl, HT2.out⟩
/-- The law. -/
theorem lawRt {w : World} {A B : Option Addr} {n c m d : Nat} {rs : List Rc} {b : List UInt8} (h : Rcs w (.slice A n c) rs) (hz : ∀ i (hi : i < rs.length), rs[i].2.length ≤ 140737488351232) (hy : By w (.slice B m d) b) : Calls Try.prog 8 #[.slice A n c, .slice B m d] w fun e w' => e = .returned (.bool true) ∧ Below w.heap.size w w' := by
  by_cases hn : n ≤ 40
  · have hs : bsz rs ≤ 9223372036854775807 := by
      have h1 := bsz_le hz
      have h2 := h.len.1
      have h3 : rs.length * 140737488351232 ≤ 40 * 140737488351232 := Nat.mul_le_mul_right _ (by omega)
      omega
    by_cases hb : bsz rs ≤ 2000
    · by_cases hm : m ≤ 2000
      · exact lawRt_small h hy hn hs hb hm
      · exact lawRt_bytes h hn hs hb (by omega) (by have := hy.len; omega)
    · exact lawRt_heavy h hn hs (by omega)
  · exact lawRt_large (by omega) (by have := h.len; omega)
end Go.Proofs.Ytamkegnnlbefdab
