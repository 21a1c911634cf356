/- The walk of the law CodecDecodes. -/
import Derived.Test.YtamkegnnlbefdabCoO
import Derived.Test.YtamkegnnlbefdabCoL
namespace Go.Proofs.Ytamkegnnlbefdab
open Go.RowKit

/-- The copy of an argument. -/
theorem arg_copy {w W : World} {A : Option Addr} {n c : Nat} {l : List UInt8} (h : By w (.slice A n c) l) (hl : l.length ≤ 100000) (hb : Below w.heap.size w W) (ty : TypeId) :
    ∃ A2 c2 W2, (Builtin.append_ #[27, 27] ty #[.slice (some ⟨W.heap.size, 0, none⟩) 0 0, .slice A n c]).run Try.prog (W.alloc (.cells #[] u8T)) = .ok (.slice A2 n c2) W2 ∧ By W2 (.slice A2 n c2) l ∧ Below W.heap.size W W2 := by
  obtain ⟨A2, c2, W2, hr, hT, hb2⟩ := copyT (h.below hb) (by omega) ty
  exact ⟨A2, c2, W2, hr, hT.by_, hb2⟩
set_option maxRecDepth 100000 in
set_option maxHeartbeats 8000000 in
theorem lawDec_large {w : World} {A : Option Addr} {n c : Nat} (hn : 2000 < n) (hn2 : n ≤ 9223372036854775807) : Calls Try.prog 4 #[.slice A n c] w fun e w' => e = .returned (.bool true) ∧ Below w.heap.size w w' := by
  have HA := Lib.hid (awake_any w)
  have g1 : (n : Int) > 2000 := by omega
  go_enter Try.func4, Try.ntmps4
  go_wp2_with fail
  refine HA.out.mono ?_
  rintro e w1 ⟨rfl, hb⟩
  have HB := Lib.hid hb
  clear hb HA
  go_wp2_with fail
  go_ret
  exact ⟨rfl, HB.out⟩
/-- What both give, at any bytes. -/
theorem dec_both {w' : World} {w : World} {b : List UInt8} {e : Ending} (h : DecP Rcs w b e w') : ∃ A n c, e = .returned (.tuple #[.slice A n c, .int .i64 (if (decS b).isSome then 0 else 4)]) ∧ Rcs w' (.slice A n c) ((decS b).getD []) ∧ Below w.heap.size w w' ∧ n = ((decS b).getD []).length := by
  obtain ⟨hb, ⟨rs, A, n, c, h1, h2, h3⟩ | ⟨h1, h2⟩⟩ := h
  · exact ⟨A, n, c, by rw [h2, h1]; rfl, by rw [h1]; exact h3, hb, by rw [h1]; exact h3.len.1⟩
  · exact ⟨none, 0, 0, by rw [h2, h1]; rfl, by rw [h1]; exact Rcs.nil _, hb, by rw [h1]; rfl⟩
theorem dec_len {b : List UInt8} : ((decS b).getD []).length ≤ b.length := by
  cases h : decS b with
  | none => simp
  | some rs =>
    have h1 := congrArg List.length (decS_back h).1
    rw [body_len] at h1
    simp only [Option.getD_some]
    omega
set_option maxRecDepth 100000 in
set_option maxHeartbeats 8000000 in
theorem lawDec_small {w : World} {A : Option Addr} {n c : Nat} {l : List UInt8} (h : By w (.slice A n c) l) (hn : n ≤ 2000) : Calls Try.prog 4 #[.slice A n c] w fun e w' => e = .returned (.bool true) ∧ Below w.heap.size w w' := by
  have HA := Lib.hid (awake_any w)
  have HH := Lib.hid h
  have HL := Lib.hid h.len.1
  have g1 : ¬ ((n : Int) > 2000) := by omega
  clear h
  go_enter Try.func4, Try.ntmps4
  go_wp2_with fail
  refine HA.out.mono ?_
  rintro e w1 ⟨rfl, hb⟩
  obtain ⟨A2, c2, w2, hr, hy, hb2⟩ := arg_copy HH.out (by have := HL.out; omega) hb 27
  have HB := Lib.hid (hb.trans (hb2.mono hb.size))
  have HR := Lib.hid hr
  have HY := Lib.hid hy
  have HD := Lib.hid (decode_any (w := w2) hy (by have := HL.out; omega))
  clear hb hb2 hr hy HA
  go_wp2_with (at_builtin; go_loud (refine wpList_app rfl (.tmp 13) (.tmp 14) _ rfl rfl rfl HR.out ?_))
  refine HD.out.mono ?_
  rintro e w3 hP
  obtain ⟨A3, n3, c3, rfl, hR3, hb3, hn3⟩ := dec_both hP
  obtain ⟨E, hE⟩ : ∃ E : Int, (if (decS l).isSome then 0 else 4) = E := ⟨_, rfl⟩
  obtain ⟨rs, hrs⟩ : ∃ rs, (decS l).getD [] = rs := ⟨_, rfl⟩
  have hrl : rs.length ≤ 2000 := by rw [← hrs]; have := dec_len (b := l); have := HL.out; omega
  rw [hrs] at hR3 hn3
  rw [hE]
  have HR3 := Lib.hid hR3
  have HB3 := Lib.hid (HB.out.trans (hb3.mono HB.out.size))
  have HF := Lib.hid (refDecode_any (HH.out.below HB3.out) (by have := HL.out; omega))
  have HY3 := Lib.hid (HY.out.below hb3)
  have HE := Lib.hid hE
  have HS := Lib.hid hrs
  have hn3' : n3 ≤ 2000 := by omega
  clear hP hR3 hb3 hn3 HD HR hE hrs hrl
  go_wp2_with fail
  refine HF.out.mono ?_
  rintro e w4 hP
  obtain ⟨A4, n4, c4, rfl, hR4, hb4, -⟩ := dec_both hP
  rw [HS.out] at hR4
  rw [HE.out]
  have HR4 := Lib.hid hR4
  have HB4 := Lib.hid (HB3.out.trans (hb4.mono HB3.out.size))
  have HY4 := Lib.hid (HY3.out.below hb4)
  have HBk := Lib.hid (back_any (HR3.out.below hb4) (by omega))
  clear hP hR4 hb4 HF HR3
  go_wp2_with fail
  refine HBk.out.mono ?_
  rintro e w5 ⟨A5, c5, rfl, hR5, hb5⟩
  have HSm := Lib.hid (same_any hR5 (HR4.out.below hb5))
  have HB5 := Lib.hid (HB4.out.trans (hb5.mono HB4.out.size))
  have HY5 := Lib.hid (HY4.out.below hb5)
  clear hR5 hb5 HBk
  go_wp2_with fail
  refine HSm.out.mono ?_
  rintro e w6 ⟨rfl, hb6⟩
  have HB6 := Lib.hid (HB5.out.trans (hb6.mono HB5.out.size))
  have k1 := (HY5.out.below hb6).conv
  have k2 := (HH.out.below HB6.out).conv
  clear hb6 HSm
  go_wp2_with fail
  go_ret
  exact ⟨rfl, HB6.out⟩
/-- The law. -/
theorem lawDec {w : World} {A : Option Addr} {n c : Nat} {l : List UInt8} (h : By w (.slice A n c) l) : Calls Try.prog 4 #[.slice A n c] w fun e w' => e = .returned (.bool true) ∧ Below w.heap.size w w' := by
  by_cases hn : n ≤ 2000
  · exact lawDec_small h hn
  · exact lawDec_large (by omega) (by have := h.len; omega)
end Go.Proofs.Ytamkegnnlbefdab
