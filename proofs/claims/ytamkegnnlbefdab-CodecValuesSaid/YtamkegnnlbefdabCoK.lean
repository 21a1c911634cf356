/- The examples of the document. -/
import Derived.Test.YtamkegnnlbefdabCoI
import Derived.Test.YtamkegnnlbefdabCoJ
namespace Go.Proofs.Ytamkegnnlbefdab
open Go.RowKit

theorem DecP.some {R : World → Value → List Rc → Prop} {w w' : World} {b : List UInt8} {e : Ending} {rs : List Rc} (h : DecP R w b e w') (hd : decS b = some rs) : Below w.heap.size w w' ∧ ∃ A n c, e = .returned (.tuple #[.slice A n c, .int .i64 0]) ∧ R w' (.slice A n c) rs := by
  obtain ⟨hb, ⟨rs', A, n, c, h1, h2, h3⟩ | ⟨h1, _⟩⟩ := h
  · rw [hd] at h1
    injection h1 with h1
    subst h1
    exact ⟨hb, A, n, c, h2, h3⟩
  · rw [hd] at h1; cases h1
theorem DecP.none {R : World → Value → List Rc → Prop} {w w' : World} {b : List UInt8} {e : Ending} (h : DecP R w b e w') (hd : decS b = none) : Below w.heap.size w w' ∧ e = .returned (.tuple #[.slice none 0 0, .int .i64 4]) := by
  obtain ⟨hb, ⟨rs', A, n, c, h1, _⟩ | ⟨_, h2⟩⟩ := h
  · rw [hd] at h1; cases h1
  · exact ⟨hb, h2⟩
theorem by_lit (W : World) (l : List UInt8) (hl : l.length ≤ 9223372036854775807) : By (W.alloc (.cells (l.map encB).toArray u8T)) (.slice (some ⟨W.heap.size, 0, none⟩) l.length l.length) l := (OwnB.made (base := W.heap.size) W l (Nat.le_refl _) hl).by_
theorem aw_rcs (w : World) : Rcs ((w.alloc (.cells #[.int .u8 7, .int .u8 8] u8T)).alloc (.cells #[.int .i64 1, .slice (some ⟨w.heap.size, 0, none⟩) 2 2, .int .i64 2, .slice none 0 0] prT)) (.slice (some ⟨w.heap.size + 1, 0, none⟩) 2 2) [(1, [7, 8]), (2, [])] := by
  have h0 := by_lit w [7, 8] (by simp)
  have hb : Below (w.alloc (.cells #[.int .u8 7, .int .u8 8] u8T)).heap.size (w.alloc (.cells #[.int .u8 7, .int .u8 8] u8T)) ((w.alloc (.cells #[.int .u8 7, .int .u8 8] u8T)).alloc (.cells #[.int .i64 1, .slice (some ⟨w.heap.size, 0, none⟩) 2 2, .int .i64 2, .slice none 0 0] prT)) := (Below.refl _ _).alloc (Nat.le_refl _) _
  have hk := Blk.new (w.alloc (.cells #[.int .u8 7, .int .u8 8] u8T)) [.int .i64 1, .slice (some ⟨w.heap.size, 0, none⟩) 2 2, .int .i64 2, .slice none 0 0] prT
  have hs : (w.alloc (.cells #[.int .u8 7, .int .u8 8] u8T)).heap.size = w.heap.size + 1 := by simp
  rw [hs] at hk
  refine ⟨_, 2, rfl, Nat.le_refl _, by omega, fun i hi => ?_⟩
  match i, hi with
  | 0, _ => exact ⟨w.heap.size + 1, 0, _, rfl, hk.lt, hk.cell rfl, hk.cell rfl, h0.below hb⟩
  | 1, _ => exact ⟨w.heap.size + 1, 0, _, rfl, hk.lt, hk.cell rfl, hk.cell rfl, By.nil _⟩
def awRs : List Rc := [(1, [7, 8]), (2, [])]
theorem aw1 : firstE awRs = 0 := by decide
theorem aw2 : encS awRs = [1, 0, 2, 7, 8, 2, 0, 0] := by decide
theorem aw3 : decS [1, 0, 2, 7, 8, 2, 0, 0] = some awRs := by decide
theorem aw4 : decS [1, 0, 2, 7] = none := by decide
theorem aw5 : be 300 2 = [1, 44] := by decide
set_option maxRecDepth 100000 in
set_option maxHeartbeats 8000000 in
theorem awake_any (w : World) : Calls Try.prog 10 #[] w fun e w' => e = .returned (.bool true) ∧ Below w.heap.size w w' := by
  have h1 := aw_rcs w
  have hE := encode_any h1 (by decide)
  have hb1 : Below w.heap.size w ((w.alloc (.cells #[.int .u8 7, .int .u8 8] u8T)).alloc (.cells #[.int .i64 1, .slice (some ⟨w.heap.size, 0, none⟩) 2 2, .int .i64 2, .slice none 0 0] prT)) := ((Below.refl _ w).alloc (Nat.le_refl _) _).alloc (by simp) _
  have HE := Lib.hid hE
  have HB1 := Lib.hid hb1
  clear h1 hE hb1
  go_enter Try.func10, Try.ntmps10
  go_wp2_with fail
  refine HE.out.mono ?_
  rintro e w2 ⟨v2, rfl, hy2, hb2⟩
  rw [show firstE [(1, [7, 8]), (2, [])] = 0 from aw1]
  replace hy2 : By w2 v2 [1, 0, 2, 7, 8, 2, 0, 0] := by rw [← aw2]; exact hy2
  have HB2 := Lib.hid (HB1.out.trans (hb2.mono HB1.out.size))
  have HY2 := Lib.hid hy2
  have hD := decode_any (by_lit w2 [1, 0, 2, 7, 8, 2, 0, 0] (by simp)) (by decide)
  have hb3 : Below w2.heap.size w2 (w2.alloc (.cells ([1, 0, 2, 7, 8, 2, 0, 0].map encB).toArray u8T)) := (Below.refl _ _).alloc (Nat.le_refl _) _
  have HD := Lib.hid (show Calls Try.prog 17 #[.slice (some ⟨w2.heap.size, 0, none⟩) 8 8] (w2.alloc (.cells #[.int .u8 1, .int .u8 0, .int .u8 2, .int .u8 7, .int .u8 8, .int .u8 2, .int .u8 0, .int .u8 0] u8T)) _ from hD)
  have HB3 := Lib.hid hb3
  clear hy2 hb2 HE hD hb3 HB1
  go_wp2_with fail
  refine HD.out.mono ?_
  rintro e w3 hP
  obtain ⟨hb3, A3, n3, c3, rfl, hR⟩ := hP.some aw3
  have HB4 := Lib.hid ((HB3.out.trans (hb3.mono HB3.out.size)))
  have HR3 := Lib.hid hR
  have HU := Lib.hid (show Calls Try.prog 20 #[.slice none 0 0, .int .u64 300, .int .i64 2] w3 _ from appendUint_any (w := w3) (A := none) (m := 0) (c := 0) (n := 300) (s := 2) (l := []) (By.nil _) (by omega) (by omega) (by decide) (by omega) (by simp))
  clear hP hb3 hR HD HB3
  go_wp2_with fail
  refine HU.out.mono ?_
  rintro e w4 ⟨v4, rfl, hy4, hb4⟩
  rw [List.nil_append, aw5] at hy4
  have HY4 := Lib.hid hy4
  have HB5 := Lib.hid hb4
  have HU2 := Lib.hid (show Calls Try.prog 20 #[.slice none 0 0, .int .u64 300, .int .i64 1] w4 _ from appendUint_range (w := w4) (A := none) (m := 0) (c := 0) (n := 300) (s := 1) (by omega) (by omega) (by decide))
  clear hy4 hb4 HU
  go_wp2_with fail
  refine HU2.out.mono ?_
  rintro e w5 ⟨rfl, rfl⟩
  have hD2 := decode_any (by_lit w4 [1, 0, 2, 7] (by simp)) (by decide)
  have hb6 : Below w4.heap.size w4 (w4.alloc (.cells ([1, 0, 2, 7].map encB).toArray u8T)) := (Below.refl _ _).alloc (Nat.le_refl _) _
  have HD2 := Lib.hid (show Calls Try.prog 17 #[.slice (some ⟨w4.heap.size, 0, none⟩) 4 4] (w4.alloc (.cells #[.int .u8 1, .int .u8 0, .int .u8 2, .int .u8 7] u8T)) _ from hD2)
  have HB6 := Lib.hid hb6
  clear hD2 hb6 HU2
  go_wp2_with fail
  refine HD2.out.mono ?_
  rintro e w6 hP
  obtain ⟨hb7, rfl⟩ := hP.none aw4
  have HB7 := Lib.hid (HB6.out.trans (hb7.mono HB6.out.size))
  have HBa := Lib.hid (HB4.out.trans ((HB5.out.trans (HB7.out.mono HB5.out.size)).mono HB4.out.size))
  have h1 := (HY2.out.below HBa.out).conv
  have h2 := (HY4.out.below HB7.out).conv
  have h3 := HR3.out.below (HB5.out.trans (HB7.out.mono HB5.out.size))
  obtain ⟨hn3, -, -⟩ := h3.len
  obtain ⟨b, off, A5, n5, c5, rfl, hbl, q0, q1, -⟩ := h3.at_ (i := 1) (by decide)
  replace q0 : w6.cell? ⟨b, off + 2, none⟩ = some (.int .i64 2) := q0
  obtain rfl : n3 = 2 := hn3
  have HZ := Lib.hid (HB2.out.trans (HBa.out.mono HB2.out.size))
  clear hP hb7 HD2 HB6 h3 q1 hbl
  go_wp2_with fail
  go_ret
  exact ⟨rfl, HZ.out⟩
end Go.Proofs.Ytamkegnnlbefdab
