/- The helper awake of layer 2's laws. -/
import Derived.Test.YthfjbpbgnoonpaaGreatDoorRS
import Derived.Test.YthfjbpbgnoonpaaGreatDoorRM
namespace Go.Proofs.YthfjbpbgnoonpaaGreatDoor
open Go.RowKit

theorem txt_7 : (⟨#[45, 55, 47, 50]⟩ : ByteArray) = ⟨(txtB true 7 2).toArray⟩ := by
  unfold txtB; rw [dec_small 7 (by omega), dec_small 2 (by omega)]; rfl
theorem txt_10 : (⟨#[49, 47, 48]⟩ : ByteArray) = ⟨(txtB false 1 0).toArray⟩ := by
  unfold txtB; rw [dec_small 1 (by omega), dec_small 0 (by omega)]; rfl
theorem txt_of {q : Rat} {n : Int} {d : Nat} (h1 : q.num = n) (h2 : q.den = d) : txtQ q = txtB (decide (n < 0)) n.natAbs d := by unfold txtQ; rw [h1, h2]
theorem txt_a : (⟨(txtQ (mkRat 2 6 - mkRat 1 2)).toArray⟩ : ByteArray) = ⟨#[45, 49, 47, 54]⟩ := by
  rw [txt_of (n := -1) (d := 6) (by decide +kernel) (by decide +kernel)]
  unfold txtB
  rw [show (-1 : Int).natAbs = 1 from rfl, dec_small 1 (by omega), dec_small 6 (by omega)]; rfl
theorem txt_b : (⟨(txtQ (mkRat (mkRat (-7) 2).floor 1)).toArray⟩ : ByteArray) = ⟨#[45, 52]⟩ := by
  rw [txt_of (n := -4) (d := 1) (by decide +kernel) (by decide +kernel)]
  unfold txtB
  rw [show (-4 : Int).natAbs = 4 from rfl, dec_small 4 (by omega)]; rfl
theorem txt_c : (⟨(txtQ (mkRat (mkRat (-7) 2).ceil 1)).toArray⟩ : ByteArray) = ⟨#[45, 51]⟩ := by
  rw [txt_of (n := -3) (d := 1) (by decide +kernel) (by decide +kernel)]
  unfold txtB
  rw [show (-3 : Int).natAbs = 3 from rfl, dec_small 3 (by omega)]; rfl
theorem parse_7 {w : World} (hV : Vars w) : Calls Tryz.prog 22 #[.string ⟨#[45, 55, 47, 50]⟩] w (OpT w (mkRat (-7) 2) 104) := by
  rw [txt_7]
  refine (parse_txt hV (by rw [dec_small 7 (by omega)]; simp) (by rw [dec_small 2 (by omega)]; simp)).mono ?_
  rintro e w' (⟨h, _⟩ | ⟨_, h, _⟩ | ⟨_, _, h⟩)
  · exact absurd rfl h
  · exact absurd h (by omega)
  · exact h
theorem parse_10 {w : World} (hV : Vars w) : Calls Tryz.prog 22 #[.string ⟨#[49, 47, 48]⟩] w (ErrT w 10) := by
  rw [txt_10]
  refine (parse_txt hV (by rw [dec_small 1 (by omega)]; simp) (by rw [dec_small 0 (by omega)]; simp)).mono ?_
  rintro e w' (⟨h, _⟩ | ⟨_, _, h⟩ | ⟨_, h, _⟩)
  · exact absurd rfl h
  · exact h
  · exact absurd h (by omega)
theorem of_26 {w : World} : Calls Tryz.prog 25 #[.int .i64 2, .int .i64 6] w (OpT w (mkRat 2 6) 2) := of_raw (w := w) 2 6 (by omega) (by omega) (by omega) (by omega)
theorem of_12 {w : World} : Calls Tryz.prog 25 #[.int .i64 1, .int .i64 2] w (OpT w (mkRat 1 2) 2) := of_raw (w := w) 1 2 (by omega) (by omega) (by omega) (by omega)
set_option maxRecDepth 100000 in
set_option maxHeartbeats 8000000 in
theorem awake_any {w : World} (hV : Vars w) : Calls Tryz.prog 11 #[] w fun e w' => e = .returned (.bool true) ∧ Below w.heap.size w w' := by
  have h1 := Lib.hid (fun W : World => of_26 (w := W))
  have h2 := Lib.hid (fun W : World => of_12 (w := W))
  have h3 := Lib.hid (fun W (hw : Below w.heap.size w W) => parse_7 (hV.below hw))
  have h4 := Lib.hid (fun W (hw : Below w.heap.size w W) => parse_10 (hV.below hw))
  have ha := Lib.hid (fun W u v (h1 : RatP W u (mkRat 2 6) 2) (h2 : RatP W v (mkRat 1 2) 2) => sub_any h1 h2 (by omega) (by omega))
  have hf := Lib.hid (fun W u (h1 : RatP W u (mkRat (-7) 2) 104) => floor_any h1 (by omega))
  have hc := Lib.hid (fun W u (h1 : RatP W u (mkRat (-7) 2) 104) => ceil_any h1 (by omega))
  have ta := Lib.hid (fun W u (hw : Below w.heap.size w W) (h1 : RatP W u (mkRat 2 6 - mkRat 1 2) 5) => text_any (hV.tab.below hw) h1 (by omega))
  have tf := Lib.hid (fun W u (hw : Below w.heap.size w W) (h1 : RatP W u (mkRat (mkRat (-7) 2).floor 1) 107) => text_any (hV.tab.below hw) h1 (by omega))
  have tc := Lib.hid (fun W u (hw : Below w.heap.size w W) (h1 : RatP W u (mkRat (mkRat (-7) 2).ceil 1) 107) => text_any (hV.tab.below hw) h1 (by omega))
  unfold str at ta tf tc
  rw [txt_a] at ta
  rw [txt_b] at tf
  rw [txt_c] at tc
  generalize mkRat 2 6 - mkRat 1 2 = qa at ha ta
  generalize mkRat (mkRat (-7) 2).floor 1 = qf at hf tf
  generalize mkRat (mkRat (-7) 2).ceil 1 = qc at hc tc
  generalize mkRat 2 6 = q1 at h1 ha
  generalize mkRat 1 2 = q2 at h2 ha
  generalize mkRat (-7) 2 = q3 at h3 hf hc
  have S := Lib.hid (Sr.start w)
  clear hV
  go_enter Tryz.func11, Tryz.ntmps11
  go_wp2_with fail
  refine (h1.out _).mono ?_
  rintro e w1 ⟨b1, A1, n1, c1, B1, m1, d1, rfl, hq, hb⟩
  replace S := Lib.hid (((S.out.below hb).push (stab_ratP _ _ _) hq).alloc [.bool b1, .slice A1 n1 c1, .slice B1 m1 d1] 30 (by decide) noint3)
  generalize hx1 : w1.heap.size = x1 at S
  obtain ⟨w2, hw2⟩ : ∃ w2, w1.alloc (.cells #[.bool b1, .slice A1 n1 c1, .slice B1 m1 d1] 30) = w2 := ⟨_, rfl⟩
  rw [hw2] at S
  clear hb hq
  go_wp2_with fail
  clear hw2 hx1 h1
  refine (h2.out _).mono ?_
  rintro e w3 ⟨b2, A2, n2, c2, B2, m2, d2, rfl, hq, hb⟩
  replace S := Lib.hid (((S.out.below hb).push (stab_ratP _ _ _) hq).alloc [.bool b2, .slice A2 n2 c2, .slice B2 m2 d2] 30 (by decide) noint3)
  generalize hx2 : w3.heap.size = x2 at S
  obtain ⟨w4, hw4⟩ : ∃ w4, w3.alloc (.cells #[.bool b2, .slice A2 n2 c2, .slice B2 m2 d2] 30) = w4 := ⟨_, rfl⟩
  rw [hw4] at S
  clear hb hq
  go_wp2_with fail
  clear hw4 hx2 h2
  refine (h3.out _ S.out.low).mono ?_
  rintro e w5 ⟨b3, A3, n3, c3, B3, m3, d3, rfl, hq, hb⟩
  replace S := Lib.hid (((S.out.below hb).push (stab_ratP _ _ _) hq).alloc [.bool b3, .slice A3 n3 c3, .slice B3 m3 d3] 30 (by decide) noint3)
  generalize hx3 : w5.heap.size = x3 at S
  obtain ⟨w6, hw6⟩ : ∃ w6, w5.alloc (.cells #[.bool b3, .slice A3 n3 c3, .slice B3 m3 d3] 30) = w6 := ⟨_, rfl⟩
  rw [hw6] at S
  clear hb hq
  go_wp2_with fail
  clear hw6 hx3 h3
  refine (h4.out _ S.out.low).mono ?_
  rintro e w7 ⟨rfl, hb⟩
  replace S := Lib.hid (((S.out.below hb).push stab_true True.intro).alloc [.bool false, .slice none 0 0, .slice none 0 0] 30 (by decide) noint3)
  clear hb
  have c3x0 := (S.out.at 3 rfl).cell (i := 0) rfl
  have c3x1 := (S.out.at 3 rfl).cell (i := 1) rfl
  have c3x2 := (S.out.at 3 rfl).cell (i := 2) rfl
  have c2x0 := (S.out.at 2 rfl).cell (i := 0) rfl
  have c2x1 := (S.out.at 2 rfl).cell (i := 1) rfl
  have c2x2 := (S.out.at 2 rfl).cell (i := 2) rfl
  go_wp2_with fail
  clear h4 c3x0 c3x1 c3x2 c2x0 c2x1 c2x2
  generalize hx4 : w7.heap.size = x4 at S ⊢
  generalize World.alloc w7 _ = w8 at S ⊢
  clear hx4
  refine (ha.out _ _ _ (S.out.fact 3 rfl) (S.out.fact 2 rfl)).mono ?_
  rintro e w9 ⟨b5, A5, n5, c5, B5, m5, d5, rfl, hq, hb⟩
  replace S := Lib.hid (S.out.below hb)
  go_wp2_with fail
  refine (ta.out _ _ S.out.low hq).mono ?_
  rintro e w10 ⟨rfl, hb2⟩
  replace S := Lib.hid (S.out.below hb2)
  clear hb hq hb2 ha ta
  have c1x0 := (S.out.at 1 rfl).cell (i := 0) rfl
  have c1x1 := (S.out.at 1 rfl).cell (i := 1) rfl
  have c1x2 := (S.out.at 1 rfl).cell (i := 2) rfl
  go_wp2_with fail
  refine (hf.out _ _ (S.out.fact 1 rfl)).mono ?_
  rintro e w11 ⟨b6, A6, n6, c6, B6, m6, d6, rfl, hq, hb⟩
  replace S := Lib.hid (S.out.below hb)
  clear c1x0 c1x1 c1x2
  go_wp2_with fail
  refine (tf.out _ _ S.out.low hq).mono ?_
  rintro e w12 ⟨rfl, hb2⟩
  replace S := Lib.hid (S.out.below hb2)
  clear hb hq hb2 hf tf
  have c1x0 := (S.out.at 1 rfl).cell (i := 0) rfl
  have c1x1 := (S.out.at 1 rfl).cell (i := 1) rfl
  have c1x2 := (S.out.at 1 rfl).cell (i := 2) rfl
  go_wp2_with fail
  refine (hc.out _ _ (S.out.fact 1 rfl)).mono ?_
  rintro e w13 ⟨b7, A7, n7, c7, B7, m7, d7, rfl, hq, hb⟩
  replace S := Lib.hid (S.out.below hb)
  clear c1x0 c1x1 c1x2
  go_wp2_with fail
  refine (tc.out _ _ S.out.low hq).mono ?_
  rintro e w14 ⟨rfl, hb2⟩
  replace S := Lib.hid (S.out.below hb2)
  go_wp2_with fail
  go_ret
  exact ⟨rfl, S.out.low⟩
end Go.Proofs.YthfjbpbgnoonpaaGreatDoor
