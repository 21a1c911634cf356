/- The walk of the law RationalText. -/
import Derived.Test.YtbmdbhafanojcaaGreatDoorRU
import Derived.Test.YtbmdbhafanojcaaGreatDoorRYb
import Derived.Test.YtbmdbhafanojcaaGreatDoorRW
namespace Go.Proofs.YtbmdbhafanojcaaGreatDoor
open Go.RowKit

def TupP (W : World) (x : Value) (q : Rat) (a : Nat) : Prop := ∃ b A n c A2 n2 c2, x = .tuple #[.agg #[.bool b, .slice A n c, .slice A2 n2 c2], .int .i64 0] ∧ RatP W (.agg #[.bool b, .slice A n c, .slice A2 n2 c2]) q a
theorem stab_tupP (x : Value) (q : Rat) (a : Nat) : Stab (fun W => TupP W x q a) :=
  stab_ex fun _ => stab_ex fun _ => stab_ex fun _ => stab_ex fun _ => stab_ex fun _ => stab_ex fun _ => stab_ex fun _ => stab_and stab_true (stab_ratP _ _ _)
theorem txt_zero : (⟨(txtQ 0).toArray⟩ : ByteArray) = ⟨#[48]⟩ := by
  unfold txtQ txtB
  rw [show (0 : Rat).num.natAbs = 0 from rfl, dec_small 0 (by omega)]
  rfl
theorem make_back (q : Rat) : mkRat (sg (decide (q.num < 0)) q.num.natAbs) q.den = q := by rw [sg_num]; exact Rat.mkRat_self q
set_option maxRecDepth 100000 in
set_option maxHeartbeats 16000000 in
theorem lawText_large {w : World} {b1 : Bool} {A1 B1 : Option Addr} {n1 c1 m1 e1 : Nat} {ds1 es1 : List Nat} (hV : Vars w) (h1 : ArgN w A1 n1 c1 B1 m1 e1 ds1 es1) (hno : ¬ (n1 ≤ 8 ∧ m1 ≤ 8)) : Calls Tryz.prog 3 #[.agg #[.bool b1, .slice A1 n1 c1, .slice B1 m1 e1]] w fun e w' => e = .returned (.bool true) ∧ Below w.heap.size w w' := by
  obtain ⟨w1, hw1, S⟩ := enter1 w [.bool b1, .slice A1 n1 c1, .slice B1 m1 e1] 24 (by decide) noint3
  have hAw := Lib.hid (awake_any (hV.below S.out.low))
  have hBr := Lib.hid (fun W g cap (h : Blk W g [.bool b1, .slice A1 n1 c1, .slice B1 m1 e1] 24) => brief1 h h1.b1 h1.b2 (cap := cap))
  rw [decide_eq_false hno] at hBr
  clear hno h1 hV
  go_enter Tryz.func3, Tryz.ntmps3
  go_wp2_with fail
  refine hAw.out.mono ?_
  rintro e w2 ⟨rfl, hb⟩
  replace S := Lib.hid (S.out.below hb)
  clear hb hw1 hAw
  have c0x0 := (S.out.at 0 rfl).cell (i := 0) rfl
  have c0x1 := (S.out.at 0 rfl).cell (i := 1) rfl
  have c0x2 := (S.out.at 0 rfl).cell (i := 2) rfl
  replace S := Lib.hid (S.out.alloc [.bool b1, .slice A1 n1 c1, .slice B1 m1 e1] 24 (by decide) (by intro c hc; simp only [List.mem_cons, List.not_mem_nil, or_false] at hc; rcases hc with rfl | rfl | rfl <;> intro k z h <;> cases h))
  have hbk := S.out.at 0 rfl
  have HB := Lib.hid hbk
  clear hbk
  go_wp2_with fail
  refine (hBr.out _ _ _ HB.out).mono ?_
  rintro e w' ⟨rfl, rfl⟩
  go_wp2_with fail
  go_ret
  exact ⟨rfl, S.out.low⟩
set_option maxRecDepth 100000 in
set_option maxHeartbeats 16000000 in
theorem lawText_small {w : World} {b1 : Bool} {A1 B1 : Option Addr} {n1 c1 m1 e1 : Nat} {ds1 es1 : List Nat} (hV : Vars w) (h1 : ArgN w A1 n1 c1 B1 m1 e1 ds1 es1) (hyes : (n1 ≤ 8 ∧ m1 ≤ 8)) : Calls Tryz.prog 3 #[.agg #[.bool b1, .slice A1 n1 c1, .slice B1 m1 e1]] w fun e w' => e = .returned (.bool true) ∧ Below w.heap.size w w' := by
  obtain ⟨w1, hw1, S⟩ := enter1 w [.bool b1, .slice A1 n1 c1, .slice B1 m1 e1] 24 (by decide) noint3
  have hAw := Lib.hid (awake_any (hV.below S.out.low))
  have hBr := Lib.hid (fun W g cap (h : Blk W g [.bool b1, .slice A1 n1 c1, .slice B1 m1 e1] 24) => brief1 h h1.b1 h1.b2 (cap := cap))
  rw [decide_eq_true hyes] at hBr
  have hOf1 := Lib.hid (fun W (hw : Below w.heap.size w W) => ofA (b := b1) hV h1 hyes.1 hyes.2 hw)
  have HV := Lib.hid hV
  generalize numQ b1 ds1 es1 = q1 at *
  clear hyes h1 hV
  go_enter Tryz.func3, Tryz.ntmps3
  go_wp2_with fail
  refine hAw.out.mono ?_
  rintro e w2 ⟨rfl, hb⟩
  replace S := Lib.hid (S.out.below hb)
  clear hb hw1 hAw
  have c0x0 := (S.out.at 0 rfl).cell (i := 0) rfl
  have c0x1 := (S.out.at 0 rfl).cell (i := 1) rfl
  have c0x2 := (S.out.at 0 rfl).cell (i := 2) rfl
  replace S := Lib.hid (S.out.alloc [.bool b1, .slice A1 n1 c1, .slice B1 m1 e1] 24 (by decide) (by intro c hc; simp only [List.mem_cons, List.not_mem_nil, or_false] at hc; rcases hc with rfl | rfl | rfl <;> intro k z h <;> cases h))
  have hbk := S.out.at 0 rfl
  have HB := Lib.hid hbk
  clear hbk
  go_wp2_with fail
  refine (hBr.out _ _ _ HB.out).mono ?_
  rintro e w' ⟨rfl, rfl⟩
  clear HB hBr
  clear c0x0 c0x1 c0x2
  have c1x0 := (S.out.at 1 rfl).cell (i := 0) rfl
  have c1x1 := (S.out.at 1 rfl).cell (i := 1) rfl
  have c1x2 := (S.out.at 1 rfl).cell (i := 2) rfl
  go_wp2_with fail
  refine (hOf1.out _ S.out.low).mono ?_
  rintro e w3 ⟨p1, P1, pn1, pc1, Q1, qn1, qc1, r1, R1, rn1, rc1, T1, tn1, tc1, rfl, hq, hq2, hb⟩
  replace S := Lib.hid ((((S.out.below hb).push (stab_ratP _ _ _) hq).push (stab_ratF _ _ _) hq2).allocTwo [.bool p1, .slice P1 pn1 pc1, .slice Q1 qn1 qc1] 30 [.bool r1, .slice R1 rn1 rc1, .slice T1 tn1 tc1] 34 (by decide) noint3 (by decide) noint3)
  generalize hx3 : w3.heap.size = x3 at S
  obtain ⟨w4, hw4⟩ : ∃ w4, (w3.alloc (.cells #[.bool p1, .slice P1 pn1 pc1, .slice Q1 qn1 qc1] 30)).alloc (.cells #[.bool r1, .slice R1 rn1 rc1, .slice T1 tn1 tc1] 34) = w4 := ⟨_, rfl⟩
  rw [hw4] at S
  clear hb hq hq2 hOf1
  clear c1x0 c1x1 c1x2
  have hF1 := S.out.fact 0 rfl
  obtain ⟨hs1, hk1, hd1⟩ := RatF.parts hF1
  have hdz := RefB.n_zero hd1
  have hdl := RefB.n_le hd1
  have HS1 := Lib.hid hs1
  have hone := Lib.hid (RatP.bounds (S.out.fact 1 rfl)).2
  clear hs1 hF1 hk1
  have c0x0 := (S.out.at 0 rfl).cell (i := 0) rfl
  have c0x1 := (S.out.at 0 rfl).cell (i := 1) rfl
  have c0x2 := (S.out.at 0 rfl).cell (i := 2) rfl
  have hMk := Lib.hid (fun W A n c B m e (h1 : NatB W (.agg #[.slice A n c]) q1.num.natAbs 8) (h2 : NatB W (.agg #[.slice B m e]) q1.den 8) => make_ok (b := r1) h1 h2 (by omega) q1.den_pos)
  rw [HS1.out, make_back, ← HS1.out] at hMk
  by_cases hd0 : q1.den = 1
  · obtain rfl : tn1 = 0 := hdz.2 (by rw [if_pos hd0])
    clear hdz hdl hd1
    go_wp2_with fail
    clear hw4 hx3 c0x0 c0x1 c0x2
    refine (ofF 1 (k := 1) rfl (by omega)).mono ?_
    rintro e w5 ⟨A6, n6, c6, rfl, hx, hb⟩
    replace hx : RefB w5 (.slice A6 n6 c6) q1.den 8 := ⟨hx.1, by rw [hd0]; exact hx.2.1, hone.out⟩
    replace S := Lib.hid ((S.out.below hb).push (stab_refB _ _ _) hx)
    clear hx hb hd0
    go_wp2_with fail
    have hok : ZOk [(0, 29, fun _ z => z = .pointer (some ⟨x3 + 1, 0, none⟩)), (1, 30, fun _ z => z = .bool r1), (2, 31, fun _ z => z = .agg #[.bool p1, .slice P1 pn1 pc1, .slice Q1 qn1 qc1]), (3, 32, fun W z => NatB W z q1.num.natAbs 8), (4, 33, fun _ z => z = .agg #[.bool p1, .slice P1 pn1 pc1, .slice Q1 qn1 qc1]), (5, 34, fun W z => NatB W z q1.den 8), (6, 35, fun W z => TupP W z q1 8), (7, 28, fun W z => TupP W z q1 8), (8, 36, fun W z => RatP W z q1 8), (9, 37, fun _ z => z = .int .i64 0), (12, 8, fun _ z => z = .int .i64 0)] [bxP 10 11 7 q1 8] := ⟨by simp, by simp [bxP], by simp [bxP], by simp [bxP], List.forall_mem_cons.2 ⟨fun x => stab_true, List.forall_mem_cons.2 ⟨fun x => stab_true, List.forall_mem_cons.2 ⟨fun x => stab_true, List.forall_mem_cons.2 ⟨fun x => stab_natB _ _ _, List.forall_mem_cons.2 ⟨fun x => stab_true, List.forall_mem_cons.2 ⟨fun x => stab_natB _ _ _, List.forall_mem_cons.2 ⟨fun x => stab_tupP _ _ _, List.forall_mem_cons.2 ⟨fun x => stab_tupP _ _ _, List.forall_mem_cons.2 ⟨fun x => stab_ratP _ _ _, List.forall_mem_cons.2 ⟨fun x => stab_true, List.forall_mem_cons.2 ⟨fun x => stab_true, List.forall_mem_nil _⟩⟩⟩⟩⟩⟩⟩⟩⟩⟩⟩, List.forall_mem_cons.2 ⟨bxP_ok _ _ _ _ _, List.forall_mem_nil _⟩⟩
    refine wp_region_Y hok [29, 30, 31, 32, 33, 34, 35, 28, 36, 37, 8, 7] (by kernel_rfl) (by kernel_rfl) ⟨?_, ?_, ?_, ?_, ?_, ?_, ?_, ?_, ?_, ?_, ?_, ?_, ?_, trivial⟩ ?_
    · intro L f W hZ hi hd K hK
      have hV := stepV (d := 29) (f := f) hK (by decide) (by decide)
      clear hK
      simp only [fillA, fillT, Act.put, List.foldl_cons, List.foldl_nil, List.setIfInBounds_toArray, List.set_cons_zero, List.set_cons_succ] at hV ⊢
      go_simp
      exact hV.out _ _ (hZ.val hok 0 rfl (Below.refl _ _) rfl)
    · intro L f W hZ hi hd K hK
      have hV := stepV (d := 30) (f := f) hK (by decide) (by decide)
      clear hK
      simp only [fillA, fillT, Act.put, List.foldl_cons, List.foldl_nil, List.setIfInBounds_toArray, List.set_cons_zero, List.set_cons_succ] at hV ⊢
      have S2 := Lib.hid (S.out.drew.below hZ.1)
      have c0x0 := (S2.out.at 0 rfl).cell (i := 0) rfl
      have v0 := hZ.get 0 rfl (hd ⟨0, .data⟩ (by simp) rfl)
      replace v0 : f 29 = _ := v0
      rw [v0] at hV ⊢
      clear v0
      go_simp
      exact hV.out _ _ (hZ.val hok 1 rfl (Below.refl _ _) rfl)
    · intro L f W hZ hi hd K hK
      have hV := stepV (d := 31) (f := f) hK (by decide) (by decide)
      clear hK
      simp only [fillA, fillT, Act.put, List.foldl_cons, List.foldl_nil, List.setIfInBounds_toArray, List.set_cons_zero, List.set_cons_succ] at hV ⊢
      have S2 := Lib.hid (S.out.drew.below hZ.1)
      have c1x0 := (S2.out.at 1 rfl).cell (i := 0) rfl
      have c1x1 := (S2.out.at 1 rfl).cell (i := 1) rfl
      have c1x2 := (S2.out.at 1 rfl).cell (i := 2) rfl
      go_simp
      exact hV.out _ _ (hZ.val hok 2 rfl (Below.refl _ _) rfl)
    · intro L f W hZ hi hd K hK
      have hV := stepV (d := 32) (f := f) hK (by decide) (by decide)
      clear hK
      simp only [fillA, fillT, Act.put, List.foldl_cons, List.foldl_nil, List.setIfInBounds_toArray, List.set_cons_zero, List.set_cons_succ] at hV ⊢
      have S2 := Lib.hid (S.out.drew.below hZ.1)
      have v2 := hZ.get 2 rfl (hd ⟨2, .data⟩ (by simp) rfl)
      replace v2 : f 31 = _ := v2
      rw [v2] at hV ⊢
      clear v2
      go_simp
      refine (num_any (S2.out.fact 2 rfl)).mono ?_
      rintro e w' ⟨A9, n9, c9, rfl, hx, hb⟩
      exact hV.out _ _ (hZ.val hok 3 rfl hb hx)
    · intro L f W hZ hi hd K hK
      have hV := stepV (d := 33) (f := f) hK (by decide) (by decide)
      clear hK
      simp only [fillA, fillT, Act.put, List.foldl_cons, List.foldl_nil, List.setIfInBounds_toArray, List.set_cons_zero, List.set_cons_succ] at hV ⊢
      have S2 := Lib.hid (S.out.drew.below hZ.1)
      have c1x0 := (S2.out.at 1 rfl).cell (i := 0) rfl
      have c1x1 := (S2.out.at 1 rfl).cell (i := 1) rfl
      have c1x2 := (S2.out.at 1 rfl).cell (i := 2) rfl
      go_simp
      exact hV.out _ _ (hZ.val hok 4 rfl (Below.refl _ _) rfl)
    · intro L f W hZ hi hd K hK
      have hV := stepV (d := 34) (f := f) hK (by decide) (by decide)
      clear hK
      simp only [fillA, fillT, Act.put, List.foldl_cons, List.foldl_nil, List.setIfInBounds_toArray, List.set_cons_zero, List.set_cons_succ] at hV ⊢
      have S2 := Lib.hid (S.out.drew.below hZ.1)
      have v4 := hZ.get 4 rfl (hd ⟨4, .data⟩ (by simp) rfl)
      replace v4 : f 33 = _ := v4
      rw [v4] at hV ⊢
      clear v4
      go_simp
      refine (den_any (S2.out.fact 2 rfl) (by omega)).mono ?_
      rintro e w' ⟨A9, n9, c9, rfl, hx, hb⟩
      exact hV.out _ _ (hZ.val hok 5 rfl hb hx)
    · intro L f W hZ hi hd K hK
      have hV := stepV (d := 35) (f := f) hK (by decide) (by decide)
      clear hK
      simp only [fillA, fillT, Act.put, List.foldl_cons, List.foldl_nil, List.setIfInBounds_toArray, List.set_cons_zero, List.set_cons_succ] at hV ⊢
      have v1 := hZ.get 1 rfl (hd ⟨1, .data⟩ (by simp) rfl)
      replace v1 : f 30 = _ := v1
      rw [v1] at hV ⊢
      clear v1
      have v3 := hZ.get 3 rfl (hd ⟨3, .data⟩ (by simp) rfl)
      obtain ⟨A8, n8, c8, e8⟩ := NatB.shape v3
      replace e8 : f 32 = _ := e8
      replace v3 : NatB W (f 32) _ _ := v3
      rw [e8] at v3 hV ⊢
      clear e8
      have v5 := hZ.get 5 rfl (hd ⟨5, .data⟩ (by simp) rfl)
      obtain ⟨A9, n9, c9, e9⟩ := NatB.shape v5
      replace e9 : f 34 = _ := e9
      replace v5 : NatB W (f 34) _ _ := v5
      rw [e9] at v5 hV ⊢
      clear e9
      go_simp
      refine (hMk.out _ _ _ _ _ _ _ v3 v5).mono ?_
      rintro e w' ⟨b9, A10, n10, c10, A11, n11, c11, rfl, hx, hb⟩
      exact hV.out _ _ (hZ.val hok 6 rfl hb ⟨b9, A10, n10, c10, A11, n11, c11, rfl, hx⟩)
    · intro L f W hZ hi hd K hK
      have hV := stepV (d := 28) (f := f) hK (by decide) (by decide)
      clear hK
      simp only [fillA, fillT, Act.put, List.foldl_cons, List.foldl_nil, List.setIfInBounds_toArray, List.set_cons_zero, List.set_cons_succ] at hV ⊢
      have v := hZ.get 6 rfl (hd ⟨6, .data⟩ (by simp) rfl)
      go_simp
      exact hV.out _ _ (hZ.val hok 7 rfl (Below.refl _ _) v)
    · intro L f W hZ hi hd K hK
      have hV := stepV (d := 36) (f := f) hK (by decide) (by decide)
      clear hK
      simp only [fillA, fillT, Act.put, List.foldl_cons, List.foldl_nil, List.setIfInBounds_toArray, List.set_cons_zero, List.set_cons_succ] at hV ⊢
      obtain ⟨b9, A9, n9, c9, A10, n10, c10, e9, hx⟩ := hZ.get 7 rfl (hd ⟨7, .data⟩ (by simp) rfl)
      replace e9 : f 28 = _ := e9
      rw [e9] at hV ⊢
      clear e9
      go_simp
      exact hV.out _ _ (hZ.val hok 8 rfl (Below.refl _ _) hx)
    · intro L f W hZ hi hd K hK
      have hV := stepV (d := 37) (f := f) hK (by decide) (by decide)
      clear hK
      simp only [fillA, fillT, Act.put, List.foldl_cons, List.foldl_nil, List.setIfInBounds_toArray, List.set_cons_zero, List.set_cons_succ] at hV ⊢
      obtain ⟨b9, A9, n9, c9, A10, n10, c10, e9, hx⟩ := hZ.get 7 rfl (hd ⟨7, .data⟩ (by simp) rfl)
      replace e9 : f 28 = _ := e9
      rw [e9] at hV ⊢
      clear e9
      go_simp
      exact hV.out _ _ (hZ.val hok 9 rfl (Below.refl _ _) rfl)
    · intro L f W hZ hi hd K hK
      have hV := stepV (d := 7) (f := f) hK (by decide) (by decide)
      clear hK
      simp only [fillA, fillT, Act.put, List.foldl_cons, List.foldl_nil, List.setIfInBounds_toArray, List.set_cons_zero, List.set_cons_succ] at hV ⊢
      go_simp
      exact hV.out _ _ (hZ.alloc hok 0 rfl hi)
    · intro L f W hZ hi hd K hK
      have hV := stepS (f := f) hK
      clear hK
      simp only [fillA, fillT, Act.put, List.foldl_cons, List.foldl_nil, List.setIfInBounds_toArray, List.set_cons_zero, List.set_cons_succ] at hV ⊢
      have v := hZ.get 8 rfl (hd ⟨8, .data⟩ (by simp) rfl)
      have hL := hd ⟨10, .data⟩ (by simp) rfl
      obtain ⟨g, cs, e1, -, hbk, -, hz0, -⟩ := hZ.box 0 rfl hL
      obtain rfl := hz0 hi
      replace e1 : f 7 = _ := e1
      obtain ⟨A7, n7, c7, B7, m7, d7, e2⟩ := RatP.shape v
      replace e2 : f 36 = _ := e2
      replace v : RatP W (f 36) _ _ := v
      rw [e2] at v
      rw [e1, e2] at hV ⊢
      have E1 := Lib.hid e1
      clear e1 e2
      have k1 := hbk.cell (i := 0) rfl
      have k2 := hbk.cell (i := 1) rfl
      have k3 := hbk.cell (i := 2) rfl
      have k4 := hbk.frozen (i := 0)
      have k5 := hbk.frozen (i := 1)
      have k6 := hbk.frozen (i := 2)
      generalize decide (q1.num < 0) = sb at v hV ⊢
      go_simp
      exact hV.out _ (hZ.store3 hok 0 rfl E1.out hL hi rfl noint_bool noint_slice noint_slice v)
    · intro L f W hZ hi hd K hK
      have hV := stepV (d := 8) (f := f) hK (by decide) (by decide)
      clear hK
      simp only [fillA, fillT, Act.put, List.foldl_cons, List.foldl_nil, List.setIfInBounds_toArray, List.set_cons_zero, List.set_cons_succ] at hV ⊢
      have v9 := hZ.get 9 rfl (hd ⟨9, .data⟩ (by simp) rfl)
      replace v9 : f 37 = _ := v9
      rw [v9] at hV ⊢
      clear v9
      go_simp
      exact hV.out _ _ (hZ.val hok 10 rfl (Below.refl _ _) rfl)
    intro L f W hZ hL
    obtain ⟨g7, b7, A7, n7, c7, B7, m7, d7, e7, p7, S7, F7⟩ := hZ.takeP hok (S.out.drew.below hZ.1) (drew_low S.out) (Fr.begin S.out) 0 rfl (hL 10 (by decide)) (hL 11 (by decide)) (by simp)
    have e8 := hZ.get 10 rfl (hL 12 (by decide))
    replace e8 : f 8 = _ := e8
    simp only [fillA, fillT, List.foldl_cons, List.foldl_nil, List.setIfInBounds_toArray, List.set_cons_zero, List.set_cons_succ]
    rw [e7, e8]
    replace S := Lib.hid ((S7.push (stab_ratP _ _ _) p7).alloc [.bool false, .slice none 0 0, .slice none 0 0] 30 (by decide) noint3)
    replace S := Lib.hid (S.out.push (stab_ratP _ _ _) (ratP_zero _))
    clear e7 e8 p7 S7 F7 hZ hL hok hMk
    go_wp2_with fail
    generalize hx9 : W.heap.size = x9 at S ⊢
    generalize World.alloc W _ = w20 at S ⊢
    clear hx9
    obtain ⟨tn, htn⟩ : ∃ t, dec q1.num.natAbs = t := ⟨_, rfl⟩
    obtain ⟨td, htd⟩ : ∃ t, dec q1.den = t := ⟨_, rfl⟩
    have HTN := Lib.hid htn
    have HTD := Lib.hid htd
    clear htn htd
    refine wp_region_held_drew (S := fun W' => W'.cell? ⟨x3, 0, none⟩ = some (.bool p1) ∧ W'.cell? ⟨x3, 1, none⟩ = some (.slice P1 pn1 pc1) ∧ W'.cell? ⟨x3, 2, none⟩ = some (.slice Q1 qn1 qc1) ∧ W'.cell? ⟨(x3 + 1), 0, none⟩ = some (.bool r1) ∧ W'.cell? ⟨(x3 + 1), 1, none⟩ = some (.slice R1 rn1 rc1) ∧ W'.cell? ⟨(x3 + 1), 2, none⟩ = some (.slice T1 0 tc1) ∧ W'.cell? ⟨g7, 0, none⟩ = some (.bool b7) ∧ W'.cell? ⟨g7, 1, none⟩ = some (.slice A7 n7 c7) ∧ W'.cell? ⟨g7, 2, none⟩ = some (.slice B7 m7 d7) ∧ W'.cell? ⟨x9, 0, none⟩ = some (.bool false) ∧ W'.cell? ⟨x9, 1, none⟩ = some (.slice none 0 0) ∧ W'.cell? ⟨x9, 2, none⟩ = some (.slice none 0 0)) (by kernel_rfl) ⟨(S.out.drew.at 3 rfl).cell (i := 0) rfl, (S.out.drew.at 3 rfl).cell (i := 1) rfl, (S.out.drew.at 3 rfl).cell (i := 2) rfl, (S.out.drew.at 2 rfl).cell (i := 0) rfl, (S.out.drew.at 2 rfl).cell (i := 1) rfl, (S.out.drew.at 2 rfl).cell (i := 2) rfl, (S.out.drew.at 1 rfl).cell (i := 0) rfl, (S.out.drew.at 1 rfl).cell (i := 1) rfl, (S.out.drew.at 1 rfl).cell (i := 2) rfl, (S.out.drew.at 0 rfl).cell (i := 0) rfl, (S.out.drew.at 0 rfl).cell (i := 1) rfl, (S.out.drew.at 0 rfl).cell (i := 2) rfl⟩ (fun hHeld => ?_)
    replace S := Lib.hid S.out.drew
    generalize w20.drew = w21 at S hHeld ⊢
    refine wpAnyH_takeD 0 (v := ?_) rfl rfl (by kernel_rfl) (by kernel_rfl) (by kernel_rfl) (fun _ _ _ h => h) (Or.inl ⟨by rfl, ?_⟩) hHeld ?_
    rotate_left
    focus (intro w hSw; (try dsimp only at hSw); go_simp; try with_reducible rfl)
    simp only [List.setIfInBounds_toArray, List.set_cons_zero, List.set_cons_succ]
    refine wpAnyH_takeD 1 (v := ?_) rfl rfl (by kernel_rfl) (by kernel_rfl) (by kernel_rfl) (fun _ _ _ h => h) (Or.inl ⟨by rfl, ?_⟩) hHeld ?_
    rotate_left
    focus (intro w hSw; (try dsimp only at hSw); go_simp; try with_reducible rfl)
    simp only [List.setIfInBounds_toArray, List.set_cons_zero, List.set_cons_succ]
    refine wpAnyH_takeD 2 (v := ?_) rfl rfl (by kernel_rfl) (by kernel_rfl) (by kernel_rfl) (fun _ _ _ h => h) (Or.inl ⟨by rfl, ?_⟩) hHeld ?_
    rotate_left
    focus (intro w hSw; (try dsimp only at hSw); go_simp; try with_reducible rfl)
    simp only [List.setIfInBounds_toArray, List.set_cons_zero, List.set_cons_succ]
    refine wpAnyH_takeD 3 (v := ?_) rfl rfl (by kernel_rfl) (by kernel_rfl) (by kernel_rfl) (fun _ _ _ h => h) (Or.inl ⟨by rfl, ?_⟩) hHeld ?_
    rotate_left
    focus (intro w hSw; (try dsimp only at hSw); go_simp; try with_reducible rfl)
    simp only [List.setIfInBounds_toArray, List.set_cons_zero, List.set_cons_succ]
    refine wpAnyH_ready (rs := [4]) (by kernel_rfl) (by simp) ?_
    refine AllReadyH.cons rfl (fun K hK => ?_) AllReadyH.nil
    go_simp
    refine (is_any (HV.out.tab.below S.out.low) (S.out.fact 4 rfl) (S.out.fact 3 rfl) (by omega) (by omega)).mono ?_
    rintro e z1 ⟨rfl, hb1⟩
    replace S := Lib.hid (S.out.below hb1)
    clear hb1
    refine hK.out _ _ ⟨(S.out.at 3 rfl).cell (i := 0) rfl, (S.out.at 3 rfl).cell (i := 1) rfl, (S.out.at 3 rfl).cell (i := 2) rfl, (S.out.at 2 rfl).cell (i := 0) rfl, (S.out.at 2 rfl).cell (i := 1) rfl, (S.out.at 2 rfl).cell (i := 2) rfl, (S.out.at 1 rfl).cell (i := 0) rfl, (S.out.at 1 rfl).cell (i := 1) rfl, (S.out.at 1 rfl).cell (i := 2) rfl, (S.out.at 0 rfl).cell (i := 0) rfl, (S.out.at 0 rfl).cell (i := 1) rfl, (S.out.at 0 rfl).cell (i := 2) rfl⟩ (fun hHeld => ?_)
    clear hK K
    refine wpAnyH_takeD 5 (v := ?_) rfl rfl (by kernel_rfl) (by kernel_rfl) (by kernel_rfl) (fun _ _ _ h => h) (Or.inl ⟨by rfl, ?_⟩) hHeld ?_
    rotate_left
    focus (intro w hSw; (try dsimp only at hSw); go_simp; try with_reducible rfl)
    simp only [List.setIfInBounds_toArray, List.set_cons_zero, List.set_cons_succ]
    refine wpAnyH_takeD 6 (v := ?_) rfl rfl (by kernel_rfl) (by kernel_rfl) (by kernel_rfl) (fun _ _ _ h => h) (Or.inl ⟨by rfl, ?_⟩) hHeld ?_
    rotate_left
    focus (intro w hSw; (try dsimp only at hSw); go_simp; try with_reducible rfl)
    simp only [List.setIfInBounds_toArray, List.set_cons_zero, List.set_cons_succ]
    refine wpAnyH_takeD 7 (v := ?_) rfl rfl (by kernel_rfl) (by kernel_rfl) (by kernel_rfl) (fun _ _ _ h => h) (Or.inl ⟨by rfl, ?_⟩) hHeld ?_
    rotate_left
    focus (intro w hSw; (try dsimp only at hSw); go_simp; try with_reducible rfl)
    simp only [List.setIfInBounds_toArray, List.set_cons_zero, List.set_cons_succ]
    refine wpAnyH_takeD 10 (v := ?_) rfl rfl (by kernel_rfl) (by kernel_rfl) (by kernel_rfl) (fun _ _ _ h => h) (Or.inl ⟨by rfl, ?_⟩) hHeld ?_
    rotate_left
    focus (intro w hSw; (try dsimp only at hSw); go_simp; try with_reducible rfl)
    simp only [List.setIfInBounds_toArray, List.set_cons_zero, List.set_cons_succ]
    refine wpAnyH_takeD 11 (v := ?_) rfl rfl (by kernel_rfl) (by kernel_rfl) (by kernel_rfl) (fun _ _ _ h => h) (Or.inl ⟨by rfl, ?_⟩) hHeld ?_
    rotate_left
    focus (intro w hSw; (try dsimp only at hSw); go_simp; try with_reducible rfl)
    simp only [List.setIfInBounds_toArray, List.set_cons_zero, List.set_cons_succ]
    refine wpAnyH_ready (rs := [8]) (by kernel_rfl) (by simp) ?_
    refine AllReadyH.cons rfl (fun K hK => ?_) AllReadyH.nil
    go_simp
    refine (num_any (S.out.fact 4 rfl)).mono ?_
    rintro e z2 ⟨A30, n30, c30, rfl, hq, hb1⟩
    replace S := Lib.hid ((S.out.below hb1).push (stab_natB _ _ _) hq)
    clear hq hb1
    refine hK.out _ _ ⟨(S.out.at 3 rfl).cell (i := 0) rfl, (S.out.at 3 rfl).cell (i := 1) rfl, (S.out.at 3 rfl).cell (i := 2) rfl, (S.out.at 2 rfl).cell (i := 0) rfl, (S.out.at 2 rfl).cell (i := 1) rfl, (S.out.at 2 rfl).cell (i := 2) rfl, (S.out.at 1 rfl).cell (i := 0) rfl, (S.out.at 1 rfl).cell (i := 1) rfl, (S.out.at 1 rfl).cell (i := 2) rfl, (S.out.at 0 rfl).cell (i := 0) rfl, (S.out.at 0 rfl).cell (i := 1) rfl, (S.out.at 0 rfl).cell (i := 2) rfl⟩ (fun hHeld => ?_)
    clear hK K
    refine wpAnyH_ready (rs := [9]) (by kernel_rfl) (by simp) ?_
    refine AllReadyH.cons rfl (fun K hK => ?_) AllReadyH.nil
    go_simp
    have hTx := Lib.hid (textN (HV.out.tab.below S.out.low) (S.out.fact 0 rfl) (by omega))
    rw [HTN.out] at hTx
    unfold str at hTx
    refine (hTx.out).mono ?_
    rintro e z3 ⟨rfl, hb1⟩
    clear hTx
    replace S := Lib.hid (S.out.below hb1)
    clear hb1
    refine hK.out _ _ ⟨(S.out.at 3 rfl).cell (i := 0) rfl, (S.out.at 3 rfl).cell (i := 1) rfl, (S.out.at 3 rfl).cell (i := 2) rfl, (S.out.at 2 rfl).cell (i := 0) rfl, (S.out.at 2 rfl).cell (i := 1) rfl, (S.out.at 2 rfl).cell (i := 2) rfl, (S.out.at 1 rfl).cell (i := 0) rfl, (S.out.at 1 rfl).cell (i := 1) rfl, (S.out.at 1 rfl).cell (i := 2) rfl, (S.out.at 0 rfl).cell (i := 0) rfl, (S.out.at 0 rfl).cell (i := 1) rfl, (S.out.at 0 rfl).cell (i := 2) rfl⟩ (fun hHeld => ?_)
    clear hK K
    refine wpAnyH_ready (rs := [12]) (by kernel_rfl) (by simp) ?_
    refine AllReadyH.cons rfl (fun K hK => ?_) AllReadyH.nil
    go_simp
    have hTx := Lib.hid (textF (RatF.parts (S.out.fact 4 rfl)).2.1 (by omega))
    rw [HTN.out] at hTx
    unfold str at hTx
    refine (hTx.out).mono ?_
    rintro e z4 ⟨rfl, hb1⟩
    clear hTx
    replace S := Lib.hid (S.out.below hb1)
    clear hb1
    refine hK.out _ _ ⟨(S.out.at 3 rfl).cell (i := 0) rfl, (S.out.at 3 rfl).cell (i := 1) rfl, (S.out.at 3 rfl).cell (i := 2) rfl, (S.out.at 2 rfl).cell (i := 0) rfl, (S.out.at 2 rfl).cell (i := 1) rfl, (S.out.at 2 rfl).cell (i := 2) rfl, (S.out.at 1 rfl).cell (i := 0) rfl, (S.out.at 1 rfl).cell (i := 1) rfl, (S.out.at 1 rfl).cell (i := 2) rfl, (S.out.at 0 rfl).cell (i := 0) rfl, (S.out.at 0 rfl).cell (i := 1) rfl, (S.out.at 0 rfl).cell (i := 2) rfl⟩ (fun hHeld => ?_)
    clear hK K
    refine wpAnyH_takeD 13 (v := ?_) rfl rfl (by kernel_rfl) (by kernel_rfl) (by kernel_rfl) (fun _ _ _ h => h) (Or.inl ⟨by rfl, ?_⟩) hHeld ?_
    rotate_left
    focus (intro w hSw; (try dsimp only at hSw); go_simp; try with_reducible rfl)
    simp only [List.setIfInBounds_toArray, List.set_cons_zero, List.set_cons_succ]
    refine wpAnyH_takeD 14 (v := ?_) rfl rfl (by kernel_rfl) (by kernel_rfl) (by kernel_rfl) (fun _ _ _ h => h) (Or.inl ⟨by rfl, ?_⟩) hHeld ?_
    rotate_left
    focus (intro w hSw; (try dsimp only at hSw); go_simp; try with_reducible rfl)
    simp only [List.setIfInBounds_toArray, List.set_cons_zero, List.set_cons_succ]
    refine wpAnyH_takeD 15 (v := ?_) rfl rfl (by kernel_rfl) (by kernel_rfl) (by kernel_rfl) (fun _ _ _ h => h) (Or.inl ⟨by rfl, ?_⟩) hHeld ?_
    rotate_left
    focus (intro w hSw; (try dsimp only at hSw); go_simp; try with_reducible rfl)
    simp only [List.setIfInBounds_toArray, List.set_cons_zero, List.set_cons_succ]
    refine wpAnyH_takeD 16 (v := ?_) rfl rfl (by kernel_rfl) (by kernel_rfl) (by kernel_rfl) (fun _ _ _ h => h) (Or.inl ⟨by rfl, ?_⟩) hHeld ?_
    rotate_left
    focus (intro w hSw; (try dsimp only at hSw); go_simp; try with_reducible rfl)
    simp only [List.setIfInBounds_toArray, List.set_cons_zero, List.set_cons_succ]
    refine wpAnyH_takeD 19 (v := ?_) rfl rfl (by kernel_rfl) (by kernel_rfl) (by kernel_rfl) (fun _ _ _ h => h) (Or.inl ⟨by rfl, ?_⟩) hHeld ?_
    rotate_left
    focus (intro w hSw; (try dsimp only at hSw); go_simp; try with_reducible rfl)
    simp only [List.setIfInBounds_toArray, List.set_cons_zero, List.set_cons_succ]
    refine wpAnyH_ready (rs := [17]) (by kernel_rfl) (by simp) ?_
    refine AllReadyH.cons rfl (fun K hK => ?_) AllReadyH.nil
    go_simp
    refine (den_any (S.out.fact 5 rfl) (by omega)).mono ?_
    rintro e z5 ⟨A31, n31, c31, rfl, hq, hb1⟩
    replace S := Lib.hid ((S.out.below hb1).push (stab_natB _ _ _) hq)
    clear hq hb1
    refine hK.out _ _ ⟨(S.out.at 3 rfl).cell (i := 0) rfl, (S.out.at 3 rfl).cell (i := 1) rfl, (S.out.at 3 rfl).cell (i := 2) rfl, (S.out.at 2 rfl).cell (i := 0) rfl, (S.out.at 2 rfl).cell (i := 1) rfl, (S.out.at 2 rfl).cell (i := 2) rfl, (S.out.at 1 rfl).cell (i := 0) rfl, (S.out.at 1 rfl).cell (i := 1) rfl, (S.out.at 1 rfl).cell (i := 2) rfl, (S.out.at 0 rfl).cell (i := 0) rfl, (S.out.at 0 rfl).cell (i := 1) rfl, (S.out.at 0 rfl).cell (i := 2) rfl⟩ (fun hHeld => ?_)
    clear hK K
    refine wpAnyH_ready (rs := [18]) (by kernel_rfl) (by simp) ?_
    refine AllReadyH.cons rfl (fun K hK => ?_) AllReadyH.nil
    go_simp
    have hTx := Lib.hid (textN (HV.out.tab.below S.out.low) (S.out.fact 0 rfl) (by omega))
    rw [HTD.out] at hTx
    unfold str at hTx
    refine (hTx.out).mono ?_
    rintro e z6 ⟨rfl, hb1⟩
    clear hTx
    replace S := Lib.hid (S.out.below hb1)
    clear hb1
    refine hK.out _ _ ⟨(S.out.at 3 rfl).cell (i := 0) rfl, (S.out.at 3 rfl).cell (i := 1) rfl, (S.out.at 3 rfl).cell (i := 2) rfl, (S.out.at 2 rfl).cell (i := 0) rfl, (S.out.at 2 rfl).cell (i := 1) rfl, (S.out.at 2 rfl).cell (i := 2) rfl, (S.out.at 1 rfl).cell (i := 0) rfl, (S.out.at 1 rfl).cell (i := 1) rfl, (S.out.at 1 rfl).cell (i := 2) rfl, (S.out.at 0 rfl).cell (i := 0) rfl, (S.out.at 0 rfl).cell (i := 1) rfl, (S.out.at 0 rfl).cell (i := 2) rfl⟩ (fun hHeld => ?_)
    clear hK K
    refine wpAnyH_ready (rs := [20]) (by kernel_rfl) (by simp) ?_
    refine AllReadyH.cons rfl (fun K hK => ?_) AllReadyH.nil
    go_simp
    have hTx := Lib.hid (textF (S.out.fact 4 rfl) (by omega))
    rw [HTD.out] at hTx
    unfold str at hTx
    refine (hTx.out).mono ?_
    rintro e z7 ⟨rfl, hb1⟩
    clear hTx
    replace S := Lib.hid (S.out.below hb1)
    clear hb1
    refine hK.out _ _ ⟨(S.out.at 3 rfl).cell (i := 0) rfl, (S.out.at 3 rfl).cell (i := 1) rfl, (S.out.at 3 rfl).cell (i := 2) rfl, (S.out.at 2 rfl).cell (i := 0) rfl, (S.out.at 2 rfl).cell (i := 1) rfl, (S.out.at 2 rfl).cell (i := 2) rfl, (S.out.at 1 rfl).cell (i := 0) rfl, (S.out.at 1 rfl).cell (i := 1) rfl, (S.out.at 1 rfl).cell (i := 2) rfl, (S.out.at 0 rfl).cell (i := 0) rfl, (S.out.at 0 rfl).cell (i := 1) rfl, (S.out.at 0 rfl).cell (i := 2) rfl⟩ (fun hHeld => ?_)
    clear hK K
    refine wpAnyH_takeD 21 (v := ?_) rfl rfl (by kernel_rfl) (by kernel_rfl) (by kernel_rfl) (fun _ _ _ h => h) (Or.inl ⟨by rfl, ?_⟩) hHeld ?_
    rotate_left
    focus (intro w hSw; (try dsimp only at hSw); go_simp; try with_reducible rfl)
    simp only [List.setIfInBounds_toArray, List.set_cons_zero, List.set_cons_succ]
    refine wpAnyH_takeD 22 (v := ?_) rfl rfl (by kernel_rfl) (by kernel_rfl) (by kernel_rfl) (fun _ _ _ h => h) (Or.inl ⟨by rfl, ?_⟩) hHeld ?_
    rotate_left
    focus (intro w hSw; (try dsimp only at hSw); go_simp; try with_reducible rfl)
    simp only [List.setIfInBounds_toArray, List.set_cons_zero, List.set_cons_succ]
    refine wpAnyH_takeD 23 (v := ?_) rfl rfl (by kernel_rfl) (by kernel_rfl) (by kernel_rfl) (fun _ _ _ h => h) (Or.inl ⟨by rfl, ?_⟩) hHeld ?_
    rotate_left
    focus (intro w hSw; (try dsimp only at hSw); go_simp; try with_reducible rfl)
    simp only [List.setIfInBounds_toArray, List.set_cons_zero, List.set_cons_succ]
    refine wpAnyH_takeD 24 (v := ?_) rfl rfl (by kernel_rfl) (by kernel_rfl) (by kernel_rfl) (fun _ _ _ h => h) (Or.inl ⟨by rfl, ?_⟩) hHeld ?_
    rotate_left
    focus (intro w hSw; (try dsimp only at hSw); go_simp; try with_reducible rfl)
    simp only [List.setIfInBounds_toArray, List.set_cons_zero, List.set_cons_succ]
    refine wpAnyH_takeD 25 (v := ?_) rfl rfl (by kernel_rfl) (by kernel_rfl) (by kernel_rfl) (fun _ _ _ h => h) (Or.inl ⟨by rfl, ?_⟩) hHeld ?_
    rotate_left
    focus (intro w hSw; (try dsimp only at hSw); go_simp; try with_reducible rfl)
    simp only [List.setIfInBounds_toArray, List.set_cons_zero, List.set_cons_succ]
    refine wpAnyH_takeD 26 (v := ?_) rfl rfl (by kernel_rfl) (by kernel_rfl) (by kernel_rfl) (fun _ _ _ h => h) (Or.inl ⟨by rfl, ?_⟩) hHeld ?_
    rotate_left
    focus (intro w hSw; (try dsimp only at hSw); go_simp; try with_reducible rfl)
    simp only [List.setIfInBounds_toArray, List.set_cons_zero, List.set_cons_succ]
    refine wpAnyH_takeD 27 (v := ?_) rfl rfl (by kernel_rfl) (by kernel_rfl) (by kernel_rfl) (fun _ _ _ h => h) (Or.inl ⟨by rfl, ?_⟩) hHeld ?_
    rotate_left
    focus (intro w hSw; (try dsimp only at hSw); go_simp; try with_reducible rfl)
    simp only [List.setIfInBounds_toArray, List.set_cons_zero, List.set_cons_succ]
    refine wpAnyH_takeD 28 (v := ?_) rfl rfl (by kernel_rfl) (by kernel_rfl) (by kernel_rfl) (fun _ _ _ h => h) (Or.inl ⟨by rfl, ?_⟩) hHeld ?_
    rotate_left
    focus (intro w hSw; (try dsimp only at hSw); go_simp; try with_reducible rfl)
    simp only [List.setIfInBounds_toArray, List.set_cons_zero, List.set_cons_succ]
    refine wpAnyH_takeD 29 (v := ?_) rfl rfl (by kernel_rfl) (by kernel_rfl) (by kernel_rfl) (fun _ _ _ h => h) (Or.inl ⟨by rfl, ?_⟩) hHeld ?_
    rotate_left
    focus (intro w hSw; (try dsimp only at hSw); go_simp; try with_reducible rfl)
    simp only [List.setIfInBounds_toArray, List.set_cons_zero, List.set_cons_succ]
    refine wpAnyH_ready (rs := [30]) (by kernel_rfl) (by simp) ?_
    refine AllReadyH.cons rfl (fun K hK => ?_) AllReadyH.nil
    go_simp
    refine (is_any (HV.out.tab.below S.out.low) (S.out.fact 3 rfl) (S.out.fact 5 rfl) (by omega) (by omega)).mono ?_
    rintro e z8 ⟨rfl, hb1⟩
    replace S := Lib.hid (S.out.below hb1)
    clear hb1
    refine hK.out _ _ ⟨(S.out.at 3 rfl).cell (i := 0) rfl, (S.out.at 3 rfl).cell (i := 1) rfl, (S.out.at 3 rfl).cell (i := 2) rfl, (S.out.at 2 rfl).cell (i := 0) rfl, (S.out.at 2 rfl).cell (i := 1) rfl, (S.out.at 2 rfl).cell (i := 2) rfl, (S.out.at 1 rfl).cell (i := 0) rfl, (S.out.at 1 rfl).cell (i := 1) rfl, (S.out.at 1 rfl).cell (i := 2) rfl, (S.out.at 0 rfl).cell (i := 0) rfl, (S.out.at 0 rfl).cell (i := 1) rfl, (S.out.at 0 rfl).cell (i := 2) rfl⟩ (fun hHeld => ?_)
    clear hK K
    refine wpAnyH_takeD 31 (v := ?_) rfl rfl (by kernel_rfl) (by kernel_rfl) (by kernel_rfl) (fun _ _ _ h => h) (Or.inl ⟨by rfl, ?_⟩) hHeld ?_
    rotate_left
    focus (intro w hSw; (try dsimp only at hSw); go_simp; try with_reducible rfl)
    simp only [List.setIfInBounds_toArray, List.set_cons_zero, List.set_cons_succ]
    refine wpAnyH_takeD 32 (v := ?_) rfl rfl (by kernel_rfl) (by kernel_rfl) (by kernel_rfl) (fun _ _ _ h => h) (Or.inl ⟨by rfl, ?_⟩) hHeld ?_
    rotate_left
    focus (intro w hSw; (try dsimp only at hSw); go_simp; try with_reducible rfl)
    simp only [List.setIfInBounds_toArray, List.set_cons_zero, List.set_cons_succ]
    refine wpAnyH_takeD 33 (v := ?_) rfl rfl (by kernel_rfl) (by kernel_rfl) (by kernel_rfl) (fun _ _ _ h => h) (Or.inl ⟨by rfl, ?_⟩) hHeld ?_
    rotate_left
    focus (intro w hSw; (try dsimp only at hSw); go_simp; try with_reducible rfl)
    simp only [List.setIfInBounds_toArray, List.set_cons_zero, List.set_cons_succ]
    refine wpAnyH_ready (rs := [34]) (by kernel_rfl) (by simp) ?_
    refine AllReadyH.cons rfl (fun K hK => ?_) AllReadyH.nil
    go_simp
    have hTz := Lib.hid (text_any (HV.out.tab.below S.out.low) (S.out.fact 2 rfl) (by omega))
    unfold str at hTz
    rw [txt_zero] at hTz
    refine (hTz.out).mono ?_
    rintro e z9 ⟨rfl, hb1⟩
    clear hTz
    replace S := Lib.hid (S.out.below hb1)
    clear hb1
    refine hK.out _ _ ⟨(S.out.at 3 rfl).cell (i := 0) rfl, (S.out.at 3 rfl).cell (i := 1) rfl, (S.out.at 3 rfl).cell (i := 2) rfl, (S.out.at 2 rfl).cell (i := 0) rfl, (S.out.at 2 rfl).cell (i := 1) rfl, (S.out.at 2 rfl).cell (i := 2) rfl, (S.out.at 1 rfl).cell (i := 0) rfl, (S.out.at 1 rfl).cell (i := 1) rfl, (S.out.at 1 rfl).cell (i := 2) rfl, (S.out.at 0 rfl).cell (i := 0) rfl, (S.out.at 0 rfl).cell (i := 1) rfl, (S.out.at 0 rfl).cell (i := 2) rfl⟩ (fun hHeld => ?_)
    clear hK K
    refine wpAnyH_takeD 35 (v := ?_) rfl rfl (by kernel_rfl) (by kernel_rfl) (by kernel_rfl) (fun _ _ _ h => h) (Or.inl ⟨by rfl, ?_⟩) hHeld ?_
    rotate_left
    focus (intro w hSw; (try dsimp only at hSw); go_simp; try with_reducible rfl)
    simp only [List.setIfInBounds_toArray, List.set_cons_zero, List.set_cons_succ]
    refine wpAnyH_takeD 36 (v := ?_) rfl rfl (by kernel_rfl) (by kernel_rfl) (by kernel_rfl) (fun _ _ _ h => h) (Or.inl ⟨by rfl, ?_⟩) hHeld ?_
    rotate_left
    focus (intro w hSw; (try dsimp only at hSw); go_simp; try with_reducible rfl)
    simp only [List.setIfInBounds_toArray, List.set_cons_zero, List.set_cons_succ]
    refine wpAnyH_takeD 37 (v := ?_) rfl rfl (by kernel_rfl) (by kernel_rfl) (by kernel_rfl) (fun _ _ _ h => h) (Or.inl ⟨by rfl, ?_⟩) hHeld ?_
    rotate_left
    focus (intro w hSw; (try dsimp only at hSw); go_simp; try with_reducible rfl)
    simp only [List.setIfInBounds_toArray, List.set_cons_zero, List.set_cons_succ]
    refine wpAnyH_takeD 38 (v := ?_) rfl rfl (by kernel_rfl) (by kernel_rfl) (by kernel_rfl) (fun _ _ _ h => h) (Or.inl ⟨by rfl, ?_⟩) hHeld ?_
    rotate_left
    focus (intro w hSw; (try dsimp only at hSw); go_simp; try with_reducible rfl)
    simp only [List.setIfInBounds_toArray, List.set_cons_zero, List.set_cons_succ]
    refine wpAnyH_ready (rs := [39]) (by kernel_rfl) (by simp) ?_
    refine AllReadyH.cons rfl (fun K hK => ?_) AllReadyH.nil
    go_simp
    refine (den_any (S.out.fact 2 rfl) (by omega)).mono ?_
    rintro e z10 ⟨A32, n32, c32, rfl, hq, hb1⟩
    replace S := Lib.hid ((S.out.below hb1).push (stab_natB _ _ _) hq)
    clear hq hb1
    refine hK.out _ _ ⟨(S.out.at 3 rfl).cell (i := 0) rfl, (S.out.at 3 rfl).cell (i := 1) rfl, (S.out.at 3 rfl).cell (i := 2) rfl, (S.out.at 2 rfl).cell (i := 0) rfl, (S.out.at 2 rfl).cell (i := 1) rfl, (S.out.at 2 rfl).cell (i := 2) rfl, (S.out.at 1 rfl).cell (i := 0) rfl, (S.out.at 1 rfl).cell (i := 1) rfl, (S.out.at 1 rfl).cell (i := 2) rfl, (S.out.at 0 rfl).cell (i := 0) rfl, (S.out.at 0 rfl).cell (i := 1) rfl, (S.out.at 0 rfl).cell (i := 2) rfl⟩ (fun hHeld => ?_)
    clear hK K
    refine wpAnyH_ready (rs := [40]) (by kernel_rfl) (by simp) ?_
    refine AllReadyH.cons rfl (fun K hK => ?_) AllReadyH.nil
    go_simp
    have hTo := Lib.hid (textN (HV.out.tab.below S.out.low) (S.out.fact 0 rfl) (by omega))
    rw [show (0 : Rat).den = 1 from rfl, dec_one] at hTo
    unfold str at hTo
    refine (hTo.out).mono ?_
    rintro e z11 ⟨rfl, hb1⟩
    clear hTo
    replace S := Lib.hid (S.out.below hb1)
    clear hb1
    refine hK.out _ _ ⟨(S.out.at 3 rfl).cell (i := 0) rfl, (S.out.at 3 rfl).cell (i := 1) rfl, (S.out.at 3 rfl).cell (i := 2) rfl, (S.out.at 2 rfl).cell (i := 0) rfl, (S.out.at 2 rfl).cell (i := 1) rfl, (S.out.at 2 rfl).cell (i := 2) rfl, (S.out.at 1 rfl).cell (i := 0) rfl, (S.out.at 1 rfl).cell (i := 1) rfl, (S.out.at 1 rfl).cell (i := 2) rfl, (S.out.at 0 rfl).cell (i := 0) rfl, (S.out.at 0 rfl).cell (i := 1) rfl, (S.out.at 0 rfl).cell (i := 2) rfl⟩ (fun hHeld => ?_)
    clear hK K
    refine wpAnyH_takeD 41 (v := ?_) rfl rfl (by kernel_rfl) (by kernel_rfl) (by kernel_rfl) (fun _ _ _ h => h) (Or.inl ⟨by rfl, ?_⟩) hHeld ?_
    rotate_left
    focus (intro w hSw; (try dsimp only at hSw); go_simp; try with_reducible rfl)
    simp only [List.setIfInBounds_toArray, List.set_cons_zero, List.set_cons_succ]
    refine wpAnyH_takeD 42 (v := ?_) rfl rfl (by kernel_rfl) (by kernel_rfl) (by kernel_rfl) (fun _ _ _ h => h) (Or.inl ⟨by rfl, ?_⟩) hHeld ?_
    rotate_left
    focus (intro w hSw; (try dsimp only at hSw); go_simp; try with_reducible rfl)
    simp only [List.setIfInBounds_toArray, List.set_cons_zero, List.set_cons_succ]
    refine wpAnyH_takeD 43 (v := ?_) rfl rfl (by kernel_rfl) (by kernel_rfl) (by kernel_rfl) (fun _ _ _ h => h) (Or.inl ⟨by rfl, ?_⟩) hHeld ?_
    rotate_left
    focus (intro w hSw; (try dsimp only at hSw); go_simp; try with_reducible rfl)
    simp only [List.setIfInBounds_toArray, List.set_cons_zero, List.set_cons_succ]
    refine wpAnyH_done (by kernel_rfl) ?_ _
    go_wp2_with fail
    go_ret
    exact ⟨rfl, S.out.low⟩
  · have hnz : 0 < tn1 := by rcases Nat.eq_zero_or_pos tn1 with h | h; (have := hdz.1 h; rw [if_neg hd0] at this; exact absurd this (Nat.ne_of_gt q1.den_pos)); exact h
    have hnz1 : ((tn1 : Int) == 0) = false := by simp; omega
    have hnz2 : (tn1 == 0) = false := by simp; omega
    have HD0 := Lib.hid hd0
    clear hdz hd1 hd0
    go_wp2_with fail
    clear hw4 hx3 c0x0 c0x1 c0x2 hnz hnz1 hnz2 hdl
    have hok : ZOk [(0, 29, fun _ z => z = .pointer (some ⟨x3 + 1, 0, none⟩)), (1, 30, fun _ z => z = .bool r1), (2, 31, fun _ z => z = .agg #[.bool p1, .slice P1 pn1 pc1, .slice Q1 qn1 qc1]), (3, 32, fun W z => NatB W z q1.num.natAbs 8), (4, 33, fun _ z => z = .agg #[.bool p1, .slice P1 pn1 pc1, .slice Q1 qn1 qc1]), (5, 34, fun W z => NatB W z q1.den 8), (6, 35, fun W z => TupP W z q1 8), (7, 28, fun W z => TupP W z q1 8), (8, 36, fun W z => RatP W z q1 8), (9, 37, fun _ z => z = .int .i64 0), (12, 8, fun _ z => z = .int .i64 0)] [bxP 10 11 7 q1 8] := ⟨by simp, by simp [bxP], by simp [bxP], by simp [bxP], List.forall_mem_cons.2 ⟨fun x => stab_true, List.forall_mem_cons.2 ⟨fun x => stab_true, List.forall_mem_cons.2 ⟨fun x => stab_true, List.forall_mem_cons.2 ⟨fun x => stab_natB _ _ _, List.forall_mem_cons.2 ⟨fun x => stab_true, List.forall_mem_cons.2 ⟨fun x => stab_natB _ _ _, List.forall_mem_cons.2 ⟨fun x => stab_tupP _ _ _, List.forall_mem_cons.2 ⟨fun x => stab_tupP _ _ _, List.forall_mem_cons.2 ⟨fun x => stab_ratP _ _ _, List.forall_mem_cons.2 ⟨fun x => stab_true, List.forall_mem_cons.2 ⟨fun x => stab_true, List.forall_mem_nil _⟩⟩⟩⟩⟩⟩⟩⟩⟩⟩⟩, List.forall_mem_cons.2 ⟨bxP_ok _ _ _ _ _, List.forall_mem_nil _⟩⟩
    refine wp_region_Y hok [29, 30, 31, 32, 33, 34, 35, 28, 36, 37, 8, 7] (by kernel_rfl) (by kernel_rfl) ⟨?_, ?_, ?_, ?_, ?_, ?_, ?_, ?_, ?_, ?_, ?_, ?_, ?_, trivial⟩ ?_
    · intro L f W hZ hi hd K hK
      have hV := stepV (d := 29) (f := f) hK (by decide) (by decide)
      clear hK
      simp only [fillA, fillT, Act.put, List.foldl_cons, List.foldl_nil, List.setIfInBounds_toArray, List.set_cons_zero, List.set_cons_succ] at hV ⊢
      go_simp
      exact hV.out _ _ (hZ.val hok 0 rfl (Below.refl _ _) rfl)
    · intro L f W hZ hi hd K hK
      have hV := stepV (d := 30) (f := f) hK (by decide) (by decide)
      clear hK
      simp only [fillA, fillT, Act.put, List.foldl_cons, List.foldl_nil, List.setIfInBounds_toArray, List.set_cons_zero, List.set_cons_succ] at hV ⊢
      have S2 := Lib.hid (S.out.drew.below hZ.1)
      have c0x0 := (S2.out.at 0 rfl).cell (i := 0) rfl
      have v0 := hZ.get 0 rfl (hd ⟨0, .data⟩ (by simp) rfl)
      replace v0 : f 29 = _ := v0
      rw [v0] at hV ⊢
      clear v0
      go_simp
      exact hV.out _ _ (hZ.val hok 1 rfl (Below.refl _ _) rfl)
    · intro L f W hZ hi hd K hK
      have hV := stepV (d := 31) (f := f) hK (by decide) (by decide)
      clear hK
      simp only [fillA, fillT, Act.put, List.foldl_cons, List.foldl_nil, List.setIfInBounds_toArray, List.set_cons_zero, List.set_cons_succ] at hV ⊢
      have S2 := Lib.hid (S.out.drew.below hZ.1)
      have c1x0 := (S2.out.at 1 rfl).cell (i := 0) rfl
      have c1x1 := (S2.out.at 1 rfl).cell (i := 1) rfl
      have c1x2 := (S2.out.at 1 rfl).cell (i := 2) rfl
      go_simp
      exact hV.out _ _ (hZ.val hok 2 rfl (Below.refl _ _) rfl)
    · intro L f W hZ hi hd K hK
      have hV := stepV (d := 32) (f := f) hK (by decide) (by decide)
      clear hK
      simp only [fillA, fillT, Act.put, List.foldl_cons, List.foldl_nil, List.setIfInBounds_toArray, List.set_cons_zero, List.set_cons_succ] at hV ⊢
      have S2 := Lib.hid (S.out.drew.below hZ.1)
      have v2 := hZ.get 2 rfl (hd ⟨2, .data⟩ (by simp) rfl)
      replace v2 : f 31 = _ := v2
      rw [v2] at hV ⊢
      clear v2
      go_simp
      refine (num_any (S2.out.fact 1 rfl)).mono ?_
      rintro e w' ⟨A9, n9, c9, rfl, hx, hb⟩
      exact hV.out _ _ (hZ.val hok 3 rfl hb hx)
    · intro L f W hZ hi hd K hK
      have hV := stepV (d := 33) (f := f) hK (by decide) (by decide)
      clear hK
      simp only [fillA, fillT, Act.put, List.foldl_cons, List.foldl_nil, List.setIfInBounds_toArray, List.set_cons_zero, List.set_cons_succ] at hV ⊢
      have S2 := Lib.hid (S.out.drew.below hZ.1)
      have c1x0 := (S2.out.at 1 rfl).cell (i := 0) rfl
      have c1x1 := (S2.out.at 1 rfl).cell (i := 1) rfl
      have c1x2 := (S2.out.at 1 rfl).cell (i := 2) rfl
      go_simp
      exact hV.out _ _ (hZ.val hok 4 rfl (Below.refl _ _) rfl)
    · intro L f W hZ hi hd K hK
      have hV := stepV (d := 34) (f := f) hK (by decide) (by decide)
      clear hK
      simp only [fillA, fillT, Act.put, List.foldl_cons, List.foldl_nil, List.setIfInBounds_toArray, List.set_cons_zero, List.set_cons_succ] at hV ⊢
      have S2 := Lib.hid (S.out.drew.below hZ.1)
      have v4 := hZ.get 4 rfl (hd ⟨4, .data⟩ (by simp) rfl)
      replace v4 : f 33 = _ := v4
      rw [v4] at hV ⊢
      clear v4
      go_simp
      refine (den_any (S2.out.fact 1 rfl) (by omega)).mono ?_
      rintro e w' ⟨A9, n9, c9, rfl, hx, hb⟩
      exact hV.out _ _ (hZ.val hok 5 rfl hb hx)
    · intro L f W hZ hi hd K hK
      have hV := stepV (d := 35) (f := f) hK (by decide) (by decide)
      clear hK
      simp only [fillA, fillT, Act.put, List.foldl_cons, List.foldl_nil, List.setIfInBounds_toArray, List.set_cons_zero, List.set_cons_succ] at hV ⊢
      have v1 := hZ.get 1 rfl (hd ⟨1, .data⟩ (by simp) rfl)
      replace v1 : f 30 = _ := v1
      rw [v1] at hV ⊢
      clear v1
      have v3 := hZ.get 3 rfl (hd ⟨3, .data⟩ (by simp) rfl)
      obtain ⟨A8, n8, c8, e8⟩ := NatB.shape v3
      replace e8 : f 32 = _ := e8
      replace v3 : NatB W (f 32) _ _ := v3
      rw [e8] at v3 hV ⊢
      clear e8
      have v5 := hZ.get 5 rfl (hd ⟨5, .data⟩ (by simp) rfl)
      obtain ⟨A9, n9, c9, e9⟩ := NatB.shape v5
      replace e9 : f 34 = _ := e9
      replace v5 : NatB W (f 34) _ _ := v5
      rw [e9] at v5 hV ⊢
      clear e9
      go_simp
      refine (hMk.out _ _ _ _ _ _ _ v3 v5).mono ?_
      rintro e w' ⟨b9, A10, n10, c10, A11, n11, c11, rfl, hx, hb⟩
      exact hV.out _ _ (hZ.val hok 6 rfl hb ⟨b9, A10, n10, c10, A11, n11, c11, rfl, hx⟩)
    · intro L f W hZ hi hd K hK
      have hV := stepV (d := 28) (f := f) hK (by decide) (by decide)
      clear hK
      simp only [fillA, fillT, Act.put, List.foldl_cons, List.foldl_nil, List.setIfInBounds_toArray, List.set_cons_zero, List.set_cons_succ] at hV ⊢
      have v := hZ.get 6 rfl (hd ⟨6, .data⟩ (by simp) rfl)
      go_simp
      exact hV.out _ _ (hZ.val hok 7 rfl (Below.refl _ _) v)
    · intro L f W hZ hi hd K hK
      have hV := stepV (d := 36) (f := f) hK (by decide) (by decide)
      clear hK
      simp only [fillA, fillT, Act.put, List.foldl_cons, List.foldl_nil, List.setIfInBounds_toArray, List.set_cons_zero, List.set_cons_succ] at hV ⊢
      obtain ⟨b9, A9, n9, c9, A10, n10, c10, e9, hx⟩ := hZ.get 7 rfl (hd ⟨7, .data⟩ (by simp) rfl)
      replace e9 : f 28 = _ := e9
      rw [e9] at hV ⊢
      clear e9
      go_simp
      exact hV.out _ _ (hZ.val hok 8 rfl (Below.refl _ _) hx)
    · intro L f W hZ hi hd K hK
      have hV := stepV (d := 37) (f := f) hK (by decide) (by decide)
      clear hK
      simp only [fillA, fillT, Act.put, List.foldl_cons, List.foldl_nil, List.setIfInBounds_toArray, List.set_cons_zero, List.set_cons_succ] at hV ⊢
      obtain ⟨b9, A9, n9, c9, A10, n10, c10, e9, hx⟩ := hZ.get 7 rfl (hd ⟨7, .data⟩ (by simp) rfl)
      replace e9 : f 28 = _ := e9
      rw [e9] at hV ⊢
      clear e9
      go_simp
      exact hV.out _ _ (hZ.val hok 9 rfl (Below.refl _ _) rfl)
    · intro L f W hZ hi hd K hK
      have hV := stepV (d := 7) (f := f) hK (by decide) (by decide)
      clear hK
      simp only [fillA, fillT, Act.put, List.foldl_cons, List.foldl_nil, List.setIfInBounds_toArray, List.set_cons_zero, List.set_cons_succ] at hV ⊢
      go_simp
      exact hV.out _ _ (hZ.alloc hok 0 rfl hi)
    · intro L f W hZ hi hd K hK
      have hV := stepS (f := f) hK
      clear hK
      simp only [fillA, fillT, Act.put, List.foldl_cons, List.foldl_nil, List.setIfInBounds_toArray, List.set_cons_zero, List.set_cons_succ] at hV ⊢
      have v := hZ.get 8 rfl (hd ⟨8, .data⟩ (by simp) rfl)
      have hL := hd ⟨10, .data⟩ (by simp) rfl
      obtain ⟨g, cs, e1, -, hbk, -, hz0, -⟩ := hZ.box 0 rfl hL
      obtain rfl := hz0 hi
      replace e1 : f 7 = _ := e1
      obtain ⟨A7, n7, c7, B7, m7, d7, e2⟩ := RatP.shape v
      replace e2 : f 36 = _ := e2
      replace v : RatP W (f 36) _ _ := v
      rw [e2] at v
      rw [e1, e2] at hV ⊢
      have E1 := Lib.hid e1
      clear e1 e2
      have k1 := hbk.cell (i := 0) rfl
      have k2 := hbk.cell (i := 1) rfl
      have k3 := hbk.cell (i := 2) rfl
      have k4 := hbk.frozen (i := 0)
      have k5 := hbk.frozen (i := 1)
      have k6 := hbk.frozen (i := 2)
      generalize decide (q1.num < 0) = sb at v hV ⊢
      go_simp
      exact hV.out _ (hZ.store3 hok 0 rfl E1.out hL hi rfl noint_bool noint_slice noint_slice v)
    · intro L f W hZ hi hd K hK
      have hV := stepV (d := 8) (f := f) hK (by decide) (by decide)
      clear hK
      simp only [fillA, fillT, Act.put, List.foldl_cons, List.foldl_nil, List.setIfInBounds_toArray, List.set_cons_zero, List.set_cons_succ] at hV ⊢
      have v9 := hZ.get 9 rfl (hd ⟨9, .data⟩ (by simp) rfl)
      replace v9 : f 37 = _ := v9
      rw [v9] at hV ⊢
      clear v9
      go_simp
      exact hV.out _ _ (hZ.val hok 10 rfl (Below.refl _ _) rfl)
    intro L f W hZ hL
    obtain ⟨g7, b7, A7, n7, c7, B7, m7, d7, e7, p7, S7, F7⟩ := hZ.takeP hok (S.out.drew.below hZ.1) (drew_low S.out) (Fr.begin S.out) 0 rfl (hL 10 (by decide)) (hL 11 (by decide)) (by simp)
    have e8 := hZ.get 10 rfl (hL 12 (by decide))
    replace e8 : f 8 = _ := e8
    simp only [fillA, fillT, List.foldl_cons, List.foldl_nil, List.setIfInBounds_toArray, List.set_cons_zero, List.set_cons_succ]
    rw [e7, e8]
    replace S := Lib.hid ((S7.push (stab_ratP _ _ _) p7).alloc [.bool false, .slice none 0 0, .slice none 0 0] 30 (by decide) noint3)
    replace S := Lib.hid (S.out.push (stab_ratP _ _ _) (ratP_zero _))
    clear e7 e8 p7 S7 F7 hZ hL hok hMk
    go_wp2_with fail
    generalize hx9 : W.heap.size = x9 at S ⊢
    generalize World.alloc W _ = w20 at S ⊢
    clear hx9
    obtain ⟨tn, htn⟩ : ∃ t, dec q1.num.natAbs = t := ⟨_, rfl⟩
    obtain ⟨td, htd⟩ : ∃ t, dec q1.den = t := ⟨_, rfl⟩
    have HTN := Lib.hid htn
    have HTD := Lib.hid htd
    clear htn htd
    refine wp_region_held_drew (S := fun W' => W'.cell? ⟨x3, 0, none⟩ = some (.bool p1) ∧ W'.cell? ⟨x3, 1, none⟩ = some (.slice P1 pn1 pc1) ∧ W'.cell? ⟨x3, 2, none⟩ = some (.slice Q1 qn1 qc1) ∧ W'.cell? ⟨(x3 + 1), 0, none⟩ = some (.bool r1) ∧ W'.cell? ⟨(x3 + 1), 1, none⟩ = some (.slice R1 rn1 rc1) ∧ W'.cell? ⟨(x3 + 1), 2, none⟩ = some (.slice T1 tn1 tc1) ∧ W'.cell? ⟨g7, 0, none⟩ = some (.bool b7) ∧ W'.cell? ⟨g7, 1, none⟩ = some (.slice A7 n7 c7) ∧ W'.cell? ⟨g7, 2, none⟩ = some (.slice B7 m7 d7) ∧ W'.cell? ⟨x9, 0, none⟩ = some (.bool false) ∧ W'.cell? ⟨x9, 1, none⟩ = some (.slice none 0 0) ∧ W'.cell? ⟨x9, 2, none⟩ = some (.slice none 0 0)) (by kernel_rfl) ⟨(S.out.drew.at 3 rfl).cell (i := 0) rfl, (S.out.drew.at 3 rfl).cell (i := 1) rfl, (S.out.drew.at 3 rfl).cell (i := 2) rfl, (S.out.drew.at 2 rfl).cell (i := 0) rfl, (S.out.drew.at 2 rfl).cell (i := 1) rfl, (S.out.drew.at 2 rfl).cell (i := 2) rfl, (S.out.drew.at 1 rfl).cell (i := 0) rfl, (S.out.drew.at 1 rfl).cell (i := 1) rfl, (S.out.drew.at 1 rfl).cell (i := 2) rfl, (S.out.drew.at 0 rfl).cell (i := 0) rfl, (S.out.drew.at 0 rfl).cell (i := 1) rfl, (S.out.drew.at 0 rfl).cell (i := 2) rfl⟩ (fun hHeld => ?_)
    replace S := Lib.hid S.out.drew
    generalize w20.drew = w21 at S hHeld ⊢
    refine wpAnyH_takeD 0 (v := ?_) rfl rfl (by kernel_rfl) (by kernel_rfl) (by kernel_rfl) (fun _ _ _ h => h) (Or.inl ⟨by rfl, ?_⟩) hHeld ?_
    rotate_left
    focus (intro w hSw; (try dsimp only at hSw); go_simp; try with_reducible rfl)
    simp only [List.setIfInBounds_toArray, List.set_cons_zero, List.set_cons_succ]
    refine wpAnyH_takeD 1 (v := ?_) rfl rfl (by kernel_rfl) (by kernel_rfl) (by kernel_rfl) (fun _ _ _ h => h) (Or.inl ⟨by rfl, ?_⟩) hHeld ?_
    rotate_left
    focus (intro w hSw; (try dsimp only at hSw); go_simp; try with_reducible rfl)
    simp only [List.setIfInBounds_toArray, List.set_cons_zero, List.set_cons_succ]
    refine wpAnyH_takeD 2 (v := ?_) rfl rfl (by kernel_rfl) (by kernel_rfl) (by kernel_rfl) (fun _ _ _ h => h) (Or.inl ⟨by rfl, ?_⟩) hHeld ?_
    rotate_left
    focus (intro w hSw; (try dsimp only at hSw); go_simp; try with_reducible rfl)
    simp only [List.setIfInBounds_toArray, List.set_cons_zero, List.set_cons_succ]
    refine wpAnyH_takeD 3 (v := ?_) rfl rfl (by kernel_rfl) (by kernel_rfl) (by kernel_rfl) (fun _ _ _ h => h) (Or.inl ⟨by rfl, ?_⟩) hHeld ?_
    rotate_left
    focus (intro w hSw; (try dsimp only at hSw); go_simp; try with_reducible rfl)
    simp only [List.setIfInBounds_toArray, List.set_cons_zero, List.set_cons_succ]
    refine wpAnyH_ready (rs := [4]) (by kernel_rfl) (by simp) ?_
    refine AllReadyH.cons rfl (fun K hK => ?_) AllReadyH.nil
    go_simp
    refine (is_any (HV.out.tab.below S.out.low) (S.out.fact 3 rfl) (S.out.fact 2 rfl) (by omega) (by omega)).mono ?_
    rintro e z1 ⟨rfl, hb1⟩
    replace S := Lib.hid (S.out.below hb1)
    clear hb1
    refine hK.out _ _ ⟨(S.out.at 3 rfl).cell (i := 0) rfl, (S.out.at 3 rfl).cell (i := 1) rfl, (S.out.at 3 rfl).cell (i := 2) rfl, (S.out.at 2 rfl).cell (i := 0) rfl, (S.out.at 2 rfl).cell (i := 1) rfl, (S.out.at 2 rfl).cell (i := 2) rfl, (S.out.at 1 rfl).cell (i := 0) rfl, (S.out.at 1 rfl).cell (i := 1) rfl, (S.out.at 1 rfl).cell (i := 2) rfl, (S.out.at 0 rfl).cell (i := 0) rfl, (S.out.at 0 rfl).cell (i := 1) rfl, (S.out.at 0 rfl).cell (i := 2) rfl⟩ (fun hHeld => ?_)
    clear hK K
    refine wpAnyH_takeD 5 (v := ?_) rfl rfl (by kernel_rfl) (by kernel_rfl) (by kernel_rfl) (fun _ _ _ h => h) (Or.inl ⟨by rfl, ?_⟩) hHeld ?_
    rotate_left
    focus (intro w hSw; (try dsimp only at hSw); go_simp; try with_reducible rfl)
    simp only [List.setIfInBounds_toArray, List.set_cons_zero, List.set_cons_succ]
    refine wpAnyH_takeD 6 (v := ?_) rfl rfl (by kernel_rfl) (by kernel_rfl) (by kernel_rfl) (fun _ _ _ h => h) (Or.inl ⟨by rfl, ?_⟩) hHeld ?_
    rotate_left
    focus (intro w hSw; (try dsimp only at hSw); go_simp; try with_reducible rfl)
    simp only [List.setIfInBounds_toArray, List.set_cons_zero, List.set_cons_succ]
    refine wpAnyH_takeD 7 (v := ?_) rfl rfl (by kernel_rfl) (by kernel_rfl) (by kernel_rfl) (fun _ _ _ h => h) (Or.inl ⟨by rfl, ?_⟩) hHeld ?_
    rotate_left
    focus (intro w hSw; (try dsimp only at hSw); go_simp; try with_reducible rfl)
    simp only [List.setIfInBounds_toArray, List.set_cons_zero, List.set_cons_succ]
    refine wpAnyH_takeD 10 (v := ?_) rfl rfl (by kernel_rfl) (by kernel_rfl) (by kernel_rfl) (fun _ _ _ h => h) (Or.inl ⟨by rfl, ?_⟩) hHeld ?_
    rotate_left
    focus (intro w hSw; (try dsimp only at hSw); go_simp; try with_reducible rfl)
    simp only [List.setIfInBounds_toArray, List.set_cons_zero, List.set_cons_succ]
    refine wpAnyH_takeD 11 (v := ?_) rfl rfl (by kernel_rfl) (by kernel_rfl) (by kernel_rfl) (fun _ _ _ h => h) (Or.inl ⟨by rfl, ?_⟩) hHeld ?_
    rotate_left
    focus (intro w hSw; (try dsimp only at hSw); go_simp; try with_reducible rfl)
    simp only [List.setIfInBounds_toArray, List.set_cons_zero, List.set_cons_succ]
    refine wpAnyH_ready (rs := [8]) (by kernel_rfl) (by simp) ?_
    refine AllReadyH.cons rfl (fun K hK => ?_) AllReadyH.nil
    go_simp
    refine (num_any (S.out.fact 3 rfl)).mono ?_
    rintro e z2 ⟨A30, n30, c30, rfl, hq, hb1⟩
    replace S := Lib.hid ((S.out.below hb1).push (stab_natB _ _ _) hq)
    clear hq hb1
    refine hK.out _ _ ⟨(S.out.at 3 rfl).cell (i := 0) rfl, (S.out.at 3 rfl).cell (i := 1) rfl, (S.out.at 3 rfl).cell (i := 2) rfl, (S.out.at 2 rfl).cell (i := 0) rfl, (S.out.at 2 rfl).cell (i := 1) rfl, (S.out.at 2 rfl).cell (i := 2) rfl, (S.out.at 1 rfl).cell (i := 0) rfl, (S.out.at 1 rfl).cell (i := 1) rfl, (S.out.at 1 rfl).cell (i := 2) rfl, (S.out.at 0 rfl).cell (i := 0) rfl, (S.out.at 0 rfl).cell (i := 1) rfl, (S.out.at 0 rfl).cell (i := 2) rfl⟩ (fun hHeld => ?_)
    clear hK K
    refine wpAnyH_ready (rs := [9]) (by kernel_rfl) (by simp) ?_
    refine AllReadyH.cons rfl (fun K hK => ?_) AllReadyH.nil
    go_simp
    have hTx := Lib.hid (textN (HV.out.tab.below S.out.low) (S.out.fact 0 rfl) (by omega))
    rw [HTN.out] at hTx
    unfold str at hTx
    refine (hTx.out).mono ?_
    rintro e z3 ⟨rfl, hb1⟩
    clear hTx
    replace S := Lib.hid (S.out.below hb1)
    clear hb1
    refine hK.out _ _ ⟨(S.out.at 3 rfl).cell (i := 0) rfl, (S.out.at 3 rfl).cell (i := 1) rfl, (S.out.at 3 rfl).cell (i := 2) rfl, (S.out.at 2 rfl).cell (i := 0) rfl, (S.out.at 2 rfl).cell (i := 1) rfl, (S.out.at 2 rfl).cell (i := 2) rfl, (S.out.at 1 rfl).cell (i := 0) rfl, (S.out.at 1 rfl).cell (i := 1) rfl, (S.out.at 1 rfl).cell (i := 2) rfl, (S.out.at 0 rfl).cell (i := 0) rfl, (S.out.at 0 rfl).cell (i := 1) rfl, (S.out.at 0 rfl).cell (i := 2) rfl⟩ (fun hHeld => ?_)
    clear hK K
    refine wpAnyH_ready (rs := [12]) (by kernel_rfl) (by simp) ?_
    refine AllReadyH.cons rfl (fun K hK => ?_) AllReadyH.nil
    go_simp
    have hTx := Lib.hid (textF (RatF.parts (S.out.fact 3 rfl)).2.1 (by omega))
    rw [HTN.out] at hTx
    unfold str at hTx
    refine (hTx.out).mono ?_
    rintro e z4 ⟨rfl, hb1⟩
    clear hTx
    replace S := Lib.hid (S.out.below hb1)
    clear hb1
    refine hK.out _ _ ⟨(S.out.at 3 rfl).cell (i := 0) rfl, (S.out.at 3 rfl).cell (i := 1) rfl, (S.out.at 3 rfl).cell (i := 2) rfl, (S.out.at 2 rfl).cell (i := 0) rfl, (S.out.at 2 rfl).cell (i := 1) rfl, (S.out.at 2 rfl).cell (i := 2) rfl, (S.out.at 1 rfl).cell (i := 0) rfl, (S.out.at 1 rfl).cell (i := 1) rfl, (S.out.at 1 rfl).cell (i := 2) rfl, (S.out.at 0 rfl).cell (i := 0) rfl, (S.out.at 0 rfl).cell (i := 1) rfl, (S.out.at 0 rfl).cell (i := 2) rfl⟩ (fun hHeld => ?_)
    clear hK K
    refine wpAnyH_takeD 13 (v := ?_) rfl rfl (by kernel_rfl) (by kernel_rfl) (by kernel_rfl) (fun _ _ _ h => h) (Or.inl ⟨by rfl, ?_⟩) hHeld ?_
    rotate_left
    focus (intro w hSw; (try dsimp only at hSw); go_simp; try with_reducible rfl)
    simp only [List.setIfInBounds_toArray, List.set_cons_zero, List.set_cons_succ]
    refine wpAnyH_takeD 14 (v := ?_) rfl rfl (by kernel_rfl) (by kernel_rfl) (by kernel_rfl) (fun _ _ _ h => h) (Or.inl ⟨by rfl, ?_⟩) hHeld ?_
    rotate_left
    focus (intro w hSw; (try dsimp only at hSw); go_simp; try with_reducible rfl)
    simp only [List.setIfInBounds_toArray, List.set_cons_zero, List.set_cons_succ]
    refine wpAnyH_takeD 15 (v := ?_) rfl rfl (by kernel_rfl) (by kernel_rfl) (by kernel_rfl) (fun _ _ _ h => h) (Or.inl ⟨by rfl, ?_⟩) hHeld ?_
    rotate_left
    focus (intro w hSw; (try dsimp only at hSw); go_simp; try with_reducible rfl)
    simp only [List.setIfInBounds_toArray, List.set_cons_zero, List.set_cons_succ]
    refine wpAnyH_takeD 16 (v := ?_) rfl rfl (by kernel_rfl) (by kernel_rfl) (by kernel_rfl) (fun _ _ _ h => h) (Or.inl ⟨by rfl, ?_⟩) hHeld ?_
    rotate_left
    focus (intro w hSw; (try dsimp only at hSw); go_simp; try with_reducible rfl)
    simp only [List.setIfInBounds_toArray, List.set_cons_zero, List.set_cons_succ]
    refine wpAnyH_takeD 19 (v := ?_) rfl rfl (by kernel_rfl) (by kernel_rfl) (by kernel_rfl) (fun _ _ _ h => h) (Or.inl ⟨by rfl, ?_⟩) hHeld ?_
    rotate_left
    focus (intro w hSw; (try dsimp only at hSw); go_simp; try with_reducible rfl)
    simp only [List.setIfInBounds_toArray, List.set_cons_zero, List.set_cons_succ]
    refine wpAnyH_ready (rs := [17]) (by kernel_rfl) (by simp) ?_
    refine AllReadyH.cons rfl (fun K hK => ?_) AllReadyH.nil
    go_simp
    refine (den_any (S.out.fact 4 rfl) (by omega)).mono ?_
    rintro e z5 ⟨A31, n31, c31, rfl, hq, hb1⟩
    replace S := Lib.hid ((S.out.below hb1).push (stab_natB _ _ _) hq)
    clear hq hb1
    refine hK.out _ _ ⟨(S.out.at 3 rfl).cell (i := 0) rfl, (S.out.at 3 rfl).cell (i := 1) rfl, (S.out.at 3 rfl).cell (i := 2) rfl, (S.out.at 2 rfl).cell (i := 0) rfl, (S.out.at 2 rfl).cell (i := 1) rfl, (S.out.at 2 rfl).cell (i := 2) rfl, (S.out.at 1 rfl).cell (i := 0) rfl, (S.out.at 1 rfl).cell (i := 1) rfl, (S.out.at 1 rfl).cell (i := 2) rfl, (S.out.at 0 rfl).cell (i := 0) rfl, (S.out.at 0 rfl).cell (i := 1) rfl, (S.out.at 0 rfl).cell (i := 2) rfl⟩ (fun hHeld => ?_)
    clear hK K
    refine wpAnyH_ready (rs := [18]) (by kernel_rfl) (by simp) ?_
    refine AllReadyH.cons rfl (fun K hK => ?_) AllReadyH.nil
    go_simp
    have hTx := Lib.hid (textN (HV.out.tab.below S.out.low) (S.out.fact 0 rfl) (by omega))
    rw [HTD.out] at hTx
    unfold str at hTx
    refine (hTx.out).mono ?_
    rintro e z6 ⟨rfl, hb1⟩
    clear hTx
    replace S := Lib.hid (S.out.below hb1)
    clear hb1
    refine hK.out _ _ ⟨(S.out.at 3 rfl).cell (i := 0) rfl, (S.out.at 3 rfl).cell (i := 1) rfl, (S.out.at 3 rfl).cell (i := 2) rfl, (S.out.at 2 rfl).cell (i := 0) rfl, (S.out.at 2 rfl).cell (i := 1) rfl, (S.out.at 2 rfl).cell (i := 2) rfl, (S.out.at 1 rfl).cell (i := 0) rfl, (S.out.at 1 rfl).cell (i := 1) rfl, (S.out.at 1 rfl).cell (i := 2) rfl, (S.out.at 0 rfl).cell (i := 0) rfl, (S.out.at 0 rfl).cell (i := 1) rfl, (S.out.at 0 rfl).cell (i := 2) rfl⟩ (fun hHeld => ?_)
    clear hK K
    refine wpAnyH_ready (rs := [20]) (by kernel_rfl) (by simp) ?_
    refine AllReadyH.cons rfl (fun K hK => ?_) AllReadyH.nil
    go_simp
    have hTx := Lib.hid (textF ((by have h := (RatF.parts (S.out.fact 4 rfl)).2.2; rwa [if_neg HD0.out] at h)) (by omega))
    rw [HTD.out] at hTx
    unfold str at hTx
    refine (hTx.out).mono ?_
    rintro e z7 ⟨rfl, hb1⟩
    clear hTx
    replace S := Lib.hid (S.out.below hb1)
    clear hb1
    refine hK.out _ _ ⟨(S.out.at 3 rfl).cell (i := 0) rfl, (S.out.at 3 rfl).cell (i := 1) rfl, (S.out.at 3 rfl).cell (i := 2) rfl, (S.out.at 2 rfl).cell (i := 0) rfl, (S.out.at 2 rfl).cell (i := 1) rfl, (S.out.at 2 rfl).cell (i := 2) rfl, (S.out.at 1 rfl).cell (i := 0) rfl, (S.out.at 1 rfl).cell (i := 1) rfl, (S.out.at 1 rfl).cell (i := 2) rfl, (S.out.at 0 rfl).cell (i := 0) rfl, (S.out.at 0 rfl).cell (i := 1) rfl, (S.out.at 0 rfl).cell (i := 2) rfl⟩ (fun hHeld => ?_)
    clear hK K
    refine wpAnyH_takeD 21 (v := ?_) rfl rfl (by kernel_rfl) (by kernel_rfl) (by kernel_rfl) (fun _ _ _ h => h) (Or.inl ⟨by rfl, ?_⟩) hHeld ?_
    rotate_left
    focus (intro w hSw; (try dsimp only at hSw); go_simp; try with_reducible rfl)
    simp only [List.setIfInBounds_toArray, List.set_cons_zero, List.set_cons_succ]
    refine wpAnyH_takeD 22 (v := ?_) rfl rfl (by kernel_rfl) (by kernel_rfl) (by kernel_rfl) (fun _ _ _ h => h) (Or.inl ⟨by rfl, ?_⟩) hHeld ?_
    rotate_left
    focus (intro w hSw; (try dsimp only at hSw); go_simp; try with_reducible rfl)
    simp only [List.setIfInBounds_toArray, List.set_cons_zero, List.set_cons_succ]
    refine wpAnyH_takeD 23 (v := ?_) rfl rfl (by kernel_rfl) (by kernel_rfl) (by kernel_rfl) (fun _ _ _ h => h) (Or.inl ⟨by rfl, ?_⟩) hHeld ?_
    rotate_left
    focus (intro w hSw; (try dsimp only at hSw); go_simp; try with_reducible rfl)
    simp only [List.setIfInBounds_toArray, List.set_cons_zero, List.set_cons_succ]
    refine wpAnyH_takeD 24 (v := ?_) rfl rfl (by kernel_rfl) (by kernel_rfl) (by kernel_rfl) (fun _ _ _ h => h) (Or.inl ⟨by rfl, ?_⟩) hHeld ?_
    rotate_left
    focus (intro w hSw; (try dsimp only at hSw); go_simp; try with_reducible rfl)
    simp only [List.setIfInBounds_toArray, List.set_cons_zero, List.set_cons_succ]
    refine wpAnyH_takeD 25 (v := ?_) rfl rfl (by kernel_rfl) (by kernel_rfl) (by kernel_rfl) (fun _ _ _ h => h) (Or.inl ⟨by rfl, ?_⟩) hHeld ?_
    rotate_left
    focus (intro w hSw; (try dsimp only at hSw); go_simp; try with_reducible rfl)
    simp only [List.setIfInBounds_toArray, List.set_cons_zero, List.set_cons_succ]
    refine wpAnyH_takeD 26 (v := ?_) rfl rfl (by kernel_rfl) (by kernel_rfl) (by kernel_rfl) (fun _ _ _ h => h) (Or.inl ⟨by rfl, ?_⟩) hHeld ?_
    rotate_left
    focus (intro w hSw; (try dsimp only at hSw); go_simp; try with_reducible rfl)
    simp only [List.setIfInBounds_toArray, List.set_cons_zero, List.set_cons_succ]
    refine wpAnyH_takeD 27 (v := ?_) rfl rfl (by kernel_rfl) (by kernel_rfl) (by kernel_rfl) (fun _ _ _ h => h) (Or.inl ⟨by rfl, ?_⟩) hHeld ?_
    rotate_left
    focus (intro w hSw; (try dsimp only at hSw); go_simp; try with_reducible rfl)
    simp only [List.setIfInBounds_toArray, List.set_cons_zero, List.set_cons_succ]
    refine wpAnyH_takeD 28 (v := ?_) rfl rfl (by kernel_rfl) (by kernel_rfl) (by kernel_rfl) (fun _ _ _ h => h) (Or.inl ⟨by rfl, ?_⟩) hHeld ?_
    rotate_left
    focus (intro w hSw; (try dsimp only at hSw); go_simp; try with_reducible rfl)
    simp only [List.setIfInBounds_toArray, List.set_cons_zero, List.set_cons_succ]
    refine wpAnyH_takeD 29 (v := ?_) rfl rfl (by kernel_rfl) (by kernel_rfl) (by kernel_rfl) (fun _ _ _ h => h) (Or.inl ⟨by rfl, ?_⟩) hHeld ?_
    rotate_left
    focus (intro w hSw; (try dsimp only at hSw); go_simp; try with_reducible rfl)
    simp only [List.setIfInBounds_toArray, List.set_cons_zero, List.set_cons_succ]
    refine wpAnyH_ready (rs := [30]) (by kernel_rfl) (by simp) ?_
    refine AllReadyH.cons rfl (fun K hK => ?_) AllReadyH.nil
    go_simp
    refine (is_any (HV.out.tab.below S.out.low) (S.out.fact 3 rfl) (S.out.fact 4 rfl) (by omega) (by omega)).mono ?_
    rintro e z8 ⟨rfl, hb1⟩
    replace S := Lib.hid (S.out.below hb1)
    clear hb1
    refine hK.out _ _ ⟨(S.out.at 3 rfl).cell (i := 0) rfl, (S.out.at 3 rfl).cell (i := 1) rfl, (S.out.at 3 rfl).cell (i := 2) rfl, (S.out.at 2 rfl).cell (i := 0) rfl, (S.out.at 2 rfl).cell (i := 1) rfl, (S.out.at 2 rfl).cell (i := 2) rfl, (S.out.at 1 rfl).cell (i := 0) rfl, (S.out.at 1 rfl).cell (i := 1) rfl, (S.out.at 1 rfl).cell (i := 2) rfl, (S.out.at 0 rfl).cell (i := 0) rfl, (S.out.at 0 rfl).cell (i := 1) rfl, (S.out.at 0 rfl).cell (i := 2) rfl⟩ (fun hHeld => ?_)
    clear hK K
    refine wpAnyH_takeD 31 (v := ?_) rfl rfl (by kernel_rfl) (by kernel_rfl) (by kernel_rfl) (fun _ _ _ h => h) (Or.inl ⟨by rfl, ?_⟩) hHeld ?_
    rotate_left
    focus (intro w hSw; (try dsimp only at hSw); go_simp; try with_reducible rfl)
    simp only [List.setIfInBounds_toArray, List.set_cons_zero, List.set_cons_succ]
    refine wpAnyH_takeD 32 (v := ?_) rfl rfl (by kernel_rfl) (by kernel_rfl) (by kernel_rfl) (fun _ _ _ h => h) (Or.inl ⟨by rfl, ?_⟩) hHeld ?_
    rotate_left
    focus (intro w hSw; (try dsimp only at hSw); go_simp; try with_reducible rfl)
    simp only [List.setIfInBounds_toArray, List.set_cons_zero, List.set_cons_succ]
    refine wpAnyH_takeD 33 (v := ?_) rfl rfl (by kernel_rfl) (by kernel_rfl) (by kernel_rfl) (fun _ _ _ h => h) (Or.inl ⟨by rfl, ?_⟩) hHeld ?_
    rotate_left
    focus (intro w hSw; (try dsimp only at hSw); go_simp; try with_reducible rfl)
    simp only [List.setIfInBounds_toArray, List.set_cons_zero, List.set_cons_succ]
    refine wpAnyH_ready (rs := [34]) (by kernel_rfl) (by simp) ?_
    refine AllReadyH.cons rfl (fun K hK => ?_) AllReadyH.nil
    go_simp
    have hTz := Lib.hid (text_any (HV.out.tab.below S.out.low) (S.out.fact 2 rfl) (by omega))
    unfold str at hTz
    rw [txt_zero] at hTz
    refine (hTz.out).mono ?_
    rintro e z9 ⟨rfl, hb1⟩
    clear hTz
    replace S := Lib.hid (S.out.below hb1)
    clear hb1
    refine hK.out _ _ ⟨(S.out.at 3 rfl).cell (i := 0) rfl, (S.out.at 3 rfl).cell (i := 1) rfl, (S.out.at 3 rfl).cell (i := 2) rfl, (S.out.at 2 rfl).cell (i := 0) rfl, (S.out.at 2 rfl).cell (i := 1) rfl, (S.out.at 2 rfl).cell (i := 2) rfl, (S.out.at 1 rfl).cell (i := 0) rfl, (S.out.at 1 rfl).cell (i := 1) rfl, (S.out.at 1 rfl).cell (i := 2) rfl, (S.out.at 0 rfl).cell (i := 0) rfl, (S.out.at 0 rfl).cell (i := 1) rfl, (S.out.at 0 rfl).cell (i := 2) rfl⟩ (fun hHeld => ?_)
    clear hK K
    refine wpAnyH_takeD 35 (v := ?_) rfl rfl (by kernel_rfl) (by kernel_rfl) (by kernel_rfl) (fun _ _ _ h => h) (Or.inl ⟨by rfl, ?_⟩) hHeld ?_
    rotate_left
    focus (intro w hSw; (try dsimp only at hSw); go_simp; try with_reducible rfl)
    simp only [List.setIfInBounds_toArray, List.set_cons_zero, List.set_cons_succ]
    refine wpAnyH_takeD 36 (v := ?_) rfl rfl (by kernel_rfl) (by kernel_rfl) (by kernel_rfl) (fun _ _ _ h => h) (Or.inl ⟨by rfl, ?_⟩) hHeld ?_
    rotate_left
    focus (intro w hSw; (try dsimp only at hSw); go_simp; try with_reducible rfl)
    simp only [List.setIfInBounds_toArray, List.set_cons_zero, List.set_cons_succ]
    refine wpAnyH_takeD 37 (v := ?_) rfl rfl (by kernel_rfl) (by kernel_rfl) (by kernel_rfl) (fun _ _ _ h => h) (Or.inl ⟨by rfl, ?_⟩) hHeld ?_
    rotate_left
    focus (intro w hSw; (try dsimp only at hSw); go_simp; try with_reducible rfl)
    simp only [List.setIfInBounds_toArray, List.set_cons_zero, List.set_cons_succ]
    refine wpAnyH_takeD 38 (v := ?_) rfl rfl (by kernel_rfl) (by kernel_rfl) (by kernel_rfl) (fun _ _ _ h => h) (Or.inl ⟨by rfl, ?_⟩) hHeld ?_
    rotate_left
    focus (intro w hSw; (try dsimp only at hSw); go_simp; try with_reducible rfl)
    simp only [List.setIfInBounds_toArray, List.set_cons_zero, List.set_cons_succ]
    refine wpAnyH_ready (rs := [39]) (by kernel_rfl) (by simp) ?_
    refine AllReadyH.cons rfl (fun K hK => ?_) AllReadyH.nil
    go_simp
    refine (den_any (S.out.fact 2 rfl) (by omega)).mono ?_
    rintro e z10 ⟨A32, n32, c32, rfl, hq, hb1⟩
    replace S := Lib.hid ((S.out.below hb1).push (stab_natB _ _ _) hq)
    clear hq hb1
    refine hK.out _ _ ⟨(S.out.at 3 rfl).cell (i := 0) rfl, (S.out.at 3 rfl).cell (i := 1) rfl, (S.out.at 3 rfl).cell (i := 2) rfl, (S.out.at 2 rfl).cell (i := 0) rfl, (S.out.at 2 rfl).cell (i := 1) rfl, (S.out.at 2 rfl).cell (i := 2) rfl, (S.out.at 1 rfl).cell (i := 0) rfl, (S.out.at 1 rfl).cell (i := 1) rfl, (S.out.at 1 rfl).cell (i := 2) rfl, (S.out.at 0 rfl).cell (i := 0) rfl, (S.out.at 0 rfl).cell (i := 1) rfl, (S.out.at 0 rfl).cell (i := 2) rfl⟩ (fun hHeld => ?_)
    clear hK K
    refine wpAnyH_ready (rs := [40]) (by kernel_rfl) (by simp) ?_
    refine AllReadyH.cons rfl (fun K hK => ?_) AllReadyH.nil
    go_simp
    have hTo := Lib.hid (textN (HV.out.tab.below S.out.low) (S.out.fact 0 rfl) (by omega))
    rw [show (0 : Rat).den = 1 from rfl, dec_one] at hTo
    unfold str at hTo
    refine (hTo.out).mono ?_
    rintro e z11 ⟨rfl, hb1⟩
    clear hTo
    replace S := Lib.hid (S.out.below hb1)
    clear hb1
    refine hK.out _ _ ⟨(S.out.at 3 rfl).cell (i := 0) rfl, (S.out.at 3 rfl).cell (i := 1) rfl, (S.out.at 3 rfl).cell (i := 2) rfl, (S.out.at 2 rfl).cell (i := 0) rfl, (S.out.at 2 rfl).cell (i := 1) rfl, (S.out.at 2 rfl).cell (i := 2) rfl, (S.out.at 1 rfl).cell (i := 0) rfl, (S.out.at 1 rfl).cell (i := 1) rfl, (S.out.at 1 rfl).cell (i := 2) rfl, (S.out.at 0 rfl).cell (i := 0) rfl, (S.out.at 0 rfl).cell (i := 1) rfl, (S.out.at 0 rfl).cell (i := 2) rfl⟩ (fun hHeld => ?_)
    clear hK K
    refine wpAnyH_takeD 41 (v := ?_) rfl rfl (by kernel_rfl) (by kernel_rfl) (by kernel_rfl) (fun _ _ _ h => h) (Or.inl ⟨by rfl, ?_⟩) hHeld ?_
    rotate_left
    focus (intro w hSw; (try dsimp only at hSw); go_simp; try with_reducible rfl)
    simp only [List.setIfInBounds_toArray, List.set_cons_zero, List.set_cons_succ]
    refine wpAnyH_takeD 42 (v := ?_) rfl rfl (by kernel_rfl) (by kernel_rfl) (by kernel_rfl) (fun _ _ _ h => h) (Or.inl ⟨by rfl, ?_⟩) hHeld ?_
    rotate_left
    focus (intro w hSw; (try dsimp only at hSw); go_simp; try with_reducible rfl)
    simp only [List.setIfInBounds_toArray, List.set_cons_zero, List.set_cons_succ]
    refine wpAnyH_takeD 43 (v := ?_) rfl rfl (by kernel_rfl) (by kernel_rfl) (by kernel_rfl) (fun _ _ _ h => h) (Or.inl ⟨by rfl, ?_⟩) hHeld ?_
    rotate_left
    focus (intro w hSw; (try dsimp only at hSw); go_simp; try with_reducible rfl)
    simp only [List.setIfInBounds_toArray, List.set_cons_zero, List.set_cons_succ]
    refine wpAnyH_done (by kernel_rfl) ?_ _
    go_wp2_with fail
    go_ret
    exact ⟨rfl, S.out.low⟩
theorem lawText {w : World} {b1 : Bool} {A1 B1 : Option Addr} {n1 c1 m1 e1 : Nat} {ds1 es1 : List Nat} (hV : Vars w) (h1 : ArgN w A1 n1 c1 B1 m1 e1 ds1 es1) : Calls Tryz.prog 3 #[.agg #[.bool b1, .slice A1 n1 c1, .slice B1 m1 e1]] w fun e w' => e = .returned (.bool true) ∧ Below w.heap.size w w' := by
  by_cases hy : (n1 ≤ 8 ∧ m1 ≤ 8)
  · exact lawText_small hV h1 hy
  · exact lawText_large hV h1 hy
end Go.Proofs.YtbmdbhafanojcaaGreatDoor
