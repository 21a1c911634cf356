/- The walk of the law RationalProducts. -/
import Derived.Test.YtbmdbhafanojcaaGreatDoorRU
import Derived.Test.YtbmdbhafanojcaaGreatDoorRYb
import Derived.Test.YtbmdbhafanojcaaGreatDoorRW
namespace Go.Proofs.YtbmdbhafanojcaaGreatDoor
open Go.RowKit

theorem ratF_zero (W : World) : RatF W (.agg #[.bool false, .slice none 0 0, .slice none 0 0]) 0 1 :=
  ⟨none, 0, 0, none, 0, 0, rfl, RefB.zero W 1, RefB.zero W 1, by simp⟩
set_option maxRecDepth 100000 in
set_option maxHeartbeats 16000000 in
theorem lawProd_large {w : World} {b1 : Bool} {A1 B1 : Option Addr} {n1 c1 m1 e1 : Nat} {ds1 es1 : List Nat} {b2 : Bool} {A2 B2 : Option Addr} {n2 c2 m2 e2 : Nat} {ds2 es2 : List Nat} (hV : Vars w) (h1 : ArgN w A1 n1 c1 B1 m1 e1 ds1 es1) (h2 : ArgN w A2 n2 c2 B2 m2 e2 ds2 es2) (hno : ¬ ((n1 ≤ 8 ∧ m1 ≤ 8) ∧ n2 ≤ 8 ∧ m2 ≤ 8)) : Calls Tryz.prog 7 #[.agg #[.bool b1, .slice A1 n1 c1, .slice B1 m1 e1], .agg #[.bool b2, .slice A2 n2 c2, .slice B2 m2 e2]] w fun e w' => e = .returned (.bool true) ∧ Below w.heap.size w w' := by
  obtain ⟨w1, hw1, S⟩ := enter2 w [.bool b1, .slice A1 n1 c1, .slice B1 m1 e1] 24 [.bool b2, .slice A2 n2 c2, .slice B2 m2 e2] 24 (by decide) noint3 (by decide) noint3
  have hAw := Lib.hid (awake_any (hV.below S.out.low))
  have hBr := Lib.hid (fun W g cap (h : Blk W g [.bool b1, .slice A1 n1 c1, .slice B1 m1 e1, .bool b2, .slice A2 n2 c2, .slice B2 m2 e2] 24) => brief2 h h1.b1 h1.b2 h2.b1 h2.b2 (cap := cap))
  rw [decide_eq_false hno] at hBr
  clear hno h1 h2 hV
  go_enter Tryz.func7, Tryz.ntmps7
  go_wp2_with fail
  refine hAw.out.mono ?_
  rintro e w2 ⟨rfl, hb⟩
  replace S := Lib.hid (S.out.below hb)
  clear hb hw1 hAw
  have c1x0 := (S.out.at 1 rfl).cell (i := 0) rfl
  have c1x1 := (S.out.at 1 rfl).cell (i := 1) rfl
  have c1x2 := (S.out.at 1 rfl).cell (i := 2) rfl
  have c0x0 := (S.out.at 0 rfl).cell (i := 0) rfl
  have c0x1 := (S.out.at 0 rfl).cell (i := 1) rfl
  have c0x2 := (S.out.at 0 rfl).cell (i := 2) rfl
  replace S := Lib.hid (S.out.alloc [.bool b1, .slice A1 n1 c1, .slice B1 m1 e1, .bool b2, .slice A2 n2 c2, .slice B2 m2 e2] 24 (by decide) (by intro c hc; simp only [List.mem_cons, List.not_mem_nil, or_false] at hc; rcases hc with rfl | rfl | rfl | rfl | rfl | rfl <;> intro k z h <;> cases h))
  have hbk := S.out.at 0 rfl
  have HB := Lib.hid hbk
  clear hbk
  go_wp2_with fail
  refine (hBr.out _ _ _ HB.out).mono ?_
  rintro e w' ⟨rfl, rfl⟩
  go_wp2_with fail
  go_ret
  exact ⟨rfl, S.out.low⟩
set_option maxRecDepth 100000 in
set_option maxHeartbeats 16000000 in
theorem lawProd_more {w : World} {b1 : Bool} {A1 B1 : Option Addr} {n1 c1 m1 e1 : Nat} {ds1 es1 : List Nat} {b2 : Bool} {A2 B2 : Option Addr} {n2 c2 m2 e2 : Nat} {ds2 es2 : List Nat} (hV : Vars w) (h1 : ArgN w A1 n1 c1 B1 m1 e1 ds1 es1) (h2 : ArgN w A2 n2 c2 B2 m2 e2 ds2 es2) (hyes : ((n1 ≤ 8 ∧ m1 ≤ 8) ∧ n2 ≤ 8 ∧ m2 ≤ 8)) (h0 : (numQ b2 ds2 es2).num ≠ 0) : Calls Tryz.prog 7 #[.agg #[.bool b1, .slice A1 n1 c1, .slice B1 m1 e1], .agg #[.bool b2, .slice A2 n2 c2, .slice B2 m2 e2]] w fun e w' => e = .returned (.bool true) ∧ Below w.heap.size w w' := by
  obtain ⟨w1, hw1, S⟩ := enter2 w [.bool b1, .slice A1 n1 c1, .slice B1 m1 e1] 24 [.bool b2, .slice A2 n2 c2, .slice B2 m2 e2] 24 (by decide) noint3 (by decide) noint3
  have hAw := Lib.hid (awake_any (hV.below S.out.low))
  have hBr := Lib.hid (fun W g cap (h : Blk W g [.bool b1, .slice A1 n1 c1, .slice B1 m1 e1, .bool b2, .slice A2 n2 c2, .slice B2 m2 e2] 24) => brief2 h h1.b1 h1.b2 h2.b1 h2.b2 (cap := cap))
  rw [decide_eq_true hyes] at hBr
  have hOf1 := Lib.hid (fun W (hw : Below w.heap.size w W) => ofA (b := b1) hV h1 hyes.1.1 hyes.1.2 hw)
  have hOf2 := Lib.hid (fun W (hw : Below w.heap.size w W) => ofA (b := b2) hV h2 hyes.2.1 hyes.2.2 hw)
  have HV := Lib.hid hV
  generalize numQ b1 ds1 es1 = q1 at *
  generalize numQ b2 ds2 es2 = q2 at *
  clear hyes h1 h2 hV
  go_enter Tryz.func7, Tryz.ntmps7
  go_wp2_with fail
  refine hAw.out.mono ?_
  rintro e w2 ⟨rfl, hb⟩
  replace S := Lib.hid (S.out.below hb)
  clear hb hw1 hAw
  have c1x0 := (S.out.at 1 rfl).cell (i := 0) rfl
  have c1x1 := (S.out.at 1 rfl).cell (i := 1) rfl
  have c1x2 := (S.out.at 1 rfl).cell (i := 2) rfl
  have c0x0 := (S.out.at 0 rfl).cell (i := 0) rfl
  have c0x1 := (S.out.at 0 rfl).cell (i := 1) rfl
  have c0x2 := (S.out.at 0 rfl).cell (i := 2) rfl
  replace S := Lib.hid (S.out.alloc [.bool b1, .slice A1 n1 c1, .slice B1 m1 e1, .bool b2, .slice A2 n2 c2, .slice B2 m2 e2] 24 (by decide) (by intro c hc; simp only [List.mem_cons, List.not_mem_nil, or_false] at hc; rcases hc with rfl | rfl | rfl | rfl | rfl | rfl <;> intro k z h <;> cases h))
  have hbk := S.out.at 0 rfl
  have HB := Lib.hid hbk
  clear hbk
  go_wp2_with fail
  refine (hBr.out _ _ _ HB.out).mono ?_
  rintro e w' ⟨rfl, rfl⟩
  clear HB hBr
  clear c1x0 c1x1 c1x2 c0x0 c0x1 c0x2
  have c2x0 := (S.out.at 2 rfl).cell (i := 0) rfl
  have c2x1 := (S.out.at 2 rfl).cell (i := 1) rfl
  have c2x2 := (S.out.at 2 rfl).cell (i := 2) rfl
  go_wp2_with fail
  refine (hOf1.out _ S.out.low).mono ?_
  rintro e w3 ⟨p1, P1, pn1, pc1, Q1, qn1, qc1, r1, R1, rn1, rc1, T1, tn1, tc1, rfl, hq, hq2, hb⟩
  replace S := Lib.hid ((((S.out.below hb).push (stab_ratP _ _ _) hq).push (stab_ratF _ _ _) hq2).allocTwo [.bool p1, .slice P1 pn1 pc1, .slice Q1 qn1 qc1] 30 [.bool r1, .slice R1 rn1 rc1, .slice T1 tn1 tc1] 34 (by decide) noint3 (by decide) noint3)
  generalize hx5 : w3.heap.size = x5 at S
  obtain ⟨w4, hw4⟩ : ∃ w4, (w3.alloc (.cells #[.bool p1, .slice P1 pn1 pc1, .slice Q1 qn1 qc1] 30)).alloc (.cells #[.bool r1, .slice R1 rn1 rc1, .slice T1 tn1 tc1] 34) = w4 := ⟨_, rfl⟩
  rw [hw4] at S
  clear hb hq hq2 hOf1
  clear c2x0 c2x1 c2x2
  have c3x0 := (S.out.at 3 rfl).cell (i := 0) rfl
  have c3x1 := (S.out.at 3 rfl).cell (i := 1) rfl
  have c3x2 := (S.out.at 3 rfl).cell (i := 2) rfl
  go_wp2_with fail
  clear hw4 hx5 c3x0 c3x1 c3x2
  refine (hOf2.out _ S.out.low).mono ?_
  rintro e w5 ⟨p2, P2, pn2, pc2, Q2, qn2, qc2, r2, R2, rn2, rc2, T2, tn2, tc2, rfl, hq, hq2, hb⟩
  replace S := Lib.hid ((((S.out.below hb).push (stab_ratP _ _ _) hq).push (stab_ratF _ _ _) hq2).allocTwo [.bool p2, .slice P2 pn2 pc2, .slice Q2 qn2 qc2] 30 [.bool r2, .slice R2 rn2 rc2, .slice T2 tn2 tc2] 34 (by decide) noint3 (by decide) noint3)
  generalize hx8 : w5.heap.size = x8 at S
  obtain ⟨w6, hw6⟩ : ∃ w6, (w5.alloc (.cells #[.bool p2, .slice P2 pn2 pc2, .slice Q2 qn2 qc2] 30)).alloc (.cells #[.bool r2, .slice R2 rn2 rc2, .slice T2 tn2 tc2] 34) = w6 := ⟨_, rfl⟩
  rw [hw6] at S
  clear hb hq hq2 hOf2
  have c1x0 := (S.out.at 1 rfl).cell (i := 0) rfl
  have c1x1 := (S.out.at 1 rfl).cell (i := 1) rfl
  have c1x2 := (S.out.at 1 rfl).cell (i := 2) rfl
  have c3x0 := (S.out.at 3 rfl).cell (i := 0) rfl
  have c3x1 := (S.out.at 3 rfl).cell (i := 1) rfl
  have c3x2 := (S.out.at 3 rfl).cell (i := 2) rfl
  go_wp2_with fail
  clear hw6 hx8 c1x0 c1x1 c1x2 c3x0 c3x1 c3x2
  refine (div_any (S.out.fact 3 rfl) (S.out.fact 1 rfl) (by omega) (by omega) h0).mono ?_
  rintro e w7 ⟨ub1, uA1, un1, uc1, uB1, um1, ud1, rfl, hq, hb⟩
  replace S := Lib.hid (((S.out.below hb).push (stab_ratP _ _ _) hq).alloc [.bool ub1, .slice uA1 un1 uc1, .slice uB1 um1 ud1] 30 (by decide) noint3)
  generalize hx11 : w7.heap.size = x11 at S
  obtain ⟨w8, hw8⟩ : ∃ w8, w7.alloc (.cells #[.bool ub1, .slice uA1 un1 uc1, .slice uB1 um1 ud1] 30) = w8 := ⟨_, rfl⟩
  rw [hw8] at S
  clear hb hq
  have c1x0 := (S.out.at 1 rfl).cell (i := 0) rfl
  have c1x1 := (S.out.at 1 rfl).cell (i := 1) rfl
  have c1x2 := (S.out.at 1 rfl).cell (i := 2) rfl
  have c3x0 := (S.out.at 3 rfl).cell (i := 0) rfl
  have c3x1 := (S.out.at 3 rfl).cell (i := 1) rfl
  have c3x2 := (S.out.at 3 rfl).cell (i := 2) rfl
  go_wp2_with fail
  clear c1x0 c1x1 c1x2 c3x0 c3x1 c3x2 hw8 hx11
  refine (refDivQ_any (S.out.fact 3 rfl) (S.out.fact 1 rfl) (by omega) h0).mono ?_
  rintro e w9 ⟨ub2, uA2, un2, uc2, uB2, um2, ud2, rfl, hq, hb⟩
  replace S := Lib.hid (((S.out.below hb).push (stab_ratF _ _ _) hq).alloc [.bool ub2, .slice uA2 un2 uc2, .slice uB2 um2 ud2] 34 (by decide) noint3)
  generalize hx13 : w9.heap.size = x13 at S
  obtain ⟨w10, hw10⟩ : ∃ w10, w9.alloc (.cells #[.bool ub2, .slice uA2 un2 uc2, .slice uB2 um2 ud2] 34) = w10 := ⟨_, rfl⟩
  rw [hw10] at S
  clear hb hq
  clear h0
  go_wp2_with fail
  clear hw10 hx13
  refine wp_region_held_drew (S := fun W' => W'.cell? ⟨x5, 0, none⟩ = some (.bool p1) ∧ W'.cell? ⟨x5, 1, none⟩ = some (.slice P1 pn1 pc1) ∧ W'.cell? ⟨x5, 2, none⟩ = some (.slice Q1 qn1 qc1) ∧ W'.cell? ⟨x8, 0, none⟩ = some (.bool p2) ∧ W'.cell? ⟨x8, 1, none⟩ = some (.slice P2 pn2 pc2) ∧ W'.cell? ⟨x8, 2, none⟩ = some (.slice Q2 qn2 qc2) ∧ W'.cell? ⟨(x5 + 1), 0, none⟩ = some (.bool r1) ∧ W'.cell? ⟨(x5 + 1), 1, none⟩ = some (.slice R1 rn1 rc1) ∧ W'.cell? ⟨(x5 + 1), 2, none⟩ = some (.slice T1 tn1 tc1) ∧ W'.cell? ⟨(x8 + 1), 0, none⟩ = some (.bool r2) ∧ W'.cell? ⟨(x8 + 1), 1, none⟩ = some (.slice R2 rn2 rc2) ∧ W'.cell? ⟨(x8 + 1), 2, none⟩ = some (.slice T2 tn2 tc2) ∧ W'.cell? ⟨x11, 0, none⟩ = some (.bool ub1) ∧ W'.cell? ⟨x11, 1, none⟩ = some (.slice uA1 un1 uc1) ∧ W'.cell? ⟨x11, 2, none⟩ = some (.slice uB1 um1 ud1) ∧ W'.cell? ⟨x13, 0, none⟩ = some (.bool ub2) ∧ W'.cell? ⟨x13, 1, none⟩ = some (.slice uA2 un2 uc2) ∧ W'.cell? ⟨x13, 2, none⟩ = some (.slice uB2 um2 ud2)) (by kernel_rfl) ⟨(S.out.drew.at 5 rfl).cell (i := 0) rfl, (S.out.drew.at 5 rfl).cell (i := 1) rfl, (S.out.drew.at 5 rfl).cell (i := 2) rfl, (S.out.drew.at 3 rfl).cell (i := 0) rfl, (S.out.drew.at 3 rfl).cell (i := 1) rfl, (S.out.drew.at 3 rfl).cell (i := 2) rfl, (S.out.drew.at 4 rfl).cell (i := 0) rfl, (S.out.drew.at 4 rfl).cell (i := 1) rfl, (S.out.drew.at 4 rfl).cell (i := 2) rfl, (S.out.drew.at 2 rfl).cell (i := 0) rfl, (S.out.drew.at 2 rfl).cell (i := 1) rfl, (S.out.drew.at 2 rfl).cell (i := 2) rfl, (S.out.drew.at 1 rfl).cell (i := 0) rfl, (S.out.drew.at 1 rfl).cell (i := 1) rfl, (S.out.drew.at 1 rfl).cell (i := 2) rfl, (S.out.drew.at 0 rfl).cell (i := 0) rfl, (S.out.drew.at 0 rfl).cell (i := 1) rfl, (S.out.drew.at 0 rfl).cell (i := 2) rfl⟩ (fun hHeld => ?_)
  replace S := Lib.hid S.out.drew
  generalize w10.drew = w11 at S hHeld ⊢
  refine wpAnyH_takeD 0 (v := ?_) rfl rfl (by kernel_rfl) (by kernel_rfl) (by kernel_rfl) (fun _ _ _ h => h) (Or.inl ⟨by rfl, ?_⟩) hHeld ?_
  rotate_left
  focus (intro w hSw; (try dsimp only at hSw); go_simp; try with_reducible rfl)
  simp only [List.setIfInBounds_toArray, List.set_cons_zero, List.set_cons_succ]
  refine wpAnyH_takeD 1 (v := ?_) rfl rfl (by kernel_rfl) (by kernel_rfl) (by kernel_rfl) (fun _ _ _ h => h) (Or.inl ⟨by rfl, ?_⟩) hHeld ?_
  rotate_left
  focus (intro w hSw; (try dsimp only at hSw); go_simp; try with_reducible rfl)
  simp only [List.setIfInBounds_toArray, List.set_cons_zero, List.set_cons_succ]
  refine wpAnyH_takeD 2 (v := ?_) rfl rfl (by kernel_rfl) (by kernel_rfl) (by kernel_rfl) (fun _ _ _ h => h) (Or.inl ⟨by rfl, ?_⟩) hHeld ?_
  rotate_left
  focus (intro w hSw; (try dsimp only at hSw); go_simp; try with_reducible rfl)
  simp only [List.setIfInBounds_toArray, List.set_cons_zero, List.set_cons_succ]
  refine wpAnyH_takeD 3 (v := ?_) rfl rfl (by kernel_rfl) (by kernel_rfl) (by kernel_rfl) (fun _ _ _ h => h) (Or.inl ⟨by rfl, ?_⟩) hHeld ?_
  rotate_left
  focus (intro w hSw; (try dsimp only at hSw); go_simp; try with_reducible rfl)
  simp only [List.setIfInBounds_toArray, List.set_cons_zero, List.set_cons_succ]
  refine wpAnyH_takeD 4 (v := ?_) rfl rfl (by kernel_rfl) (by kernel_rfl) (by kernel_rfl) (fun _ _ _ h => h) (Or.inl ⟨by rfl, ?_⟩) hHeld ?_
  rotate_left
  focus (intro w hSw; (try dsimp only at hSw); go_simp; try with_reducible rfl)
  simp only [List.setIfInBounds_toArray, List.set_cons_zero, List.set_cons_succ]
  refine wpAnyH_takeD 5 (v := ?_) rfl rfl (by kernel_rfl) (by kernel_rfl) (by kernel_rfl) (fun _ _ _ h => h) (Or.inl ⟨by rfl, ?_⟩) hHeld ?_
  rotate_left
  focus (intro w hSw; (try dsimp only at hSw); go_simp; try with_reducible rfl)
  simp only [List.setIfInBounds_toArray, List.set_cons_zero, List.set_cons_succ]
  refine wpAnyH_takeD 6 (v := ?_) rfl rfl (by kernel_rfl) (by kernel_rfl) (by kernel_rfl) (fun _ _ _ h => h) (Or.inl ⟨by rfl, ?_⟩) hHeld ?_
  rotate_left
  focus (intro w hSw; (try dsimp only at hSw); go_simp; try with_reducible rfl)
  simp only [List.setIfInBounds_toArray, List.set_cons_zero, List.set_cons_succ]
  refine wpAnyH_takeD 8 (v := ?_) rfl rfl (by kernel_rfl) (by kernel_rfl) (by kernel_rfl) (fun _ _ _ h => h) (Or.inl ⟨by rfl, ?_⟩) hHeld ?_
  rotate_left
  focus (intro w hSw; (try dsimp only at hSw); go_simp; try with_reducible rfl)
  simp only [List.setIfInBounds_toArray, List.set_cons_zero, List.set_cons_succ]
  refine wpAnyH_takeD 9 (v := ?_) rfl rfl (by kernel_rfl) (by kernel_rfl) (by kernel_rfl) (fun _ _ _ h => h) (Or.inl ⟨by rfl, ?_⟩) hHeld ?_
  rotate_left
  focus (intro w hSw; (try dsimp only at hSw); go_simp; try with_reducible rfl)
  simp only [List.setIfInBounds_toArray, List.set_cons_zero, List.set_cons_succ]
  refine wpAnyH_ready (rs := [7]) (by kernel_rfl) (by simp) ?_
  refine AllReadyH.cons rfl (fun K hK => ?_) AllReadyH.nil
  go_simp
  refine (mul_any (S.out.fact 5 rfl) (S.out.fact 3 rfl) (by omega) (by omega)).mono ?_
  rintro e w12 ⟨vb1, vA1, vn1, vc1, vB1, vm1, vd1, rfl, hq, hb1⟩
  replace S := Lib.hid ((S.out.below hb1).push (stab_ratP _ _ _) hq)
  clear hq hb1
  refine hK.out _ _ ⟨(S.out.at 5 rfl).cell (i := 0) rfl, (S.out.at 5 rfl).cell (i := 1) rfl, (S.out.at 5 rfl).cell (i := 2) rfl, (S.out.at 3 rfl).cell (i := 0) rfl, (S.out.at 3 rfl).cell (i := 1) rfl, (S.out.at 3 rfl).cell (i := 2) rfl, (S.out.at 4 rfl).cell (i := 0) rfl, (S.out.at 4 rfl).cell (i := 1) rfl, (S.out.at 4 rfl).cell (i := 2) rfl, (S.out.at 2 rfl).cell (i := 0) rfl, (S.out.at 2 rfl).cell (i := 1) rfl, (S.out.at 2 rfl).cell (i := 2) rfl, (S.out.at 1 rfl).cell (i := 0) rfl, (S.out.at 1 rfl).cell (i := 1) rfl, (S.out.at 1 rfl).cell (i := 2) rfl, (S.out.at 0 rfl).cell (i := 0) rfl, (S.out.at 0 rfl).cell (i := 1) rfl, (S.out.at 0 rfl).cell (i := 2) rfl⟩ (fun hHeld => ?_)
  clear hK K
  refine wpAnyH_ready (rs := [10]) (by kernel_rfl) (by simp) ?_
  refine AllReadyH.cons rfl (fun K hK => ?_) AllReadyH.nil
  go_simp
  refine (refMulQ_any (S.out.fact 5 rfl) (S.out.fact 3 rfl) (by omega)).mono ?_
  rintro e w13 ⟨vb2, vA2, vn2, vc2, vB2, vm2, vd2, rfl, hq, hb1⟩
  replace S := Lib.hid ((S.out.below hb1).push (stab_ratF _ _ _) hq)
  clear hq hb1
  refine hK.out _ _ ⟨(S.out.at 5 rfl).cell (i := 0) rfl, (S.out.at 5 rfl).cell (i := 1) rfl, (S.out.at 5 rfl).cell (i := 2) rfl, (S.out.at 3 rfl).cell (i := 0) rfl, (S.out.at 3 rfl).cell (i := 1) rfl, (S.out.at 3 rfl).cell (i := 2) rfl, (S.out.at 4 rfl).cell (i := 0) rfl, (S.out.at 4 rfl).cell (i := 1) rfl, (S.out.at 4 rfl).cell (i := 2) rfl, (S.out.at 2 rfl).cell (i := 0) rfl, (S.out.at 2 rfl).cell (i := 1) rfl, (S.out.at 2 rfl).cell (i := 2) rfl, (S.out.at 1 rfl).cell (i := 0) rfl, (S.out.at 1 rfl).cell (i := 1) rfl, (S.out.at 1 rfl).cell (i := 2) rfl, (S.out.at 0 rfl).cell (i := 0) rfl, (S.out.at 0 rfl).cell (i := 1) rfl, (S.out.at 0 rfl).cell (i := 2) rfl⟩ (fun hHeld => ?_)
  clear hK K
  refine wpAnyH_ready (rs := [11]) (by kernel_rfl) (by simp) ?_
  refine AllReadyH.cons rfl (fun K hK => ?_) AllReadyH.nil
  go_simp
  refine (is_any (HV.out.tab.below S.out.low) (S.out.fact 1 rfl) (S.out.fact 0 rfl) (by omega) (by omega)).mono ?_
  rintro e w14 ⟨rfl, hb1⟩
  replace S := Lib.hid (S.out.below hb1)
  clear hb1
  refine hK.out _ _ ⟨(S.out.at 5 rfl).cell (i := 0) rfl, (S.out.at 5 rfl).cell (i := 1) rfl, (S.out.at 5 rfl).cell (i := 2) rfl, (S.out.at 3 rfl).cell (i := 0) rfl, (S.out.at 3 rfl).cell (i := 1) rfl, (S.out.at 3 rfl).cell (i := 2) rfl, (S.out.at 4 rfl).cell (i := 0) rfl, (S.out.at 4 rfl).cell (i := 1) rfl, (S.out.at 4 rfl).cell (i := 2) rfl, (S.out.at 2 rfl).cell (i := 0) rfl, (S.out.at 2 rfl).cell (i := 1) rfl, (S.out.at 2 rfl).cell (i := 2) rfl, (S.out.at 1 rfl).cell (i := 0) rfl, (S.out.at 1 rfl).cell (i := 1) rfl, (S.out.at 1 rfl).cell (i := 2) rfl, (S.out.at 0 rfl).cell (i := 0) rfl, (S.out.at 0 rfl).cell (i := 1) rfl, (S.out.at 0 rfl).cell (i := 2) rfl⟩ (fun hHeld => ?_)
  clear hK K
  refine wpAnyH_takeD 12 (v := ?_) rfl rfl (by kernel_rfl) (by kernel_rfl) (by kernel_rfl) (fun _ _ _ h => h) (Or.inl ⟨by rfl, ?_⟩) hHeld ?_
  rotate_left
  focus (intro w hSw; (try dsimp only at hSw); go_simp; try with_reducible rfl)
  simp only [List.setIfInBounds_toArray, List.set_cons_zero, List.set_cons_succ]
  refine wpAnyH_takeD 13 (v := ?_) rfl rfl (by kernel_rfl) (by kernel_rfl) (by kernel_rfl) (fun _ _ _ h => h) (Or.inl ⟨by rfl, ?_⟩) hHeld ?_
  rotate_left
  focus (intro w hSw; (try dsimp only at hSw); go_simp; try with_reducible rfl)
  simp only [List.setIfInBounds_toArray, List.set_cons_zero, List.set_cons_succ]
  refine wpAnyH_takeD 14 (v := ?_) rfl rfl (by kernel_rfl) (by kernel_rfl) (by kernel_rfl) (fun _ _ _ h => h) (Or.inl ⟨by rfl, ?_⟩) hHeld ?_
  rotate_left
  focus (intro w hSw; (try dsimp only at hSw); go_simp; try with_reducible rfl)
  simp only [List.setIfInBounds_toArray, List.set_cons_zero, List.set_cons_succ]
  refine wpAnyH_takeD 15 (v := ?_) rfl rfl (by kernel_rfl) (by kernel_rfl) (by kernel_rfl) (fun _ _ _ h => h) (Or.inl ⟨by rfl, ?_⟩) hHeld ?_
  rotate_left
  focus (intro w hSw; (try dsimp only at hSw); go_simp; try with_reducible rfl)
  simp only [List.setIfInBounds_toArray, List.set_cons_zero, List.set_cons_succ]
  refine wpAnyH_takeD 16 (v := ?_) rfl rfl (by kernel_rfl) (by kernel_rfl) (by kernel_rfl) (fun _ _ _ h => h) (Or.inl ⟨by rfl, ?_⟩) hHeld ?_
  rotate_left
  focus (intro w hSw; (try dsimp only at hSw); go_simp; try with_reducible rfl)
  simp only [List.setIfInBounds_toArray, List.set_cons_zero, List.set_cons_succ]
  refine wpAnyH_takeD 17 (v := ?_) rfl rfl (by kernel_rfl) (by kernel_rfl) (by kernel_rfl) (fun _ _ _ h => h) (Or.inl ⟨by rfl, ?_⟩) hHeld ?_
  rotate_left
  focus (intro w hSw; (try dsimp only at hSw); go_simp; try with_reducible rfl)
  simp only [List.setIfInBounds_toArray, List.set_cons_zero, List.set_cons_succ]
  refine wpAnyH_takeD 18 (v := ?_) rfl rfl (by kernel_rfl) (by kernel_rfl) (by kernel_rfl) (fun _ _ _ h => h) (Or.inl ⟨by rfl, ?_⟩) hHeld ?_
  rotate_left
  focus (intro w hSw; (try dsimp only at hSw); go_simp; try with_reducible rfl)
  simp only [List.setIfInBounds_toArray, List.set_cons_zero, List.set_cons_succ]
  refine wpAnyH_takeD 19 (v := ?_) rfl rfl (by kernel_rfl) (by kernel_rfl) (by kernel_rfl) (fun _ _ _ h => h) (Or.inl ⟨by rfl, ?_⟩) hHeld ?_
  rotate_left
  focus (intro w hSw; (try dsimp only at hSw); go_simp; try with_reducible rfl)
  simp only [List.setIfInBounds_toArray, List.set_cons_zero, List.set_cons_succ]
  refine wpAnyH_takeD 20 (v := ?_) rfl rfl (by kernel_rfl) (by kernel_rfl) (by kernel_rfl) (fun _ _ _ h => h) (Or.inl ⟨by rfl, ?_⟩) hHeld ?_
  rotate_left
  focus (intro w hSw; (try dsimp only at hSw); go_simp; try with_reducible rfl)
  simp only [List.setIfInBounds_toArray, List.set_cons_zero, List.set_cons_succ]
  refine wpAnyH_ready (rs := [21]) (by kernel_rfl) (by simp) ?_
  refine AllReadyH.cons rfl (fun K hK => ?_) AllReadyH.nil
  go_simp
  refine (is_any (HV.out.tab.below S.out.low) (S.out.fact 3 rfl) (S.out.fact 2 rfl) (by omega) (by omega)).mono ?_
  rintro e w15 ⟨rfl, hb1⟩
  replace S := Lib.hid (S.out.below hb1)
  clear hb1
  refine hK.out _ _ ⟨(S.out.at 5 rfl).cell (i := 0) rfl, (S.out.at 5 rfl).cell (i := 1) rfl, (S.out.at 5 rfl).cell (i := 2) rfl, (S.out.at 3 rfl).cell (i := 0) rfl, (S.out.at 3 rfl).cell (i := 1) rfl, (S.out.at 3 rfl).cell (i := 2) rfl, (S.out.at 4 rfl).cell (i := 0) rfl, (S.out.at 4 rfl).cell (i := 1) rfl, (S.out.at 4 rfl).cell (i := 2) rfl, (S.out.at 2 rfl).cell (i := 0) rfl, (S.out.at 2 rfl).cell (i := 1) rfl, (S.out.at 2 rfl).cell (i := 2) rfl, (S.out.at 1 rfl).cell (i := 0) rfl, (S.out.at 1 rfl).cell (i := 1) rfl, (S.out.at 1 rfl).cell (i := 2) rfl, (S.out.at 0 rfl).cell (i := 0) rfl, (S.out.at 0 rfl).cell (i := 1) rfl, (S.out.at 0 rfl).cell (i := 2) rfl⟩ (fun hHeld => ?_)
  clear hK K
  refine wpAnyH_takeD 22 (v := ?_) rfl rfl (by kernel_rfl) (by kernel_rfl) (by kernel_rfl) (fun _ _ _ h => h) (Or.inl ⟨by rfl, ?_⟩) hHeld ?_
  rotate_left
  focus (intro w hSw; (try dsimp only at hSw); go_simp; try with_reducible rfl)
  simp only [List.setIfInBounds_toArray, List.set_cons_zero, List.set_cons_succ]
  refine wpAnyH_takeD 23 (v := ?_) rfl rfl (by kernel_rfl) (by kernel_rfl) (by kernel_rfl) (fun _ _ _ h => h) (Or.inl ⟨by rfl, ?_⟩) hHeld ?_
  rotate_left
  focus (intro w hSw; (try dsimp only at hSw); go_simp; try with_reducible rfl)
  simp only [List.setIfInBounds_toArray, List.set_cons_zero, List.set_cons_succ]
  refine wpAnyH_done (by kernel_rfl) ?_ _
  go_wp2_with fail
  go_ret
  exact ⟨rfl, S.out.low⟩
set_option maxRecDepth 100000 in
set_option maxHeartbeats 16000000 in
theorem lawProd_zero {w : World} {b1 : Bool} {A1 B1 : Option Addr} {n1 c1 m1 e1 : Nat} {ds1 es1 : List Nat} {b2 : Bool} {A2 B2 : Option Addr} {n2 c2 m2 e2 : Nat} {ds2 es2 : List Nat} (hV : Vars w) (h1 : ArgN w A1 n1 c1 B1 m1 e1 ds1 es1) (h2 : ArgN w A2 n2 c2 B2 m2 e2 ds2 es2) (hyes : ((n1 ≤ 8 ∧ m1 ≤ 8) ∧ n2 ≤ 8 ∧ m2 ≤ 8)) (h0 : (numQ b2 ds2 es2).num = 0) : Calls Tryz.prog 7 #[.agg #[.bool b1, .slice A1 n1 c1, .slice B1 m1 e1], .agg #[.bool b2, .slice A2 n2 c2, .slice B2 m2 e2]] w fun e w' => e = .returned (.bool true) ∧ Below w.heap.size w w' := by
  obtain ⟨w1, hw1, S⟩ := enter2 w [.bool b1, .slice A1 n1 c1, .slice B1 m1 e1] 24 [.bool b2, .slice A2 n2 c2, .slice B2 m2 e2] 24 (by decide) noint3 (by decide) noint3
  have hAw := Lib.hid (awake_any (hV.below S.out.low))
  have hBr := Lib.hid (fun W g cap (h : Blk W g [.bool b1, .slice A1 n1 c1, .slice B1 m1 e1, .bool b2, .slice A2 n2 c2, .slice B2 m2 e2] 24) => brief2 h h1.b1 h1.b2 h2.b1 h2.b2 (cap := cap))
  rw [decide_eq_true hyes] at hBr
  have hOf1 := Lib.hid (fun W (hw : Below w.heap.size w W) => ofA (b := b1) hV h1 hyes.1.1 hyes.1.2 hw)
  have hOf2 := Lib.hid (fun W (hw : Below w.heap.size w W) => ofA (b := b2) hV h2 hyes.2.1 hyes.2.2 hw)
  have HV := Lib.hid hV
  generalize numQ b1 ds1 es1 = q1 at *
  generalize numQ b2 ds2 es2 = q2 at *
  clear hyes h1 h2 hV
  go_enter Tryz.func7, Tryz.ntmps7
  go_wp2_with fail
  refine hAw.out.mono ?_
  rintro e w2 ⟨rfl, hb⟩
  replace S := Lib.hid (S.out.below hb)
  clear hb hw1 hAw
  have c1x0 := (S.out.at 1 rfl).cell (i := 0) rfl
  have c1x1 := (S.out.at 1 rfl).cell (i := 1) rfl
  have c1x2 := (S.out.at 1 rfl).cell (i := 2) rfl
  have c0x0 := (S.out.at 0 rfl).cell (i := 0) rfl
  have c0x1 := (S.out.at 0 rfl).cell (i := 1) rfl
  have c0x2 := (S.out.at 0 rfl).cell (i := 2) rfl
  replace S := Lib.hid (S.out.alloc [.bool b1, .slice A1 n1 c1, .slice B1 m1 e1, .bool b2, .slice A2 n2 c2, .slice B2 m2 e2] 24 (by decide) (by intro c hc; simp only [List.mem_cons, List.not_mem_nil, or_false] at hc; rcases hc with rfl | rfl | rfl | rfl | rfl | rfl <;> intro k z h <;> cases h))
  have hbk := S.out.at 0 rfl
  have HB := Lib.hid hbk
  clear hbk
  go_wp2_with fail
  refine (hBr.out _ _ _ HB.out).mono ?_
  rintro e w' ⟨rfl, rfl⟩
  clear HB hBr
  clear c1x0 c1x1 c1x2 c0x0 c0x1 c0x2
  have c2x0 := (S.out.at 2 rfl).cell (i := 0) rfl
  have c2x1 := (S.out.at 2 rfl).cell (i := 1) rfl
  have c2x2 := (S.out.at 2 rfl).cell (i := 2) rfl
  go_wp2_with fail
  refine (hOf1.out _ S.out.low).mono ?_
  rintro e w3 ⟨p1, P1, pn1, pc1, Q1, qn1, qc1, r1, R1, rn1, rc1, T1, tn1, tc1, rfl, hq, hq2, hb⟩
  replace S := Lib.hid ((((S.out.below hb).push (stab_ratP _ _ _) hq).push (stab_ratF _ _ _) hq2).allocTwo [.bool p1, .slice P1 pn1 pc1, .slice Q1 qn1 qc1] 30 [.bool r1, .slice R1 rn1 rc1, .slice T1 tn1 tc1] 34 (by decide) noint3 (by decide) noint3)
  generalize hx5 : w3.heap.size = x5 at S
  obtain ⟨w4, hw4⟩ : ∃ w4, (w3.alloc (.cells #[.bool p1, .slice P1 pn1 pc1, .slice Q1 qn1 qc1] 30)).alloc (.cells #[.bool r1, .slice R1 rn1 rc1, .slice T1 tn1 tc1] 34) = w4 := ⟨_, rfl⟩
  rw [hw4] at S
  clear hb hq hq2 hOf1
  clear c2x0 c2x1 c2x2
  have c3x0 := (S.out.at 3 rfl).cell (i := 0) rfl
  have c3x1 := (S.out.at 3 rfl).cell (i := 1) rfl
  have c3x2 := (S.out.at 3 rfl).cell (i := 2) rfl
  go_wp2_with fail
  clear hw4 hx5 c3x0 c3x1 c3x2
  refine (hOf2.out _ S.out.low).mono ?_
  rintro e w5 ⟨p2, P2, pn2, pc2, Q2, qn2, qc2, r2, R2, rn2, rc2, T2, tn2, tc2, rfl, hq, hq2, hb⟩
  replace S := Lib.hid ((((S.out.below hb).push (stab_ratP _ _ _) hq).push (stab_ratF _ _ _) hq2).allocTwo [.bool p2, .slice P2 pn2 pc2, .slice Q2 qn2 qc2] 30 [.bool r2, .slice R2 rn2 rc2, .slice T2 tn2 tc2] 34 (by decide) noint3 (by decide) noint3)
  generalize hx8 : w5.heap.size = x8 at S
  obtain ⟨w6, hw6⟩ : ∃ w6, (w5.alloc (.cells #[.bool p2, .slice P2 pn2 pc2, .slice Q2 qn2 qc2] 30)).alloc (.cells #[.bool r2, .slice R2 rn2 rc2, .slice T2 tn2 tc2] 34) = w6 := ⟨_, rfl⟩
  rw [hw6] at S
  clear hb hq hq2 hOf2
  have c1x0 := (S.out.at 1 rfl).cell (i := 0) rfl
  have c1x1 := (S.out.at 1 rfl).cell (i := 1) rfl
  have c1x2 := (S.out.at 1 rfl).cell (i := 2) rfl
  have c3x0 := (S.out.at 3 rfl).cell (i := 0) rfl
  have c3x1 := (S.out.at 3 rfl).cell (i := 1) rfl
  have c3x2 := (S.out.at 3 rfl).cell (i := 2) rfl
  go_wp2_with fail
  clear hw6 hx8 c1x0 c1x1 c1x2 c3x0 c3x1 c3x2
  refine (div_zero (S.out.fact 3 rfl) (S.out.fact 1 rfl) (by omega) h0).mono ?_
  rintro e w7 ⟨rfl, hb⟩
  replace S := Lib.hid (((S.out.below hb).push (stab_ratP _ _ _) (ratP_zero _)).alloc [.bool false, .slice none 0 0, .slice none 0 0] 30 (by decide) noint3)
  clear hb
  have c1x0 := (S.out.at 1 rfl).cell (i := 0) rfl
  have c1x1 := (S.out.at 1 rfl).cell (i := 1) rfl
  have c1x2 := (S.out.at 1 rfl).cell (i := 2) rfl
  have c3x0 := (S.out.at 3 rfl).cell (i := 0) rfl
  have c3x1 := (S.out.at 3 rfl).cell (i := 1) rfl
  have c3x2 := (S.out.at 3 rfl).cell (i := 2) rfl
  go_wp2_with fail
  clear c1x0 c1x1 c1x2 c3x0 c3x1 c3x2
  generalize hx11 : w7.heap.size = x11 at S ⊢
  generalize World.alloc w7 _ = w8 at S ⊢
  clear hx11
  refine (refDivQ_zero (S.out.fact 3 rfl) (S.out.fact 1 rfl) (by omega) h0).mono ?_
  rintro e w9 ⟨rfl, hb⟩
  replace S := Lib.hid (((S.out.below hb).push (stab_ratF _ _ _) (ratF_zero _)).alloc [.bool false, .slice none 0 0, .slice none 0 0] 34 (by decide) noint3)
  clear hb h0
  go_wp2_with fail
  generalize hx13 : w9.heap.size = x13 at S ⊢
  generalize World.alloc w9 _ = w10 at S ⊢
  clear hx13
  refine wp_region_held_drew (S := fun W' => W'.cell? ⟨x5, 0, none⟩ = some (.bool p1) ∧ W'.cell? ⟨x5, 1, none⟩ = some (.slice P1 pn1 pc1) ∧ W'.cell? ⟨x5, 2, none⟩ = some (.slice Q1 qn1 qc1) ∧ W'.cell? ⟨x8, 0, none⟩ = some (.bool p2) ∧ W'.cell? ⟨x8, 1, none⟩ = some (.slice P2 pn2 pc2) ∧ W'.cell? ⟨x8, 2, none⟩ = some (.slice Q2 qn2 qc2) ∧ W'.cell? ⟨(x5 + 1), 0, none⟩ = some (.bool r1) ∧ W'.cell? ⟨(x5 + 1), 1, none⟩ = some (.slice R1 rn1 rc1) ∧ W'.cell? ⟨(x5 + 1), 2, none⟩ = some (.slice T1 tn1 tc1) ∧ W'.cell? ⟨(x8 + 1), 0, none⟩ = some (.bool r2) ∧ W'.cell? ⟨(x8 + 1), 1, none⟩ = some (.slice R2 rn2 rc2) ∧ W'.cell? ⟨(x8 + 1), 2, none⟩ = some (.slice T2 tn2 tc2) ∧ W'.cell? ⟨x11, 0, none⟩ = some (.bool false) ∧ W'.cell? ⟨x11, 1, none⟩ = some (.slice none 0 0) ∧ W'.cell? ⟨x11, 2, none⟩ = some (.slice none 0 0) ∧ W'.cell? ⟨x13, 0, none⟩ = some (.bool false) ∧ W'.cell? ⟨x13, 1, none⟩ = some (.slice none 0 0) ∧ W'.cell? ⟨x13, 2, none⟩ = some (.slice none 0 0)) (by kernel_rfl) ⟨(S.out.drew.at 5 rfl).cell (i := 0) rfl, (S.out.drew.at 5 rfl).cell (i := 1) rfl, (S.out.drew.at 5 rfl).cell (i := 2) rfl, (S.out.drew.at 3 rfl).cell (i := 0) rfl, (S.out.drew.at 3 rfl).cell (i := 1) rfl, (S.out.drew.at 3 rfl).cell (i := 2) rfl, (S.out.drew.at 4 rfl).cell (i := 0) rfl, (S.out.drew.at 4 rfl).cell (i := 1) rfl, (S.out.drew.at 4 rfl).cell (i := 2) rfl, (S.out.drew.at 2 rfl).cell (i := 0) rfl, (S.out.drew.at 2 rfl).cell (i := 1) rfl, (S.out.drew.at 2 rfl).cell (i := 2) rfl, (S.out.drew.at 1 rfl).cell (i := 0) rfl, (S.out.drew.at 1 rfl).cell (i := 1) rfl, (S.out.drew.at 1 rfl).cell (i := 2) rfl, (S.out.drew.at 0 rfl).cell (i := 0) rfl, (S.out.drew.at 0 rfl).cell (i := 1) rfl, (S.out.drew.at 0 rfl).cell (i := 2) rfl⟩ (fun hHeld => ?_)
  replace S := Lib.hid S.out.drew
  generalize w10.drew = w11 at S hHeld ⊢
  refine wpAnyH_takeD 0 (v := ?_) rfl rfl (by kernel_rfl) (by kernel_rfl) (by kernel_rfl) (fun _ _ _ h => h) (Or.inl ⟨by rfl, ?_⟩) hHeld ?_
  rotate_left
  focus (intro w hSw; (try dsimp only at hSw); go_simp; try with_reducible rfl)
  simp only [List.setIfInBounds_toArray, List.set_cons_zero, List.set_cons_succ]
  refine wpAnyH_takeD 1 (v := ?_) rfl rfl (by kernel_rfl) (by kernel_rfl) (by kernel_rfl) (fun _ _ _ h => h) (Or.inl ⟨by rfl, ?_⟩) hHeld ?_
  rotate_left
  focus (intro w hSw; (try dsimp only at hSw); go_simp; try with_reducible rfl)
  simp only [List.setIfInBounds_toArray, List.set_cons_zero, List.set_cons_succ]
  refine wpAnyH_takeD 2 (v := ?_) rfl rfl (by kernel_rfl) (by kernel_rfl) (by kernel_rfl) (fun _ _ _ h => h) (Or.inl ⟨by rfl, ?_⟩) hHeld ?_
  rotate_left
  focus (intro w hSw; (try dsimp only at hSw); go_simp; try with_reducible rfl)
  simp only [List.setIfInBounds_toArray, List.set_cons_zero, List.set_cons_succ]
  refine wpAnyH_takeD 3 (v := ?_) rfl rfl (by kernel_rfl) (by kernel_rfl) (by kernel_rfl) (fun _ _ _ h => h) (Or.inl ⟨by rfl, ?_⟩) hHeld ?_
  rotate_left
  focus (intro w hSw; (try dsimp only at hSw); go_simp; try with_reducible rfl)
  simp only [List.setIfInBounds_toArray, List.set_cons_zero, List.set_cons_succ]
  refine wpAnyH_takeD 4 (v := ?_) rfl rfl (by kernel_rfl) (by kernel_rfl) (by kernel_rfl) (fun _ _ _ h => h) (Or.inl ⟨by rfl, ?_⟩) hHeld ?_
  rotate_left
  focus (intro w hSw; (try dsimp only at hSw); go_simp; try with_reducible rfl)
  simp only [List.setIfInBounds_toArray, List.set_cons_zero, List.set_cons_succ]
  refine wpAnyH_takeD 5 (v := ?_) rfl rfl (by kernel_rfl) (by kernel_rfl) (by kernel_rfl) (fun _ _ _ h => h) (Or.inl ⟨by rfl, ?_⟩) hHeld ?_
  rotate_left
  focus (intro w hSw; (try dsimp only at hSw); go_simp; try with_reducible rfl)
  simp only [List.setIfInBounds_toArray, List.set_cons_zero, List.set_cons_succ]
  refine wpAnyH_takeD 6 (v := ?_) rfl rfl (by kernel_rfl) (by kernel_rfl) (by kernel_rfl) (fun _ _ _ h => h) (Or.inl ⟨by rfl, ?_⟩) hHeld ?_
  rotate_left
  focus (intro w hSw; (try dsimp only at hSw); go_simp; try with_reducible rfl)
  simp only [List.setIfInBounds_toArray, List.set_cons_zero, List.set_cons_succ]
  refine wpAnyH_takeD 8 (v := ?_) rfl rfl (by kernel_rfl) (by kernel_rfl) (by kernel_rfl) (fun _ _ _ h => h) (Or.inl ⟨by rfl, ?_⟩) hHeld ?_
  rotate_left
  focus (intro w hSw; (try dsimp only at hSw); go_simp; try with_reducible rfl)
  simp only [List.setIfInBounds_toArray, List.set_cons_zero, List.set_cons_succ]
  refine wpAnyH_takeD 9 (v := ?_) rfl rfl (by kernel_rfl) (by kernel_rfl) (by kernel_rfl) (fun _ _ _ h => h) (Or.inl ⟨by rfl, ?_⟩) hHeld ?_
  rotate_left
  focus (intro w hSw; (try dsimp only at hSw); go_simp; try with_reducible rfl)
  simp only [List.setIfInBounds_toArray, List.set_cons_zero, List.set_cons_succ]
  refine wpAnyH_ready (rs := [7]) (by kernel_rfl) (by simp) ?_
  refine AllReadyH.cons rfl (fun K hK => ?_) AllReadyH.nil
  go_simp
  refine (mul_any (S.out.fact 5 rfl) (S.out.fact 3 rfl) (by omega) (by omega)).mono ?_
  rintro e w12 ⟨vb1, vA1, vn1, vc1, vB1, vm1, vd1, rfl, hq, hb1⟩
  replace S := Lib.hid ((S.out.below hb1).push (stab_ratP _ _ _) hq)
  clear hq hb1
  refine hK.out _ _ ⟨(S.out.at 5 rfl).cell (i := 0) rfl, (S.out.at 5 rfl).cell (i := 1) rfl, (S.out.at 5 rfl).cell (i := 2) rfl, (S.out.at 3 rfl).cell (i := 0) rfl, (S.out.at 3 rfl).cell (i := 1) rfl, (S.out.at 3 rfl).cell (i := 2) rfl, (S.out.at 4 rfl).cell (i := 0) rfl, (S.out.at 4 rfl).cell (i := 1) rfl, (S.out.at 4 rfl).cell (i := 2) rfl, (S.out.at 2 rfl).cell (i := 0) rfl, (S.out.at 2 rfl).cell (i := 1) rfl, (S.out.at 2 rfl).cell (i := 2) rfl, (S.out.at 1 rfl).cell (i := 0) rfl, (S.out.at 1 rfl).cell (i := 1) rfl, (S.out.at 1 rfl).cell (i := 2) rfl, (S.out.at 0 rfl).cell (i := 0) rfl, (S.out.at 0 rfl).cell (i := 1) rfl, (S.out.at 0 rfl).cell (i := 2) rfl⟩ (fun hHeld => ?_)
  clear hK K
  refine wpAnyH_ready (rs := [10]) (by kernel_rfl) (by simp) ?_
  refine AllReadyH.cons rfl (fun K hK => ?_) AllReadyH.nil
  go_simp
  refine (refMulQ_any (S.out.fact 5 rfl) (S.out.fact 3 rfl) (by omega)).mono ?_
  rintro e w13 ⟨vb2, vA2, vn2, vc2, vB2, vm2, vd2, rfl, hq, hb1⟩
  replace S := Lib.hid ((S.out.below hb1).push (stab_ratF _ _ _) hq)
  clear hq hb1
  refine hK.out _ _ ⟨(S.out.at 5 rfl).cell (i := 0) rfl, (S.out.at 5 rfl).cell (i := 1) rfl, (S.out.at 5 rfl).cell (i := 2) rfl, (S.out.at 3 rfl).cell (i := 0) rfl, (S.out.at 3 rfl).cell (i := 1) rfl, (S.out.at 3 rfl).cell (i := 2) rfl, (S.out.at 4 rfl).cell (i := 0) rfl, (S.out.at 4 rfl).cell (i := 1) rfl, (S.out.at 4 rfl).cell (i := 2) rfl, (S.out.at 2 rfl).cell (i := 0) rfl, (S.out.at 2 rfl).cell (i := 1) rfl, (S.out.at 2 rfl).cell (i := 2) rfl, (S.out.at 1 rfl).cell (i := 0) rfl, (S.out.at 1 rfl).cell (i := 1) rfl, (S.out.at 1 rfl).cell (i := 2) rfl, (S.out.at 0 rfl).cell (i := 0) rfl, (S.out.at 0 rfl).cell (i := 1) rfl, (S.out.at 0 rfl).cell (i := 2) rfl⟩ (fun hHeld => ?_)
  clear hK K
  refine wpAnyH_ready (rs := [11]) (by kernel_rfl) (by simp) ?_
  refine AllReadyH.cons rfl (fun K hK => ?_) AllReadyH.nil
  go_simp
  refine (is_any (HV.out.tab.below S.out.low) (S.out.fact 1 rfl) (S.out.fact 0 rfl) (by omega) (by omega)).mono ?_
  rintro e w14 ⟨rfl, hb1⟩
  replace S := Lib.hid (S.out.below hb1)
  clear hb1
  refine hK.out _ _ ⟨(S.out.at 5 rfl).cell (i := 0) rfl, (S.out.at 5 rfl).cell (i := 1) rfl, (S.out.at 5 rfl).cell (i := 2) rfl, (S.out.at 3 rfl).cell (i := 0) rfl, (S.out.at 3 rfl).cell (i := 1) rfl, (S.out.at 3 rfl).cell (i := 2) rfl, (S.out.at 4 rfl).cell (i := 0) rfl, (S.out.at 4 rfl).cell (i := 1) rfl, (S.out.at 4 rfl).cell (i := 2) rfl, (S.out.at 2 rfl).cell (i := 0) rfl, (S.out.at 2 rfl).cell (i := 1) rfl, (S.out.at 2 rfl).cell (i := 2) rfl, (S.out.at 1 rfl).cell (i := 0) rfl, (S.out.at 1 rfl).cell (i := 1) rfl, (S.out.at 1 rfl).cell (i := 2) rfl, (S.out.at 0 rfl).cell (i := 0) rfl, (S.out.at 0 rfl).cell (i := 1) rfl, (S.out.at 0 rfl).cell (i := 2) rfl⟩ (fun hHeld => ?_)
  clear hK K
  refine wpAnyH_takeD 12 (v := ?_) rfl rfl (by kernel_rfl) (by kernel_rfl) (by kernel_rfl) (fun _ _ _ h => h) (Or.inl ⟨by rfl, ?_⟩) hHeld ?_
  rotate_left
  focus (intro w hSw; (try dsimp only at hSw); go_simp; try with_reducible rfl)
  simp only [List.setIfInBounds_toArray, List.set_cons_zero, List.set_cons_succ]
  refine wpAnyH_takeD 13 (v := ?_) rfl rfl (by kernel_rfl) (by kernel_rfl) (by kernel_rfl) (fun _ _ _ h => h) (Or.inl ⟨by rfl, ?_⟩) hHeld ?_
  rotate_left
  focus (intro w hSw; (try dsimp only at hSw); go_simp; try with_reducible rfl)
  simp only [List.setIfInBounds_toArray, List.set_cons_zero, List.set_cons_succ]
  refine wpAnyH_takeD 14 (v := ?_) rfl rfl (by kernel_rfl) (by kernel_rfl) (by kernel_rfl) (fun _ _ _ h => h) (Or.inl ⟨by rfl, ?_⟩) hHeld ?_
  rotate_left
  focus (intro w hSw; (try dsimp only at hSw); go_simp; try with_reducible rfl)
  simp only [List.setIfInBounds_toArray, List.set_cons_zero, List.set_cons_succ]
  refine wpAnyH_takeD 15 (v := ?_) rfl rfl (by kernel_rfl) (by kernel_rfl) (by kernel_rfl) (fun _ _ _ h => h) (Or.inl ⟨by rfl, ?_⟩) hHeld ?_
  rotate_left
  focus (intro w hSw; (try dsimp only at hSw); go_simp; try with_reducible rfl)
  simp only [List.setIfInBounds_toArray, List.set_cons_zero, List.set_cons_succ]
  refine wpAnyH_takeD 16 (v := ?_) rfl rfl (by kernel_rfl) (by kernel_rfl) (by kernel_rfl) (fun _ _ _ h => h) (Or.inl ⟨by rfl, ?_⟩) hHeld ?_
  rotate_left
  focus (intro w hSw; (try dsimp only at hSw); go_simp; try with_reducible rfl)
  simp only [List.setIfInBounds_toArray, List.set_cons_zero, List.set_cons_succ]
  refine wpAnyH_takeD 17 (v := ?_) rfl rfl (by kernel_rfl) (by kernel_rfl) (by kernel_rfl) (fun _ _ _ h => h) (Or.inl ⟨by rfl, ?_⟩) hHeld ?_
  rotate_left
  focus (intro w hSw; (try dsimp only at hSw); go_simp; try with_reducible rfl)
  simp only [List.setIfInBounds_toArray, List.set_cons_zero, List.set_cons_succ]
  refine wpAnyH_takeD 18 (v := ?_) rfl rfl (by kernel_rfl) (by kernel_rfl) (by kernel_rfl) (fun _ _ _ h => h) (Or.inl ⟨by rfl, ?_⟩) hHeld ?_
  rotate_left
  focus (intro w hSw; (try dsimp only at hSw); go_simp; try with_reducible rfl)
  simp only [List.setIfInBounds_toArray, List.set_cons_zero, List.set_cons_succ]
  refine wpAnyH_takeD 19 (v := ?_) rfl rfl (by kernel_rfl) (by kernel_rfl) (by kernel_rfl) (fun _ _ _ h => h) (Or.inl ⟨by rfl, ?_⟩) hHeld ?_
  rotate_left
  focus (intro w hSw; (try dsimp only at hSw); go_simp; try with_reducible rfl)
  simp only [List.setIfInBounds_toArray, List.set_cons_zero, List.set_cons_succ]
  refine wpAnyH_takeD 20 (v := ?_) rfl rfl (by kernel_rfl) (by kernel_rfl) (by kernel_rfl) (fun _ _ _ h => h) (Or.inl ⟨by rfl, ?_⟩) hHeld ?_
  rotate_left
  focus (intro w hSw; (try dsimp only at hSw); go_simp; try with_reducible rfl)
  simp only [List.setIfInBounds_toArray, List.set_cons_zero, List.set_cons_succ]
  refine wpAnyH_ready (rs := [21]) (by kernel_rfl) (by simp) ?_
  refine AllReadyH.cons rfl (fun K hK => ?_) AllReadyH.nil
  go_simp
  refine (is_any (HV.out.tab.below S.out.low) (S.out.fact 3 rfl) (S.out.fact 2 rfl) (by omega) (by omega)).mono ?_
  rintro e w15 ⟨rfl, hb1⟩
  replace S := Lib.hid (S.out.below hb1)
  clear hb1
  refine hK.out _ _ ⟨(S.out.at 5 rfl).cell (i := 0) rfl, (S.out.at 5 rfl).cell (i := 1) rfl, (S.out.at 5 rfl).cell (i := 2) rfl, (S.out.at 3 rfl).cell (i := 0) rfl, (S.out.at 3 rfl).cell (i := 1) rfl, (S.out.at 3 rfl).cell (i := 2) rfl, (S.out.at 4 rfl).cell (i := 0) rfl, (S.out.at 4 rfl).cell (i := 1) rfl, (S.out.at 4 rfl).cell (i := 2) rfl, (S.out.at 2 rfl).cell (i := 0) rfl, (S.out.at 2 rfl).cell (i := 1) rfl, (S.out.at 2 rfl).cell (i := 2) rfl, (S.out.at 1 rfl).cell (i := 0) rfl, (S.out.at 1 rfl).cell (i := 1) rfl, (S.out.at 1 rfl).cell (i := 2) rfl, (S.out.at 0 rfl).cell (i := 0) rfl, (S.out.at 0 rfl).cell (i := 1) rfl, (S.out.at 0 rfl).cell (i := 2) rfl⟩ (fun hHeld => ?_)
  clear hK K
  refine wpAnyH_takeD 22 (v := ?_) rfl rfl (by kernel_rfl) (by kernel_rfl) (by kernel_rfl) (fun _ _ _ h => h) (Or.inl ⟨by rfl, ?_⟩) hHeld ?_
  rotate_left
  focus (intro w hSw; (try dsimp only at hSw); go_simp; try with_reducible rfl)
  simp only [List.setIfInBounds_toArray, List.set_cons_zero, List.set_cons_succ]
  refine wpAnyH_takeD 23 (v := ?_) rfl rfl (by kernel_rfl) (by kernel_rfl) (by kernel_rfl) (fun _ _ _ h => h) (Or.inl ⟨by rfl, ?_⟩) hHeld ?_
  rotate_left
  focus (intro w hSw; (try dsimp only at hSw); go_simp; try with_reducible rfl)
  simp only [List.setIfInBounds_toArray, List.set_cons_zero, List.set_cons_succ]
  refine wpAnyH_done (by kernel_rfl) ?_ _
  go_wp2_with fail
  go_ret
  exact ⟨rfl, S.out.low⟩
theorem lawProd {w : World} {b1 : Bool} {A1 B1 : Option Addr} {n1 c1 m1 e1 : Nat} {ds1 es1 : List Nat} {b2 : Bool} {A2 B2 : Option Addr} {n2 c2 m2 e2 : Nat} {ds2 es2 : List Nat} (hV : Vars w) (h1 : ArgN w A1 n1 c1 B1 m1 e1 ds1 es1) (h2 : ArgN w A2 n2 c2 B2 m2 e2 ds2 es2) : Calls Tryz.prog 7 #[.agg #[.bool b1, .slice A1 n1 c1, .slice B1 m1 e1], .agg #[.bool b2, .slice A2 n2 c2, .slice B2 m2 e2]] w fun e w' => e = .returned (.bool true) ∧ Below w.heap.size w w' := by
  by_cases hy : ((n1 ≤ 8 ∧ m1 ≤ 8) ∧ n2 ≤ 8 ∧ m2 ≤ 8)
  · by_cases h0 : (numQ b2 ds2 es2).num = 0
    · exact lawProd_zero hV h1 h2 hy h0
    · exact lawProd_more hV h1 h2 hy h0
  · exact lawProd_large hV h1 h2 hy
end Go.Proofs.YtbmdbhafanojcaaGreatDoor
