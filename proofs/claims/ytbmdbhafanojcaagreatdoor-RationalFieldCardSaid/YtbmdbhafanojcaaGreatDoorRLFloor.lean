/- The walk of the law RationalFloor. -/
import Derived.Test.YtbmdbhafanojcaaGreatDoorRYb
import Derived.Test.YtbmdbhafanojcaaGreatDoorRW
namespace Go.Proofs.YtbmdbhafanojcaaGreatDoor
open Go.RowKit

theorem cmpZ_le {x y : Int} (h : x ≤ y) : cmpZ x y ≤ 0 := by unfold cmpZ; split; omega; rw [if_neg (by omega)]; omega
theorem cmpZ_lt {x y : Int} (h : x < y) : cmpZ x y < 0 := by unfold cmpZ; rw [if_pos h]; omega
theorem int_low (n : Int) : (mkRat n 1).num = n ∧ (mkRat n 1).den = 1 := by
  rw [Rat.num_mkRat, Rat.den_mkRat]
  simp
theorem floor_cmp (q : Rat) : cmpQ (mkRat q.floor 1) q ≤ 0 := by
  unfold cmpQ
  rw [(int_low q.floor).1, (int_low q.floor).2, Rat.floor_def]
  refine cmpZ_le ?_
  have := Int.ediv_mul_le q.num (b := (q.den : Int)) (by have := q.den_pos; omega)
  omega
theorem floor_next (q : Rat) : cmpQ q (mkRat q.floor 1 + mkRat 1 1) < 0 := by
  have e : mkRat q.floor 1 + mkRat 1 1 = mkRat (q.floor + 1) 1 := by rw [Rat.mkRat_add_mkRat _ _ (by omega) (by omega)]; simp
  rw [e]
  unfold cmpQ
  rw [(int_low _).1, (int_low _).2, Rat.floor_def]
  refine cmpZ_lt ?_
  have := Int.lt_ediv_add_one_mul_self q.num (b := (q.den : Int)) (by have := q.den_pos; omega)
  omega
theorem cmpQ_self (q : Rat) : cmpQ q q = 0 := by unfold cmpQ cmpZ; rw [if_neg (by omega), if_neg (by omega)]
set_option maxRecDepth 100000 in
set_option maxHeartbeats 16000000 in
theorem lawFloor_large {w : World} {b1 : Bool} {A1 B1 : Option Addr} {n1 c1 m1 e1 : Nat} {ds1 es1 : List Nat} (hV : Vars w) (h1 : ArgN w A1 n1 c1 B1 m1 e1 ds1 es1) (hno : ¬ (n1 ≤ 8 ∧ m1 ≤ 8)) : Calls Tryz.prog 9 #[.agg #[.bool b1, .slice A1 n1 c1, .slice B1 m1 e1]] w fun e w' => e = .returned (.bool true) ∧ Below w.heap.size w w' := by
  obtain ⟨w1, hw1, S⟩ := enter1 w [.bool b1, .slice A1 n1 c1, .slice B1 m1 e1] 24 (by decide) noint3
  have hAw := Lib.hid (awake_any (hV.below S.out.low))
  have hBr := Lib.hid (fun W g cap (h : Blk W g [.bool b1, .slice A1 n1 c1, .slice B1 m1 e1] 24) => brief1 h h1.b1 h1.b2 (cap := cap))
  rw [decide_eq_false hno] at hBr
  clear hno h1 hV
  go_enter Tryz.func9, Tryz.ntmps9
  go_wp2_with fail
  refine hAw.out.mono ?_
  rintro e w2 ⟨rfl, hb⟩
  replace S := Lib.hid (S.out.below hb)
  clear hb hw1 hAw
  have c0x0 := (S.out.at 0 rfl).cell (i := 0) rfl
  have c0x1 := (S.out.at 0 rfl).cell (i := 1) rfl
  have c0x2 := (S.out.at 0 rfl).cell (i := 2) rfl
  replace S := Lib.hid (S.out.alloc [.bool b1, .slice A1 n1 c1, .slice B1 m1 e1] 24 (by decide) (by intro c hc; simp only [List.mem_cons, List.not_mem_nil, or_false] at hc; rcases hc with rfl | rfl | rfl <;> intro k z h <;> cases h))
  have hbk := S.out.at 0 rfl
  have HB := Lib.hid hbk
  clear hbk
  go_wp2_with fail
  refine (hBr.out _ _ _ HB.out).mono ?_
  rintro e w' ⟨rfl, rfl⟩
  go_wp2_with fail
  go_ret
  exact ⟨rfl, S.out.low⟩
set_option maxRecDepth 100000 in
set_option maxHeartbeats 16000000 in
theorem lawFloor_small {w : World} {b1 : Bool} {A1 B1 : Option Addr} {n1 c1 m1 e1 : Nat} {ds1 es1 : List Nat} (hV : Vars w) (h1 : ArgN w A1 n1 c1 B1 m1 e1 ds1 es1) (hyes : (n1 ≤ 8 ∧ m1 ≤ 8)) : Calls Tryz.prog 9 #[.agg #[.bool b1, .slice A1 n1 c1, .slice B1 m1 e1]] w fun e w' => e = .returned (.bool true) ∧ Below w.heap.size w w' := by
  obtain ⟨w1, hw1, S⟩ := enter1 w [.bool b1, .slice A1 n1 c1, .slice B1 m1 e1] 24 (by decide) noint3
  have hAw := Lib.hid (awake_any (hV.below S.out.low))
  have hBr := Lib.hid (fun W g cap (h : Blk W g [.bool b1, .slice A1 n1 c1, .slice B1 m1 e1] 24) => brief1 h h1.b1 h1.b2 (cap := cap))
  rw [decide_eq_true hyes] at hBr
  have hOf1 := Lib.hid (fun W (hw : Below w.heap.size w W) => ofA (b := b1) hV h1 hyes.1 hyes.2 hw)
  have HV := Lib.hid hV
  generalize numQ b1 ds1 es1 = q1 at *
  clear hyes h1 hV
  go_enter Tryz.func9, Tryz.ntmps9
  go_wp2_with fail
  refine hAw.out.mono ?_
  rintro e w2 ⟨rfl, hb⟩
  replace S := Lib.hid (S.out.below hb)
  clear hb hw1 hAw
  have c0x0 := (S.out.at 0 rfl).cell (i := 0) rfl
  have c0x1 := (S.out.at 0 rfl).cell (i := 1) rfl
  have c0x2 := (S.out.at 0 rfl).cell (i := 2) rfl
  replace S := Lib.hid (S.out.alloc [.bool b1, .slice A1 n1 c1, .slice B1 m1 e1] 24 (by decide) (by intro c hc; simp only [List.mem_cons, List.not_mem_nil, or_false] at hc; rcases hc with rfl | rfl | rfl <;> intro k z h <;> cases h))
  have hbk := S.out.at 0 rfl
  have HB := Lib.hid hbk
  clear hbk
  go_wp2_with fail
  refine (hBr.out _ _ _ HB.out).mono ?_
  rintro e w' ⟨rfl, rfl⟩
  clear HB hBr
  clear c0x0 c0x1 c0x2
  have c1x0 := (S.out.at 1 rfl).cell (i := 0) rfl
  have c1x1 := (S.out.at 1 rfl).cell (i := 1) rfl
  have c1x2 := (S.out.at 1 rfl).cell (i := 2) rfl
  go_wp2_with fail
  refine (hOf1.out _ S.out.low).mono ?_
  rintro e w3 ⟨p1, P1, pn1, pc1, Q1, qn1, qc1, r1, R1, rn1, rc1, T1, tn1, tc1, rfl, hq, hq2, hb⟩
  replace S := Lib.hid ((((S.out.below hb).push (stab_ratP _ _ _) hq).push (stab_ratF _ _ _) hq2).allocTwo [.bool p1, .slice P1 pn1 pc1, .slice Q1 qn1 qc1] 30 [.bool r1, .slice R1 rn1 rc1, .slice T1 tn1 tc1] 34 (by decide) noint3 (by decide) noint3)
  generalize hx3 : w3.heap.size = x3 at S
  obtain ⟨w4, hw4⟩ : ∃ w4, (w3.alloc (.cells #[.bool p1, .slice P1 pn1 pc1, .slice Q1 qn1 qc1] 30)).alloc (.cells #[.bool r1, .slice R1 rn1 rc1, .slice T1 tn1 tc1] 34) = w4 := ⟨_, rfl⟩
  rw [hw4] at S
  clear hb hq hq2 hOf1
  clear c1x0 c1x1 c1x2
  have c1x0 := (S.out.at 1 rfl).cell (i := 0) rfl
  have c1x1 := (S.out.at 1 rfl).cell (i := 1) rfl
  have c1x2 := (S.out.at 1 rfl).cell (i := 2) rfl
  go_wp2_with fail
  clear hw4 hx3 c1x0 c1x1 c1x2
  refine (floor_any (S.out.fact 1 rfl) (by omega)).mono ?_
  rintro e w5 ⟨ub1, uA1, un1, uc1, uB1, um1, ud1, rfl, hq, hb⟩
  replace S := Lib.hid (((S.out.below hb).push (stab_ratP _ _ _) hq).alloc [.bool ub1, .slice uA1 un1 uc1, .slice uB1 um1 ud1] 30 (by decide) noint3)
  generalize hx6 : w5.heap.size = x6 at S
  obtain ⟨w6, hw6⟩ : ∃ w6, w5.alloc (.cells #[.bool ub1, .slice uA1 un1 uc1, .slice uB1 um1 ud1] 30) = w6 := ⟨_, rfl⟩
  rw [hw6] at S
  clear hb hq
  go_wp2_with fail
  clear hw6 hx6
  refine wp_region_held_drew (S := fun W' => W'.cell? ⟨x3, 0, none⟩ = some (.bool p1) ∧ W'.cell? ⟨x3, 1, none⟩ = some (.slice P1 pn1 pc1) ∧ W'.cell? ⟨x3, 2, none⟩ = some (.slice Q1 qn1 qc1) ∧ W'.cell? ⟨(x3 + 1), 0, none⟩ = some (.bool r1) ∧ W'.cell? ⟨(x3 + 1), 1, none⟩ = some (.slice R1 rn1 rc1) ∧ W'.cell? ⟨(x3 + 1), 2, none⟩ = some (.slice T1 tn1 tc1) ∧ W'.cell? ⟨x6, 0, none⟩ = some (.bool ub1) ∧ W'.cell? ⟨x6, 1, none⟩ = some (.slice uA1 un1 uc1) ∧ W'.cell? ⟨x6, 2, none⟩ = some (.slice uB1 um1 ud1)) (by kernel_rfl) ⟨(S.out.drew.at 2 rfl).cell (i := 0) rfl, (S.out.drew.at 2 rfl).cell (i := 1) rfl, (S.out.drew.at 2 rfl).cell (i := 2) rfl, (S.out.drew.at 1 rfl).cell (i := 0) rfl, (S.out.drew.at 1 rfl).cell (i := 1) rfl, (S.out.drew.at 1 rfl).cell (i := 2) rfl, (S.out.drew.at 0 rfl).cell (i := 0) rfl, (S.out.drew.at 0 rfl).cell (i := 1) rfl, (S.out.drew.at 0 rfl).cell (i := 2) rfl⟩ (fun hHeld => ?_)
  replace S := Lib.hid S.out.drew
  generalize w6.drew = w11 at S hHeld ⊢
  refine wpAnyH_takeD 0 (v := ?_) rfl rfl (by kernel_rfl) (by kernel_rfl) (by kernel_rfl) (fun _ _ _ h => h) (Or.inl ⟨by rfl, ?_⟩) hHeld ?_
  rotate_left
  focus (intro w hSw; (try dsimp only at hSw); go_simp; try with_reducible rfl)
  simp only [List.setIfInBounds_toArray, List.set_cons_zero, List.set_cons_succ]
  refine wpAnyH_takeD 1 (v := ?_) rfl rfl (by kernel_rfl) (by kernel_rfl) (by kernel_rfl) (fun _ _ _ h => h) (Or.inl ⟨by rfl, ?_⟩) hHeld ?_
  rotate_left
  focus (intro w hSw; (try dsimp only at hSw); go_simp; try with_reducible rfl)
  simp only [List.setIfInBounds_toArray, List.set_cons_zero, List.set_cons_succ]
  refine wpAnyH_takeD 2 (v := ?_) rfl rfl (by kernel_rfl) (by kernel_rfl) (by kernel_rfl) (fun _ _ _ h => h) (Or.inl ⟨by rfl, ?_⟩) hHeld ?_
  rotate_left
  focus (intro w hSw; (try dsimp only at hSw); go_simp; try with_reducible rfl)
  simp only [List.setIfInBounds_toArray, List.set_cons_zero, List.set_cons_succ]
  refine wpAnyH_takeD 3 (v := ?_) rfl rfl (by kernel_rfl) (by kernel_rfl) (by kernel_rfl) (fun _ _ _ h => h) (Or.inl ⟨by rfl, ?_⟩) hHeld ?_
  rotate_left
  focus (intro w hSw; (try dsimp only at hSw); go_simp; try with_reducible rfl)
  simp only [List.setIfInBounds_toArray, List.set_cons_zero, List.set_cons_succ]
  refine wpAnyH_ready (rs := [4]) (by kernel_rfl) (by simp) ?_
  refine AllReadyH.cons rfl (fun K hK => ?_) AllReadyH.nil
  go_simp
  refine (refFloor_any (S.out.fact 1 rfl) (by omega)).mono ?_
  rintro e w12 ⟨vb1, vA1, vn1, vc1, vB1, vm1, vd1, rfl, hq, hb1⟩
  replace S := Lib.hid ((S.out.below hb1).push (stab_ratF _ _ _) hq)
  clear hq hb1
  refine hK.out _ _ ⟨(S.out.at 2 rfl).cell (i := 0) rfl, (S.out.at 2 rfl).cell (i := 1) rfl, (S.out.at 2 rfl).cell (i := 2) rfl, (S.out.at 1 rfl).cell (i := 0) rfl, (S.out.at 1 rfl).cell (i := 1) rfl, (S.out.at 1 rfl).cell (i := 2) rfl, (S.out.at 0 rfl).cell (i := 0) rfl, (S.out.at 0 rfl).cell (i := 1) rfl, (S.out.at 0 rfl).cell (i := 2) rfl⟩ (fun hHeld => ?_)
  clear hK K
  refine wpAnyH_ready (rs := [5]) (by kernel_rfl) (by simp) ?_
  refine AllReadyH.cons rfl (fun K hK => ?_) AllReadyH.nil
  go_simp
  refine (is_any (HV.out.tab.below S.out.low) (S.out.fact 1 rfl) (S.out.fact 0 rfl) (by omega) (by omega)).mono ?_
  rintro e w13 ⟨rfl, hb1⟩
  replace S := Lib.hid (S.out.below hb1)
  clear hb1
  refine hK.out _ _ ⟨(S.out.at 2 rfl).cell (i := 0) rfl, (S.out.at 2 rfl).cell (i := 1) rfl, (S.out.at 2 rfl).cell (i := 2) rfl, (S.out.at 1 rfl).cell (i := 0) rfl, (S.out.at 1 rfl).cell (i := 1) rfl, (S.out.at 1 rfl).cell (i := 2) rfl, (S.out.at 0 rfl).cell (i := 0) rfl, (S.out.at 0 rfl).cell (i := 1) rfl, (S.out.at 0 rfl).cell (i := 2) rfl⟩ (fun hHeld => ?_)
  clear hK K
  refine wpAnyH_takeD 6 (v := ?_) rfl rfl (by kernel_rfl) (by kernel_rfl) (by kernel_rfl) (fun _ _ _ h => h) (Or.inl ⟨by rfl, ?_⟩) hHeld ?_
  rotate_left
  focus (intro w hSw; (try dsimp only at hSw); go_simp; try with_reducible rfl)
  simp only [List.setIfInBounds_toArray, List.set_cons_zero, List.set_cons_succ]
  refine wpAnyH_takeD 7 (v := ?_) rfl rfl (by kernel_rfl) (by kernel_rfl) (by kernel_rfl) (fun _ _ _ h => h) (Or.inl ⟨by rfl, ?_⟩) hHeld ?_
  rotate_left
  focus (intro w hSw; (try dsimp only at hSw); go_simp; try with_reducible rfl)
  simp only [List.setIfInBounds_toArray, List.set_cons_zero, List.set_cons_succ]
  refine wpAnyH_takeD 8 (v := ?_) rfl rfl (by kernel_rfl) (by kernel_rfl) (by kernel_rfl) (fun _ _ _ h => h) (Or.inl ⟨by rfl, ?_⟩) hHeld ?_
  rotate_left
  focus (intro w hSw; (try dsimp only at hSw); go_simp; try with_reducible rfl)
  simp only [List.setIfInBounds_toArray, List.set_cons_zero, List.set_cons_succ]
  refine wpAnyH_takeD 10 (v := ?_) rfl rfl (by kernel_rfl) (by kernel_rfl) (by kernel_rfl) (fun _ _ _ h => h) (Or.inl ⟨by rfl, ?_⟩) hHeld ?_
  rotate_left
  focus (intro w hSw; (try dsimp only at hSw); go_simp; try with_reducible rfl)
  simp only [List.setIfInBounds_toArray, List.set_cons_zero, List.set_cons_succ]
  refine wpAnyH_ready (rs := [9]) (by kernel_rfl) (by simp) ?_
  refine AllReadyH.cons rfl (fun K hK => ?_) AllReadyH.nil
  go_simp
  refine (ceil_any (S.out.fact 3 rfl) (by omega)).mono ?_
  rintro e w14 ⟨vb2, vA2, vn2, vc2, vB2, vm2, vd2, rfl, hq, hb1⟩
  replace S := Lib.hid ((S.out.below hb1).push (stab_ratP _ _ _) hq)
  clear hq hb1
  refine hK.out _ _ ⟨(S.out.at 2 rfl).cell (i := 0) rfl, (S.out.at 2 rfl).cell (i := 1) rfl, (S.out.at 2 rfl).cell (i := 2) rfl, (S.out.at 1 rfl).cell (i := 0) rfl, (S.out.at 1 rfl).cell (i := 1) rfl, (S.out.at 1 rfl).cell (i := 2) rfl, (S.out.at 0 rfl).cell (i := 0) rfl, (S.out.at 0 rfl).cell (i := 1) rfl, (S.out.at 0 rfl).cell (i := 2) rfl⟩ (fun hHeld => ?_)
  clear hK K
  refine wpAnyH_ready (rs := [11]) (by kernel_rfl) (by simp) ?_
  refine AllReadyH.cons rfl (fun K hK => ?_) AllReadyH.nil
  go_simp
  refine (refCeil_any (S.out.fact 3 rfl) (by omega)).mono ?_
  rintro e w15 ⟨vb3, vA3, vn3, vc3, vB3, vm3, vd3, rfl, hq, hb1⟩
  replace S := Lib.hid ((S.out.below hb1).push (stab_ratF _ _ _) hq)
  clear hq hb1
  refine hK.out _ _ ⟨(S.out.at 2 rfl).cell (i := 0) rfl, (S.out.at 2 rfl).cell (i := 1) rfl, (S.out.at 2 rfl).cell (i := 2) rfl, (S.out.at 1 rfl).cell (i := 0) rfl, (S.out.at 1 rfl).cell (i := 1) rfl, (S.out.at 1 rfl).cell (i := 2) rfl, (S.out.at 0 rfl).cell (i := 0) rfl, (S.out.at 0 rfl).cell (i := 1) rfl, (S.out.at 0 rfl).cell (i := 2) rfl⟩ (fun hHeld => ?_)
  clear hK K
  refine wpAnyH_ready (rs := [12]) (by kernel_rfl) (by simp) ?_
  refine AllReadyH.cons rfl (fun K hK => ?_) AllReadyH.nil
  go_simp
  refine (is_any (HV.out.tab.below S.out.low) (S.out.fact 1 rfl) (S.out.fact 0 rfl) (by omega) (by omega)).mono ?_
  rintro e w16 ⟨rfl, hb1⟩
  replace S := Lib.hid (S.out.below hb1)
  clear hb1
  refine hK.out _ _ ⟨(S.out.at 2 rfl).cell (i := 0) rfl, (S.out.at 2 rfl).cell (i := 1) rfl, (S.out.at 2 rfl).cell (i := 2) rfl, (S.out.at 1 rfl).cell (i := 0) rfl, (S.out.at 1 rfl).cell (i := 1) rfl, (S.out.at 1 rfl).cell (i := 2) rfl, (S.out.at 0 rfl).cell (i := 0) rfl, (S.out.at 0 rfl).cell (i := 1) rfl, (S.out.at 0 rfl).cell (i := 2) rfl⟩ (fun hHeld => ?_)
  clear hK K
  refine wpAnyH_takeD 13 (v := ?_) rfl rfl (by kernel_rfl) (by kernel_rfl) (by kernel_rfl) (fun _ _ _ h => h) (Or.inl ⟨by rfl, ?_⟩) hHeld ?_
  rotate_left
  focus (intro w hSw; (try dsimp only at hSw); go_simp; try with_reducible rfl)
  simp only [List.setIfInBounds_toArray, List.set_cons_zero, List.set_cons_succ]
  refine wpAnyH_takeD 14 (v := ?_) rfl rfl (by kernel_rfl) (by kernel_rfl) (by kernel_rfl) (fun _ _ _ h => h) (Or.inl ⟨by rfl, ?_⟩) hHeld ?_
  rotate_left
  focus (intro w hSw; (try dsimp only at hSw); go_simp; try with_reducible rfl)
  simp only [List.setIfInBounds_toArray, List.set_cons_zero, List.set_cons_succ]
  refine wpAnyH_takeD 15 (v := ?_) rfl rfl (by kernel_rfl) (by kernel_rfl) (by kernel_rfl) (fun _ _ _ h => h) (Or.inl ⟨by rfl, ?_⟩) hHeld ?_
  rotate_left
  focus (intro w hSw; (try dsimp only at hSw); go_simp; try with_reducible rfl)
  simp only [List.setIfInBounds_toArray, List.set_cons_zero, List.set_cons_succ]
  refine wpAnyH_takeD 16 (v := ?_) rfl rfl (by kernel_rfl) (by kernel_rfl) (by kernel_rfl) (fun _ _ _ h => h) (Or.inl ⟨by rfl, ?_⟩) hHeld ?_
  rotate_left
  focus (intro w hSw; (try dsimp only at hSw); go_simp; try with_reducible rfl)
  simp only [List.setIfInBounds_toArray, List.set_cons_zero, List.set_cons_succ]
  refine wpAnyH_ready (rs := [17]) (by kernel_rfl) (by simp) ?_
  refine AllReadyH.cons rfl (fun K hK => ?_) AllReadyH.nil
  go_simp
  refine (cmpR_any (S.out.fact 3 rfl) (S.out.fact 5 rfl) (by omega) (by omega)).mono ?_
  rintro e w17 ⟨rfl, hb1⟩
  replace S := Lib.hid (S.out.below hb1)
  clear hb1
  refine hK.out _ _ ⟨(S.out.at 2 rfl).cell (i := 0) rfl, (S.out.at 2 rfl).cell (i := 1) rfl, (S.out.at 2 rfl).cell (i := 2) rfl, (S.out.at 1 rfl).cell (i := 0) rfl, (S.out.at 1 rfl).cell (i := 1) rfl, (S.out.at 1 rfl).cell (i := 2) rfl, (S.out.at 0 rfl).cell (i := 0) rfl, (S.out.at 0 rfl).cell (i := 1) rfl, (S.out.at 0 rfl).cell (i := 2) rfl⟩ (fun hHeld => ?_)
  clear hK K
  have ho := floor_cmp q1
  generalize cmpQ (mkRat q1.floor 1) q1 = o at ho ⊢
  refine wpAnyH_takeD 18 (v := ?_) rfl rfl (by kernel_rfl) (by kernel_rfl) (by kernel_rfl) (fun _ _ _ h => h) (Or.inl ⟨by rfl, ?_⟩) hHeld ?_
  rotate_left
  focus (intro w hSw; (try dsimp only at hSw); go_simp; try with_reducible rfl)
  simp only [List.setIfInBounds_toArray, List.set_cons_zero, List.set_cons_succ]
  refine wpAnyH_takeD 19 (v := ?_) rfl rfl (by kernel_rfl) (by kernel_rfl) (by kernel_rfl) (fun _ _ _ h => h) (Or.inl ⟨by rfl, ?_⟩) hHeld ?_
  rotate_left
  focus (intro w hSw; (try dsimp only at hSw); go_simp; try with_reducible rfl)
  simp only [List.setIfInBounds_toArray, List.set_cons_zero, List.set_cons_succ]
  refine wpAnyH_takeD 20 (v := ?_) rfl rfl (by kernel_rfl) (by kernel_rfl) (by kernel_rfl) (fun _ _ _ h => h) (Or.inl ⟨by rfl, ?_⟩) hHeld ?_
  rotate_left
  focus (intro w hSw; (try dsimp only at hSw); go_simp; try with_reducible rfl)
  simp only [List.setIfInBounds_toArray, List.set_cons_zero, List.set_cons_succ]
  refine wpAnyH_takeD 21 (v := ?_) rfl rfl (by kernel_rfl) (by kernel_rfl) (by kernel_rfl) (fun _ _ _ h => h) (Or.inl ⟨by rfl, ?_⟩) hHeld ?_
  rotate_left
  focus (intro w hSw; (try dsimp only at hSw); go_simp; try with_reducible rfl)
  simp only [List.setIfInBounds_toArray, List.set_cons_zero, List.set_cons_succ]
  refine wpAnyH_takeD 22 (v := ?_) rfl rfl (by kernel_rfl) (by kernel_rfl) (by kernel_rfl) (fun _ _ _ h => h) (Or.inl ⟨by rfl, ?_⟩) hHeld ?_
  rotate_left
  focus (intro w hSw; (try dsimp only at hSw); go_simp; try with_reducible rfl)
  simp only [List.setIfInBounds_toArray, List.set_cons_zero, List.set_cons_succ]
  clear ho
  refine wpAnyH_ready (rs := [23]) (by kernel_rfl) (by simp) ?_
  refine AllReadyH.cons rfl (fun K hK => ?_) AllReadyH.nil
  go_simp
  refine (int_any 1 (by omega) (by omega)).mono ?_
  rintro e w18 ⟨vb4, vA4, vn4, vc4, vB4, vm4, vd4, rfl, hq, hb1⟩
  replace S := Lib.hid ((S.out.below hb1).push (stab_ratP _ _ _) hq)
  clear hq hb1
  refine hK.out _ _ ⟨(S.out.at 2 rfl).cell (i := 0) rfl, (S.out.at 2 rfl).cell (i := 1) rfl, (S.out.at 2 rfl).cell (i := 2) rfl, (S.out.at 1 rfl).cell (i := 0) rfl, (S.out.at 1 rfl).cell (i := 1) rfl, (S.out.at 1 rfl).cell (i := 2) rfl, (S.out.at 0 rfl).cell (i := 0) rfl, (S.out.at 0 rfl).cell (i := 1) rfl, (S.out.at 0 rfl).cell (i := 2) rfl⟩ (fun hHeld => ?_)
  clear hK K
  refine wpAnyH_ready (rs := [24]) (by kernel_rfl) (by simp) ?_
  refine AllReadyH.cons rfl (fun K hK => ?_) AllReadyH.nil
  go_simp
  refine (add_any (S.out.fact 4 rfl) (S.out.fact 0 rfl) (by omega) (by omega)).mono ?_
  rintro e w19 ⟨vb5, vA5, vn5, vc5, vB5, vm5, vd5, rfl, hq, hb1⟩
  replace S := Lib.hid ((S.out.below hb1).push (stab_ratP _ _ _) hq)
  clear hq hb1
  refine hK.out _ _ ⟨(S.out.at 2 rfl).cell (i := 0) rfl, (S.out.at 2 rfl).cell (i := 1) rfl, (S.out.at 2 rfl).cell (i := 2) rfl, (S.out.at 1 rfl).cell (i := 0) rfl, (S.out.at 1 rfl).cell (i := 1) rfl, (S.out.at 1 rfl).cell (i := 2) rfl, (S.out.at 0 rfl).cell (i := 0) rfl, (S.out.at 0 rfl).cell (i := 1) rfl, (S.out.at 0 rfl).cell (i := 2) rfl⟩ (fun hHeld => ?_)
  clear hK K
  refine wpAnyH_ready (rs := [25]) (by kernel_rfl) (by simp) ?_
  refine AllReadyH.cons rfl (fun K hK => ?_) AllReadyH.nil
  go_simp
  refine (cmpR_any (S.out.fact 7 rfl) (S.out.fact 0 rfl) (by omega) (by omega)).mono ?_
  rintro e w20 ⟨rfl, hb1⟩
  replace S := Lib.hid (S.out.below hb1)
  clear hb1
  refine hK.out _ _ ⟨(S.out.at 2 rfl).cell (i := 0) rfl, (S.out.at 2 rfl).cell (i := 1) rfl, (S.out.at 2 rfl).cell (i := 2) rfl, (S.out.at 1 rfl).cell (i := 0) rfl, (S.out.at 1 rfl).cell (i := 1) rfl, (S.out.at 1 rfl).cell (i := 2) rfl, (S.out.at 0 rfl).cell (i := 0) rfl, (S.out.at 0 rfl).cell (i := 1) rfl, (S.out.at 0 rfl).cell (i := 2) rfl⟩ (fun hHeld => ?_)
  clear hK K
  have ho := floor_next q1
  generalize cmpQ q1 (mkRat q1.floor 1 + mkRat 1 1) = o2 at ho ⊢
  refine wpAnyH_takeD 26 (v := ?_) rfl rfl (by kernel_rfl) (by kernel_rfl) (by kernel_rfl) (fun _ _ _ h => h) (Or.inl ⟨by rfl, ?_⟩) hHeld ?_
  rotate_left
  focus (intro w hSw; (try dsimp only at hSw); go_simp; try with_reducible rfl)
  simp only [List.setIfInBounds_toArray, List.set_cons_zero, List.set_cons_succ]
  refine wpAnyH_takeD 27 (v := ?_) rfl rfl (by kernel_rfl) (by kernel_rfl) (by kernel_rfl) (fun _ _ _ h => h) (Or.inl ⟨by rfl, ?_⟩) hHeld ?_
  rotate_left
  focus (intro w hSw; (try dsimp only at hSw); go_simp; try with_reducible rfl)
  simp only [List.setIfInBounds_toArray, List.set_cons_zero, List.set_cons_succ]
  refine wpAnyH_takeD 28 (v := ?_) rfl rfl (by kernel_rfl) (by kernel_rfl) (by kernel_rfl) (fun _ _ _ h => h) (Or.inl ⟨by rfl, ?_⟩) hHeld ?_
  rotate_left
  focus (intro w hSw; (try dsimp only at hSw); go_simp; try with_reducible rfl)
  simp only [List.setIfInBounds_toArray, List.set_cons_zero, List.set_cons_succ]
  refine wpAnyH_takeD 29 (v := ?_) rfl rfl (by kernel_rfl) (by kernel_rfl) (by kernel_rfl) (fun _ _ _ h => h) (Or.inl ⟨by rfl, ?_⟩) hHeld ?_
  rotate_left
  focus (intro w hSw; (try dsimp only at hSw); go_simp; try with_reducible rfl)
  simp only [List.setIfInBounds_toArray, List.set_cons_zero, List.set_cons_succ]
  clear ho
  refine wpAnyH_ready (rs := [30]) (by kernel_rfl) (by simp) ?_
  refine AllReadyH.cons rfl (fun K hK => ?_) AllReadyH.nil
  go_simp
  refine (den_any (S.out.fact 5 rfl) (by omega)).mono ?_
  rintro e w21 ⟨A9, n9, c9, rfl, hq, hb1⟩
  rw [(int_low q1.floor).2] at hq
  replace S := Lib.hid ((S.out.below hb1).push (stab_natB _ _ _) hq)
  clear hq hb1
  refine hK.out _ _ ⟨(S.out.at 2 rfl).cell (i := 0) rfl, (S.out.at 2 rfl).cell (i := 1) rfl, (S.out.at 2 rfl).cell (i := 2) rfl, (S.out.at 1 rfl).cell (i := 0) rfl, (S.out.at 1 rfl).cell (i := 1) rfl, (S.out.at 1 rfl).cell (i := 2) rfl, (S.out.at 0 rfl).cell (i := 0) rfl, (S.out.at 0 rfl).cell (i := 1) rfl, (S.out.at 0 rfl).cell (i := 2) rfl⟩ (fun hHeld => ?_)
  clear hK K
  refine wpAnyH_ready (rs := [31]) (by kernel_rfl) (by simp) ?_
  refine AllReadyH.cons rfl (fun K hK => ?_) AllReadyH.nil
  go_simp
  have hT1 := Lib.hid (textN (HV.out.tab.below S.out.low) (S.out.fact 0 rfl) (by omega))
  rw [dec_one] at hT1
  unfold str at hT1
  refine hT1.out.mono ?_
  rintro e w22 ⟨rfl, hb1⟩
  replace S := Lib.hid (S.out.below hb1)
  clear hb1 hT1
  refine hK.out _ _ ⟨(S.out.at 2 rfl).cell (i := 0) rfl, (S.out.at 2 rfl).cell (i := 1) rfl, (S.out.at 2 rfl).cell (i := 2) rfl, (S.out.at 1 rfl).cell (i := 0) rfl, (S.out.at 1 rfl).cell (i := 1) rfl, (S.out.at 1 rfl).cell (i := 2) rfl, (S.out.at 0 rfl).cell (i := 0) rfl, (S.out.at 0 rfl).cell (i := 1) rfl, (S.out.at 0 rfl).cell (i := 2) rfl⟩ (fun hHeld => ?_)
  clear hK K
  refine wpAnyH_takeD 32 (v := ?_) rfl rfl (by kernel_rfl) (by kernel_rfl) (by kernel_rfl) (fun _ _ _ h => h) (Or.inl ⟨by rfl, ?_⟩) hHeld ?_
  rotate_left
  focus (intro w hSw; (try dsimp only at hSw); go_simp; try with_reducible rfl)
  simp only [List.setIfInBounds_toArray, List.set_cons_zero, List.set_cons_succ]
  refine wpAnyH_takeD 33 (v := ?_) rfl rfl (by kernel_rfl) (by kernel_rfl) (by kernel_rfl) (fun _ _ _ h => h) (Or.inl ⟨by rfl, ?_⟩) hHeld ?_
  rotate_left
  focus (intro w hSw; (try dsimp only at hSw); go_simp; try with_reducible rfl)
  simp only [List.setIfInBounds_toArray, List.set_cons_zero, List.set_cons_succ]
  refine wpAnyH_takeD 34 (v := ?_) rfl rfl (by kernel_rfl) (by kernel_rfl) (by kernel_rfl) (fun _ _ _ h => h) (Or.inl ⟨by rfl, ?_⟩) hHeld ?_
  rotate_left
  focus (intro w hSw; (try dsimp only at hSw); go_simp; try with_reducible rfl)
  simp only [List.setIfInBounds_toArray, List.set_cons_zero, List.set_cons_succ]
  refine wpAnyH_takeD 35 (v := ?_) rfl rfl (by kernel_rfl) (by kernel_rfl) (by kernel_rfl) (fun _ _ _ h => h) (Or.inl ⟨by rfl, ?_⟩) hHeld ?_
  rotate_left
  focus (intro w hSw; (try dsimp only at hSw); go_simp; try with_reducible rfl)
  simp only [List.setIfInBounds_toArray, List.set_cons_zero, List.set_cons_succ]
  refine wpAnyH_takeD 37 (v := ?_) rfl rfl (by kernel_rfl) (by kernel_rfl) (by kernel_rfl) (fun _ _ _ h => h) (Or.inl ⟨by rfl, ?_⟩) hHeld ?_
  rotate_left
  focus (intro w hSw; (try dsimp only at hSw); go_simp; try with_reducible rfl)
  simp only [List.setIfInBounds_toArray, List.set_cons_zero, List.set_cons_succ]
  refine wpAnyH_ready (rs := [36]) (by kernel_rfl) (by simp) ?_
  refine AllReadyH.cons rfl (fun K hK => ?_) AllReadyH.nil
  go_simp
  refine (ceil_any (S.out.fact 8 rfl) (by omega)).mono ?_
  rintro e w23 ⟨vb6, vA6, vn6, vc6, vB6, vm6, vd6, rfl, hq, hb1⟩
  replace S := Lib.hid ((S.out.below hb1).push (stab_ratP _ _ _) hq)
  clear hq hb1
  refine hK.out _ _ ⟨(S.out.at 2 rfl).cell (i := 0) rfl, (S.out.at 2 rfl).cell (i := 1) rfl, (S.out.at 2 rfl).cell (i := 2) rfl, (S.out.at 1 rfl).cell (i := 0) rfl, (S.out.at 1 rfl).cell (i := 1) rfl, (S.out.at 1 rfl).cell (i := 2) rfl, (S.out.at 0 rfl).cell (i := 0) rfl, (S.out.at 0 rfl).cell (i := 1) rfl, (S.out.at 0 rfl).cell (i := 2) rfl⟩ (fun hHeld => ?_)
  clear hK K
  refine wpAnyH_ready (rs := [38]) (by kernel_rfl) (by simp) ?_
  refine AllReadyH.cons rfl (fun K hK => ?_) AllReadyH.nil
  go_simp
  refine (neg_any (S.out.fact 9 rfl) (by omega)).mono ?_
  rintro e w24 ⟨vb7, vA7, vn7, vc7, vB7, vm7, vd7, rfl, hq, hb1⟩
  replace S := Lib.hid ((S.out.below hb1).push (stab_ratP _ _ _) hq)
  clear hq hb1
  refine hK.out _ _ ⟨(S.out.at 2 rfl).cell (i := 0) rfl, (S.out.at 2 rfl).cell (i := 1) rfl, (S.out.at 2 rfl).cell (i := 2) rfl, (S.out.at 1 rfl).cell (i := 0) rfl, (S.out.at 1 rfl).cell (i := 1) rfl, (S.out.at 1 rfl).cell (i := 2) rfl, (S.out.at 0 rfl).cell (i := 0) rfl, (S.out.at 0 rfl).cell (i := 1) rfl, (S.out.at 0 rfl).cell (i := 2) rfl⟩ (fun hHeld => ?_)
  clear hK K
  refine wpAnyH_ready (rs := [39]) (by kernel_rfl) (by simp) ?_
  refine AllReadyH.cons rfl (fun K hK => ?_) AllReadyH.nil
  go_simp
  refine (floor_any (S.out.fact 0 rfl) (by omega)).mono ?_
  rintro e w25 ⟨vb8, vA8, vn8, vc8, vB8, vm8, vd8, rfl, hq, hb1⟩
  replace S := Lib.hid ((S.out.below hb1).push (stab_ratP _ _ _) hq)
  clear hq hb1
  refine hK.out _ _ ⟨(S.out.at 2 rfl).cell (i := 0) rfl, (S.out.at 2 rfl).cell (i := 1) rfl, (S.out.at 2 rfl).cell (i := 2) rfl, (S.out.at 1 rfl).cell (i := 0) rfl, (S.out.at 1 rfl).cell (i := 1) rfl, (S.out.at 1 rfl).cell (i := 2) rfl, (S.out.at 0 rfl).cell (i := 0) rfl, (S.out.at 0 rfl).cell (i := 1) rfl, (S.out.at 0 rfl).cell (i := 2) rfl⟩ (fun hHeld => ?_)
  clear hK K
  refine wpAnyH_ready (rs := [40]) (by kernel_rfl) (by simp) ?_
  refine AllReadyH.cons rfl (fun K hK => ?_) AllReadyH.nil
  go_simp
  refine (neg_any (S.out.fact 0 rfl) (by omega)).mono ?_
  rintro e w26 ⟨vb9, vA9, vn9, vc9, vB9, vm9, vd9, rfl, hq, hb1⟩
  rw [Rat.neg_mkRat, ← Rat.ceil_eq_neg_floor_neg] at hq
  replace S := Lib.hid ((S.out.below hb1).push (stab_ratP _ _ _) hq)
  clear hq hb1
  refine hK.out _ _ ⟨(S.out.at 2 rfl).cell (i := 0) rfl, (S.out.at 2 rfl).cell (i := 1) rfl, (S.out.at 2 rfl).cell (i := 2) rfl, (S.out.at 1 rfl).cell (i := 0) rfl, (S.out.at 1 rfl).cell (i := 1) rfl, (S.out.at 1 rfl).cell (i := 2) rfl, (S.out.at 0 rfl).cell (i := 0) rfl, (S.out.at 0 rfl).cell (i := 1) rfl, (S.out.at 0 rfl).cell (i := 2) rfl⟩ (fun hHeld => ?_)
  clear hK K
  refine wpAnyH_ready (rs := [41]) (by kernel_rfl) (by simp) ?_
  refine AllReadyH.cons rfl (fun K hK => ?_) AllReadyH.nil
  go_simp
  have hC1 := Lib.hid (cmpR_any (S.out.fact 3 rfl) (S.out.fact 0 rfl) (by omega) (by omega))
  rw [cmpQ_self] at hC1
  refine hC1.out.mono ?_
  rintro e w27 ⟨rfl, hb1⟩
  replace S := Lib.hid (S.out.below hb1)
  clear hb1 hC1
  refine hK.out _ _ ⟨(S.out.at 2 rfl).cell (i := 0) rfl, (S.out.at 2 rfl).cell (i := 1) rfl, (S.out.at 2 rfl).cell (i := 2) rfl, (S.out.at 1 rfl).cell (i := 0) rfl, (S.out.at 1 rfl).cell (i := 1) rfl, (S.out.at 1 rfl).cell (i := 2) rfl, (S.out.at 0 rfl).cell (i := 0) rfl, (S.out.at 0 rfl).cell (i := 1) rfl, (S.out.at 0 rfl).cell (i := 2) rfl⟩ (fun hHeld => ?_)
  clear hK K
  refine wpAnyH_takeD 42 (v := ?_) rfl rfl (by kernel_rfl) (by kernel_rfl) (by kernel_rfl) (fun _ _ _ h => h) (Or.inl ⟨by rfl, ?_⟩) hHeld ?_
  rotate_left
  focus (intro w hSw; (try dsimp only at hSw); go_simp; try with_reducible rfl)
  simp only [List.setIfInBounds_toArray, List.set_cons_zero, List.set_cons_succ]
  refine wpAnyH_takeD 43 (v := ?_) rfl rfl (by kernel_rfl) (by kernel_rfl) (by kernel_rfl) (fun _ _ _ h => h) (Or.inl ⟨by rfl, ?_⟩) hHeld ?_
  rotate_left
  focus (intro w hSw; (try dsimp only at hSw); go_simp; try with_reducible rfl)
  simp only [List.setIfInBounds_toArray, List.set_cons_zero, List.set_cons_succ]
  refine wpAnyH_takeD 44 (v := ?_) rfl rfl (by kernel_rfl) (by kernel_rfl) (by kernel_rfl) (fun _ _ _ h => h) (Or.inl ⟨by rfl, ?_⟩) hHeld ?_
  rotate_left
  focus (intro w hSw; (try dsimp only at hSw); go_simp; try with_reducible rfl)
  simp only [List.setIfInBounds_toArray, List.set_cons_zero, List.set_cons_succ]
  refine wpAnyH_done (by kernel_rfl) ?_ _
  go_wp2_with fail
  go_ret
  exact ⟨rfl, S.out.low⟩
theorem lawFloor {w : World} {b1 : Bool} {A1 B1 : Option Addr} {n1 c1 m1 e1 : Nat} {ds1 es1 : List Nat} (hV : Vars w) (h1 : ArgN w A1 n1 c1 B1 m1 e1 ds1 es1) : Calls Tryz.prog 9 #[.agg #[.bool b1, .slice A1 n1 c1, .slice B1 m1 e1]] w fun e w' => e = .returned (.bool true) ∧ Below w.heap.size w w' := by
  by_cases hy : (n1 ≤ 8 ∧ m1 ≤ 8)
  · exact lawFloor_small hV h1 hy
  · exact lawFloor_large hV h1 hy
end Go.Proofs.YtbmdbhafanojcaaGreatDoor
