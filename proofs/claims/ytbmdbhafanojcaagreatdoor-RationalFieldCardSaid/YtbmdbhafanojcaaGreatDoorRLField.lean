/- The walk of the law RationalField. -/
import Derived.Test.YtbmdbhafanojcaaGreatDoorRU
import Derived.Test.YtbmdbhafanojcaaGreatDoorRLFloor
import Derived.Test.YtbmdbhafanojcaaGreatDoorRYb
import Derived.Test.YtbmdbhafanojcaaGreatDoorRW
namespace Go.Proofs.YtbmdbhafanojcaaGreatDoor
open Go.RowKit

theorem cmp_add (q r c : Rat) : cmpQ (q + c) (r + c) = cmpQ q r := by
  rw [← cmp_sub, ← cmp_sub, show q + c - (r + c) = q - r by grind]
theorem cmp_swap (q r : Rat) : cmpQ r q = -cmpQ q r := by
  unfold cmpQ cmpZ
  generalize q.num * (r.den : Int) = X
  generalize r.num * (q.den : Int) = Y
  by_cases h1 : X < Y
  · rw [if_neg (by omega), if_pos h1, if_pos h1]; rfl
  · by_cases h2 : Y < X
    · rw [if_pos h2, if_neg h1, if_pos h2]
    · rw [if_neg h2, if_neg h1, if_neg h1, if_neg h2]; rfl
theorem cmp_low (q r : Rat) : -1 ≤ cmpQ q r ∧ cmpQ q r ≤ 1 := by
  unfold cmpQ cmpZ
  split
  · omega
  · split <;> omega
theorem sign_low (x : Int) : -1 ≤ x.sign ∧ x.sign ≤ 1 := by
  rcases Int.lt_trichotomy x 0 with h | h | h
  · rw [Int.sign_eq_neg_one_of_neg h]; omega
  · rw [h]; decide
  · rw [Int.sign_eq_one_of_pos h]; omega
theorem sign_mul (q r : Rat) : (q * r).num.sign = q.num.sign * r.num.sign := by
  rw [mul_mk, ← Int.sign_mul]
  have hd : q.den * r.den ≠ 0 := Nat.mul_ne_zero (Nat.ne_of_gt q.den_pos) (Nat.ne_of_gt r.den_pos)
  generalize q.den * r.den = D at hd ⊢
  generalize q.num * r.num = N
  rw [Rat.num_mkRat, if_neg hd]
  have hg : 0 < D.gcd N.natAbs := Nat.gcd_pos_of_pos_left _ (by omega)
  have hdv : ((D.gcd N.natAbs : Nat) : Int) ∣ N := Int.ofNat_dvd_left.2 (Nat.gcd_dvd_right _ _)
  obtain ⟨k, hk⟩ := hdv
  generalize D.gcd N.natAbs = g at hg hk ⊢
  have hs : (g : Int).sign = 1 := Int.sign_eq_one_of_pos (by omega)
  rw [hk, Int.mul_ediv_cancel_left _ (by omega), Int.sign_mul, hs, Int.one_mul]
theorem prod_low {x y : Int} (h1 : -1 ≤ x ∧ x ≤ 1) (h2 : -1 ≤ y ∧ y ≤ 1) : -1 ≤ x * y ∧ x * y ≤ 1 := by
  rcases (by omega : x = -1 ∨ x = 0 ∨ x = 1) with h | h | h <;> subst h <;> omega
set_option maxRecDepth 100000 in
set_option maxHeartbeats 8000000 in
theorem same_any {w : World} {u v : Value} {q r : Rat} {a b : Nat} (hT : Tab w) (hu : RatP w u q a) (hv : RatP w v r b) (he : q = r) (ha : a ≤ 90) (hb : b ≤ 90) : Calls Tryz.prog 44 #[u, v] w fun e w' => e = .returned (.bool true) ∧ Below w.heap.size w w' := by
  subst he
  have hX := Lib.hid (fun W (hw : Below w.heap.size w W) => text_any (hT.below hw) (hu.below hw) (by omega))
  have hY := Lib.hid (fun W (hw : Below w.heap.size w W) => text_any (hT.below hw) (hv.below hw) (by omega))
  have hC := Lib.hid (fun W (hw : Below w.heap.size w W) => cmpR_any (hu.below hw) (hv.below hw) ha hb)
  rw [cmpQ_self] at hC
  obtain ⟨A, n, c, A2, n2, c2, rfl⟩ := hu.shape
  obtain ⟨B, m, d, B2, m2, d2, rfl⟩ := hv.shape
  obtain ⟨w1, hw1, S⟩ := enter2 w [.bool (decide (q.num < 0)), .slice A n c, .slice A2 n2 c2] 30 [.bool (decide (q.num < 0)), .slice B m d, .slice B2 m2 d2] 30 (by decide) noint3 (by decide) noint3
  clear hu hv hT
  unfold str at hX hY
  generalize txtQ q = t at hX hY
  generalize decide (q.num < 0) = x at hX hY hC S hw1 ⊢
  go_enter Tryz.func44, Tryz.ntmps44
  go_wp2_with fail
  clear hw1
  refine wp_region_held_drew (S := fun W' => W'.cell? ⟨w.heap.size, 0, none⟩ = some (.bool x) ∧ W'.cell? ⟨w.heap.size, 1, none⟩ = some (.slice A n c) ∧ W'.cell? ⟨w.heap.size, 2, none⟩ = some (.slice A2 n2 c2) ∧ W'.cell? ⟨(w.heap.size + 1), 0, none⟩ = some (.bool x) ∧ W'.cell? ⟨(w.heap.size + 1), 1, none⟩ = some (.slice B m d) ∧ W'.cell? ⟨(w.heap.size + 1), 2, none⟩ = some (.slice B2 m2 d2)) (by kernel_rfl) ⟨(S.out.drew.at 1 rfl).cell (i := 0) rfl, (S.out.drew.at 1 rfl).cell (i := 1) rfl, (S.out.drew.at 1 rfl).cell (i := 2) rfl, (S.out.drew.at 0 rfl).cell (i := 0) rfl, (S.out.drew.at 0 rfl).cell (i := 1) rfl, (S.out.drew.at 0 rfl).cell (i := 2) rfl⟩ (fun hHeld => ?_)
  replace S := Lib.hid S.out.drew
  generalize w1.drew = w2 at S hHeld ⊢
  refine wpAnyH_takeD 0 (v := ?_) rfl rfl (by kernel_rfl) (by kernel_rfl) (by kernel_rfl) (fun _ _ _ h => h) (Or.inl ⟨by rfl, ?_⟩) hHeld ?_
  rotate_left
  focus (intro w hSw; (try dsimp only at hSw); go_simp; try with_reducible rfl)
  simp only [List.setIfInBounds_toArray, List.set_cons_zero, List.set_cons_succ]
  refine wpAnyH_takeD 1 (v := ?_) rfl rfl (by kernel_rfl) (by kernel_rfl) (by kernel_rfl) (fun _ _ _ h => h) (Or.inl ⟨by rfl, ?_⟩) hHeld ?_
  rotate_left
  focus (intro w hSw; (try dsimp only at hSw); go_simp; try with_reducible rfl)
  simp only [List.setIfInBounds_toArray, List.set_cons_zero, List.set_cons_succ]
  refine wpAnyH_ready (rs := [2]) (by kernel_rfl) (by simp) ?_
  refine AllReadyH.cons rfl (fun K hK => ?_) AllReadyH.nil
  go_simp
  refine (hC.out _ S.out.low).mono ?_
  rintro e u1 ⟨rfl, hb1⟩
  replace S := Lib.hid (S.out.below hb1)
  clear hb1
  refine hK.out _ _ ⟨(S.out.at 1 rfl).cell (i := 0) rfl, (S.out.at 1 rfl).cell (i := 1) rfl, (S.out.at 1 rfl).cell (i := 2) rfl, (S.out.at 0 rfl).cell (i := 0) rfl, (S.out.at 0 rfl).cell (i := 1) rfl, (S.out.at 0 rfl).cell (i := 2) rfl⟩ (fun hHeld => ?_)
  clear hK K
  refine wpAnyH_takeD 3 (v := ?_) rfl rfl (by kernel_rfl) (by kernel_rfl) (by kernel_rfl) (fun _ _ _ h => h) (Or.inl ⟨by rfl, ?_⟩) hHeld ?_
  rotate_left
  focus (intro w hSw; (try dsimp only at hSw); go_simp; try with_reducible rfl)
  simp only [List.setIfInBounds_toArray, List.set_cons_zero, List.set_cons_succ]
  refine wpAnyH_takeD 4 (v := ?_) rfl rfl (by kernel_rfl) (by kernel_rfl) (by kernel_rfl) (fun _ _ _ h => h) (Or.inl ⟨by rfl, ?_⟩) hHeld ?_
  rotate_left
  focus (intro w hSw; (try dsimp only at hSw); go_simp; try with_reducible rfl)
  simp only [List.setIfInBounds_toArray, List.set_cons_zero, List.set_cons_succ]
  refine wpAnyH_takeD 5 (v := ?_) rfl rfl (by kernel_rfl) (by kernel_rfl) (by kernel_rfl) (fun _ _ _ h => h) (Or.inl ⟨by rfl, ?_⟩) hHeld ?_
  rotate_left
  focus (intro w hSw; (try dsimp only at hSw); go_simp; try with_reducible rfl)
  simp only [List.setIfInBounds_toArray, List.set_cons_zero, List.set_cons_succ]
  refine wpAnyH_takeD 7 (v := ?_) rfl rfl (by kernel_rfl) (by kernel_rfl) (by kernel_rfl) (fun _ _ _ h => h) (Or.inl ⟨by rfl, ?_⟩) hHeld ?_
  rotate_left
  focus (intro w hSw; (try dsimp only at hSw); go_simp; try with_reducible rfl)
  simp only [List.setIfInBounds_toArray, List.set_cons_zero, List.set_cons_succ]
  refine wpAnyH_ready (rs := [6]) (by kernel_rfl) (by simp) ?_
  refine AllReadyH.cons rfl (fun K hK => ?_) AllReadyH.nil
  go_simp
  refine (hX.out _ S.out.low).mono ?_
  rintro e u2 ⟨rfl, hb1⟩
  replace S := Lib.hid (S.out.below hb1)
  clear hb1
  refine hK.out _ _ ⟨(S.out.at 1 rfl).cell (i := 0) rfl, (S.out.at 1 rfl).cell (i := 1) rfl, (S.out.at 1 rfl).cell (i := 2) rfl, (S.out.at 0 rfl).cell (i := 0) rfl, (S.out.at 0 rfl).cell (i := 1) rfl, (S.out.at 0 rfl).cell (i := 2) rfl⟩ (fun hHeld => ?_)
  clear hK K
  refine wpAnyH_ready (rs := [8]) (by kernel_rfl) (by simp) ?_
  refine AllReadyH.cons rfl (fun K hK => ?_) AllReadyH.nil
  go_simp
  refine (hY.out _ S.out.low).mono ?_
  rintro e u3 ⟨rfl, hb1⟩
  replace S := Lib.hid (S.out.below hb1)
  clear hb1
  refine hK.out _ _ ⟨(S.out.at 1 rfl).cell (i := 0) rfl, (S.out.at 1 rfl).cell (i := 1) rfl, (S.out.at 1 rfl).cell (i := 2) rfl, (S.out.at 0 rfl).cell (i := 0) rfl, (S.out.at 0 rfl).cell (i := 1) rfl, (S.out.at 0 rfl).cell (i := 2) rfl⟩ (fun hHeld => ?_)
  clear hK K
  refine wpAnyH_takeD 9 (v := ?_) rfl rfl (by kernel_rfl) (by kernel_rfl) (by kernel_rfl) (fun _ _ _ h => h) (Or.inl ⟨by rfl, ?_⟩) hHeld ?_
  rotate_left
  focus (intro w hSw; (try dsimp only at hSw); go_simp; try with_reducible rfl)
  simp only [List.setIfInBounds_toArray, List.set_cons_zero, List.set_cons_succ]
  refine wpAnyH_takeD 10 (v := ?_) rfl rfl (by kernel_rfl) (by kernel_rfl) (by kernel_rfl) (fun _ _ _ h => h) (Or.inl ⟨by rfl, ?_⟩) hHeld ?_
  rotate_left
  focus (intro w hSw; (try dsimp only at hSw); go_simp; try with_reducible rfl)
  simp only [List.setIfInBounds_toArray, List.set_cons_zero, List.set_cons_succ]
  refine wpAnyH_takeD 11 (v := ?_) rfl rfl (by kernel_rfl) (by kernel_rfl) (by kernel_rfl) (fun _ _ _ h => h) (Or.inl ⟨by rfl, ?_⟩) hHeld ?_
  rotate_left
  focus (intro w hSw; (try dsimp only at hSw); go_simp; try with_reducible rfl)
  simp only [List.setIfInBounds_toArray, List.set_cons_zero, List.set_cons_succ]
  refine wpAnyH_done (by kernel_rfl) ?_ _
  go_wp2_with fail
  go_ret
  exact ⟨rfl, S.out.low⟩
set_option maxRecDepth 100000 in
set_option maxHeartbeats 16000000 in
theorem lawField_large {w : World} {b1 : Bool} {A1 B1 : Option Addr} {n1 c1 m1 e1 : Nat} {ds1 es1 : List Nat} {b2 : Bool} {A2 B2 : Option Addr} {n2 c2 m2 e2 : Nat} {ds2 es2 : List Nat} {b3 : Bool} {A3 B3 : Option Addr} {n3 c3 m3 e3 : Nat} {ds3 es3 : List Nat} (hV : Vars w) (h1 : ArgN w A1 n1 c1 B1 m1 e1 ds1 es1) (h2 : ArgN w A2 n2 c2 B2 m2 e2 ds2 es2) (h3 : ArgN w A3 n3 c3 B3 m3 e3 ds3 es3) (hno : ¬ ((n1 ≤ 8 ∧ m1 ≤ 8) ∧ (n2 ≤ 8 ∧ m2 ≤ 8) ∧ n3 ≤ 8 ∧ m3 ≤ 8)) : Calls Tryz.prog 8 #[.agg #[.bool b1, .slice A1 n1 c1, .slice B1 m1 e1], .agg #[.bool b2, .slice A2 n2 c2, .slice B2 m2 e2], .agg #[.bool b3, .slice A3 n3 c3, .slice B3 m3 e3]] w fun e w' => e = .returned (.bool true) ∧ Below w.heap.size w w' := by
  obtain ⟨w1, hw1, S⟩ := enter3 w [.bool b1, .slice A1 n1 c1, .slice B1 m1 e1] 24 [.bool b2, .slice A2 n2 c2, .slice B2 m2 e2] 24 [.bool b3, .slice A3 n3 c3, .slice B3 m3 e3] 24 (by decide) noint3 (by decide) noint3 (by decide) noint3
  have hAw := Lib.hid (awake_any (hV.below S.out.low))
  have hBr := Lib.hid (fun W g cap (h : Blk W g [.bool b1, .slice A1 n1 c1, .slice B1 m1 e1, .bool b2, .slice A2 n2 c2, .slice B2 m2 e2, .bool b3, .slice A3 n3 c3, .slice B3 m3 e3] 24) => brief3 h h1.b1 h1.b2 h2.b1 h2.b2 h3.b1 h3.b2 (cap := cap))
  rw [decide_eq_false hno] at hBr
  clear hno h1 h2 h3 hV
  go_enter Tryz.func8, Tryz.ntmps8
  go_wp2_with fail
  refine hAw.out.mono ?_
  rintro e w2 ⟨rfl, hb⟩
  replace S := Lib.hid (S.out.below hb)
  clear hb hw1 hAw
  have c2x0 := (S.out.at 2 rfl).cell (i := 0) rfl
  have c2x1 := (S.out.at 2 rfl).cell (i := 1) rfl
  have c2x2 := (S.out.at 2 rfl).cell (i := 2) rfl
  have c1x0 := (S.out.at 1 rfl).cell (i := 0) rfl
  have c1x1 := (S.out.at 1 rfl).cell (i := 1) rfl
  have c1x2 := (S.out.at 1 rfl).cell (i := 2) rfl
  have c0x0 := (S.out.at 0 rfl).cell (i := 0) rfl
  have c0x1 := (S.out.at 0 rfl).cell (i := 1) rfl
  have c0x2 := (S.out.at 0 rfl).cell (i := 2) rfl
  replace S := Lib.hid (S.out.alloc [.bool b1, .slice A1 n1 c1, .slice B1 m1 e1, .bool b2, .slice A2 n2 c2, .slice B2 m2 e2, .bool b3, .slice A3 n3 c3, .slice B3 m3 e3] 24 (by decide) (by intro c hc; simp only [List.mem_cons, List.not_mem_nil, or_false] at hc; rcases hc with rfl | rfl | rfl | rfl | rfl | rfl | rfl | rfl | rfl <;> intro k z h <;> cases h))
  have hbk := S.out.at 0 rfl
  have HB := Lib.hid hbk
  clear hbk
  go_wp2_with fail
  refine (hBr.out _ _ _ HB.out).mono ?_
  rintro e w' ⟨rfl, rfl⟩
  go_wp2_with fail
  go_ret
  exact ⟨rfl, S.out.low⟩
set_option maxRecDepth 100000 in
set_option maxHeartbeats 16000000 in
theorem lawField_small {w : World} {b1 : Bool} {A1 B1 : Option Addr} {n1 c1 m1 e1 : Nat} {ds1 es1 : List Nat} {b2 : Bool} {A2 B2 : Option Addr} {n2 c2 m2 e2 : Nat} {ds2 es2 : List Nat} {b3 : Bool} {A3 B3 : Option Addr} {n3 c3 m3 e3 : Nat} {ds3 es3 : List Nat} (hV : Vars w) (h1 : ArgN w A1 n1 c1 B1 m1 e1 ds1 es1) (h2 : ArgN w A2 n2 c2 B2 m2 e2 ds2 es2) (h3 : ArgN w A3 n3 c3 B3 m3 e3 ds3 es3) (hyes : ((n1 ≤ 8 ∧ m1 ≤ 8) ∧ (n2 ≤ 8 ∧ m2 ≤ 8) ∧ n3 ≤ 8 ∧ m3 ≤ 8)) : Calls Tryz.prog 8 #[.agg #[.bool b1, .slice A1 n1 c1, .slice B1 m1 e1], .agg #[.bool b2, .slice A2 n2 c2, .slice B2 m2 e2], .agg #[.bool b3, .slice A3 n3 c3, .slice B3 m3 e3]] w fun e w' => e = .returned (.bool true) ∧ Below w.heap.size w w' := by
  obtain ⟨w1, hw1, S⟩ := enter3 w [.bool b1, .slice A1 n1 c1, .slice B1 m1 e1] 24 [.bool b2, .slice A2 n2 c2, .slice B2 m2 e2] 24 [.bool b3, .slice A3 n3 c3, .slice B3 m3 e3] 24 (by decide) noint3 (by decide) noint3 (by decide) noint3
  have hAw := Lib.hid (awake_any (hV.below S.out.low))
  have hBr := Lib.hid (fun W g cap (h : Blk W g [.bool b1, .slice A1 n1 c1, .slice B1 m1 e1, .bool b2, .slice A2 n2 c2, .slice B2 m2 e2, .bool b3, .slice A3 n3 c3, .slice B3 m3 e3] 24) => brief3 h h1.b1 h1.b2 h2.b1 h2.b2 h3.b1 h3.b2 (cap := cap))
  rw [decide_eq_true hyes] at hBr
  have hOf1 := Lib.hid (fun W (hw : Below w.heap.size w W) => ofA (b := b1) hV h1 hyes.1.1 hyes.1.2 hw)
  have hOf2 := Lib.hid (fun W (hw : Below w.heap.size w W) => ofA (b := b2) hV h2 hyes.2.1.1 hyes.2.1.2 hw)
  have hOf3 := Lib.hid (fun W (hw : Below w.heap.size w W) => ofA (b := b3) hV h3 hyes.2.2.1 hyes.2.2.2 hw)
  have HV := Lib.hid hV
  generalize numQ b1 ds1 es1 = q1 at *
  generalize numQ b2 ds2 es2 = q2 at *
  generalize numQ b3 ds3 es3 = q3 at *
  clear hyes h1 h2 h3 hV
  go_enter Tryz.func8, Tryz.ntmps8
  go_wp2_with fail
  refine hAw.out.mono ?_
  rintro e w2 ⟨rfl, hb⟩
  replace S := Lib.hid (S.out.below hb)
  clear hb hw1 hAw
  have c2x0 := (S.out.at 2 rfl).cell (i := 0) rfl
  have c2x1 := (S.out.at 2 rfl).cell (i := 1) rfl
  have c2x2 := (S.out.at 2 rfl).cell (i := 2) rfl
  have c1x0 := (S.out.at 1 rfl).cell (i := 0) rfl
  have c1x1 := (S.out.at 1 rfl).cell (i := 1) rfl
  have c1x2 := (S.out.at 1 rfl).cell (i := 2) rfl
  have c0x0 := (S.out.at 0 rfl).cell (i := 0) rfl
  have c0x1 := (S.out.at 0 rfl).cell (i := 1) rfl
  have c0x2 := (S.out.at 0 rfl).cell (i := 2) rfl
  replace S := Lib.hid (S.out.alloc [.bool b1, .slice A1 n1 c1, .slice B1 m1 e1, .bool b2, .slice A2 n2 c2, .slice B2 m2 e2, .bool b3, .slice A3 n3 c3, .slice B3 m3 e3] 24 (by decide) (by intro c hc; simp only [List.mem_cons, List.not_mem_nil, or_false] at hc; rcases hc with rfl | rfl | rfl | rfl | rfl | rfl | rfl | rfl | rfl <;> intro k z h <;> cases h))
  have hbk := S.out.at 0 rfl
  have HB := Lib.hid hbk
  clear hbk
  go_wp2_with fail
  refine (hBr.out _ _ _ HB.out).mono ?_
  rintro e w' ⟨rfl, rfl⟩
  clear HB hBr
  clear c2x0 c2x1 c2x2 c1x0 c1x1 c1x2 c0x0 c0x1 c0x2
  have c3x0 := (S.out.at 3 rfl).cell (i := 0) rfl
  have c3x1 := (S.out.at 3 rfl).cell (i := 1) rfl
  have c3x2 := (S.out.at 3 rfl).cell (i := 2) rfl
  go_wp2_with fail
  refine (hOf1.out _ S.out.low).mono ?_
  rintro e w3 ⟨p1, P1, pn1, pc1, Q1, qn1, qc1, r1, R1, rn1, rc1, T1, tn1, tc1, rfl, hq, hq2, hb⟩
  replace S := Lib.hid ((((S.out.below hb).push (stab_ratP _ _ _) hq).push (stab_ratF _ _ _) hq2).allocTwo [.bool p1, .slice P1 pn1 pc1, .slice Q1 qn1 qc1] 30 [.bool r1, .slice R1 rn1 rc1, .slice T1 tn1 tc1] 34 (by decide) noint3 (by decide) noint3)
  generalize hx5 : w3.heap.size = x5 at S
  obtain ⟨w4, hw4⟩ : ∃ w4, (w3.alloc (.cells #[.bool p1, .slice P1 pn1 pc1, .slice Q1 qn1 qc1] 30)).alloc (.cells #[.bool r1, .slice R1 rn1 rc1, .slice T1 tn1 tc1] 34) = w4 := ⟨_, rfl⟩
  rw [hw4] at S
  clear hb hq hq2 hOf1
  clear c3x0 c3x1 c3x2
  have c4x0 := (S.out.at 4 rfl).cell (i := 0) rfl
  have c4x1 := (S.out.at 4 rfl).cell (i := 1) rfl
  have c4x2 := (S.out.at 4 rfl).cell (i := 2) rfl
  go_wp2_with fail
  clear hw4 hx5 c4x0 c4x1 c4x2
  refine (hOf2.out _ S.out.low).mono ?_
  rintro e w5 ⟨p2, P2, pn2, pc2, Q2, qn2, qc2, r2, R2, rn2, rc2, T2, tn2, tc2, rfl, hq, hq2, hb⟩
  replace S := Lib.hid ((((S.out.below hb).push (stab_ratP _ _ _) hq).push (stab_ratF _ _ _) hq2).allocTwo [.bool p2, .slice P2 pn2 pc2, .slice Q2 qn2 qc2] 30 [.bool r2, .slice R2 rn2 rc2, .slice T2 tn2 tc2] 34 (by decide) noint3 (by decide) noint3)
  generalize hx8 : w5.heap.size = x8 at S
  obtain ⟨w6, hw6⟩ : ∃ w6, (w5.alloc (.cells #[.bool p2, .slice P2 pn2 pc2, .slice Q2 qn2 qc2] 30)).alloc (.cells #[.bool r2, .slice R2 rn2 rc2, .slice T2 tn2 tc2] 34) = w6 := ⟨_, rfl⟩
  rw [hw6] at S
  clear hb hq hq2 hOf2
  have c5x0 := (S.out.at 5 rfl).cell (i := 0) rfl
  have c5x1 := (S.out.at 5 rfl).cell (i := 1) rfl
  have c5x2 := (S.out.at 5 rfl).cell (i := 2) rfl
  go_wp2_with fail
  clear hw6 hx8 c5x0 c5x1 c5x2
  refine (hOf3.out _ S.out.low).mono ?_
  rintro e w7 ⟨p3, P3, pn3, pc3, Q3, qn3, qc3, r3, R3, rn3, rc3, T3, tn3, tc3, rfl, hq, hq2, hb⟩
  replace S := Lib.hid ((((S.out.below hb).push (stab_ratP _ _ _) hq).push (stab_ratF _ _ _) hq2).allocTwo [.bool p3, .slice P3 pn3 pc3, .slice Q3 qn3 qc3] 30 [.bool r3, .slice R3 rn3 rc3, .slice T3 tn3 tc3] 34 (by decide) noint3 (by decide) noint3)
  generalize hx11 : w7.heap.size = x11 at S
  obtain ⟨w8, hw8⟩ : ∃ w8, (w7.alloc (.cells #[.bool p3, .slice P3 pn3 pc3, .slice Q3 qn3 qc3] 30)).alloc (.cells #[.bool r3, .slice R3 rn3 rc3, .slice T3 tn3 tc3] 34) = w8 := ⟨_, rfl⟩
  rw [hw8] at S
  clear hb hq hq2 hOf3
  go_wp2_with fail
  clear hw8 hx11
  refine wp_region_held_drew (S := fun W' => W'.cell? ⟨x5, 0, none⟩ = some (.bool p1) ∧ W'.cell? ⟨x5, 1, none⟩ = some (.slice P1 pn1 pc1) ∧ W'.cell? ⟨x5, 2, none⟩ = some (.slice Q1 qn1 qc1) ∧ W'.cell? ⟨x8, 0, none⟩ = some (.bool p2) ∧ W'.cell? ⟨x8, 1, none⟩ = some (.slice P2 pn2 pc2) ∧ W'.cell? ⟨x8, 2, none⟩ = some (.slice Q2 qn2 qc2) ∧ W'.cell? ⟨x11, 0, none⟩ = some (.bool p3) ∧ W'.cell? ⟨x11, 1, none⟩ = some (.slice P3 pn3 pc3) ∧ W'.cell? ⟨x11, 2, none⟩ = some (.slice Q3 qn3 qc3)) (by kernel_rfl) ⟨(S.out.drew.at 5 rfl).cell (i := 0) rfl, (S.out.drew.at 5 rfl).cell (i := 1) rfl, (S.out.drew.at 5 rfl).cell (i := 2) rfl, (S.out.drew.at 3 rfl).cell (i := 0) rfl, (S.out.drew.at 3 rfl).cell (i := 1) rfl, (S.out.drew.at 3 rfl).cell (i := 2) rfl, (S.out.drew.at 1 rfl).cell (i := 0) rfl, (S.out.drew.at 1 rfl).cell (i := 1) rfl, (S.out.drew.at 1 rfl).cell (i := 2) rfl⟩ (fun hHeld => ?_)
  replace S := Lib.hid S.out.drew
  generalize w8.drew = w9 at S hHeld ⊢
  refine wpAnyH_takeD 0 (v := ?_) rfl rfl (by kernel_rfl) (by kernel_rfl) (by kernel_rfl) (fun _ _ _ h => h) (Or.inl ⟨by rfl, ?_⟩) hHeld ?_
  rotate_left
  focus (intro w hSw; (try dsimp only at hSw); go_simp; try with_reducible rfl)
  simp only [List.setIfInBounds_toArray, List.set_cons_zero, List.set_cons_succ]
  refine wpAnyH_takeD 1 (v := ?_) rfl rfl (by kernel_rfl) (by kernel_rfl) (by kernel_rfl) (fun _ _ _ h => h) (Or.inl ⟨by rfl, ?_⟩) hHeld ?_
  rotate_left
  focus (intro w hSw; (try dsimp only at hSw); go_simp; try with_reducible rfl)
  simp only [List.setIfInBounds_toArray, List.set_cons_zero, List.set_cons_succ]
  refine wpAnyH_takeD 3 (v := ?_) rfl rfl (by kernel_rfl) (by kernel_rfl) (by kernel_rfl) (fun _ _ _ h => h) (Or.inl ⟨by rfl, ?_⟩) hHeld ?_
  rotate_left
  focus (intro w hSw; (try dsimp only at hSw); go_simp; try with_reducible rfl)
  simp only [List.setIfInBounds_toArray, List.set_cons_zero, List.set_cons_succ]
  refine wpAnyH_takeD 4 (v := ?_) rfl rfl (by kernel_rfl) (by kernel_rfl) (by kernel_rfl) (fun _ _ _ h => h) (Or.inl ⟨by rfl, ?_⟩) hHeld ?_
  rotate_left
  focus (intro w hSw; (try dsimp only at hSw); go_simp; try with_reducible rfl)
  simp only [List.setIfInBounds_toArray, List.set_cons_zero, List.set_cons_succ]
  refine wpAnyH_ready (rs := [2]) (by kernel_rfl) (by simp) ?_
  refine AllReadyH.cons rfl (fun K hK => ?_) AllReadyH.nil
  go_simp
  refine (add_any (S.out.fact 5 rfl) (S.out.fact 3 rfl) (by omega) (by omega)).mono ?_
  rintro e y1 ⟨yyb0, yyA0, yyn0, yyc0, yyB0, yym0, yyd0, rfl, hq, hb1⟩
  replace S := Lib.hid ((S.out.below hb1).push (stab_ratP _ _ _) hq)
  clear hq hb1
  refine hK.out _ _ ⟨(S.out.at 5 rfl).cell (i := 0) rfl, (S.out.at 5 rfl).cell (i := 1) rfl, (S.out.at 5 rfl).cell (i := 2) rfl, (S.out.at 3 rfl).cell (i := 0) rfl, (S.out.at 3 rfl).cell (i := 1) rfl, (S.out.at 3 rfl).cell (i := 2) rfl, (S.out.at 1 rfl).cell (i := 0) rfl, (S.out.at 1 rfl).cell (i := 1) rfl, (S.out.at 1 rfl).cell (i := 2) rfl⟩ (fun hHeld => ?_)
  clear hK K
  refine wpAnyH_ready (rs := [5]) (by kernel_rfl) (by simp) ?_
  refine AllReadyH.cons rfl (fun K hK => ?_) AllReadyH.nil
  go_simp
  refine (add_any (S.out.fact 4 rfl) (S.out.fact 6 rfl) (by omega) (by omega)).mono ?_
  rintro e y2 ⟨yyb1, yyA1, yyn1, yyc1, yyB1, yym1, yyd1, rfl, hq, hb1⟩
  replace S := Lib.hid ((S.out.below hb1).push (stab_ratP _ _ _) hq)
  clear hq hb1
  refine hK.out _ _ ⟨(S.out.at 5 rfl).cell (i := 0) rfl, (S.out.at 5 rfl).cell (i := 1) rfl, (S.out.at 5 rfl).cell (i := 2) rfl, (S.out.at 3 rfl).cell (i := 0) rfl, (S.out.at 3 rfl).cell (i := 1) rfl, (S.out.at 3 rfl).cell (i := 2) rfl, (S.out.at 1 rfl).cell (i := 0) rfl, (S.out.at 1 rfl).cell (i := 1) rfl, (S.out.at 1 rfl).cell (i := 2) rfl⟩ (fun hHeld => ?_)
  clear hK K
  refine wpAnyH_ready (rs := [6]) (by kernel_rfl) (by simp) ?_
  refine AllReadyH.cons rfl (fun K hK => ?_) AllReadyH.nil
  go_simp
  refine (same_any (HV.out.tab.below S.out.low) (S.out.fact 1 rfl) (S.out.fact 0 rfl) (Rat.add_comm _ _) (by omega) (by omega)).mono ?_
  rintro e y3 ⟨rfl, hb1⟩
  replace S := Lib.hid (S.out.below hb1)
  clear hb1
  refine hK.out _ _ ⟨(S.out.at 5 rfl).cell (i := 0) rfl, (S.out.at 5 rfl).cell (i := 1) rfl, (S.out.at 5 rfl).cell (i := 2) rfl, (S.out.at 3 rfl).cell (i := 0) rfl, (S.out.at 3 rfl).cell (i := 1) rfl, (S.out.at 3 rfl).cell (i := 2) rfl, (S.out.at 1 rfl).cell (i := 0) rfl, (S.out.at 1 rfl).cell (i := 1) rfl, (S.out.at 1 rfl).cell (i := 2) rfl⟩ (fun hHeld => ?_)
  clear hK K
  refine wpAnyH_takeD 7 (v := ?_) rfl rfl (by kernel_rfl) (by kernel_rfl) (by kernel_rfl) (fun _ _ _ h => h) (Or.inl ⟨by rfl, ?_⟩) hHeld ?_
  rotate_left
  focus (intro w hSw; (try dsimp only at hSw); go_simp; try with_reducible rfl)
  simp only [List.setIfInBounds_toArray, List.set_cons_zero, List.set_cons_succ]
  refine wpAnyH_takeD 8 (v := ?_) rfl rfl (by kernel_rfl) (by kernel_rfl) (by kernel_rfl) (fun _ _ _ h => h) (Or.inl ⟨by rfl, ?_⟩) hHeld ?_
  rotate_left
  focus (intro w hSw; (try dsimp only at hSw); go_simp; try with_reducible rfl)
  simp only [List.setIfInBounds_toArray, List.set_cons_zero, List.set_cons_succ]
  refine wpAnyH_takeD 9 (v := ?_) rfl rfl (by kernel_rfl) (by kernel_rfl) (by kernel_rfl) (fun _ _ _ h => h) (Or.inl ⟨by rfl, ?_⟩) hHeld ?_
  rotate_left
  focus (intro w hSw; (try dsimp only at hSw); go_simp; try with_reducible rfl)
  simp only [List.setIfInBounds_toArray, List.set_cons_zero, List.set_cons_succ]
  refine wpAnyH_takeD 10 (v := ?_) rfl rfl (by kernel_rfl) (by kernel_rfl) (by kernel_rfl) (fun _ _ _ h => h) (Or.inl ⟨by rfl, ?_⟩) hHeld ?_
  rotate_left
  focus (intro w hSw; (try dsimp only at hSw); go_simp; try with_reducible rfl)
  simp only [List.setIfInBounds_toArray, List.set_cons_zero, List.set_cons_succ]
  refine wpAnyH_takeD 12 (v := ?_) rfl rfl (by kernel_rfl) (by kernel_rfl) (by kernel_rfl) (fun _ _ _ h => h) (Or.inl ⟨by rfl, ?_⟩) hHeld ?_
  rotate_left
  focus (intro w hSw; (try dsimp only at hSw); go_simp; try with_reducible rfl)
  simp only [List.setIfInBounds_toArray, List.set_cons_zero, List.set_cons_succ]
  refine wpAnyH_takeD 14 (v := ?_) rfl rfl (by kernel_rfl) (by kernel_rfl) (by kernel_rfl) (fun _ _ _ h => h) (Or.inl ⟨by rfl, ?_⟩) hHeld ?_
  rotate_left
  focus (intro w hSw; (try dsimp only at hSw); go_simp; try with_reducible rfl)
  simp only [List.setIfInBounds_toArray, List.set_cons_zero, List.set_cons_succ]
  refine wpAnyH_takeD 15 (v := ?_) rfl rfl (by kernel_rfl) (by kernel_rfl) (by kernel_rfl) (fun _ _ _ h => h) (Or.inl ⟨by rfl, ?_⟩) hHeld ?_
  rotate_left
  focus (intro w hSw; (try dsimp only at hSw); go_simp; try with_reducible rfl)
  simp only [List.setIfInBounds_toArray, List.set_cons_zero, List.set_cons_succ]
  refine wpAnyH_takeD 16 (v := ?_) rfl rfl (by kernel_rfl) (by kernel_rfl) (by kernel_rfl) (fun _ _ _ h => h) (Or.inl ⟨by rfl, ?_⟩) hHeld ?_
  rotate_left
  focus (intro w hSw; (try dsimp only at hSw); go_simp; try with_reducible rfl)
  simp only [List.setIfInBounds_toArray, List.set_cons_zero, List.set_cons_succ]
  refine wpAnyH_ready (rs := [11]) (by kernel_rfl) (by simp) ?_
  refine AllReadyH.cons rfl (fun K hK => ?_) AllReadyH.nil
  go_simp
  refine (add_any (S.out.fact 7 rfl) (S.out.fact 5 rfl) (by omega) (by omega)).mono ?_
  rintro e y4 ⟨yyb3, yyA3, yyn3, yyc3, yyB3, yym3, yyd3, rfl, hq, hb1⟩
  replace S := Lib.hid ((S.out.below hb1).push (stab_ratP _ _ _) hq)
  clear hq hb1
  refine hK.out _ _ ⟨(S.out.at 5 rfl).cell (i := 0) rfl, (S.out.at 5 rfl).cell (i := 1) rfl, (S.out.at 5 rfl).cell (i := 2) rfl, (S.out.at 3 rfl).cell (i := 0) rfl, (S.out.at 3 rfl).cell (i := 1) rfl, (S.out.at 3 rfl).cell (i := 2) rfl, (S.out.at 1 rfl).cell (i := 0) rfl, (S.out.at 1 rfl).cell (i := 1) rfl, (S.out.at 1 rfl).cell (i := 2) rfl⟩ (fun hHeld => ?_)
  clear hK K
  refine wpAnyH_ready (rs := [13]) (by kernel_rfl) (by simp) ?_
  refine AllReadyH.cons rfl (fun K hK => ?_) AllReadyH.nil
  go_simp
  refine (add_any (S.out.fact 0 rfl) (S.out.fact 4 rfl) (by omega) (by omega)).mono ?_
  rintro e y5 ⟨yyb4, yyA4, yyn4, yyc4, yyB4, yym4, yyd4, rfl, hq, hb1⟩
  replace S := Lib.hid ((S.out.below hb1).push (stab_ratP _ _ _) hq)
  clear hq hb1
  refine hK.out _ _ ⟨(S.out.at 5 rfl).cell (i := 0) rfl, (S.out.at 5 rfl).cell (i := 1) rfl, (S.out.at 5 rfl).cell (i := 2) rfl, (S.out.at 3 rfl).cell (i := 0) rfl, (S.out.at 3 rfl).cell (i := 1) rfl, (S.out.at 3 rfl).cell (i := 2) rfl, (S.out.at 1 rfl).cell (i := 0) rfl, (S.out.at 1 rfl).cell (i := 1) rfl, (S.out.at 1 rfl).cell (i := 2) rfl⟩ (fun hHeld => ?_)
  clear hK K
  refine wpAnyH_ready (rs := [17]) (by kernel_rfl) (by simp) ?_
  refine AllReadyH.cons rfl (fun K hK => ?_) AllReadyH.nil
  go_simp
  refine (add_any (S.out.fact 7 rfl) (S.out.fact 5 rfl) (by omega) (by omega)).mono ?_
  rintro e y6 ⟨yyb5, yyA5, yyn5, yyc5, yyB5, yym5, yyd5, rfl, hq, hb1⟩
  replace S := Lib.hid ((S.out.below hb1).push (stab_ratP _ _ _) hq)
  clear hq hb1
  refine hK.out _ _ ⟨(S.out.at 5 rfl).cell (i := 0) rfl, (S.out.at 5 rfl).cell (i := 1) rfl, (S.out.at 5 rfl).cell (i := 2) rfl, (S.out.at 3 rfl).cell (i := 0) rfl, (S.out.at 3 rfl).cell (i := 1) rfl, (S.out.at 3 rfl).cell (i := 2) rfl, (S.out.at 1 rfl).cell (i := 0) rfl, (S.out.at 1 rfl).cell (i := 1) rfl, (S.out.at 1 rfl).cell (i := 2) rfl⟩ (fun hHeld => ?_)
  clear hK K
  refine wpAnyH_ready (rs := [18]) (by kernel_rfl) (by simp) ?_
  refine AllReadyH.cons rfl (fun K hK => ?_) AllReadyH.nil
  go_simp
  refine (add_any (S.out.fact 10 rfl) (S.out.fact 0 rfl) (by omega) (by omega)).mono ?_
  rintro e y7 ⟨yyb6, yyA6, yyn6, yyc6, yyB6, yym6, yyd6, rfl, hq, hb1⟩
  replace S := Lib.hid ((S.out.below hb1).push (stab_ratP _ _ _) hq)
  clear hq hb1
  refine hK.out _ _ ⟨(S.out.at 5 rfl).cell (i := 0) rfl, (S.out.at 5 rfl).cell (i := 1) rfl, (S.out.at 5 rfl).cell (i := 2) rfl, (S.out.at 3 rfl).cell (i := 0) rfl, (S.out.at 3 rfl).cell (i := 1) rfl, (S.out.at 3 rfl).cell (i := 2) rfl, (S.out.at 1 rfl).cell (i := 0) rfl, (S.out.at 1 rfl).cell (i := 1) rfl, (S.out.at 1 rfl).cell (i := 2) rfl⟩ (fun hHeld => ?_)
  clear hK K
  refine wpAnyH_ready (rs := [19]) (by kernel_rfl) (by simp) ?_
  refine AllReadyH.cons rfl (fun K hK => ?_) AllReadyH.nil
  go_simp
  refine (same_any (HV.out.tab.below S.out.low) (S.out.fact 2 rfl) (S.out.fact 0 rfl) (Rat.add_assoc _ _ _) (by omega) (by omega)).mono ?_
  rintro e y8 ⟨rfl, hb1⟩
  replace S := Lib.hid (S.out.below hb1)
  clear hb1
  refine hK.out _ _ ⟨(S.out.at 5 rfl).cell (i := 0) rfl, (S.out.at 5 rfl).cell (i := 1) rfl, (S.out.at 5 rfl).cell (i := 2) rfl, (S.out.at 3 rfl).cell (i := 0) rfl, (S.out.at 3 rfl).cell (i := 1) rfl, (S.out.at 3 rfl).cell (i := 2) rfl, (S.out.at 1 rfl).cell (i := 0) rfl, (S.out.at 1 rfl).cell (i := 1) rfl, (S.out.at 1 rfl).cell (i := 2) rfl⟩ (fun hHeld => ?_)
  clear hK K
  refine wpAnyH_takeD 20 (v := ?_) rfl rfl (by kernel_rfl) (by kernel_rfl) (by kernel_rfl) (fun _ _ _ h => h) (Or.inl ⟨by rfl, ?_⟩) hHeld ?_
  rotate_left
  focus (intro w hSw; (try dsimp only at hSw); go_simp; try with_reducible rfl)
  simp only [List.setIfInBounds_toArray, List.set_cons_zero, List.set_cons_succ]
  refine wpAnyH_takeD 21 (v := ?_) rfl rfl (by kernel_rfl) (by kernel_rfl) (by kernel_rfl) (fun _ _ _ h => h) (Or.inl ⟨by rfl, ?_⟩) hHeld ?_
  rotate_left
  focus (intro w hSw; (try dsimp only at hSw); go_simp; try with_reducible rfl)
  simp only [List.setIfInBounds_toArray, List.set_cons_zero, List.set_cons_succ]
  refine wpAnyH_takeD 22 (v := ?_) rfl rfl (by kernel_rfl) (by kernel_rfl) (by kernel_rfl) (fun _ _ _ h => h) (Or.inl ⟨by rfl, ?_⟩) hHeld ?_
  rotate_left
  focus (intro w hSw; (try dsimp only at hSw); go_simp; try with_reducible rfl)
  simp only [List.setIfInBounds_toArray, List.set_cons_zero, List.set_cons_succ]
  refine wpAnyH_takeD 23 (v := ?_) rfl rfl (by kernel_rfl) (by kernel_rfl) (by kernel_rfl) (fun _ _ _ h => h) (Or.inl ⟨by rfl, ?_⟩) hHeld ?_
  rotate_left
  focus (intro w hSw; (try dsimp only at hSw); go_simp; try with_reducible rfl)
  simp only [List.setIfInBounds_toArray, List.set_cons_zero, List.set_cons_succ]
  refine wpAnyH_takeD 24 (v := ?_) rfl rfl (by kernel_rfl) (by kernel_rfl) (by kernel_rfl) (fun _ _ _ h => h) (Or.inl ⟨by rfl, ?_⟩) hHeld ?_
  rotate_left
  focus (intro w hSw; (try dsimp only at hSw); go_simp; try with_reducible rfl)
  simp only [List.setIfInBounds_toArray, List.set_cons_zero, List.set_cons_succ]
  refine wpAnyH_takeD 26 (v := ?_) rfl rfl (by kernel_rfl) (by kernel_rfl) (by kernel_rfl) (fun _ _ _ h => h) (Or.inl ⟨by rfl, ?_⟩) hHeld ?_
  rotate_left
  focus (intro w hSw; (try dsimp only at hSw); go_simp; try with_reducible rfl)
  simp only [List.setIfInBounds_toArray, List.set_cons_zero, List.set_cons_succ]
  refine wpAnyH_takeD 28 (v := ?_) rfl rfl (by kernel_rfl) (by kernel_rfl) (by kernel_rfl) (fun _ _ _ h => h) (Or.inl ⟨by rfl, ?_⟩) hHeld ?_
  rotate_left
  focus (intro w hSw; (try dsimp only at hSw); go_simp; try with_reducible rfl)
  simp only [List.setIfInBounds_toArray, List.set_cons_zero, List.set_cons_succ]
  refine wpAnyH_takeD 29 (v := ?_) rfl rfl (by kernel_rfl) (by kernel_rfl) (by kernel_rfl) (fun _ _ _ h => h) (Or.inl ⟨by rfl, ?_⟩) hHeld ?_
  rotate_left
  focus (intro w hSw; (try dsimp only at hSw); go_simp; try with_reducible rfl)
  simp only [List.setIfInBounds_toArray, List.set_cons_zero, List.set_cons_succ]
  refine wpAnyH_takeD 30 (v := ?_) rfl rfl (by kernel_rfl) (by kernel_rfl) (by kernel_rfl) (fun _ _ _ h => h) (Or.inl ⟨by rfl, ?_⟩) hHeld ?_
  rotate_left
  focus (intro w hSw; (try dsimp only at hSw); go_simp; try with_reducible rfl)
  simp only [List.setIfInBounds_toArray, List.set_cons_zero, List.set_cons_succ]
  refine wpAnyH_ready (rs := [25]) (by kernel_rfl) (by simp) ?_
  refine AllReadyH.cons rfl (fun K hK => ?_) AllReadyH.nil
  go_simp
  refine (mul_any (S.out.fact 11 rfl) (S.out.fact 9 rfl) (by omega) (by omega)).mono ?_
  rintro e y9 ⟨yyb8, yyA8, yyn8, yyc8, yyB8, yym8, yyd8, rfl, hq, hb1⟩
  replace S := Lib.hid ((S.out.below hb1).push (stab_ratP _ _ _) hq)
  clear hq hb1
  refine hK.out _ _ ⟨(S.out.at 5 rfl).cell (i := 0) rfl, (S.out.at 5 rfl).cell (i := 1) rfl, (S.out.at 5 rfl).cell (i := 2) rfl, (S.out.at 3 rfl).cell (i := 0) rfl, (S.out.at 3 rfl).cell (i := 1) rfl, (S.out.at 3 rfl).cell (i := 2) rfl, (S.out.at 1 rfl).cell (i := 0) rfl, (S.out.at 1 rfl).cell (i := 1) rfl, (S.out.at 1 rfl).cell (i := 2) rfl⟩ (fun hHeld => ?_)
  clear hK K
  refine wpAnyH_ready (rs := [27]) (by kernel_rfl) (by simp) ?_
  refine AllReadyH.cons rfl (fun K hK => ?_) AllReadyH.nil
  go_simp
  refine (mul_any (S.out.fact 0 rfl) (S.out.fact 8 rfl) (by omega) (by omega)).mono ?_
  rintro e y10 ⟨yyb9, yyA9, yyn9, yyc9, yyB9, yym9, yyd9, rfl, hq, hb1⟩
  replace S := Lib.hid ((S.out.below hb1).push (stab_ratP _ _ _) hq)
  clear hq hb1
  refine hK.out _ _ ⟨(S.out.at 5 rfl).cell (i := 0) rfl, (S.out.at 5 rfl).cell (i := 1) rfl, (S.out.at 5 rfl).cell (i := 2) rfl, (S.out.at 3 rfl).cell (i := 0) rfl, (S.out.at 3 rfl).cell (i := 1) rfl, (S.out.at 3 rfl).cell (i := 2) rfl, (S.out.at 1 rfl).cell (i := 0) rfl, (S.out.at 1 rfl).cell (i := 1) rfl, (S.out.at 1 rfl).cell (i := 2) rfl⟩ (fun hHeld => ?_)
  clear hK K
  refine wpAnyH_ready (rs := [31]) (by kernel_rfl) (by simp) ?_
  refine AllReadyH.cons rfl (fun K hK => ?_) AllReadyH.nil
  go_simp
  refine (mul_any (S.out.fact 11 rfl) (S.out.fact 9 rfl) (by omega) (by omega)).mono ?_
  rintro e y11 ⟨yyb10, yyA10, yyn10, yyc10, yyB10, yym10, yyd10, rfl, hq, hb1⟩
  replace S := Lib.hid ((S.out.below hb1).push (stab_ratP _ _ _) hq)
  clear hq hb1
  refine hK.out _ _ ⟨(S.out.at 5 rfl).cell (i := 0) rfl, (S.out.at 5 rfl).cell (i := 1) rfl, (S.out.at 5 rfl).cell (i := 2) rfl, (S.out.at 3 rfl).cell (i := 0) rfl, (S.out.at 3 rfl).cell (i := 1) rfl, (S.out.at 3 rfl).cell (i := 2) rfl, (S.out.at 1 rfl).cell (i := 0) rfl, (S.out.at 1 rfl).cell (i := 1) rfl, (S.out.at 1 rfl).cell (i := 2) rfl⟩ (fun hHeld => ?_)
  clear hK K
  refine wpAnyH_ready (rs := [32]) (by kernel_rfl) (by simp) ?_
  refine AllReadyH.cons rfl (fun K hK => ?_) AllReadyH.nil
  go_simp
  refine (mul_any (S.out.fact 14 rfl) (S.out.fact 0 rfl) (by omega) (by omega)).mono ?_
  rintro e y12 ⟨yyb11, yyA11, yyn11, yyc11, yyB11, yym11, yyd11, rfl, hq, hb1⟩
  replace S := Lib.hid ((S.out.below hb1).push (stab_ratP _ _ _) hq)
  clear hq hb1
  refine hK.out _ _ ⟨(S.out.at 5 rfl).cell (i := 0) rfl, (S.out.at 5 rfl).cell (i := 1) rfl, (S.out.at 5 rfl).cell (i := 2) rfl, (S.out.at 3 rfl).cell (i := 0) rfl, (S.out.at 3 rfl).cell (i := 1) rfl, (S.out.at 3 rfl).cell (i := 2) rfl, (S.out.at 1 rfl).cell (i := 0) rfl, (S.out.at 1 rfl).cell (i := 1) rfl, (S.out.at 1 rfl).cell (i := 2) rfl⟩ (fun hHeld => ?_)
  clear hK K
  refine wpAnyH_ready (rs := [33]) (by kernel_rfl) (by simp) ?_
  refine AllReadyH.cons rfl (fun K hK => ?_) AllReadyH.nil
  go_simp
  refine (same_any (HV.out.tab.below S.out.low) (S.out.fact 2 rfl) (S.out.fact 0 rfl) (Rat.mul_assoc _ _ _) (by omega) (by omega)).mono ?_
  rintro e y13 ⟨rfl, hb1⟩
  replace S := Lib.hid (S.out.below hb1)
  clear hb1
  refine hK.out _ _ ⟨(S.out.at 5 rfl).cell (i := 0) rfl, (S.out.at 5 rfl).cell (i := 1) rfl, (S.out.at 5 rfl).cell (i := 2) rfl, (S.out.at 3 rfl).cell (i := 0) rfl, (S.out.at 3 rfl).cell (i := 1) rfl, (S.out.at 3 rfl).cell (i := 2) rfl, (S.out.at 1 rfl).cell (i := 0) rfl, (S.out.at 1 rfl).cell (i := 1) rfl, (S.out.at 1 rfl).cell (i := 2) rfl⟩ (fun hHeld => ?_)
  clear hK K
  refine wpAnyH_takeD 34 (v := ?_) rfl rfl (by kernel_rfl) (by kernel_rfl) (by kernel_rfl) (fun _ _ _ h => h) (Or.inl ⟨by rfl, ?_⟩) hHeld ?_
  rotate_left
  focus (intro w hSw; (try dsimp only at hSw); go_simp; try with_reducible rfl)
  simp only [List.setIfInBounds_toArray, List.set_cons_zero, List.set_cons_succ]
  refine wpAnyH_takeD 35 (v := ?_) rfl rfl (by kernel_rfl) (by kernel_rfl) (by kernel_rfl) (fun _ _ _ h => h) (Or.inl ⟨by rfl, ?_⟩) hHeld ?_
  rotate_left
  focus (intro w hSw; (try dsimp only at hSw); go_simp; try with_reducible rfl)
  simp only [List.setIfInBounds_toArray, List.set_cons_zero, List.set_cons_succ]
  refine wpAnyH_takeD 36 (v := ?_) rfl rfl (by kernel_rfl) (by kernel_rfl) (by kernel_rfl) (fun _ _ _ h => h) (Or.inl ⟨by rfl, ?_⟩) hHeld ?_
  rotate_left
  focus (intro w hSw; (try dsimp only at hSw); go_simp; try with_reducible rfl)
  simp only [List.setIfInBounds_toArray, List.set_cons_zero, List.set_cons_succ]
  refine wpAnyH_takeD 37 (v := ?_) rfl rfl (by kernel_rfl) (by kernel_rfl) (by kernel_rfl) (fun _ _ _ h => h) (Or.inl ⟨by rfl, ?_⟩) hHeld ?_
  rotate_left
  focus (intro w hSw; (try dsimp only at hSw); go_simp; try with_reducible rfl)
  simp only [List.setIfInBounds_toArray, List.set_cons_zero, List.set_cons_succ]
  refine wpAnyH_takeD 38 (v := ?_) rfl rfl (by kernel_rfl) (by kernel_rfl) (by kernel_rfl) (fun _ _ _ h => h) (Or.inl ⟨by rfl, ?_⟩) hHeld ?_
  rotate_left
  focus (intro w hSw; (try dsimp only at hSw); go_simp; try with_reducible rfl)
  simp only [List.setIfInBounds_toArray, List.set_cons_zero, List.set_cons_succ]
  refine wpAnyH_takeD 39 (v := ?_) rfl rfl (by kernel_rfl) (by kernel_rfl) (by kernel_rfl) (fun _ _ _ h => h) (Or.inl ⟨by rfl, ?_⟩) hHeld ?_
  rotate_left
  focus (intro w hSw; (try dsimp only at hSw); go_simp; try with_reducible rfl)
  simp only [List.setIfInBounds_toArray, List.set_cons_zero, List.set_cons_succ]
  refine wpAnyH_takeD 42 (v := ?_) rfl rfl (by kernel_rfl) (by kernel_rfl) (by kernel_rfl) (fun _ _ _ h => h) (Or.inl ⟨by rfl, ?_⟩) hHeld ?_
  rotate_left
  focus (intro w hSw; (try dsimp only at hSw); go_simp; try with_reducible rfl)
  simp only [List.setIfInBounds_toArray, List.set_cons_zero, List.set_cons_succ]
  refine wpAnyH_takeD 43 (v := ?_) rfl rfl (by kernel_rfl) (by kernel_rfl) (by kernel_rfl) (fun _ _ _ h => h) (Or.inl ⟨by rfl, ?_⟩) hHeld ?_
  rotate_left
  focus (intro w hSw; (try dsimp only at hSw); go_simp; try with_reducible rfl)
  simp only [List.setIfInBounds_toArray, List.set_cons_zero, List.set_cons_succ]
  refine wpAnyH_takeD 45 (v := ?_) rfl rfl (by kernel_rfl) (by kernel_rfl) (by kernel_rfl) (fun _ _ _ h => h) (Or.inl ⟨by rfl, ?_⟩) hHeld ?_
  rotate_left
  focus (intro w hSw; (try dsimp only at hSw); go_simp; try with_reducible rfl)
  simp only [List.setIfInBounds_toArray, List.set_cons_zero, List.set_cons_succ]
  refine wpAnyH_takeD 46 (v := ?_) rfl rfl (by kernel_rfl) (by kernel_rfl) (by kernel_rfl) (fun _ _ _ h => h) (Or.inl ⟨by rfl, ?_⟩) hHeld ?_
  rotate_left
  focus (intro w hSw; (try dsimp only at hSw); go_simp; try with_reducible rfl)
  simp only [List.setIfInBounds_toArray, List.set_cons_zero, List.set_cons_succ]
  refine wpAnyH_ready (rs := [40]) (by kernel_rfl) (by simp) ?_
  refine AllReadyH.cons rfl (fun K hK => ?_) AllReadyH.nil
  go_simp
  refine (add_any (S.out.fact 13 rfl) (S.out.fact 11 rfl) (by omega) (by omega)).mono ?_
  rintro e y14 ⟨yyb13, yyA13, yyn13, yyc13, yyB13, yym13, yyd13, rfl, hq, hb1⟩
  replace S := Lib.hid ((S.out.below hb1).push (stab_ratP _ _ _) hq)
  clear hq hb1
  refine hK.out _ _ ⟨(S.out.at 5 rfl).cell (i := 0) rfl, (S.out.at 5 rfl).cell (i := 1) rfl, (S.out.at 5 rfl).cell (i := 2) rfl, (S.out.at 3 rfl).cell (i := 0) rfl, (S.out.at 3 rfl).cell (i := 1) rfl, (S.out.at 3 rfl).cell (i := 2) rfl, (S.out.at 1 rfl).cell (i := 0) rfl, (S.out.at 1 rfl).cell (i := 1) rfl, (S.out.at 1 rfl).cell (i := 2) rfl⟩ (fun hHeld => ?_)
  clear hK K
  refine wpAnyH_ready (rs := [41]) (by kernel_rfl) (by simp) ?_
  refine AllReadyH.cons rfl (fun K hK => ?_) AllReadyH.nil
  go_simp
  refine (mul_any (S.out.fact 16 rfl) (S.out.fact 0 rfl) (by omega) (by omega)).mono ?_
  rintro e y15 ⟨yyb14, yyA14, yyn14, yyc14, yyB14, yym14, yyd14, rfl, hq, hb1⟩
  replace S := Lib.hid ((S.out.below hb1).push (stab_ratP _ _ _) hq)
  clear hq hb1
  refine hK.out _ _ ⟨(S.out.at 5 rfl).cell (i := 0) rfl, (S.out.at 5 rfl).cell (i := 1) rfl, (S.out.at 5 rfl).cell (i := 2) rfl, (S.out.at 3 rfl).cell (i := 0) rfl, (S.out.at 3 rfl).cell (i := 1) rfl, (S.out.at 3 rfl).cell (i := 2) rfl, (S.out.at 1 rfl).cell (i := 0) rfl, (S.out.at 1 rfl).cell (i := 1) rfl, (S.out.at 1 rfl).cell (i := 2) rfl⟩ (fun hHeld => ?_)
  clear hK K
  refine wpAnyH_ready (rs := [44]) (by kernel_rfl) (by simp) ?_
  refine AllReadyH.cons rfl (fun K hK => ?_) AllReadyH.nil
  go_simp
  refine (mul_any (S.out.fact 17 rfl) (S.out.fact 15 rfl) (by omega) (by omega)).mono ?_
  rintro e y16 ⟨yyb15, yyA15, yyn15, yyc15, yyB15, yym15, yyd15, rfl, hq, hb1⟩
  replace S := Lib.hid ((S.out.below hb1).push (stab_ratP _ _ _) hq)
  clear hq hb1
  refine hK.out _ _ ⟨(S.out.at 5 rfl).cell (i := 0) rfl, (S.out.at 5 rfl).cell (i := 1) rfl, (S.out.at 5 rfl).cell (i := 2) rfl, (S.out.at 3 rfl).cell (i := 0) rfl, (S.out.at 3 rfl).cell (i := 1) rfl, (S.out.at 3 rfl).cell (i := 2) rfl, (S.out.at 1 rfl).cell (i := 0) rfl, (S.out.at 1 rfl).cell (i := 1) rfl, (S.out.at 1 rfl).cell (i := 2) rfl⟩ (fun hHeld => ?_)
  clear hK K
  refine wpAnyH_ready (rs := [47]) (by kernel_rfl) (by simp) ?_
  refine AllReadyH.cons rfl (fun K hK => ?_) AllReadyH.nil
  go_simp
  refine (mul_any (S.out.fact 18 rfl) (S.out.fact 14 rfl) (by omega) (by omega)).mono ?_
  rintro e y17 ⟨yyb16, yyA16, yyn16, yyc16, yyB16, yym16, yyd16, rfl, hq, hb1⟩
  replace S := Lib.hid ((S.out.below hb1).push (stab_ratP _ _ _) hq)
  clear hq hb1
  refine hK.out _ _ ⟨(S.out.at 5 rfl).cell (i := 0) rfl, (S.out.at 5 rfl).cell (i := 1) rfl, (S.out.at 5 rfl).cell (i := 2) rfl, (S.out.at 3 rfl).cell (i := 0) rfl, (S.out.at 3 rfl).cell (i := 1) rfl, (S.out.at 3 rfl).cell (i := 2) rfl, (S.out.at 1 rfl).cell (i := 0) rfl, (S.out.at 1 rfl).cell (i := 1) rfl, (S.out.at 1 rfl).cell (i := 2) rfl⟩ (fun hHeld => ?_)
  clear hK K
  refine wpAnyH_ready (rs := [48]) (by kernel_rfl) (by simp) ?_
  refine AllReadyH.cons rfl (fun K hK => ?_) AllReadyH.nil
  go_simp
  refine (add_any (S.out.fact 1 rfl) (S.out.fact 0 rfl) (by omega) (by omega)).mono ?_
  rintro e y18 ⟨yyb17, yyA17, yyn17, yyc17, yyB17, yym17, yyd17, rfl, hq, hb1⟩
  replace S := Lib.hid ((S.out.below hb1).push (stab_ratP _ _ _) hq)
  clear hq hb1
  refine hK.out _ _ ⟨(S.out.at 5 rfl).cell (i := 0) rfl, (S.out.at 5 rfl).cell (i := 1) rfl, (S.out.at 5 rfl).cell (i := 2) rfl, (S.out.at 3 rfl).cell (i := 0) rfl, (S.out.at 3 rfl).cell (i := 1) rfl, (S.out.at 3 rfl).cell (i := 2) rfl, (S.out.at 1 rfl).cell (i := 0) rfl, (S.out.at 1 rfl).cell (i := 1) rfl, (S.out.at 1 rfl).cell (i := 2) rfl⟩ (fun hHeld => ?_)
  clear hK K
  refine wpAnyH_ready (rs := [49]) (by kernel_rfl) (by simp) ?_
  refine AllReadyH.cons rfl (fun K hK => ?_) AllReadyH.nil
  go_simp
  refine (same_any (HV.out.tab.below S.out.low) (S.out.fact 3 rfl) (S.out.fact 0 rfl) (Rat.mul_add _ _ _) (by omega) (by omega)).mono ?_
  rintro e y19 ⟨rfl, hb1⟩
  replace S := Lib.hid (S.out.below hb1)
  clear hb1
  refine hK.out _ _ ⟨(S.out.at 5 rfl).cell (i := 0) rfl, (S.out.at 5 rfl).cell (i := 1) rfl, (S.out.at 5 rfl).cell (i := 2) rfl, (S.out.at 3 rfl).cell (i := 0) rfl, (S.out.at 3 rfl).cell (i := 1) rfl, (S.out.at 3 rfl).cell (i := 2) rfl, (S.out.at 1 rfl).cell (i := 0) rfl, (S.out.at 1 rfl).cell (i := 1) rfl, (S.out.at 1 rfl).cell (i := 2) rfl⟩ (fun hHeld => ?_)
  clear hK K
  refine wpAnyH_takeD 50 (v := ?_) rfl rfl (by kernel_rfl) (by kernel_rfl) (by kernel_rfl) (fun _ _ _ h => h) (Or.inl ⟨by rfl, ?_⟩) hHeld ?_
  rotate_left
  focus (intro w hSw; (try dsimp only at hSw); go_simp; try with_reducible rfl)
  simp only [List.setIfInBounds_toArray, List.set_cons_zero, List.set_cons_succ]
  refine wpAnyH_takeD 51 (v := ?_) rfl rfl (by kernel_rfl) (by kernel_rfl) (by kernel_rfl) (fun _ _ _ h => h) (Or.inl ⟨by rfl, ?_⟩) hHeld ?_
  rotate_left
  focus (intro w hSw; (try dsimp only at hSw); go_simp; try with_reducible rfl)
  simp only [List.setIfInBounds_toArray, List.set_cons_zero, List.set_cons_succ]
  refine wpAnyH_takeD 52 (v := ?_) rfl rfl (by kernel_rfl) (by kernel_rfl) (by kernel_rfl) (fun _ _ _ h => h) (Or.inl ⟨by rfl, ?_⟩) hHeld ?_
  rotate_left
  focus (intro w hSw; (try dsimp only at hSw); go_simp; try with_reducible rfl)
  simp only [List.setIfInBounds_toArray, List.set_cons_zero, List.set_cons_succ]
  refine wpAnyH_takeD 53 (v := ?_) rfl rfl (by kernel_rfl) (by kernel_rfl) (by kernel_rfl) (fun _ _ _ h => h) (Or.inl ⟨by rfl, ?_⟩) hHeld ?_
  rotate_left
  focus (intro w hSw; (try dsimp only at hSw); go_simp; try with_reducible rfl)
  simp only [List.setIfInBounds_toArray, List.set_cons_zero, List.set_cons_succ]
  refine wpAnyH_takeD 54 (v := ?_) rfl rfl (by kernel_rfl) (by kernel_rfl) (by kernel_rfl) (fun _ _ _ h => h) (Or.inl ⟨by rfl, ?_⟩) hHeld ?_
  rotate_left
  focus (intro w hSw; (try dsimp only at hSw); go_simp; try with_reducible rfl)
  simp only [List.setIfInBounds_toArray, List.set_cons_zero, List.set_cons_succ]
  refine wpAnyH_ready (rs := [55]) (by kernel_rfl) (by simp) ?_
  refine AllReadyH.cons rfl (fun K hK => ?_) AllReadyH.nil
  go_simp
  refine (neg_any (S.out.fact 20 rfl) (by omega)).mono ?_
  rintro e y20 ⟨yyb19, yyA19, yyn19, yyc19, yyB19, yym19, yyd19, rfl, hq, hb1⟩
  replace S := Lib.hid ((S.out.below hb1).push (stab_ratP _ _ _) hq)
  clear hq hb1
  refine hK.out _ _ ⟨(S.out.at 5 rfl).cell (i := 0) rfl, (S.out.at 5 rfl).cell (i := 1) rfl, (S.out.at 5 rfl).cell (i := 2) rfl, (S.out.at 3 rfl).cell (i := 0) rfl, (S.out.at 3 rfl).cell (i := 1) rfl, (S.out.at 3 rfl).cell (i := 2) rfl, (S.out.at 1 rfl).cell (i := 0) rfl, (S.out.at 1 rfl).cell (i := 1) rfl, (S.out.at 1 rfl).cell (i := 2) rfl⟩ (fun hHeld => ?_)
  clear hK K
  refine wpAnyH_ready (rs := [56]) (by kernel_rfl) (by simp) ?_
  refine AllReadyH.cons rfl (fun K hK => ?_) AllReadyH.nil
  go_simp
  refine (add_any (S.out.fact 21 rfl) (S.out.fact 0 rfl) (by omega) (by omega)).mono ?_
  rintro e y21 ⟨yyb20, yyA20, yyn20, yyc20, yyB20, yym20, yyd20, rfl, hq, hb1⟩
  replace S := Lib.hid ((S.out.below hb1).push (stab_ratP _ _ _) hq)
  clear hq hb1
  refine hK.out _ _ ⟨(S.out.at 5 rfl).cell (i := 0) rfl, (S.out.at 5 rfl).cell (i := 1) rfl, (S.out.at 5 rfl).cell (i := 2) rfl, (S.out.at 3 rfl).cell (i := 0) rfl, (S.out.at 3 rfl).cell (i := 1) rfl, (S.out.at 3 rfl).cell (i := 2) rfl, (S.out.at 1 rfl).cell (i := 0) rfl, (S.out.at 1 rfl).cell (i := 1) rfl, (S.out.at 1 rfl).cell (i := 2) rfl⟩ (fun hHeld => ?_)
  clear hK K
  refine wpAnyH_ready (rs := [57]) (by kernel_rfl) (by simp) ?_
  refine AllReadyH.cons rfl (fun K hK => ?_) AllReadyH.nil
  go_simp
  have hSg := Lib.hid (sign_any (S.out.fact 0 rfl) (by omega))
  rw [Rat.add_neg_cancel] at hSg
  refine (hSg.out).mono ?_
  rintro e y22 ⟨rfl, hb1⟩
  clear hSg
  replace S := Lib.hid (S.out.below hb1)
  clear hb1
  refine hK.out _ _ ⟨(S.out.at 5 rfl).cell (i := 0) rfl, (S.out.at 5 rfl).cell (i := 1) rfl, (S.out.at 5 rfl).cell (i := 2) rfl, (S.out.at 3 rfl).cell (i := 0) rfl, (S.out.at 3 rfl).cell (i := 1) rfl, (S.out.at 3 rfl).cell (i := 2) rfl, (S.out.at 1 rfl).cell (i := 0) rfl, (S.out.at 1 rfl).cell (i := 1) rfl, (S.out.at 1 rfl).cell (i := 2) rfl⟩ (fun hHeld => ?_)
  clear hK K
  refine wpAnyH_takeD 58 (v := ?_) rfl rfl (by kernel_rfl) (by kernel_rfl) (by kernel_rfl) (fun _ _ _ h => h) (Or.inl ⟨by rfl, ?_⟩) hHeld ?_
  rotate_left
  focus (intro w hSw; (try dsimp only at hSw); go_simp; try with_reducible rfl)
  simp only [List.setIfInBounds_toArray, List.set_cons_zero, List.set_cons_succ]
  refine wpAnyH_takeD 59 (v := ?_) rfl rfl (by kernel_rfl) (by kernel_rfl) (by kernel_rfl) (fun _ _ _ h => h) (Or.inl ⟨by rfl, ?_⟩) hHeld ?_
  rotate_left
  focus (intro w hSw; (try dsimp only at hSw); go_simp; try with_reducible rfl)
  simp only [List.setIfInBounds_toArray, List.set_cons_zero, List.set_cons_succ]
  refine wpAnyH_done (by kernel_rfl) ?_ _
  clear hHeld
  go_wp2_with fail
  refine wp_region_held_drew (S := fun W' => W'.cell? ⟨x5, 0, none⟩ = some (.bool p1) ∧ W'.cell? ⟨x5, 1, none⟩ = some (.slice P1 pn1 pc1) ∧ W'.cell? ⟨x5, 2, none⟩ = some (.slice Q1 qn1 qc1) ∧ W'.cell? ⟨x8, 0, none⟩ = some (.bool p2) ∧ W'.cell? ⟨x8, 1, none⟩ = some (.slice P2 pn2 pc2) ∧ W'.cell? ⟨x8, 2, none⟩ = some (.slice Q2 qn2 qc2) ∧ W'.cell? ⟨x11, 0, none⟩ = some (.bool p3) ∧ W'.cell? ⟨x11, 1, none⟩ = some (.slice P3 pn3 pc3) ∧ W'.cell? ⟨x11, 2, none⟩ = some (.slice Q3 qn3 qc3)) (by kernel_rfl) ⟨(S.out.drew.at 5 rfl).cell (i := 0) rfl, (S.out.drew.at 5 rfl).cell (i := 1) rfl, (S.out.drew.at 5 rfl).cell (i := 2) rfl, (S.out.drew.at 3 rfl).cell (i := 0) rfl, (S.out.drew.at 3 rfl).cell (i := 1) rfl, (S.out.drew.at 3 rfl).cell (i := 2) rfl, (S.out.drew.at 1 rfl).cell (i := 0) rfl, (S.out.drew.at 1 rfl).cell (i := 1) rfl, (S.out.drew.at 1 rfl).cell (i := 2) rfl⟩ (fun hHeld => ?_)
  replace S := Lib.hid S.out.drew
  generalize y22.drew = w10 at S hHeld ⊢
  have ho := cmp_low q1 q2
  obtain ⟨o, hov⟩ : ∃ o, cmpQ q1 q2 = o := ⟨_, rfl⟩
  rw [hov] at ho
  have hwo : IntKind.i64.wrap o = o := IntWalk.i64_in _ (by omega)
  have HO := Lib.hid hov
  clear hov
  refine wpAnyH_takeD 0 (v := ?_) rfl rfl (by kernel_rfl) (by kernel_rfl) (by kernel_rfl) (fun _ _ _ h => h) (Or.inl ⟨by rfl, ?_⟩) hHeld ?_
  rotate_left
  focus (intro w hSw; (try dsimp only at hSw); go_simp; try with_reducible rfl)
  simp only [List.setIfInBounds_toArray, List.set_cons_zero, List.set_cons_succ]
  refine wpAnyH_takeD 1 (v := ?_) rfl rfl (by kernel_rfl) (by kernel_rfl) (by kernel_rfl) (fun _ _ _ h => h) (Or.inl ⟨by rfl, ?_⟩) hHeld ?_
  rotate_left
  focus (intro w hSw; (try dsimp only at hSw); go_simp; try with_reducible rfl)
  simp only [List.setIfInBounds_toArray, List.set_cons_zero, List.set_cons_succ]
  refine wpAnyH_takeD 3 (v := ?_) rfl rfl (by kernel_rfl) (by kernel_rfl) (by kernel_rfl) (fun _ _ _ h => h) (Or.inl ⟨by rfl, ?_⟩) hHeld ?_
  rotate_left
  focus (intro w hSw; (try dsimp only at hSw); go_simp; try with_reducible rfl)
  simp only [List.setIfInBounds_toArray, List.set_cons_zero, List.set_cons_succ]
  refine wpAnyH_takeD 4 (v := ?_) rfl rfl (by kernel_rfl) (by kernel_rfl) (by kernel_rfl) (fun _ _ _ h => h) (Or.inl ⟨by rfl, ?_⟩) hHeld ?_
  rotate_left
  focus (intro w hSw; (try dsimp only at hSw); go_simp; try with_reducible rfl)
  simp only [List.setIfInBounds_toArray, List.set_cons_zero, List.set_cons_succ]
  refine wpAnyH_takeD 6 (v := ?_) rfl rfl (by kernel_rfl) (by kernel_rfl) (by kernel_rfl) (fun _ _ _ h => h) (Or.inl ⟨by rfl, ?_⟩) hHeld ?_
  rotate_left
  focus (intro w hSw; (try dsimp only at hSw); go_simp; try with_reducible rfl)
  simp only [List.setIfInBounds_toArray, List.set_cons_zero, List.set_cons_succ]
  refine wpAnyH_takeD 7 (v := ?_) rfl rfl (by kernel_rfl) (by kernel_rfl) (by kernel_rfl) (fun _ _ _ h => h) (Or.inl ⟨by rfl, ?_⟩) hHeld ?_
  rotate_left
  focus (intro w hSw; (try dsimp only at hSw); go_simp; try with_reducible rfl)
  simp only [List.setIfInBounds_toArray, List.set_cons_zero, List.set_cons_succ]
  refine wpAnyH_ready (rs := [2]) (by kernel_rfl) (by simp) ?_
  refine AllReadyH.cons rfl (fun K hK => ?_) AllReadyH.nil
  go_simp
  have hCm := Lib.hid (cmpR_any (S.out.fact 22 rfl) (S.out.fact 20 rfl) (by omega) (by omega))
  rw [HO.out] at hCm
  refine (hCm.out).mono ?_
  rintro e z1 ⟨rfl, hb1⟩
  clear hCm
  replace S := Lib.hid (S.out.below hb1)
  clear hb1
  refine hK.out _ _ ⟨(S.out.at 5 rfl).cell (i := 0) rfl, (S.out.at 5 rfl).cell (i := 1) rfl, (S.out.at 5 rfl).cell (i := 2) rfl, (S.out.at 3 rfl).cell (i := 0) rfl, (S.out.at 3 rfl).cell (i := 1) rfl, (S.out.at 3 rfl).cell (i := 2) rfl, (S.out.at 1 rfl).cell (i := 0) rfl, (S.out.at 1 rfl).cell (i := 1) rfl, (S.out.at 1 rfl).cell (i := 2) rfl⟩ (fun hHeld => ?_)
  clear hK K
  refine wpAnyH_ready (rs := [5]) (by kernel_rfl) (by simp) ?_
  refine AllReadyH.cons rfl (fun K hK => ?_) AllReadyH.nil
  go_simp
  refine (add_any (S.out.fact 22 rfl) (S.out.fact 18 rfl) (by omega) (by omega)).mono ?_
  rintro e z2 ⟨yzb1, yzA1, yzn1, yzc1, yzB1, yzm1, yzd1, rfl, hq, hb1⟩
  replace S := Lib.hid ((S.out.below hb1).push (stab_ratP _ _ _) hq)
  clear hq hb1
  refine hK.out _ _ ⟨(S.out.at 5 rfl).cell (i := 0) rfl, (S.out.at 5 rfl).cell (i := 1) rfl, (S.out.at 5 rfl).cell (i := 2) rfl, (S.out.at 3 rfl).cell (i := 0) rfl, (S.out.at 3 rfl).cell (i := 1) rfl, (S.out.at 3 rfl).cell (i := 2) rfl, (S.out.at 1 rfl).cell (i := 0) rfl, (S.out.at 1 rfl).cell (i := 1) rfl, (S.out.at 1 rfl).cell (i := 2) rfl⟩ (fun hHeld => ?_)
  clear hK K
  refine wpAnyH_ready (rs := [8]) (by kernel_rfl) (by simp) ?_
  refine AllReadyH.cons rfl (fun K hK => ?_) AllReadyH.nil
  go_simp
  refine (add_any (S.out.fact 21 rfl) (S.out.fact 19 rfl) (by omega) (by omega)).mono ?_
  rintro e z3 ⟨yzb2, yzA2, yzn2, yzc2, yzB2, yzm2, yzd2, rfl, hq, hb1⟩
  replace S := Lib.hid ((S.out.below hb1).push (stab_ratP _ _ _) hq)
  clear hq hb1
  refine hK.out _ _ ⟨(S.out.at 5 rfl).cell (i := 0) rfl, (S.out.at 5 rfl).cell (i := 1) rfl, (S.out.at 5 rfl).cell (i := 2) rfl, (S.out.at 3 rfl).cell (i := 0) rfl, (S.out.at 3 rfl).cell (i := 1) rfl, (S.out.at 3 rfl).cell (i := 2) rfl, (S.out.at 1 rfl).cell (i := 0) rfl, (S.out.at 1 rfl).cell (i := 1) rfl, (S.out.at 1 rfl).cell (i := 2) rfl⟩ (fun hHeld => ?_)
  clear hK K
  refine wpAnyH_ready (rs := [9]) (by kernel_rfl) (by simp) ?_
  refine AllReadyH.cons rfl (fun K hK => ?_) AllReadyH.nil
  go_simp
  have hCm := Lib.hid (cmpR_any (S.out.fact 1 rfl) (S.out.fact 0 rfl) (by omega) (by omega))
  rw [cmp_add, HO.out] at hCm
  refine (hCm.out).mono ?_
  rintro e z4 ⟨rfl, hb1⟩
  clear hCm
  replace S := Lib.hid (S.out.below hb1)
  clear hb1
  refine hK.out _ _ ⟨(S.out.at 5 rfl).cell (i := 0) rfl, (S.out.at 5 rfl).cell (i := 1) rfl, (S.out.at 5 rfl).cell (i := 2) rfl, (S.out.at 3 rfl).cell (i := 0) rfl, (S.out.at 3 rfl).cell (i := 1) rfl, (S.out.at 3 rfl).cell (i := 2) rfl, (S.out.at 1 rfl).cell (i := 0) rfl, (S.out.at 1 rfl).cell (i := 1) rfl, (S.out.at 1 rfl).cell (i := 2) rfl⟩ (fun hHeld => ?_)
  clear hK K
  refine wpAnyH_takeD 10 (v := ?_) rfl rfl (by kernel_rfl) (by kernel_rfl) (by kernel_rfl) (fun _ _ _ h => h) (Or.inl ⟨by rfl, ?_⟩) hHeld ?_
  rotate_left
  focus (intro w hSw; (try dsimp only at hSw); go_simp; try with_reducible rfl)
  simp only [List.setIfInBounds_toArray, List.set_cons_zero, List.set_cons_succ]
  refine wpAnyH_takeD 11 (v := ?_) rfl rfl (by kernel_rfl) (by kernel_rfl) (by kernel_rfl) (fun _ _ _ h => h) (Or.inl ⟨by rfl, ?_⟩) hHeld ?_
  rotate_left
  focus (intro w hSw; (try dsimp only at hSw); go_simp; try with_reducible rfl)
  simp only [List.setIfInBounds_toArray, List.set_cons_zero, List.set_cons_succ]
  refine wpAnyH_takeD 12 (v := ?_) rfl rfl (by kernel_rfl) (by kernel_rfl) (by kernel_rfl) (fun _ _ _ h => h) (Or.inl ⟨by rfl, ?_⟩) hHeld ?_
  rotate_left
  focus (intro w hSw; (try dsimp only at hSw); go_simp; try with_reducible rfl)
  simp only [List.setIfInBounds_toArray, List.set_cons_zero, List.set_cons_succ]
  refine wpAnyH_takeD 13 (v := ?_) rfl rfl (by kernel_rfl) (by kernel_rfl) (by kernel_rfl) (fun _ _ _ h => h) (Or.inl ⟨by rfl, ?_⟩) hHeld ?_
  rotate_left
  focus (intro w hSw; (try dsimp only at hSw); go_simp; try with_reducible rfl)
  simp only [List.setIfInBounds_toArray, List.set_cons_zero, List.set_cons_succ]
  refine wpAnyH_takeD 15 (v := ?_) rfl rfl (by kernel_rfl) (by kernel_rfl) (by kernel_rfl) (fun _ _ _ h => h) (Or.inl ⟨by rfl, ?_⟩) hHeld ?_
  rotate_left
  focus (intro w hSw; (try dsimp only at hSw); go_simp; try with_reducible rfl)
  simp only [List.setIfInBounds_toArray, List.set_cons_zero, List.set_cons_succ]
  refine wpAnyH_takeD 16 (v := ?_) rfl rfl (by kernel_rfl) (by kernel_rfl) (by kernel_rfl) (fun _ _ _ h => h) (Or.inl ⟨by rfl, ?_⟩) hHeld ?_
  rotate_left
  focus (intro w hSw; (try dsimp only at hSw); go_simp; try with_reducible rfl)
  simp only [List.setIfInBounds_toArray, List.set_cons_zero, List.set_cons_succ]
  refine wpAnyH_ready (rs := [14]) (by kernel_rfl) (by simp) ?_
  refine AllReadyH.cons rfl (fun K hK => ?_) AllReadyH.nil
  go_simp
  have hCm := Lib.hid (cmpR_any (S.out.fact 24 rfl) (S.out.fact 22 rfl) (by omega) (by omega))
  rw [HO.out] at hCm
  refine (hCm.out).mono ?_
  rintro e z5 ⟨rfl, hb1⟩
  clear hCm
  replace S := Lib.hid (S.out.below hb1)
  clear hb1
  refine hK.out _ _ ⟨(S.out.at 5 rfl).cell (i := 0) rfl, (S.out.at 5 rfl).cell (i := 1) rfl, (S.out.at 5 rfl).cell (i := 2) rfl, (S.out.at 3 rfl).cell (i := 0) rfl, (S.out.at 3 rfl).cell (i := 1) rfl, (S.out.at 3 rfl).cell (i := 2) rfl, (S.out.at 1 rfl).cell (i := 0) rfl, (S.out.at 1 rfl).cell (i := 1) rfl, (S.out.at 1 rfl).cell (i := 2) rfl⟩ (fun hHeld => ?_)
  clear hK K
  refine wpAnyH_ready (rs := [17]) (by kernel_rfl) (by simp) ?_
  refine AllReadyH.cons rfl (fun K hK => ?_) AllReadyH.nil
  go_simp
  have hCm := Lib.hid (cmpR_any (S.out.fact 22 rfl) (S.out.fact 24 rfl) (by omega) (by omega))
  rw [cmp_swap, HO.out] at hCm
  refine (hCm.out).mono ?_
  rintro e z6 ⟨rfl, hb1⟩
  clear hCm
  replace S := Lib.hid (S.out.below hb1)
  clear hb1
  refine hK.out _ _ ⟨(S.out.at 5 rfl).cell (i := 0) rfl, (S.out.at 5 rfl).cell (i := 1) rfl, (S.out.at 5 rfl).cell (i := 2) rfl, (S.out.at 3 rfl).cell (i := 0) rfl, (S.out.at 3 rfl).cell (i := 1) rfl, (S.out.at 3 rfl).cell (i := 2) rfl, (S.out.at 1 rfl).cell (i := 0) rfl, (S.out.at 1 rfl).cell (i := 1) rfl, (S.out.at 1 rfl).cell (i := 2) rfl⟩ (fun hHeld => ?_)
  clear hK K
  refine wpAnyH_takeD 18 (v := ?_) rfl rfl (by kernel_rfl) (by kernel_rfl) (by kernel_rfl) (fun _ _ _ h => h) (Or.inl ⟨by rfl, ?_⟩) hHeld ?_
  rotate_left
  focus (intro w hSw; (try dsimp only at hSw); go_simp; try with_reducible rfl)
  simp only [List.setIfInBounds_toArray, List.set_cons_zero, List.set_cons_succ]
  refine wpAnyH_takeD 19 (v := ?_) rfl rfl (by kernel_rfl) (by kernel_rfl) (by kernel_rfl) (fun _ _ _ h => h) (Or.inl ⟨by rfl, ?_⟩) hHeld ?_
  rotate_left
  focus (intro w hSw; (try dsimp only at hSw); go_simp; try with_reducible rfl)
  simp only [List.setIfInBounds_toArray, List.set_cons_zero, List.set_cons_succ]
  refine wpAnyH_takeD 20 (v := ?_) rfl rfl (by kernel_rfl) (by kernel_rfl) (by kernel_rfl) (fun _ _ _ h => h) (Or.inl ⟨by rfl, ?_⟩) hHeld ?_
  rotate_left
  focus (intro w hSw; (try dsimp only at hSw); go_simp; try with_reducible rfl)
  simp only [List.setIfInBounds_toArray, List.set_cons_zero, List.set_cons_succ]
  refine wpAnyH_takeD 21 (v := ?_) rfl rfl (by kernel_rfl) (by kernel_rfl) (by kernel_rfl) (fun _ _ _ h => h) (Or.inl ⟨by rfl, ?_⟩) hHeld ?_
  rotate_left
  focus (intro w hSw; (try dsimp only at hSw); go_simp; try with_reducible rfl)
  simp only [List.setIfInBounds_toArray, List.set_cons_zero, List.set_cons_succ]
  refine wpAnyH_takeD 22 (v := ?_) rfl rfl (by kernel_rfl) (by kernel_rfl) (by kernel_rfl) (fun _ _ _ h => h) (Or.inl ⟨by rfl, ?_⟩) hHeld ?_
  rotate_left
  focus (intro w hSw; (try dsimp only at hSw); go_simp; try with_reducible rfl)
  simp only [List.setIfInBounds_toArray, List.set_cons_zero, List.set_cons_succ]
  refine wpAnyH_takeD 23 (v := ?_) rfl rfl (by kernel_rfl) (by kernel_rfl) (by kernel_rfl) (fun _ _ _ h => h) (Or.inl ⟨by rfl, ?_⟩) hHeld ?_
  rotate_left
  focus (intro w hSw; (try dsimp only at hSw); go_simp; try with_reducible rfl)
  simp only [List.setIfInBounds_toArray, List.set_cons_zero, List.set_cons_succ]
  refine wpAnyH_takeD 26 (v := ?_) rfl rfl (by kernel_rfl) (by kernel_rfl) (by kernel_rfl) (fun _ _ _ h => h) (Or.inl ⟨by rfl, ?_⟩) hHeld ?_
  rotate_left
  focus (intro w hSw; (try dsimp only at hSw); go_simp; try with_reducible rfl)
  simp only [List.setIfInBounds_toArray, List.set_cons_zero, List.set_cons_succ]
  refine wpAnyH_takeD 28 (v := ?_) rfl rfl (by kernel_rfl) (by kernel_rfl) (by kernel_rfl) (fun _ _ _ h => h) (Or.inl ⟨by rfl, ?_⟩) hHeld ?_
  rotate_left
  focus (intro w hSw; (try dsimp only at hSw); go_simp; try with_reducible rfl)
  simp only [List.setIfInBounds_toArray, List.set_cons_zero, List.set_cons_succ]
  clear ho hwo
  have hs1 := sign_low q1.num
  have hs2 := sign_low q2.num
  obtain ⟨s1, hv1⟩ : ∃ s, q1.num.sign = s := ⟨_, rfl⟩
  obtain ⟨s2, hv2⟩ : ∃ s, q2.num.sign = s := ⟨_, rfl⟩
  rw [hv1] at hs1
  rw [hv2] at hs2
  have hs3 := prod_low hs1 hs2
  have hw3 : IntKind.i64.wrap (s1 * s2) = s1 * s2 := IntWalk.i64_in _ (by omega)
  have HS1 := Lib.hid hv1
  have HS2 := Lib.hid hv2
  clear hv1 hv2
  refine wpAnyH_ready (rs := [24]) (by kernel_rfl) (by simp) ?_
  refine AllReadyH.cons rfl (fun K hK => ?_) AllReadyH.nil
  go_simp
  refine (mul_any (S.out.fact 24 rfl) (S.out.fact 22 rfl) (by omega) (by omega)).mono ?_
  rintro e z7 ⟨yzb6, yzA6, yzn6, yzc6, yzB6, yzm6, yzd6, rfl, hq, hb1⟩
  replace S := Lib.hid ((S.out.below hb1).push (stab_ratP _ _ _) hq)
  clear hq hb1
  refine hK.out _ _ ⟨(S.out.at 5 rfl).cell (i := 0) rfl, (S.out.at 5 rfl).cell (i := 1) rfl, (S.out.at 5 rfl).cell (i := 2) rfl, (S.out.at 3 rfl).cell (i := 0) rfl, (S.out.at 3 rfl).cell (i := 1) rfl, (S.out.at 3 rfl).cell (i := 2) rfl, (S.out.at 1 rfl).cell (i := 0) rfl, (S.out.at 1 rfl).cell (i := 1) rfl, (S.out.at 1 rfl).cell (i := 2) rfl⟩ (fun hHeld => ?_)
  clear hK K
  refine wpAnyH_ready (rs := [25]) (by kernel_rfl) (by simp) ?_
  refine AllReadyH.cons rfl (fun K hK => ?_) AllReadyH.nil
  go_simp
  have hCm := Lib.hid (sign_any (S.out.fact 0 rfl) (by omega))
  rw [sign_mul, HS1.out, HS2.out] at hCm
  refine (hCm.out).mono ?_
  rintro e z8 ⟨rfl, hb1⟩
  clear hCm
  replace S := Lib.hid (S.out.below hb1)
  clear hb1
  refine hK.out _ _ ⟨(S.out.at 5 rfl).cell (i := 0) rfl, (S.out.at 5 rfl).cell (i := 1) rfl, (S.out.at 5 rfl).cell (i := 2) rfl, (S.out.at 3 rfl).cell (i := 0) rfl, (S.out.at 3 rfl).cell (i := 1) rfl, (S.out.at 3 rfl).cell (i := 2) rfl, (S.out.at 1 rfl).cell (i := 0) rfl, (S.out.at 1 rfl).cell (i := 1) rfl, (S.out.at 1 rfl).cell (i := 2) rfl⟩ (fun hHeld => ?_)
  clear hK K
  refine wpAnyH_ready (rs := [27]) (by kernel_rfl) (by simp) ?_
  refine AllReadyH.cons rfl (fun K hK => ?_) AllReadyH.nil
  go_simp
  have hCm := Lib.hid (sign_any (S.out.fact 25 rfl) (by omega))
  rw [HS1.out] at hCm
  refine (hCm.out).mono ?_
  rintro e z9 ⟨rfl, hb1⟩
  clear hCm
  replace S := Lib.hid (S.out.below hb1)
  clear hb1
  refine hK.out _ _ ⟨(S.out.at 5 rfl).cell (i := 0) rfl, (S.out.at 5 rfl).cell (i := 1) rfl, (S.out.at 5 rfl).cell (i := 2) rfl, (S.out.at 3 rfl).cell (i := 0) rfl, (S.out.at 3 rfl).cell (i := 1) rfl, (S.out.at 3 rfl).cell (i := 2) rfl, (S.out.at 1 rfl).cell (i := 0) rfl, (S.out.at 1 rfl).cell (i := 1) rfl, (S.out.at 1 rfl).cell (i := 2) rfl⟩ (fun hHeld => ?_)
  clear hK K
  refine wpAnyH_ready (rs := [29]) (by kernel_rfl) (by simp) ?_
  refine AllReadyH.cons rfl (fun K hK => ?_) AllReadyH.nil
  go_simp
  have hCm := Lib.hid (sign_any (S.out.fact 23 rfl) (by omega))
  rw [HS2.out] at hCm
  refine (hCm.out).mono ?_
  rintro e z10 ⟨rfl, hb1⟩
  clear hCm
  replace S := Lib.hid (S.out.below hb1)
  clear hb1
  refine hK.out _ _ ⟨(S.out.at 5 rfl).cell (i := 0) rfl, (S.out.at 5 rfl).cell (i := 1) rfl, (S.out.at 5 rfl).cell (i := 2) rfl, (S.out.at 3 rfl).cell (i := 0) rfl, (S.out.at 3 rfl).cell (i := 1) rfl, (S.out.at 3 rfl).cell (i := 2) rfl, (S.out.at 1 rfl).cell (i := 0) rfl, (S.out.at 1 rfl).cell (i := 1) rfl, (S.out.at 1 rfl).cell (i := 2) rfl⟩ (fun hHeld => ?_)
  clear hK K
  refine wpAnyH_takeD 30 (v := ?_) rfl rfl (by kernel_rfl) (by kernel_rfl) (by kernel_rfl) (fun _ _ _ h => h) (Or.inl ⟨by rfl, ?_⟩) hHeld ?_
  rotate_left
  focus (intro w hSw; (try dsimp only at hSw); go_simp; try with_reducible rfl)
  simp only [List.setIfInBounds_toArray, List.set_cons_zero, List.set_cons_succ]
  refine wpAnyH_takeD 31 (v := ?_) rfl rfl (by kernel_rfl) (by kernel_rfl) (by kernel_rfl) (fun _ _ _ h => h) (Or.inl ⟨by rfl, ?_⟩) hHeld ?_
  rotate_left
  focus (intro w hSw; (try dsimp only at hSw); go_simp; try with_reducible rfl)
  simp only [List.setIfInBounds_toArray, List.set_cons_zero, List.set_cons_succ]
  refine wpAnyH_takeD 32 (v := ?_) rfl rfl (by kernel_rfl) (by kernel_rfl) (by kernel_rfl) (fun _ _ _ h => h) (Or.inl ⟨by rfl, ?_⟩) hHeld ?_
  rotate_left
  focus (intro w hSw; (try dsimp only at hSw); go_simp; try with_reducible rfl)
  simp only [List.setIfInBounds_toArray, List.set_cons_zero, List.set_cons_succ]
  refine wpAnyH_done (by kernel_rfl) ?_ _
  clear hHeld hs3 hs1 hw3
  have c5x0 := (S.out.at 5 rfl).cell (i := 0) rfl
  have c5x1 := (S.out.at 5 rfl).cell (i := 1) rfl
  have c5x2 := (S.out.at 5 rfl).cell (i := 2) rfl
  have c3x0 := (S.out.at 3 rfl).cell (i := 0) rfl
  have c3x1 := (S.out.at 3 rfl).cell (i := 1) rfl
  have c3x2 := (S.out.at 3 rfl).cell (i := 2) rfl
  go_wp2_with fail
  clear c5x0 c5x1 c5x2 c3x0 c3x1 c3x2
  clear HO HS1
  by_cases h0 : q2.num = 0
  · refine (div_zero (S.out.fact 25 rfl) (S.out.fact 23 rfl) (by omega) h0).mono ?_
    rintro e w11 ⟨rfl, hb⟩
    replace S := Lib.hid (((S.out.below hb).push (stab_ratP _ _ _) (ratP_zero _)).alloc [.bool false, .slice none 0 0, .slice none 0 0] 30 (by decide) noint3)
    clear hb
    have c4x0 := (S.out.at 4 rfl).cell (i := 0) rfl
    have c4x1 := (S.out.at 4 rfl).cell (i := 1) rfl
    have c4x2 := (S.out.at 4 rfl).cell (i := 2) rfl
    go_wp2_with fail
    clear c4x0 c4x1 c4x2
    generalize hx14 : w11.heap.size = x14 at S ⊢
    generalize World.alloc w11 _ = w12 at S ⊢
    clear hx14
    have hSg := Lib.hid (sign_any (w := w12) (S.out.fact 24 rfl) (by omega))
    rw [h0] at hSg
    refine hSg.out.mono ?_
    rintro e w13 ⟨rfl, hb⟩
    replace S := Lib.hid (S.out.below hb)
    clear hb hSg h0
    go_wp2_with fail
    go_ret
    exact ⟨rfl, S.out.low⟩
  · refine (div_any (S.out.fact 25 rfl) (S.out.fact 23 rfl) (by omega) (by omega) h0).mono ?_
    rintro e w11 ⟨kb1, kA1, kn1, kc1, kB1, km1, kd1, rfl, hq, hb⟩
    replace S := Lib.hid (((S.out.below hb).push (stab_ratP _ _ _) hq).alloc [.bool kb1, .slice kA1 kn1 kc1, .slice kB1 km1 kd1] 30 (by decide) noint3)
    generalize hx14 : w11.heap.size = x14 at S
    obtain ⟨w12, hw12⟩ : ∃ w12, w11.alloc (.cells #[.bool kb1, .slice kA1 kn1 kc1, .slice kB1 km1 kd1] 30) = w12 := ⟨_, rfl⟩
    rw [hw12] at S
    clear hb hq
    have c4x0 := (S.out.at 4 rfl).cell (i := 0) rfl
    have c4x1 := (S.out.at 4 rfl).cell (i := 1) rfl
    have c4x2 := (S.out.at 4 rfl).cell (i := 2) rfl
    go_wp2_with fail
    clear c4x0 c4x1 c4x2 hw12 hx14
    have hsn : (s2 == 0) = false := by
      rw [← HS2.out]
      refine beq_eq_false_iff_ne.2 (fun h => h0 (Int.sign_eq_zero_iff_zero.1 h))
    have hSg := Lib.hid (sign_any (w := w12) (S.out.fact 24 rfl) (by omega))
    rw [HS2.out] at hSg
    refine hSg.out.mono ?_
    rintro e w13 ⟨rfl, hb⟩
    replace S := Lib.hid (S.out.below hb)
    have HD := Lib.hid (Rat.div_mul_cancel (a := q1) (b := q2) (fun h => h0 (by rw [h]; rfl)))
    clear hb hSg h0 hs2
    go_wp2_with fail
    clear hsn
    refine wp_region_held_drew (S := fun W' => W'.cell? ⟨x14, 0, none⟩ = some (.bool kb1) ∧ W'.cell? ⟨x14, 1, none⟩ = some (.slice kA1 kn1 kc1) ∧ W'.cell? ⟨x14, 2, none⟩ = some (.slice kB1 km1 kd1) ∧ W'.cell? ⟨x8, 0, none⟩ = some (.bool p2) ∧ W'.cell? ⟨x8, 1, none⟩ = some (.slice P2 pn2 pc2) ∧ W'.cell? ⟨x8, 2, none⟩ = some (.slice Q2 qn2 qc2) ∧ W'.cell? ⟨x5, 0, none⟩ = some (.bool p1) ∧ W'.cell? ⟨x5, 1, none⟩ = some (.slice P1 pn1 pc1) ∧ W'.cell? ⟨x5, 2, none⟩ = some (.slice Q1 qn1 qc1)) (by kernel_rfl) ⟨(S.out.drew.at 0 rfl).cell (i := 0) rfl, (S.out.drew.at 0 rfl).cell (i := 1) rfl, (S.out.drew.at 0 rfl).cell (i := 2) rfl, (S.out.drew.at 4 rfl).cell (i := 0) rfl, (S.out.drew.at 4 rfl).cell (i := 1) rfl, (S.out.drew.at 4 rfl).cell (i := 2) rfl, (S.out.drew.at 6 rfl).cell (i := 0) rfl, (S.out.drew.at 6 rfl).cell (i := 1) rfl, (S.out.drew.at 6 rfl).cell (i := 2) rfl⟩ (fun hHeld => ?_)
    replace S := Lib.hid S.out.drew
    generalize w13.drew = w14 at S hHeld ⊢
    refine wpAnyH_takeD 0 (v := ?_) rfl rfl (by kernel_rfl) (by kernel_rfl) (by kernel_rfl) (fun _ _ _ h => h) (Or.inl ⟨by rfl, ?_⟩) hHeld ?_
    rotate_left
    focus (intro w hSw; (try dsimp only at hSw); go_simp; try with_reducible rfl)
    simp only [List.setIfInBounds_toArray, List.set_cons_zero, List.set_cons_succ]
    refine wpAnyH_takeD 1 (v := ?_) rfl rfl (by kernel_rfl) (by kernel_rfl) (by kernel_rfl) (fun _ _ _ h => h) (Or.inl ⟨by rfl, ?_⟩) hHeld ?_
    rotate_left
    focus (intro w hSw; (try dsimp only at hSw); go_simp; try with_reducible rfl)
    simp only [List.setIfInBounds_toArray, List.set_cons_zero, List.set_cons_succ]
    refine wpAnyH_takeD 2 (v := ?_) rfl rfl (by kernel_rfl) (by kernel_rfl) (by kernel_rfl) (fun _ _ _ h => h) (Or.inl ⟨by rfl, ?_⟩) hHeld ?_
    rotate_left
    focus (intro w hSw; (try dsimp only at hSw); go_simp; try with_reducible rfl)
    simp only [List.setIfInBounds_toArray, List.set_cons_zero, List.set_cons_succ]
    refine wpAnyH_takeD 3 (v := ?_) rfl rfl (by kernel_rfl) (by kernel_rfl) (by kernel_rfl) (fun _ _ _ h => h) (Or.inl ⟨by rfl, ?_⟩) hHeld ?_
    rotate_left
    focus (intro w hSw; (try dsimp only at hSw); go_simp; try with_reducible rfl)
    simp only [List.setIfInBounds_toArray, List.set_cons_zero, List.set_cons_succ]
    refine wpAnyH_takeD 4 (v := ?_) rfl rfl (by kernel_rfl) (by kernel_rfl) (by kernel_rfl) (fun _ _ _ h => h) (Or.inl ⟨by rfl, ?_⟩) hHeld ?_
    rotate_left
    focus (intro w hSw; (try dsimp only at hSw); go_simp; try with_reducible rfl)
    simp only [List.setIfInBounds_toArray, List.set_cons_zero, List.set_cons_succ]
    refine wpAnyH_takeD 6 (v := ?_) rfl rfl (by kernel_rfl) (by kernel_rfl) (by kernel_rfl) (fun _ _ _ h => h) (Or.inl ⟨by rfl, ?_⟩) hHeld ?_
    rotate_left
    focus (intro w hSw; (try dsimp only at hSw); go_simp; try with_reducible rfl)
    simp only [List.setIfInBounds_toArray, List.set_cons_zero, List.set_cons_succ]
    refine wpAnyH_ready (rs := [5]) (by kernel_rfl) (by simp) ?_
    refine AllReadyH.cons rfl (fun K hK => ?_) AllReadyH.nil
    go_simp
    refine (mul_any (S.out.fact 0 rfl) (S.out.fact 24 rfl) (by omega) (by omega)).mono ?_
    rintro e v1 ⟨yvb0, yvA0, yvn0, yvc0, yvB0, yvm0, yvd0, rfl, hq, hb1⟩
    replace S := Lib.hid ((S.out.below hb1).push (stab_ratP _ _ _) hq)
    clear hq hb1
    refine hK.out _ _ ⟨(S.out.at 0 rfl).cell (i := 0) rfl, (S.out.at 0 rfl).cell (i := 1) rfl, (S.out.at 0 rfl).cell (i := 2) rfl, (S.out.at 4 rfl).cell (i := 0) rfl, (S.out.at 4 rfl).cell (i := 1) rfl, (S.out.at 4 rfl).cell (i := 2) rfl, (S.out.at 6 rfl).cell (i := 0) rfl, (S.out.at 6 rfl).cell (i := 1) rfl, (S.out.at 6 rfl).cell (i := 2) rfl⟩ (fun hHeld => ?_)
    clear hK K
    refine wpAnyH_ready (rs := [7]) (by kernel_rfl) (by simp) ?_
    refine AllReadyH.cons rfl (fun K hK => ?_) AllReadyH.nil
    go_simp
    refine (same_any (HV.out.tab.below S.out.low) (S.out.fact 0 rfl) (S.out.fact 27 rfl) (HD.out) (by omega) (by omega)).mono ?_
    rintro e v2 ⟨rfl, hb1⟩
    replace S := Lib.hid (S.out.below hb1)
    clear hb1
    refine hK.out _ _ ⟨(S.out.at 0 rfl).cell (i := 0) rfl, (S.out.at 0 rfl).cell (i := 1) rfl, (S.out.at 0 rfl).cell (i := 2) rfl, (S.out.at 4 rfl).cell (i := 0) rfl, (S.out.at 4 rfl).cell (i := 1) rfl, (S.out.at 4 rfl).cell (i := 2) rfl, (S.out.at 6 rfl).cell (i := 0) rfl, (S.out.at 6 rfl).cell (i := 1) rfl, (S.out.at 6 rfl).cell (i := 2) rfl⟩ (fun hHeld => ?_)
    clear hK K
    refine wpAnyH_takeD 8 (v := ?_) rfl rfl (by kernel_rfl) (by kernel_rfl) (by kernel_rfl) (fun _ _ _ h => h) (Or.inl ⟨by rfl, ?_⟩) hHeld ?_
    rotate_left
    focus (intro w hSw; (try dsimp only at hSw); go_simp; try with_reducible rfl)
    simp only [List.setIfInBounds_toArray, List.set_cons_zero, List.set_cons_succ]
    refine wpAnyH_takeD 9 (v := ?_) rfl rfl (by kernel_rfl) (by kernel_rfl) (by kernel_rfl) (fun _ _ _ h => h) (Or.inl ⟨by rfl, ?_⟩) hHeld ?_
    rotate_left
    focus (intro w hSw; (try dsimp only at hSw); go_simp; try with_reducible rfl)
    simp only [List.setIfInBounds_toArray, List.set_cons_zero, List.set_cons_succ]
    refine wpAnyH_done (by kernel_rfl) ?_ _
    go_wp2_with fail
    go_ret
    exact ⟨rfl, S.out.low⟩
theorem lawField {w : World} {b1 : Bool} {A1 B1 : Option Addr} {n1 c1 m1 e1 : Nat} {ds1 es1 : List Nat} {b2 : Bool} {A2 B2 : Option Addr} {n2 c2 m2 e2 : Nat} {ds2 es2 : List Nat} {b3 : Bool} {A3 B3 : Option Addr} {n3 c3 m3 e3 : Nat} {ds3 es3 : List Nat} (hV : Vars w) (h1 : ArgN w A1 n1 c1 B1 m1 e1 ds1 es1) (h2 : ArgN w A2 n2 c2 B2 m2 e2 ds2 es2) (h3 : ArgN w A3 n3 c3 B3 m3 e3 ds3 es3) : Calls Tryz.prog 8 #[.agg #[.bool b1, .slice A1 n1 c1, .slice B1 m1 e1], .agg #[.bool b2, .slice A2 n2 c2, .slice B2 m2 e2], .agg #[.bool b3, .slice A3 n3 c3, .slice B3 m3 e3]] w fun e w' => e = .returned (.bool true) ∧ Below w.heap.size w w' := by
  by_cases hy : ((n1 ≤ 8 ∧ m1 ≤ 8) ∧ (n2 ≤ 8 ∧ m2 ≤ 8) ∧ n3 ≤ 8 ∧ m3 ≤ 8)
  · exact lawField_small hV h1 h2 h3 hy
  · exact lawField_large hV h1 h2 h3 hy
end Go.Proofs.YtbmdbhafanojcaaGreatDoor
