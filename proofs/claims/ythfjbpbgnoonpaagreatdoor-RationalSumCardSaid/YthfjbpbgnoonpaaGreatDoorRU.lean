/- The walk of the law RationalOf. -/
import Derived.Test.YthfjbpbgnoonpaaGreatDoorRT
import Derived.Test.YthfjbpbgnoonpaaGreatDoorRQ
namespace Go.Proofs.YthfjbpbgnoonpaaGreatDoor
open Go.RowKit

theorem ratP_zero (W : World) : RatP W (.agg #[.bool false, .slice none 0 0, .slice none 0 0]) 0 1 :=
  ⟨none, 0, 0, none, 0, 0, 0, rfl, ⟨isNat_zero W, by simp⟩, ⟨isNat_zero W, by simp⟩, .inr ⟨rfl, rfl⟩, by simp⟩
theorem u64_any (den : Int) (h3 : -9223372036854775808 ≤ den) (h4 : den ≤ 9223372036854775807) : ∃ k : Nat, IntKind.u64.wrap den = (k : Int) ∧ k < 18446744073709551616 := by
  have h : 0 ≤ IntKind.u64.wrap den ∧ IntKind.u64.wrap den < 18446744073709551616 := by
    unfold IntKind.wrap
    simp [IntKind.signed, IntKind.bits]
    omega
  exact ⟨(IntKind.u64.wrap den).toNat, by omega, by omega⟩
set_option maxRecDepth 100000 in
set_option maxHeartbeats 8000000 in
theorem lawOf_zero {w : World} (num : Int) (hV : Vars w) (h1 : -9223372036854775808 ≤ num) (h2 : num ≤ 9223372036854775807) : Calls Tryz.prog 5 #[.int .i64 num, .int .i64 0] w fun e w' => e = .returned (.bool true) ∧ Below w.heap.size w w' := by
  have hAw := awake_any hV
  have hOf := Lib.hid (fun W : World => of_raw (w := W) num 0 h1 h2 (by omega) (by omega))
  simp only [if_pos] at hOf
  have hNO := Lib.hid (fun W : World => ofN (W := W) 0 (k := 0) rfl (by omega))
  have hMk := Lib.hid (fun W (b : Bool) A n c A2 n2 c2 (h : NatB W (.agg #[.slice A2 n2 c2]) 0 2) => make_zero (b := b) (A := A) (n := n) (c := c) h (by omega))
  have hI := Lib.hid (fun W : World => int_any (w := W) num h1 h2)
  have hRI := Lib.hid (fun W : World => refInt_any (w := W) num h1 h2)
  have hIs := Lib.hid (fun W u v (hw : Below w.heap.size w W) (hu : RatP W u (mkRat num 1) 2) (hv : RatF W v (mkRat num 1) 2) => is_any (hV.tab.below hw) hu hv (by omega) (by omega))
  have hSg := Lib.hid (fun W : World => sign_any (ratP_zero W) (by omega))
  rw [show (0 : Rat).num.sign = 0 from rfl] at hSg
  generalize mkRat num 1 = q at hI hRI hIs
  have S := Lib.hid (Sr.start w)
  clear hV
  go_enter Tryz.func5, Tryz.ntmps5
  go_wp2_with fail
  refine hAw.mono ?_
  rintro e w1 ⟨rfl, hb⟩
  replace S := Lib.hid (S.out.below hb)
  clear hb hAw
  go_wp2_with fail
  refine (hOf.out _).mono ?_
  rintro e w2 ⟨rfl, hb⟩
  replace S := Lib.hid ((S.out.below hb).alloc [.bool false, .slice none 0 0, .slice none 0 0] 30 (by decide) noint3)
  clear hb hOf
  go_wp2_with fail
  generalize hx5 : w2.heap.size = x5 at S ⊢
  generalize World.alloc w2 _ = w3 at S ⊢
  clear hx5
  refine (hNO.out _).mono ?_
  rintro e w4 ⟨A4, n4, c4, rfl, hx, hb⟩
  replace S := Lib.hid (S.out.below hb)
  clear hb hx
  go_wp2_with fail
  refine (hNO.out _).mono ?_
  rintro e w5 ⟨A5, n5, c5, rfl, hx, hb⟩
  replace S := Lib.hid (S.out.below hb)
  clear hb
  go_wp2_with fail
  refine (hMk.out _ _ _ _ _ _ _ _ hx).mono ?_
  rintro e w6 ⟨rfl, hb⟩
  replace S := Lib.hid ((S.out.below hb).alloc [.bool false, .slice none 0 0, .slice none 0 0] 30 (by decide) noint3)
  clear hb hx hMk hNO
  go_wp2_with fail
  generalize hx7 : w6.heap.size = x7 at S ⊢
  generalize World.alloc w6 _ = w7 at S ⊢
  clear hx7
  refine (hI.out _).mono ?_
  rintro e w8 ⟨b8, A8, n8, c8, B8, m8, d8, rfl, hq, hb⟩
  replace S := Lib.hid ((S.out.below hb).push (stab_ratP _ _ _) hq)
  clear hb hq hI
  go_wp2_with fail
  refine (hRI.out _).mono ?_
  rintro e w9 ⟨b9, A9, n9, c9, B9, m9, d9, rfl, hq, hb⟩
  replace S := Lib.hid (S.out.below hb)
  clear hb hRI
  go_wp2_with fail
  refine (hIs.out _ _ _ S.out.low (S.out.fact 0 rfl) hq).mono ?_
  rintro e w10 ⟨rfl, hb⟩
  replace S := Lib.hid (S.out.below hb)
  clear hb hq hIs
  have c1x0 := (S.out.at 1 rfl).cell (i := 0) rfl
  have c1x1 := (S.out.at 1 rfl).cell (i := 1) rfl
  have c1x2 := (S.out.at 1 rfl).cell (i := 2) rfl
  go_wp2_with fail
  refine (hSg.out _).mono ?_
  rintro e w11 ⟨rfl, hb⟩
  replace S := Lib.hid (S.out.below hb)
  go_wp2_with fail
  go_ret
  exact ⟨rfl, S.out.low⟩
set_option maxRecDepth 100000 in
set_option maxHeartbeats 8000000 in
theorem lawOf_more {w : World} (num den : Int) (hV : Vars w) (h1 : -9223372036854775808 ≤ num) (h2 : num ≤ 9223372036854775807) (h3 : -9223372036854775808 ≤ den) (h4 : den ≤ 9223372036854775807) (h0 : den ≠ 0) : Calls Tryz.prog 5 #[.int .i64 num, .int .i64 den] w fun e w' => e = .returned (.bool true) ∧ Below w.heap.size w w' := by
  have hAw := awake_any hV
  have hOf := Lib.hid (fun W : World => of_raw (w := W) num den h1 h2 h3 h4)
  simp only [if_neg h0] at hOf
  have hRO := Lib.hid (fun W : World => refOfQ_any (w := W) num den h1 h2 h3 h4 h0)
  have hNO := Lib.hid (fun W : World => ofN (W := W) 0 (k := 0) rfl (by omega))
  obtain ⟨k, hk, hk2⟩ := u64_any den h3 h4
  have hND := Lib.hid (fun (W : World) => ofN (W := W) (IntKind.u64.wrap den) hk hk2)
  have hNP := Lib.hid (fun (W : World) (hp : 0 ≤ den) => ofN (W := W) den (k := den.toNat) (by omega) (by omega))
  have hMk := Lib.hid (fun W (b : Bool) A n c A2 n2 c2 (h : NatB W (.agg #[.slice A2 n2 c2]) 0 2) => make_zero (b := b) (A := A) (n := n) (c := c) h (by omega))
  have hI := Lib.hid (fun W : World => int_any (w := W) num h1 h2)
  have hRI := Lib.hid (fun W : World => refInt_any (w := W) num h1 h2)
  have hIs := Lib.hid (fun W u v q (hw : Below w.heap.size w W) (hu : RatP W u q 2) (hv : RatF W v q 2) => is_any (hV.tab.below hw) hu hv (by omega) (by omega))
  generalize mkRat (sg (decide (num < 0) != decide (den < 0)) num.natAbs) den.natAbs = q2 at hOf hRO
  generalize mkRat num 1 = q at hI hRI
  have hd0 : (den == 0) = false := by simpa using h0
  have S := Lib.hid (Sr.start w)
  clear hV hk hk2 h0
  go_enter Tryz.func5, Tryz.ntmps5
  go_wp2_with fail
  refine hAw.mono ?_
  rintro e w1 ⟨rfl, hb⟩
  replace S := Lib.hid (S.out.below hb)
  clear hb hAw
  go_wp2_with fail
  refine (hOf.out _).mono ?_
  rintro e w2 ⟨b2, A2, n2, c2, B2, m2, d2, rfl, hq, hb⟩
  replace S := Lib.hid (((S.out.below hb).push (stab_ratP _ _ _) hq).alloc [.bool b2, .slice A2 n2 c2, .slice B2 m2 d2] 30 (by decide) noint3)
  generalize hx5 : w2.heap.size = x5 at S
  obtain ⟨w3, hw3⟩ : ∃ w3, w2.alloc (.cells #[.bool b2, .slice A2 n2 c2, .slice B2 m2 d2] 30) = w3 := ⟨_, rfl⟩
  rw [hw3] at S
  clear hb hq
  clear hOf
  by_cases hp : 0 ≤ den
  · go_wp2_with fail
    clear hw3 hx5
    refine (hNP.out _ hp).mono ?_
    rintro e w4 ⟨A4, n4, c4, rfl, hx, hb⟩
    replace S := Lib.hid (S.out.below hb)
    clear hb hx hND hNP
    go_wp2_with fail
    refine (hNO.out _).mono ?_
    rintro e w5 ⟨A5, n5, c5, rfl, hx, hb⟩
    replace S := Lib.hid (S.out.below hb)
    clear hb
    go_wp2_with fail
    refine (hMk.out _ _ _ _ _ _ _ _ hx).mono ?_
    rintro e w6 ⟨rfl, hb⟩
    replace S := Lib.hid ((S.out.below hb).alloc [.bool false, .slice none 0 0, .slice none 0 0] 30 (by decide) noint3)
    clear hb hx hMk hNO
    go_wp2_with fail
    generalize hx7 : w6.heap.size = x7 at S ⊢
    generalize World.alloc w6 _ = w7 at S ⊢
    clear hx7
    refine (hI.out _).mono ?_
    rintro e w8 ⟨b8, A8, n8, c8, B8, m8, d8, rfl, hq, hb⟩
    replace S := Lib.hid ((S.out.below hb).push (stab_ratP _ _ _) hq)
    clear hb hq hI
    go_wp2_with fail
    refine (hRI.out _).mono ?_
    rintro e w9 ⟨b9, A9, n9, c9, B9, m9, d9, rfl, hq, hb⟩
    replace S := Lib.hid (S.out.below hb)
    clear hb hRI
    go_wp2_with fail
    refine (hIs.out _ _ _ _ S.out.low (S.out.fact 0 rfl) hq).mono ?_
    rintro e w10 ⟨rfl, hb⟩
    replace S := Lib.hid (S.out.below hb)
    clear hb hq
    go_wp2_with fail
    refine wp_region_held_drew (S := fun W' => W'.cell? ⟨x5, 0, none⟩ = some (.bool b2) ∧ W'.cell? ⟨x5, 1, none⟩ = some (.slice A2 n2 c2) ∧ W'.cell? ⟨x5, 2, none⟩ = some (.slice B2 m2 d2)) (by kernel_rfl) ⟨(S.out.drew.at 1 rfl).cell (i := 0) rfl, (S.out.drew.at 1 rfl).cell (i := 1) rfl, (S.out.drew.at 1 rfl).cell (i := 2) rfl⟩ (fun hHeld => ?_)
    replace S := Lib.hid S.out.drew
    generalize w10.drew = w11 at S hHeld ⊢
    refine wpAnyH_takeD 0 (v := ?_) rfl rfl (by kernel_rfl) (by kernel_rfl) (by kernel_rfl) (fun _ _ _ h => h) (Or.inl ⟨by rfl, ?_⟩) hHeld ?_
    rotate_left
    focus (intro w hSw; (try dsimp only at hSw); go_simp; try with_reducible rfl)
    simp only [List.setIfInBounds_toArray, List.set_cons_zero, List.set_cons_succ]
    refine wpAnyH_takeD 1 (v := ?_) rfl rfl (by kernel_rfl) (by kernel_rfl) (by kernel_rfl) (fun _ _ _ h => h) (Or.inl ⟨by rfl, ?_⟩) hHeld ?_
    rotate_left
    focus (intro w hSw; (try dsimp only at hSw); go_simp; try with_reducible rfl)
    simp only [List.setIfInBounds_toArray, List.set_cons_zero, List.set_cons_succ]
    refine wpAnyH_takeD 2 (v := ?_) rfl rfl (by kernel_rfl) (by kernel_rfl) (by kernel_rfl) (fun _ _ _ h => h) (Or.inl ⟨by rfl, ?_⟩) hHeld ?_
    rotate_left
    focus (intro w hSw; (try dsimp only at hSw); go_simp; try with_reducible rfl)
    simp only [List.setIfInBounds_toArray, List.set_cons_zero, List.set_cons_succ]
    refine wpAnyH_takeD 3 (v := ?_) rfl rfl (by kernel_rfl) (by kernel_rfl) (by kernel_rfl) (fun _ _ _ h => h) (Or.inl ⟨by rfl, ?_⟩) hHeld ?_
    rotate_left
    focus (intro w hSw; (try dsimp only at hSw); go_simp; try with_reducible rfl)
    simp only [List.setIfInBounds_toArray, List.set_cons_zero, List.set_cons_succ]
    refine wpAnyH_takeD 4 (v := ?_) rfl rfl (by kernel_rfl) (by kernel_rfl) (by kernel_rfl) (fun _ _ _ h => h) (Or.inl ⟨by rfl, ?_⟩) hHeld ?_
    rotate_left
    focus (intro w hSw; (try dsimp only at hSw); go_simp; try with_reducible rfl)
    simp only [List.setIfInBounds_toArray, List.set_cons_zero, List.set_cons_succ]
    refine wpAnyH_takeD 5 (v := ?_) rfl rfl (by kernel_rfl) (by kernel_rfl) (by kernel_rfl) (fun _ _ _ h => h) (Or.inl ⟨by rfl, ?_⟩) hHeld ?_
    rotate_left
    focus (intro w hSw; (try dsimp only at hSw); go_simp; try with_reducible rfl)
    simp only [List.setIfInBounds_toArray, List.set_cons_zero, List.set_cons_succ]
    refine wpAnyH_ready (rs := [6]) (by kernel_rfl) (by simp) ?_
    refine AllReadyH.cons rfl (fun K hK => ?_) AllReadyH.nil
    go_simp
    refine (hRO.out _).mono ?_
    rintro e w12 ⟨b9, A9, n9, c9, B9, m9, d9, rfl, hq, hb⟩
    replace S := Lib.hid (S.out.below hb)
    refine hK.out _ _ ⟨(S.out.at 1 rfl).cell (i := 0) rfl, (S.out.at 1 rfl).cell (i := 1) rfl, (S.out.at 1 rfl).cell (i := 2) rfl⟩ (fun hHeld => ?_)
    clear hK K
    refine wpAnyH_ready (rs := [7]) (by kernel_rfl) (by simp) ?_
    refine AllReadyH.cons rfl (fun K hK => ?_) AllReadyH.nil
    go_simp
    refine (hIs.out _ _ _ _ S.out.low (S.out.fact 1 rfl) hq).mono ?_
    rintro e w13 ⟨rfl, hb2⟩
    replace S := Lib.hid (S.out.below hb2)
    clear hb hq hb2 hIs hRO
    refine hK.out _ _ ⟨(S.out.at 1 rfl).cell (i := 0) rfl, (S.out.at 1 rfl).cell (i := 1) rfl, (S.out.at 1 rfl).cell (i := 2) rfl⟩ (fun hHeld => ?_)
    clear hK K
    refine wpAnyH_takeD 8 (v := ?_) rfl rfl (by kernel_rfl) (by kernel_rfl) (by kernel_rfl) (fun _ _ _ h => h) (Or.inl ⟨by rfl, ?_⟩) hHeld ?_
    rotate_left
    focus (intro w hSw; (try dsimp only at hSw); go_simp; try with_reducible rfl)
    simp only [List.setIfInBounds_toArray, List.set_cons_zero, List.set_cons_succ]
    refine wpAnyH_takeD 9 (v := ?_) rfl rfl (by kernel_rfl) (by kernel_rfl) (by kernel_rfl) (fun _ _ _ h => h) (Or.inl ⟨by rfl, ?_⟩) hHeld ?_
    rotate_left
    focus (intro w hSw; (try dsimp only at hSw); go_simp; try with_reducible rfl)
    simp only [List.setIfInBounds_toArray, List.set_cons_zero, List.set_cons_succ]
    refine wpAnyH_done (by kernel_rfl) ?_ _
    go_wp2_with fail
    go_ret
    exact ⟨rfl, S.out.low⟩
  · have hp' : den < 0 := by omega
    go_wp2_with fail
    clear hw3 hx5
    refine (hND.out _).mono ?_
    rintro e w4 ⟨A4, n4, c4, rfl, hx, hb⟩
    replace S := Lib.hid (S.out.below hb)
    clear hb hx hND hNP
    go_wp2_with fail
    refine (hNO.out _).mono ?_
    rintro e w5 ⟨A5, n5, c5, rfl, hx, hb⟩
    replace S := Lib.hid (S.out.below hb)
    clear hb
    go_wp2_with fail
    refine (hMk.out _ _ _ _ _ _ _ _ hx).mono ?_
    rintro e w6 ⟨rfl, hb⟩
    replace S := Lib.hid ((S.out.below hb).alloc [.bool false, .slice none 0 0, .slice none 0 0] 30 (by decide) noint3)
    clear hb hx hMk hNO
    go_wp2_with fail
    generalize hx7 : w6.heap.size = x7 at S ⊢
    generalize World.alloc w6 _ = w7 at S ⊢
    clear hx7
    refine (hI.out _).mono ?_
    rintro e w8 ⟨b8, A8, n8, c8, B8, m8, d8, rfl, hq, hb⟩
    replace S := Lib.hid ((S.out.below hb).push (stab_ratP _ _ _) hq)
    clear hb hq hI
    go_wp2_with fail
    refine (hRI.out _).mono ?_
    rintro e w9 ⟨b9, A9, n9, c9, B9, m9, d9, rfl, hq, hb⟩
    replace S := Lib.hid (S.out.below hb)
    clear hb hRI
    go_wp2_with fail
    refine (hIs.out _ _ _ _ S.out.low (S.out.fact 0 rfl) hq).mono ?_
    rintro e w10 ⟨rfl, hb⟩
    replace S := Lib.hid (S.out.below hb)
    clear hb hq
    go_wp2_with fail
    refine wp_region_held_drew (S := fun W' => W'.cell? ⟨x5, 0, none⟩ = some (.bool b2) ∧ W'.cell? ⟨x5, 1, none⟩ = some (.slice A2 n2 c2) ∧ W'.cell? ⟨x5, 2, none⟩ = some (.slice B2 m2 d2)) (by kernel_rfl) ⟨(S.out.drew.at 1 rfl).cell (i := 0) rfl, (S.out.drew.at 1 rfl).cell (i := 1) rfl, (S.out.drew.at 1 rfl).cell (i := 2) rfl⟩ (fun hHeld => ?_)
    replace S := Lib.hid S.out.drew
    generalize w10.drew = w11 at S hHeld ⊢
    refine wpAnyH_takeD 0 (v := ?_) rfl rfl (by kernel_rfl) (by kernel_rfl) (by kernel_rfl) (fun _ _ _ h => h) (Or.inl ⟨by rfl, ?_⟩) hHeld ?_
    rotate_left
    focus (intro w hSw; (try dsimp only at hSw); go_simp; try with_reducible rfl)
    simp only [List.setIfInBounds_toArray, List.set_cons_zero, List.set_cons_succ]
    refine wpAnyH_takeD 1 (v := ?_) rfl rfl (by kernel_rfl) (by kernel_rfl) (by kernel_rfl) (fun _ _ _ h => h) (Or.inl ⟨by rfl, ?_⟩) hHeld ?_
    rotate_left
    focus (intro w hSw; (try dsimp only at hSw); go_simp; try with_reducible rfl)
    simp only [List.setIfInBounds_toArray, List.set_cons_zero, List.set_cons_succ]
    refine wpAnyH_takeD 2 (v := ?_) rfl rfl (by kernel_rfl) (by kernel_rfl) (by kernel_rfl) (fun _ _ _ h => h) (Or.inl ⟨by rfl, ?_⟩) hHeld ?_
    rotate_left
    focus (intro w hSw; (try dsimp only at hSw); go_simp; try with_reducible rfl)
    simp only [List.setIfInBounds_toArray, List.set_cons_zero, List.set_cons_succ]
    refine wpAnyH_takeD 3 (v := ?_) rfl rfl (by kernel_rfl) (by kernel_rfl) (by kernel_rfl) (fun _ _ _ h => h) (Or.inl ⟨by rfl, ?_⟩) hHeld ?_
    rotate_left
    focus (intro w hSw; (try dsimp only at hSw); go_simp; try with_reducible rfl)
    simp only [List.setIfInBounds_toArray, List.set_cons_zero, List.set_cons_succ]
    refine wpAnyH_takeD 4 (v := ?_) rfl rfl (by kernel_rfl) (by kernel_rfl) (by kernel_rfl) (fun _ _ _ h => h) (Or.inl ⟨by rfl, ?_⟩) hHeld ?_
    rotate_left
    focus (intro w hSw; (try dsimp only at hSw); go_simp; try with_reducible rfl)
    simp only [List.setIfInBounds_toArray, List.set_cons_zero, List.set_cons_succ]
    refine wpAnyH_takeD 5 (v := ?_) rfl rfl (by kernel_rfl) (by kernel_rfl) (by kernel_rfl) (fun _ _ _ h => h) (Or.inl ⟨by rfl, ?_⟩) hHeld ?_
    rotate_left
    focus (intro w hSw; (try dsimp only at hSw); go_simp; try with_reducible rfl)
    simp only [List.setIfInBounds_toArray, List.set_cons_zero, List.set_cons_succ]
    refine wpAnyH_ready (rs := [6]) (by kernel_rfl) (by simp) ?_
    refine AllReadyH.cons rfl (fun K hK => ?_) AllReadyH.nil
    go_simp
    refine (hRO.out _).mono ?_
    rintro e w12 ⟨b9, A9, n9, c9, B9, m9, d9, rfl, hq, hb⟩
    replace S := Lib.hid (S.out.below hb)
    refine hK.out _ _ ⟨(S.out.at 1 rfl).cell (i := 0) rfl, (S.out.at 1 rfl).cell (i := 1) rfl, (S.out.at 1 rfl).cell (i := 2) rfl⟩ (fun hHeld => ?_)
    clear hK K
    refine wpAnyH_ready (rs := [7]) (by kernel_rfl) (by simp) ?_
    refine AllReadyH.cons rfl (fun K hK => ?_) AllReadyH.nil
    go_simp
    refine (hIs.out _ _ _ _ S.out.low (S.out.fact 1 rfl) hq).mono ?_
    rintro e w13 ⟨rfl, hb2⟩
    replace S := Lib.hid (S.out.below hb2)
    clear hb hq hb2 hIs hRO
    refine hK.out _ _ ⟨(S.out.at 1 rfl).cell (i := 0) rfl, (S.out.at 1 rfl).cell (i := 1) rfl, (S.out.at 1 rfl).cell (i := 2) rfl⟩ (fun hHeld => ?_)
    clear hK K
    refine wpAnyH_takeD 8 (v := ?_) rfl rfl (by kernel_rfl) (by kernel_rfl) (by kernel_rfl) (fun _ _ _ h => h) (Or.inl ⟨by rfl, ?_⟩) hHeld ?_
    rotate_left
    focus (intro w hSw; (try dsimp only at hSw); go_simp; try with_reducible rfl)
    simp only [List.setIfInBounds_toArray, List.set_cons_zero, List.set_cons_succ]
    refine wpAnyH_takeD 9 (v := ?_) rfl rfl (by kernel_rfl) (by kernel_rfl) (by kernel_rfl) (fun _ _ _ h => h) (Or.inl ⟨by rfl, ?_⟩) hHeld ?_
    rotate_left
    focus (intro w hSw; (try dsimp only at hSw); go_simp; try with_reducible rfl)
    simp only [List.setIfInBounds_toArray, List.set_cons_zero, List.set_cons_succ]
    refine wpAnyH_done (by kernel_rfl) ?_ _
    go_wp2_with fail
    go_ret
    exact ⟨rfl, S.out.low⟩
theorem lawOf {w : World} (num den : Int) (hV : Vars w) (h1 : -9223372036854775808 ≤ num) (h2 : num ≤ 9223372036854775807) (h3 : -9223372036854775808 ≤ den) (h4 : den ≤ 9223372036854775807) : Calls Tryz.prog 5 #[.int .i64 num, .int .i64 den] w fun e w' => e = .returned (.bool true) ∧ Below w.heap.size w w' := by
  by_cases h0 : den = 0
  · subst h0; exact lawOf_zero num hV h1 h2
  · exact lawOf_more num den hV h1 h2 h3 h4 h0
end Go.Proofs.YthfjbpbgnoonpaaGreatDoor
