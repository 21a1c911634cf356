/- Contracts of the reference of layer 2: Sub, Mul, Div, Sign, Cmp, Floor, Ceil. -/
import Derived.Test.YtbmdbhafanojcaaGreatDoorRV
namespace Go.Proofs.YtbmdbhafanojcaaGreatDoor
open Go.RowKit

set_option maxRecDepth 100000 in
set_option maxHeartbeats 8000000 in
theorem refSubQ_any {w : World} {u v : Value} {q r : Rat} {a b : Nat} (hu : RatF w u q a) (hv : RatF w v r b) (hab : a + b ≤ 90) : Calls Tryz.prog 34 #[u, v] w (OpG w (q - r) (a + b + 1)) := by
  have HU := Lib.hid hu
  have HV := Lib.hid hv
  obtain ⟨A, n, c, A2, n2, c2, rfl⟩ := hu.shape
  obtain ⟨B, m, d, B2, m2, d2, rfl⟩ := hv.shape
  obtain ⟨w1, hw1, S⟩ := enter3 w [.bool (decide (q.num < 0)), .slice A n c, .slice A2 n2 c2] 34 [.bool (decide (r.num < 0)), .slice B m d, .slice B2 m2 d2] 34 [.bool false, .slice none 0 0, .slice none 0 0] 34 (by decide) noint3 (by decide) noint3 (by decide) noint3
  clear hu hv
  generalize decide (q.num < 0) = x at HU S hw1 ⊢
  generalize decide (r.num < 0) = y at HV S hw1 ⊢
  go_enter Tryz.func34, Tryz.ntmps34
  go_wp2_with fail
  clear hw1
  refine wp_region_held_drew (S := fun W' => W'.cell? ⟨w.heap.size, 0, none⟩ = some (.bool x) ∧ W'.cell? ⟨w.heap.size, 1, none⟩ = some (.slice A n c) ∧ W'.cell? ⟨w.heap.size, 2, none⟩ = some (.slice A2 n2 c2) ∧ W'.cell? ⟨(w.heap.size + 1), 0, none⟩ = some (.bool y) ∧ W'.cell? ⟨(w.heap.size + 1), 1, none⟩ = some (.slice B m d) ∧ W'.cell? ⟨(w.heap.size + 1), 2, none⟩ = some (.slice B2 m2 d2)) (by kernel_rfl) ⟨(S.out.drew.at 2 rfl).cell (i := 0) rfl, (S.out.drew.at 2 rfl).cell (i := 1) rfl, (S.out.drew.at 2 rfl).cell (i := 2) rfl, (S.out.drew.at 1 rfl).cell (i := 0) rfl, (S.out.drew.at 1 rfl).cell (i := 1) rfl, (S.out.drew.at 1 rfl).cell (i := 2) rfl⟩ (fun hHeld => ?_)
  replace S := Lib.hid S.out.drew
  generalize w1.drew = w2 at S hHeld ⊢
  refine wpAnyH_takeD 0 (v := ?_) rfl rfl (by kernel_rfl) (by kernel_rfl) (by kernel_rfl) (fun _ _ _ h => h) (Or.inl ⟨by rfl, ?_⟩) hHeld ?_
  rotate_left
  focus (intro w hSw; (try dsimp only at hSw); go_simp; try with_reducible rfl)
  simp only [List.setIfInBounds_toArray, List.set_cons_zero, List.set_cons_succ]
  refine wpAnyH_takeD 1 (v := ?_) rfl rfl (by kernel_rfl) (by kernel_rfl) (by kernel_rfl) (fun _ _ _ h => h) (Or.inl ⟨by rfl, ?_⟩) hHeld ?_
  rotate_left
  focus (intro w hSw; (try dsimp only at hSw); go_simp; try with_reducible rfl)
  simp only [List.setIfInBounds_toArray, List.set_cons_zero, List.set_cons_succ]
  refine wpAnyH_ready (rs := [2]) (by kernel_rfl) (by simp) ?_
  refine AllReadyH.cons rfl (fun K hK => ?_) AllReadyH.nil
  go_simp
  refine (refNeg_any (HV.out.below S.out.low) (by omega)).mono ?_
  rintro e w3 ⟨b3, A3, n3, c3, A4, n4, c4, rfl, hq, hb1⟩
  replace S := Lib.hid ((S.out.below hb1).push (stab_ratF _ _ _) hq)
  clear hq hb1
  refine hK.out _ _ ⟨(S.out.at 2 rfl).cell (i := 0) rfl, (S.out.at 2 rfl).cell (i := 1) rfl, (S.out.at 2 rfl).cell (i := 2) rfl, (S.out.at 1 rfl).cell (i := 0) rfl, (S.out.at 1 rfl).cell (i := 1) rfl, (S.out.at 1 rfl).cell (i := 2) rfl⟩ (fun hHeld => ?_)
  clear hK K
  refine wpAnyH_ready (rs := [3]) (by kernel_rfl) (by simp) ?_
  refine AllReadyH.cons rfl (fun K hK => ?_) AllReadyH.nil
  go_simp
  refine (refAddQ_any (HU.out.below S.out.low) (S.out.fact 0 rfl) hab).mono ?_
  rintro e w4 ⟨b9, A9, n9, c9, A10, n10, c10, rfl, hq, hb1⟩
  rw [← Rat.sub_eq_add_neg] at hq
  replace S := Lib.hid ((S.out.below hb1).push (stab_ratF _ _ _) hq)
  clear hq hb1
  refine hK.out _ _ ⟨(S.out.at 2 rfl).cell (i := 0) rfl, (S.out.at 2 rfl).cell (i := 1) rfl, (S.out.at 2 rfl).cell (i := 2) rfl, (S.out.at 1 rfl).cell (i := 0) rfl, (S.out.at 1 rfl).cell (i := 1) rfl, (S.out.at 1 rfl).cell (i := 2) rfl⟩ (fun hHeld => ?_)
  clear hK K
  have c0x0 := (S.out.at 0 rfl).cell (i := 0) rfl
  have f0x0 := (S.out.at 0 rfl).frozen (i := 0)
  have c0x1 := (S.out.at 0 rfl).cell (i := 1) rfl
  have f0x1 := (S.out.at 0 rfl).frozen (i := 1)
  have c0x2 := (S.out.at 0 rfl).cell (i := 2) rfl
  have f0x2 := (S.out.at 0 rfl).frozen (i := 2)
  refine wpAnyH_ready (rs := [4]) (by kernel_rfl) (by simp) ?_
  refine AllReadyH.cons rfl (fun K hK => ?_) AllReadyH.nil
  go_simp
  replace S := Lib.hid (S.out.set3 0 rfl (noint_bool (b := b9)) (noint_slice (A := A9) (n := n9) (c := c9)) (noint_slice (A := A10) (n := n10) (c := c10)) rfl)
  refine hK.out _ _ ⟨(S.out.at 2 rfl).cell (i := 0) rfl, (S.out.at 2 rfl).cell (i := 1) rfl, (S.out.at 2 rfl).cell (i := 2) rfl, (S.out.at 1 rfl).cell (i := 0) rfl, (S.out.at 1 rfl).cell (i := 1) rfl, (S.out.at 1 rfl).cell (i := 2) rfl⟩ (fun hHeld => ?_)
  clear hK K
  refine wpAnyH_done (by kernel_rfl) ?_ _
  have c0x0 := (S.out.at 0 rfl).cell (i := 0) rfl
  have c0x1 := (S.out.at 0 rfl).cell (i := 1) rfl
  have c0x2 := (S.out.at 0 rfl).cell (i := 2) rfl
  go_wp2_with fail
  refine bodyPost_ret (v := .agg #[.bool b9, .slice A9 n9 c9, .slice A10 n10 c10]) (by simp [results, Tryz.results34, go_sem, c0x0, c0x1, c0x2]) rfl ?_
  exact ⟨b9, A9, n9, c9, A10, n10, c10, rfl, S.out.fact 0 rfl, S.out.low⟩
theorem refMul_math {q r : Rat} {x y : Bool} (hx : decide (q.num < 0) = x) (hy : decide (r.num < 0) = y) : mkRat (sg (x != y) (q.num.natAbs * r.num.natAbs)) (q.den * r.den) = q * r := by
  rw [mul_mk, ← sg_sg, ← hx, ← hy, sg_num, sg_num]
set_option maxRecDepth 100000 in
set_option maxHeartbeats 8000000 in
theorem refMulQ_any {w : World} {u v : Value} {q r : Rat} {a b : Nat} (hu : RatF w u q a) (hv : RatF w v r b) (hab : a + b ≤ 90) : Calls Tryz.prog 43 #[u, v] w (OpG w (q * r) (a + b)) := by
  have HU := Lib.hid hu
  have HV := Lib.hid hv
  have hO1 := Lib.hid (fun W (hw : Below w.heap.size w W) => one_any (hu.below hw) (by omega))
  have hO2 := Lib.hid (fun W (hw : Below w.heap.size w W) => one_any (hv.below hw) (by omega))
  obtain ⟨A, n, c, A2, n2, c2, rfl⟩ := hu.shape
  obtain ⟨B, m, d, B2, m2, d2, rfl⟩ := hv.shape
  obtain ⟨w1, hw1, S⟩ := enter3 w [.bool (decide (q.num < 0)), .slice A n c, .slice A2 n2 c2] 34 [.bool (decide (r.num < 0)), .slice B m d, .slice B2 m2 d2] 34 [.bool false, .slice none 0 0, .slice none 0 0] 34 (by decide) noint3 (by decide) noint3 (by decide) noint3
  clear hu hv
  obtain ⟨x, hx⟩ : ∃ x, decide (q.num < 0) = x := ⟨_, rfl⟩
  obtain ⟨y, hy⟩ : ∃ y, decide (r.num < 0) = y := ⟨_, rfl⟩
  rw [hx] at hO1 HU S hw1 ⊢
  rw [hy] at hO2 HV S hw1 ⊢
  have hQ := Lib.hid (refMul_math hx hy)
  have hD0 := Lib.hid (Nat.mul_pos q.den_pos r.den_pos)
  generalize q * r = qr at hQ ⊢
  clear hx hy
  go_enter Tryz.func43, Tryz.ntmps43
  go_wp2_with fail
  clear hw1
  refine wp_region_held_drew (S := fun W' => W'.cell? ⟨w.heap.size, 0, none⟩ = some (.bool x) ∧ W'.cell? ⟨w.heap.size, 1, none⟩ = some (.slice A n c) ∧ W'.cell? ⟨w.heap.size, 2, none⟩ = some (.slice A2 n2 c2) ∧ W'.cell? ⟨(w.heap.size + 1), 0, none⟩ = some (.bool y) ∧ W'.cell? ⟨(w.heap.size + 1), 1, none⟩ = some (.slice B m d) ∧ W'.cell? ⟨(w.heap.size + 1), 2, none⟩ = some (.slice B2 m2 d2)) (by kernel_rfl) ⟨(S.out.drew.at 2 rfl).cell (i := 0) rfl, (S.out.drew.at 2 rfl).cell (i := 1) rfl, (S.out.drew.at 2 rfl).cell (i := 2) rfl, (S.out.drew.at 1 rfl).cell (i := 0) rfl, (S.out.drew.at 1 rfl).cell (i := 1) rfl, (S.out.drew.at 1 rfl).cell (i := 2) rfl⟩ (fun hHeld => ?_)
  replace S := Lib.hid S.out.drew
  generalize w1.drew = w2 at S hHeld ⊢
  refine wpAnyH_takeD 0 (v := ?_) rfl rfl (by kernel_rfl) (by kernel_rfl) (by kernel_rfl) (fun _ _ _ h => h) (Or.inl ⟨by rfl, ?_⟩) hHeld ?_
  rotate_left
  focus (intro w hSw; (try dsimp only at hSw); go_simp; try with_reducible rfl)
  simp only [List.setIfInBounds_toArray, List.set_cons_zero, List.set_cons_succ]
  refine wpAnyH_takeD 1 (v := ?_) rfl rfl (by kernel_rfl) (by kernel_rfl) (by kernel_rfl) (fun _ _ _ h => h) (Or.inl ⟨by rfl, ?_⟩) hHeld ?_
  rotate_left
  focus (intro w hSw; (try dsimp only at hSw); go_simp; try with_reducible rfl)
  simp only [List.setIfInBounds_toArray, List.set_cons_zero, List.set_cons_succ]
  refine wpAnyH_takeD 2 (v := ?_) rfl rfl (by kernel_rfl) (by kernel_rfl) (by kernel_rfl) (fun _ _ _ h => h) (Or.inl ⟨by rfl, ?_⟩) hHeld ?_
  rotate_left
  focus (intro w hSw; (try dsimp only at hSw); go_simp; try with_reducible rfl)
  simp only [List.setIfInBounds_toArray, List.set_cons_zero, List.set_cons_succ]
  refine wpAnyH_takeD 3 (v := ?_) rfl rfl (by kernel_rfl) (by kernel_rfl) (by kernel_rfl) (fun _ _ _ h => h) (Or.inl ⟨by rfl, ?_⟩) hHeld ?_
  rotate_left
  focus (intro w hSw; (try dsimp only at hSw); go_simp; try with_reducible rfl)
  simp only [List.setIfInBounds_toArray, List.set_cons_zero, List.set_cons_succ]
  refine wpAnyH_takeD 4 (v := ?_) rfl rfl (by kernel_rfl) (by kernel_rfl) (by kernel_rfl) (fun _ _ _ h => h) (Or.inl ⟨by rfl, ?_⟩) hHeld ?_
  rotate_left
  focus (intro w hSw; (try dsimp only at hSw); go_simp; try with_reducible rfl)
  simp only [List.setIfInBounds_toArray, List.set_cons_zero, List.set_cons_succ]
  refine wpAnyH_takeD 5 (v := ?_) rfl rfl (by kernel_rfl) (by kernel_rfl) (by kernel_rfl) (fun _ _ _ h => h) (Or.inl ⟨by rfl, ?_⟩) hHeld ?_
  rotate_left
  focus (intro w hSw; (try dsimp only at hSw); go_simp; try with_reducible rfl)
  simp only [List.setIfInBounds_toArray, List.set_cons_zero, List.set_cons_succ]
  refine wpAnyH_takeD 6 (v := ?_) rfl rfl (by kernel_rfl) (by kernel_rfl) (by kernel_rfl) (fun _ _ _ h => h) (Or.inl ⟨by rfl, ?_⟩) hHeld ?_
  rotate_left
  focus (intro w hSw; (try dsimp only at hSw); go_simp; try with_reducible rfl)
  simp only [List.setIfInBounds_toArray, List.set_cons_zero, List.set_cons_succ]
  refine wpAnyH_takeD 7 (v := ?_) rfl rfl (by kernel_rfl) (by kernel_rfl) (by kernel_rfl) (fun _ _ _ h => h) (Or.inl ⟨by rfl, ?_⟩) hHeld ?_
  rotate_left
  focus (intro w hSw; (try dsimp only at hSw); go_simp; try with_reducible rfl)
  simp only [List.setIfInBounds_toArray, List.set_cons_zero, List.set_cons_succ]
  refine wpAnyH_takeD 8 (v := ?_) rfl rfl (by kernel_rfl) (by kernel_rfl) (by kernel_rfl) (fun _ _ _ h => h) (Or.inl ⟨by rfl, ?_⟩) hHeld ?_
  rotate_left
  focus (intro w hSw; (try dsimp only at hSw); go_simp; try with_reducible rfl)
  simp only [List.setIfInBounds_toArray, List.set_cons_zero, List.set_cons_succ]
  refine wpAnyH_takeD 10 (v := ?_) rfl rfl (by kernel_rfl) (by kernel_rfl) (by kernel_rfl) (fun _ _ _ h => h) (Or.inl ⟨by rfl, ?_⟩) hHeld ?_
  rotate_left
  focus (intro w hSw; (try dsimp only at hSw); go_simp; try with_reducible rfl)
  simp only [List.setIfInBounds_toArray, List.set_cons_zero, List.set_cons_succ]
  refine wpAnyH_takeD 12 (v := ?_) rfl rfl (by kernel_rfl) (by kernel_rfl) (by kernel_rfl) (fun _ _ _ h => h) (Or.inl ⟨by rfl, ?_⟩) hHeld ?_
  rotate_left
  focus (intro w hSw; (try dsimp only at hSw); go_simp; try with_reducible rfl)
  simp only [List.setIfInBounds_toArray, List.set_cons_zero, List.set_cons_succ]
  refine wpAnyH_ready (rs := [9]) (by kernel_rfl) (by simp) ?_
  refine AllReadyH.cons rfl (fun K hK => ?_) AllReadyH.nil
  go_simp
  refine (mulF_ (HU.out.parts.2.1.below S.out.low) (HV.out.parts.2.1.below S.out.low) (by omega) (by omega)).mono ?_
  rintro e w3 ⟨A3, n3, c3, rfl, hq, hb1⟩
  replace S := Lib.hid ((S.out.below hb1).push (stab_refB _ _ _) hq)
  clear hq hb1
  refine hK.out _ _ ⟨(S.out.at 2 rfl).cell (i := 0) rfl, (S.out.at 2 rfl).cell (i := 1) rfl, (S.out.at 2 rfl).cell (i := 2) rfl, (S.out.at 1 rfl).cell (i := 0) rfl, (S.out.at 1 rfl).cell (i := 1) rfl, (S.out.at 1 rfl).cell (i := 2) rfl⟩ (fun hHeld => ?_)
  clear hK K
  refine wpAnyH_ready (rs := [11]) (by kernel_rfl) (by simp) ?_
  refine AllReadyH.cons rfl (fun K hK => ?_) AllReadyH.nil
  go_simp
  refine (hO1.out _ S.out.low).mono ?_
  rintro e w4 ⟨A4, n4, c4, rfl, hq, hb1⟩
  replace S := Lib.hid ((S.out.below hb1).push (stab_refB _ _ _) hq)
  clear hq hb1
  refine hK.out _ _ ⟨(S.out.at 2 rfl).cell (i := 0) rfl, (S.out.at 2 rfl).cell (i := 1) rfl, (S.out.at 2 rfl).cell (i := 2) rfl, (S.out.at 1 rfl).cell (i := 0) rfl, (S.out.at 1 rfl).cell (i := 1) rfl, (S.out.at 1 rfl).cell (i := 2) rfl⟩ (fun hHeld => ?_)
  clear hK K
  refine wpAnyH_ready (rs := [13]) (by kernel_rfl) (by simp) ?_
  refine AllReadyH.cons rfl (fun K hK => ?_) AllReadyH.nil
  go_simp
  refine (hO2.out _ S.out.low).mono ?_
  rintro e w5 ⟨A5, n5, c5, rfl, hq, hb1⟩
  replace S := Lib.hid ((S.out.below hb1).push (stab_refB _ _ _) hq)
  clear hq hb1
  refine hK.out _ _ ⟨(S.out.at 2 rfl).cell (i := 0) rfl, (S.out.at 2 rfl).cell (i := 1) rfl, (S.out.at 2 rfl).cell (i := 2) rfl, (S.out.at 1 rfl).cell (i := 0) rfl, (S.out.at 1 rfl).cell (i := 1) rfl, (S.out.at 1 rfl).cell (i := 2) rfl⟩ (fun hHeld => ?_)
  clear hK K
  refine wpAnyH_ready (rs := [14]) (by kernel_rfl) (by simp) ?_
  refine AllReadyH.cons rfl (fun K hK => ?_) AllReadyH.nil
  go_simp
  refine (mulF_ (S.out.fact 1 rfl) (S.out.fact 0 rfl) (by omega) (by omega)).mono ?_
  rintro e w6 ⟨A6, n6, c6, rfl, hq, hb1⟩
  replace S := Lib.hid ((S.out.below hb1).push (stab_refB _ _ _) hq)
  clear hq hb1
  refine hK.out _ _ ⟨(S.out.at 2 rfl).cell (i := 0) rfl, (S.out.at 2 rfl).cell (i := 1) rfl, (S.out.at 2 rfl).cell (i := 2) rfl, (S.out.at 1 rfl).cell (i := 0) rfl, (S.out.at 1 rfl).cell (i := 1) rfl, (S.out.at 1 rfl).cell (i := 2) rfl⟩ (fun hHeld => ?_)
  clear hK K
  refine wpAnyH_ready (rs := [15]) (by kernel_rfl) (by simp) ?_
  refine AllReadyH.cons rfl (fun K hK => ?_) AllReadyH.nil
  go_simp
  refine (made_any (b := x != y) (S.out.fact 3 rfl) (S.out.fact 0 rfl) (by omega) hD0.out).mono ?_
  rintro e w7 ⟨b9, A9, n9, c9, A10, n10, c10, rfl, hq, hb1⟩
  rw [hQ.out] at hq
  replace S := Lib.hid ((S.out.below hb1).push (stab_ratF _ _ _) hq)
  clear hq hb1
  refine hK.out _ _ ⟨(S.out.at 2 rfl).cell (i := 0) rfl, (S.out.at 2 rfl).cell (i := 1) rfl, (S.out.at 2 rfl).cell (i := 2) rfl, (S.out.at 1 rfl).cell (i := 0) rfl, (S.out.at 1 rfl).cell (i := 1) rfl, (S.out.at 1 rfl).cell (i := 2) rfl⟩ (fun hHeld => ?_)
  clear hK K
  have c0x0 := (S.out.at 0 rfl).cell (i := 0) rfl
  have f0x0 := (S.out.at 0 rfl).frozen (i := 0)
  have c0x1 := (S.out.at 0 rfl).cell (i := 1) rfl
  have f0x1 := (S.out.at 0 rfl).frozen (i := 1)
  have c0x2 := (S.out.at 0 rfl).cell (i := 2) rfl
  have f0x2 := (S.out.at 0 rfl).frozen (i := 2)
  refine wpAnyH_ready (rs := [16]) (by kernel_rfl) (by simp) ?_
  refine AllReadyH.cons rfl (fun K hK => ?_) AllReadyH.nil
  go_simp
  replace S := Lib.hid (S.out.set3 0 rfl (noint_bool (b := b9)) (noint_slice (A := A9) (n := n9) (c := c9)) (noint_slice (A := A10) (n := n10) (c := c10)) rfl)
  refine hK.out _ _ ⟨(S.out.at 2 rfl).cell (i := 0) rfl, (S.out.at 2 rfl).cell (i := 1) rfl, (S.out.at 2 rfl).cell (i := 2) rfl, (S.out.at 1 rfl).cell (i := 0) rfl, (S.out.at 1 rfl).cell (i := 1) rfl, (S.out.at 1 rfl).cell (i := 2) rfl⟩ (fun hHeld => ?_)
  clear hK K
  refine wpAnyH_done (by kernel_rfl) ?_ _
  have c0x0 := (S.out.at 0 rfl).cell (i := 0) rfl
  have c0x1 := (S.out.at 0 rfl).cell (i := 1) rfl
  have c0x2 := (S.out.at 0 rfl).cell (i := 2) rfl
  go_wp2_with fail
  refine bodyPost_ret (v := .agg #[.bool b9, .slice A9 n9 c9, .slice A10 n10 c10]) (by simp [results, Tryz.results43, go_sem, c0x0, c0x1, c0x2]) rfl ?_
  exact ⟨b9, A9, n9, c9, A10, n10, c10, rfl, S.out.fact 0 rfl, S.out.low⟩
theorem refDiv_math {q r : Rat} {x y : Bool} (hx : decide (q.num < 0) = x) (hy : decide (r.num < 0) = y) (h0 : r.num ≠ 0) : mkRat (sg (x != y) (q.num.natAbs * r.den)) (q.den * r.num.natAbs) = q / r := by
  rw [Rat.div_def, ← inv_mk h0, ← sg_sg, ← hx, ← hy, sg_num]
  have h1 := Rat.mkRat_mul_mkRat q.num (sg (decide (r.num < 0)) r.den) q.den r.num.natAbs
  rw [Rat.mkRat_self] at h1
  exact h1.symm
set_option maxRecDepth 100000 in
set_option maxHeartbeats 8000000 in
theorem refDivQ_any {w : World} {u v : Value} {q r : Rat} {a b : Nat} (hu : RatF w u q a) (hv : RatF w v r b) (hab : a + b ≤ 90) (h0 : r.num ≠ 0) : Calls Tryz.prog 41 #[u, v] w (OpGT w (q / r) (a + b)) := by
  have HU := Lib.hid hu
  have HV := Lib.hid hv
  have hO1 := Lib.hid (fun W (hw : Below w.heap.size w W) => one_any (hu.below hw) (by omega))
  have hO2 := Lib.hid (fun W (hw : Below w.heap.size w W) => one_any (hv.below hw) (by omega))
  obtain ⟨A, n, c, A2, n2, c2, rfl⟩ := hu.shape
  obtain ⟨B, m, d, B2, m2, d2, rfl⟩ := hv.shape
  obtain ⟨w1, hw1, S⟩ := enter3 w [.bool (decide (q.num < 0)), .slice A n c, .slice A2 n2 c2] 34 [.bool (decide (r.num < 0)), .slice B m d, .slice B2 m2 d2] 34 [.bool false, .slice none 0 0, .slice none 0 0] 34 (by decide) noint3 (by decide) noint3 (by decide) noint3
  clear hu hv
  obtain ⟨x, hx⟩ : ∃ x, decide (q.num < 0) = x := ⟨_, rfl⟩
  obtain ⟨y, hy⟩ : ∃ y, decide (r.num < 0) = y := ⟨_, rfl⟩
  rw [hx] at hO1 HU S hw1 ⊢
  rw [hy] at hO2 HV S hw1 ⊢
  have hQ := Lib.hid (refDiv_math hx hy h0)
  have hD0 := Lib.hid (Nat.mul_pos q.den_pos (Int.natAbs_pos.2 h0))
  generalize q / r = qr at hQ ⊢
  clear h0
  clear hx hy
  go_enter Tryz.func41, Tryz.ntmps41
  go_wp2_with fail
  clear hw1
  refine wp_region_held_drew (S := fun W' => W'.cell? ⟨w.heap.size, 0, none⟩ = some (.bool x) ∧ W'.cell? ⟨w.heap.size, 1, none⟩ = some (.slice A n c) ∧ W'.cell? ⟨w.heap.size, 2, none⟩ = some (.slice A2 n2 c2) ∧ W'.cell? ⟨(w.heap.size + 1), 0, none⟩ = some (.bool y) ∧ W'.cell? ⟨(w.heap.size + 1), 1, none⟩ = some (.slice B m d) ∧ W'.cell? ⟨(w.heap.size + 1), 2, none⟩ = some (.slice B2 m2 d2)) (by kernel_rfl) ⟨(S.out.drew.at 2 rfl).cell (i := 0) rfl, (S.out.drew.at 2 rfl).cell (i := 1) rfl, (S.out.drew.at 2 rfl).cell (i := 2) rfl, (S.out.drew.at 1 rfl).cell (i := 0) rfl, (S.out.drew.at 1 rfl).cell (i := 1) rfl, (S.out.drew.at 1 rfl).cell (i := 2) rfl⟩ (fun hHeld => ?_)
  replace S := Lib.hid S.out.drew
  generalize w1.drew = w2 at S hHeld ⊢
  refine wpAnyH_takeD 0 (v := ?_) rfl rfl (by kernel_rfl) (by kernel_rfl) (by kernel_rfl) (fun _ _ _ h => h) (Or.inl ⟨by rfl, ?_⟩) hHeld ?_
  rotate_left
  focus (intro w hSw; (try dsimp only at hSw); go_simp; try with_reducible rfl)
  simp only [List.setIfInBounds_toArray, List.set_cons_zero, List.set_cons_succ]
  refine wpAnyH_takeD 1 (v := ?_) rfl rfl (by kernel_rfl) (by kernel_rfl) (by kernel_rfl) (fun _ _ _ h => h) (Or.inl ⟨by rfl, ?_⟩) hHeld ?_
  rotate_left
  focus (intro w hSw; (try dsimp only at hSw); go_simp; try with_reducible rfl)
  simp only [List.setIfInBounds_toArray, List.set_cons_zero, List.set_cons_succ]
  refine wpAnyH_takeD 2 (v := ?_) rfl rfl (by kernel_rfl) (by kernel_rfl) (by kernel_rfl) (fun _ _ _ h => h) (Or.inl ⟨by rfl, ?_⟩) hHeld ?_
  rotate_left
  focus (intro w hSw; (try dsimp only at hSw); go_simp; try with_reducible rfl)
  simp only [List.setIfInBounds_toArray, List.set_cons_zero, List.set_cons_succ]
  refine wpAnyH_takeD 3 (v := ?_) rfl rfl (by kernel_rfl) (by kernel_rfl) (by kernel_rfl) (fun _ _ _ h => h) (Or.inl ⟨by rfl, ?_⟩) hHeld ?_
  rotate_left
  focus (intro w hSw; (try dsimp only at hSw); go_simp; try with_reducible rfl)
  simp only [List.setIfInBounds_toArray, List.set_cons_zero, List.set_cons_succ]
  refine wpAnyH_takeD 4 (v := ?_) rfl rfl (by kernel_rfl) (by kernel_rfl) (by kernel_rfl) (fun _ _ _ h => h) (Or.inl ⟨by rfl, ?_⟩) hHeld ?_
  rotate_left
  focus (intro w hSw; (try dsimp only at hSw); go_simp; try with_reducible rfl)
  simp only [List.setIfInBounds_toArray, List.set_cons_zero, List.set_cons_succ]
  refine wpAnyH_takeD 5 (v := ?_) rfl rfl (by kernel_rfl) (by kernel_rfl) (by kernel_rfl) (fun _ _ _ h => h) (Or.inl ⟨by rfl, ?_⟩) hHeld ?_
  rotate_left
  focus (intro w hSw; (try dsimp only at hSw); go_simp; try with_reducible rfl)
  simp only [List.setIfInBounds_toArray, List.set_cons_zero, List.set_cons_succ]
  refine wpAnyH_takeD 6 (v := ?_) rfl rfl (by kernel_rfl) (by kernel_rfl) (by kernel_rfl) (fun _ _ _ h => h) (Or.inl ⟨by rfl, ?_⟩) hHeld ?_
  rotate_left
  focus (intro w hSw; (try dsimp only at hSw); go_simp; try with_reducible rfl)
  simp only [List.setIfInBounds_toArray, List.set_cons_zero, List.set_cons_succ]
  refine wpAnyH_takeD 7 (v := ?_) rfl rfl (by kernel_rfl) (by kernel_rfl) (by kernel_rfl) (fun _ _ _ h => h) (Or.inl ⟨by rfl, ?_⟩) hHeld ?_
  rotate_left
  focus (intro w hSw; (try dsimp only at hSw); go_simp; try with_reducible rfl)
  simp only [List.setIfInBounds_toArray, List.set_cons_zero, List.set_cons_succ]
  refine wpAnyH_takeD 10 (v := ?_) rfl rfl (by kernel_rfl) (by kernel_rfl) (by kernel_rfl) (fun _ _ _ h => h) (Or.inl ⟨by rfl, ?_⟩) hHeld ?_
  rotate_left
  focus (intro w hSw; (try dsimp only at hSw); go_simp; try with_reducible rfl)
  simp only [List.setIfInBounds_toArray, List.set_cons_zero, List.set_cons_succ]
  refine wpAnyH_takeD 12 (v := ?_) rfl rfl (by kernel_rfl) (by kernel_rfl) (by kernel_rfl) (fun _ _ _ h => h) (Or.inl ⟨by rfl, ?_⟩) hHeld ?_
  rotate_left
  focus (intro w hSw; (try dsimp only at hSw); go_simp; try with_reducible rfl)
  simp only [List.setIfInBounds_toArray, List.set_cons_zero, List.set_cons_succ]
  refine wpAnyH_takeD 13 (v := ?_) rfl rfl (by kernel_rfl) (by kernel_rfl) (by kernel_rfl) (fun _ _ _ h => h) (Or.inl ⟨by rfl, ?_⟩) hHeld ?_
  rotate_left
  focus (intro w hSw; (try dsimp only at hSw); go_simp; try with_reducible rfl)
  simp only [List.setIfInBounds_toArray, List.set_cons_zero, List.set_cons_succ]
  refine wpAnyH_ready (rs := [8]) (by kernel_rfl) (by simp) ?_
  refine AllReadyH.cons rfl (fun K hK => ?_) AllReadyH.nil
  go_simp
  refine (hO2.out _ S.out.low).mono ?_
  rintro e w3 ⟨A3, n3, c3, rfl, hq, hb1⟩
  replace S := Lib.hid ((S.out.below hb1).push (stab_refB _ _ _) hq)
  clear hq hb1
  refine hK.out _ _ ⟨(S.out.at 2 rfl).cell (i := 0) rfl, (S.out.at 2 rfl).cell (i := 1) rfl, (S.out.at 2 rfl).cell (i := 2) rfl, (S.out.at 1 rfl).cell (i := 0) rfl, (S.out.at 1 rfl).cell (i := 1) rfl, (S.out.at 1 rfl).cell (i := 2) rfl⟩ (fun hHeld => ?_)
  clear hK K
  refine wpAnyH_ready (rs := [9]) (by kernel_rfl) (by simp) ?_
  refine AllReadyH.cons rfl (fun K hK => ?_) AllReadyH.nil
  go_simp
  refine (mulF_ (HU.out.parts.2.1.below S.out.low) (S.out.fact 0 rfl) (by omega) (by omega)).mono ?_
  rintro e w4 ⟨A4, n4, c4, rfl, hq, hb1⟩
  replace S := Lib.hid ((S.out.below hb1).push (stab_refB _ _ _) hq)
  clear hq hb1
  refine hK.out _ _ ⟨(S.out.at 2 rfl).cell (i := 0) rfl, (S.out.at 2 rfl).cell (i := 1) rfl, (S.out.at 2 rfl).cell (i := 2) rfl, (S.out.at 1 rfl).cell (i := 0) rfl, (S.out.at 1 rfl).cell (i := 1) rfl, (S.out.at 1 rfl).cell (i := 2) rfl⟩ (fun hHeld => ?_)
  clear hK K
  refine wpAnyH_ready (rs := [11]) (by kernel_rfl) (by simp) ?_
  refine AllReadyH.cons rfl (fun K hK => ?_) AllReadyH.nil
  go_simp
  refine (hO1.out _ S.out.low).mono ?_
  rintro e w5 ⟨A5, n5, c5, rfl, hq, hb1⟩
  replace S := Lib.hid ((S.out.below hb1).push (stab_refB _ _ _) hq)
  clear hq hb1
  refine hK.out _ _ ⟨(S.out.at 2 rfl).cell (i := 0) rfl, (S.out.at 2 rfl).cell (i := 1) rfl, (S.out.at 2 rfl).cell (i := 2) rfl, (S.out.at 1 rfl).cell (i := 0) rfl, (S.out.at 1 rfl).cell (i := 1) rfl, (S.out.at 1 rfl).cell (i := 2) rfl⟩ (fun hHeld => ?_)
  clear hK K
  refine wpAnyH_ready (rs := [14]) (by kernel_rfl) (by simp) ?_
  refine AllReadyH.cons rfl (fun K hK => ?_) AllReadyH.nil
  go_simp
  refine (mulF_ (S.out.fact 0 rfl) (HV.out.parts.2.1.below S.out.low) (by omega) (by omega)).mono ?_
  rintro e w6 ⟨A6, n6, c6, rfl, hq, hb1⟩
  replace S := Lib.hid ((S.out.below hb1).push (stab_refB _ _ _) hq)
  clear hq hb1
  refine hK.out _ _ ⟨(S.out.at 2 rfl).cell (i := 0) rfl, (S.out.at 2 rfl).cell (i := 1) rfl, (S.out.at 2 rfl).cell (i := 2) rfl, (S.out.at 1 rfl).cell (i := 0) rfl, (S.out.at 1 rfl).cell (i := 1) rfl, (S.out.at 1 rfl).cell (i := 2) rfl⟩ (fun hHeld => ?_)
  clear hK K
  refine wpAnyH_ready (rs := [15]) (by kernel_rfl) (by simp) ?_
  refine AllReadyH.cons rfl (fun K hK => ?_) AllReadyH.nil
  go_simp
  refine (refMake_ok (b := x != y) (S.out.fact 2 rfl) (S.out.fact 0 rfl) (by omega) hD0.out).mono ?_
  rintro e w7 ⟨b9, A9, n9, c9, A10, n10, c10, rfl, hq, hb1⟩
  rw [hQ.out] at hq
  replace S := Lib.hid ((S.out.below hb1).push (stab_ratF _ _ _) hq)
  clear hq hb1
  refine hK.out _ _ ⟨(S.out.at 2 rfl).cell (i := 0) rfl, (S.out.at 2 rfl).cell (i := 1) rfl, (S.out.at 2 rfl).cell (i := 2) rfl, (S.out.at 1 rfl).cell (i := 0) rfl, (S.out.at 1 rfl).cell (i := 1) rfl, (S.out.at 1 rfl).cell (i := 2) rfl⟩ (fun hHeld => ?_)
  clear hK K
  refine wpAnyH_takeD 16 (v := ?_) rfl rfl (by kernel_rfl) (by kernel_rfl) (by kernel_rfl) (fun _ _ _ h => h) (Or.inl ⟨by rfl, ?_⟩) hHeld ?_
  rotate_left
  focus (intro w hSw; (try dsimp only at hSw); go_simp; try with_reducible rfl)
  simp only [List.setIfInBounds_toArray, List.set_cons_zero, List.set_cons_succ]
  refine wpAnyH_takeD 17 (v := ?_) rfl rfl (by kernel_rfl) (by kernel_rfl) (by kernel_rfl) (fun _ _ _ h => h) (Or.inl ⟨by rfl, ?_⟩) hHeld ?_
  rotate_left
  focus (intro w hSw; (try dsimp only at hSw); go_simp; try with_reducible rfl)
  simp only [List.setIfInBounds_toArray, List.set_cons_zero, List.set_cons_succ]
  have c0x0 := (S.out.at 0 rfl).cell (i := 0) rfl
  have f0x0 := (S.out.at 0 rfl).frozen (i := 0)
  have c0x1 := (S.out.at 0 rfl).cell (i := 1) rfl
  have f0x1 := (S.out.at 0 rfl).frozen (i := 1)
  have c0x2 := (S.out.at 0 rfl).cell (i := 2) rfl
  have f0x2 := (S.out.at 0 rfl).frozen (i := 2)
  refine wpAnyH_ready (rs := [18]) (by kernel_rfl) (by simp) ?_
  refine AllReadyH.cons rfl (fun K hK => ?_) AllReadyH.nil
  go_simp
  replace S := Lib.hid (S.out.set3 0 rfl (noint_bool (b := b9)) (noint_slice (A := A9) (n := n9) (c := c9)) (noint_slice (A := A10) (n := n10) (c := c10)) rfl)
  refine hK.out _ _ ⟨(S.out.at 2 rfl).cell (i := 0) rfl, (S.out.at 2 rfl).cell (i := 1) rfl, (S.out.at 2 rfl).cell (i := 2) rfl, (S.out.at 1 rfl).cell (i := 0) rfl, (S.out.at 1 rfl).cell (i := 1) rfl, (S.out.at 1 rfl).cell (i := 2) rfl⟩ (fun hHeld => ?_)
  clear hK K
  refine wpAnyH_takeD 19 (v := ?_) rfl rfl (by kernel_rfl) (by kernel_rfl) (by kernel_rfl) (fun _ _ _ h => h) (Or.inl ⟨by rfl, ?_⟩) hHeld ?_
  rotate_left
  focus (intro w hSw; (try dsimp only at hSw); go_simp; try with_reducible rfl)
  simp only [List.setIfInBounds_toArray, List.set_cons_zero, List.set_cons_succ]
  refine wpAnyH_done (by kernel_rfl) ?_ _
  have c0x0 := (S.out.at 0 rfl).cell (i := 0) rfl
  have c0x1 := (S.out.at 0 rfl).cell (i := 1) rfl
  have c0x2 := (S.out.at 0 rfl).cell (i := 2) rfl
  go_wp2_with fail
  refine bodyPost_ret (v := .tuple #[.agg #[.bool b9, .slice A9 n9 c9, .slice A10 n10 c10], .int .i64 0]) (by simp [results, Tryz.results41, go_sem, c0x0, c0x1, c0x2]) rfl ?_
  exact ⟨b9, A9, n9, c9, A10, n10, c10, rfl, S.out.fact 0 rfl, S.out.low⟩
set_option maxRecDepth 100000 in
set_option maxHeartbeats 8000000 in
theorem refDivQ_zero {w : World} {u v : Value} {q r : Rat} {a b : Nat} (hu : RatF w u q a) (hv : RatF w v r b) (hab : a + b ≤ 90) (h0 : r.num = 0) : Calls Tryz.prog 41 #[u, v] w (ErrT w 10) := by
  have HU := Lib.hid hu
  have HV := Lib.hid hv
  have hO1 := Lib.hid (fun W (hw : Below w.heap.size w W) => one_any (hu.below hw) (by omega))
  have hO2 := Lib.hid (fun W (hw : Below w.heap.size w W) => one_any (hv.below hw) (by omega))
  obtain ⟨A, n, c, A2, n2, c2, rfl⟩ := hu.shape
  obtain ⟨B, m, d, B2, m2, d2, rfl⟩ := hv.shape
  obtain ⟨w1, hw1, S⟩ := enter3 w [.bool (decide (q.num < 0)), .slice A n c, .slice A2 n2 c2] 34 [.bool (decide (r.num < 0)), .slice B m d, .slice B2 m2 d2] 34 [.bool false, .slice none 0 0, .slice none 0 0] 34 (by decide) noint3 (by decide) noint3 (by decide) noint3
  clear hu hv
  obtain ⟨x, hx⟩ : ∃ x, decide (q.num < 0) = x := ⟨_, rfl⟩
  obtain ⟨y, hy⟩ : ∃ y, decide (r.num < 0) = y := ⟨_, rfl⟩
  rw [hx] at hO1 HU S hw1 ⊢
  rw [hy] at hO2 HV S hw1 ⊢
  have hD0 := Lib.hid (show q.den * r.num.natAbs = 0 by rw [h0]; rfl)
  clear h0
  clear hx hy
  go_enter Tryz.func41, Tryz.ntmps41
  go_wp2_with fail
  clear hw1
  refine wp_region_held_drew (S := fun W' => W'.cell? ⟨w.heap.size, 0, none⟩ = some (.bool x) ∧ W'.cell? ⟨w.heap.size, 1, none⟩ = some (.slice A n c) ∧ W'.cell? ⟨w.heap.size, 2, none⟩ = some (.slice A2 n2 c2) ∧ W'.cell? ⟨(w.heap.size + 1), 0, none⟩ = some (.bool y) ∧ W'.cell? ⟨(w.heap.size + 1), 1, none⟩ = some (.slice B m d) ∧ W'.cell? ⟨(w.heap.size + 1), 2, none⟩ = some (.slice B2 m2 d2)) (by kernel_rfl) ⟨(S.out.drew.at 2 rfl).cell (i := 0) rfl, (S.out.drew.at 2 rfl).cell (i := 1) rfl, (S.out.drew.at 2 rfl).cell (i := 2) rfl, (S.out.drew.at 1 rfl).cell (i := 0) rfl, (S.out.drew.at 1 rfl).cell (i := 1) rfl, (S.out.drew.at 1 rfl).cell (i := 2) rfl⟩ (fun hHeld => ?_)
  replace S := Lib.hid S.out.drew
  generalize w1.drew = w2 at S hHeld ⊢
  refine wpAnyH_takeD 0 (v := ?_) rfl rfl (by kernel_rfl) (by kernel_rfl) (by kernel_rfl) (fun _ _ _ h => h) (Or.inl ⟨by rfl, ?_⟩) hHeld ?_
  rotate_left
  focus (intro w hSw; (try dsimp only at hSw); go_simp; try with_reducible rfl)
  simp only [List.setIfInBounds_toArray, List.set_cons_zero, List.set_cons_succ]
  refine wpAnyH_takeD 1 (v := ?_) rfl rfl (by kernel_rfl) (by kernel_rfl) (by kernel_rfl) (fun _ _ _ h => h) (Or.inl ⟨by rfl, ?_⟩) hHeld ?_
  rotate_left
  focus (intro w hSw; (try dsimp only at hSw); go_simp; try with_reducible rfl)
  simp only [List.setIfInBounds_toArray, List.set_cons_zero, List.set_cons_succ]
  refine wpAnyH_takeD 2 (v := ?_) rfl rfl (by kernel_rfl) (by kernel_rfl) (by kernel_rfl) (fun _ _ _ h => h) (Or.inl ⟨by rfl, ?_⟩) hHeld ?_
  rotate_left
  focus (intro w hSw; (try dsimp only at hSw); go_simp; try with_reducible rfl)
  simp only [List.setIfInBounds_toArray, List.set_cons_zero, List.set_cons_succ]
  refine wpAnyH_takeD 3 (v := ?_) rfl rfl (by kernel_rfl) (by kernel_rfl) (by kernel_rfl) (fun _ _ _ h => h) (Or.inl ⟨by rfl, ?_⟩) hHeld ?_
  rotate_left
  focus (intro w hSw; (try dsimp only at hSw); go_simp; try with_reducible rfl)
  simp only [List.setIfInBounds_toArray, List.set_cons_zero, List.set_cons_succ]
  refine wpAnyH_takeD 4 (v := ?_) rfl rfl (by kernel_rfl) (by kernel_rfl) (by kernel_rfl) (fun _ _ _ h => h) (Or.inl ⟨by rfl, ?_⟩) hHeld ?_
  rotate_left
  focus (intro w hSw; (try dsimp only at hSw); go_simp; try with_reducible rfl)
  simp only [List.setIfInBounds_toArray, List.set_cons_zero, List.set_cons_succ]
  refine wpAnyH_takeD 5 (v := ?_) rfl rfl (by kernel_rfl) (by kernel_rfl) (by kernel_rfl) (fun _ _ _ h => h) (Or.inl ⟨by rfl, ?_⟩) hHeld ?_
  rotate_left
  focus (intro w hSw; (try dsimp only at hSw); go_simp; try with_reducible rfl)
  simp only [List.setIfInBounds_toArray, List.set_cons_zero, List.set_cons_succ]
  refine wpAnyH_takeD 6 (v := ?_) rfl rfl (by kernel_rfl) (by kernel_rfl) (by kernel_rfl) (fun _ _ _ h => h) (Or.inl ⟨by rfl, ?_⟩) hHeld ?_
  rotate_left
  focus (intro w hSw; (try dsimp only at hSw); go_simp; try with_reducible rfl)
  simp only [List.setIfInBounds_toArray, List.set_cons_zero, List.set_cons_succ]
  refine wpAnyH_takeD 7 (v := ?_) rfl rfl (by kernel_rfl) (by kernel_rfl) (by kernel_rfl) (fun _ _ _ h => h) (Or.inl ⟨by rfl, ?_⟩) hHeld ?_
  rotate_left
  focus (intro w hSw; (try dsimp only at hSw); go_simp; try with_reducible rfl)
  simp only [List.setIfInBounds_toArray, List.set_cons_zero, List.set_cons_succ]
  refine wpAnyH_takeD 10 (v := ?_) rfl rfl (by kernel_rfl) (by kernel_rfl) (by kernel_rfl) (fun _ _ _ h => h) (Or.inl ⟨by rfl, ?_⟩) hHeld ?_
  rotate_left
  focus (intro w hSw; (try dsimp only at hSw); go_simp; try with_reducible rfl)
  simp only [List.setIfInBounds_toArray, List.set_cons_zero, List.set_cons_succ]
  refine wpAnyH_takeD 12 (v := ?_) rfl rfl (by kernel_rfl) (by kernel_rfl) (by kernel_rfl) (fun _ _ _ h => h) (Or.inl ⟨by rfl, ?_⟩) hHeld ?_
  rotate_left
  focus (intro w hSw; (try dsimp only at hSw); go_simp; try with_reducible rfl)
  simp only [List.setIfInBounds_toArray, List.set_cons_zero, List.set_cons_succ]
  refine wpAnyH_takeD 13 (v := ?_) rfl rfl (by kernel_rfl) (by kernel_rfl) (by kernel_rfl) (fun _ _ _ h => h) (Or.inl ⟨by rfl, ?_⟩) hHeld ?_
  rotate_left
  focus (intro w hSw; (try dsimp only at hSw); go_simp; try with_reducible rfl)
  simp only [List.setIfInBounds_toArray, List.set_cons_zero, List.set_cons_succ]
  refine wpAnyH_ready (rs := [8]) (by kernel_rfl) (by simp) ?_
  refine AllReadyH.cons rfl (fun K hK => ?_) AllReadyH.nil
  go_simp
  refine (hO2.out _ S.out.low).mono ?_
  rintro e w3 ⟨A3, n3, c3, rfl, hq, hb1⟩
  replace S := Lib.hid ((S.out.below hb1).push (stab_refB _ _ _) hq)
  clear hq hb1
  refine hK.out _ _ ⟨(S.out.at 2 rfl).cell (i := 0) rfl, (S.out.at 2 rfl).cell (i := 1) rfl, (S.out.at 2 rfl).cell (i := 2) rfl, (S.out.at 1 rfl).cell (i := 0) rfl, (S.out.at 1 rfl).cell (i := 1) rfl, (S.out.at 1 rfl).cell (i := 2) rfl⟩ (fun hHeld => ?_)
  clear hK K
  refine wpAnyH_ready (rs := [9]) (by kernel_rfl) (by simp) ?_
  refine AllReadyH.cons rfl (fun K hK => ?_) AllReadyH.nil
  go_simp
  refine (mulF_ (HU.out.parts.2.1.below S.out.low) (S.out.fact 0 rfl) (by omega) (by omega)).mono ?_
  rintro e w4 ⟨A4, n4, c4, rfl, hq, hb1⟩
  replace S := Lib.hid ((S.out.below hb1).push (stab_refB _ _ _) hq)
  clear hq hb1
  refine hK.out _ _ ⟨(S.out.at 2 rfl).cell (i := 0) rfl, (S.out.at 2 rfl).cell (i := 1) rfl, (S.out.at 2 rfl).cell (i := 2) rfl, (S.out.at 1 rfl).cell (i := 0) rfl, (S.out.at 1 rfl).cell (i := 1) rfl, (S.out.at 1 rfl).cell (i := 2) rfl⟩ (fun hHeld => ?_)
  clear hK K
  refine wpAnyH_ready (rs := [11]) (by kernel_rfl) (by simp) ?_
  refine AllReadyH.cons rfl (fun K hK => ?_) AllReadyH.nil
  go_simp
  refine (hO1.out _ S.out.low).mono ?_
  rintro e w5 ⟨A5, n5, c5, rfl, hq, hb1⟩
  replace S := Lib.hid ((S.out.below hb1).push (stab_refB _ _ _) hq)
  clear hq hb1
  refine hK.out _ _ ⟨(S.out.at 2 rfl).cell (i := 0) rfl, (S.out.at 2 rfl).cell (i := 1) rfl, (S.out.at 2 rfl).cell (i := 2) rfl, (S.out.at 1 rfl).cell (i := 0) rfl, (S.out.at 1 rfl).cell (i := 1) rfl, (S.out.at 1 rfl).cell (i := 2) rfl⟩ (fun hHeld => ?_)
  clear hK K
  refine wpAnyH_ready (rs := [14]) (by kernel_rfl) (by simp) ?_
  refine AllReadyH.cons rfl (fun K hK => ?_) AllReadyH.nil
  go_simp
  refine (mulF_ (S.out.fact 0 rfl) (HV.out.parts.2.1.below S.out.low) (by omega) (by omega)).mono ?_
  rintro e w6 ⟨A6, n6, c6, rfl, hq, hb1⟩
  replace S := Lib.hid ((S.out.below hb1).push (stab_refB _ _ _) hq)
  clear hq hb1
  refine hK.out _ _ ⟨(S.out.at 2 rfl).cell (i := 0) rfl, (S.out.at 2 rfl).cell (i := 1) rfl, (S.out.at 2 rfl).cell (i := 2) rfl, (S.out.at 1 rfl).cell (i := 0) rfl, (S.out.at 1 rfl).cell (i := 1) rfl, (S.out.at 1 rfl).cell (i := 2) rfl⟩ (fun hHeld => ?_)
  clear hK K
  refine wpAnyH_ready (rs := [15]) (by kernel_rfl) (by simp) ?_
  refine AllReadyH.cons rfl (fun K hK => ?_) AllReadyH.nil
  go_simp
  refine (refMake_zero (b := x != y) (a := a + b) (hD0.out ▸ S.out.fact 0 rfl)).mono ?_
  rintro e w7 ⟨rfl, hb1⟩
  replace S := Lib.hid (S.out.below hb1)
  clear hb1
  refine hK.out _ _ ⟨(S.out.at 2 rfl).cell (i := 0) rfl, (S.out.at 2 rfl).cell (i := 1) rfl, (S.out.at 2 rfl).cell (i := 2) rfl, (S.out.at 1 rfl).cell (i := 0) rfl, (S.out.at 1 rfl).cell (i := 1) rfl, (S.out.at 1 rfl).cell (i := 2) rfl⟩ (fun hHeld => ?_)
  clear hK K
  refine wpAnyH_takeD 16 (v := ?_) rfl rfl (by kernel_rfl) (by kernel_rfl) (by kernel_rfl) (fun _ _ _ h => h) (Or.inl ⟨by rfl, ?_⟩) hHeld ?_
  rotate_left
  focus (intro w hSw; (try dsimp only at hSw); go_simp; try with_reducible rfl)
  simp only [List.setIfInBounds_toArray, List.set_cons_zero, List.set_cons_succ]
  refine wpAnyH_takeD 17 (v := ?_) rfl rfl (by kernel_rfl) (by kernel_rfl) (by kernel_rfl) (fun _ _ _ h => h) (Or.inl ⟨by rfl, ?_⟩) hHeld ?_
  rotate_left
  focus (intro w hSw; (try dsimp only at hSw); go_simp; try with_reducible rfl)
  simp only [List.setIfInBounds_toArray, List.set_cons_zero, List.set_cons_succ]
  have c0x0 := (S.out.at 0 rfl).cell (i := 0) rfl
  have f0x0 := (S.out.at 0 rfl).frozen (i := 0)
  have c0x1 := (S.out.at 0 rfl).cell (i := 1) rfl
  have f0x1 := (S.out.at 0 rfl).frozen (i := 1)
  have c0x2 := (S.out.at 0 rfl).cell (i := 2) rfl
  have f0x2 := (S.out.at 0 rfl).frozen (i := 2)
  refine wpAnyH_ready (rs := [18]) (by kernel_rfl) (by simp) ?_
  refine AllReadyH.cons rfl (fun K hK => ?_) AllReadyH.nil
  go_simp
  replace S := Lib.hid (S.out.set3 0 rfl (noint_bool (b := false)) (noint_slice (A := none) (n := 0) (c := 0)) (noint_slice (A := none) (n := 0) (c := 0)) rfl)
  refine hK.out _ _ ⟨(S.out.at 2 rfl).cell (i := 0) rfl, (S.out.at 2 rfl).cell (i := 1) rfl, (S.out.at 2 rfl).cell (i := 2) rfl, (S.out.at 1 rfl).cell (i := 0) rfl, (S.out.at 1 rfl).cell (i := 1) rfl, (S.out.at 1 rfl).cell (i := 2) rfl⟩ (fun hHeld => ?_)
  clear hK K
  refine wpAnyH_takeD 19 (v := ?_) rfl rfl (by kernel_rfl) (by kernel_rfl) (by kernel_rfl) (fun _ _ _ h => h) (Or.inl ⟨by rfl, ?_⟩) hHeld ?_
  rotate_left
  focus (intro w hSw; (try dsimp only at hSw); go_simp; try with_reducible rfl)
  simp only [List.setIfInBounds_toArray, List.set_cons_zero, List.set_cons_succ]
  refine wpAnyH_done (by kernel_rfl) ?_ _
  have c0x0 := (S.out.at 0 rfl).cell (i := 0) rfl
  have c0x1 := (S.out.at 0 rfl).cell (i := 1) rfl
  have c0x2 := (S.out.at 0 rfl).cell (i := 2) rfl
  go_wp2_with fail
  refine bodyPost_ret (v := .tuple #[.agg #[.bool false, .slice none 0 0, .slice none 0 0], .int .i64 10]) (by simp [results, Tryz.results41, go_sem, c0x0, c0x1, c0x2]) rfl ?_
  exact ⟨rfl, S.out.low⟩
set_option maxRecDepth 100000 in
set_option maxHeartbeats 8000000 in
theorem refSign_any {w : World} {v : Value} {q : Rat} {a : Nat} (h : RatF w v q a) (_ha : a ≤ 400) : Calls Tryz.prog 39 #[v] w fun e w' => e = .returned (.int .i64 q.num.sign) ∧ Below w.heap.size w w' := by
  obtain ⟨A, n, c, A2, n2, c2, rfl⟩ := h.shape
  obtain ⟨-, h1, -⟩ := h.parts
  have hz := h1.n_zero
  have hl := h1.n_le
  obtain ⟨w1, hw1, S⟩ := enter1 w [.bool (decide (q.num < 0)), .slice A n c, .slice A2 n2 c2] 34 (by decide) noint3
  by_cases h0 : q.num = 0
  · obtain rfl : n = 0 := hz.2 (by rw [h0]; rfl)
    generalize decide (q.num < 0) = x at S hw1 ⊢
    rw [h0, show Int.sign 0 = 0 from rfl]
    have c0x0 := (S.out.at 0 rfl).cell (i := 0) rfl
    have c0x1 := (S.out.at 0 rfl).cell (i := 1) rfl
    have c0x2 := (S.out.at 0 rfl).cell (i := 2) rfl
    clear h h1 hz hl h0
    go_enter Tryz.func39, Tryz.ntmps39
    go_wp2_with fail
    go_ret
    exact ⟨rfl, S.out.low⟩
  · have hn : 0 < n := by rcases Nat.eq_zero_or_pos n with h2 | h2; (have := hz.1 h2; omega); exact h2
    by_cases hneg : q.num < 0
    · rw [Int.sign_eq_neg_one_of_neg hneg]
      rw [decide_eq_true hneg] at S hw1 ⊢
      have c0x0 := (S.out.at 0 rfl).cell (i := 0) rfl
      have c0x1 := (S.out.at 0 rfl).cell (i := 1) rfl
      have c0x2 := (S.out.at 0 rfl).cell (i := 2) rfl
      clear h h1 hz h0 hneg
      go_enter Tryz.func39, Tryz.ntmps39
      go_wp2_with fail
      go_ret
      exact ⟨rfl, S.out.low⟩
    · rw [Int.sign_eq_one_of_pos (by omega)]
      rw [decide_eq_false hneg] at S hw1 ⊢
      have c0x0 := (S.out.at 0 rfl).cell (i := 0) rfl
      have c0x1 := (S.out.at 0 rfl).cell (i := 1) rfl
      have c0x2 := (S.out.at 0 rfl).cell (i := 2) rfl
      clear h h1 hz h0 hneg
      go_enter Tryz.func39, Tryz.ntmps39
      go_wp2_with fail
      go_ret
      exact ⟨rfl, S.out.low⟩
theorem cmp_sub (q r : Rat) : (q - r).num.sign = cmpQ q r := by
  have h : (q - r).num.sign = (q.num * r.den - r.num * q.den).sign := by
    rw [Rat.sub_def']
    have hd : q.den * r.den ≠ 0 := Nat.mul_ne_zero (Nat.ne_of_gt q.den_pos) (Nat.ne_of_gt r.den_pos)
    generalize q.den * r.den = D at hd ⊢
    generalize q.num * r.den - r.num * q.den = N
    rw [Rat.num_mkRat, if_neg hd]
    have hg : 0 < D.gcd N.natAbs := Nat.gcd_pos_of_pos_left _ (by omega)
    have hdv : ((D.gcd N.natAbs : Nat) : Int) ∣ N := Int.ofNat_dvd_left.2 (Nat.gcd_dvd_right _ _)
    obtain ⟨k, hk⟩ := hdv
    generalize D.gcd N.natAbs = g at hg hk ⊢
    have hs : (g : Int).sign = 1 := Int.sign_eq_one_of_pos (by omega)
    rw [hk, Int.mul_ediv_cancel_left _ (by omega), Int.sign_mul, hs, Int.one_mul]
  rw [h]
  unfold cmpQ cmpZ
  generalize q.num * (r.den : Int) = X
  generalize r.num * (q.den : Int) = Y
  by_cases h1 : X < Y
  · rw [if_pos h1, Int.sign_eq_neg_one_of_neg (by omega)]
  · rw [if_neg h1]
    by_cases h2 : Y < X
    · rw [if_pos h2, Int.sign_eq_one_of_pos (by omega)]
    · rw [if_neg h2, show X - Y = 0 by omega]; rfl
set_option maxRecDepth 100000 in
set_option maxHeartbeats 8000000 in
theorem refCmpQ_any {w : World} {u v : Value} {q r : Rat} {a b : Nat} (hu : RatF w u q a) (hv : RatF w v r b) (hab : a + b ≤ 90) : Calls Tryz.prog 38 #[u, v] w fun e w' => e = .returned (.int .i64 (cmpQ q r)) ∧ Below w.heap.size w w' := by
  have hS := Lib.hid (fun W (hw : Below w.heap.size w W) => refSubQ_any (hu.below hw) (hv.below hw) hab)
  obtain ⟨A, n, c, A2, n2, c2, rfl⟩ := hu.shape
  obtain ⟨B, m, d, B2, m2, d2, rfl⟩ := hv.shape
  obtain ⟨w1, hw1, S⟩ := enter2 w [.bool (decide (q.num < 0)), .slice A n c, .slice A2 n2 c2] 34 [.bool (decide (r.num < 0)), .slice B m d, .slice B2 m2 d2] 34 (by decide) noint3 (by decide) noint3
  rw [← cmp_sub]
  have hSg := Lib.hid (fun W v (h : RatF W v (q - r) (a + b + 1)) => refSign_any h (by omega))
  clear hu hv
  generalize decide (q.num < 0) = x at hS S hw1 ⊢
  generalize decide (r.num < 0) = y at hS S hw1 ⊢
  generalize q - r = z at hS hSg ⊢
  have c1x0 := (S.out.at 1 rfl).cell (i := 0) rfl
  have c1x1 := (S.out.at 1 rfl).cell (i := 1) rfl
  have c1x2 := (S.out.at 1 rfl).cell (i := 2) rfl
  have c0x0 := (S.out.at 0 rfl).cell (i := 0) rfl
  have c0x1 := (S.out.at 0 rfl).cell (i := 1) rfl
  have c0x2 := (S.out.at 0 rfl).cell (i := 2) rfl
  go_enter Tryz.func38, Tryz.ntmps38
  go_wp2_with fail
  refine (hS.out _ S.out.low).mono ?_
  rintro e w2 ⟨b9, A9, n9, c9, A10, n10, c10, rfl, hq, hb⟩
  replace S := Lib.hid (S.out.below hb)
  clear hw1 hb c1x0 c1x1 c1x2 c0x0 c0x1 c0x2
  go_wp2_with fail
  refine (hSg.out _ _ hq).mono ?_
  rintro e w3 ⟨rfl, hb⟩
  go_wp2_with fail
  go_ret
  exact ⟨rfl, (S.out.below hb).low⟩
set_option maxRecDepth 100000 in
set_option maxHeartbeats 8000000 in
theorem refFloor_any {w : World} {v : Value} {q : Rat} {a : Nat} (hu : RatF w v q a) (ha : a ≤ 90) : Calls Tryz.prog 46 #[v] w (OpG w (mkRat q.floor 1) (a + 3)) := by
  have HU := Lib.hid hu
  have hO1 := Lib.hid (fun W (hw : Below w.heap.size w W) => one_any (hu.below hw) (by omega))
  obtain ⟨A, n, c, A2, n2, c2, rfl⟩ := hu.shape
  obtain ⟨w1, hw1, S⟩ := enter2 w [.bool (decide (q.num < 0)), .slice A n c, .slice A2 n2 c2] 34 [.bool false, .slice none 0 0, .slice none 0 0] 34 (by decide) noint3 (by decide) noint3
  clear hu
  obtain ⟨x, hx⟩ : ∃ x, decide (q.num < 0) = x := ⟨_, rfl⟩
  rw [hx] at hO1 HU S hw1 ⊢
  have hOf := Lib.hid (fun W => ofF (W := W) 1 (k := 1) rfl (by omega))
  have hlt := Lib.hid (one_lt (a := a + 3) (by omega))
  have hM := Lib.hid (fun W A n c k B m d (h1 : RefB W (.slice A n c) k (a + 3)) (h2 : RefB W (.slice B m d) 1 (a + 3)) => made_any (b := x) h1 h2 (by omega) (by omega))
  cases x
  · have hFl := Lib.hid (floor_pos (q := q) (by simpa using hx))
    clear hx
    go_enter Tryz.func46, Tryz.ntmps46
    go_wp2_with fail
    clear hw1
    refine wp_region_held_drew (S := fun W' => W'.cell? ⟨w.heap.size, 0, none⟩ = some (.bool false) ∧ W'.cell? ⟨w.heap.size, 1, none⟩ = some (.slice A n c) ∧ W'.cell? ⟨w.heap.size, 2, none⟩ = some (.slice A2 n2 c2)) (by kernel_rfl) ⟨(S.out.drew.at 1 rfl).cell (i := 0) rfl, (S.out.drew.at 1 rfl).cell (i := 1) rfl, (S.out.drew.at 1 rfl).cell (i := 2) rfl⟩ (fun hHeld => ?_)
    replace S := Lib.hid S.out.drew
    generalize w1.drew = w2 at S hHeld ⊢
    refine wpAnyH_takeD 0 (v := ?_) rfl rfl (by kernel_rfl) (by kernel_rfl) (by kernel_rfl) (fun _ _ _ h => h) (Or.inl ⟨by rfl, ?_⟩) hHeld ?_
    rotate_left
    focus (intro w hSw; (try dsimp only at hSw); go_simp; try with_reducible rfl)
    simp only [List.setIfInBounds_toArray, List.set_cons_zero, List.set_cons_succ]
    refine wpAnyH_takeD 1 (v := ?_) rfl rfl (by kernel_rfl) (by kernel_rfl) (by kernel_rfl) (fun _ _ _ h => h) (Or.inl ⟨by rfl, ?_⟩) hHeld ?_
    rotate_left
    focus (intro w hSw; (try dsimp only at hSw); go_simp; try with_reducible rfl)
    simp only [List.setIfInBounds_toArray, List.set_cons_zero, List.set_cons_succ]
    refine wpAnyH_takeD 2 (v := ?_) rfl rfl (by kernel_rfl) (by kernel_rfl) (by kernel_rfl) (fun _ _ _ h => h) (Or.inl ⟨by rfl, ?_⟩) hHeld ?_
    rotate_left
    focus (intro w hSw; (try dsimp only at hSw); go_simp; try with_reducible rfl)
    simp only [List.setIfInBounds_toArray, List.set_cons_zero, List.set_cons_succ]
    refine wpAnyH_ready (rs := [3]) (by kernel_rfl) (by simp) ?_
    refine AllReadyH.cons rfl (fun K hK => ?_) AllReadyH.nil
    go_simp
    refine (hO1.out _ S.out.low).mono ?_
    rintro e w3 ⟨A3, n3, c3, rfl, hq, hb1⟩
    replace S := Lib.hid ((S.out.below hb1).push (stab_refB _ _ _) hq)
    clear hq hb1
    refine hK.out _ _ ⟨(S.out.at 1 rfl).cell (i := 0) rfl, (S.out.at 1 rfl).cell (i := 1) rfl, (S.out.at 1 rfl).cell (i := 2) rfl⟩ (fun hHeld => ?_)
    clear hK K
    refine wpAnyH_ready (rs := [4]) (by kernel_rfl) (by simp) ?_
    refine AllReadyH.cons rfl (fun K hK => ?_) AllReadyH.nil
    go_simp
    refine (divF (HU.out.parts.2.1.below S.out.low) (S.out.fact 0 rfl) (by omega) (by omega) q.den_pos).mono ?_
    rintro e w4 ⟨A4, n4, c4, A5, n5, c5, rfl, hq1, hq2, hb1⟩
    replace S := Lib.hid (((S.out.below hb1).push (stab_refB _ _ _) hq1).push (stab_refB _ _ _) hq2)
    clear hq1 hq2 hb1
    refine hK.out _ _ ⟨(S.out.at 1 rfl).cell (i := 0) rfl, (S.out.at 1 rfl).cell (i := 1) rfl, (S.out.at 1 rfl).cell (i := 2) rfl⟩ (fun hHeld => ?_)
    clear hK K
    refine wpAnyH_takeD 5 (v := ?_) rfl rfl (by kernel_rfl) (by kernel_rfl) (by kernel_rfl) (fun _ _ _ h => h) (Or.inl ⟨by rfl, ?_⟩) hHeld ?_
    rotate_left
    focus (intro w hSw; (try dsimp only at hSw); go_simp; try with_reducible rfl)
    simp only [List.setIfInBounds_toArray, List.set_cons_zero, List.set_cons_succ]
    refine wpAnyH_takeD 6 (v := ?_) rfl rfl (by kernel_rfl) (by kernel_rfl) (by kernel_rfl) (fun _ _ _ h => h) (Or.inl ⟨by rfl, ?_⟩) hHeld ?_
    rotate_left
    focus (intro w hSw; (try dsimp only at hSw); go_simp; try with_reducible rfl)
    simp only [List.setIfInBounds_toArray, List.set_cons_zero, List.set_cons_succ]
    refine wpAnyH_takeD 7 (v := ?_) rfl rfl (by kernel_rfl) (by kernel_rfl) (by kernel_rfl) (fun _ _ _ h => h) (Or.inl ⟨by rfl, ?_⟩) hHeld ?_
    rotate_left
    focus (intro w hSw; (try dsimp only at hSw); go_simp; try with_reducible rfl)
    simp only [List.setIfInBounds_toArray, List.set_cons_zero, List.set_cons_succ]
    refine wpAnyH_takeD 8 (v := ?_) rfl rfl (by kernel_rfl) (by kernel_rfl) (by kernel_rfl) (fun _ _ _ h => h) (Or.inl ⟨by rfl, ?_⟩) hHeld ?_
    rotate_left
    focus (intro w hSw; (try dsimp only at hSw); go_simp; try with_reducible rfl)
    simp only [List.setIfInBounds_toArray, List.set_cons_zero, List.set_cons_succ]
    refine wpAnyH_takeD 9 (v := ?_) rfl rfl (by kernel_rfl) (by kernel_rfl) (by kernel_rfl) (fun _ _ _ h => h) (Or.inl ⟨by rfl, ?_⟩) hHeld ?_
    rotate_left
    focus (intro w hSw; (try dsimp only at hSw); go_simp; try with_reducible rfl)
    simp only [List.setIfInBounds_toArray, List.set_cons_zero, List.set_cons_succ]
    refine wpAnyH_takeD 10 (v := ?_) rfl rfl (by kernel_rfl) (by kernel_rfl) (by kernel_rfl) (fun _ _ _ h => h) (Or.inl ⟨by rfl, ?_⟩) hHeld ?_
    rotate_left
    focus (intro w hSw; (try dsimp only at hSw); go_simp; try with_reducible rfl)
    simp only [List.setIfInBounds_toArray, List.set_cons_zero, List.set_cons_succ]
    refine wpAnyH_takeD 11 (v := ?_) rfl rfl (by kernel_rfl) (by kernel_rfl) (by kernel_rfl) (fun _ _ _ h => h) (Or.inl ⟨by rfl, ?_⟩) hHeld ?_
    rotate_left
    focus (intro w hSw; (try dsimp only at hSw); go_simp; try with_reducible rfl)
    simp only [List.setIfInBounds_toArray, List.set_cons_zero, List.set_cons_succ]
    refine wpAnyH_done (by kernel_rfl) ?_ _
    have hrz := RefB.n_zero (S.out.fact 0 rfl)
    have hrl := RefB.n_le (S.out.fact 0 rfl)
    have c1x0 := (S.out.at 1 rfl).cell (i := 0) rfl
    clear hrz
    go_wp2_with fail
    clear c1x0 hrl
    refine wp_region_held_drew (S := fun W' => W'.cell? ⟨w.heap.size, 0, none⟩ = some (.bool false)) (by kernel_rfl) ((S.out.drew.at 1 rfl).cell (i := 0) rfl) (fun hHeld => ?_)
    replace S := Lib.hid S.out.drew
    generalize w4.drew = w5 at S hHeld ⊢
    refine wpAnyH_takeD 0 (v := ?_) rfl rfl (by kernel_rfl) (by kernel_rfl) (by kernel_rfl) (fun _ _ _ h => h) (Or.inl ⟨by rfl, ?_⟩) hHeld ?_
    rotate_left
    focus (intro w hSw; (try dsimp only at hSw); go_simp; try with_reducible rfl)
    simp only [List.setIfInBounds_toArray, List.set_cons_zero, List.set_cons_succ]
    refine wpAnyH_takeD 1 (v := ?_) rfl rfl (by kernel_rfl) (by kernel_rfl) (by kernel_rfl) (fun _ _ _ h => h) (Or.inl ⟨by rfl, ?_⟩) hHeld ?_
    rotate_left
    focus (intro w hSw; (try dsimp only at hSw); go_simp; try with_reducible rfl)
    simp only [List.setIfInBounds_toArray, List.set_cons_zero, List.set_cons_succ]
    refine wpAnyH_takeD 2 (v := ?_) rfl rfl (by kernel_rfl) (by kernel_rfl) (by kernel_rfl) (fun _ _ _ h => h) (Or.inl ⟨by rfl, ?_⟩) hHeld ?_
    rotate_left
    focus (intro w hSw; (try dsimp only at hSw); go_simp; try with_reducible rfl)
    simp only [List.setIfInBounds_toArray, List.set_cons_zero, List.set_cons_succ]
    refine wpAnyH_ready (rs := [3]) (by kernel_rfl) (by simp) ?_
    refine AllReadyH.cons rfl (fun K hK => ?_) AllReadyH.nil
    go_simp
    refine (hOf.out _).mono ?_
    rintro e wf1 ⟨A7, n7, c7, rfl, hq, hb1⟩
    replace S := Lib.hid ((S.out.below hb1).push (stab_refB _ _ _) ⟨hq.1, hq.2.1, hlt.out⟩)
    clear hq hb1
    refine hK.out _ _ ((S.out.at 1 rfl).cell (i := 0) rfl) (fun hHeld => ?_)
    clear hK K
    refine wpAnyH_ready (rs := [4]) (by kernel_rfl) (by simp) ?_
    refine AllReadyH.cons rfl (fun K hK => ?_) AllReadyH.nil
    go_simp
    refine (hM.out _ _ _ _ _ _ _ _ ((S.out.fact 2 rfl).more (by omega)) (S.out.fact 0 rfl)).mono ?_
    rintro e wf2 ⟨b9, A9, n9, c9, A10, n10, c10, rfl, hq, hb1⟩
    rw [hFl.out] at hq
    replace S := Lib.hid ((S.out.below hb1).push (stab_ratF _ _ _) hq)
    clear hq hb1
    refine hK.out _ _ ((S.out.at 1 rfl).cell (i := 0) rfl) (fun hHeld => ?_)
    clear hK K
    have c0x0 := (S.out.at 0 rfl).cell (i := 0) rfl
    have f0x0 := (S.out.at 0 rfl).frozen (i := 0)
    have c0x1 := (S.out.at 0 rfl).cell (i := 1) rfl
    have f0x1 := (S.out.at 0 rfl).frozen (i := 1)
    have c0x2 := (S.out.at 0 rfl).cell (i := 2) rfl
    have f0x2 := (S.out.at 0 rfl).frozen (i := 2)
    refine wpAnyH_ready (rs := [5]) (by kernel_rfl) (by simp) ?_
    refine AllReadyH.cons rfl (fun K hK => ?_) AllReadyH.nil
    go_simp
    replace S := Lib.hid (S.out.set3 0 rfl (noint_bool (b := b9)) (noint_slice (A := A9) (n := n9) (c := c9)) (noint_slice (A := A10) (n := n10) (c := c10)) rfl)
    refine hK.out _ _ ((S.out.at 1 rfl).cell (i := 0) rfl) (fun hHeld => ?_)
    clear hK K
    refine wpAnyH_done (by kernel_rfl) ?_ _
    have c0x0 := (S.out.at 0 rfl).cell (i := 0) rfl
    have c0x1 := (S.out.at 0 rfl).cell (i := 1) rfl
    have c0x2 := (S.out.at 0 rfl).cell (i := 2) rfl
    go_wp2_with fail
    refine bodyPost_ret (v := .agg #[.bool b9, .slice A9 n9 c9, .slice A10 n10 c10]) (by simp [results, Tryz.results46, go_sem, c0x0, c0x1, c0x2]) rfl ?_
    exact ⟨b9, A9, n9, c9, A10, n10, c10, rfl, S.out.fact 0 rfl, S.out.low⟩
  · have hFl0 := floor_neg (q := q) (by simpa using hx)
    clear hx
    go_enter Tryz.func46, Tryz.ntmps46
    go_wp2_with fail
    clear hw1
    refine wp_region_held_drew (S := fun W' => W'.cell? ⟨w.heap.size, 0, none⟩ = some (.bool true) ∧ W'.cell? ⟨w.heap.size, 1, none⟩ = some (.slice A n c) ∧ W'.cell? ⟨w.heap.size, 2, none⟩ = some (.slice A2 n2 c2)) (by kernel_rfl) ⟨(S.out.drew.at 1 rfl).cell (i := 0) rfl, (S.out.drew.at 1 rfl).cell (i := 1) rfl, (S.out.drew.at 1 rfl).cell (i := 2) rfl⟩ (fun hHeld => ?_)
    replace S := Lib.hid S.out.drew
    generalize w1.drew = w2 at S hHeld ⊢
    refine wpAnyH_takeD 0 (v := ?_) rfl rfl (by kernel_rfl) (by kernel_rfl) (by kernel_rfl) (fun _ _ _ h => h) (Or.inl ⟨by rfl, ?_⟩) hHeld ?_
    rotate_left
    focus (intro w hSw; (try dsimp only at hSw); go_simp; try with_reducible rfl)
    simp only [List.setIfInBounds_toArray, List.set_cons_zero, List.set_cons_succ]
    refine wpAnyH_takeD 1 (v := ?_) rfl rfl (by kernel_rfl) (by kernel_rfl) (by kernel_rfl) (fun _ _ _ h => h) (Or.inl ⟨by rfl, ?_⟩) hHeld ?_
    rotate_left
    focus (intro w hSw; (try dsimp only at hSw); go_simp; try with_reducible rfl)
    simp only [List.setIfInBounds_toArray, List.set_cons_zero, List.set_cons_succ]
    refine wpAnyH_takeD 2 (v := ?_) rfl rfl (by kernel_rfl) (by kernel_rfl) (by kernel_rfl) (fun _ _ _ h => h) (Or.inl ⟨by rfl, ?_⟩) hHeld ?_
    rotate_left
    focus (intro w hSw; (try dsimp only at hSw); go_simp; try with_reducible rfl)
    simp only [List.setIfInBounds_toArray, List.set_cons_zero, List.set_cons_succ]
    refine wpAnyH_ready (rs := [3]) (by kernel_rfl) (by simp) ?_
    refine AllReadyH.cons rfl (fun K hK => ?_) AllReadyH.nil
    go_simp
    refine (hO1.out _ S.out.low).mono ?_
    rintro e w3 ⟨A3, n3, c3, rfl, hq, hb1⟩
    replace S := Lib.hid ((S.out.below hb1).push (stab_refB _ _ _) hq)
    clear hq hb1
    refine hK.out _ _ ⟨(S.out.at 1 rfl).cell (i := 0) rfl, (S.out.at 1 rfl).cell (i := 1) rfl, (S.out.at 1 rfl).cell (i := 2) rfl⟩ (fun hHeld => ?_)
    clear hK K
    refine wpAnyH_ready (rs := [4]) (by kernel_rfl) (by simp) ?_
    refine AllReadyH.cons rfl (fun K hK => ?_) AllReadyH.nil
    go_simp
    refine (divF (HU.out.parts.2.1.below S.out.low) (S.out.fact 0 rfl) (by omega) (by omega) q.den_pos).mono ?_
    rintro e w4 ⟨A4, n4, c4, A5, n5, c5, rfl, hq1, hq2, hb1⟩
    replace S := Lib.hid (((S.out.below hb1).push (stab_refB _ _ _) hq1).push (stab_refB _ _ _) hq2)
    clear hq1 hq2 hb1
    refine hK.out _ _ ⟨(S.out.at 1 rfl).cell (i := 0) rfl, (S.out.at 1 rfl).cell (i := 1) rfl, (S.out.at 1 rfl).cell (i := 2) rfl⟩ (fun hHeld => ?_)
    clear hK K
    refine wpAnyH_takeD 5 (v := ?_) rfl rfl (by kernel_rfl) (by kernel_rfl) (by kernel_rfl) (fun _ _ _ h => h) (Or.inl ⟨by rfl, ?_⟩) hHeld ?_
    rotate_left
    focus (intro w hSw; (try dsimp only at hSw); go_simp; try with_reducible rfl)
    simp only [List.setIfInBounds_toArray, List.set_cons_zero, List.set_cons_succ]
    refine wpAnyH_takeD 6 (v := ?_) rfl rfl (by kernel_rfl) (by kernel_rfl) (by kernel_rfl) (fun _ _ _ h => h) (Or.inl ⟨by rfl, ?_⟩) hHeld ?_
    rotate_left
    focus (intro w hSw; (try dsimp only at hSw); go_simp; try with_reducible rfl)
    simp only [List.setIfInBounds_toArray, List.set_cons_zero, List.set_cons_succ]
    refine wpAnyH_takeD 7 (v := ?_) rfl rfl (by kernel_rfl) (by kernel_rfl) (by kernel_rfl) (fun _ _ _ h => h) (Or.inl ⟨by rfl, ?_⟩) hHeld ?_
    rotate_left
    focus (intro w hSw; (try dsimp only at hSw); go_simp; try with_reducible rfl)
    simp only [List.setIfInBounds_toArray, List.set_cons_zero, List.set_cons_succ]
    refine wpAnyH_takeD 8 (v := ?_) rfl rfl (by kernel_rfl) (by kernel_rfl) (by kernel_rfl) (fun _ _ _ h => h) (Or.inl ⟨by rfl, ?_⟩) hHeld ?_
    rotate_left
    focus (intro w hSw; (try dsimp only at hSw); go_simp; try with_reducible rfl)
    simp only [List.setIfInBounds_toArray, List.set_cons_zero, List.set_cons_succ]
    refine wpAnyH_takeD 9 (v := ?_) rfl rfl (by kernel_rfl) (by kernel_rfl) (by kernel_rfl) (fun _ _ _ h => h) (Or.inl ⟨by rfl, ?_⟩) hHeld ?_
    rotate_left
    focus (intro w hSw; (try dsimp only at hSw); go_simp; try with_reducible rfl)
    simp only [List.setIfInBounds_toArray, List.set_cons_zero, List.set_cons_succ]
    refine wpAnyH_takeD 10 (v := ?_) rfl rfl (by kernel_rfl) (by kernel_rfl) (by kernel_rfl) (fun _ _ _ h => h) (Or.inl ⟨by rfl, ?_⟩) hHeld ?_
    rotate_left
    focus (intro w hSw; (try dsimp only at hSw); go_simp; try with_reducible rfl)
    simp only [List.setIfInBounds_toArray, List.set_cons_zero, List.set_cons_succ]
    refine wpAnyH_takeD 11 (v := ?_) rfl rfl (by kernel_rfl) (by kernel_rfl) (by kernel_rfl) (fun _ _ _ h => h) (Or.inl ⟨by rfl, ?_⟩) hHeld ?_
    rotate_left
    focus (intro w hSw; (try dsimp only at hSw); go_simp; try with_reducible rfl)
    simp only [List.setIfInBounds_toArray, List.set_cons_zero, List.set_cons_succ]
    refine wpAnyH_done (by kernel_rfl) ?_ _
    have hrz := RefB.n_zero (S.out.fact 0 rfl)
    have hrl := RefB.n_le (S.out.fact 0 rfl)
    have c1x0 := (S.out.at 1 rfl).cell (i := 0) rfl
    by_cases hm : q.num.natAbs % q.den = 0
    · rw [if_pos hm] at hFl0
      have hFl := Lib.hid hFl0
      obtain rfl : n5 = 0 := hrz.2 hm
      clear hFl0 hm hrz
      go_wp2_with fail
      clear c1x0 hrl
      refine wp_region_held_drew (S := fun W' => W'.cell? ⟨w.heap.size, 0, none⟩ = some (.bool true)) (by kernel_rfl) ((S.out.drew.at 1 rfl).cell (i := 0) rfl) (fun hHeld => ?_)
      replace S := Lib.hid S.out.drew
      generalize w4.drew = w5 at S hHeld ⊢
      refine wpAnyH_takeD 0 (v := ?_) rfl rfl (by kernel_rfl) (by kernel_rfl) (by kernel_rfl) (fun _ _ _ h => h) (Or.inl ⟨by rfl, ?_⟩) hHeld ?_
      rotate_left
      focus (intro w hSw; (try dsimp only at hSw); go_simp; try with_reducible rfl)
      simp only [List.setIfInBounds_toArray, List.set_cons_zero, List.set_cons_succ]
      refine wpAnyH_takeD 1 (v := ?_) rfl rfl (by kernel_rfl) (by kernel_rfl) (by kernel_rfl) (fun _ _ _ h => h) (Or.inl ⟨by rfl, ?_⟩) hHeld ?_
      rotate_left
      focus (intro w hSw; (try dsimp only at hSw); go_simp; try with_reducible rfl)
      simp only [List.setIfInBounds_toArray, List.set_cons_zero, List.set_cons_succ]
      refine wpAnyH_takeD 2 (v := ?_) rfl rfl (by kernel_rfl) (by kernel_rfl) (by kernel_rfl) (fun _ _ _ h => h) (Or.inl ⟨by rfl, ?_⟩) hHeld ?_
      rotate_left
      focus (intro w hSw; (try dsimp only at hSw); go_simp; try with_reducible rfl)
      simp only [List.setIfInBounds_toArray, List.set_cons_zero, List.set_cons_succ]
      refine wpAnyH_ready (rs := [3]) (by kernel_rfl) (by simp) ?_
      refine AllReadyH.cons rfl (fun K hK => ?_) AllReadyH.nil
      go_simp
      refine (hOf.out _).mono ?_
      rintro e wf1 ⟨A7, n7, c7, rfl, hq, hb1⟩
      replace S := Lib.hid ((S.out.below hb1).push (stab_refB _ _ _) ⟨hq.1, hq.2.1, hlt.out⟩)
      clear hq hb1
      refine hK.out _ _ ((S.out.at 1 rfl).cell (i := 0) rfl) (fun hHeld => ?_)
      clear hK K
      refine wpAnyH_ready (rs := [4]) (by kernel_rfl) (by simp) ?_
      refine AllReadyH.cons rfl (fun K hK => ?_) AllReadyH.nil
      go_simp
      refine (hM.out _ _ _ _ _ _ _ _ ((S.out.fact 2 rfl).more (by omega)) (S.out.fact 0 rfl)).mono ?_
      rintro e wf2 ⟨b9, A9, n9, c9, A10, n10, c10, rfl, hq, hb1⟩
      rw [hFl.out] at hq
      replace S := Lib.hid ((S.out.below hb1).push (stab_ratF _ _ _) hq)
      clear hq hb1
      refine hK.out _ _ ((S.out.at 1 rfl).cell (i := 0) rfl) (fun hHeld => ?_)
      clear hK K
      have c0x0 := (S.out.at 0 rfl).cell (i := 0) rfl
      have f0x0 := (S.out.at 0 rfl).frozen (i := 0)
      have c0x1 := (S.out.at 0 rfl).cell (i := 1) rfl
      have f0x1 := (S.out.at 0 rfl).frozen (i := 1)
      have c0x2 := (S.out.at 0 rfl).cell (i := 2) rfl
      have f0x2 := (S.out.at 0 rfl).frozen (i := 2)
      refine wpAnyH_ready (rs := [5]) (by kernel_rfl) (by simp) ?_
      refine AllReadyH.cons rfl (fun K hK => ?_) AllReadyH.nil
      go_simp
      replace S := Lib.hid (S.out.set3 0 rfl (noint_bool (b := b9)) (noint_slice (A := A9) (n := n9) (c := c9)) (noint_slice (A := A10) (n := n10) (c := c10)) rfl)
      refine hK.out _ _ ((S.out.at 1 rfl).cell (i := 0) rfl) (fun hHeld => ?_)
      clear hK K
      refine wpAnyH_done (by kernel_rfl) ?_ _
      have c0x0 := (S.out.at 0 rfl).cell (i := 0) rfl
      have c0x1 := (S.out.at 0 rfl).cell (i := 1) rfl
      have c0x2 := (S.out.at 0 rfl).cell (i := 2) rfl
      go_wp2_with fail
      refine bodyPost_ret (v := .agg #[.bool b9, .slice A9 n9 c9, .slice A10 n10 c10]) (by simp [results, Tryz.results46, go_sem, c0x0, c0x1, c0x2]) rfl ?_
      exact ⟨b9, A9, n9, c9, A10, n10, c10, rfl, S.out.fact 0 rfl, S.out.low⟩
    · rw [if_neg hm] at hFl0
      have hFl := Lib.hid hFl0
      have hn5 : 0 < n5 := by rcases Nat.eq_zero_or_pos n5 with h2 | h2; (exact absurd (hrz.1 h2) hm); exact h2
      clear hFl0 hm hrz
      go_wp2_with fail
      refine (hOf.out _).mono ?_
      rintro e w6 ⟨A6, n6, c6, rfl, hq, hb1⟩
      replace S := Lib.hid ((S.out.below hb1).push (stab_refB _ _ _) hq)
      clear hq hb1 c1x0 hrl hn5
      go_wp2_with fail
      refine (addF_ (S.out.fact 2 rfl) (S.out.fact 0 rfl) (by omega) (by omega)).mono ?_
      rintro e w7 ⟨A8, n8, c8, rfl, hq, hb1⟩
      replace S := Lib.hid ((S.out.below hb1).push (stab_refB _ _ _) hq)
      clear hq hb1
      go_wp2_with fail
      refine wp_region_held_drew (S := fun W' => W'.cell? ⟨w.heap.size, 0, none⟩ = some (.bool true)) (by kernel_rfl) ((S.out.drew.at 1 rfl).cell (i := 0) rfl) (fun hHeld => ?_)
      replace S := Lib.hid S.out.drew
      generalize w7.drew = w8 at S hHeld ⊢
      refine wpAnyH_takeD 0 (v := ?_) rfl rfl (by kernel_rfl) (by kernel_rfl) (by kernel_rfl) (fun _ _ _ h => h) (Or.inl ⟨by rfl, ?_⟩) hHeld ?_
      rotate_left
      focus (intro w hSw; (try dsimp only at hSw); go_simp; try with_reducible rfl)
      simp only [List.setIfInBounds_toArray, List.set_cons_zero, List.set_cons_succ]
      refine wpAnyH_takeD 1 (v := ?_) rfl rfl (by kernel_rfl) (by kernel_rfl) (by kernel_rfl) (fun _ _ _ h => h) (Or.inl ⟨by rfl, ?_⟩) hHeld ?_
      rotate_left
      focus (intro w hSw; (try dsimp only at hSw); go_simp; try with_reducible rfl)
      simp only [List.setIfInBounds_toArray, List.set_cons_zero, List.set_cons_succ]
      refine wpAnyH_takeD 2 (v := ?_) rfl rfl (by kernel_rfl) (by kernel_rfl) (by kernel_rfl) (fun _ _ _ h => h) (Or.inl ⟨by rfl, ?_⟩) hHeld ?_
      rotate_left
      focus (intro w hSw; (try dsimp only at hSw); go_simp; try with_reducible rfl)
      simp only [List.setIfInBounds_toArray, List.set_cons_zero, List.set_cons_succ]
      refine wpAnyH_ready (rs := [3]) (by kernel_rfl) (by simp) ?_
      refine AllReadyH.cons rfl (fun K hK => ?_) AllReadyH.nil
      go_simp
      refine (hOf.out _).mono ?_
      rintro e wf1 ⟨A7, n7, c7, rfl, hq, hb1⟩
      replace S := Lib.hid ((S.out.below hb1).push (stab_refB _ _ _) ⟨hq.1, hq.2.1, hlt.out⟩)
      clear hq hb1
      refine hK.out _ _ ((S.out.at 1 rfl).cell (i := 0) rfl) (fun hHeld => ?_)
      clear hK K
      refine wpAnyH_ready (rs := [4]) (by kernel_rfl) (by simp) ?_
      refine AllReadyH.cons rfl (fun K hK => ?_) AllReadyH.nil
      go_simp
      refine (hM.out _ _ _ _ _ _ _ _ (S.out.fact 1 rfl) (S.out.fact 0 rfl)).mono ?_
      rintro e wf2 ⟨b9, A9, n9, c9, A10, n10, c10, rfl, hq, hb1⟩
      rw [hFl.out] at hq
      replace S := Lib.hid ((S.out.below hb1).push (stab_ratF _ _ _) hq)
      clear hq hb1
      refine hK.out _ _ ((S.out.at 1 rfl).cell (i := 0) rfl) (fun hHeld => ?_)
      clear hK K
      have c0x0 := (S.out.at 0 rfl).cell (i := 0) rfl
      have f0x0 := (S.out.at 0 rfl).frozen (i := 0)
      have c0x1 := (S.out.at 0 rfl).cell (i := 1) rfl
      have f0x1 := (S.out.at 0 rfl).frozen (i := 1)
      have c0x2 := (S.out.at 0 rfl).cell (i := 2) rfl
      have f0x2 := (S.out.at 0 rfl).frozen (i := 2)
      refine wpAnyH_ready (rs := [5]) (by kernel_rfl) (by simp) ?_
      refine AllReadyH.cons rfl (fun K hK => ?_) AllReadyH.nil
      go_simp
      replace S := Lib.hid (S.out.set3 0 rfl (noint_bool (b := b9)) (noint_slice (A := A9) (n := n9) (c := c9)) (noint_slice (A := A10) (n := n10) (c := c10)) rfl)
      refine hK.out _ _ ((S.out.at 1 rfl).cell (i := 0) rfl) (fun hHeld => ?_)
      clear hK K
      refine wpAnyH_done (by kernel_rfl) ?_ _
      have c0x0 := (S.out.at 0 rfl).cell (i := 0) rfl
      have c0x1 := (S.out.at 0 rfl).cell (i := 1) rfl
      have c0x2 := (S.out.at 0 rfl).cell (i := 2) rfl
      go_wp2_with fail
      refine bodyPost_ret (v := .agg #[.bool b9, .slice A9 n9 c9, .slice A10 n10 c10]) (by simp [results, Tryz.results46, go_sem, c0x0, c0x1, c0x2]) rfl ?_
      exact ⟨b9, A9, n9, c9, A10, n10, c10, rfl, S.out.fact 0 rfl, S.out.low⟩
set_option maxRecDepth 100000 in
set_option maxHeartbeats 8000000 in
theorem refCeil_any {w : World} {v : Value} {q : Rat} {a : Nat} (hv : RatF w v q a) (ha : a ≤ 80) : Calls Tryz.prog 48 #[v] w (OpG w (mkRat q.ceil 1) (a + 3)) := by
  have hN := Lib.hid (fun W (hw : Below w.heap.size w W) => refNeg_any (hv.below hw) (by omega))
  obtain ⟨A, n, c, A2, n2, c2, rfl⟩ := hv.shape
  obtain ⟨w1, hw1, S⟩ := enter2 w [.bool (decide (q.num < 0)), .slice A n c, .slice A2 n2 c2] 34 [.bool false, .slice none 0 0, .slice none 0 0] 34 (by decide) noint3 (by decide) noint3
  clear hv
  generalize decide (q.num < 0) = x at hN S hw1 ⊢
  have c1x0 := (S.out.at 1 rfl).cell (i := 0) rfl
  have c1x1 := (S.out.at 1 rfl).cell (i := 1) rfl
  have c1x2 := (S.out.at 1 rfl).cell (i := 2) rfl
  go_enter Tryz.func48, Tryz.ntmps48
  go_wp2_with fail
  refine (hN.out _ S.out.low).mono ?_
  rintro e w2 ⟨b5, A5, n5, c5, A6, n6, c6, rfl, hq, hb1⟩
  replace S := Lib.hid ((S.out.below hb1).push (stab_ratF _ _ _) hq)
  clear hq hb1 hN hw1 c1x0 c1x1 c1x2
  go_wp2_with fail
  refine (refFloor_any (S.out.fact 0 rfl) (by omega)).mono ?_
  rintro e w3 ⟨b7, A7, n7, c7, A8, n8, c8, rfl, hq, hb1⟩
  replace S := Lib.hid ((S.out.below hb1).push (stab_ratF _ _ _) hq)
  clear hq hb1
  go_wp2_with fail
  refine (refNeg_any (S.out.fact 0 rfl) (by omega)).mono ?_
  rintro e w4 ⟨b9, A9, n9, c9, A10, n10, c10, rfl, hq, hb1⟩
  rw [Rat.neg_mkRat, ← Rat.ceil_eq_neg_floor_neg] at hq
  replace S := Lib.hid ((S.out.below hb1).push (stab_ratF _ _ _) hq)
  clear hq hb1
  have c0x0 := (S.out.at 0 rfl).cell (i := 0) rfl
  have f0x0 := (S.out.at 0 rfl).frozen (i := 0)
  have c0x1 := (S.out.at 0 rfl).cell (i := 1) rfl
  have f0x1 := (S.out.at 0 rfl).frozen (i := 1)
  have c0x2 := (S.out.at 0 rfl).cell (i := 2) rfl
  have f0x2 := (S.out.at 0 rfl).frozen (i := 2)
  go_wp2_with fail
  replace S := Lib.hid (S.out.set3 0 rfl (noint_bool (b := b9)) (noint_slice (A := A9) (n := n9) (c := c9)) (noint_slice (A := A10) (n := n10) (c := c10)) rfl)
  have c0x0 := (S.out.at 0 rfl).cell (i := 0) rfl
  have c0x1 := (S.out.at 0 rfl).cell (i := 1) rfl
  have c0x2 := (S.out.at 0 rfl).cell (i := 2) rfl
  refine bodyPost_ret (v := .agg #[.bool b9, .slice A9 n9 c9, .slice A10 n10 c10]) (by simp [results, Tryz.results48, go_sem, c0x0, c0x1, c0x2]) rfl ?_
  exact ⟨b9, A9, n9, c9, A10, n10, c10, rfl, S.out.fact 0 rfl, S.out.low⟩
end Go.Proofs.YtbmdbhafanojcaaGreatDoor
