/- Contracts of the reference of layer 2: Neg, Add, Sub, Mul, Div, Sign, Cmp, Floor, Ceil. -/
import Derived.Test.YthfjbpbgnoonpaaGreatDoorRQ
import Derived.Test.YthfjbpbgnoonpaaGreatDoorRatN
import Derived.Test.YthfjbpbgnoonpaaGreatDoorRL
import Derived.Test.YthfjbpbgnoonpaaGreatDoorRM
namespace Go.Proofs.YthfjbpbgnoonpaaGreatDoor
open Go.RowKit

set_option maxRecDepth 100000 in
set_option maxHeartbeats 8000000 in
theorem refNeg_any {w : World} {u : Value} {q : Rat} {a : Nat} (hu : RatF w u q a) (ha : a ≤ 200) : Calls Tryz.prog 36 #[u] w (OpG w (-q) a) := by
  have HU := Lib.hid hu
  have hO1 := Lib.hid (fun W (hw : Below w.heap.size w W) => one_any (hu.below hw) (by omega))
  obtain ⟨A, n, c, A2, n2, c2, rfl⟩ := hu.shape
  obtain ⟨w1, hw1, S⟩ := enter2 w [.bool (decide (q.num < 0)), .slice A n c, .slice A2 n2 c2] 34 [.bool false, .slice none 0 0, .slice none 0 0] 34 (by decide) noint3 (by decide) noint3
  have hM := Lib.hid (fun W B m d (h1 : RefB W (.slice A n c) q.num.natAbs a) (h2 : RefB W (.slice B m d) q.den a) => made_any (b := !decide (q.num < 0)) h1 h2 ha q.den_pos)
  rw [neg_mk] at hM
  clear hu
  generalize decide (q.num < 0) = x at hO1 HU S hw1 hM ⊢
  go_enter Tryz.func36, Tryz.ntmps36
  go_wp2_with fail
  clear hw1
  refine wp_region_held_drew (S := fun W' => W'.cell? ⟨w.heap.size, 0, none⟩ = some (.bool x) ∧ W'.cell? ⟨w.heap.size, 1, none⟩ = some (.slice A n c) ∧ W'.cell? ⟨w.heap.size, 2, none⟩ = some (.slice A2 n2 c2)) (by kernel_rfl) ⟨(S.out.drew.at 1 rfl).cell (i := 0) rfl, (S.out.drew.at 1 rfl).cell (i := 1) rfl, (S.out.drew.at 1 rfl).cell (i := 2) rfl⟩ (fun hHeld => ?_)
  replace S := Lib.hid S.out.drew
  generalize w1.drew = w2 at S hHeld ⊢
  refine wpAnyH_takeD 0 (v := ?_) rfl rfl (by kernel_rfl) (by kernel_rfl) (by kernel_rfl) (fun _ _ _ h => h) (Or.inl ⟨by rfl, ?_⟩) hHeld ?_
  rotate_left
  focus (intro w hSw; (try dsimp only at hSw); go_simp; try with_reducible rfl)
  simp only [List.setIfInBounds_toArray, List.set_cons_zero, List.set_cons_succ]
  refine wpAnyH_takeD 1 (v := ?_) rfl rfl (by kernel_rfl) (by kernel_rfl) (by kernel_rfl) (fun _ _ _ h => h) (Or.inl ⟨by rfl, ?_⟩) hHeld ?_
  rotate_left
  focus (intro w hSw; (try dsimp only at hSw); go_simp; try with_reducible rfl)
  simp only [List.setIfInBounds_toArray, List.set_cons_zero, List.set_cons_succ]
  refine wpAnyH_takeD 2 (v := ?_) rfl rfl (by kernel_rfl) (by kernel_rfl) (by kernel_rfl) (fun _ _ _ h => h) (Or.inl ⟨by rfl, ?_⟩) hHeld ?_
  rotate_left
  focus (intro w hSw; (try dsimp only at hSw); go_simp; try with_reducible rfl)
  simp only [List.setIfInBounds_toArray, List.set_cons_zero, List.set_cons_succ]
  refine wpAnyH_takeD 3 (v := ?_) rfl rfl (by kernel_rfl) (by kernel_rfl) (by kernel_rfl) (fun _ _ _ h => h) (Or.inl ⟨by rfl, ?_⟩) hHeld ?_
  rotate_left
  focus (intro w hSw; (try dsimp only at hSw); go_simp; try with_reducible rfl)
  simp only [List.setIfInBounds_toArray, List.set_cons_zero, List.set_cons_succ]
  refine wpAnyH_takeD 4 (v := ?_) rfl rfl (by kernel_rfl) (by kernel_rfl) (by kernel_rfl) (fun _ _ _ h => h) (Or.inl ⟨by rfl, ?_⟩) hHeld ?_
  rotate_left
  focus (intro w hSw; (try dsimp only at hSw); go_simp; try with_reducible rfl)
  simp only [List.setIfInBounds_toArray, List.set_cons_zero, List.set_cons_succ]
  refine wpAnyH_takeD 5 (v := ?_) rfl rfl (by kernel_rfl) (by kernel_rfl) (by kernel_rfl) (fun _ _ _ h => h) (Or.inl ⟨by rfl, ?_⟩) hHeld ?_
  rotate_left
  focus (intro w hSw; (try dsimp only at hSw); go_simp; try with_reducible rfl)
  simp only [List.setIfInBounds_toArray, List.set_cons_zero, List.set_cons_succ]
  refine wpAnyH_ready (rs := [6]) (by kernel_rfl) (by simp) ?_
  refine AllReadyH.cons rfl (fun K hK => ?_) AllReadyH.nil
  go_simp
  refine (hO1.out _ S.out.low).mono ?_
  rintro e w3 ⟨A3, n3, c3, rfl, hq, hb1⟩
  replace S := Lib.hid ((S.out.below hb1).push (stab_refB _ _ _) hq)
  clear hq hb1
  refine hK.out _ _ ⟨(S.out.at 1 rfl).cell (i := 0) rfl, (S.out.at 1 rfl).cell (i := 1) rfl, (S.out.at 1 rfl).cell (i := 2) rfl⟩ (fun hHeld => ?_)
  clear hK K
  refine wpAnyH_ready (rs := [7]) (by kernel_rfl) (by simp) ?_
  refine AllReadyH.cons rfl (fun K hK => ?_) AllReadyH.nil
  go_simp
  refine (hM.out _ _ _ _ (HU.out.parts.2.1.below S.out.low) (S.out.fact 0 rfl)).mono ?_
  rintro e w4 ⟨b4, A4, n4, c4, A5, n5, c5, rfl, hq, hb1⟩
  replace S := Lib.hid ((S.out.below hb1).push (stab_ratF _ _ _) hq)
  clear hq hb1
  refine hK.out _ _ ⟨(S.out.at 1 rfl).cell (i := 0) rfl, (S.out.at 1 rfl).cell (i := 1) rfl, (S.out.at 1 rfl).cell (i := 2) rfl⟩ (fun hHeld => ?_)
  clear hK K
  have c0x0 := (S.out.at 0 rfl).cell (i := 0) rfl
  have f0x0 := (S.out.at 0 rfl).frozen (i := 0)
  have c0x1 := (S.out.at 0 rfl).cell (i := 1) rfl
  have f0x1 := (S.out.at 0 rfl).frozen (i := 1)
  have c0x2 := (S.out.at 0 rfl).cell (i := 2) rfl
  have f0x2 := (S.out.at 0 rfl).frozen (i := 2)
  refine wpAnyH_ready (rs := [8]) (by kernel_rfl) (by simp) ?_
  refine AllReadyH.cons rfl (fun K hK => ?_) AllReadyH.nil
  go_simp
  replace S := Lib.hid (S.out.set3 0 rfl (noint_bool (b := b4)) (noint_slice (A := A4) (n := n4) (c := c4)) (noint_slice (A := A5) (n := n5) (c := c5)) rfl)
  refine hK.out _ _ ⟨(S.out.at 1 rfl).cell (i := 0) rfl, (S.out.at 1 rfl).cell (i := 1) rfl, (S.out.at 1 rfl).cell (i := 2) rfl⟩ (fun hHeld => ?_)
  clear hK K
  refine wpAnyH_done (by kernel_rfl) ?_ _
  have c0x0 := (S.out.at 0 rfl).cell (i := 0) rfl
  have c0x1 := (S.out.at 0 rfl).cell (i := 1) rfl
  have c0x2 := (S.out.at 0 rfl).cell (i := 2) rfl
  go_wp2_with fail
  refine bodyPost_ret (v := .agg #[.bool b4, .slice A4 n4 c4, .slice A5 n5 c5]) (by simp [results, Tryz.results36, go_sem, c0x0, c0x1, c0x2]) rfl ?_
  exact ⟨b4, A4, n4, c4, A5, n5, c5, rfl, S.out.fact 0 rfl, S.out.low⟩
theorem refAdd_math {q r : Rat} {x y : Bool} (hx : decide (q.num < 0) = x) (hy : decide (r.num < 0) = y) : mkRat (sg x (q.num.natAbs * r.den) + sg y (r.num.natAbs * q.den)) (q.den * r.den) = q + r := by
  rw [add_mk, sg_mulr, sg_mulr, ← hx, ← hy, sg_num, sg_num]
theorem sg_add (x : Bool) (X Y : Nat) : sg x (X + Y) = sg x X + sg x Y := by unfold sg; cases x <;> simp; omega
theorem sg_ge {x y : Bool} {X Y : Nat} (h : x ≠ y) (hle : Y ≤ X) : sg x (X - Y) = sg x X + sg y Y := by unfold sg; cases x <;> cases y <;> simp at h ⊢ <;> omega
theorem sg_lt {x y : Bool} {X Y : Nat} (h : x ≠ y) (hle : X < Y) : sg y (Y - X) = sg x X + sg y Y := by unfold sg; cases x <;> cases y <;> simp at h ⊢ <;> omega
set_option maxRecDepth 100000 in
set_option maxHeartbeats 8000000 in
theorem refAddQ_any {w : World} {u v : Value} {q r : Rat} {a b : Nat} (hu : RatF w u q a) (hv : RatF w v r b) (hab : a + b ≤ 90) : Calls Tryz.prog 32 #[u, v] w (OpG w (q + r) (a + b + 1)) := by
  have HU := Lib.hid hu
  have HV := Lib.hid hv
  have hO1 := Lib.hid (fun W (hw : Below w.heap.size w W) => one_any (hu.below hw) (by omega))
  have hO2 := Lib.hid (fun W (hw : Below w.heap.size w W) => one_any (hv.below hw) (by omega))
  obtain ⟨A, n, c, A2, n2, c2, rfl⟩ := hu.shape
  obtain ⟨B, m, d, B2, m2, d2, rfl⟩ := hv.shape
  obtain ⟨w1, hw1, S⟩ := enter3 w [.bool (decide (q.num < 0)), .slice A n c, .slice A2 n2 c2] 34 [.bool (decide (r.num < 0)), .slice B m d, .slice B2 m2 d2] 34 [.bool false, .slice none 0 0, .slice none 0 0] 34 (by decide) noint3 (by decide) noint3 (by decide) noint3
  clear hu hv
  obtain ⟨x, hx⟩ : ∃ x, decide (q.num < 0) = x := ⟨_, rfl⟩
  obtain ⟨y, hy⟩ : ∃ y, decide (r.num < 0) = y := ⟨_, rfl⟩
  rw [hx] at hO1 HU S hw1 ⊢
  rw [hy] at hO2 HV S hw1 ⊢
  have hQ := Lib.hid (refAdd_math hx hy)
  have hD0 := Lib.hid (Nat.mul_pos q.den_pos r.den_pos)
  have fin : ∀ (W : World) (b9 : Bool) (A9 : Option Addr) (n9 c9 : Nat) (A10 : Option Addr) (n10 c10 : Nat), RatF W (.agg #[.bool b9, .slice A9 n9 c9, .slice A10 n10 c10]) (q + r) (a + b + (a + b) + 1) → RatF W (.agg #[.bool b9, .slice A9 n9 c9, .slice A10 n10 c10]) (q + r) (a + b + 1) := by
    intro W b9 A9 n9 c9 A10 n10 c10 h
    obtain ⟨b1, b2⟩ := HU.out.bounds
    obtain ⟨b3, b4⟩ := HV.out.bounds
    obtain ⟨b5, b6⟩ := add_bound b1 b2 b3 b4
    exact h.tight b5 b6
  have FIN := Lib.hid fin
  clear fin
  generalize q + r = qr at hQ FIN ⊢
  go_enter Tryz.func32, Tryz.ntmps32
  go_wp2_with fail
  clear hw1
  refine wp_region_held_drew (S := fun W' => W'.cell? ⟨w.heap.size, 0, none⟩ = some (.bool x) ∧ W'.cell? ⟨w.heap.size, 1, none⟩ = some (.slice A n c) ∧ W'.cell? ⟨w.heap.size, 2, none⟩ = some (.slice A2 n2 c2) ∧ W'.cell? ⟨(w.heap.size + 1), 0, none⟩ = some (.bool y) ∧ W'.cell? ⟨(w.heap.size + 1), 1, none⟩ = some (.slice B m d) ∧ W'.cell? ⟨(w.heap.size + 1), 2, none⟩ = some (.slice B2 m2 d2)) (by kernel_rfl) ⟨(S.out.drew.at 2 rfl).cell (i := 0) rfl, (S.out.drew.at 2 rfl).cell (i := 1) rfl, (S.out.drew.at 2 rfl).cell (i := 2) rfl, (S.out.drew.at 1 rfl).cell (i := 0) rfl, (S.out.drew.at 1 rfl).cell (i := 1) rfl, (S.out.drew.at 1 rfl).cell (i := 2) rfl⟩ (fun hHeld => ?_)
  replace S := Lib.hid S.out.drew
  generalize w1.drew = w2 at S hHeld ⊢
  refine wpAnyH_takeD 0 (v := ?_) rfl rfl (by kernel_rfl) (by kernel_rfl) (by kernel_rfl) (fun _ _ _ h => h) (Or.inl ⟨by rfl, ?_⟩) hHeld ?_
  rotate_left
  focus (intro w hSw; (try dsimp only at hSw); go_simp; try with_reducible rfl)
  simp only [List.setIfInBounds_toArray, List.set_cons_zero, List.set_cons_succ]
  refine wpAnyH_takeD 1 (v := ?_) rfl rfl (by kernel_rfl) (by kernel_rfl) (by kernel_rfl) (fun _ _ _ h => h) (Or.inl ⟨by rfl, ?_⟩) hHeld ?_
  rotate_left
  focus (intro w hSw; (try dsimp only at hSw); go_simp; try with_reducible rfl)
  simp only [List.setIfInBounds_toArray, List.set_cons_zero, List.set_cons_succ]
  refine wpAnyH_takeD 2 (v := ?_) rfl rfl (by kernel_rfl) (by kernel_rfl) (by kernel_rfl) (fun _ _ _ h => h) (Or.inl ⟨by rfl, ?_⟩) hHeld ?_
  rotate_left
  focus (intro w hSw; (try dsimp only at hSw); go_simp; try with_reducible rfl)
  simp only [List.setIfInBounds_toArray, List.set_cons_zero, List.set_cons_succ]
  refine wpAnyH_takeD 5 (v := ?_) rfl rfl (by kernel_rfl) (by kernel_rfl) (by kernel_rfl) (fun _ _ _ h => h) (Or.inl ⟨by rfl, ?_⟩) hHeld ?_
  rotate_left
  focus (intro w hSw; (try dsimp only at hSw); go_simp; try with_reducible rfl)
  simp only [List.setIfInBounds_toArray, List.set_cons_zero, List.set_cons_succ]
  refine wpAnyH_takeD 6 (v := ?_) rfl rfl (by kernel_rfl) (by kernel_rfl) (by kernel_rfl) (fun _ _ _ h => h) (Or.inl ⟨by rfl, ?_⟩) hHeld ?_
  rotate_left
  focus (intro w hSw; (try dsimp only at hSw); go_simp; try with_reducible rfl)
  simp only [List.setIfInBounds_toArray, List.set_cons_zero, List.set_cons_succ]
  refine wpAnyH_takeD 7 (v := ?_) rfl rfl (by kernel_rfl) (by kernel_rfl) (by kernel_rfl) (fun _ _ _ h => h) (Or.inl ⟨by rfl, ?_⟩) hHeld ?_
  rotate_left
  focus (intro w hSw; (try dsimp only at hSw); go_simp; try with_reducible rfl)
  simp only [List.setIfInBounds_toArray, List.set_cons_zero, List.set_cons_succ]
  refine wpAnyH_ready (rs := [3]) (by kernel_rfl) (by simp) ?_
  refine AllReadyH.cons rfl (fun K hK => ?_) AllReadyH.nil
  go_simp
  refine (hO2.out _ S.out.low).mono ?_
  rintro e w3 ⟨A3, n3, c3, rfl, hq, hb1⟩
  replace S := Lib.hid ((S.out.below hb1).push (stab_refB _ _ _) hq)
  clear hq hb1
  refine hK.out _ _ ⟨(S.out.at 2 rfl).cell (i := 0) rfl, (S.out.at 2 rfl).cell (i := 1) rfl, (S.out.at 2 rfl).cell (i := 2) rfl, (S.out.at 1 rfl).cell (i := 0) rfl, (S.out.at 1 rfl).cell (i := 1) rfl, (S.out.at 1 rfl).cell (i := 2) rfl⟩ (fun hHeld => ?_)
  clear hK K
  refine wpAnyH_ready (rs := [4]) (by kernel_rfl) (by simp) ?_
  refine AllReadyH.cons rfl (fun K hK => ?_) AllReadyH.nil
  go_simp
  refine (mulF_ (HU.out.parts.2.1.below S.out.low) (S.out.fact 0 rfl) (by omega) (by omega)).mono ?_
  rintro e w4 ⟨A4, n4, c4, rfl, hq, hb1⟩
  replace S := Lib.hid ((S.out.below hb1).push (stab_refB _ _ _) hq)
  clear hq hb1
  refine hK.out _ _ ⟨(S.out.at 2 rfl).cell (i := 0) rfl, (S.out.at 2 rfl).cell (i := 1) rfl, (S.out.at 2 rfl).cell (i := 2) rfl, (S.out.at 1 rfl).cell (i := 0) rfl, (S.out.at 1 rfl).cell (i := 1) rfl, (S.out.at 1 rfl).cell (i := 2) rfl⟩ (fun hHeld => ?_)
  clear hK K
  refine wpAnyH_ready (rs := [8]) (by kernel_rfl) (by simp) ?_
  refine AllReadyH.cons rfl (fun K hK => ?_) AllReadyH.nil
  go_simp
  refine (hO1.out _ S.out.low).mono ?_
  rintro e w5 ⟨A5, n5, c5, rfl, hq, hb1⟩
  replace S := Lib.hid ((S.out.below hb1).push (stab_refB _ _ _) hq)
  clear hq hb1
  refine hK.out _ _ ⟨(S.out.at 2 rfl).cell (i := 0) rfl, (S.out.at 2 rfl).cell (i := 1) rfl, (S.out.at 2 rfl).cell (i := 2) rfl, (S.out.at 1 rfl).cell (i := 0) rfl, (S.out.at 1 rfl).cell (i := 1) rfl, (S.out.at 1 rfl).cell (i := 2) rfl⟩ (fun hHeld => ?_)
  clear hK K
  refine wpAnyH_ready (rs := [9]) (by kernel_rfl) (by simp) ?_
  refine AllReadyH.cons rfl (fun K hK => ?_) AllReadyH.nil
  go_simp
  refine (mulF_ (HV.out.parts.2.1.below S.out.low) (S.out.fact 0 rfl) (by omega) (by omega)).mono ?_
  rintro e w6 ⟨A6, n6, c6, rfl, hq, hb1⟩
  replace S := Lib.hid ((S.out.below hb1).push (stab_refB _ _ _) hq)
  clear hq hb1
  refine hK.out _ _ ⟨(S.out.at 2 rfl).cell (i := 0) rfl, (S.out.at 2 rfl).cell (i := 1) rfl, (S.out.at 2 rfl).cell (i := 2) rfl, (S.out.at 1 rfl).cell (i := 0) rfl, (S.out.at 1 rfl).cell (i := 1) rfl, (S.out.at 1 rfl).cell (i := 2) rfl⟩ (fun hHeld => ?_)
  clear hK K
  refine wpAnyH_takeD 10 (v := ?_) rfl rfl (by kernel_rfl) (by kernel_rfl) (by kernel_rfl) (fun _ _ _ h => h) (Or.inl ⟨by rfl, ?_⟩) hHeld ?_
  rotate_left
  focus (intro w hSw; (try dsimp only at hSw); go_simp; try with_reducible rfl)
  simp only [List.setIfInBounds_toArray, List.set_cons_zero, List.set_cons_succ]
  refine wpAnyH_takeD 11 (v := ?_) rfl rfl (by kernel_rfl) (by kernel_rfl) (by kernel_rfl) (fun _ _ _ h => h) (Or.inl ⟨by rfl, ?_⟩) hHeld ?_
  rotate_left
  focus (intro w hSw; (try dsimp only at hSw); go_simp; try with_reducible rfl)
  simp only [List.setIfInBounds_toArray, List.set_cons_zero, List.set_cons_succ]
  refine wpAnyH_done (by kernel_rfl) ?_ _
  go_wp2_with fail
  refine wp_region_held_drew (S := fun W' => W'.cell? ⟨w.heap.size, 0, none⟩ = some (.bool x) ∧ W'.cell? ⟨w.heap.size, 1, none⟩ = some (.slice A n c) ∧ W'.cell? ⟨w.heap.size, 2, none⟩ = some (.slice A2 n2 c2) ∧ W'.cell? ⟨(w.heap.size + 1), 0, none⟩ = some (.bool y) ∧ W'.cell? ⟨(w.heap.size + 1), 1, none⟩ = some (.slice B m d) ∧ W'.cell? ⟨(w.heap.size + 1), 2, none⟩ = some (.slice B2 m2 d2)) (by kernel_rfl) ⟨(S.out.drew.at 2 rfl).cell (i := 0) rfl, (S.out.drew.at 2 rfl).cell (i := 1) rfl, (S.out.drew.at 2 rfl).cell (i := 2) rfl, (S.out.drew.at 1 rfl).cell (i := 0) rfl, (S.out.drew.at 1 rfl).cell (i := 1) rfl, (S.out.drew.at 1 rfl).cell (i := 2) rfl⟩ (fun hHeld => ?_)
  replace S := Lib.hid S.out.drew
  generalize w6.drew = w7 at S hHeld ⊢
  refine wpAnyH_takeD 0 (v := ?_) rfl rfl (by kernel_rfl) (by kernel_rfl) (by kernel_rfl) (fun _ _ _ h => h) (Or.inl ⟨by rfl, ?_⟩) hHeld ?_
  rotate_left
  focus (intro w hSw; (try dsimp only at hSw); go_simp; try with_reducible rfl)
  simp only [List.setIfInBounds_toArray, List.set_cons_zero, List.set_cons_succ]
  refine wpAnyH_takeD 2 (v := ?_) rfl rfl (by kernel_rfl) (by kernel_rfl) (by kernel_rfl) (fun _ _ _ h => h) (Or.inl ⟨by rfl, ?_⟩) hHeld ?_
  rotate_left
  focus (intro w hSw; (try dsimp only at hSw); go_simp; try with_reducible rfl)
  simp only [List.setIfInBounds_toArray, List.set_cons_zero, List.set_cons_succ]
  refine wpAnyH_ready (rs := [1]) (by kernel_rfl) (by simp) ?_
  refine AllReadyH.cons rfl (fun K hK => ?_) AllReadyH.nil
  go_simp
  refine (hO1.out _ S.out.low).mono ?_
  rintro e w8 ⟨A7, n7, c7, rfl, hq, hb1⟩
  replace S := Lib.hid ((S.out.below hb1).push (stab_refB _ _ _) hq)
  clear hq hb1
  refine hK.out _ _ ⟨(S.out.at 2 rfl).cell (i := 0) rfl, (S.out.at 2 rfl).cell (i := 1) rfl, (S.out.at 2 rfl).cell (i := 2) rfl, (S.out.at 1 rfl).cell (i := 0) rfl, (S.out.at 1 rfl).cell (i := 1) rfl, (S.out.at 1 rfl).cell (i := 2) rfl⟩ (fun hHeld => ?_)
  clear hK K
  refine wpAnyH_ready (rs := [3]) (by kernel_rfl) (by simp) ?_
  refine AllReadyH.cons rfl (fun K hK => ?_) AllReadyH.nil
  go_simp
  refine (hO2.out _ S.out.low).mono ?_
  rintro e w9 ⟨A8, n8, c8, rfl, hq, hb1⟩
  replace S := Lib.hid ((S.out.below hb1).push (stab_refB _ _ _) hq)
  clear hq hb1
  refine hK.out _ _ ⟨(S.out.at 2 rfl).cell (i := 0) rfl, (S.out.at 2 rfl).cell (i := 1) rfl, (S.out.at 2 rfl).cell (i := 2) rfl, (S.out.at 1 rfl).cell (i := 0) rfl, (S.out.at 1 rfl).cell (i := 1) rfl, (S.out.at 1 rfl).cell (i := 2) rfl⟩ (fun hHeld => ?_)
  clear hK K
  refine wpAnyH_ready (rs := [4]) (by kernel_rfl) (by simp) ?_
  refine AllReadyH.cons rfl (fun K hK => ?_) AllReadyH.nil
  go_simp
  refine (mulF_ (S.out.fact 1 rfl) (S.out.fact 0 rfl) (by omega) (by omega)).mono ?_
  rintro e w10 ⟨A9, n9, c9, rfl, hq, hb1⟩
  replace S := Lib.hid ((S.out.below hb1).push (stab_refB _ _ _) hq)
  clear hq hb1
  refine hK.out _ _ ⟨(S.out.at 2 rfl).cell (i := 0) rfl, (S.out.at 2 rfl).cell (i := 1) rfl, (S.out.at 2 rfl).cell (i := 2) rfl, (S.out.at 1 rfl).cell (i := 0) rfl, (S.out.at 1 rfl).cell (i := 1) rfl, (S.out.at 1 rfl).cell (i := 2) rfl⟩ (fun hHeld => ?_)
  clear hK K
  refine wpAnyH_takeD 5 (v := ?_) rfl rfl (by kernel_rfl) (by kernel_rfl) (by kernel_rfl) (fun _ _ _ h => h) (Or.inl ⟨by rfl, ?_⟩) hHeld ?_
  rotate_left
  focus (intro w hSw; (try dsimp only at hSw); go_simp; try with_reducible rfl)
  simp only [List.setIfInBounds_toArray, List.set_cons_zero, List.set_cons_succ]
  refine wpAnyH_done (by kernel_rfl) ?_ _
  clear hO1 hO2
  generalize hXe : q.num.natAbs * r.den = X at S hQ
  generalize hYe : r.num.natAbs * q.den = Y at S hQ
  generalize hDe : q.den * r.den = D at S hQ hD0
  clear hXe hYe hDe
  have c2x0 := (S.out.at 2 rfl).cell (i := 0) rfl
  have c2x1 := (S.out.at 2 rfl).cell (i := 1) rfl
  have c2x2 := (S.out.at 2 rfl).cell (i := 2) rfl
  have c1x0 := (S.out.at 1 rfl).cell (i := 0) rfl
  have c1x1 := (S.out.at 1 rfl).cell (i := 1) rfl
  have c1x2 := (S.out.at 1 rfl).cell (i := 2) rfl
  by_cases hxy : x = y
  · subst hxy
    rw [← sg_add] at hQ
    clear hx hy
    cases x
    · go_wp2_with fail
      clear c2x0 c2x1 c2x2 c1x0 c1x1 c1x2
      refine wp_region_held_drew (S := fun W' => W'.cell? ⟨w.heap.size, 0, none⟩ = some (.bool false)) (by kernel_rfl) ((S.out.drew.at 2 rfl).cell (i := 0) rfl) (fun hHeld => ?_)
      replace S := Lib.hid S.out.drew
      generalize w10.drew = w11 at S hHeld ⊢
      refine wpAnyH_takeD 0 (v := ?_) rfl rfl (by kernel_rfl) (by kernel_rfl) (by kernel_rfl) (fun _ _ _ h => h) (Or.inl ⟨by rfl, ?_⟩) hHeld ?_
      rotate_left
      focus (intro w hSw; (try dsimp only at hSw); go_simp; try with_reducible rfl)
      simp only [List.setIfInBounds_toArray, List.set_cons_zero, List.set_cons_succ]
      refine wpAnyH_takeD 1 (v := ?_) rfl rfl (by kernel_rfl) (by kernel_rfl) (by kernel_rfl) (fun _ _ _ h => h) (Or.inl ⟨by rfl, ?_⟩) hHeld ?_
      rotate_left
      focus (intro w hSw; (try dsimp only at hSw); go_simp; try with_reducible rfl)
      simp only [List.setIfInBounds_toArray, List.set_cons_zero, List.set_cons_succ]
      refine wpAnyH_takeD 2 (v := ?_) rfl rfl (by kernel_rfl) (by kernel_rfl) (by kernel_rfl) (fun _ _ _ h => h) (Or.inl ⟨by rfl, ?_⟩) hHeld ?_
      rotate_left
      focus (intro w hSw; (try dsimp only at hSw); go_simp; try with_reducible rfl)
      simp only [List.setIfInBounds_toArray, List.set_cons_zero, List.set_cons_succ]
      refine wpAnyH_takeD 3 (v := ?_) rfl rfl (by kernel_rfl) (by kernel_rfl) (by kernel_rfl) (fun _ _ _ h => h) (Or.inl ⟨by rfl, ?_⟩) hHeld ?_
      rotate_left
      focus (intro w hSw; (try dsimp only at hSw); go_simp; try with_reducible rfl)
      simp only [List.setIfInBounds_toArray, List.set_cons_zero, List.set_cons_succ]
      refine wpAnyH_takeD 5 (v := ?_) rfl rfl (by kernel_rfl) (by kernel_rfl) (by kernel_rfl) (fun _ _ _ h => h) (Or.inl ⟨by rfl, ?_⟩) hHeld ?_
      rotate_left
      focus (intro w hSw; (try dsimp only at hSw); go_simp; try with_reducible rfl)
      simp only [List.setIfInBounds_toArray, List.set_cons_zero, List.set_cons_succ]
      refine wpAnyH_ready (rs := [4]) (by kernel_rfl) (by simp) ?_
      refine AllReadyH.cons rfl (fun K hK => ?_) AllReadyH.nil
      go_simp
      refine (addF_ (S.out.fact 5 rfl) ((S.out.fact 3 rfl).more (by omega : b + a ≤ a + b)) (by omega) (by omega)).mono ?_
      rintro e w12 ⟨A11, n11, c11, rfl, hq, hb1⟩
      replace S := Lib.hid ((S.out.below hb1).push (stab_refB _ _ _) hq)
      clear hq hb1
      refine hK.out _ _ ((S.out.at 2 rfl).cell (i := 0) rfl) (fun hHeld => ?_)
      clear hK K
      refine wpAnyH_ready (rs := [6]) (by kernel_rfl) (by simp) ?_
      refine AllReadyH.cons rfl (fun K hK => ?_) AllReadyH.nil
      go_simp
      refine (made_any (b := false) (S.out.fact 0 rfl) ((S.out.fact 1 rfl).more (by omega)) (by omega) hD0.out).mono ?_
      rintro e w13 ⟨b12, A12, n12, c12, A13, n13, c13, rfl, hq, hb1⟩
      rw [hQ.out] at hq
      replace S := Lib.hid ((S.out.below hb1).push (stab_ratF _ _ _) hq)
      clear hq hb1
      refine hK.out _ _ ((S.out.at 2 rfl).cell (i := 0) rfl) (fun hHeld => ?_)
      clear hK K
      have c0x0 := (S.out.at 0 rfl).cell (i := 0) rfl
      have f0x0 := (S.out.at 0 rfl).frozen (i := 0)
      have c0x1 := (S.out.at 0 rfl).cell (i := 1) rfl
      have f0x1 := (S.out.at 0 rfl).frozen (i := 1)
      have c0x2 := (S.out.at 0 rfl).cell (i := 2) rfl
      have f0x2 := (S.out.at 0 rfl).frozen (i := 2)
      refine wpAnyH_ready (rs := [7]) (by kernel_rfl) (by simp) ?_
      refine AllReadyH.cons rfl (fun K hK => ?_) AllReadyH.nil
      go_simp
      replace S := Lib.hid (S.out.set3 0 rfl (noint_bool (b := b12)) (noint_slice (A := A12) (n := n12) (c := c12)) (noint_slice (A := A13) (n := n13) (c := c13)) rfl)
      refine hK.out _ _ ((S.out.at 2 rfl).cell (i := 0) rfl) (fun hHeld => ?_)
      clear hK K
      refine wpAnyH_done (by kernel_rfl) ?_ _
      have c0x0 := (S.out.at 0 rfl).cell (i := 0) rfl
      have c0x1 := (S.out.at 0 rfl).cell (i := 1) rfl
      have c0x2 := (S.out.at 0 rfl).cell (i := 2) rfl
      go_wp2_with fail
      refine bodyPost_ret (v := .agg #[.bool b12, .slice A12 n12 c12, .slice A13 n13 c13]) (by simp [results, Tryz.results32, go_sem, c0x0, c0x1, c0x2]) rfl ?_
      exact ⟨b12, A12, n12, c12, A13, n13, c13, rfl, FIN.out _ _ _ _ _ _ _ _ (S.out.fact 0 rfl), S.out.low⟩
    · go_wp2_with fail
      clear c2x0 c2x1 c2x2 c1x0 c1x1 c1x2
      refine wp_region_held_drew (S := fun W' => W'.cell? ⟨w.heap.size, 0, none⟩ = some (.bool true)) (by kernel_rfl) ((S.out.drew.at 2 rfl).cell (i := 0) rfl) (fun hHeld => ?_)
      replace S := Lib.hid S.out.drew
      generalize w10.drew = w11 at S hHeld ⊢
      refine wpAnyH_takeD 0 (v := ?_) rfl rfl (by kernel_rfl) (by kernel_rfl) (by kernel_rfl) (fun _ _ _ h => h) (Or.inl ⟨by rfl, ?_⟩) hHeld ?_
      rotate_left
      focus (intro w hSw; (try dsimp only at hSw); go_simp; try with_reducible rfl)
      simp only [List.setIfInBounds_toArray, List.set_cons_zero, List.set_cons_succ]
      refine wpAnyH_takeD 1 (v := ?_) rfl rfl (by kernel_rfl) (by kernel_rfl) (by kernel_rfl) (fun _ _ _ h => h) (Or.inl ⟨by rfl, ?_⟩) hHeld ?_
      rotate_left
      focus (intro w hSw; (try dsimp only at hSw); go_simp; try with_reducible rfl)
      simp only [List.setIfInBounds_toArray, List.set_cons_zero, List.set_cons_succ]
      refine wpAnyH_takeD 2 (v := ?_) rfl rfl (by kernel_rfl) (by kernel_rfl) (by kernel_rfl) (fun _ _ _ h => h) (Or.inl ⟨by rfl, ?_⟩) hHeld ?_
      rotate_left
      focus (intro w hSw; (try dsimp only at hSw); go_simp; try with_reducible rfl)
      simp only [List.setIfInBounds_toArray, List.set_cons_zero, List.set_cons_succ]
      refine wpAnyH_takeD 3 (v := ?_) rfl rfl (by kernel_rfl) (by kernel_rfl) (by kernel_rfl) (fun _ _ _ h => h) (Or.inl ⟨by rfl, ?_⟩) hHeld ?_
      rotate_left
      focus (intro w hSw; (try dsimp only at hSw); go_simp; try with_reducible rfl)
      simp only [List.setIfInBounds_toArray, List.set_cons_zero, List.set_cons_succ]
      refine wpAnyH_takeD 5 (v := ?_) rfl rfl (by kernel_rfl) (by kernel_rfl) (by kernel_rfl) (fun _ _ _ h => h) (Or.inl ⟨by rfl, ?_⟩) hHeld ?_
      rotate_left
      focus (intro w hSw; (try dsimp only at hSw); go_simp; try with_reducible rfl)
      simp only [List.setIfInBounds_toArray, List.set_cons_zero, List.set_cons_succ]
      refine wpAnyH_ready (rs := [4]) (by kernel_rfl) (by simp) ?_
      refine AllReadyH.cons rfl (fun K hK => ?_) AllReadyH.nil
      go_simp
      refine (addF_ (S.out.fact 5 rfl) ((S.out.fact 3 rfl).more (by omega : b + a ≤ a + b)) (by omega) (by omega)).mono ?_
      rintro e w12 ⟨A11, n11, c11, rfl, hq, hb1⟩
      replace S := Lib.hid ((S.out.below hb1).push (stab_refB _ _ _) hq)
      clear hq hb1
      refine hK.out _ _ ((S.out.at 2 rfl).cell (i := 0) rfl) (fun hHeld => ?_)
      clear hK K
      refine wpAnyH_ready (rs := [6]) (by kernel_rfl) (by simp) ?_
      refine AllReadyH.cons rfl (fun K hK => ?_) AllReadyH.nil
      go_simp
      refine (made_any (b := true) (S.out.fact 0 rfl) ((S.out.fact 1 rfl).more (by omega)) (by omega) hD0.out).mono ?_
      rintro e w13 ⟨b12, A12, n12, c12, A13, n13, c13, rfl, hq, hb1⟩
      rw [hQ.out] at hq
      replace S := Lib.hid ((S.out.below hb1).push (stab_ratF _ _ _) hq)
      clear hq hb1
      refine hK.out _ _ ((S.out.at 2 rfl).cell (i := 0) rfl) (fun hHeld => ?_)
      clear hK K
      have c0x0 := (S.out.at 0 rfl).cell (i := 0) rfl
      have f0x0 := (S.out.at 0 rfl).frozen (i := 0)
      have c0x1 := (S.out.at 0 rfl).cell (i := 1) rfl
      have f0x1 := (S.out.at 0 rfl).frozen (i := 1)
      have c0x2 := (S.out.at 0 rfl).cell (i := 2) rfl
      have f0x2 := (S.out.at 0 rfl).frozen (i := 2)
      refine wpAnyH_ready (rs := [7]) (by kernel_rfl) (by simp) ?_
      refine AllReadyH.cons rfl (fun K hK => ?_) AllReadyH.nil
      go_simp
      replace S := Lib.hid (S.out.set3 0 rfl (noint_bool (b := b12)) (noint_slice (A := A12) (n := n12) (c := c12)) (noint_slice (A := A13) (n := n13) (c := c13)) rfl)
      refine hK.out _ _ ((S.out.at 2 rfl).cell (i := 0) rfl) (fun hHeld => ?_)
      clear hK K
      refine wpAnyH_done (by kernel_rfl) ?_ _
      have c0x0 := (S.out.at 0 rfl).cell (i := 0) rfl
      have c0x1 := (S.out.at 0 rfl).cell (i := 1) rfl
      have c0x2 := (S.out.at 0 rfl).cell (i := 2) rfl
      go_wp2_with fail
      refine bodyPost_ret (v := .agg #[.bool b12, .slice A12 n12 c12, .slice A13 n13 c13]) (by simp [results, Tryz.results32, go_sem, c0x0, c0x1, c0x2]) rfl ?_
      exact ⟨b12, A12, n12, c12, A13, n13, c13, rfl, FIN.out _ _ _ _ _ _ _ _ (S.out.fact 0 rfl), S.out.low⟩
  · have hC := Lib.hid (cmpF (S.out.fact 5 rfl) ((S.out.fact 3 rfl).more (by omega : b + a ≤ a + b)) (by omega) (by omega))
    clear hx hy
    rcases Nat.lt_or_ge X Y with hlt | hge
    · have hz := sg_lt hxy hlt
      rw [← hz] at hQ
      have HZ := Lib.hid hQ.out
      have HL := Lib.hid hlt
      have ho : cmpI X Y < 0 := by unfold cmpI; rw [if_pos hlt]; omega
      generalize cmpI X Y = o at hC ho
      clear hQ hz hlt
      cases x <;> cases y <;> first | exact absurd rfl hxy | skip
      · clear hxy
        go_wp2_with fail
        refine hC.out.mono ?_
        rintro e w11 ⟨rfl, hb1⟩
        replace S := Lib.hid (S.out.below hb1)
        clear hb1 hC c2x0 c2x1 c2x2 c1x0 c1x1 c1x2
        have c2x0 := (S.out.at 2 rfl).cell (i := 0) rfl
        have c2x1 := (S.out.at 2 rfl).cell (i := 1) rfl
        have c2x2 := (S.out.at 2 rfl).cell (i := 2) rfl
        have c1x0 := (S.out.at 1 rfl).cell (i := 0) rfl
        have c1x1 := (S.out.at 1 rfl).cell (i := 1) rfl
        have c1x2 := (S.out.at 1 rfl).cell (i := 2) rfl
        go_wp2_with fail
        refine (subF_ ((S.out.fact 3 rfl).more (by omega : b + a ≤ a + b)) (S.out.fact 5 rfl) (by omega) (by omega) (Nat.le_of_lt HL.out)).mono ?_
        rintro e w12 ⟨A11, n11, c11, rfl, hq, hb1⟩
        replace S := Lib.hid ((S.out.below hb1).push (stab_refB _ _ _) hq)
        clear hq hb1 c2x0 c2x1 c2x2 c1x0 c1x1 c1x2 ho
        have c2x0 := (S.out.at 2 rfl).cell (i := 0) rfl
        have c2x1 := (S.out.at 2 rfl).cell (i := 1) rfl
        have c2x2 := (S.out.at 2 rfl).cell (i := 2) rfl
        have c1x0 := (S.out.at 1 rfl).cell (i := 0) rfl
        have c1x1 := (S.out.at 1 rfl).cell (i := 1) rfl
        have c1x2 := (S.out.at 1 rfl).cell (i := 2) rfl
        go_wp2_with fail
        refine (made_any (b := true) ((S.out.fact 0 rfl).more (by omega)) ((S.out.fact 1 rfl).more (by omega : a + b ≤ a + b + (a + b) + 1)) (by omega) hD0.out).mono ?_
        rintro e w13 ⟨b12, A12, n12, c12, A13, n13, c13, rfl, hq, hb1⟩
        rw [HZ.out] at hq
        replace S := Lib.hid ((S.out.below hb1).push (stab_ratF _ _ _) hq)
        clear hq hb1
        have c0x0 := (S.out.at 0 rfl).cell (i := 0) rfl
        have f0x0 := (S.out.at 0 rfl).frozen (i := 0)
        have c0x1 := (S.out.at 0 rfl).cell (i := 1) rfl
        have f0x1 := (S.out.at 0 rfl).frozen (i := 1)
        have c0x2 := (S.out.at 0 rfl).cell (i := 2) rfl
        have f0x2 := (S.out.at 0 rfl).frozen (i := 2)
        go_wp2_with fail
        replace S := Lib.hid (S.out.set3 0 rfl (noint_bool (b := b12)) (noint_slice (A := A12) (n := n12) (c := c12)) (noint_slice (A := A13) (n := n13) (c := c13)) rfl)
        have c0x0 := (S.out.at 0 rfl).cell (i := 0) rfl
        have c0x1 := (S.out.at 0 rfl).cell (i := 1) rfl
        have c0x2 := (S.out.at 0 rfl).cell (i := 2) rfl
        refine bodyPost_ret (v := .agg #[.bool b12, .slice A12 n12 c12, .slice A13 n13 c13]) (by simp [results, Tryz.results32, go_sem, c0x0, c0x1, c0x2]) rfl ?_
        exact ⟨b12, A12, n12, c12, A13, n13, c13, rfl, FIN.out _ _ _ _ _ _ _ _ (S.out.fact 0 rfl), S.out.low⟩
      · clear hxy
        go_wp2_with fail
        refine hC.out.mono ?_
        rintro e w11 ⟨rfl, hb1⟩
        replace S := Lib.hid (S.out.below hb1)
        clear hb1 hC c2x0 c2x1 c2x2 c1x0 c1x1 c1x2
        have c2x0 := (S.out.at 2 rfl).cell (i := 0) rfl
        have c2x1 := (S.out.at 2 rfl).cell (i := 1) rfl
        have c2x2 := (S.out.at 2 rfl).cell (i := 2) rfl
        have c1x0 := (S.out.at 1 rfl).cell (i := 0) rfl
        have c1x1 := (S.out.at 1 rfl).cell (i := 1) rfl
        have c1x2 := (S.out.at 1 rfl).cell (i := 2) rfl
        go_wp2_with fail
        refine (subF_ ((S.out.fact 3 rfl).more (by omega : b + a ≤ a + b)) (S.out.fact 5 rfl) (by omega) (by omega) (Nat.le_of_lt HL.out)).mono ?_
        rintro e w12 ⟨A11, n11, c11, rfl, hq, hb1⟩
        replace S := Lib.hid ((S.out.below hb1).push (stab_refB _ _ _) hq)
        clear hq hb1 c2x0 c2x1 c2x2 c1x0 c1x1 c1x2 ho
        have c2x0 := (S.out.at 2 rfl).cell (i := 0) rfl
        have c2x1 := (S.out.at 2 rfl).cell (i := 1) rfl
        have c2x2 := (S.out.at 2 rfl).cell (i := 2) rfl
        have c1x0 := (S.out.at 1 rfl).cell (i := 0) rfl
        have c1x1 := (S.out.at 1 rfl).cell (i := 1) rfl
        have c1x2 := (S.out.at 1 rfl).cell (i := 2) rfl
        go_wp2_with fail
        refine (made_any (b := false) ((S.out.fact 0 rfl).more (by omega)) ((S.out.fact 1 rfl).more (by omega : a + b ≤ a + b + (a + b) + 1)) (by omega) hD0.out).mono ?_
        rintro e w13 ⟨b12, A12, n12, c12, A13, n13, c13, rfl, hq, hb1⟩
        rw [HZ.out] at hq
        replace S := Lib.hid ((S.out.below hb1).push (stab_ratF _ _ _) hq)
        clear hq hb1
        have c0x0 := (S.out.at 0 rfl).cell (i := 0) rfl
        have f0x0 := (S.out.at 0 rfl).frozen (i := 0)
        have c0x1 := (S.out.at 0 rfl).cell (i := 1) rfl
        have f0x1 := (S.out.at 0 rfl).frozen (i := 1)
        have c0x2 := (S.out.at 0 rfl).cell (i := 2) rfl
        have f0x2 := (S.out.at 0 rfl).frozen (i := 2)
        go_wp2_with fail
        replace S := Lib.hid (S.out.set3 0 rfl (noint_bool (b := b12)) (noint_slice (A := A12) (n := n12) (c := c12)) (noint_slice (A := A13) (n := n13) (c := c13)) rfl)
        have c0x0 := (S.out.at 0 rfl).cell (i := 0) rfl
        have c0x1 := (S.out.at 0 rfl).cell (i := 1) rfl
        have c0x2 := (S.out.at 0 rfl).cell (i := 2) rfl
        refine bodyPost_ret (v := .agg #[.bool b12, .slice A12 n12 c12, .slice A13 n13 c13]) (by simp [results, Tryz.results32, go_sem, c0x0, c0x1, c0x2]) rfl ?_
        exact ⟨b12, A12, n12, c12, A13, n13, c13, rfl, FIN.out _ _ _ _ _ _ _ _ (S.out.fact 0 rfl), S.out.low⟩
    · have hz := sg_ge hxy hge
      rw [← hz] at hQ
      have HZ := Lib.hid hQ.out
      have HL := Lib.hid hge
      have ho : 0 ≤ cmpI X Y := by unfold cmpI; rw [if_neg (by omega)]; split <;> omega
      generalize cmpI X Y = o at hC ho
      clear hQ hz hge
      cases x <;> cases y <;> first | exact absurd rfl hxy | skip
      · clear hxy
        go_wp2_with fail
        refine hC.out.mono ?_
        rintro e w11 ⟨rfl, hb1⟩
        replace S := Lib.hid (S.out.below hb1)
        clear hb1 hC c2x0 c2x1 c2x2 c1x0 c1x1 c1x2
        have c2x0 := (S.out.at 2 rfl).cell (i := 0) rfl
        have c2x1 := (S.out.at 2 rfl).cell (i := 1) rfl
        have c2x2 := (S.out.at 2 rfl).cell (i := 2) rfl
        have c1x0 := (S.out.at 1 rfl).cell (i := 0) rfl
        have c1x1 := (S.out.at 1 rfl).cell (i := 1) rfl
        have c1x2 := (S.out.at 1 rfl).cell (i := 2) rfl
        go_wp2_with fail
        refine (subF_ (S.out.fact 5 rfl) ((S.out.fact 3 rfl).more (by omega : b + a ≤ a + b)) (by omega) (by omega) HL.out).mono ?_
        rintro e w12 ⟨A11, n11, c11, rfl, hq, hb1⟩
        replace S := Lib.hid ((S.out.below hb1).push (stab_refB _ _ _) hq)
        clear hq hb1 c2x0 c2x1 c2x2 c1x0 c1x1 c1x2 ho
        have c2x0 := (S.out.at 2 rfl).cell (i := 0) rfl
        have c2x1 := (S.out.at 2 rfl).cell (i := 1) rfl
        have c2x2 := (S.out.at 2 rfl).cell (i := 2) rfl
        have c1x0 := (S.out.at 1 rfl).cell (i := 0) rfl
        have c1x1 := (S.out.at 1 rfl).cell (i := 1) rfl
        have c1x2 := (S.out.at 1 rfl).cell (i := 2) rfl
        go_wp2_with fail
        refine (made_any (b := false) ((S.out.fact 0 rfl).more (by omega)) ((S.out.fact 1 rfl).more (by omega : a + b ≤ a + b + (a + b) + 1)) (by omega) hD0.out).mono ?_
        rintro e w13 ⟨b12, A12, n12, c12, A13, n13, c13, rfl, hq, hb1⟩
        rw [HZ.out] at hq
        replace S := Lib.hid ((S.out.below hb1).push (stab_ratF _ _ _) hq)
        clear hq hb1
        have c0x0 := (S.out.at 0 rfl).cell (i := 0) rfl
        have f0x0 := (S.out.at 0 rfl).frozen (i := 0)
        have c0x1 := (S.out.at 0 rfl).cell (i := 1) rfl
        have f0x1 := (S.out.at 0 rfl).frozen (i := 1)
        have c0x2 := (S.out.at 0 rfl).cell (i := 2) rfl
        have f0x2 := (S.out.at 0 rfl).frozen (i := 2)
        go_wp2_with fail
        replace S := Lib.hid (S.out.set3 0 rfl (noint_bool (b := b12)) (noint_slice (A := A12) (n := n12) (c := c12)) (noint_slice (A := A13) (n := n13) (c := c13)) rfl)
        have c0x0 := (S.out.at 0 rfl).cell (i := 0) rfl
        have c0x1 := (S.out.at 0 rfl).cell (i := 1) rfl
        have c0x2 := (S.out.at 0 rfl).cell (i := 2) rfl
        refine bodyPost_ret (v := .agg #[.bool b12, .slice A12 n12 c12, .slice A13 n13 c13]) (by simp [results, Tryz.results32, go_sem, c0x0, c0x1, c0x2]) rfl ?_
        exact ⟨b12, A12, n12, c12, A13, n13, c13, rfl, FIN.out _ _ _ _ _ _ _ _ (S.out.fact 0 rfl), S.out.low⟩
      · clear hxy
        go_wp2_with fail
        refine hC.out.mono ?_
        rintro e w11 ⟨rfl, hb1⟩
        replace S := Lib.hid (S.out.below hb1)
        clear hb1 hC c2x0 c2x1 c2x2 c1x0 c1x1 c1x2
        have c2x0 := (S.out.at 2 rfl).cell (i := 0) rfl
        have c2x1 := (S.out.at 2 rfl).cell (i := 1) rfl
        have c2x2 := (S.out.at 2 rfl).cell (i := 2) rfl
        have c1x0 := (S.out.at 1 rfl).cell (i := 0) rfl
        have c1x1 := (S.out.at 1 rfl).cell (i := 1) rfl
        have c1x2 := (S.out.at 1 rfl).cell (i := 2) rfl
        go_wp2_with fail
        refine (subF_ (S.out.fact 5 rfl) ((S.out.fact 3 rfl).more (by omega : b + a ≤ a + b)) (by omega) (by omega) HL.out).mono ?_
        rintro e w12 ⟨A11, n11, c11, rfl, hq, hb1⟩
        replace S := Lib.hid ((S.out.below hb1).push (stab_refB _ _ _) hq)
        clear hq hb1 c2x0 c2x1 c2x2 c1x0 c1x1 c1x2 ho
        have c2x0 := (S.out.at 2 rfl).cell (i := 0) rfl
        have c2x1 := (S.out.at 2 rfl).cell (i := 1) rfl
        have c2x2 := (S.out.at 2 rfl).cell (i := 2) rfl
        have c1x0 := (S.out.at 1 rfl).cell (i := 0) rfl
        have c1x1 := (S.out.at 1 rfl).cell (i := 1) rfl
        have c1x2 := (S.out.at 1 rfl).cell (i := 2) rfl
        go_wp2_with fail
        refine (made_any (b := true) ((S.out.fact 0 rfl).more (by omega)) ((S.out.fact 1 rfl).more (by omega : a + b ≤ a + b + (a + b) + 1)) (by omega) hD0.out).mono ?_
        rintro e w13 ⟨b12, A12, n12, c12, A13, n13, c13, rfl, hq, hb1⟩
        rw [HZ.out] at hq
        replace S := Lib.hid ((S.out.below hb1).push (stab_ratF _ _ _) hq)
        clear hq hb1
        have c0x0 := (S.out.at 0 rfl).cell (i := 0) rfl
        have f0x0 := (S.out.at 0 rfl).frozen (i := 0)
        have c0x1 := (S.out.at 0 rfl).cell (i := 1) rfl
        have f0x1 := (S.out.at 0 rfl).frozen (i := 1)
        have c0x2 := (S.out.at 0 rfl).cell (i := 2) rfl
        have f0x2 := (S.out.at 0 rfl).frozen (i := 2)
        go_wp2_with fail
        replace S := Lib.hid (S.out.set3 0 rfl (noint_bool (b := b12)) (noint_slice (A := A12) (n := n12) (c := c12)) (noint_slice (A := A13) (n := n13) (c := c13)) rfl)
        have c0x0 := (S.out.at 0 rfl).cell (i := 0) rfl
        have c0x1 := (S.out.at 0 rfl).cell (i := 1) rfl
        have c0x2 := (S.out.at 0 rfl).cell (i := 2) rfl
        refine bodyPost_ret (v := .agg #[.bool b12, .slice A12 n12 c12, .slice A13 n13 c13]) (by simp [results, Tryz.results32, go_sem, c0x0, c0x1, c0x2]) rfl ?_
        exact ⟨b12, A12, n12, c12, A13, n13, c13, rfl, FIN.out _ _ _ _ _ _ _ _ (S.out.fact 0 rfl), S.out.low⟩
end Go.Proofs.YthfjbpbgnoonpaaGreatDoor
