/- Contracts of package rational: Div, Cmp. -/
import Derived.Test.YthfjbpbgnoonpaaGreatDoorRK
namespace Go.Proofs.YthfjbpbgnoonpaaGreatDoor
open Go.RowKit

theorem inv_mk {r : Rat} (h : r.num ≠ 0) : mkRat (sg (decide (r.num < 0)) r.den) r.num.natAbs = r⁻¹ := by
  have e : sg (decide (r.num < 0)) r.den = r.num.sign * r.den := by
    unfold sg
    by_cases h1 : r.num < 0
    · rw [Int.sign_eq_neg_one_of_neg h1]; simp [h1]
    · rw [Int.sign_eq_one_of_pos (by omega)]; simp [h1]
  have h2 := Rat.mkRat_self (r⁻¹)
  rw [Rat.num_inv, Rat.den_inv, if_neg h] at h2
  rw [e, h2]
set_option maxRecDepth 100000 in
set_option maxHeartbeats 8000000 in
theorem div_any {w : World} {u v : Value} {q r : Rat} {a b : Nat} (hu : RatP w u q a) (hv : RatP w v r b) (ha : a ≤ 90) (hb : b ≤ 90) (h0 : r.num ≠ 0) : Calls Tryz.prog 40 #[u, v] w (OpT w (q / r) (a + b)) := by
  have hD2 := Lib.hid (fun W (hw : Below w.heap.size w W) => den_any (hv.below hw) (by omega : b ≤ 400))
  have hS := Lib.hid (fun W (hw : Below w.heap.size w W) => sign_any (hv.below hw) (by omega : b ≤ 400))
  have HU := Lib.hid hu
  have HV := Lib.hid hv
  have hs0 : (r.num.sign == 0) = false := by simpa using h0
  have hI := Lib.hid (inv_mk h0)
  obtain ⟨A, n, c, A2, n2, c2, rfl⟩ := hu.shape
  obtain ⟨B, m, d, B2, m2, d2, rfl⟩ := hv.shape
  obtain ⟨w1, hw1, S⟩ := enter3 w [.bool (decide (q.num < 0)), .slice A n c, .slice A2 n2 c2] 30 [.bool (decide (r.num < 0)), .slice B m d, .slice B2 m2 d2] 30 [.bool false, .slice none 0 0, .slice none 0 0] 30 (by decide) noint3 (by decide) noint3 (by decide) noint3
  have hp := Lib.hid (Int.natAbs_pos.2 h0)
  clear hu hv h0
  generalize decide (q.num < 0) = x at HU S hw1 ⊢
  generalize decide (r.num < 0) = y at hD2 hS HV S hw1 hI ⊢
  generalize r.num.sign = sn at hS hs0
  have c1x0 := (S.out.at 1 rfl).cell (i := 0) rfl
  have c1x1 := (S.out.at 1 rfl).cell (i := 1) rfl
  have c1x2 := (S.out.at 1 rfl).cell (i := 2) rfl
  go_enter Tryz.func40, Tryz.ntmps40
  go_wp2_with fail
  refine (hS.out _ S.out.low).mono ?_
  rintro e w2 ⟨rfl, hb1⟩
  replace S := Lib.hid (S.out.below hb1)
  clear hw1 hb1 hS c1x0 c1x1 c1x2
  go_wp2_with fail
  clear hs0
  refine wp_region_held_drew (S := fun W' => W'.cell? ⟨w.heap.size, 0, none⟩ = some (.bool x) ∧ W'.cell? ⟨w.heap.size, 1, none⟩ = some (.slice A n c) ∧ W'.cell? ⟨w.heap.size, 2, none⟩ = some (.slice A2 n2 c2) ∧ W'.cell? ⟨(w.heap.size + 1), 0, none⟩ = some (.bool y) ∧ W'.cell? ⟨(w.heap.size + 1), 1, none⟩ = some (.slice B m d) ∧ W'.cell? ⟨(w.heap.size + 1), 2, none⟩ = some (.slice B2 m2 d2)) (by kernel_rfl) ⟨(S.out.drew.at 2 rfl).cell (i := 0) rfl, (S.out.drew.at 2 rfl).cell (i := 1) rfl, (S.out.drew.at 2 rfl).cell (i := 2) rfl, (S.out.drew.at 1 rfl).cell (i := 0) rfl, (S.out.drew.at 1 rfl).cell (i := 1) rfl, (S.out.drew.at 1 rfl).cell (i := 2) rfl⟩ (fun hHeld => ?_)
  replace S := Lib.hid S.out.drew
  generalize w2.drew = w3 at S hHeld ⊢
  refine wpAnyH_takeD 0 (v := ?_) rfl rfl (by kernel_rfl) (by kernel_rfl) (by kernel_rfl) (fun _ _ _ h => h) (Or.inl ⟨by rfl, ?_⟩) hHeld ?_
  rotate_left
  focus (intro w hSw; (try dsimp only at hSw); go_simp; try with_reducible rfl)
  simp only [List.setIfInBounds_toArray, List.set_cons_zero, List.set_cons_succ]
  refine wpAnyH_takeD 1 (v := ?_) rfl rfl (by kernel_rfl) (by kernel_rfl) (by kernel_rfl) (fun _ _ _ h => h) (Or.inl ⟨by rfl, ?_⟩) hHeld ?_
  rotate_left
  focus (intro w hSw; (try dsimp only at hSw); go_simp; try with_reducible rfl)
  simp only [List.setIfInBounds_toArray, List.set_cons_zero, List.set_cons_succ]
  refine wpAnyH_takeD 2 (v := ?_) rfl rfl (by kernel_rfl) (by kernel_rfl) (by kernel_rfl) (fun _ _ _ h => h) (Or.inl ⟨by rfl, ?_⟩) hHeld ?_
  rotate_left
  focus (intro w hSw; (try dsimp only at hSw); go_simp; try with_reducible rfl)
  simp only [List.setIfInBounds_toArray, List.set_cons_zero, List.set_cons_succ]
  refine wpAnyH_takeD 3 (v := ?_) rfl rfl (by kernel_rfl) (by kernel_rfl) (by kernel_rfl) (fun _ _ _ h => h) (Or.inl ⟨by rfl, ?_⟩) hHeld ?_
  rotate_left
  focus (intro w hSw; (try dsimp only at hSw); go_simp; try with_reducible rfl)
  simp only [List.setIfInBounds_toArray, List.set_cons_zero, List.set_cons_succ]
  refine wpAnyH_takeD 5 (v := ?_) rfl rfl (by kernel_rfl) (by kernel_rfl) (by kernel_rfl) (fun _ _ _ h => h) (Or.inl ⟨by rfl, ?_⟩) hHeld ?_
  rotate_left
  focus (intro w hSw; (try dsimp only at hSw); go_simp; try with_reducible rfl)
  simp only [List.setIfInBounds_toArray, List.set_cons_zero, List.set_cons_succ]
  refine wpAnyH_takeD 6 (v := ?_) rfl rfl (by kernel_rfl) (by kernel_rfl) (by kernel_rfl) (fun _ _ _ h => h) (Or.inl ⟨by rfl, ?_⟩) hHeld ?_
  rotate_left
  focus (intro w hSw; (try dsimp only at hSw); go_simp; try with_reducible rfl)
  simp only [List.setIfInBounds_toArray, List.set_cons_zero, List.set_cons_succ]
  refine wpAnyH_ready (rs := [4]) (by kernel_rfl) (by simp) ?_
  refine AllReadyH.cons rfl (fun K hK => ?_) AllReadyH.nil
  go_simp
  refine (hD2.out _ S.out.low).mono ?_
  rintro e w4 ⟨A3, n3, c3, rfl, hx, hb1⟩
  replace S := Lib.hid ((S.out.below hb1).push (stab_natB _ _ _) hx)
  clear hx hb1
  refine hK.out _ _ ⟨(S.out.at 2 rfl).cell (i := 0) rfl, (S.out.at 2 rfl).cell (i := 1) rfl, (S.out.at 2 rfl).cell (i := 2) rfl, (S.out.at 1 rfl).cell (i := 0) rfl, (S.out.at 1 rfl).cell (i := 1) rfl, (S.out.at 1 rfl).cell (i := 2) rfl⟩ (fun hHeld => ?_)
  clear hK K
  refine wpAnyH_ready (rs := [7]) (by kernel_rfl) (by simp) ?_
  refine AllReadyH.cons rfl (fun K hK => ?_) AllReadyH.nil
  go_simp
  have hQ := Lib.hid (reduced_any (b := y) (S.out.fact 0 rfl) (HV.out.num.below S.out.low) (by omega) hp.out r.reduced.symm)
  rw [hI.out] at hQ
  refine hQ.out.mono ?_
  rintro e w5 ⟨b5, A5, n5, c5, A6, n6, c6, rfl, hq, hb1⟩
  replace S := Lib.hid ((S.out.below hb1).push (stab_ratP _ _ _) hq)
  clear hq hb1 hQ
  refine hK.out _ _ ⟨(S.out.at 2 rfl).cell (i := 0) rfl, (S.out.at 2 rfl).cell (i := 1) rfl, (S.out.at 2 rfl).cell (i := 2) rfl, (S.out.at 1 rfl).cell (i := 0) rfl, (S.out.at 1 rfl).cell (i := 1) rfl, (S.out.at 1 rfl).cell (i := 2) rfl⟩ (fun hHeld => ?_)
  clear hK K
  refine wpAnyH_ready (rs := [8]) (by kernel_rfl) (by simp) ?_
  refine AllReadyH.cons rfl (fun K hK => ?_) AllReadyH.nil
  go_simp
  refine (mul_any (HU.out.below S.out.low) (S.out.fact 0 rfl) ha hb).mono ?_
  rintro e w6 ⟨b7, A7, n7, c7, A8, n8, c8, rfl, hq, hb1⟩
  rw [← Rat.div_def] at hq
  replace S := Lib.hid ((S.out.below hb1).push (stab_ratP _ _ _) hq)
  clear hq hb1
  refine hK.out _ _ ⟨(S.out.at 2 rfl).cell (i := 0) rfl, (S.out.at 2 rfl).cell (i := 1) rfl, (S.out.at 2 rfl).cell (i := 2) rfl, (S.out.at 1 rfl).cell (i := 0) rfl, (S.out.at 1 rfl).cell (i := 1) rfl, (S.out.at 1 rfl).cell (i := 2) rfl⟩ (fun hHeld => ?_)
  clear hK K
  have c0x0 := (S.out.at 0 rfl).cell (i := 0) rfl
  have f0x0 := (S.out.at 0 rfl).frozen (i := 0)
  have c0x1 := (S.out.at 0 rfl).cell (i := 1) rfl
  have f0x1 := (S.out.at 0 rfl).frozen (i := 1)
  have c0x2 := (S.out.at 0 rfl).cell (i := 2) rfl
  have f0x2 := (S.out.at 0 rfl).frozen (i := 2)
  refine wpAnyH_ready (rs := [9]) (by kernel_rfl) (by simp) ?_
  refine AllReadyH.cons rfl (fun K hK => ?_) AllReadyH.nil
  go_simp
  replace S := Lib.hid (S.out.set3 0 rfl (noint_bool (b := b7)) (noint_slice (A := A7) (n := n7) (c := c7)) (noint_slice (A := A8) (n := n8) (c := c8)) rfl)
  refine hK.out _ _ ⟨(S.out.at 2 rfl).cell (i := 0) rfl, (S.out.at 2 rfl).cell (i := 1) rfl, (S.out.at 2 rfl).cell (i := 2) rfl, (S.out.at 1 rfl).cell (i := 0) rfl, (S.out.at 1 rfl).cell (i := 1) rfl, (S.out.at 1 rfl).cell (i := 2) rfl⟩ (fun hHeld => ?_)
  clear hK K
  refine wpAnyH_takeD 10 (v := ?_) rfl rfl (by kernel_rfl) (by kernel_rfl) (by kernel_rfl) (fun _ _ _ h => h) (Or.inl ⟨by rfl, ?_⟩) hHeld ?_
  rotate_left
  focus (intro w hSw; (try dsimp only at hSw); go_simp; try with_reducible rfl)
  simp only [List.setIfInBounds_toArray, List.set_cons_zero, List.set_cons_succ]
  refine wpAnyH_done (by kernel_rfl) ?_ _
  have c0x0 := (S.out.at 0 rfl).cell (i := 0) rfl
  have c0x1 := (S.out.at 0 rfl).cell (i := 1) rfl
  have c0x2 := (S.out.at 0 rfl).cell (i := 2) rfl
  go_wp2_with fail
  refine bodyPost_ret (v := .tuple #[.agg #[.bool b7, .slice A7 n7 c7, .slice A8 n8 c8], .int .i64 0]) (by simp [results, Tryz.results40, go_sem, c0x0, c0x1, c0x2]) rfl ?_
  exact ⟨b7, A7, n7, c7, A8, n8, c8, rfl, S.out.fact 0 rfl, S.out.low⟩
set_option maxRecDepth 100000 in
set_option maxHeartbeats 8000000 in
theorem div_zero {w : World} {u v : Value} {q r : Rat} {a b : Nat} (hu : RatP w u q a) (hv : RatP w v r b) (hb : b ≤ 90) (h0 : r.num = 0) : Calls Tryz.prog 40 #[u, v] w (ErrT w 10) := by
  have hS := Lib.hid (fun W (hw : Below w.heap.size w W) => sign_any (hv.below hw) (by omega : b ≤ 400))
  obtain ⟨A, n, c, A2, n2, c2, rfl⟩ := hu.shape
  obtain ⟨B, m, d, B2, m2, d2, rfl⟩ := hv.shape
  obtain ⟨w1, hw1, S⟩ := enter3 w [.bool (decide (q.num < 0)), .slice A n c, .slice A2 n2 c2] 30 [.bool (decide (r.num < 0)), .slice B m d, .slice B2 m2 d2] 30 [.bool false, .slice none 0 0, .slice none 0 0] 30 (by decide) noint3 (by decide) noint3 (by decide) noint3
  generalize decide (q.num < 0) = x at S hw1 ⊢
  generalize decide (r.num < 0) = y at hS S hw1 ⊢
  rw [h0, show Int.sign 0 = 0 from rfl] at hS
  clear hu hv h0
  have c1x0 := (S.out.at 1 rfl).cell (i := 0) rfl
  have c1x1 := (S.out.at 1 rfl).cell (i := 1) rfl
  have c1x2 := (S.out.at 1 rfl).cell (i := 2) rfl
  go_enter Tryz.func40, Tryz.ntmps40
  go_wp2_with fail
  refine (hS.out _ S.out.low).mono ?_
  rintro e w2 ⟨rfl, hb1⟩
  replace S := Lib.hid (S.out.below hb1)
  clear hw1 hb1 hS c1x0 c1x1 c1x2
  have c0x0 := (S.out.at 0 rfl).cell (i := 0) rfl
  have f0x0 := (S.out.at 0 rfl).frozen (i := 0)
  have c0x1 := (S.out.at 0 rfl).cell (i := 1) rfl
  have f0x1 := (S.out.at 0 rfl).frozen (i := 1)
  have c0x2 := (S.out.at 0 rfl).cell (i := 2) rfl
  have f0x2 := (S.out.at 0 rfl).frozen (i := 2)
  replace S := Lib.hid (S.out.set3 0 rfl (noint_bool (b := false)) (noint_slice (A := none) (n := 0) (c := 0)) (noint_slice (A := none) (n := 0) (c := 0)) rfl)
  go_wp2_with fail
  have c0x0 := (S.out.at 0 rfl).cell (i := 0) rfl
  have c0x1 := (S.out.at 0 rfl).cell (i := 1) rfl
  have c0x2 := (S.out.at 0 rfl).cell (i := 2) rfl
  refine bodyPost_ret (v := .tuple #[.agg #[.bool false, .slice none 0 0, .slice none 0 0], .int .i64 10]) (by simp [results, Tryz.results40, go_sem, c0x0, c0x1, c0x2]) rfl ?_
  exact ⟨rfl, S.out.low⟩
/-- How two fractions compare. -/
def cmpZ (x y : Int) : Int := if x < y then -1 else if y < x then 1 else 0
def cmpQ (q r : Rat) : Int := cmpZ (q.num * r.den) (r.num * q.den)
theorem cmp_neg {q r : Rat} (h1 : q.num < 0) (h2 : ¬ r.num < 0) : cmpQ q r = -1 := by
  unfold cmpQ cmpZ
  have a1 := Int.mul_neg_of_neg_of_pos h1 (show (0 : Int) < r.den by have := r.den_pos; omega)
  have a2 : 0 ≤ r.num * q.den := Int.mul_nonneg (by omega) (by omega)
  rw [if_pos (by omega)]
theorem cmp_pos {q r : Rat} (h1 : ¬ q.num < 0) (h2 : r.num < 0) : cmpQ q r = 1 := by
  unfold cmpQ cmpZ
  have a1 := Int.mul_neg_of_neg_of_pos h2 (show (0 : Int) < q.den by have := q.den_pos; omega)
  have a2 : 0 ≤ q.num * r.den := Int.mul_nonneg (by omega) (by omega)
  rw [if_neg (by omega), if_pos (by omega)]
theorem cmpQ_same {q r : Rat} {x : Bool} (h1 : decide (q.num < 0) = x) (h2 : decide (r.num < 0) = x) : (if x then -cmpI (q.num.natAbs * r.den) (r.num.natAbs * q.den) else cmpI (q.num.natAbs * r.den) (r.num.natAbs * q.den)) = cmpQ q r := by
  unfold cmpQ cmpZ cmpI
  have e1 := sg_num q
  have e2 := sg_num r
  rw [h1] at e1
  rw [h2] at e2
  rw [← e1, ← e2, ← sg_mulr, ← sg_mulr]
  simp only [sg_abs]
  generalize q.num.natAbs * r.den = X
  generalize r.num.natAbs * q.den = Y
  unfold sg
  cases x
  · simp only [Bool.false_eq_true, if_false]
    by_cases h3 : X < Y
    · rw [if_pos h3, if_pos (by omega)]
    · rw [if_neg h3, if_neg (by omega : ¬ ((X : Int) < Y))]
      by_cases h4 : Y < X
      · rw [if_pos h4, if_pos (by omega)]
      · rw [if_neg h4, if_neg (by omega)]
  · simp only [if_true]
    by_cases h3 : X < Y
    · rw [if_pos h3, if_neg (by omega), if_pos (by omega)]; rfl
    · rw [if_neg h3]
      by_cases h4 : Y < X
      · rw [if_pos h4, if_pos (by omega)]
      · rw [if_neg h4, if_neg (by omega), if_neg (by omega)]; rfl
theorem cmpI_bd (x y : Nat) : -1 ≤ cmpI x y ∧ cmpI x y ≤ 1 := by unfold cmpI; split; (constructor <;> omega); split <;> constructor <;> omega
set_option maxRecDepth 100000 in
set_option maxHeartbeats 8000000 in
theorem cmpR_any {w : World} {u v : Value} {q r : Rat} {a b : Nat} (hu : RatP w u q a) (hv : RatP w v r b) (ha : a ≤ 90) (hb : b ≤ 90) : Calls Tryz.prog 37 #[u, v] w fun e w' => e = .returned (.int .i64 (cmpQ q r)) ∧ Below w.heap.size w w' := by
  have hD1 := Lib.hid (fun W (hw : Below w.heap.size w W) => den_any (hu.below hw) (by omega : a ≤ 400))
  have hD2 := Lib.hid (fun W (hw : Below w.heap.size w W) => den_any (hv.below hw) (by omega : b ≤ 400))
  have HU := Lib.hid hu
  have HV := Lib.hid hv
  obtain ⟨A, n, c, A2, n2, c2, rfl⟩ := hu.shape
  obtain ⟨B, m, d, B2, m2, d2, rfl⟩ := hv.shape
  obtain ⟨w1, hw1, S⟩ := enter2 w [.bool (decide (q.num < 0)), .slice A n c, .slice A2 n2 c2] 30 [.bool (decide (r.num < 0)), .slice B m d, .slice B2 m2 d2] 30 (by decide) noint3 (by decide) noint3
  clear hu hv
  obtain ⟨x, hx⟩ : ∃ x, decide (q.num < 0) = x := ⟨_, rfl⟩
  obtain ⟨y, hy⟩ : ∃ y, decide (r.num < 0) = y := ⟨_, rfl⟩
  rw [hx] at hD1 HU S hw1 ⊢
  rw [hy] at hD2 HV S hw1 ⊢
  have c1x0 := (S.out.at 1 rfl).cell (i := 0) rfl
  have c1x1 := (S.out.at 1 rfl).cell (i := 1) rfl
  have c1x2 := (S.out.at 1 rfl).cell (i := 2) rfl
  have c0x0 := (S.out.at 0 rfl).cell (i := 0) rfl
  have c0x1 := (S.out.at 0 rfl).cell (i := 1) rfl
  have c0x2 := (S.out.at 0 rfl).cell (i := 2) rfl
  by_cases hxy : x = y
  · subst hxy
    have hC := Lib.hid (cmpQ_same hx hy)
    generalize cmpQ q r = z at hC ⊢
    clear hx hy
    cases x
    · go_enter Tryz.func37, Tryz.ntmps37
      go_wp2_with fail
      clear hw1 c1x0 c1x1 c1x2 c0x0 c0x1 c0x2
      refine wp_region_held_drew (S := fun W' => W'.cell? ⟨w.heap.size, 0, none⟩ = some (.bool false) ∧ W'.cell? ⟨w.heap.size, 1, none⟩ = some (.slice A n c) ∧ W'.cell? ⟨w.heap.size, 2, none⟩ = some (.slice A2 n2 c2) ∧ W'.cell? ⟨(w.heap.size + 1), 0, none⟩ = some (.bool false) ∧ W'.cell? ⟨(w.heap.size + 1), 1, none⟩ = some (.slice B m d) ∧ W'.cell? ⟨(w.heap.size + 1), 2, none⟩ = some (.slice B2 m2 d2)) (by kernel_rfl) ⟨(S.out.drew.at 1 rfl).cell (i := 0) rfl, (S.out.drew.at 1 rfl).cell (i := 1) rfl, (S.out.drew.at 1 rfl).cell (i := 2) rfl, (S.out.drew.at 0 rfl).cell (i := 0) rfl, (S.out.drew.at 0 rfl).cell (i := 1) rfl, (S.out.drew.at 0 rfl).cell (i := 2) rfl⟩ (fun hHeld => ?_)
      replace S := Lib.hid S.out.drew
      generalize w1.drew = w2 at S hHeld ⊢
      refine wpAnyH_takeD 0 (v := ?_) rfl rfl (by kernel_rfl) (by kernel_rfl) (by kernel_rfl) (fun _ _ _ h => h) (Or.inl ⟨by rfl, ?_⟩) hHeld ?_
      rotate_left
      focus (intro w hSw; (try dsimp only at hSw); go_simp; try with_reducible rfl)
      simp only [List.setIfInBounds_toArray, List.set_cons_zero, List.set_cons_succ]
      refine wpAnyH_takeD 1 (v := ?_) rfl rfl (by kernel_rfl) (by kernel_rfl) (by kernel_rfl) (fun _ _ _ h => h) (Or.inl ⟨by rfl, ?_⟩) hHeld ?_
      rotate_left
      focus (intro w hSw; (try dsimp only at hSw); go_simp; try with_reducible rfl)
      simp only [List.setIfInBounds_toArray, List.set_cons_zero, List.set_cons_succ]
      refine wpAnyH_takeD 2 (v := ?_) rfl rfl (by kernel_rfl) (by kernel_rfl) (by kernel_rfl) (fun _ _ _ h => h) (Or.inl ⟨by rfl, ?_⟩) hHeld ?_
      rotate_left
      focus (intro w hSw; (try dsimp only at hSw); go_simp; try with_reducible rfl)
      simp only [List.setIfInBounds_toArray, List.set_cons_zero, List.set_cons_succ]
      refine wpAnyH_takeD 5 (v := ?_) rfl rfl (by kernel_rfl) (by kernel_rfl) (by kernel_rfl) (fun _ _ _ h => h) (Or.inl ⟨by rfl, ?_⟩) hHeld ?_
      rotate_left
      focus (intro w hSw; (try dsimp only at hSw); go_simp; try with_reducible rfl)
      simp only [List.setIfInBounds_toArray, List.set_cons_zero, List.set_cons_succ]
      refine wpAnyH_takeD 6 (v := ?_) rfl rfl (by kernel_rfl) (by kernel_rfl) (by kernel_rfl) (fun _ _ _ h => h) (Or.inl ⟨by rfl, ?_⟩) hHeld ?_
      rotate_left
      focus (intro w hSw; (try dsimp only at hSw); go_simp; try with_reducible rfl)
      simp only [List.setIfInBounds_toArray, List.set_cons_zero, List.set_cons_succ]
      refine wpAnyH_takeD 7 (v := ?_) rfl rfl (by kernel_rfl) (by kernel_rfl) (by kernel_rfl) (fun _ _ _ h => h) (Or.inl ⟨by rfl, ?_⟩) hHeld ?_
      rotate_left
      focus (intro w hSw; (try dsimp only at hSw); go_simp; try with_reducible rfl)
      simp only [List.setIfInBounds_toArray, List.set_cons_zero, List.set_cons_succ]
      refine wpAnyH_ready (rs := [3]) (by kernel_rfl) (by simp) ?_
      refine AllReadyH.cons rfl (fun K hK => ?_) AllReadyH.nil
      go_simp
      refine (hD2.out _ S.out.low).mono ?_
      rintro e w3 ⟨A3, n3, c3, rfl, hq, hb1⟩
      replace S := Lib.hid ((S.out.below hb1).push (stab_natB _ _ _) hq)
      clear hq hb1
      refine hK.out _ _ ⟨(S.out.at 1 rfl).cell (i := 0) rfl, (S.out.at 1 rfl).cell (i := 1) rfl, (S.out.at 1 rfl).cell (i := 2) rfl, (S.out.at 0 rfl).cell (i := 0) rfl, (S.out.at 0 rfl).cell (i := 1) rfl, (S.out.at 0 rfl).cell (i := 2) rfl⟩ (fun hHeld => ?_)
      clear hK K
      refine wpAnyH_ready (rs := [4]) (by kernel_rfl) (by simp) ?_
      refine AllReadyH.cons rfl (fun K hK => ?_) AllReadyH.nil
      go_simp
      refine (mulN (HU.out.num.below S.out.low) (S.out.fact 0 rfl) (by omega) (by omega)).mono ?_
      rintro e w4 ⟨A4, n4, c4, rfl, hq, hb1⟩
      replace S := Lib.hid ((S.out.below hb1).push (stab_natB _ _ _) hq)
      clear hq hb1
      refine hK.out _ _ ⟨(S.out.at 1 rfl).cell (i := 0) rfl, (S.out.at 1 rfl).cell (i := 1) rfl, (S.out.at 1 rfl).cell (i := 2) rfl, (S.out.at 0 rfl).cell (i := 0) rfl, (S.out.at 0 rfl).cell (i := 1) rfl, (S.out.at 0 rfl).cell (i := 2) rfl⟩ (fun hHeld => ?_)
      clear hK K
      refine wpAnyH_ready (rs := [8]) (by kernel_rfl) (by simp) ?_
      refine AllReadyH.cons rfl (fun K hK => ?_) AllReadyH.nil
      go_simp
      refine (hD1.out _ S.out.low).mono ?_
      rintro e w5 ⟨A5, n5, c5, rfl, hq, hb1⟩
      replace S := Lib.hid ((S.out.below hb1).push (stab_natB _ _ _) hq)
      clear hq hb1
      refine hK.out _ _ ⟨(S.out.at 1 rfl).cell (i := 0) rfl, (S.out.at 1 rfl).cell (i := 1) rfl, (S.out.at 1 rfl).cell (i := 2) rfl, (S.out.at 0 rfl).cell (i := 0) rfl, (S.out.at 0 rfl).cell (i := 1) rfl, (S.out.at 0 rfl).cell (i := 2) rfl⟩ (fun hHeld => ?_)
      clear hK K
      refine wpAnyH_ready (rs := [9]) (by kernel_rfl) (by simp) ?_
      refine AllReadyH.cons rfl (fun K hK => ?_) AllReadyH.nil
      go_simp
      refine (mulN (HV.out.num.below S.out.low) (S.out.fact 0 rfl) (by omega) (by omega)).mono ?_
      rintro e w6 ⟨A6, n6, c6, rfl, hq, hb1⟩
      replace S := Lib.hid ((S.out.below hb1).push (stab_natB _ _ _) hq)
      clear hq hb1
      refine hK.out _ _ ⟨(S.out.at 1 rfl).cell (i := 0) rfl, (S.out.at 1 rfl).cell (i := 1) rfl, (S.out.at 1 rfl).cell (i := 2) rfl, (S.out.at 0 rfl).cell (i := 0) rfl, (S.out.at 0 rfl).cell (i := 1) rfl, (S.out.at 0 rfl).cell (i := 2) rfl⟩ (fun hHeld => ?_)
      clear hK K
      refine wpAnyH_ready (rs := [10]) (by kernel_rfl) (by simp) ?_
      refine AllReadyH.cons rfl (fun K hK => ?_) AllReadyH.nil
      go_simp
      refine (cmpN (S.out.fact 2 rfl) (S.out.fact 0 rfl) (by omega) (by omega)).mono ?_
      rintro e w7 ⟨rfl, hb1⟩
      replace S := Lib.hid (S.out.below hb1)
      clear hb1 hD1 hD2
      have ho := cmpI_bd (q.num.natAbs * r.den) (r.num.natAbs * q.den)
      generalize cmpI (q.num.natAbs * r.den) (r.num.natAbs * q.den) = o at hC ho ⊢
      obtain ⟨ho1, ho2⟩ := ho
      refine hK.out _ _ ⟨(S.out.at 1 rfl).cell (i := 0) rfl, (S.out.at 1 rfl).cell (i := 1) rfl, (S.out.at 1 rfl).cell (i := 2) rfl, (S.out.at 0 rfl).cell (i := 0) rfl, (S.out.at 0 rfl).cell (i := 1) rfl, (S.out.at 0 rfl).cell (i := 2) rfl⟩ (fun hHeld => ?_)
      clear hK K
      refine wpAnyH_takeD 11 (v := ?_) rfl rfl (by kernel_rfl) (by kernel_rfl) (by kernel_rfl) (fun _ _ _ h => h) (Or.inl ⟨by rfl, ?_⟩) hHeld ?_
      rotate_left
      focus (intro w hSw; (try dsimp only at hSw); go_simp; try with_reducible rfl)
      simp only [List.setIfInBounds_toArray, List.set_cons_zero, List.set_cons_succ]
      refine wpAnyH_done (by kernel_rfl) ?_ _
      have c1x0 := (S.out.at 1 rfl).cell (i := 0) rfl
      go_wp2_with fail
      go_ret
      exact ⟨by rw [← hC.out]; rfl, S.out.low⟩
    · go_enter Tryz.func37, Tryz.ntmps37
      go_wp2_with fail
      clear hw1 c1x0 c1x1 c1x2 c0x0 c0x1 c0x2
      refine wp_region_held_drew (S := fun W' => W'.cell? ⟨w.heap.size, 0, none⟩ = some (.bool true) ∧ W'.cell? ⟨w.heap.size, 1, none⟩ = some (.slice A n c) ∧ W'.cell? ⟨w.heap.size, 2, none⟩ = some (.slice A2 n2 c2) ∧ W'.cell? ⟨(w.heap.size + 1), 0, none⟩ = some (.bool true) ∧ W'.cell? ⟨(w.heap.size + 1), 1, none⟩ = some (.slice B m d) ∧ W'.cell? ⟨(w.heap.size + 1), 2, none⟩ = some (.slice B2 m2 d2)) (by kernel_rfl) ⟨(S.out.drew.at 1 rfl).cell (i := 0) rfl, (S.out.drew.at 1 rfl).cell (i := 1) rfl, (S.out.drew.at 1 rfl).cell (i := 2) rfl, (S.out.drew.at 0 rfl).cell (i := 0) rfl, (S.out.drew.at 0 rfl).cell (i := 1) rfl, (S.out.drew.at 0 rfl).cell (i := 2) rfl⟩ (fun hHeld => ?_)
      replace S := Lib.hid S.out.drew
      generalize w1.drew = w2 at S hHeld ⊢
      refine wpAnyH_takeD 0 (v := ?_) rfl rfl (by kernel_rfl) (by kernel_rfl) (by kernel_rfl) (fun _ _ _ h => h) (Or.inl ⟨by rfl, ?_⟩) hHeld ?_
      rotate_left
      focus (intro w hSw; (try dsimp only at hSw); go_simp; try with_reducible rfl)
      simp only [List.setIfInBounds_toArray, List.set_cons_zero, List.set_cons_succ]
      refine wpAnyH_takeD 1 (v := ?_) rfl rfl (by kernel_rfl) (by kernel_rfl) (by kernel_rfl) (fun _ _ _ h => h) (Or.inl ⟨by rfl, ?_⟩) hHeld ?_
      rotate_left
      focus (intro w hSw; (try dsimp only at hSw); go_simp; try with_reducible rfl)
      simp only [List.setIfInBounds_toArray, List.set_cons_zero, List.set_cons_succ]
      refine wpAnyH_takeD 2 (v := ?_) rfl rfl (by kernel_rfl) (by kernel_rfl) (by kernel_rfl) (fun _ _ _ h => h) (Or.inl ⟨by rfl, ?_⟩) hHeld ?_
      rotate_left
      focus (intro w hSw; (try dsimp only at hSw); go_simp; try with_reducible rfl)
      simp only [List.setIfInBounds_toArray, List.set_cons_zero, List.set_cons_succ]
      refine wpAnyH_takeD 5 (v := ?_) rfl rfl (by kernel_rfl) (by kernel_rfl) (by kernel_rfl) (fun _ _ _ h => h) (Or.inl ⟨by rfl, ?_⟩) hHeld ?_
      rotate_left
      focus (intro w hSw; (try dsimp only at hSw); go_simp; try with_reducible rfl)
      simp only [List.setIfInBounds_toArray, List.set_cons_zero, List.set_cons_succ]
      refine wpAnyH_takeD 6 (v := ?_) rfl rfl (by kernel_rfl) (by kernel_rfl) (by kernel_rfl) (fun _ _ _ h => h) (Or.inl ⟨by rfl, ?_⟩) hHeld ?_
      rotate_left
      focus (intro w hSw; (try dsimp only at hSw); go_simp; try with_reducible rfl)
      simp only [List.setIfInBounds_toArray, List.set_cons_zero, List.set_cons_succ]
      refine wpAnyH_takeD 7 (v := ?_) rfl rfl (by kernel_rfl) (by kernel_rfl) (by kernel_rfl) (fun _ _ _ h => h) (Or.inl ⟨by rfl, ?_⟩) hHeld ?_
      rotate_left
      focus (intro w hSw; (try dsimp only at hSw); go_simp; try with_reducible rfl)
      simp only [List.setIfInBounds_toArray, List.set_cons_zero, List.set_cons_succ]
      refine wpAnyH_ready (rs := [3]) (by kernel_rfl) (by simp) ?_
      refine AllReadyH.cons rfl (fun K hK => ?_) AllReadyH.nil
      go_simp
      refine (hD2.out _ S.out.low).mono ?_
      rintro e w3 ⟨A3, n3, c3, rfl, hq, hb1⟩
      replace S := Lib.hid ((S.out.below hb1).push (stab_natB _ _ _) hq)
      clear hq hb1
      refine hK.out _ _ ⟨(S.out.at 1 rfl).cell (i := 0) rfl, (S.out.at 1 rfl).cell (i := 1) rfl, (S.out.at 1 rfl).cell (i := 2) rfl, (S.out.at 0 rfl).cell (i := 0) rfl, (S.out.at 0 rfl).cell (i := 1) rfl, (S.out.at 0 rfl).cell (i := 2) rfl⟩ (fun hHeld => ?_)
      clear hK K
      refine wpAnyH_ready (rs := [4]) (by kernel_rfl) (by simp) ?_
      refine AllReadyH.cons rfl (fun K hK => ?_) AllReadyH.nil
      go_simp
      refine (mulN (HU.out.num.below S.out.low) (S.out.fact 0 rfl) (by omega) (by omega)).mono ?_
      rintro e w4 ⟨A4, n4, c4, rfl, hq, hb1⟩
      replace S := Lib.hid ((S.out.below hb1).push (stab_natB _ _ _) hq)
      clear hq hb1
      refine hK.out _ _ ⟨(S.out.at 1 rfl).cell (i := 0) rfl, (S.out.at 1 rfl).cell (i := 1) rfl, (S.out.at 1 rfl).cell (i := 2) rfl, (S.out.at 0 rfl).cell (i := 0) rfl, (S.out.at 0 rfl).cell (i := 1) rfl, (S.out.at 0 rfl).cell (i := 2) rfl⟩ (fun hHeld => ?_)
      clear hK K
      refine wpAnyH_ready (rs := [8]) (by kernel_rfl) (by simp) ?_
      refine AllReadyH.cons rfl (fun K hK => ?_) AllReadyH.nil
      go_simp
      refine (hD1.out _ S.out.low).mono ?_
      rintro e w5 ⟨A5, n5, c5, rfl, hq, hb1⟩
      replace S := Lib.hid ((S.out.below hb1).push (stab_natB _ _ _) hq)
      clear hq hb1
      refine hK.out _ _ ⟨(S.out.at 1 rfl).cell (i := 0) rfl, (S.out.at 1 rfl).cell (i := 1) rfl, (S.out.at 1 rfl).cell (i := 2) rfl, (S.out.at 0 rfl).cell (i := 0) rfl, (S.out.at 0 rfl).cell (i := 1) rfl, (S.out.at 0 rfl).cell (i := 2) rfl⟩ (fun hHeld => ?_)
      clear hK K
      refine wpAnyH_ready (rs := [9]) (by kernel_rfl) (by simp) ?_
      refine AllReadyH.cons rfl (fun K hK => ?_) AllReadyH.nil
      go_simp
      refine (mulN (HV.out.num.below S.out.low) (S.out.fact 0 rfl) (by omega) (by omega)).mono ?_
      rintro e w6 ⟨A6, n6, c6, rfl, hq, hb1⟩
      replace S := Lib.hid ((S.out.below hb1).push (stab_natB _ _ _) hq)
      clear hq hb1
      refine hK.out _ _ ⟨(S.out.at 1 rfl).cell (i := 0) rfl, (S.out.at 1 rfl).cell (i := 1) rfl, (S.out.at 1 rfl).cell (i := 2) rfl, (S.out.at 0 rfl).cell (i := 0) rfl, (S.out.at 0 rfl).cell (i := 1) rfl, (S.out.at 0 rfl).cell (i := 2) rfl⟩ (fun hHeld => ?_)
      clear hK K
      refine wpAnyH_ready (rs := [10]) (by kernel_rfl) (by simp) ?_
      refine AllReadyH.cons rfl (fun K hK => ?_) AllReadyH.nil
      go_simp
      refine (cmpN (S.out.fact 2 rfl) (S.out.fact 0 rfl) (by omega) (by omega)).mono ?_
      rintro e w7 ⟨rfl, hb1⟩
      replace S := Lib.hid (S.out.below hb1)
      clear hb1 hD1 hD2
      have ho := cmpI_bd (q.num.natAbs * r.den) (r.num.natAbs * q.den)
      generalize cmpI (q.num.natAbs * r.den) (r.num.natAbs * q.den) = o at hC ho ⊢
      obtain ⟨ho1, ho2⟩ := ho
      refine hK.out _ _ ⟨(S.out.at 1 rfl).cell (i := 0) rfl, (S.out.at 1 rfl).cell (i := 1) rfl, (S.out.at 1 rfl).cell (i := 2) rfl, (S.out.at 0 rfl).cell (i := 0) rfl, (S.out.at 0 rfl).cell (i := 1) rfl, (S.out.at 0 rfl).cell (i := 2) rfl⟩ (fun hHeld => ?_)
      clear hK K
      refine wpAnyH_takeD 11 (v := ?_) rfl rfl (by kernel_rfl) (by kernel_rfl) (by kernel_rfl) (fun _ _ _ h => h) (Or.inl ⟨by rfl, ?_⟩) hHeld ?_
      rotate_left
      focus (intro w hSw; (try dsimp only at hSw); go_simp; try with_reducible rfl)
      simp only [List.setIfInBounds_toArray, List.set_cons_zero, List.set_cons_succ]
      refine wpAnyH_done (by kernel_rfl) ?_ _
      have c1x0 := (S.out.at 1 rfl).cell (i := 0) rfl
      go_wp2_with fail
      go_ret
      exact ⟨by rw [← hC.out]; rfl, S.out.low⟩
  · have hz : cmpQ q r = if x then -1 else 1 := by
      cases x <;> cases y <;> first | exact absurd rfl hxy | skip
      · exact cmp_pos (by simpa using hx) (by simpa using hy)
      · exact cmp_neg (by simpa using hx) (by simpa using hy)
    rw [hz]
    clear hz hx hy
    cases x <;> cases y <;> first | exact absurd rfl hxy | skip
    all_goals
      clear hxy
      go_enter Tryz.func37, Tryz.ntmps37
      go_wp2_with fail
      go_ret
      exact ⟨rfl, S.out.low⟩
end Go.Proofs.YthfjbpbgnoonpaaGreatDoor
