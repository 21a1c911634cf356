/- Contract of package rational: Sign, Neg, addSigned. -/
import Derived.Test.YthfjbpbgnoonpaaGreatDoorRE
namespace Go.Proofs.YthfjbpbgnoonpaaGreatDoor
open Go.RowKit

theorem neg_mk (q : Rat) : mkRat (sg (!decide (q.num < 0)) q.num.natAbs) q.den = -q := by
  have e : sg (!decide (q.num < 0)) q.num.natAbs = -q.num := by
    unfold sg
    by_cases h : q.num < 0 <;> simp [h] <;> omega
  rw [e]
  exact Rat.mkRat_self (-q)
set_option maxRecDepth 100000 in
set_option maxHeartbeats 4000000 in
theorem sign_any {w : World} {v : Value} {q : Rat} {a : Nat} (h : RatP w v q a) (ha : a ≤ 400) : Calls Tryz.prog 29 #[v] w fun e w' => e = .returned (.int .i64 q.num.sign) ∧ Below w.heap.size w w' := by
  obtain ⟨A, n, c, A2, n2, c2, d, rfl, h1, h2, h3, h4⟩ := h
  obtain ⟨w1, hw1, S⟩ := enter1 w [.bool (decide (q.num < 0)), .slice A n c, .slice A2 n2 c2] 30 (by decide) noint3
  have hd := h1.below S.out.low
  have c0x0 := (S.out.at 0 rfl).cell (i := 0) rfl
  have c0x1 := (S.out.at 0 rfl).cell (i := 1) rfl
  have c0x2 := (S.out.at 0 rfl).cell (i := 2) rfl
  by_cases hn : q.num < 0
  · rw [Int.sign_eq_neg_one_of_neg hn]
    rw [decide_eq_true hn] at S hw1 c0x0 ⊢
    clear h1 h2 h3 h4 hd hn
    go_enter Tryz.func29, Tryz.ntmps29
    go_wp2_with fail
    go_ret
    exact ⟨rfl, S.out.low⟩
  · rw [decide_eq_false hn] at S hw1 c0x0 ⊢
    by_cases hz : q.num = 0
    · have hc := Lib.hid (zeroN_yes hd ha (by rw [hz]; rfl))
      rw [hz]
      clear h1 h2 h3 h4 hd hn hz
      go_enter Tryz.func29, Tryz.ntmps29
      go_wp2_with fail
      refine hc.out.mono ?_
      rintro e w2 ⟨rfl, hb⟩
      clear hw1
      go_wp2_with fail
      go_ret
      exact ⟨rfl, (S.out.below hb).low⟩
    · have hc := Lib.hid (zeroN_no hd ha (Int.natAbs_pos.2 hz))
      rw [Int.sign_eq_one_of_pos (by omega)]
      clear h1 h2 h3 h4 hd hn hz
      go_enter Tryz.func29, Tryz.ntmps29
      go_wp2_with fail
      refine hc.out.mono ?_
      rintro e w2 ⟨rfl, hb⟩
      clear hw1
      go_wp2_with fail
      go_ret
      exact ⟨rfl, (S.out.below hb).low⟩
set_option maxRecDepth 100000 in
set_option maxHeartbeats 4000000 in
theorem neg_any {w : World} {v : Value} {q : Rat} {a : Nat} (h : RatP w v q a) (ha : a ≤ 400) : Calls Tryz.prog 35 #[v] w (OpQ w (-q) a) := by
  have hD := Lib.hid (fun W (hw : Below w.heap.size w W) => den_any (h.below hw) ha)
  obtain ⟨A, n, c, A2, n2, c2, d, rfl, h1, h2, h3, h4⟩ := h
  obtain ⟨w1, hw1, S⟩ := enter2 w [.bool (decide (q.num < 0)), .slice A n c, .slice A2 n2 c2] 30 [.bool false, .slice none 0 0, .slice none 0 0] 30 (by decide) noint3 (by decide) noint3
  have hR := Lib.hid (fun W A2 n2 c2 (hw : Below w.heap.size w W) (h2 : NatB W (.agg #[.slice A2 n2 c2]) q.den a) => reduced_any (b := !decide (q.num < 0)) (h1.below hw) h2 ha q.den_pos q.reduced)
  rw [neg_mk] at hR
  generalize decide (q.num < 0) = x at hD hR S hw1 ⊢
  clear h1 h2 h3 h4
  go_enter Tryz.func35, Tryz.ntmps35
  go_wp2_with fail
  clear hw1
  refine wp_region_held_drew (S := fun W' => W'.cell? ⟨w.heap.size, 0, none⟩ = some (.bool x) ∧ W'.cell? ⟨w.heap.size, 1, none⟩ = some (.slice A n c) ∧ W'.cell? ⟨w.heap.size, 2, none⟩ = some (.slice A2 n2 c2)) (by kernel_rfl) ⟨(S.out.drew.at 1 rfl).cell (i := 0) rfl, (S.out.drew.at 1 rfl).cell (i := 1) rfl, (S.out.drew.at 1 rfl).cell (i := 2) rfl⟩ (fun hHeld => ?_)
  replace S := Lib.hid S.out.drew
  generalize w1.drew = w2 at S hHeld ⊢
  refine wpAnyH_takeD 0 (v := ?_) rfl rfl (by kernel_rfl) (by kernel_rfl) (by kernel_rfl) (fun _ _ _ h => h) (Or.inl ⟨by rfl, ?_⟩) hHeld ?_
  rotate_left
  focus (intro w hSw; (try dsimp only at hSw); go_simp; try with_reducible rfl)
  simp only [List.setIfInBounds_toArray, List.set_cons_zero, List.set_cons_succ]
  refine wpAnyH_takeD 1 (v := ?_) rfl rfl (by kernel_rfl) (by kernel_rfl) (by kernel_rfl) (fun _ _ _ h => h) (Or.inl ⟨by rfl, ?_⟩) hHeld ?_
  rotate_left
  focus (intro w hSw; (try dsimp only at hSw); go_simp; try with_reducible rfl)
  simp only [List.setIfInBounds_toArray, List.set_cons_zero, List.set_cons_succ]
  refine wpAnyH_takeD 2 (v := ?_) rfl rfl (by kernel_rfl) (by kernel_rfl) (by kernel_rfl) (fun _ _ _ h => h) (Or.inl ⟨by rfl, ?_⟩) hHeld ?_
  rotate_left
  focus (intro w hSw; (try dsimp only at hSw); go_simp; try with_reducible rfl)
  simp only [List.setIfInBounds_toArray, List.set_cons_zero, List.set_cons_succ]
  refine wpAnyH_takeD 3 (v := ?_) rfl rfl (by kernel_rfl) (by kernel_rfl) (by kernel_rfl) (fun _ _ _ h => h) (Or.inl ⟨by rfl, ?_⟩) hHeld ?_
  rotate_left
  focus (intro w hSw; (try dsimp only at hSw); go_simp; try with_reducible rfl)
  simp only [List.setIfInBounds_toArray, List.set_cons_zero, List.set_cons_succ]
  refine wpAnyH_takeD 4 (v := ?_) rfl rfl (by kernel_rfl) (by kernel_rfl) (by kernel_rfl) (fun _ _ _ h => h) (Or.inl ⟨by rfl, ?_⟩) hHeld ?_
  rotate_left
  focus (intro w hSw; (try dsimp only at hSw); go_simp; try with_reducible rfl)
  simp only [List.setIfInBounds_toArray, List.set_cons_zero, List.set_cons_succ]
  refine wpAnyH_takeD 5 (v := ?_) rfl rfl (by kernel_rfl) (by kernel_rfl) (by kernel_rfl) (fun _ _ _ h => h) (Or.inl ⟨by rfl, ?_⟩) hHeld ?_
  rotate_left
  focus (intro w hSw; (try dsimp only at hSw); go_simp; try with_reducible rfl)
  simp only [List.setIfInBounds_toArray, List.set_cons_zero, List.set_cons_succ]
  refine wpAnyH_ready (rs := [6]) (by kernel_rfl) (by simp) ?_
  refine AllReadyH.cons rfl (fun K hK => ?_) AllReadyH.nil
  go_simp
  refine (hD.out _ S.out.low).mono ?_
  rintro e w3 ⟨A3, n3, c3, rfl, hx, hb⟩
  replace S := Lib.hid (S.out.below hb)
  refine hK.out _ _ ⟨(S.out.at 1 rfl).cell (i := 0) rfl, (S.out.at 1 rfl).cell (i := 1) rfl, (S.out.at 1 rfl).cell (i := 2) rfl⟩ (fun hHeld => ?_)
  clear hK K
  refine wpAnyH_ready (rs := [7]) (by kernel_rfl) (by simp) ?_
  refine AllReadyH.cons rfl (fun K hK => ?_) AllReadyH.nil
  go_simp
  refine (hR.out _ _ _ _ S.out.low hx).mono ?_
  rintro e w4 ⟨b5, A5, n5, c5, A6, n6, c6, rfl, hq, hb2⟩
  replace S := Lib.hid ((S.out.below hb2).push (stab_ratP _ _ _) hq)
  clear hx hb hq hb2 hD hR
  refine hK.out _ _ ⟨(S.out.at 1 rfl).cell (i := 0) rfl, (S.out.at 1 rfl).cell (i := 1) rfl, (S.out.at 1 rfl).cell (i := 2) rfl⟩ (fun hHeld => ?_)
  clear hK K
  have c0x0 := (S.out.at 0 rfl).cell (i := 0) rfl
  have f0x0 := (S.out.at 0 rfl).frozen (i := 0)
  have c0x1 := (S.out.at 0 rfl).cell (i := 1) rfl
  have f0x1 := (S.out.at 0 rfl).frozen (i := 1)
  have c0x2 := (S.out.at 0 rfl).cell (i := 2) rfl
  have f0x2 := (S.out.at 0 rfl).frozen (i := 2)
  refine wpAnyH_ready (rs := [8]) (by kernel_rfl) (by simp) ?_
  refine AllReadyH.cons rfl (fun K hK => ?_) AllReadyH.nil
  go_simp
  replace S := Lib.hid (S.out.set3 0 rfl (noint_bool (b := b5)) (noint_slice (A := A5) (n := n5) (c := c5)) (noint_slice (A := A6) (n := n6) (c := c6)) rfl)
  refine hK.out _ _ ⟨(S.out.at 1 rfl).cell (i := 0) rfl, (S.out.at 1 rfl).cell (i := 1) rfl, (S.out.at 1 rfl).cell (i := 2) rfl⟩ (fun hHeld => ?_)
  clear hK K
  refine wpAnyH_done (by kernel_rfl) ?_ _
  have c0x0 := (S.out.at 0 rfl).cell (i := 0) rfl
  have c0x1 := (S.out.at 0 rfl).cell (i := 1) rfl
  have c0x2 := (S.out.at 0 rfl).cell (i := 2) rfl
  go_wp2_with fail
  refine bodyPost_ret (v := .agg #[.bool b5, .slice A5 n5 c5, .slice A6 n6 c6]) (by simp [results, Tryz.results35, go_sem, c0x0, c0x1, c0x2]) rfl ?_
  exact ⟨b5, A5, n5, c5, A6, n6, c6, rfl, S.out.fact 0 rfl, S.out.low⟩
end Go.Proofs.YthfjbpbgnoonpaaGreatDoor
