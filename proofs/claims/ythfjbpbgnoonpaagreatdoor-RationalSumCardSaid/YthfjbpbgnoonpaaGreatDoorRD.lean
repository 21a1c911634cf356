/- Contract of package rational: reduce. -/
import Derived.Test.YthfjbpbgnoonpaaGreatDoorRC
namespace Go.Proofs.YthfjbpbgnoonpaaGreatDoor
open Go.RowKit

def OpR (W : World) (k j a b : Nat) (e : Ending) (w' : World) : Prop := ∃ A n c A2 n2 c2 A3 n3 c3, e = .returned (.tuple #[.agg #[.slice A n c], .agg #[.slice A2 n2 c2], .agg #[.slice A3 n3 c3]]) ∧
  NatB w' (.agg #[.slice A n c]) (k / Nat.gcd k j) a ∧ NatB w' (.agg #[.slice A2 n2 c2]) (j / Nat.gcd k j) b ∧ NatB w' (.agg #[.slice A3 n3 c3]) (Nat.gcd k j) b ∧ Below W.heap.size W w'
set_option maxRecDepth 100000 in
set_option maxHeartbeats 4000000 in
theorem reduce_one {w : World} {A A2 : Option Addr} {n c n2 c2 k j a b : Nat} (h1 : NatB w (.agg #[.slice A n c]) k a) (h2 : NatB w (.agg #[.slice A2 n2 c2]) j b) (ha : a ≤ 400) (hb : b ≤ 400) (hj : 0 < j) (hg : Nat.gcd k j = 1) :
    Calls Tryz.prog 56 #[.agg #[.slice A n c], .agg #[.slice A2 n2 c2]] w (OpR w k j a b) := by
  obtain ⟨w1, hw1, S⟩ := enter5 w [.slice A n c] 28 [.slice A2 n2 c2] 28 [.slice none 0 0] 28 [.slice none 0 0] 28 [.slice none 0 0] 28 (by decide) noint1 (by decide) noint1 (by decide) noint1 (by decide) noint1 (by decide) noint1
  have hG := Lib.hid (gcdN (h1.below S.out.low) (h2.below S.out.low) ha hb hj)
  rw [hg] at hG
  have hU := Lib.hid (fun (W : World) (v : Value) (h : NatB W v 1 b) => uintN h hb)
  have hE := Lib.hid hg
  rw [show U64Spec 1 = .returned (.tuple #[.int .u64 1, .bool true]) by rfl] at hU
  have c4x0 := (S.out.at 4 rfl).cell (i := 0) rfl
  have c3x0 := (S.out.at 3 rfl).cell (i := 0) rfl
  clear hg
  go_enter Tryz.func56, Tryz.ntmps56
  go_wp2_with fail
  refine hG.out.mono ?_
  rintro e w2 ⟨A3, n3, c3, rfl, hn, hb1⟩
  clear hw1 hG c4x0 c3x0
  replace S := Lib.hid (((S.out.below hb1).push (stab_natB _ _ _) hn).alloc [.slice A3 n3 c3] 28 (by decide) noint1)
  generalize hx7 : w2.heap.size = x7 at S
  obtain ⟨w3, hw3⟩ : ∃ w3, w2.alloc (.cells #[.slice A3 n3 c3] 28) = w3 := ⟨_, rfl⟩
  rw [hw3] at S
  have c0x0 := (S.out.at 0 rfl).cell (i := 0) rfl
  clear hb1 hn
  go_wp2_with fail
  clear hw3 hx7
  refine (hU.out _ _ (S.out.fact 0 rfl)).mono ?_
  rintro e w4 ⟨rfl, hb⟩
  replace S := Lib.hid (S.out.below hb)
  clear hb hU
  go_wp2_with fail
  refine wp_region_held_drew (S := fun W' => W'.cell? ⟨w.heap.size, 0, none⟩ = some (.slice A n c) ∧ W'.cell? ⟨(w.heap.size + 1), 0, none⟩ = some (.slice A2 n2 c2) ∧ W'.cell? ⟨x7, 0, none⟩ = some (.slice A3 n3 c3)) (by kernel_rfl) ⟨(S.out.drew.at 5 rfl).cell (i := 0) rfl, (S.out.drew.at 4 rfl).cell (i := 0) rfl, (S.out.drew.at 0 rfl).cell (i := 0) rfl⟩ (fun hHeld => ?_)
  replace S := Lib.hid S.out.drew
  generalize w4.drew = w5 at S hHeld ⊢
  refine wpAnyH_takeD 0 (v := ?_) rfl rfl (by kernel_rfl) (by kernel_rfl) (by kernel_rfl) (fun _ _ _ h => h) (Or.inl ⟨by rfl, ?_⟩) hHeld ?_
  rotate_left
  focus (intro w hSw; (try dsimp only at hSw); go_simp; try with_reducible rfl)
  simp only [List.setIfInBounds_toArray, List.set_cons_zero, List.set_cons_succ]
  refine wpAnyH_takeD 1 (v := ?_) rfl rfl (by kernel_rfl) (by kernel_rfl) (by kernel_rfl) (fun _ _ _ h => h) (Or.inl ⟨by rfl, ?_⟩) hHeld ?_
  rotate_left
  focus (intro w hSw; (try dsimp only at hSw); go_simp; try with_reducible rfl)
  simp only [List.setIfInBounds_toArray, List.set_cons_zero, List.set_cons_succ]
  refine wpAnyH_takeD 2 (v := ?_) rfl rfl (by kernel_rfl) (by kernel_rfl) (by kernel_rfl) (fun _ _ _ h => h) (Or.inl ⟨by rfl, ?_⟩) hHeld ?_
  rotate_left
  focus (intro w hSw; (try dsimp only at hSw); go_simp; try with_reducible rfl)
  simp only [List.setIfInBounds_toArray, List.set_cons_zero, List.set_cons_succ]
  have cs0 := (S.out.at 3 rfl).cell (i := 0) rfl
  have fs0 := (S.out.at 3 rfl).frozen (i := 0)
  refine wpAnyH_ready (rs := [3]) (by kernel_rfl) (by simp) ?_
  refine AllReadyH.cons rfl (fun K hK => ?_) AllReadyH.nil
  go_simp
  clear cs0 fs0
  replace S := Lib.hid (S.out.set 3 rfl (i := 0) (u := .slice A n c) (by simp) noint_slice rfl)
  simp only [List.set_cons_zero, List.set_cons_succ] at S
  refine hK.out _ _ ⟨(S.out.at 5 rfl).cell (i := 0) rfl, (S.out.at 4 rfl).cell (i := 0) rfl, (S.out.at 0 rfl).cell (i := 0) rfl⟩ (fun hHeld => ?_)
  clear hK K
  generalize World.setCell w5 _ _ = w6 at S hHeld ⊢
  have cs0 := (S.out.at 2 rfl).cell (i := 0) rfl
  have fs0 := (S.out.at 2 rfl).frozen (i := 0)
  refine wpAnyH_ready (rs := [4]) (by kernel_rfl) (by simp) ?_
  refine AllReadyH.cons rfl (fun K hK => ?_) AllReadyH.nil
  go_simp
  clear cs0 fs0
  replace S := Lib.hid (S.out.set 2 rfl (i := 0) (u := .slice A2 n2 c2) (by simp) noint_slice rfl)
  simp only [List.set_cons_zero, List.set_cons_succ] at S
  refine hK.out _ _ ⟨(S.out.at 5 rfl).cell (i := 0) rfl, (S.out.at 4 rfl).cell (i := 0) rfl, (S.out.at 0 rfl).cell (i := 0) rfl⟩ (fun hHeld => ?_)
  clear hK K
  generalize World.setCell w6 _ _ = w7 at S hHeld ⊢
  have cs0 := (S.out.at 1 rfl).cell (i := 0) rfl
  have fs0 := (S.out.at 1 rfl).frozen (i := 0)
  refine wpAnyH_ready (rs := [5]) (by kernel_rfl) (by simp) ?_
  refine AllReadyH.cons rfl (fun K hK => ?_) AllReadyH.nil
  go_simp
  clear cs0 fs0
  replace S := Lib.hid (S.out.set 1 rfl (i := 0) (u := .slice A3 n3 c3) (by simp) noint_slice rfl)
  simp only [List.set_cons_zero, List.set_cons_succ] at S
  refine hK.out _ _ ⟨(S.out.at 5 rfl).cell (i := 0) rfl, (S.out.at 4 rfl).cell (i := 0) rfl, (S.out.at 0 rfl).cell (i := 0) rfl⟩ (fun hHeld => ?_)
  clear hK K
  generalize World.setCell w7 _ _ = w8 at S hHeld ⊢
  refine wpAnyH_done (by kernel_rfl) ?_ _
  have c3x0 := (S.out.at 3 rfl).cell (i := 0) rfl
  have c2x0 := (S.out.at 2 rfl).cell (i := 0) rfl
  have c1x0 := (S.out.at 1 rfl).cell (i := 0) rfl
  go_wp2_with fail
  refine bodyPost_ret (v := .tuple #[.agg #[.slice A n c], .agg #[.slice A2 n2 c2], .agg #[.slice A3 n3 c3]]) (by simp [results, Tryz.results56, go_sem, c3x0, c2x0, c1x0]) rfl ?_
  exact ⟨A, n, c, A2, n2, c2, A3, n3, c3, rfl, by rw [hE.out, Nat.div_one]; exact h1.below S.out.low, by rw [hE.out, Nat.div_one]; exact h2.below S.out.low, by rw [hE.out]; exact S.out.fact 0 rfl, S.out.low⟩
set_option maxRecDepth 100000 in
set_option maxHeartbeats 8000000 in
theorem reduce_more {w : World} {A A2 : Option Addr} {n c n2 c2 k j a b : Nat} (h1 : NatB w (.agg #[.slice A n c]) k a) (h2 : NatB w (.agg #[.slice A2 n2 c2]) j b) (ha : a ≤ 400) (hb : b ≤ 400) (hj : 0 < j) (hg : Nat.gcd k j ≠ 1) :
    Calls Tryz.prog 56 #[.agg #[.slice A n c], .agg #[.slice A2 n2 c2]] w (OpR w k j a b) := by
  obtain ⟨w1, hw1, S⟩ := enter5 w [.slice A n c] 28 [.slice A2 n2 c2] 28 [.slice none 0 0] 28 [.slice none 0 0] 28 [.slice none 0 0] 28 (by decide) noint1 (by decide) noint1 (by decide) noint1 (by decide) noint1 (by decide) noint1
  have hG := Lib.hid (gcdN (h1.below S.out.low) (h2.below S.out.low) ha hb hj)
  have hg0 := Nat.gcd_pos_of_pos_right k hj
  unfold OpR
  generalize Nat.gcd k j = g at hG hg hg0 ⊢
  have hU := Lib.hid (fun (W : World) (v : Value) (h : NatB W v g b) => uintN h hb)
  have hD1 := Lib.hid (fun (W : World) (v : Value) (hw : Below w.heap.size w W) (h : NatB W v g b) => divN (h1.below hw) h ha hb hg0)
  have hD2 := Lib.hid (fun (W : World) (v : Value) (hw : Below w.heap.size w W) (h : NatB W v g b) => divN (h2.below hw) h hb hb hg0)
  unfold U64Spec at hU
  have H1 := Lib.hid h1
  have H2 := Lib.hid h2
  have c4x0 := (S.out.at 4 rfl).cell (i := 0) rfl
  have c3x0 := (S.out.at 3 rfl).cell (i := 0) rfl
  by_cases hlt : g < 18446744073709551616
  · rw [if_pos hlt] at hU
    have hq : ((g : Int) == 1) = false := by simp; omega
    clear hg0 hg hlt h1 h2
    go_enter Tryz.func56, Tryz.ntmps56
    go_wp2_with fail
    refine hG.out.mono ?_
    rintro e w2 ⟨A3, n3, c3, rfl, hn, hb1⟩
    clear hw1 hG c4x0 c3x0
    replace S := Lib.hid (((S.out.below hb1).push (stab_natB _ _ _) hn).alloc [.slice A3 n3 c3] 28 (by decide) noint1)
    generalize hx7 : w2.heap.size = x7 at S
    obtain ⟨w3, hw3⟩ : ∃ w3, w2.alloc (.cells #[.slice A3 n3 c3] 28) = w3 := ⟨_, rfl⟩
    rw [hw3] at S
    have c0x0 := (S.out.at 0 rfl).cell (i := 0) rfl
    clear hb1 hn
    go_wp2_with fail
    clear hw3 hx7
    refine (hU.out _ _ (S.out.fact 0 rfl)).mono ?_
    rintro e w4 ⟨rfl, hb⟩
    replace S := Lib.hid (S.out.below hb)
    clear hb hU
    have c5x0 := (S.out.at 5 rfl).cell (i := 0) rfl
    have c0x0 := (S.out.at 0 rfl).cell (i := 0) rfl
    go_wp2_with fail
    clear hq
    refine (hD1.out _ _ S.out.low (S.out.fact 0 rfl)).mono ?_
    rintro e w5 ⟨A4, n4, c4, A5, n5, c5, rfl, hq1, hr1, hb⟩
    replace S := Lib.hid ((S.out.below hb).push (stab_natB _ _ _) hq1)
    clear hb hq1 hr1 hD1
    have c5x0 := (S.out.at 5 rfl).cell (i := 0) rfl
    have f5x0 := (S.out.at 5 rfl).frozen (i := 0)
    replace S := Lib.hid (S.out.set 5 rfl (i := 0) (u := .slice A4 n4 c4) (by simp) noint_slice rfl)
    simp only [List.set_cons_zero, List.set_cons_succ] at S
    have c4x0 := (S.out.at 4 rfl).cell (i := 0) rfl
    have c0x0 := (S.out.at 0 rfl).cell (i := 0) rfl
    go_wp2_with fail
    clear c4x0 c0x0 c5x0
    generalize World.setCell w5 _ _ = w6 at S ⊢
    refine (hD2.out _ _ S.out.low (S.out.fact 1 rfl)).mono ?_
    rintro e w7 ⟨A6, n6, c6, A7, n7, c7, rfl, hq1, hr1, hb⟩
    replace S := Lib.hid ((S.out.below hb).push (stab_natB _ _ _) hq1)
    clear hb hq1 hr1 hD2
    have c4x0 := (S.out.at 4 rfl).cell (i := 0) rfl
    have f4x0 := (S.out.at 4 rfl).frozen (i := 0)
    go_wp2_with fail
    replace S := Lib.hid (S.out.set 4 rfl (i := 0) (u := .slice A6 n6 c6) (by simp) noint_slice rfl)
    simp only [List.set_cons_zero, List.set_cons_succ] at S
    generalize World.setCell w7 _ _ = w8 at S ⊢
    refine wp_region_held_drew (S := fun W' => W'.cell? ⟨w.heap.size, 0, none⟩ = some (.slice A4 n4 c4) ∧ W'.cell? ⟨(w.heap.size + 1), 0, none⟩ = some (.slice A6 n6 c6) ∧ W'.cell? ⟨x7, 0, none⟩ = some (.slice A3 n3 c3)) (by kernel_rfl) ⟨(S.out.drew.at 5 rfl).cell (i := 0) rfl, (S.out.drew.at 4 rfl).cell (i := 0) rfl, (S.out.drew.at 0 rfl).cell (i := 0) rfl⟩ (fun hHeld => ?_)
    replace S := Lib.hid S.out.drew
    generalize w8.drew = w9 at S hHeld ⊢
    refine wpAnyH_takeD 0 (v := ?_) rfl rfl (by kernel_rfl) (by kernel_rfl) (by kernel_rfl) (fun _ _ _ h => h) (Or.inl ⟨by rfl, ?_⟩) hHeld ?_
    rotate_left
    focus (intro w hSw; (try dsimp only at hSw); go_simp; try with_reducible rfl)
    simp only [List.setIfInBounds_toArray, List.set_cons_zero, List.set_cons_succ]
    refine wpAnyH_takeD 1 (v := ?_) rfl rfl (by kernel_rfl) (by kernel_rfl) (by kernel_rfl) (fun _ _ _ h => h) (Or.inl ⟨by rfl, ?_⟩) hHeld ?_
    rotate_left
    focus (intro w hSw; (try dsimp only at hSw); go_simp; try with_reducible rfl)
    simp only [List.setIfInBounds_toArray, List.set_cons_zero, List.set_cons_succ]
    refine wpAnyH_takeD 2 (v := ?_) rfl rfl (by kernel_rfl) (by kernel_rfl) (by kernel_rfl) (fun _ _ _ h => h) (Or.inl ⟨by rfl, ?_⟩) hHeld ?_
    rotate_left
    focus (intro w hSw; (try dsimp only at hSw); go_simp; try with_reducible rfl)
    simp only [List.setIfInBounds_toArray, List.set_cons_zero, List.set_cons_succ]
    have cs0 := (S.out.at 3 rfl).cell (i := 0) rfl
    have fs0 := (S.out.at 3 rfl).frozen (i := 0)
    refine wpAnyH_ready (rs := [3]) (by kernel_rfl) (by simp) ?_
    refine AllReadyH.cons rfl (fun K hK => ?_) AllReadyH.nil
    go_simp
    clear cs0 fs0
    replace S := Lib.hid (S.out.set 3 rfl (i := 0) (u := .slice A4 n4 c4) (by simp) noint_slice rfl)
    simp only [List.set_cons_zero, List.set_cons_succ] at S
    refine hK.out _ _ ⟨(S.out.at 5 rfl).cell (i := 0) rfl, (S.out.at 4 rfl).cell (i := 0) rfl, (S.out.at 0 rfl).cell (i := 0) rfl⟩ (fun hHeld => ?_)
    clear hK K
    generalize World.setCell w9 _ _ = w10 at S hHeld ⊢
    have cs0 := (S.out.at 2 rfl).cell (i := 0) rfl
    have fs0 := (S.out.at 2 rfl).frozen (i := 0)
    refine wpAnyH_ready (rs := [4]) (by kernel_rfl) (by simp) ?_
    refine AllReadyH.cons rfl (fun K hK => ?_) AllReadyH.nil
    go_simp
    clear cs0 fs0
    replace S := Lib.hid (S.out.set 2 rfl (i := 0) (u := .slice A6 n6 c6) (by simp) noint_slice rfl)
    simp only [List.set_cons_zero, List.set_cons_succ] at S
    refine hK.out _ _ ⟨(S.out.at 5 rfl).cell (i := 0) rfl, (S.out.at 4 rfl).cell (i := 0) rfl, (S.out.at 0 rfl).cell (i := 0) rfl⟩ (fun hHeld => ?_)
    clear hK K
    generalize World.setCell w10 _ _ = w11 at S hHeld ⊢
    have cs0 := (S.out.at 1 rfl).cell (i := 0) rfl
    have fs0 := (S.out.at 1 rfl).frozen (i := 0)
    refine wpAnyH_ready (rs := [5]) (by kernel_rfl) (by simp) ?_
    refine AllReadyH.cons rfl (fun K hK => ?_) AllReadyH.nil
    go_simp
    clear cs0 fs0
    replace S := Lib.hid (S.out.set 1 rfl (i := 0) (u := .slice A3 n3 c3) (by simp) noint_slice rfl)
    simp only [List.set_cons_zero, List.set_cons_succ] at S
    refine hK.out _ _ ⟨(S.out.at 5 rfl).cell (i := 0) rfl, (S.out.at 4 rfl).cell (i := 0) rfl, (S.out.at 0 rfl).cell (i := 0) rfl⟩ (fun hHeld => ?_)
    clear hK K
    generalize World.setCell w11 _ _ = w12 at S hHeld ⊢
    refine wpAnyH_done (by kernel_rfl) ?_ _
    have c3x0 := (S.out.at 3 rfl).cell (i := 0) rfl
    have c2x0 := (S.out.at 2 rfl).cell (i := 0) rfl
    have c1x0 := (S.out.at 1 rfl).cell (i := 0) rfl
    go_wp2_with fail
    refine bodyPost_ret (v := .tuple #[.agg #[.slice A4 n4 c4], .agg #[.slice A6 n6 c6], .agg #[.slice A3 n3 c3]]) (by simp [results, Tryz.results56, go_sem, c3x0, c2x0, c1x0]) rfl ?_
    exact ⟨A4, n4, c4, A6, n6, c6, A3, n3, c3, rfl, S.out.fact 1 rfl, S.out.fact 0 rfl, S.out.fact 2 rfl, S.out.low⟩
  · rw [if_neg hlt] at hU
    clear hg0 hg hlt h1 h2
    go_enter Tryz.func56, Tryz.ntmps56
    go_wp2_with fail
    refine hG.out.mono ?_
    rintro e w2 ⟨A3, n3, c3, rfl, hn, hb1⟩
    clear hw1 hG c4x0 c3x0
    replace S := Lib.hid (((S.out.below hb1).push (stab_natB _ _ _) hn).alloc [.slice A3 n3 c3] 28 (by decide) noint1)
    generalize hx7 : w2.heap.size = x7 at S
    obtain ⟨w3, hw3⟩ : ∃ w3, w2.alloc (.cells #[.slice A3 n3 c3] 28) = w3 := ⟨_, rfl⟩
    rw [hw3] at S
    have c0x0 := (S.out.at 0 rfl).cell (i := 0) rfl
    clear hb1 hn
    go_wp2_with fail
    clear hw3 hx7
    refine (hU.out _ _ (S.out.fact 0 rfl)).mono ?_
    rintro e w4 ⟨rfl, hb⟩
    replace S := Lib.hid (S.out.below hb)
    clear hb hU
    have c5x0 := (S.out.at 5 rfl).cell (i := 0) rfl
    have c0x0 := (S.out.at 0 rfl).cell (i := 0) rfl
    go_wp2_with fail
    refine (hD1.out _ _ S.out.low (S.out.fact 0 rfl)).mono ?_
    rintro e w5 ⟨A4, n4, c4, A5, n5, c5, rfl, hq1, hr1, hb⟩
    replace S := Lib.hid ((S.out.below hb).push (stab_natB _ _ _) hq1)
    clear hb hq1 hr1 hD1
    have c5x0 := (S.out.at 5 rfl).cell (i := 0) rfl
    have f5x0 := (S.out.at 5 rfl).frozen (i := 0)
    replace S := Lib.hid (S.out.set 5 rfl (i := 0) (u := .slice A4 n4 c4) (by simp) noint_slice rfl)
    simp only [List.set_cons_zero, List.set_cons_succ] at S
    have c4x0 := (S.out.at 4 rfl).cell (i := 0) rfl
    have c0x0 := (S.out.at 0 rfl).cell (i := 0) rfl
    go_wp2_with fail
    clear c4x0 c0x0 c5x0
    generalize World.setCell w5 _ _ = w6 at S ⊢
    refine (hD2.out _ _ S.out.low (S.out.fact 1 rfl)).mono ?_
    rintro e w7 ⟨A6, n6, c6, A7, n7, c7, rfl, hq1, hr1, hb⟩
    replace S := Lib.hid ((S.out.below hb).push (stab_natB _ _ _) hq1)
    clear hb hq1 hr1 hD2
    have c4x0 := (S.out.at 4 rfl).cell (i := 0) rfl
    have f4x0 := (S.out.at 4 rfl).frozen (i := 0)
    go_wp2_with fail
    replace S := Lib.hid (S.out.set 4 rfl (i := 0) (u := .slice A6 n6 c6) (by simp) noint_slice rfl)
    simp only [List.set_cons_zero, List.set_cons_succ] at S
    generalize World.setCell w7 _ _ = w8 at S ⊢
    refine wp_region_held_drew (S := fun W' => W'.cell? ⟨w.heap.size, 0, none⟩ = some (.slice A4 n4 c4) ∧ W'.cell? ⟨(w.heap.size + 1), 0, none⟩ = some (.slice A6 n6 c6) ∧ W'.cell? ⟨x7, 0, none⟩ = some (.slice A3 n3 c3)) (by kernel_rfl) ⟨(S.out.drew.at 5 rfl).cell (i := 0) rfl, (S.out.drew.at 4 rfl).cell (i := 0) rfl, (S.out.drew.at 0 rfl).cell (i := 0) rfl⟩ (fun hHeld => ?_)
    replace S := Lib.hid S.out.drew
    generalize w8.drew = w9 at S hHeld ⊢
    refine wpAnyH_takeD 0 (v := ?_) rfl rfl (by kernel_rfl) (by kernel_rfl) (by kernel_rfl) (fun _ _ _ h => h) (Or.inl ⟨by rfl, ?_⟩) hHeld ?_
    rotate_left
    focus (intro w hSw; (try dsimp only at hSw); go_simp; try with_reducible rfl)
    simp only [List.setIfInBounds_toArray, List.set_cons_zero, List.set_cons_succ]
    refine wpAnyH_takeD 1 (v := ?_) rfl rfl (by kernel_rfl) (by kernel_rfl) (by kernel_rfl) (fun _ _ _ h => h) (Or.inl ⟨by rfl, ?_⟩) hHeld ?_
    rotate_left
    focus (intro w hSw; (try dsimp only at hSw); go_simp; try with_reducible rfl)
    simp only [List.setIfInBounds_toArray, List.set_cons_zero, List.set_cons_succ]
    refine wpAnyH_takeD 2 (v := ?_) rfl rfl (by kernel_rfl) (by kernel_rfl) (by kernel_rfl) (fun _ _ _ h => h) (Or.inl ⟨by rfl, ?_⟩) hHeld ?_
    rotate_left
    focus (intro w hSw; (try dsimp only at hSw); go_simp; try with_reducible rfl)
    simp only [List.setIfInBounds_toArray, List.set_cons_zero, List.set_cons_succ]
    have cs0 := (S.out.at 3 rfl).cell (i := 0) rfl
    have fs0 := (S.out.at 3 rfl).frozen (i := 0)
    refine wpAnyH_ready (rs := [3]) (by kernel_rfl) (by simp) ?_
    refine AllReadyH.cons rfl (fun K hK => ?_) AllReadyH.nil
    go_simp
    clear cs0 fs0
    replace S := Lib.hid (S.out.set 3 rfl (i := 0) (u := .slice A4 n4 c4) (by simp) noint_slice rfl)
    simp only [List.set_cons_zero, List.set_cons_succ] at S
    refine hK.out _ _ ⟨(S.out.at 5 rfl).cell (i := 0) rfl, (S.out.at 4 rfl).cell (i := 0) rfl, (S.out.at 0 rfl).cell (i := 0) rfl⟩ (fun hHeld => ?_)
    clear hK K
    generalize World.setCell w9 _ _ = w10 at S hHeld ⊢
    have cs0 := (S.out.at 2 rfl).cell (i := 0) rfl
    have fs0 := (S.out.at 2 rfl).frozen (i := 0)
    refine wpAnyH_ready (rs := [4]) (by kernel_rfl) (by simp) ?_
    refine AllReadyH.cons rfl (fun K hK => ?_) AllReadyH.nil
    go_simp
    clear cs0 fs0
    replace S := Lib.hid (S.out.set 2 rfl (i := 0) (u := .slice A6 n6 c6) (by simp) noint_slice rfl)
    simp only [List.set_cons_zero, List.set_cons_succ] at S
    refine hK.out _ _ ⟨(S.out.at 5 rfl).cell (i := 0) rfl, (S.out.at 4 rfl).cell (i := 0) rfl, (S.out.at 0 rfl).cell (i := 0) rfl⟩ (fun hHeld => ?_)
    clear hK K
    generalize World.setCell w10 _ _ = w11 at S hHeld ⊢
    have cs0 := (S.out.at 1 rfl).cell (i := 0) rfl
    have fs0 := (S.out.at 1 rfl).frozen (i := 0)
    refine wpAnyH_ready (rs := [5]) (by kernel_rfl) (by simp) ?_
    refine AllReadyH.cons rfl (fun K hK => ?_) AllReadyH.nil
    go_simp
    clear cs0 fs0
    replace S := Lib.hid (S.out.set 1 rfl (i := 0) (u := .slice A3 n3 c3) (by simp) noint_slice rfl)
    simp only [List.set_cons_zero, List.set_cons_succ] at S
    refine hK.out _ _ ⟨(S.out.at 5 rfl).cell (i := 0) rfl, (S.out.at 4 rfl).cell (i := 0) rfl, (S.out.at 0 rfl).cell (i := 0) rfl⟩ (fun hHeld => ?_)
    clear hK K
    generalize World.setCell w11 _ _ = w12 at S hHeld ⊢
    refine wpAnyH_done (by kernel_rfl) ?_ _
    have c3x0 := (S.out.at 3 rfl).cell (i := 0) rfl
    have c2x0 := (S.out.at 2 rfl).cell (i := 0) rfl
    have c1x0 := (S.out.at 1 rfl).cell (i := 0) rfl
    go_wp2_with fail
    refine bodyPost_ret (v := .tuple #[.agg #[.slice A4 n4 c4], .agg #[.slice A6 n6 c6], .agg #[.slice A3 n3 c3]]) (by simp [results, Tryz.results56, go_sem, c3x0, c2x0, c1x0]) rfl ?_
    exact ⟨A4, n4, c4, A6, n6, c6, A3, n3, c3, rfl, S.out.fact 1 rfl, S.out.fact 0 rfl, S.out.fact 2 rfl, S.out.low⟩
theorem reduce_any {w : World} {A A2 : Option Addr} {n c n2 c2 k j a b : Nat} (h1 : NatB w (.agg #[.slice A n c]) k a) (h2 : NatB w (.agg #[.slice A2 n2 c2]) j b) (ha : a ≤ 400) (hb : b ≤ 400) (hj : 0 < j) :
    Calls Tryz.prog 56 #[.agg #[.slice A n c], .agg #[.slice A2 n2 c2]] w (OpR w k j a b) := by
  by_cases hg : Nat.gcd k j = 1
  · exact reduce_one h1 h2 ha hb hj hg
  · exact reduce_more h1 h2 ha hb hj hg
end Go.Proofs.YthfjbpbgnoonpaaGreatDoor
