/- Contract: the reference's Sum. -/
import Derived.Test.YthfjbpbgnoonpaaGreatDoorSC
import Derived.Test.YthfjbpbgnoonpaaGreatDoorRV
namespace Go.Proofs.YthfjbpbgnoonpaaGreatDoor
open Go.RowKit

/-- An argument that is a list of the reference's fractions. -/
def ALF (W : World) (v : Value) (n : Nat) (f : RQ) : Prop := ∃ A c, v = .slice A n c ∧ ∀ i, i < n → ∃ g b A1 m1 c1 A2 m2 c2, A = some ⟨g, 0, none⟩ ∧ g < W.heap.size ∧ W.cell? ⟨g, i * 3, none⟩ = some (.bool b) ∧ W.cell? ⟨g, i * 3 + 1, none⟩ = some (.slice A1 m1 c1) ∧ W.cell? ⟨g, i * 3 + 2, none⟩ = some (.slice A2 m2 c2) ∧ RatF W (.agg #[.bool b, .slice A1 m1 c1, .slice A2 m2 c2]) (f i).1 (f i).2
theorem ratF_nought (W : World) : RatF W (.agg #[.bool false, .slice none 0 0, .slice none 0 0]) 0 1 :=
  ⟨none, 0, 0, none, 0, 0, rfl, RefB.zero W 1, RefB.zero W 1, by simp⟩
theorem ref_step (f : RQ) (i : Nat) (v : Value) : (fun W => RatF W v (tot f i + (f i).1) (1 + wt f i + (f i).2 + 1)) = fun W => RatF W v (tot f (i + 1)) (1 + wt f (i + 1)) := by
  funext W
  simp only [tot, wt, Nat.add_assoc]

theorem wt_mono (f : RQ) : ∀ {n i : Nat}, i < n → wt f (i + 1) ≤ wt f n
  | n + 1, i, h => by
    rcases Nat.lt_or_ge i n with h1 | h1
    · have := wt_mono f h1
      simp only [wt] at this ⊢
      omega
    · obtain rfl : i = n := by omega
      exact Nat.le_refl _
set_option maxRecDepth 100000 in
set_option maxHeartbeats 8000000 in
theorem refSum_any {w : World} {v : Value} {n : Nat} {f : RQ} (h : ALF w v n f) (hn : n ≤ 1000) (hw : wt f n ≤ 80) :
    Calls Tryz.prog 50 #[v] w (OpG w (tot f n) (1 + wt f n)) := by
  obtain ⟨A, c, rfl, hel⟩ := h
  have HE := Lib.hid hel
  have HW := Lib.hid hw
  clear hel hw
  obtain ⟨w1, hw1, S⟩ := enter1 w [.bool false, .slice none 0 0, .slice none 0 0] 34 (by decide) noint3
  go_enter Tryz.func50, Tryz.ntmps50
  go_wp2_with fail
  clear hw1
  replace S := Lib.hid ((S.out.push (stab_ratF _ 0 1) (ratF_nought w1)).alloc [.bool false, .slice none 0 0, .slice none 0 0] 34 (by decide) noint3)
  generalize hx3 : w1.heap.size = x3 at S
  obtain ⟨w2, hw2⟩ : ∃ w2, w1.alloc (.cells #[.bool false, .slice none 0 0, .slice none 0 0] 34) = w2 := ⟨_, rfl⟩
  rw [hw2] at S
  simp only [hw2]
  clear hw2 hx3
  go_loopw [4] (fun vi wr => ∃ (i : Nat) (b : Bool) (A1 : Option Addr) (m1 c1 : Nat) (A2 : Option Addr) (m2 c2 : Nat), vi = .int .i64 (i : Nat) ∧ i ≤ n ∧ Hid (Sr w [fun W => RatF W (.agg #[.bool b, .slice A1 m1 c1, .slice A2 m2 c2]) (tot f i) (1 + wt f i)] [(x3, [.bool b, .slice A1 m1 c1, .slice A2 m2 c2], 34), (w.heap.size, [.bool false, .slice none 0 0, .slice none 0 0], 34)] wr)) (fun vi _ => n - (intOf vi).toNat)
  case atStart => exact ⟨0, false, none, 0, 0, none, 0, 0, rfl, Nat.zero_le _, S⟩
  case round =>
    clear S
    obtain ⟨wq, rfl⟩ : ∃ x, x = wr := ⟨_, rfl⟩
    obtain ⟨i, b, A1, m1, c1, A2, m2, c2, rfl, hi, S⟩ := hrel
    by_cases hin : i < n
    · have hi' : (i : Int) < (n : Int) := by omega
      have hz0 : (0 : Int) ≤ (i : Int) := by omega
      have hw3 : IntKind.i64.wrap ((i : Int) + 1) = (i : Int) + 1 := IntWalk.i64_in _ (by omega)
      replace S := Lib.hid S.out.drew
      obtain ⟨g, b3, A3, m3, c3, B3, n3, d3, rfl, hg, d0, d1, d2, hr⟩ := HE.out i hin
      replace d0 := (S.out.low.cell (p := ⟨g, i * 3, none⟩) hg).trans d0
      replace d1 := (S.out.low.cell (p := ⟨g, i * 3 + 1, none⟩) hg).trans d1
      replace d2 := (S.out.low.cell (p := ⟨g, i * 3 + 2, none⟩) hg).trans d2
      have HAdd := Lib.hid (refAddQ_any (S.out.fact 0 rfl) (hr.below S.out.low) (by have := wt_le f hin; have := HW.out; have := wt_mono f hin; simp only [wt] at this; omega))
      clear hg hr
      go_wp2_with fail
      refine wp_region_held_drew (S := fun _ => True) (by kernel_rfl) trivial (fun hHeld => ?_)
      generalize wq.drew = w3 at S d0 d1 d2 HAdd hHeld ⊢
      have c0x0 := (S.out.at 0 rfl).cell (i := 0) rfl
      have c0x1 := (S.out.at 0 rfl).cell (i := 1) rfl
      have c0x2 := (S.out.at 0 rfl).cell (i := 2) rfl
      refine wpAnyH_takeD 1 (v := ?_) rfl rfl (by kernel_rfl) (by kernel_rfl) (by kernel_rfl) (fun _ _ _ h => h) (Or.inl ⟨by rfl, ?_⟩) hHeld ?_
      rotate_left
      focus (intro w hSw; (try dsimp only at hSw); go_simp; try with_reducible rfl)
      simp only [List.setIfInBounds_toArray, List.set_cons_zero, List.set_cons_succ]
      refine wpAnyH_takeD 2 (v := ?_) rfl rfl (by kernel_rfl) (by kernel_rfl) (by kernel_rfl) (fun _ _ _ h => h) (Or.inl ⟨by rfl, ?_⟩) hHeld ?_
      rotate_left
      focus (intro w hSw; (try dsimp only at hSw); go_simp; try with_reducible rfl)
      simp only [List.setIfInBounds_toArray, List.set_cons_zero, List.set_cons_succ]
      refine wpAnyH_takeD 3 (v := ?_) rfl rfl (by kernel_rfl) (by kernel_rfl) (by kernel_rfl) (fun _ _ _ h => h) (Or.inl ⟨by rfl, ?_⟩) hHeld ?_
      rotate_left
      focus (intro w hSw; (try dsimp only at hSw); go_simp; try with_reducible rfl)
      simp only [List.setIfInBounds_toArray, List.set_cons_zero, List.set_cons_succ]
      refine wpAnyH_ready (rs := [0, 4]) (by kernel_rfl) (by simp) ?_
      refine AllReadyH.cons rfl (fun K hK => ?_) (AllReadyH.cons rfl (fun K hK => ?_) AllReadyH.nil)
      · go_simp
        refine hK.out _ _ trivial (fun hHeld => ?_)
        clear hK K
        refine wpAnyH_ready (rs := [4]) (by kernel_rfl) (by simp) ?_
        refine AllReadyH.cons rfl (fun K hK => ?_) AllReadyH.nil
        go_simp
        clear d0 d1 d2 c0x0 c0x1 c0x2
        refine hK.out _ _ trivial (fun hHeld => ?_)
        clear hK K
        refine wpAnyH_ready (rs := [5]) (by kernel_rfl) (by simp) ?_
        refine AllReadyH.cons rfl (fun K hK => ?_) AllReadyH.nil
        go_simp
        refine HAdd.out.mono ?_
        rintro e w4 ⟨b9, A9, m9, c9, A8, m8, c8, rfl, hq, hb⟩
        replace S := Lib.hid ((((S.out.below hb).push (stab_ratF _ _ _) hq)).sub2 (L' := [fun W => RatF W (.agg #[.bool b9, .slice A9 m9 c9, .slice A8 m8 c8]) (tot f i + (f i).1) (1 + wt f i + (f i).2 + 1)]) (List.Sublist.cons_cons _ (List.nil_sublist _)) (List.Sublist.refl _))
        clear hq hb HAdd
        refine hK.out _ _ trivial (fun hHeld => ?_)
        clear hK K
        have c0x0 := (S.out.at 0 rfl).cell (i := 0) rfl
        have f0x0 := (S.out.at 0 rfl).frozen (i := 0)
        have c0x1 := (S.out.at 0 rfl).cell (i := 1) rfl
        have f0x1 := (S.out.at 0 rfl).frozen (i := 1)
        have c0x2 := (S.out.at 0 rfl).cell (i := 2) rfl
        have f0x2 := (S.out.at 0 rfl).frozen (i := 2)
        refine wpAnyH_ready (rs := [6]) (by kernel_rfl) (by simp) ?_
        refine AllReadyH.cons rfl (fun K hK => ?_) AllReadyH.nil
        go_simp
        clear c0x0 c0x1 c0x2 f0x0 f0x1 f0x2
        replace S := Lib.hid (S.out.set3 0 rfl (noint_bool (b := b9)) (noint_slice (A := A9) (n := m9) (c := c9)) (noint_slice (A := A8) (n := m8) (c := c8)) rfl)
        simp only [List.set_cons_zero] at S
        refine hK.out _ _ trivial (fun hHeld => ?_)
        clear hK K hHeld
        refine wpAnyH_done (by kernel_rfl) ?_ _
        generalize World.setCell _ _ _ = w5 at S ⊢
        go_wp2_with fail
        go_roundw
        case rel => exact ⟨i + 1, b9, A9, m9, c9, A8, m8, c8, by go_num, by omega, by rw [ref_step] at S; exact S⟩
        case measure => simp [intOf]; omega
      · go_simp
        refine hK.out _ _ trivial (fun hHeld => ?_)
        clear hK K
        refine wpAnyH_ready (rs := [0]) (by kernel_rfl) (by simp) ?_
        refine AllReadyH.cons rfl (fun K hK => ?_) AllReadyH.nil
        go_simp
        clear d0 d1 d2 c0x0 c0x1 c0x2
        refine hK.out _ _ trivial (fun hHeld => ?_)
        clear hK K
        refine wpAnyH_ready (rs := [5]) (by kernel_rfl) (by simp) ?_
        refine AllReadyH.cons rfl (fun K hK => ?_) AllReadyH.nil
        go_simp
        refine HAdd.out.mono ?_
        rintro e w4 ⟨b9, A9, m9, c9, A8, m8, c8, rfl, hq, hb⟩
        replace S := Lib.hid ((((S.out.below hb).push (stab_ratF _ _ _) hq)).sub2 (L' := [fun W => RatF W (.agg #[.bool b9, .slice A9 m9 c9, .slice A8 m8 c8]) (tot f i + (f i).1) (1 + wt f i + (f i).2 + 1)]) (List.Sublist.cons_cons _ (List.nil_sublist _)) (List.Sublist.refl _))
        clear hq hb HAdd
        refine hK.out _ _ trivial (fun hHeld => ?_)
        clear hK K
        have c0x0 := (S.out.at 0 rfl).cell (i := 0) rfl
        have f0x0 := (S.out.at 0 rfl).frozen (i := 0)
        have c0x1 := (S.out.at 0 rfl).cell (i := 1) rfl
        have f0x1 := (S.out.at 0 rfl).frozen (i := 1)
        have c0x2 := (S.out.at 0 rfl).cell (i := 2) rfl
        have f0x2 := (S.out.at 0 rfl).frozen (i := 2)
        refine wpAnyH_ready (rs := [6]) (by kernel_rfl) (by simp) ?_
        refine AllReadyH.cons rfl (fun K hK => ?_) AllReadyH.nil
        go_simp
        clear c0x0 c0x1 c0x2 f0x0 f0x1 f0x2
        replace S := Lib.hid (S.out.set3 0 rfl (noint_bool (b := b9)) (noint_slice (A := A9) (n := m9) (c := c9)) (noint_slice (A := A8) (n := m8) (c := c8)) rfl)
        simp only [List.set_cons_zero] at S
        refine hK.out _ _ trivial (fun hHeld => ?_)
        clear hK K hHeld
        refine wpAnyH_done (by kernel_rfl) ?_ _
        generalize World.setCell _ _ _ = w5 at S ⊢
        go_wp2_with fail
        go_roundw
        case rel => exact ⟨i + 1, b9, A9, m9, c9, A8, m8, c8, by go_num, by omega, by rw [ref_step] at S; exact S⟩
        case measure => simp [intOf]; omega
    · obtain rfl : i = n := by omega
      have hi' : ¬ (i : Int) < (i : Int) := by omega
      have c0x0 := (S.out.at 0 rfl).cell (i := 0) rfl
      have c0x1 := (S.out.at 0 rfl).cell (i := 1) rfl
      have c0x2 := (S.out.at 0 rfl).cell (i := 2) rfl
      have c1x0 := (S.out.at 1 rfl).cell (i := 0) rfl
      have f1x0 := (S.out.at 1 rfl).frozen (i := 0)
      have c1x1 := (S.out.at 1 rfl).cell (i := 1) rfl
      have f1x1 := (S.out.at 1 rfl).frozen (i := 1)
      have c1x2 := (S.out.at 1 rfl).cell (i := 2) rfl
      have f1x2 := (S.out.at 1 rfl).frozen (i := 2)
      go_wp2_with fail
      clear c0x0 c0x1 c0x2 c1x0 c1x1 c1x2 f1x0 f1x1 f1x2
      replace S := Lib.hid (S.out.set3 1 rfl (noint_bool (b := b)) (noint_slice (A := A1) (n := m1) (c := c1)) (noint_slice (A := A2) (n := m2) (c := c2)) rfl)
      have c1x0 := (S.out.at 1 rfl).cell (i := 0) rfl
      have c1x1 := (S.out.at 1 rfl).cell (i := 1) rfl
      have c1x2 := (S.out.at 1 rfl).cell (i := 2) rfl
      refine bodyPost_ret (v := .agg #[.bool b, .slice A1 m1 c1, .slice A2 m2 c2]) (by simp [results, Tryz.results50, go_sem, c1x0, c1x1, c1x2]) rfl ?_
      exact ⟨b, A1, m1, c1, A2, m2, c2, rfl, S.out.fact 0 rfl, S.out.low⟩
end Go.Proofs.YthfjbpbgnoonpaaGreatDoor
