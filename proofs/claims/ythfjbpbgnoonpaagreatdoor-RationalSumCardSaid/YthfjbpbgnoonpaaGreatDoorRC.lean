/- Contracts of package rational: reduced, reduce, Make. -/
import Derived.Test.YthfjbpbgnoonpaaGreatDoorRB
import Derived.BigRegion
namespace Go.Proofs.YthfjbpbgnoonpaaGreatDoor
open Go.RowKit

set_option maxRecDepth 100000 in
set_option maxHeartbeats 4000000 in
theorem reduced_raw {w : World} {b : Bool} {A A2 : Option Addr} {n c n2 c2 k a : Nat} (h1 : NatB w (.agg #[.slice A n c]) k a) (ha : a ≤ 400) :
    Calls Tryz.prog 57 #[.bool b, .agg #[.slice A n c], .agg #[.slice A2 n2 c2]] w fun e w' => e = .returned (.agg #[.bool (b && decide (0 < k)), .slice A n c, .slice A2 n2 c2]) ∧ Below w.heap.size w w' := by
  obtain ⟨w1, hw1, S⟩ := enter3 w [.slice A n c] 28 [.slice A2 n2 c2] 28 [.bool false, .slice none 0 0, .slice none 0 0] 30 (by decide) noint1 (by decide) noint1 (by decide) noint3
  have hd := h1.below S.out.low
  clear h1
  have hz := Lib.hid (fun W (hb : Below w1.heap.size w1 W) => zeroN (hd.below hb) ha)
  have he : decide (k = 0) = !decide (0 < k) := by rcases Nat.eq_zero_or_pos k with rfl | h; rfl; simp [h]; omega
  generalize decide (0 < k) = x at he
  have HE := Lib.hid he
  clear hd he
  cases b
  · clear hz HE
    go_enter Tryz.func57, Tryz.ntmps57
    go_wp2_with fail
    clear hw1
    refine wp_region_held_drew (S := fun W' => W'.cell? ⟨w.heap.size, 0, none⟩ = some (.slice A n c) ∧ W'.cell? ⟨w.heap.size + 1, 0, none⟩ = some (.slice A2 n2 c2)) (by kernel_rfl) ⟨(S.out.drew.at 2 rfl).cell (i := 0) rfl, (S.out.drew.at 1 rfl).cell (i := 0) rfl⟩ (fun hHeld => ?_)
    replace S := Lib.hid S.out.drew
    generalize w1.drew = w2 at S hHeld ⊢
    refine wpAnyH_takeD 0 (v := ?_) rfl rfl (by kernel_rfl) (by kernel_rfl) (by kernel_rfl) (fun _ _ _ h => h) (Or.inl ⟨by rfl, ?_⟩) hHeld ?_
    rotate_left
    focus (intro w hSw; (try dsimp only at hSw); go_simp; try with_reducible rfl)
    simp only [List.setIfInBounds_toArray, List.set_cons_zero, List.set_cons_succ]
    refine wpAnyH_takeD 1 (v := ?_) rfl rfl (by kernel_rfl) (by kernel_rfl) (by kernel_rfl) (fun _ _ _ h => h) (Or.inl ⟨by rfl, ?_⟩) hHeld ?_
    rotate_left
    focus (intro w hSw; (try dsimp only at hSw); go_simp; try with_reducible rfl)
    simp only [List.setIfInBounds_toArray, List.set_cons_zero, List.set_cons_succ]
    refine wpAnyH_takeD 2 (v := undef) rfl rfl (by kernel_rfl) (by kernel_rfl) (by kernel_rfl) (fun _ _ _ h => h) (Or.inr ⟨by rfl, rfl⟩) hHeld ?_
    simp only [List.setIfInBounds_toArray, List.set_cons_zero, List.set_cons_succ]
    refine wpAnyH_takeD 3 (v := undef) rfl rfl (by kernel_rfl) (by kernel_rfl) (by kernel_rfl) (fun _ _ _ h => h) (Or.inr ⟨by rfl, rfl⟩) hHeld ?_
    simp only [List.setIfInBounds_toArray, List.set_cons_zero, List.set_cons_succ]
    refine wpAnyH_takeD 4 (v := undef) rfl rfl (by kernel_rfl) (by kernel_rfl) (by kernel_rfl) (fun _ _ _ h => h) (Or.inr ⟨by rfl, rfl⟩) hHeld ?_
    simp only [List.setIfInBounds_toArray, List.set_cons_zero, List.set_cons_succ]
    refine wpAnyH_takeD 5 (v := ?_) rfl rfl (by kernel_rfl) (by kernel_rfl) (by kernel_rfl) (fun _ _ _ h => h) (Or.inl ⟨by rfl, ?_⟩) hHeld ?_
    rotate_left
    focus (intro w hSw; (try dsimp only at hSw); go_simp; try with_reducible rfl)
    simp only [List.setIfInBounds_toArray, List.set_cons_zero, List.set_cons_succ]
    refine wpAnyH_takeD 6 (v := ?_) rfl rfl (by kernel_rfl) (by kernel_rfl) (by kernel_rfl) (fun _ _ _ h => h) (Or.inl ⟨by rfl, ?_⟩) hHeld ?_
    rotate_left
    focus (intro w hSw; (try dsimp only at hSw); go_simp; try with_reducible rfl)
    simp only [List.setIfInBounds_toArray, List.set_cons_zero, List.set_cons_succ]
    refine wpAnyH_takeD 7 (v := ?_) rfl rfl (by kernel_rfl) (by kernel_rfl) (by kernel_rfl) (fun _ _ _ h => h) (Or.inl ⟨by rfl, ?_⟩) hHeld ?_
    rotate_left
    focus (intro w hSw; (try dsimp only at hSw); go_simp; try with_reducible rfl)
    simp only [List.setIfInBounds_toArray, List.set_cons_zero, List.set_cons_succ]
    refine wpAnyH_takeD 8 (v := ?_) rfl rfl (by kernel_rfl) (by kernel_rfl) (by kernel_rfl) (fun _ _ _ h => h) (Or.inl ⟨by rfl, ?_⟩) hHeld ?_
    rotate_left
    focus (intro w hSw; (try dsimp only at hSw); go_simp; try with_reducible rfl)
    simp only [List.setIfInBounds_toArray, List.set_cons_zero, List.set_cons_succ]
    have c0x0 := (S.out.at 0 rfl).cell (i := 0) rfl
    have f0x0 := (S.out.at 0 rfl).frozen (i := 0)
    have c0x1 := (S.out.at 0 rfl).cell (i := 1) rfl
    have f0x1 := (S.out.at 0 rfl).frozen (i := 1)
    have c0x2 := (S.out.at 0 rfl).cell (i := 2) rfl
    have f0x2 := (S.out.at 0 rfl).frozen (i := 2)
    refine wpAnyH_ready (rs := [9]) (by kernel_rfl) (by simp) ?_
    refine AllReadyH.cons rfl (fun K hK => ?_) AllReadyH.nil
    go_simp
    replace S := Lib.hid (S.out.set3 0 rfl (noint_bool (b := false)) (noint_slice (A := A) (n := n) (c := c)) (noint_slice (A := A2) (n := n2) (c := c2)) rfl)
    refine hK.out _ _ ⟨(S.out.at 2 rfl).cell (i := 0) rfl, (S.out.at 1 rfl).cell (i := 0) rfl⟩ (fun hHeld => ?_)
    clear hK K
    refine wpAnyH_done (by kernel_rfl) ?_ _
    have c0x0 := (S.out.at 0 rfl).cell (i := 0) rfl
    have c0x1 := (S.out.at 0 rfl).cell (i := 1) rfl
    have c0x2 := (S.out.at 0 rfl).cell (i := 2) rfl
    go_wp2_with fail
    refine bodyPost_ret (v := .agg #[.bool false, .slice A n c, .slice A2 n2 c2]) (by simp [results, Tryz.results57, go_sem, c0x0, c0x1, c0x2]) rfl ?_
    exact ⟨rfl, S.out.low⟩
  · go_enter Tryz.func57, Tryz.ntmps57
    go_wp2_with fail
    clear hw1
    refine wp_region_held_drew (S := fun W' => W'.cell? ⟨w.heap.size, 0, none⟩ = some (.slice A n c) ∧ W'.cell? ⟨w.heap.size + 1, 0, none⟩ = some (.slice A2 n2 c2)) (by kernel_rfl) ⟨(S.out.drew.at 2 rfl).cell (i := 0) rfl, (S.out.drew.at 1 rfl).cell (i := 0) rfl⟩ (fun hHeld => ?_)
    replace S := Lib.hid S.out.drew
    have hz2 := Lib.hid (hz.out w1.drew (Below.refl _ _).drew)
    generalize w1.drew = w2 at S hHeld hz2 ⊢
    clear hz
    refine wpAnyH_takeD 0 (v := ?_) rfl rfl (by kernel_rfl) (by kernel_rfl) (by kernel_rfl) (fun _ _ _ h => h) (Or.inl ⟨by rfl, ?_⟩) hHeld ?_
    rotate_left
    focus (intro w hSw; (try dsimp only at hSw); go_simp; try with_reducible rfl)
    simp only [List.setIfInBounds_toArray, List.set_cons_zero, List.set_cons_succ]
    refine wpAnyH_takeD 1 (v := ?_) rfl rfl (by kernel_rfl) (by kernel_rfl) (by kernel_rfl) (fun _ _ _ h => h) (Or.inl ⟨by rfl, ?_⟩) hHeld ?_
    rotate_left
    focus (intro w hSw; (try dsimp only at hSw); go_simp; try with_reducible rfl)
    simp only [List.setIfInBounds_toArray, List.set_cons_zero, List.set_cons_succ]
    refine wpAnyH_takeD 2 (v := ?_) rfl rfl (by kernel_rfl) (by kernel_rfl) (by kernel_rfl) (fun _ _ _ h => h) (Or.inl ⟨by rfl, ?_⟩) hHeld ?_
    rotate_left
    focus (intro w hSw; (try dsimp only at hSw); go_simp; try with_reducible rfl)
    simp only [List.setIfInBounds_toArray, List.set_cons_zero, List.set_cons_succ]
    refine wpAnyH_takeD 6 (v := ?_) rfl rfl (by kernel_rfl) (by kernel_rfl) (by kernel_rfl) (fun _ _ _ h => h) (Or.inl ⟨by rfl, ?_⟩) hHeld ?_
    rotate_left
    focus (intro w hSw; (try dsimp only at hSw); go_simp; try with_reducible rfl)
    simp only [List.setIfInBounds_toArray, List.set_cons_zero, List.set_cons_succ]
    refine wpAnyH_takeD 7 (v := ?_) rfl rfl (by kernel_rfl) (by kernel_rfl) (by kernel_rfl) (fun _ _ _ h => h) (Or.inl ⟨by rfl, ?_⟩) hHeld ?_
    rotate_left
    focus (intro w hSw; (try dsimp only at hSw); go_simp; try with_reducible rfl)
    simp only [List.setIfInBounds_toArray, List.set_cons_zero, List.set_cons_succ]
    refine wpAnyH_ready (rs := [3]) (by kernel_rfl) (by simp) ?_
    refine AllReadyH.cons rfl (fun K hK => ?_) AllReadyH.nil
    go_simp
    refine hz2.out.mono ?_
    rintro e w3 ⟨rfl, hb⟩
    rw [HE.out]
    replace S := Lib.hid (S.out.below hb)
    clear hb
    refine hK.out _ _ ⟨(S.out.at 2 rfl).cell (i := 0) rfl, (S.out.at 1 rfl).cell (i := 0) rfl⟩ (fun hHeld => ?_)
    clear hK K
    refine wpAnyH_takeD 4 (v := ?_) rfl rfl (by kernel_rfl) (by kernel_rfl) (by kernel_rfl) (fun _ _ _ h => h) (Or.inl ⟨by rfl, ?_⟩) hHeld ?_
    rotate_left
    focus (intro w hSw; (try dsimp only at hSw); go_simp; try with_reducible rfl)
    simp only [List.setIfInBounds_toArray, List.set_cons_zero, List.set_cons_succ]
    refine wpAnyH_takeD 5 (v := ?_) rfl rfl (by kernel_rfl) (by kernel_rfl) (by kernel_rfl) (fun _ _ _ h => h) (Or.inl ⟨by rfl, ?_⟩) hHeld ?_
    rotate_left
    focus (intro w hSw; (try dsimp only at hSw); go_simp; try with_reducible rfl)
    simp only [List.setIfInBounds_toArray, List.set_cons_zero, List.set_cons_succ]
    refine wpAnyH_takeD 8 (v := ?_) rfl rfl (by kernel_rfl) (by kernel_rfl) (by kernel_rfl) (fun _ _ _ h => h) (Or.inl ⟨by rfl, ?_⟩) hHeld ?_
    rotate_left
    focus (intro w hSw; (try dsimp only at hSw); go_simp; try with_reducible rfl)
    simp only [List.setIfInBounds_toArray, List.set_cons_zero, List.set_cons_succ]
    have c0x0 := (S.out.at 0 rfl).cell (i := 0) rfl
    have f0x0 := (S.out.at 0 rfl).frozen (i := 0)
    have c0x1 := (S.out.at 0 rfl).cell (i := 1) rfl
    have f0x1 := (S.out.at 0 rfl).frozen (i := 1)
    have c0x2 := (S.out.at 0 rfl).cell (i := 2) rfl
    have f0x2 := (S.out.at 0 rfl).frozen (i := 2)
    refine wpAnyH_ready (rs := [9]) (by kernel_rfl) (by simp) ?_
    refine AllReadyH.cons rfl (fun K hK => ?_) AllReadyH.nil
    go_simp
    replace S := Lib.hid (S.out.set3 0 rfl (noint_bool (b := x)) (noint_slice (A := A) (n := n) (c := c)) (noint_slice (A := A2) (n := n2) (c := c2)) rfl)
    refine hK.out _ _ ⟨(S.out.at 2 rfl).cell (i := 0) rfl, (S.out.at 1 rfl).cell (i := 0) rfl⟩ (fun hHeld => ?_)
    clear hK K
    refine wpAnyH_done (by kernel_rfl) ?_ _
    have c0x0 := (S.out.at 0 rfl).cell (i := 0) rfl
    have c0x1 := (S.out.at 0 rfl).cell (i := 1) rfl
    have c0x2 := (S.out.at 0 rfl).cell (i := 2) rfl
    go_wp2_with fail
    refine bodyPost_ret (v := .agg #[.bool x, .slice A n c, .slice A2 n2 c2]) (by simp [results, Tryz.results57, go_sem, c0x0, c0x1, c0x2]) rfl ?_
    exact ⟨by rw [Bool.true_and], S.out.low⟩

def OpQ (W : World) (q : Rat) (a : Nat) (e : Ending) (w' : World) : Prop := ∃ b A n c A2 n2 c2, e = .returned (.agg #[.bool b, .slice A n c, .slice A2 n2 c2]) ∧ RatP w' (.agg #[.bool b, .slice A n c, .slice A2 n2 c2]) q a ∧ Below W.heap.size W w'
theorem sg_neg (b : Bool) (k : Nat) : decide (sg b k < 0) = (b && decide (0 < k)) := by
  unfold sg
  cases b
  · simp
  · rcases Nat.eq_zero_or_pos k with rfl | h
    · rfl
    · simp [h]
theorem mk_low {b : Bool} {k d : Nat} (hd : 0 < d) (hc : Nat.Coprime k d) : (mkRat (sg b k) d).num = sg b k ∧ (mkRat (sg b k) d).den = d :=
  low_eq (by omega) (by rw [sg_abs]; exact hc) (by omega) rfl
theorem ratP_mk {W : World} {b : Bool} {A A2 : Option Addr} {n c n2 c2 k d a : Nat} (h1 : NatB W (.agg #[.slice A n c]) k a) (h2 : NatB W (.agg #[.slice A2 n2 c2]) d a) (hd : 0 < d) (hc : Nat.Coprime k d) :
    RatP W (.agg #[.bool (b && decide (0 < k)), .slice A n c, .slice A2 n2 c2]) (mkRat (sg b k) d) a := by
  obtain ⟨e1, e2⟩ := mk_low (b := b) hd hc
  refine ⟨A, n, c, A2, n2, c2, d, by rw [e1, sg_neg], by rw [e1, sg_abs]; exact h1, h2, .inl e2.symm, by rw [e2]; exact h2.2⟩
theorem reduced_any {w : World} {b : Bool} {A A2 : Option Addr} {n c n2 c2 k d a : Nat} (h1 : NatB w (.agg #[.slice A n c]) k a) (h2 : NatB w (.agg #[.slice A2 n2 c2]) d a) (ha : a ≤ 400) (hd : 0 < d) (hc : Nat.Coprime k d) :
    Calls Tryz.prog 57 #[.bool b, .agg #[.slice A n c], .agg #[.slice A2 n2 c2]] w (OpQ w (mkRat (sg b k) d) a) := by
  refine (reduced_raw h1 ha).mono ?_
  rintro e w' ⟨rfl, hb⟩
  exact ⟨_, A, n, c, A2, n2, c2, rfl, ratP_mk (h1.below hb) (h2.below hb) hd hc, hb⟩
end Go.Proofs.YthfjbpbgnoonpaaGreatDoor
