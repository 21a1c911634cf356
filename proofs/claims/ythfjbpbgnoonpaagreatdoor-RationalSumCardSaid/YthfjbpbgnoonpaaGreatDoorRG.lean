/- Contract of package rational: addSigned. -/
import Derived.Test.YthfjbpbgnoonpaaGreatDoorRF
import Derived.BigRegion
namespace Go.Proofs.YthfjbpbgnoonpaaGreatDoor
open Go.RowKit

def OpS2 (W : World) (z : Int) (a : Nat) (e : Ending) (w' : World) : Prop := ∃ s A n c k, e = .returned (.tuple #[.bool s, .agg #[.slice A n c]]) ∧ sg s k = z ∧ NatB w' (.agg #[.slice A n c]) k a ∧ Below W.heap.size W w'
set_option maxRecDepth 100000 in
set_option maxHeartbeats 4000000 in
theorem addSigned_same {w : World} {s : Bool} {A A2 : Option Addr} {n c n2 c2 k j a : Nat} (h1 : NatB w (.agg #[.slice A n c]) k a) (h2 : NatB w (.agg #[.slice A2 n2 c2]) j a) (ha : a ≤ 199) :
    Calls Tryz.prog 75 #[.bool s, .agg #[.slice A n c], .bool s, .agg #[.slice A2 n2 c2]] w (OpS2 w (sg s k + sg s j) (a + a + 1)) := by
  obtain ⟨w1, hw1, S⟩ := enter3 w [.slice A n c] 28 [.slice A2 n2 c2] 28 [.slice none 0 0] 28 (by decide) noint1 (by decide) noint1 (by decide) noint1
  have hA := Lib.hid (addN (h1.below S.out.low) (h2.below S.out.low) (by omega) (by omega))
  have hz : sg s (k + j) = sg s k + sg s j := by unfold sg; cases s <;> simp; omega
  have HZ := Lib.hid hz
  clear h1 h2 hz
  have c2x0 := (S.out.at 2 rfl).cell (i := 0) rfl
  have c1x0 := (S.out.at 1 rfl).cell (i := 0) rfl
  cases s
  all_goals
    go_enter Tryz.func75, Tryz.ntmps75
    go_wp2_with fail
    refine hA.out.mono ?_
    rintro e w2 ⟨A3, n3, c3, rfl, hx, hb⟩
    replace S := Lib.hid ((S.out.below hb).push (stab_natB _ _ _) hx)
    clear hb hx hw1 hA c2x0 c1x0
    have c0x0 := (S.out.at 0 rfl).cell (i := 0) rfl
    have f0x0 := (S.out.at 0 rfl).frozen (i := 0)
    go_wp2_with fail
    replace S := Lib.hid (S.out.set 0 rfl (i := 0) (u := .slice A3 n3 c3) (by simp) noint_slice rfl)
    have c0x0 := (S.out.at 0 rfl).cell (i := 0) rfl
  · refine bodyPost_ret (v := .tuple #[.bool false, .agg #[.slice A3 n3 c3]]) (by simp [results, Tryz.results75, go_sem, c0x0]) rfl ?_
    exact ⟨_, A3, n3, c3, _, rfl, HZ.out, S.out.fact 0 rfl, S.out.low⟩
  · refine bodyPost_ret (v := .tuple #[.bool true, .agg #[.slice A3 n3 c3]]) (by simp [results, Tryz.results75, go_sem, c0x0]) rfl ?_
    exact ⟨_, A3, n3, c3, _, rfl, HZ.out, S.out.fact 0 rfl, S.out.low⟩
set_option maxRecDepth 100000 in
set_option maxHeartbeats 4000000 in
theorem addSigned_ge {w : World} {s t : Bool} {A A2 : Option Addr} {n c n2 c2 k j a : Nat} (h1 : NatB w (.agg #[.slice A n c]) k a) (h2 : NatB w (.agg #[.slice A2 n2 c2]) j a) (ha : a ≤ 199) (hst : s ≠ t) (hle : j ≤ k) :
    Calls Tryz.prog 75 #[.bool s, .agg #[.slice A n c], .bool t, .agg #[.slice A2 n2 c2]] w (OpS2 w (sg s k + sg t j) (a + a + 1)) := by
  obtain ⟨w1, hw1, S⟩ := enter3 w [.slice A n c] 28 [.slice A2 n2 c2] 28 [.slice none 0 0] 28 (by decide) noint1 (by decide) noint1 (by decide) noint1
  have hC := Lib.hid (cmpN (h1.below S.out.low) (h2.below S.out.low) (by omega) (by omega))
  have hA := Lib.hid (fun W (hw : Below w.heap.size w W) => subN (h1.below hw) (h2.below hw) (by omega) (by omega) hle)
  have hz : sg s (k - j) = sg s k + sg t j := by unfold sg; cases s <;> cases t <;> simp at hst ⊢ <;> omega
  have HZ := Lib.hid hz
  have hneg : decide (cmpI k j < 0) = false := by unfold cmpI; rw [if_neg (by omega)]; split <;> rfl
  generalize cmpI k j = x at hC hneg
  clear h1 h2 hz hle
  have c2x0 := (S.out.at 2 rfl).cell (i := 0) rfl
  have c1x0 := (S.out.at 1 rfl).cell (i := 0) rfl
  cases s <;> cases t <;> first | exact absurd rfl hst | skip
  all_goals
    clear hst
    go_enter Tryz.func75, Tryz.ntmps75
    go_wp2_with fail
    refine hC.out.mono ?_
    rintro e w2 ⟨rfl, hb⟩
    replace S := Lib.hid (S.out.below hb)
    clear hb hw1 hC c2x0 c1x0
    have c2x0 := (S.out.at 2 rfl).cell (i := 0) rfl
    have c1x0 := (S.out.at 1 rfl).cell (i := 0) rfl
    go_wp2_with fail
    refine (hA.out _ S.out.low).mono ?_
    rintro e w3 ⟨A3, n3, c3, rfl, hx, hb⟩
    replace S := Lib.hid (((S.out.below hb).push (stab_natB _ _ _) hx).alloc [.slice A3 n3 c3] 28 (by decide) noint1)
    generalize hx10 : w3.heap.size = x10 at S
    obtain ⟨w4, hw4⟩ : ∃ w4, w3.alloc (.cells #[.slice A3 n3 c3] 28) = w4 := ⟨_, rfl⟩
    rw [hw4] at S
    clear hb hx hA c2x0 c1x0 hneg
    go_wp2_with fail
    clear hw4 hx10
    refine wp_region_held_drew (S := fun W' => W'.cell? ⟨x10, 0, none⟩ = some (.slice A3 n3 c3)) (by kernel_rfl) ((S.out.drew.at 0 rfl).cell (i := 0) rfl) (fun hHeld => ?_)
    replace S := Lib.hid S.out.drew
    generalize w4.drew = w5 at S hHeld ⊢
    refine wpAnyH_takeD 0 (v := ?_) rfl rfl (by kernel_rfl) (by kernel_rfl) (by kernel_rfl) (fun _ _ _ h => h) (Or.inl ⟨by rfl, ?_⟩) hHeld ?_
    rotate_left
    focus (intro w hSw; (try dsimp only at hSw); go_simp; try with_reducible rfl)
    simp only [List.setIfInBounds_toArray, List.set_cons_zero, List.set_cons_succ]
    refine wpAnyH_takeD 1 (v := ?_) rfl rfl (by kernel_rfl) (by kernel_rfl) (by kernel_rfl) (fun _ _ _ h => h) (Or.inl ⟨by rfl, ?_⟩) hHeld ?_
    rotate_left
    focus (intro w hSw; (try dsimp only at hSw); go_simp; try with_reducible rfl)
    simp only [List.setIfInBounds_toArray, List.set_cons_zero, List.set_cons_succ]
    refine wpAnyH_takeD 2 (v := ?_) rfl rfl (by kernel_rfl) (by kernel_rfl) (by kernel_rfl) (fun _ _ _ h => h) (Or.inl ⟨by rfl, ?_⟩) hHeld ?_
    rotate_left
    focus (intro w hSw; (try dsimp only at hSw); go_simp; try with_reducible rfl)
    simp only [List.setIfInBounds_toArray, List.set_cons_zero, List.set_cons_succ]
    have cs0 := (S.out.at 1 rfl).cell (i := 0) rfl
    have fs0 := (S.out.at 1 rfl).frozen (i := 0)
    refine wpAnyH_ready (rs := [3]) (by kernel_rfl) (by simp) ?_
    refine AllReadyH.cons rfl (fun K hK => ?_) AllReadyH.nil
    go_simp
    clear cs0 fs0
    replace S := Lib.hid (S.out.set 1 rfl (i := 0) (u := .slice A3 n3 c3) (by simp) noint_slice rfl)
    simp only [List.set_cons_zero, List.set_cons_succ] at S
    refine hK.out _ _ ((S.out.at 0 rfl).cell (i := 0) rfl) (fun hHeld => ?_)
    clear hK K
    generalize World.setCell w5 _ _ = w6 at S hHeld ⊢
    refine wpAnyH_done (by kernel_rfl) ?_ _
    go_wp2_with fail
    have c1x0 := (S.out.at 1 rfl).cell (i := 0) rfl
  · refine bodyPost_ret (v := .tuple #[.bool false, .agg #[.slice A3 n3 c3]]) (by simp [results, Tryz.results75, go_sem, c1x0]) rfl ?_
    exact ⟨_, A3, n3, c3, _, rfl, HZ.out, (S.out.fact 0 rfl).more (by omega), S.out.low⟩
  · refine bodyPost_ret (v := .tuple #[.bool true, .agg #[.slice A3 n3 c3]]) (by simp [results, Tryz.results75, go_sem, c1x0]) rfl ?_
    exact ⟨_, A3, n3, c3, _, rfl, HZ.out, (S.out.fact 0 rfl).more (by omega), S.out.low⟩
set_option maxRecDepth 100000 in
set_option maxHeartbeats 4000000 in
theorem addSigned_lt {w : World} {s t : Bool} {A A2 : Option Addr} {n c n2 c2 k j a : Nat} (h1 : NatB w (.agg #[.slice A n c]) k a) (h2 : NatB w (.agg #[.slice A2 n2 c2]) j a) (ha : a ≤ 199) (hst : s ≠ t) (hle : k < j) :
    Calls Tryz.prog 75 #[.bool s, .agg #[.slice A n c], .bool t, .agg #[.slice A2 n2 c2]] w (OpS2 w (sg s k + sg t j) (a + a + 1)) := by
  obtain ⟨w1, hw1, S⟩ := enter3 w [.slice A n c] 28 [.slice A2 n2 c2] 28 [.slice none 0 0] 28 (by decide) noint1 (by decide) noint1 (by decide) noint1
  have hC := Lib.hid (cmpN (h1.below S.out.low) (h2.below S.out.low) (by omega) (by omega))
  have hA := Lib.hid (fun W (hw : Below w.heap.size w W) => subN (h2.below hw) (h1.below hw) (by omega) (by omega) (Nat.le_of_lt hle))
  have hz : sg t (j - k) = sg s k + sg t j := by unfold sg; cases s <;> cases t <;> simp at hst ⊢ <;> omega
  have HZ := Lib.hid hz
  have hneg : decide (cmpI k j < 0) = true := by unfold cmpI; rw [if_pos (by omega)]; rfl
  generalize cmpI k j = x at hC hneg
  clear h1 h2 hz hle
  have c2x0 := (S.out.at 2 rfl).cell (i := 0) rfl
  have c1x0 := (S.out.at 1 rfl).cell (i := 0) rfl
  cases s <;> cases t <;> first | exact absurd rfl hst | skip
  all_goals
    clear hst
    go_enter Tryz.func75, Tryz.ntmps75
    go_wp2_with fail
    refine hC.out.mono ?_
    rintro e w2 ⟨rfl, hb⟩
    replace S := Lib.hid (S.out.below hb)
    clear hb hw1 hC c2x0 c1x0
    go_wp2_with fail
    clear hneg
    have c2x0 := (S.out.at 2 rfl).cell (i := 0) rfl
    have f2x0 := (S.out.at 2 rfl).frozen (i := 0)
    have c1x0 := (S.out.at 1 rfl).cell (i := 0) rfl
    have f1x0 := (S.out.at 1 rfl).frozen (i := 0)
    go_region
    replace S := Lib.hid ((S.out.set 2 rfl (i := 0) (u := .slice A2 n2 c2) (by simp) noint_slice rfl).set 1 rfl (i := 0) (u := .slice A n c) (by simp) noint_slice rfl).drew
    simp only [List.set_cons_zero, List.set_cons_succ] at S
    clear c2x0 f2x0 c1x0 f1x0
    generalize World.drew _ = w2 at S ⊢
    have c2x0 := (S.out.at 2 rfl).cell (i := 0) rfl
    have c1x0 := (S.out.at 1 rfl).cell (i := 0) rfl
    go_wp2_with fail
    refine (hA.out _ S.out.low).mono ?_
    rintro e w3 ⟨A3, n3, c3, rfl, hx, hb⟩
    replace S := Lib.hid (((S.out.below hb).push (stab_natB _ _ _) hx).alloc [.slice A3 n3 c3] 28 (by decide) noint1)
    generalize hx10 : w3.heap.size = x10 at S
    obtain ⟨w4, hw4⟩ : ∃ w4, w3.alloc (.cells #[.slice A3 n3 c3] 28) = w4 := ⟨_, rfl⟩
    rw [hw4] at S
    clear hb hx hA c2x0 c1x0
    go_wp2_with fail
    clear hw4 hx10
    refine wp_region_held_drew (S := fun W' => W'.cell? ⟨x10, 0, none⟩ = some (.slice A3 n3 c3)) (by kernel_rfl) ((S.out.drew.at 0 rfl).cell (i := 0) rfl) (fun hHeld => ?_)
    replace S := Lib.hid S.out.drew
    generalize w4.drew = w5 at S hHeld ⊢
    refine wpAnyH_takeD 0 (v := ?_) rfl rfl (by kernel_rfl) (by kernel_rfl) (by kernel_rfl) (fun _ _ _ h => h) (Or.inl ⟨by rfl, ?_⟩) hHeld ?_
    rotate_left
    focus (intro w hSw; (try dsimp only at hSw); go_simp; try with_reducible rfl)
    simp only [List.setIfInBounds_toArray, List.set_cons_zero, List.set_cons_succ]
    refine wpAnyH_takeD 1 (v := ?_) rfl rfl (by kernel_rfl) (by kernel_rfl) (by kernel_rfl) (fun _ _ _ h => h) (Or.inl ⟨by rfl, ?_⟩) hHeld ?_
    rotate_left
    focus (intro w hSw; (try dsimp only at hSw); go_simp; try with_reducible rfl)
    simp only [List.setIfInBounds_toArray, List.set_cons_zero, List.set_cons_succ]
    refine wpAnyH_takeD 2 (v := ?_) rfl rfl (by kernel_rfl) (by kernel_rfl) (by kernel_rfl) (fun _ _ _ h => h) (Or.inl ⟨by rfl, ?_⟩) hHeld ?_
    rotate_left
    focus (intro w hSw; (try dsimp only at hSw); go_simp; try with_reducible rfl)
    simp only [List.setIfInBounds_toArray, List.set_cons_zero, List.set_cons_succ]
    have cs0 := (S.out.at 1 rfl).cell (i := 0) rfl
    have fs0 := (S.out.at 1 rfl).frozen (i := 0)
    refine wpAnyH_ready (rs := [3]) (by kernel_rfl) (by simp) ?_
    refine AllReadyH.cons rfl (fun K hK => ?_) AllReadyH.nil
    go_simp
    clear cs0 fs0
    replace S := Lib.hid (S.out.set 1 rfl (i := 0) (u := .slice A3 n3 c3) (by simp) noint_slice rfl)
    simp only [List.set_cons_zero, List.set_cons_succ] at S
    refine hK.out _ _ ((S.out.at 0 rfl).cell (i := 0) rfl) (fun hHeld => ?_)
    clear hK K
    generalize World.setCell w5 _ _ = w6 at S hHeld ⊢
    refine wpAnyH_done (by kernel_rfl) ?_ _
    go_wp2_with fail
    have c1x0 := (S.out.at 1 rfl).cell (i := 0) rfl
  · refine bodyPost_ret (v := .tuple #[.bool true, .agg #[.slice A3 n3 c3]]) (by simp [results, Tryz.results75, go_sem, c1x0]) rfl ?_
    exact ⟨_, A3, n3, c3, _, rfl, HZ.out, (S.out.fact 0 rfl).more (by omega), S.out.low⟩
  · refine bodyPost_ret (v := .tuple #[.bool false, .agg #[.slice A3 n3 c3]]) (by simp [results, Tryz.results75, go_sem, c1x0]) rfl ?_
    exact ⟨_, A3, n3, c3, _, rfl, HZ.out, (S.out.fact 0 rfl).more (by omega), S.out.low⟩
def OpS3 (W : World) (z : Int) (a : Nat) (e : Ending) (w' : World) : Prop := ∃ s A n c, e = .returned (.tuple #[.bool s, .agg #[.slice A n c]]) ∧ sg s z.natAbs = z ∧ NatB w' (.agg #[.slice A n c]) z.natAbs a ∧ Below W.heap.size W w'
theorem addSigned_any {w : World} {s t : Bool} {A A2 : Option Addr} {n c n2 c2 k j a : Nat} (h1 : NatB w (.agg #[.slice A n c]) k a) (h2 : NatB w (.agg #[.slice A2 n2 c2]) j a) (ha : a ≤ 199) :
    Calls Tryz.prog 75 #[.bool s, .agg #[.slice A n c], .bool t, .agg #[.slice A2 n2 c2]] w (OpS3 w (sg s k + sg t j) (a + a + 1)) := by
  have : Calls Tryz.prog 75 #[.bool s, .agg #[.slice A n c], .bool t, .agg #[.slice A2 n2 c2]] w (OpS2 w (sg s k + sg t j) (a + a + 1)) := by
    by_cases hst : s = t
    · subst hst; exact addSigned_same h1 h2 ha
    · rcases Nat.lt_or_ge k j with h | h
      · exact addSigned_lt h1 h2 ha hst h
      · exact addSigned_ge h1 h2 ha hst h
  refine this.mono ?_
  rintro e w' ⟨s', A', n', c', k', rfl, hz, hn, hb⟩
  have hk : k' = (sg s k + sg t j).natAbs := by rw [← hz, sg_abs]
  rw [hk] at hz hn
  exact ⟨s', A', n', c', rfl, hz, hn, hb⟩
end Go.Proofs.YthfjbpbgnoonpaaGreatDoor
