/- Contract of the reference: Same. Rows of the call's own as lists; what holds of canonical lists. -/
import Derived.Test.YtgpgoadalnojdaaGreatDoorAggH
namespace Go.Proofs.YtgpgoadalnojdaaGreatDoor
open Go.RowKit

set_option maxRecDepth 100000 in
set_option maxHeartbeats 4000000 in
theorem same_true {w : World} {A B : Option Addr} {n c d : Nat} {xs : Nat → Nat × Int} (hA : PxL w A n xs) (hB : PxL w B n xs) (hn : n ≤ 1000) :
    Calls Tryz.prog 10 #[.slice A n c, .slice B n d] w fun e w' => e = .returned (.bool true) ∧ Below w.heap.size w w' := by
  have HA := Lib.hid hA
  have HB := Lib.hid hB
  clear hA hB
  go_enter Tryz.func10, Tryz.ntmps10
  go_wp2_with fail
  go_loopw [5] (fun v wr => ∃ i : Nat, v = .int .i64 (i : Nat) ∧ i ≤ n ∧ Hid (Below w.heap.size w wr)) (fun v _ => n - (intOf v).toNat)
  case atStart => exact ⟨0, rfl, Nat.zero_le _, Lib.hid (Below.refl _ _)⟩
  case round =>
    obtain ⟨wq, rfl⟩ : ∃ x, x = wr := ⟨_, rfl⟩
    obtain ⟨i, rfl, hi, HI⟩ := hrel
    by_cases him : i < n
    · obtain ⟨b, off, rfl, hb, c0, c1, ha⟩ := HA.out.below HI.out i him
      obtain ⟨b', off', rfl, hb', d0, d1, -⟩ := HB.out.below HI.out i him
      have hz0 : (0 : Int) ≤ (i : Int) := by omega
      have hz1 : (i : Int) < (n : Int) := by omega
      have hwi : IntKind.i64.wrap ((i : Int) + 1) = (i : Int) + 1 := IntWalk.i64_in _ (by omega)
      obtain ⟨a, ha'⟩ : ∃ a, (xs i).1 = a := ⟨_, rfl⟩
      obtain ⟨l, hl'⟩ : ∃ l, (xs i).2 = l := ⟨_, rfl⟩
      rw [ha'] at c0 d0
      rw [hl'] at c1 d1
      clear ha' hl' ha
      go_wp2_with fail
      refine wp_region_held_drew (S := fun W' => W'.cell? ⟨b, off + i * 2, none⟩ = some (.int .u32 (a : Int)) ∧ W'.cell? ⟨b, off + i * 2 + 1, none⟩ = some (.int .i64 l) ∧ W'.cell? ⟨b', off' + i * 2, none⟩ = some (.int .u32 (a : Int)) ∧ W'.cell? ⟨b', off' + i * 2 + 1, none⟩ = some (.int .i64 l)) (by kernel_rfl) ⟨c0, c1, d0, d1⟩ (fun hHeld => ?_)
      refine wpAnyH_takeD 0 (v := ?_) rfl rfl (by kernel_rfl) (by kernel_rfl) (by kernel_rfl) (fun _ _ _ h => h) (Or.inl ⟨by rfl, ?_⟩) hHeld ?_
      rotate_left
      focus (intro w hSw; (try dsimp only at hSw); go_simp; try with_reducible rfl)
      simp only [List.setIfInBounds_toArray, List.set_cons_zero, List.set_cons_succ]
      refine wpAnyH_takeD 1 (v := ?_) rfl rfl (by kernel_rfl) (by kernel_rfl) (by kernel_rfl) (fun _ _ _ h => h) (Or.inl ⟨by rfl, ?_⟩) hHeld ?_
      rotate_left
      focus (intro w hSw; (try dsimp only at hSw); go_simp; try with_reducible rfl)
      simp only [List.setIfInBounds_toArray, List.set_cons_zero, List.set_cons_succ]
      refine wpAnyH_takeD 2 (v := ?_) rfl rfl (by kernel_rfl) (by kernel_rfl) (by kernel_rfl) (fun _ _ _ h => h) (Or.inl ⟨by rfl, ?_⟩) hHeld ?_
      rotate_left
      focus (intro w hSw; (try dsimp only at hSw); go_simp; try with_reducible rfl)
      simp only [List.setIfInBounds_toArray, List.set_cons_zero, List.set_cons_succ]
      refine wpAnyH_takeD 3 (v := ?_) rfl rfl (by kernel_rfl) (by kernel_rfl) (by kernel_rfl) (fun _ _ _ h => h) (Or.inl ⟨by rfl, ?_⟩) hHeld ?_
      rotate_left
      focus (intro w hSw; (try dsimp only at hSw); go_simp; try with_reducible rfl)
      simp only [List.setIfInBounds_toArray, List.set_cons_zero, List.set_cons_succ]
      refine wpAnyH_takeD 4 (v := ?_) rfl rfl (by kernel_rfl) (by kernel_rfl) (by kernel_rfl) (fun _ _ _ h => h) (Or.inl ⟨by rfl, ?_⟩) hHeld ?_
      rotate_left
      focus (intro w hSw; (try dsimp only at hSw); go_simp; try with_reducible rfl)
      simp only [List.setIfInBounds_toArray, List.set_cons_zero, List.set_cons_succ]
      refine wpAnyH_takeD 5 (v := ?_) rfl rfl (by kernel_rfl) (by kernel_rfl) (by kernel_rfl) (fun _ _ _ h => h) (Or.inl ⟨by rfl, ?_⟩) hHeld ?_
      rotate_left
      focus (intro w hSw; (try dsimp only at hSw); go_simp; try with_reducible rfl)
      simp only [List.setIfInBounds_toArray, List.set_cons_zero, List.set_cons_succ]
      refine wpAnyH_takeD 6 (v := ?_) rfl rfl (by kernel_rfl) (by kernel_rfl) (by kernel_rfl) (fun _ _ _ h => h) (Or.inl ⟨by rfl, ?_⟩) hHeld ?_
      rotate_left
      focus (intro w hSw; (try dsimp only at hSw); go_simp; try with_reducible rfl)
      simp only [List.setIfInBounds_toArray, List.set_cons_zero, List.set_cons_succ]
      refine wpAnyH_takeD 7 (v := ?_) rfl rfl (by kernel_rfl) (by kernel_rfl) (by kernel_rfl) (fun _ _ _ h => h) (Or.inl ⟨by rfl, ?_⟩) hHeld ?_
      rotate_left
      focus (intro w hSw; (try dsimp only at hSw); go_simp; try with_reducible rfl)
      simp only [List.setIfInBounds_toArray, List.set_cons_zero, List.set_cons_succ]
      refine wpAnyH_takeD 8 (v := ?_) rfl rfl (by kernel_rfl) (by kernel_rfl) (by kernel_rfl) (fun _ _ _ h => h) (Or.inl ⟨by rfl, ?_⟩) hHeld ?_
      rotate_left
      focus (intro w hSw; (try dsimp only at hSw); go_simp; try with_reducible rfl)
      simp only [List.setIfInBounds_toArray, List.set_cons_zero, List.set_cons_succ]
      refine wpAnyH_done (by kernel_rfl) ?_ _
      have H1 := Lib.hid (HI.out.drew)
      clear hHeld c0 c1 d0 d1
      go_wp2_with fail
      go_roundw
      case rel => exact ⟨i + 1, by go_num, by omega, H1⟩
      case measure => simp [intOf]; omega
    · obtain rfl : i = n := by omega
      have hi1 : ¬ ((i : Int) < (i : Int)) := by omega
      go_wp2_with fail
      go_ret
      exact ⟨rfl, HI.out⟩

def xsOf (M : List Px) (i : Nat) : Nat × Int := ((M.getD i (0, 0)).1, ((M.getD i (0, 0)).2 : Int))
theorem OwnP.px {w : World} {base : Nat} {v : Value} {M : List Px} (h : OwnP w base v M) (hV : ∀ p ∈ M, Vld p) : ∃ A c, v = .slice A M.length c ∧ PxL w A M.length (xsOf M) := by
  rcases Nat.eq_zero_or_pos M.length with h0 | h0
  · obtain ⟨A, c, rfl, -, -⟩ := h.form
    exact ⟨A, c, rfl, fun i hi => by omega⟩
  · obtain ⟨g, cap, rfl, hg, hlt, -, -⟩ := h.some_ h0
    refine ⟨_, cap, rfl, fun i hi => ?_⟩
    obtain ⟨c0, c1⟩ := h.cell hi
    have e : M.getD i (0, 0) = M[i] := by simp [List.getD, hi]
    refine ⟨g, 0, rfl, hlt, ?_, ?_, ?_⟩
    · rw [Nat.zero_add]; unfold xsOf; rw [e]; exact c0
    · rw [Nat.zero_add]; unfold xsOf; rw [e]; exact c1
    · unfold xsOf; rw [e]; exact vld_lt (hV _ (List.getElem_mem hi))
theorem allV_of {M : List Px} (hV : ∀ p ∈ M, Vld p) : AllV M.length (xsOf M) := fun i hi => by
  have e : M.getD i (0, 0) = M[i] := by simp [List.getD, hi]
  unfold xsOf
  rw [e]
  exact (vldB_vld (vld_lt (hV _ (List.getElem_mem hi)))).2 (hV _ (List.getElem_mem hi))
theorem pl_of (M : List Px) : pl M.length (xsOf M) = M := by
  apply List.ext_getElem
  · simp [pl]
  · intro i h1 h2
    simp [pl, up, xsOf, List.getD, h2]
theorem eq_of_u {X Y : List Px} (hX : Canon X) (hY : Canon Y) (h : ∀ x, U X x ↔ U Y x) : X = Y := by
  have hin : ∀ {Z : List Px}, Canon Z → ∀ p ∈ Z, 0 ≤ p.1 ∧ p.1 + sz p.2 ≤ 0 + 2 ^ 32 := fun hZ p hp => by
    have := (hZ.1 p hp).2.2
    omega
  rw [uniq 32 (a := 0) (by omega) (by simp) (by omega) hX (hin hX), uniq 32 (a := 0) (by omega) (by simp) (by omega) hY (hin hY)]
  exact canon_same fun x _ _ => h x
theorem no_cov {X : List Px} (hX : Canon X) {i k : Nat} (hi : i < X.length) (hk : k < X.length) (hne : i ≠ k) : ¬ Cov X[i] X[k] := by
  intro hc
  have hp := hX.2.1
  rw [List.pairwise_iff_getElem] at hp
  have h1 := hc.2.1
  have h2 := hc.2.2
  have s1 := sz_pos X[k].2
  rcases Nat.lt_or_gt_of_ne hne with h | h
  · have := hp i k hi hk h; omega
  · have := hp k i hk hi h; omega
end Go.Proofs.YtgpgoadalnojdaaGreatDoor
