/- The reference's heap: contract of New. -/
import Derived.Test.YtijoaiehnemgnaaHRefB
namespace Go.Proofs.Ytijoaiehnemgnaa
open Go.RowKit

theorem infoBool : (Try.prog.info? 4).map (fun i => (i.zero, i.size, i.bytes)) = some (some (.bool false), 1, 1) := by kernel_rfl
theorem make_bool (n : Nat) (hn : n ≤ 65536) (w : World) : ∃ w', (Instr.makeSlice 41 (.int .i64 (n : Nat)) (.int .i64 (n : Nat))).run Try.prog w = .ok (.slice (some ⟨w.heap.size, 0, none⟩) n n) w' ∧ Row w' w.heap.size 4 n (fun _ => .bool false) ∧ Below w.heap.size w w' := by
  obtain ⟨i0, hi, hz0, hz1, hz2⟩ := info_parts infoBool
  obtain ⟨w', hrun, r1, r2⟩ := run_make_full (P := Try.prog) w w.heap.size 41 4 i0 _ 1 Try.underlying41 hi hz0 hz1 .i64 .i64 n (by rw [hz2]; omega) (by simp [maxLen]; omega) (Nat.le_refl _)
  exact ⟨w', hrun, row_of_make rfl r1, (Below.refl _ w).grown r2 (Nat.le_refl _) (fun k hk => by cases hk)⟩
theorem make_int (n : Nat) (hn : n ≤ 65536) (w : World) : ∃ w', (Instr.makeSlice 40 (.int .i64 (n : Nat)) (.int .i64 (n : Nat))).run Try.prog w = .ok (.slice (some ⟨w.heap.size, 0, none⟩) n n) w' ∧ Row w' w.heap.size 3 n (fun _ => .int .i64 0) ∧ Below w.heap.size w w' := by
  obtain ⟨i0, hi, hz0, hz1, hz2⟩ := info_parts infoInt
  obtain ⟨w', hrun, r1, r2⟩ := run_make_full (P := Try.prog) w w.heap.size 40 3 i0 _ 1 Try.underlying40 hi hz0 hz1 .i64 .i64 n (by rw [hz2]; omega) (by simp [maxLen]; omega) (Nat.le_refl _)
  exact ⟨w', hrun, row_of_make rfl r1, (Below.refl _ w).grown r2 (Nat.le_refl _) (fun k hk => by cases hk)⟩
def NewR (w : World) (n : Nat) (e : Ending) (w' : World) : Prop := ∃ r hB kB, e = .returned (.pointer (some ⟨r, 0, none⟩)) ∧ RefI w' r hB kB n (fun _ => none) ∧ w.heap.size ≤ r ∧ w.heap.size ≤ hB ∧ w.heap.size ≤ kB ∧ Below w.heap.size w w'
theorem newR_end {w wb : World} {n hB kB : Nat} (hb : Below w.heap.size w wb) (h1 : Row wb hB 4 n (fun _ => .bool false)) (h2 : Row wb kB 3 n (fun _ => .int .i64 0)) (hne : hB ≠ kB) (h3 : w.heap.size ≤ hB) (h4 : w.heap.size ≤ kB) :
    NewR w n (.returned (.pointer (some ⟨wb.heap.size, 0, none⟩))) (wb.alloc (.cells #[.slice (some ⟨hB, 0, none⟩) n n, .slice (some ⟨kB, 0, none⟩) n n] 52)) := by
  have l1 := h1.lt
  have l2 := h2.lt
  have hs := hb.size
  refine ⟨_, hB, kB, rfl, ⟨heap_alloc_new wb _, by omega, by omega, hne, fun _ => 0, Row.same ((Below.heap_alloc wb _ hB l1).trans h1) (fun _ _ => rfl), Row.same ((Below.heap_alloc wb _ kB l2).trans h2) (fun _ _ => rfl), fun i k h => (by cases h)⟩, hs, h3, h4, hb.alloc hs _⟩

set_option maxRecDepth 100000 in
set_option maxHeartbeats 4000000 in
theorem rnew_any {w : World} {n : Nat} (hn : n ≤ 65536) : Calls Try.prog 10 #[.int .i64 (n : Nat)] w (NewR w n) := by
  go_enter Try.func10, Try.ntmps10
  go_wp2_with fail
  refine wp_region_held_drew (S := fun _ => True) (by kernel_rfl) trivial (fun hHeld => ?_)
  obtain ⟨w0, hw0⟩ : ∃ w0, w.drew = w0 := ⟨_, rfl⟩
  have hb0 : Below w.heap.size w w0 := by rw [← hw0]; exact (Below.refl _ _).drew
  have hs0 : w0.heap.size = w.heap.size := by rw [← hw0]; rfl
  rw [hw0]
  clear hw0
  refine wpAnyH_takeD 0 (v := ?_) rfl rfl (by kernel_rfl) (by kernel_rfl) (by kernel_rfl) (fun _ _ _ h => h) (Or.inl ⟨by rfl, ?_⟩) hHeld ?_
  rotate_left
  focus (intro w hSw; (try dsimp only at hSw); go_simp; try with_reducible rfl)
  simp only [List.setIfInBounds_toArray, List.set_cons_zero, List.set_cons_succ]
  refine wpAnyH_takeD 2 (v := ?_) rfl rfl (by kernel_rfl) (by kernel_rfl) (by kernel_rfl) (fun _ _ _ h => h) (Or.inl ⟨by rfl, ?_⟩) hHeld ?_
  rotate_left
  focus (intro w hSw; (try dsimp only at hSw); go_simp; try with_reducible rfl)
  simp only [List.setIfInBounds_toArray, List.set_cons_zero, List.set_cons_succ]
  refine wpAnyH_ready (rs := [1, 3]) (by kernel_rfl) (by simp) ?_
  refine AllReadyH.cons rfl (fun K hK => ?_) ?_
  · obtain ⟨wa, ra, rowa, ba⟩ := make_bool n hn w0
    obtain ⟨wb, rb, rowb, bb⟩ := make_int n hn wa
    have hl := rowa.lt
    have HF := Lib.hid (newR_end (hb0.trans ((ba.trans (bb.mono ba.size)).mono (by omega))) (rowa.below bb hl) rowb (by omega) (by omega) (by omega))
    go_simp
    refine hK.out _ _ trivial (fun hHeld => ?_)
    clear hK K
    refine wpAnyH_ready (rs := [3]) (by kernel_rfl) (by simp) ?_
    refine AllReadyH.cons rfl (fun K hK => ?_) AllReadyH.nil
    go_simp
    refine hK.out _ _ trivial (fun hHeld => ?_)
    clear hK K
    refine wpAnyH_takeD 4 (v := ?_) rfl rfl (by kernel_rfl) (by kernel_rfl) (by kernel_rfl) (fun _ _ _ h => h) (Or.inl ⟨by rfl, ?_⟩) hHeld ?_
    rotate_left
    focus (intro w hSw; (try dsimp only at hSw); go_simp; try with_reducible rfl)
    simp only [List.setIfInBounds_toArray, List.set_cons_zero, List.set_cons_succ]
    refine wpAnyH_ready (rs := [5]) (by kernel_rfl) (by simp) ?_
    refine AllReadyH.cons rfl (fun K hK => ?_) AllReadyH.nil
    go_simp
    refine hK.out _ _ trivial (fun hHeld => ?_)
    clear hK K
    refine wpAnyH_takeD 6 (v := ?_) rfl rfl (by kernel_rfl) (by kernel_rfl) (by kernel_rfl) (fun _ _ _ h => h) (Or.inl ⟨by rfl, ?_⟩) hHeld ?_
    rotate_left
    focus (intro w hSw; (try dsimp only at hSw); go_simp; try with_reducible rfl)
    simp only [List.setIfInBounds_toArray, List.set_cons_zero, List.set_cons_succ]
    refine wpAnyH_done (by kernel_rfl) ?_ _
    go_wp2
    go_ret
    have HF2 := HF.out
    rw [hs0] at HF2
    exact HF2
  refine AllReadyH.cons rfl (fun K hK => ?_) AllReadyH.nil
  obtain ⟨wa, ra, rowa, ba⟩ := make_int n hn w0
  obtain ⟨wb, rb, rowb, bb⟩ := make_bool n hn wa
  have hl := rowa.lt
  have HF := Lib.hid (newR_end (hb0.trans ((ba.trans (bb.mono ba.size)).mono (by omega))) rowb (rowa.below bb hl) (by omega) (by omega) (by omega))
  go_simp
  refine hK.out _ _ trivial (fun hHeld => ?_)
  clear hK K
  refine wpAnyH_ready (rs := [1]) (by kernel_rfl) (by simp) ?_
  refine AllReadyH.cons rfl (fun K hK => ?_) AllReadyH.nil
  go_simp
  refine hK.out _ _ trivial (fun hHeld => ?_)
  clear hK K
  refine wpAnyH_takeD 4 (v := ?_) rfl rfl (by kernel_rfl) (by kernel_rfl) (by kernel_rfl) (fun _ _ _ h => h) (Or.inl ⟨by rfl, ?_⟩) hHeld ?_
  rotate_left
  focus (intro w hSw; (try dsimp only at hSw); go_simp; try with_reducible rfl)
  simp only [List.setIfInBounds_toArray, List.set_cons_zero, List.set_cons_succ]
  refine wpAnyH_ready (rs := [5]) (by kernel_rfl) (by simp) ?_
  refine AllReadyH.cons rfl (fun K hK => ?_) AllReadyH.nil
  go_simp
  refine hK.out _ _ trivial (fun hHeld => ?_)
  clear hK K
  refine wpAnyH_takeD 6 (v := ?_) rfl rfl (by kernel_rfl) (by kernel_rfl) (by kernel_rfl) (fun _ _ _ h => h) (Or.inl ⟨by rfl, ?_⟩) hHeld ?_
  rotate_left
  focus (intro w hSw; (try dsimp only at hSw); go_simp; try with_reducible rfl)
  simp only [List.setIfInBounds_toArray, List.set_cons_zero, List.set_cons_succ]
  refine wpAnyH_done (by kernel_rfl) ?_ _
  go_wp2
  go_ret
  have HF2 := HF.out
  rw [hs0] at HF2
  exact HF2
end Go.Proofs.Ytijoaiehnemgnaa
