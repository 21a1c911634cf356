/- Contract of package prefix: add, whole. -/
import Derived.Test.YtgpgoadalnojdaaGreatDoorAggD
namespace Go.Proofs.YtgpgoadalnojdaaGreatDoor
open Go.RowKit

theorem canon_nil_ : Canon [] := ⟨by simp, List.Pairwise.nil, by simp⟩
theorem stk_nil {p : Px} (hp : Vld p) : Stk [] p := ⟨canon_nil_, hp, by simp⟩
set_option maxRecDepth 100000 in
set_option maxHeartbeats 8000000 in
theorem add_nil {W : World} {base : Nat} {v : Value} {p : Px} (hO : OwnP W base v []) (hp : Vld p) (hbase : base ≤ W.heap.size) :
    Calls Tryz.prog 21 #[v, pv p.1 p.2] W (AddPost W base v [] p) := by
  obtain ⟨A, cap, rfl, hcm, hA⟩ := hO.form
  simp only [List.length_nil] at hO ⊢
  obtain ⟨w1, hw1, hB1, hb1⟩ := fresh_box W p.1 p.2
  have HI := Lib.hid (AddI.start (X := []) hO hB1 hb1 (stk_nil hp))
  have p0 := hB1.cell0
  have p1 := hB1.cell1
  have HBASE := Lib.hid hbase
  clear hO hp hB1 hb1 hA hbase
  go_enter Tryz.func21, Tryz.ntmps21
  go_wp2_with fail
  refine wp_region_held_drew (S := fun W' => W'.cell? ⟨W.heap.size, 0, none⟩ = some (.int .u32 (p.1 : Int)) ∧ W'.cell? ⟨W.heap.size, 1, none⟩ = some (.int .i64 (p.2 : Int))) (by kernel_rfl) ⟨p0, p1⟩ (fun hHeld => ?_)
  obtain ⟨wd, hwd⟩ : ∃ wd, w1.drew = wd := ⟨_, rfl⟩
  have H8 := Lib.hid (HI.out.below (Below.refl _ w1).drew)
  rw [hwd] at hHeld H8 ⊢
  clear hwd HI p0 p1 hw1
  refine wpAnyH_takeD 0 (v := ?_) rfl rfl (by kernel_rfl) (by kernel_rfl) (by kernel_rfl) (fun _ _ _ h => h) (Or.inl ⟨by rfl, ?_⟩) hHeld ?_
  rotate_left
  focus (intro w hSw; (try dsimp only at hSw); go_simp; try with_reducible rfl)
  simp only [List.setIfInBounds_toArray, List.set_cons_zero, List.set_cons_succ]
  refine wpAnyH_takeD 1 (v := ?_) rfl rfl (by kernel_rfl) (by kernel_rfl) (by kernel_rfl) (fun _ _ _ h => h) (Or.inl ⟨by rfl, ?_⟩) hHeld ?_
  rotate_left
  focus (intro w hSw; (try dsimp only at hSw); go_simp; try with_reducible rfl)
  simp only [List.setIfInBounds_toArray, List.set_cons_zero, List.set_cons_succ]
  refine wpAnyH_takeD 2 (v := ?_) rfl rfl (by kernel_rfl) (by kernel_rfl) (by kernel_rfl) (fun _ _ _ h => h) (Or.inl ⟨by rfl, ?_⟩) hHeld ?_
  rotate_left
  focus (intro w hSw; (try dsimp only at hSw); go_simp; try with_reducible rfl)
  simp only [List.setIfInBounds_toArray, List.set_cons_zero, List.set_cons_succ]
  refine wpAnyH_takeD 3 (v := ?_) rfl rfl (by kernel_rfl) (by kernel_rfl) (by kernel_rfl) (fun _ _ _ h => h) (Or.inl ⟨by rfl, ?_⟩) hHeld ?_
  rotate_left
  focus (intro w hSw; (try dsimp only at hSw); go_simp; try with_reducible rfl)
  simp only [List.setIfInBounds_toArray, List.set_cons_zero, List.set_cons_succ]
  refine wpAnyH_takeD 4 (v := undef) rfl rfl (by kernel_rfl) (by kernel_rfl) (by kernel_rfl) (fun _ _ _ h => h) (Or.inr ⟨by rfl, rfl⟩) hHeld ?_
  simp only [List.setIfInBounds_toArray, List.set_cons_zero, List.set_cons_succ]
  refine wpAnyH_takeD 5 (v := undef) rfl rfl (by kernel_rfl) (by kernel_rfl) (by kernel_rfl) (fun _ _ _ h => h) (Or.inr ⟨by rfl, rfl⟩) hHeld ?_
  simp only [List.setIfInBounds_toArray, List.set_cons_zero, List.set_cons_succ]
  refine wpAnyH_takeD 6 (v := undef) rfl rfl (by kernel_rfl) (by kernel_rfl) (by kernel_rfl) (fun _ _ _ h => h) (Or.inr ⟨by rfl, rfl⟩) hHeld ?_
  simp only [List.setIfInBounds_toArray, List.set_cons_zero, List.set_cons_succ]
  refine wpAnyH_takeD 7 (v := undef) rfl rfl (by kernel_rfl) (by kernel_rfl) (by kernel_rfl) (fun _ _ _ h => h) (Or.inr ⟨by rfl, rfl⟩) hHeld ?_
  simp only [List.setIfInBounds_toArray, List.set_cons_zero, List.set_cons_succ]
  refine wpAnyH_takeD 8 (v := undef) rfl rfl (by kernel_rfl) (by kernel_rfl) (by kernel_rfl) (fun _ _ _ h => h) (Or.inr ⟨by rfl, rfl⟩) hHeld ?_
  simp only [List.setIfInBounds_toArray, List.set_cons_zero, List.set_cons_succ]
  refine wpAnyH_takeD 9 (v := undef) rfl rfl (by kernel_rfl) (by kernel_rfl) (by kernel_rfl) (fun _ _ _ h => h) (Or.inr ⟨by rfl, rfl⟩) hHeld ?_
  simp only [List.setIfInBounds_toArray, List.set_cons_zero, List.set_cons_succ]
  refine wpAnyH_takeD 10 (v := undef) rfl rfl (by kernel_rfl) (by kernel_rfl) (by kernel_rfl) (fun _ _ _ h => h) (Or.inr ⟨by rfl, rfl⟩) hHeld ?_
  simp only [List.setIfInBounds_toArray, List.set_cons_zero, List.set_cons_succ]
  refine wpAnyH_takeD 11 (v := undef) rfl rfl (by kernel_rfl) (by kernel_rfl) (by kernel_rfl) (fun _ _ _ h => h) (Or.inr ⟨by rfl, rfl⟩) hHeld ?_
  simp only [List.setIfInBounds_toArray, List.set_cons_zero, List.set_cons_succ]
  refine wpAnyH_takeD 12 (v := ?_) rfl rfl (by kernel_rfl) (by kernel_rfl) (by kernel_rfl) (fun _ _ _ h => h) (Or.inl ⟨by rfl, ?_⟩) hHeld ?_
  rotate_left
  focus (intro w hSw; (try dsimp only at hSw); go_simp; try with_reducible rfl)
  simp only [List.setIfInBounds_toArray, List.set_cons_zero, List.set_cons_succ]
  refine wpAnyH_done (by kernel_rfl) ?_ _
  clear hHeld
  have q0 := H8.out.box.cell0
  have q1 := H8.out.box.cell1
  have HX := Lib.hid (H8.out.own.alloc (.cells #[.int .u32 (p.1 : Int), .int .i64 (p.2 : Int)] 32))
  have hbx := heap_alloc_new wd (.cells #[.int .u32 (p.1 : Int), .int .i64 (p.2 : Int)] 32)
  have hnews : Hid (∀ (i : Nat) u, (encP p)[i]? = some u → (wd.alloc (.cells #[.int .u32 (p.1 : Int), .int .i64 (p.2 : Int)] 32)).cell? (Addr.add ⟨wd.heap.size, 0, none⟩ i) = some u) := by
    intro i u hu
    rw [row_at, cell_of_row _ _ i _ _ (0, 0) hbx]
    simpa [encP] using hu
  obtain ⟨i0, hi, hz0, hz9, hz8⟩ := info_parts infoPx
  have hcs : (pv 0 0).cells.size = 2 := by first | rfl | decide | kernel_rfl
  have HD := Lib.hid (fun v' w2 h1 h2 h3 => H8.out.done (w2 := w2) (v' := v') (fun _ h => by cases h) (fun Y' t' e' => by simp at e') (.cells #[.int .u32 (p.1 : Int), .int .i64 (p.2 : Int)] 32) h1 h2 h3 w2 rfl)
  have hbse : base ≤ (wd.alloc (.cells #[.int .u32 (p.1 : Int), .int .i64 (p.2 : Int)] 32)).heap.size := by
    have h1 := H8.out.gb.size
    have h2 := HBASE.out
    simp
    omega
  clear hbx H8
  go_wp2_with fail
  refine wp_loop_rounds 1 ?_
  rw [rounds_succ]
  go_wp2_with (at_builtin; go_loud (refine wpList_append_own_at _ rfl (.tmp 43) (.tmp 45) _ rfl base 32 i0 _ 2 16 Tryz.underlying22 hi hz0 hz9 hz8 hcs (by decide) (.slice A 0 cap) 0 (fl []) rfl HX.out ⟨wd.heap.size, 0, none⟩ 1 1 (encP p) rfl rfl hnews.out (encP_one p) (by unfold maxLen; omega) (by omega) hbse ?_; intro v' w2 hown2 hg2 hnil hb2; have HF := Lib.hid (HD.out _ _ hown2 hg2 hb2); clear hown2 hg2 hnil hb2))
  go_ret
  exact HF.out

theorem add_any {W : World} {base : Nat} {v : Value} {X : List Px} {p : Px} (hO : OwnP W base v X) (hX : Canon X) (hp : Vld p) (hle : ∀ x ∈ X, Le x p) (hn : X.length ≤ 1000) (hbase : base ≤ W.heap.size) :
    Calls Tryz.prog 21 #[v, pv p.1 p.2] W (AddPost W base v X p) := by
  rcases List.eq_nil_or_concat X with rfl | ⟨Y, t, rfl⟩
  · exact add_nil hO hp hbase
  · rw [List.concat_eq_append] at *
    by_cases hc : Cov t p
    · exact add_cov hO hX hp hle hc
    · exact add_more hO hX hp hle hc hn hbase
end Go.Proofs.YtgpgoadalnojdaaGreatDoor
