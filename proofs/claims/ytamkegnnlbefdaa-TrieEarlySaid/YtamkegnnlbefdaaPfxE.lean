/- Contracts of package prefix and of its reference: Parent. -/
import Derived.Test.YtamkegnnlbefdaaPfxC
namespace Go.Proofs.Ytamkegnnlbefdaa
open Go.RowKit

/-- A box for a result, and what lay below. -/
def Ret1 (w : World) (b a : Nat) (l : Int) (W : World) : Prop := PB W b a l ∧ w.heap.size ≤ b ∧ Below w.heap.size w W
section
variable {w W : World} {b a : Nat} {l : Int}
theorem Ret1.set1 (h : Ret1 w b a l W) (a' : Nat) (l' : Int) : Ret1 w b a' l' ((W.setCell ⟨b, 0, none⟩ (.int .u32 (a' : Int))).setCell ⟨b, 1, none⟩ (.int .i64 l')) := by
  obtain ⟨h1, h2, h3⟩ := h
  exact ⟨h1.set2, h2, (h3.setCell (p := ⟨b, 0, none⟩) h2 _).setCell (p := ⟨b, 1, none⟩) h2 _⟩
theorem Ret1.step {W' : World} (h : Ret1 w b a l W) (hb : Below W.heap.size W W') : Ret1 w b a l W' := by
  obtain ⟨h1, h2, h3⟩ := h
  exact ⟨h1.step hb, h2, h3.trans (hb.mono h3.size)⟩
theorem Ret1.drew (h : Ret1 w b a l W) : Ret1 w b a l W.drew := ⟨h.1, h.2.1, h.2.2.drew⟩
end
theorem start2 (w : World) (a : Nat) (l : Int) : ∃ b1 w2, b1 = w.heap.size + 1 ∧ (w.alloc (.cells #[.int .u32 (a : Int), .int .i64 l] 35)).alloc (.cells #[.int .u32 0, .int .i64 0] 35) = w2 ∧
    PB w2 w.heap.size a l ∧ Ret1 w b1 0 0 w2 := by
  have hP1 := PB.new w a l
  have hb1 : Below w.heap.size w (w.alloc (.cells #[.int .u32 (a : Int), .int .i64 l] 35)) := (Below.refl _ _).alloc (Nat.le_refl _) _
  refine ⟨_, _, rfl, rfl, hP1.alloc _, ?_, ?_, ?_⟩
  · have := PB.new (w.alloc (.cells #[.int .u32 (a : Int), .int .i64 l] 35)) 0 0
    simpa using this
  · omega
  · exact hb1.alloc hb1.size _
theorem hasL0 : decide ((0 : Int) = 0) = true := rfl
theorem parent_first (a n : Nat) (w : World) (ha : a < 4294967296) (hn : n ≤ 32) (h0 : 0 < n) : Calls Try.prog 52 #[.int .u32 (a : Int), .int .i64 ((n : Int) - 1)] w fun e w' => e = .returned (.int .u32 (fst a (n - 1) : Nat)) ∧ w' = w := by
  have := first_any a (n - 1) w ha (by omega)
  rwa [show ((n - 1 : Nat) : Int) = (n : Int) - 1 by omega] at this
theorem parent_mask (n : Nat) (w : World) (hn : n ≤ 32) (h0 : 0 < n) : Calls Try.prog 48 #[.int .i64 ((n : Int) - 1)] w fun e w' => e = .returned (.int .u32 (msk (n - 1) : Nat)) ∧ w' = w := by
  have := mask_any (n - 1) w (by omega)
  rwa [show ((n - 1 : Nat) : Int) = (n : Int) - 1 by omega] at this

set_option maxHeartbeats 2000000 in
theorem refParent_bad (a : Nat) (l : Int) (w : World) (ha : a < 4294967296) (hv : vldB a l = false) : Calls Try.prog 51 #[pv a l] w fun e w' => e = .returned (.tuple #[pv 0 0, .int .i64 1]) ∧ Below w.heap.size w w' := by
  have hV := Lib.hid (fun W => refValid_any a l W ha)
  rw [hv] at hV
  obtain ⟨b1, w2, e1, hw2, hP, hT⟩ := start2 w a l
  have H3 := Lib.hid (And.intro hP hT)
  have c0 := hP.cell0
  have c1 := hP.cell1
  have E1 := Lib.hid e1.symm
  clear hv hP hT e1
  go_enter Try.func51, Try.ntmps51
  go_wp2_with fail
  try simp only [E1.out]
  refine (hV.out _).mono ?_
  rintro e w4 ⟨rfl, hb4⟩
  have H4 := Lib.hid (H3.out.2.step hb4)
  clear hb4 hw2 c0 c1
  have f0 := H4.out.1.frozen 0
  have f1 := H4.out.1.frozen 1
  have c0 : w4.cell? ⟨b1, 0, none⟩ = some (.int .u32 0) := H4.out.1.cell0
  have c1 := H4.out.1.cell1
  go_wp2_with fail
  have HT := Lib.hid (show Ret1 w b1 0 0 ((w4.setCell ⟨b1, 0, none⟩ (.int .u32 0)).setCell ⟨b1, 1, none⟩ (.int .i64 0)) from H4.out.set1 0 0)
  generalize (w4.setCell ⟨b1, 0, none⟩ (.int .u32 0)).setCell ⟨b1, 1, none⟩ (.int .i64 0) = W7 at HT ⊢
  have z0 := HT.out.1.cell0
  have z1 := HT.out.1.cell1
  exact bodyPost_ret (v := .tuple #[pv 0 0, .int .i64 1]) (by simp [results, Try.results51, go_sem, z0, z1]) rfl ⟨rfl, HT.out.2.2⟩

set_option maxHeartbeats 2000000 in
theorem refParent_zero (a : Nat) (w : World) (ha : a < 4294967296) (hv : vldB a 0 = true) : Calls Try.prog 51 #[pv a 0] w fun e w' => e = .returned (.tuple #[pv 0 0, .int .i64 2]) ∧ Below w.heap.size w w' := by
  have hV := Lib.hid (fun W => refValid_any a 0 W ha)
  rw [hv] at hV
  obtain ⟨b1, w2, e1, hw2, hP, hT⟩ := start2 w a 0
  have H3 := Lib.hid (And.intro hP hT)
  have c0 := hP.cell0
  have c1 := hP.cell1
  have E1 := Lib.hid e1.symm
  clear hv hP hT e1
  go_enter Try.func51, Try.ntmps51
  go_wp2_with fail
  try simp only [E1.out]
  refine (hV.out _).mono ?_
  rintro e w4 ⟨rfl, hb4⟩
  have H4 := Lib.hid (H3.out.2.step hb4)
  have p1 := (H3.out.1.step hb4).cell1
  clear hb4 hw2 c0 c1
  have f0 := H4.out.1.frozen 0
  have f1 := H4.out.1.frozen 1
  have c0 : w4.cell? ⟨b1, 0, none⟩ = some (.int .u32 0) := H4.out.1.cell0
  have c1 := H4.out.1.cell1
  go_wp2_with fail
  have HT := Lib.hid (show Ret1 w b1 0 0 ((w4.setCell ⟨b1, 0, none⟩ (.int .u32 0)).setCell ⟨b1, 1, none⟩ (.int .i64 0)) from H4.out.set1 0 0)
  generalize (w4.setCell ⟨b1, 0, none⟩ (.int .u32 0)).setCell ⟨b1, 1, none⟩ (.int .i64 0) = W7 at HT ⊢
  have z0 := HT.out.1.cell0
  have z1 := HT.out.1.cell1
  exact bodyPost_ret (v := .tuple #[pv 0 0, .int .i64 2]) (by simp [results, Try.results51, go_sem, z0, z1]) rfl ⟨rfl, HT.out.2.2⟩

set_option maxHeartbeats 4000000 in
theorem refParent_good (a n : Nat) (w : World) (ha : a < 4294967296) (h0 : 0 < n) (hv : vldB a (n : Int) = true) : Calls Try.prog 51 #[pv a n] w fun e w' => e = .returned (.tuple #[pv (fst a (n - 1)) ((n : Int) - 1), .int .i64 0]) ∧ Below w.heap.size w w' := by
  have hV := Lib.hid (fun W => refValid_any a n W ha)
  obtain ⟨n', hn', hle, hfst⟩ := vldB_true hv
  obtain rfl : n = n' := by omega
  rw [hv] at hV
  have hF := Lib.hid (fun W => parent_mask n W hle h0)
  have hE := run_and_nat a (msk (n - 1)) ha msk_lt (and_msk a (n - 1) ha (by omega))
  obtain ⟨m, hm⟩ : ∃ m, msk (n - 1) = m := ⟨_, rfl⟩
  rw [hm] at hF hE
  have hW1 : IntKind.i64.wrap ((n : Int) - 1) = (n : Int) - 1 := IntWalk.i64_in _ (by omega)
  have hB : decide ((n : Int) = 0) = false := decide_eq_false (by omega)
  have hB2 : ((n : Int) == 0) = false := by simp; omega
  obtain ⟨q, hq⟩ : ∃ q, fst a (n - 1) = q := ⟨_, rfl⟩
  rw [hq] at hE ⊢
  obtain ⟨b1, w2, e1, hw2, hP, hT⟩ := start2 w a n
  have H3 := Lib.hid (And.intro hP hT)
  have c0 := hP.cell0
  have c1 := hP.cell1
  have HN := Lib.hid (show w.heap.size ≠ b1 by omega)
  have E1 := Lib.hid e1.symm
  clear hv hP hT e1 hn' hle hfst h0 hq hm
  go_enter Try.func51, Try.ntmps51
  go_wp2_with fail
  try simp only [E1.out]
  refine (hV.out _).mono ?_
  rintro e w4 ⟨rfl, hb4⟩
  have H4 := Lib.hid (H3.out.2.step hb4)
  have P4 := Lib.hid (H3.out.1.step hb4)
  clear hb4 hw2 c0 c1
  have p0 := P4.out.cell0
  have p1 := P4.out.cell1
  have f0 := H4.out.1.frozen 0
  have f1 := H4.out.1.frozen 1
  have c0 : w4.cell? ⟨b1, 0, none⟩ = some (.int .u32 0) := H4.out.1.cell0
  have c1 := H4.out.1.cell1
  go_wp2_with fail
  refine wp_region_held_drew (S := fun W' => W'.cell? ⟨w.heap.size, 0, none⟩ = some (.int .u32 (a : Int)) ∧ W'.cell? ⟨w.heap.size, 1, none⟩ = some (.int .i64 (n : Int))) (by kernel_rfl) ⟨p0, p1⟩ (fun hHeld => ?_)
  refine wpAnyH_takeD 0 (v := ?_) rfl rfl (by kernel_rfl) (by kernel_rfl) (by kernel_rfl) (fun _ _ _ h => h) (Or.inl ⟨by rfl, ?_⟩) hHeld ?_
  rotate_left
  focus (intro w hSw; (try dsimp only at hSw); go_simp; try with_reducible rfl)
  try simp only [List.setIfInBounds_toArray, List.set_cons_zero, List.set_cons_succ]
  refine wpAnyH_takeD 1 (v := ?_) rfl rfl (by kernel_rfl) (by kernel_rfl) (by kernel_rfl) (fun _ _ _ h => h) (Or.inl ⟨by rfl, ?_⟩) hHeld ?_
  rotate_left
  focus (intro w hSw; (try dsimp only at hSw); go_simp; try with_reducible rfl)
  try simp only [List.setIfInBounds_toArray, List.set_cons_zero, List.set_cons_succ]
  refine wpAnyH_takeD 2 (v := ?_) rfl rfl (by kernel_rfl) (by kernel_rfl) (by kernel_rfl) (fun _ _ _ h => h) (Or.inl ⟨by rfl, ?_⟩) hHeld ?_
  rotate_left
  focus (intro w hSw; (try dsimp only at hSw); go_simp; try with_reducible rfl)
  try simp only [List.setIfInBounds_toArray, List.set_cons_zero, List.set_cons_succ]
  refine wpAnyH_takeD 3 (v := ?_) rfl rfl (by kernel_rfl) (by kernel_rfl) (by kernel_rfl) (fun _ _ _ h => h) (Or.inl ⟨by rfl, ?_⟩) hHeld ?_
  rotate_left
  focus (intro w hSw; (try dsimp only at hSw); go_simp; try with_reducible rfl)
  try simp only [List.setIfInBounds_toArray, List.set_cons_zero, List.set_cons_succ]
  refine wpAnyH_takeD 4 (v := ?_) rfl rfl (by kernel_rfl) (by kernel_rfl) (by kernel_rfl) (fun _ _ _ h => h) (Or.inl ⟨by rfl, ?_⟩) hHeld ?_
  rotate_left
  focus (intro w hSw; (try dsimp only at hSw); go_simp; try with_reducible rfl)
  try simp only [List.setIfInBounds_toArray, List.set_cons_zero, List.set_cons_succ]
  refine wpAnyH_takeD 7 (v := ?_) rfl rfl (by kernel_rfl) (by kernel_rfl) (by kernel_rfl) (fun _ _ _ h => h) (Or.inl ⟨by rfl, ?_⟩) hHeld ?_
  rotate_left
  focus (intro w hSw; (try dsimp only at hSw); go_simp; try with_reducible rfl)
  try simp only [List.setIfInBounds_toArray, List.set_cons_zero, List.set_cons_succ]
  refine wpAnyH_takeD 8 (v := ?_) rfl rfl (by kernel_rfl) (by kernel_rfl) (by kernel_rfl) (fun _ _ _ h => h) (Or.inl ⟨by rfl, ?_⟩) hHeld ?_
  rotate_left
  focus (intro w hSw; (try dsimp only at hSw); go_simp; try with_reducible rfl)
  try simp only [List.setIfInBounds_toArray, List.set_cons_zero, List.set_cons_succ]
  refine wpAnyH_takeD 9 (v := ?_) rfl rfl (by kernel_rfl) (by kernel_rfl) (by kernel_rfl) (fun _ _ _ h => h) (Or.inl ⟨by rfl, ?_⟩) hHeld ?_
  rotate_left
  focus (intro w hSw; (try dsimp only at hSw); go_simp; try with_reducible rfl)
  try simp only [List.setIfInBounds_toArray, List.set_cons_zero, List.set_cons_succ]
  refine wpAnyH_ready (rs := [5]) (by kernel_rfl) (by simp) ?_
  refine AllReadyH.cons rfl (fun K hK => ?_) AllReadyH.nil
  go_simp
  refine (hF.out _).mono ?_
  rintro e w5 ⟨rfl, rfl⟩
  refine hK.out _ _ ⟨p0, p1⟩ (fun hHeld => ?_)
  clear hK K
  refine wpAnyH_takeD 6 (v := ?_) rfl rfl (by kernel_rfl) (by kernel_rfl) (by kernel_rfl) (fun _ _ _ h => h) (Or.inl ⟨by rfl, ?_⟩) hHeld ?_
  rotate_left
  focus (intro w hSw; (try dsimp only at hSw); go_simp; try with_reducible rfl)
  try simp only [List.setIfInBounds_toArray, List.set_cons_zero, List.set_cons_succ]
  refine wpAnyH_takeD 10 (v := ?_) rfl rfl (by kernel_rfl) (by kernel_rfl) (by kernel_rfl) (fun _ _ _ h => h) (Or.inl ⟨by rfl, ?_⟩) hHeld ?_
  rotate_left
  focus (intro w hSw; (try dsimp only at hSw); go_simp; try with_reducible rfl)
  try simp only [List.setIfInBounds_toArray, List.set_cons_zero, List.set_cons_succ]
  refine wpAnyH_ready (rs := [11]) (by kernel_rfl) (by simp) ?_
  refine AllReadyH.cons rfl (fun K hK => ?_) AllReadyH.nil
  go_simp
  have H6 := Lib.hid (H4.out.set1 q ((n : Int) - 1)).drew
  refine hK.out _ _ ⟨((P4.out.far (p := ⟨b1, 0, none⟩) HN.out (.int .u32 (q : Int))).far (p := ⟨b1, 1, none⟩) HN.out (.int .i64 ((n : Int) - 1))).cell0, ((P4.out.far (p := ⟨b1, 0, none⟩) HN.out (.int .u32 (q : Int))).far (p := ⟨b1, 1, none⟩) HN.out (.int .i64 ((n : Int) - 1))).cell1⟩ (fun hHeld => ?_)
  clear hK K
  refine wpAnyH_takeD 12 (v := ?_) rfl rfl (by kernel_rfl) (by kernel_rfl) (by kernel_rfl) (fun _ _ _ h => h) (Or.inl ⟨by rfl, ?_⟩) hHeld ?_
  rotate_left
  focus (intro w hSw; (try dsimp only at hSw); go_simp; try with_reducible rfl)
  try simp only [List.setIfInBounds_toArray, List.set_cons_zero, List.set_cons_succ]
  refine wpAnyH_done (by kernel_rfl) ?_ _
  clear p0 p1 c0 c1 f0 f1
  generalize ((w4.setCell ⟨b1, 0, none⟩ (.int .u32 (q : Int))).setCell ⟨b1, 1, none⟩ (.int .i64 ((n : Int) - 1))).drew = W7 at H6 ⊢
  go_wp2_with fail
  have z0 := H6.out.1.cell0
  have z1 := H6.out.1.cell1
  exact bodyPost_ret (v := .tuple #[pv q ((n : Int) - 1), .int .i64 0]) (by simp [results, Try.results51, go_sem, z0, z1]) rfl ⟨rfl, H6.out.2.2⟩

theorem refParent_any (a : Nat) (l : Int) (w : World) (ha : a < 4294967296) : Calls Try.prog 51 #[pv a l] w fun e w' => e = .returned (parentV a l) ∧ Below w.heap.size w w' := by
  unfold parentV
  cases hv : vldB a l with
  | false => exact refParent_bad a l w ha hv
  | true =>
    by_cases h : l = 0
    · subst h
      exact refParent_zero a w ha hv
    · obtain ⟨n, rfl, hn, _⟩ := vldB_true hv
      simp only [if_true, if_neg h, Int.toNat_natCast]
      exact refParent_good a n w ha (by omega) hv
end Go.Proofs.Ytamkegnnlbefdaa
