/- Contracts: Join; two appends; the laws' awake. -/
import Derived.Test.YtlbckhapcnlmnabFlD
namespace Go.Proofs.Ytlbckhapcnlmnab
open Go.RowKit

/-- What Join returns. -/
def J1 (a0 b0 : Nat) : Int := (((a0 + b0) % 255 : Nat) : Int)
def J2 (a0 a1 b1 m : Nat) : Int := (((a1 + m * a0 + b1) % 255 : Nat) : Int)
set_option maxRecDepth 100000 in
set_option maxHeartbeats 4000000 in
theorem join_any (a0 a1 b0 b1 m : Nat) (n : Int) (ha0 : a0 < 255) (ha1 : a1 < 255) (hb0 : b0 < 255) (hb1 : b1 < 255) (hn : n % 255 = (m : Int)) (w : World) :
    Calls Try.prog 14 #[.agg #[.int .i64 (a0 : Int), .int .i64 (a1 : Int)], .agg #[.int .i64 (b0 : Int), .int .i64 (b1 : Int)], .int .i64 n] w fun e w' => e = .returned (.tuple #[.int .i64 (J1 a0 b0), .int .i64 (J2 a0 a1 b1 m)]) ∧ Below w.heap.size w w' := by
  have hm : m < 255 := by omega
  have rn := Lib.hid (fun w => reduce_any n w)
  rw [hn] at rn
  have ra0 := Lib.hid (fun w => reduce_any (a0 : Int) w)
  have ra1 := Lib.hid (fun w => reduce_any (a1 : Int) w)
  have rb0 := Lib.hid (fun w => reduce_any (b0 : Int) w)
  have rb1 := Lib.hid (fun w => reduce_any (b1 : Int) w)
  rw [show (a0 : Int) % 255 = (a0 : Int) by omega] at ra0
  rw [show (a1 : Int) % 255 = (a1 : Int) by omega] at ra1
  rw [show (b0 : Int) % 255 = (b0 : Int) by omega] at rb0
  rw [show (b1 : Int) % 255 = (b1 : Int) by omega] at rb1
  have hp : m * a0 ≤ 255 * 255 := Nat.mul_le_mul (by omega) (by omega)
  obtain ⟨M, hM⟩ : ∃ M, m * a0 = M := ⟨_, rfl⟩
  have r1 := Lib.hid (fun w => reduce_any ((a0 : Int) + (b0 : Int)) w)
  have r2 := Lib.hid (fun w => reduce_any ((a1 : Int) + (M : Int) + (b1 : Int)) w)
  have e1 : ((a0 : Int) + (b0 : Int)) % 255 = J1 a0 b0 := by unfold J1; omega
  have e2 : ((a1 : Int) + (M : Int) + (b1 : Int)) % 255 = J2 a0 a1 b1 m := by unfold J2; rw [hM]; omega
  rw [e1] at r1
  rw [e2] at r2
  have hw1 : IntKind.i64.wrap ((m : Int) * (a0 : Int)) = (M : Int) := by rw [← hM, Int.natCast_mul]; exact IntWalk.i64_in _ (by rw [← Int.natCast_mul]; omega)
  have hw2 : IntKind.i64.wrap ((a1 : Int) + (M : Int)) = (a1 : Int) + (M : Int) := IntWalk.i64_in _ (by omega)
  have hw3 : IntKind.i64.wrap ((a0 : Int) + (b0 : Int)) = (a0 : Int) + (b0 : Int) := IntWalk.i64_in _ (by omega)
  have hw4 : IntKind.i64.wrap ((a1 : Int) + (M : Int) + (b1 : Int)) = (a1 : Int) + (M : Int) + (b1 : Int) := IntWalk.i64_in _ (by omega)
  generalize J1 a0 b0 = X at *
  generalize J2 a0 a1 b1 m = Y at *
  obtain ⟨w1, hw1'⟩ : ∃ w1, w.alloc (.cells #[.int .i64 (a0 : Int), .int .i64 (a1 : Int)] 31) = w1 := ⟨_, rfl⟩
  have hG0 : Blk w1 w.heap.size [.int .i64 (a0 : Int), .int .i64 (a1 : Int)] 31 := by rw [← hw1']; exact Blk.new w _ _
  have hB1 : Below w.heap.size w w1 := by rw [← hw1']; exact (Below.refl _ w).alloc (Nat.le_refl _) _
  obtain ⟨g1, hg1⟩ : ∃ g1, w1.heap.size = g1 := ⟨_, rfl⟩
  obtain ⟨w2, hw2'⟩ : ∃ w2, w1.alloc (.cells #[.int .i64 (b0 : Int), .int .i64 (b1 : Int)] 31) = w2 := ⟨_, rfl⟩
  have hG1 : Blk w2 g1 [.int .i64 (b0 : Int), .int .i64 (b1 : Int)] 31 := by rw [← hw2', ← hg1]; exact Blk.new w1 _ _
  have hG0' : Blk w2 w.heap.size [.int .i64 (a0 : Int), .int .i64 (a1 : Int)] 31 := by rw [← hw2']; exact hG0.alloc _
  have hB2 : Below w.heap.size w w2 := by rw [← hw2']; exact hB1.alloc hB1.size _
  have c0 := hG0'.cell (i := 0) rfl
  have c1 := hG0'.cell (i := 1) rfl
  have d0 := hG1.cell (i := 0) rfl
  have d1 := hG1.cell (i := 1) rfl
  have H := Lib.hid hB2
  have HG0 := Lib.hid hG0'
  have HG1 := Lib.hid hG1
  clear hG0 hG0' hG1 hB1 hB2 e1 e2 hn hM hp
  go_enter Try.func14, Try.ntmps14
  go_wp2_with fail
  refine wp_region_held_drew (S := fun W' => W'.cell? ⟨w.heap.size, 0, none⟩ = some (.int .i64 (a0 : Int)) ∧ W'.cell? ⟨w.heap.size, 1, none⟩ = some (.int .i64 (a1 : Int))) (by kernel_rfl) ⟨c0, c1⟩ (fun hHeld => ?_)
  generalize hw3 : w2.drew = w3 at hHeld ⊢
  replace H := Lib.hid (show Below w.heap.size w w3 by rw [← hw3]; exact H.out.drew)
  replace HG1 := Lib.hid (show Blk w3 g1 [.int .i64 (b0 : Int), .int .i64 (b1 : Int)] 31 by rw [← hw3]; exact HG1.out)
  clear hw3 hw2' hw1' c0 c1 d0 d1 HG0
  refine wpAnyH_takeD 0 (v := ?_) rfl rfl (by kernel_rfl) (by kernel_rfl) (by kernel_rfl) (fun _ _ _ h => h) (Or.inl ⟨by rfl, ?_⟩) hHeld ?_
  rotate_left
  focus (intro w hSw; (try dsimp only at hSw); go_simp; try with_reducible rfl)
  try simp only [List.setIfInBounds_toArray, List.set_cons_zero, List.set_cons_succ]
  refine wpAnyH_takeD 1 (v := ?_) rfl rfl (by kernel_rfl) (by kernel_rfl) (by kernel_rfl) (fun _ _ _ h => h) (Or.inl ⟨by rfl, ?_⟩) hHeld ?_
  rotate_left
  focus (intro w hSw; (try dsimp only at hSw); go_simp; try with_reducible rfl)
  try simp only [List.setIfInBounds_toArray, List.set_cons_zero, List.set_cons_succ]
  refine wpAnyH_takeD 3 (v := ?_) rfl rfl (by kernel_rfl) (by kernel_rfl) (by kernel_rfl) (fun _ _ _ h => h) (Or.inl ⟨by rfl, ?_⟩) hHeld ?_
  rotate_left
  focus (intro w hSw; (try dsimp only at hSw); go_simp; try with_reducible rfl)
  try simp only [List.setIfInBounds_toArray, List.set_cons_zero, List.set_cons_succ]
  refine wpAnyH_takeD 4 (v := ?_) rfl rfl (by kernel_rfl) (by kernel_rfl) (by kernel_rfl) (fun _ _ _ h => h) (Or.inl ⟨by rfl, ?_⟩) hHeld ?_
  rotate_left
  focus (intro w hSw; (try dsimp only at hSw); go_simp; try with_reducible rfl)
  try simp only [List.setIfInBounds_toArray, List.set_cons_zero, List.set_cons_succ]
  refine wpAnyH_ready (rs := [2]) (by kernel_rfl) (by simp) ?_
  refine AllReadyH.cons rfl (fun K hK => ?_) AllReadyH.nil
  go_simp
  refine (ra0.out _).mono ?_
  rintro e w5 ⟨rfl, rfl⟩
  refine hK.out _ _ hHeld (fun hHeld => ?_)
  clear hK K
  refine wpAnyH_ready (rs := [5]) (by kernel_rfl) (by simp) ?_
  refine AllReadyH.cons rfl (fun K hK => ?_) AllReadyH.nil
  go_simp
  refine (ra1.out _).mono ?_
  rintro e w5 ⟨rfl, rfl⟩
  refine hK.out _ _ hHeld (fun hHeld => ?_)
  clear hK K
  refine wpAnyH_takeD 6 (v := ?_) rfl rfl (by kernel_rfl) (by kernel_rfl) (by kernel_rfl) (fun _ _ _ h => h) (Or.inl ⟨by rfl, ?_⟩) hHeld ?_
  rotate_left
  focus (intro w hSw; (try dsimp only at hSw); go_simp; try with_reducible rfl)
  try simp only [List.setIfInBounds_toArray, List.set_cons_zero, List.set_cons_succ]
  refine wpAnyH_takeD 7 (v := ?_) rfl rfl (by kernel_rfl) (by kernel_rfl) (by kernel_rfl) (fun _ _ _ h => h) (Or.inl ⟨by rfl, ?_⟩) hHeld ?_
  rotate_left
  focus (intro w hSw; (try dsimp only at hSw); go_simp; try with_reducible rfl)
  try simp only [List.setIfInBounds_toArray, List.set_cons_zero, List.set_cons_succ]
  refine wpAnyH_done (by kernel_rfl) ?_ _
  clear hHeld
  go_wp2_with fail
  refine (rn.out _).mono ?_
  rintro e w5 ⟨rfl, rfl⟩
  clear rn ra0 ra1
  go_wp2_with fail
  refine wp_region_held_drew (S := fun W' => W'.cell? ⟨g1, 0, none⟩ = some (.int .i64 (b0 : Int)) ∧ W'.cell? ⟨g1, 1, none⟩ = some (.int .i64 (b1 : Int))) (by kernel_rfl) ⟨HG1.out.cell (i := 0) rfl, HG1.out.cell (i := 1) rfl⟩ (fun hHeld => ?_)
  generalize hw3 : World.drew _ = w4 at hHeld ⊢
  replace H := Lib.hid (show Below w.heap.size w w4 by rw [← hw3]; exact H.out.drew)
  clear hw3 HG1
  refine wpAnyH_takeD 0 (v := ?_) rfl rfl (by kernel_rfl) (by kernel_rfl) (by kernel_rfl) (fun _ _ _ h => h) (Or.inl ⟨by rfl, ?_⟩) hHeld ?_
  rotate_left
  focus (intro w hSw; (try dsimp only at hSw); go_simp; try with_reducible rfl)
  try simp only [List.setIfInBounds_toArray, List.set_cons_zero, List.set_cons_succ]
  refine wpAnyH_takeD 1 (v := ?_) rfl rfl (by kernel_rfl) (by kernel_rfl) (by kernel_rfl) (fun _ _ _ h => h) (Or.inl ⟨by rfl, ?_⟩) hHeld ?_
  rotate_left
  focus (intro w hSw; (try dsimp only at hSw); go_simp; try with_reducible rfl)
  try simp only [List.setIfInBounds_toArray, List.set_cons_zero, List.set_cons_succ]
  refine wpAnyH_takeD 2 (v := ?_) rfl rfl (by kernel_rfl) (by kernel_rfl) (by kernel_rfl) (fun _ _ _ h => h) (Or.inl ⟨by rfl, ?_⟩) hHeld ?_
  rotate_left
  focus (intro w hSw; (try dsimp only at hSw); go_simp; try with_reducible rfl)
  try simp only [List.setIfInBounds_toArray, List.set_cons_zero, List.set_cons_succ]
  refine wpAnyH_takeD 6 (v := ?_) rfl rfl (by kernel_rfl) (by kernel_rfl) (by kernel_rfl) (fun _ _ _ h => h) (Or.inl ⟨by rfl, ?_⟩) hHeld ?_
  rotate_left
  focus (intro w hSw; (try dsimp only at hSw); go_simp; try with_reducible rfl)
  try simp only [List.setIfInBounds_toArray, List.set_cons_zero, List.set_cons_succ]
  refine wpAnyH_takeD 7 (v := ?_) rfl rfl (by kernel_rfl) (by kernel_rfl) (by kernel_rfl) (fun _ _ _ h => h) (Or.inl ⟨by rfl, ?_⟩) hHeld ?_
  rotate_left
  focus (intro w hSw; (try dsimp only at hSw); go_simp; try with_reducible rfl)
  try simp only [List.setIfInBounds_toArray, List.set_cons_zero, List.set_cons_succ]
  refine wpAnyH_takeD 8 (v := ?_) rfl rfl (by kernel_rfl) (by kernel_rfl) (by kernel_rfl) (fun _ _ _ h => h) (Or.inl ⟨by rfl, ?_⟩) hHeld ?_
  rotate_left
  focus (intro w hSw; (try dsimp only at hSw); go_simp; try with_reducible rfl)
  try simp only [List.setIfInBounds_toArray, List.set_cons_zero, List.set_cons_succ]
  refine wpAnyH_ready (rs := [3]) (by kernel_rfl) (by simp) ?_
  refine AllReadyH.cons rfl (fun K hK => ?_) AllReadyH.nil
  go_simp
  refine (rb0.out _).mono ?_
  rintro e w5 ⟨rfl, rfl⟩
  refine hK.out _ _ hHeld (fun hHeld => ?_)
  clear hK K
  refine wpAnyH_takeD 4 (v := ?_) rfl rfl (by kernel_rfl) (by kernel_rfl) (by kernel_rfl) (fun _ _ _ h => h) (Or.inl ⟨by rfl, ?_⟩) hHeld ?_
  rotate_left
  focus (intro w hSw; (try dsimp only at hSw); go_simp; try with_reducible rfl)
  try simp only [List.setIfInBounds_toArray, List.set_cons_zero, List.set_cons_succ]
  refine wpAnyH_ready (rs := [5]) (by kernel_rfl) (by simp) ?_
  refine AllReadyH.cons rfl (fun K hK => ?_) AllReadyH.nil
  go_simp
  refine (r1.out _).mono ?_
  rintro e w5 ⟨rfl, rfl⟩
  refine hK.out _ _ hHeld (fun hHeld => ?_)
  clear hK K
  refine wpAnyH_ready (rs := [9]) (by kernel_rfl) (by simp) ?_
  refine AllReadyH.cons rfl (fun K hK => ?_) AllReadyH.nil
  go_simp
  refine (rb1.out _).mono ?_
  rintro e w5 ⟨rfl, rfl⟩
  refine hK.out _ _ hHeld (fun hHeld => ?_)
  clear hK K
  refine wpAnyH_takeD 10 (v := ?_) rfl rfl (by kernel_rfl) (by kernel_rfl) (by kernel_rfl) (fun _ _ _ h => h) (Or.inl ⟨by rfl, ?_⟩) hHeld ?_
  rotate_left
  focus (intro w hSw; (try dsimp only at hSw); go_simp; try with_reducible rfl)
  try simp only [List.setIfInBounds_toArray, List.set_cons_zero, List.set_cons_succ]
  refine wpAnyH_ready (rs := [11]) (by kernel_rfl) (by simp) ?_
  refine AllReadyH.cons rfl (fun K hK => ?_) AllReadyH.nil
  go_simp
  refine (r2.out _).mono ?_
  rintro e w5 ⟨rfl, rfl⟩
  refine hK.out _ _ hHeld (fun hHeld => ?_)
  clear hK K
  refine wpAnyH_takeD 12 (v := ?_) rfl rfl (by kernel_rfl) (by kernel_rfl) (by kernel_rfl) (fun _ _ _ h => h) (Or.inl ⟨by rfl, ?_⟩) hHeld ?_
  rotate_left
  focus (intro w hSw; (try dsimp only at hSw); go_simp; try with_reducible rfl)
  try simp only [List.setIfInBounds_toArray, List.set_cons_zero, List.set_cons_succ]
  refine wpAnyH_takeD 13 (v := ?_) rfl rfl (by kernel_rfl) (by kernel_rfl) (by kernel_rfl) (fun _ _ _ h => h) (Or.inl ⟨by rfl, ?_⟩) hHeld ?_
  rotate_left
  focus (intro w hSw; (try dsimp only at hSw); go_simp; try with_reducible rfl)
  try simp only [List.setIfInBounds_toArray, List.set_cons_zero, List.set_cons_succ]
  refine wpAnyH_done (by kernel_rfl) ?_ _
  clear hHeld
  go_wp2_with fail
  go_ret2
  exact ⟨rfl, H.out⟩
end Go.Proofs.Ytlbckhapcnlmnab
