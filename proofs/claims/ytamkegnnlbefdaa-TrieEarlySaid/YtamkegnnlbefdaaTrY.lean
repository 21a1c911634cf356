/- Contracts of the reference of layer 5: a table as an argument; find. -/
import Derived.Test.YtamkegnnlbefdaaTrX
import Derived.LoopTactic
namespace Go.Proofs.Ytamkegnnlbefdaa
open Go.RowKit

/-- A table of the reference: the routes rs. -/
def TL (W : World) (v : Value) (rs : List Rt) : Prop := ∃ A c, v = .slice A rs.length c ∧ ∀ i (h : i < rs.length), ∃ g, A = some ⟨g, 0, none⟩ ∧ g < W.heap.size ∧ W.cell? ⟨g, i * 3, none⟩ = some (.int .u32 (rs[i].1.1 : Int)) ∧ W.cell? ⟨g, i * 3 + 1, none⟩ = some (.int .i64 (rs[i].1.2 : Int)) ∧ W.cell? ⟨g, i * 3 + 2, none⟩ = some (.int .i64 rs[i].2)
theorem TL.below {W W' : World} {v : Value} {rs : List Rt} (h : TL W v rs) (hb : Below W.heap.size W W') : TL W' v rs := by
  obtain ⟨A, c, rfl, h1⟩ := h
  refine ⟨A, c, rfl, fun i hi => ?_⟩
  obtain ⟨g, e, k0, k1, k2, k3⟩ := h1 i hi
  exact ⟨g, e, Nat.lt_of_lt_of_le k0 hb.size, (hb.cell (p := ⟨g, i * 3, none⟩) k0).trans k1, (hb.cell (p := ⟨g, i * 3 + 1, none⟩) k0).trans k2, (hb.cell (p := ⟨g, i * 3 + 2, none⟩) k0).trans k3⟩
theorem stb_tl (v : Value) (rs : List Rt) : Stb (fun W => TL W v rs) := fun _ _ hb h => h.below hb
/-- The route's prefix is (a, l). -/
def HitB (a : Nat) (l : Int) (r : Rt) : Prop := r.1.1 = a ∧ (r.1.2 : Int) = l
def FdQ (w : World) (a : Nat) (l : Int) (rs : List Rt) (e : Ending) (W : World) : Prop := Below w.heap.size w W ∧
  ((∃ (i : Nat) (h : i < rs.length), HitB a l rs[i] ∧ (∀ j (hj : j < rs.length), j < i → ¬ HitB a l rs[j]) ∧ e = .returned (.int .i64 (i : Int))) ∨ ((∀ j (hj : j < rs.length), ¬ HitB a l rs[j]) ∧ e = .returned (.int .i64 (-1))))
set_option maxRecDepth 100000 in
set_option maxHeartbeats 4000000 in
theorem refFind_any {w : World} {v : Value} {rs : List Rt} {a : Nat} {l : Int} (h : TL w v rs) (hn : rs.length < 4611686018427387900) :
    Calls Try.prog 38 #[v, pv a l] w (FdQ w a l rs) := by
  obtain ⟨w1, hw1, S⟩ : ∃ w1, w.alloc (.cells #[.int .u32 (a : Int), .int .i64 l] 35) = w1 ∧ Hid (Sr w [fun W => TL W v rs] [(w.heap.size, [.int .u32 (a : Int), .int .i64 l], 35)] w1) :=
    ⟨_, rfl, ((Sr.start w).push (stb_tl _ _) h).alloc [.int .u32 (a : Int), .int .i64 l] 35⟩
  obtain ⟨A, c, rfl, -⟩ := h
  obtain ⟨n, hnn⟩ : ∃ n, rs.length = n := ⟨_, rfl⟩
  rw [hnn]
  have HN := Lib.hid hnn
  rw [hnn] at hn S
  clear hnn
  go_enter Try.func38, Try.ntmps38
  go_wp2_with fail
  clear hw1
  go_loopw [5] (fun vi wr => ∃ i : Nat, vi = .int .i64 (i : Nat) ∧ i ≤ n ∧ Hid (∀ j (hj : j < rs.length), j < i → ¬ HitB a l rs[j]) ∧ Hid (Sr w [fun W => TL W (.slice A n c) rs] [(w.heap.size, [.int .u32 (a : Int), .int .i64 l], 35)] wr)) (fun vi _ => n - (intOf vi).toNat)
  case atStart => exact ⟨0, rfl, Nat.zero_le _, fun j _ hj => by omega, S⟩
  case round =>
    clear S
    obtain ⟨wq, rfl⟩ : ∃ x, x = wr := ⟨_, rfl⟩
    obtain ⟨i, rfl, hi, HJ, S⟩ := hrel
    by_cases hin : i < n
    · have hi' : (i : Int) < (n : Int) := by omega
      have hz0 : (0 : Int) ≤ (i : Int) := by omega
      have hw3 : IntKind.i64.wrap ((i : Int) + 1) = (i : Int) + 1 := IntWalk.i64_in _ (by omega)
      have hir : i < rs.length := by rw [HN.out]; exact hin
      replace S := Lib.hid S.out.drew
      obtain ⟨A', c', e', hel⟩ := (S.out.fact 0 rfl : TL _ _ rs)
      injection e' with e1 _ e3
      subst e1 e3
      obtain ⟨g, rfl, hg, d0, d1, -⟩ := hel i hir
      obtain ⟨ra, hra⟩ : ∃ ra, rs[i].1.1 = ra := ⟨_, rfl⟩
      obtain ⟨rl, hrl⟩ : ∃ rl : Int, (rs[i].1.2 : Int) = rl := ⟨_, rfl⟩
      rw [hra] at d0
      rw [hrl] at d1
      have b0 := (S.out.at 0 rfl).cell (i := 0) rfl
      have b1 := (S.out.at 0 rfl).cell (i := 1) rfl
      have HH := Lib.hid (show HitB a l rs[i] ↔ (ra = a ∧ rl = l) from by unfold HitB; rw [hra, hrl])
      clear hel hra hrl
      go_wp2_with fail
      by_cases hh : ra = a ∧ rl = l
      · obtain ⟨rfl, rfl⟩ := hh
        have HQ := Lib.hid (show FdQ w ra rl rs (.returned (.int .i64 (i : Int))) wq.drew from ⟨S.out.low, .inl ⟨i, hir, HH.out.2 ⟨rfl, rfl⟩, HJ.out, rfl⟩⟩)
        refine wp_region_held_drew (S := fun W' => W'.cell? ⟨g, i * 3, none⟩ = some (.int .u32 (ra : Int)) ∧ W'.cell? ⟨g, i * 3 + 1, none⟩ = some (.int .i64 rl) ∧ W'.cell? ⟨w.heap.size, 0, none⟩ = some (.int .u32 (ra : Int)) ∧ W'.cell? ⟨w.heap.size, 1, none⟩ = some (.int .i64 rl)) (by kernel_rfl) ⟨d0, d1, b0, b1⟩ (fun hHeld => ?_)
        generalize wq.drew = w3 at S HQ d0 d1 b0 b1 hg hHeld ⊢
        clear d0 d1 b0 b1 hg
        refine wpAnyH_takeD 0 (v := ?_) rfl rfl (by kernel_rfl) (by kernel_rfl) (by kernel_rfl) (fun _ _ _ h => h) (Or.inl ⟨by rfl, ?_⟩) hHeld ?_
        rotate_left
        focus (intro w hSw; (try dsimp only at hSw); go_simp; try with_reducible rfl)
        try simp only [List.setIfInBounds_toArray, List.set_cons_zero, List.set_cons_succ]
        refine wpAnyH_takeD 1 (v := ?_) rfl rfl (by kernel_rfl) (by kernel_rfl) (by kernel_rfl) (fun _ _ _ h => h) (Or.inl ⟨by rfl, ?_⟩) hHeld ?_
        rotate_left
        focus (intro w hSw; (try dsimp only at hSw); go_simp; try with_reducible rfl)
        try simp only [List.setIfInBounds_toArray, List.set_cons_zero, List.set_cons_succ]
        refine wpAnyH_takeD 2 (v := ?_) rfl rfl (by kernel_rfl) (by kernel_rfl) (by kernel_rfl) (fun _ _ _ h => h) (Or.inl ⟨by rfl, ?_⟩) hHeld ?_
        rotate_left
        focus (intro w hSw; (try dsimp only at hSw); go_simp; try with_reducible rfl)
        try simp only [List.setIfInBounds_toArray, List.set_cons_zero, List.set_cons_succ]
        refine wpAnyH_takeD 3 (v := ?_) rfl rfl (by kernel_rfl) (by kernel_rfl) (by kernel_rfl) (fun _ _ _ h => h) (Or.inl ⟨by rfl, ?_⟩) hHeld ?_
        rotate_left
        focus (intro w hSw; (try dsimp only at hSw); go_simp; try with_reducible rfl)
        try simp only [List.setIfInBounds_toArray, List.set_cons_zero, List.set_cons_succ]
        refine wpAnyH_takeD 4 (v := ?_) rfl rfl (by kernel_rfl) (by kernel_rfl) (by kernel_rfl) (fun _ _ _ h => h) (Or.inl ⟨by rfl, ?_⟩) hHeld ?_
        rotate_left
        focus (intro w hSw; (try dsimp only at hSw); go_simp; try with_reducible rfl)
        try simp only [List.setIfInBounds_toArray, List.set_cons_zero, List.set_cons_succ]
        refine wpAnyH_takeD 5 (v := ?_) rfl rfl (by kernel_rfl) (by kernel_rfl) (by kernel_rfl) (fun _ _ _ h => h) (Or.inl ⟨by rfl, ?_⟩) hHeld ?_
        rotate_left
        focus (intro w hSw; (try dsimp only at hSw); go_simp; try with_reducible rfl)
        try simp only [List.setIfInBounds_toArray, List.set_cons_zero, List.set_cons_succ]
        refine wpAnyH_takeD 6 (v := ?_) rfl rfl (by kernel_rfl) (by kernel_rfl) (by kernel_rfl) (fun _ _ _ h => h) (Or.inl ⟨by rfl, ?_⟩) hHeld ?_
        rotate_left
        focus (intro w hSw; (try dsimp only at hSw); go_simp; try with_reducible rfl)
        try simp only [List.setIfInBounds_toArray, List.set_cons_zero, List.set_cons_succ]
        refine wpAnyH_done (by kernel_rfl) ?_ _
        go_wp2_with fail
        go_ret
        exact HQ.out
      · have HQ := Lib.hid (show ∀ j (hj : j < rs.length), j < i + 1 → ¬ HitB a l rs[j] from fun j hj hji => by
          rcases Nat.lt_or_ge j i with h1 | h1
          · exact HJ.out j hj h1
          · obtain rfl : j = i := by omega
            exact fun h2 => hh (HH.out.1 h2))
        refine wp_region_held_drew (S := fun W' => W'.cell? ⟨g, i * 3, none⟩ = some (.int .u32 (ra : Int)) ∧ W'.cell? ⟨g, i * 3 + 1, none⟩ = some (.int .i64 rl) ∧ W'.cell? ⟨w.heap.size, 0, none⟩ = some (.int .u32 (a : Int)) ∧ W'.cell? ⟨w.heap.size, 1, none⟩ = some (.int .i64 l)) (by kernel_rfl) ⟨d0, d1, b0, b1⟩ (fun hHeld => ?_)
        generalize wq.drew = w3 at S d0 d1 b0 b1 hg hHeld ⊢
        clear d0 d1 b0 b1 hg
        refine wpAnyH_takeD 0 (v := ?_) rfl rfl (by kernel_rfl) (by kernel_rfl) (by kernel_rfl) (fun _ _ _ h => h) (Or.inl ⟨by rfl, ?_⟩) hHeld ?_
        rotate_left
        focus (intro w hSw; (try dsimp only at hSw); go_simp; try with_reducible rfl)
        try simp only [List.setIfInBounds_toArray, List.set_cons_zero, List.set_cons_succ]
        refine wpAnyH_takeD 1 (v := ?_) rfl rfl (by kernel_rfl) (by kernel_rfl) (by kernel_rfl) (fun _ _ _ h => h) (Or.inl ⟨by rfl, ?_⟩) hHeld ?_
        rotate_left
        focus (intro w hSw; (try dsimp only at hSw); go_simp; try with_reducible rfl)
        try simp only [List.setIfInBounds_toArray, List.set_cons_zero, List.set_cons_succ]
        refine wpAnyH_takeD 2 (v := ?_) rfl rfl (by kernel_rfl) (by kernel_rfl) (by kernel_rfl) (fun _ _ _ h => h) (Or.inl ⟨by rfl, ?_⟩) hHeld ?_
        rotate_left
        focus (intro w hSw; (try dsimp only at hSw); go_simp; try with_reducible rfl)
        try simp only [List.setIfInBounds_toArray, List.set_cons_zero, List.set_cons_succ]
        refine wpAnyH_takeD 3 (v := ?_) rfl rfl (by kernel_rfl) (by kernel_rfl) (by kernel_rfl) (fun _ _ _ h => h) (Or.inl ⟨by rfl, ?_⟩) hHeld ?_
        rotate_left
        focus (intro w hSw; (try dsimp only at hSw); go_simp; try with_reducible rfl)
        try simp only [List.setIfInBounds_toArray, List.set_cons_zero, List.set_cons_succ]
        refine wpAnyH_takeD 4 (v := ?_) rfl rfl (by kernel_rfl) (by kernel_rfl) (by kernel_rfl) (fun _ _ _ h => h) (Or.inl ⟨by rfl, ?_⟩) hHeld ?_
        rotate_left
        focus (intro w hSw; (try dsimp only at hSw); go_simp; try with_reducible rfl)
        try simp only [List.setIfInBounds_toArray, List.set_cons_zero, List.set_cons_succ]
        refine wpAnyH_takeD 5 (v := ?_) rfl rfl (by kernel_rfl) (by kernel_rfl) (by kernel_rfl) (fun _ _ _ h => h) (Or.inl ⟨by rfl, ?_⟩) hHeld ?_
        rotate_left
        focus (intro w hSw; (try dsimp only at hSw); go_simp; try with_reducible rfl)
        try simp only [List.setIfInBounds_toArray, List.set_cons_zero, List.set_cons_succ]
        refine wpAnyH_takeD 6 (v := .bool false) rfl rfl (by kernel_rfl) (by kernel_rfl) (by kernel_rfl) (fun _ _ _ h => h) (Or.inl ⟨by rfl, ?_⟩) hHeld ?_
        · intro w hSw
          go_simp
          intro e1 e2
          exact hh ⟨by omega, e2⟩
        simp only [List.setIfInBounds_toArray, List.set_cons_zero, List.set_cons_succ]
        refine wpAnyH_done (by kernel_rfl) ?_ _
        clear hHeld
        go_wp2_with fail
        go_roundw
        case rel => exact ⟨i + 1, by go_num, by omega, HQ, S⟩
        case measure => simp [intOf]; omega
    · obtain rfl : i = n := by omega
      have hi' : ¬ (i : Int) < (i : Int) := by omega
      have HQ := Lib.hid (show FdQ w a l rs (.returned (.int .i64 (-1))) wq from ⟨S.out.low, .inr ⟨fun j hj => HJ.out j hj (by rw [← HN.out]; exact hj), rfl⟩⟩)
      go_wp2_with fail
      go_ret
      exact HQ.out
end Go.Proofs.Ytamkegnnlbefdaa
