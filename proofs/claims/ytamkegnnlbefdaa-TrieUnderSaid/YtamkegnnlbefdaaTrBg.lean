/- The reference's Same, of two lists that are equal. -/
import Derived.Test.YtamkegnnlbefdaaTrBe
namespace Go.Proofs.Ytamkegnnlbefdaa
open Go.RowKit

set_option maxRecDepth 100000 in
set_option maxHeartbeats 4000000 in
theorem same_any {w : World} {u v : Value} {rs : List Rt} (hu : TL w u rs) (hv : TL w v rs) (hn : rs.length ≤ 100000) : Calls Try.prog 12 #[u, v] w fun e W => e = .returned (.bool true) ∧ Below w.heap.size w W := by
  have S := Lib.hid (((Sr.start w).push (stb_tl _ _) hv).push (stb_tl _ _) hu)
  obtain ⟨A, c, rfl, -⟩ := hu
  obtain ⟨A2, c2, rfl, -⟩ := hv
  obtain ⟨n, hnn⟩ : ∃ n, rs.length = n := ⟨_, rfl⟩
  have HN := Lib.hid hnn
  rw [hnn] at hn S ⊢
  clear hnn
  go_enter Try.func12, Try.ntmps12
  go_wp2_with fail
  go_loopw [5] (fun vi wr => ∃ i : Nat, vi = .int .i64 (i : Nat) ∧ i ≤ n ∧ Hid (Sr w [fun W => TL W (.slice A n c) rs, fun W => TL W (.slice A2 n c2) rs] [] wr)) (fun vi _ => n - (intOf vi).toNat)
  case atStart => exact ⟨0, rfl, Nat.zero_le _, S⟩
  case round =>
    clear S
    obtain ⟨wq, rfl⟩ : ∃ x, x = wr := ⟨_, rfl⟩
    obtain ⟨i, rfl, hi, S⟩ := hrel
    by_cases hin : i < n
    · have hi' : (i : Int) < (n : Int) := by omega
      have hz0 : (0 : Int) ≤ (i : Int) := by omega
      have hw3 : IntKind.i64.wrap ((i : Int) + 1) = (i : Int) + 1 := IntWalk.i64_in _ (by omega)
      have hir : i < rs.length := by rw [HN.out]; exact hin
      replace S := Lib.hid S.out.drew
      obtain ⟨A', c', e', hel⟩ := (S.out.fact 0 rfl : TL _ _ rs)
      injection e' with e1 e2 e3
      subst e1 e3
      clear e2
      obtain ⟨g, rfl, hg, d0, d1, d2⟩ := hel i hir
      obtain ⟨A', c', e', hel2⟩ := (S.out.fact 1 rfl : TL _ _ rs)
      injection e' with e1 e2 e3
      subst e1 e3
      clear e2
      obtain ⟨g2, rfl, hg2, k0, k1, k2⟩ := hel2 i hir
      obtain ⟨⟨⟨ra, rl⟩, rv⟩, hx⟩ : ∃ x, rs[i] = x := ⟨_, rfl⟩
      rw [hx] at d0 d1 d2 k0 k1 k2
      dsimp only at d0 d1 d2 k0 k1 k2
      clear hel hel2 hx hg hg2
      go_wp2_with fail
      refine wp_region_held_drew (S := fun W' => W'.cell? ⟨g, i * 3, none⟩ = some (.int .u32 (ra : Int)) ∧ W'.cell? ⟨g, i * 3 + 1, none⟩ = some (.int .i64 (rl : Int)) ∧ W'.cell? ⟨g, i * 3 + 2, none⟩ = some (.int .i64 rv) ∧ W'.cell? ⟨g2, i * 3, none⟩ = some (.int .u32 (ra : Int)) ∧ W'.cell? ⟨g2, i * 3 + 1, none⟩ = some (.int .i64 (rl : Int)) ∧ W'.cell? ⟨g2, i * 3 + 2, none⟩ = some (.int .i64 rv)) (by kernel_rfl) ⟨d0, d1, d2, k0, k1, k2⟩ (fun hHeld => ?_)
      generalize wq.drew = w3 at S d0 d1 d2 k0 k1 k2 hHeld ⊢
      clear d0 d1 d2 k0 k1 k2
      refine wpAnyH_takeD 0 (v := ?_) rfl rfl (by kernel_rfl) (by kernel_rfl) (by kernel_rfl) (fun _ _ _ h => h) (Or.inl ⟨by rfl, ?_⟩) hHeld ?_
      rotate_left
      focus (intro w hSw; (try dsimp only at hSw); go_simp; try with_reducible rfl)
      try simp only [List.setIfInBounds_toArray, List.set_cons_zero, List.set_cons_succ]
      refine wpAnyH_takeD 1 (v := ?_) rfl rfl (by kernel_rfl) (by kernel_rfl) (by kernel_rfl) (fun _ _ _ h => h) (Or.inl ⟨by rfl, ?_⟩) hHeld ?_
      rotate_left
      focus (intro w hSw; (try dsimp only at hSw); go_simp; try with_reducible rfl)
      try simp only [List.setIfInBounds_toArray, List.set_cons_zero, List.set_cons_succ]
      refine wpAnyH_takeD 2 (v := ?_) rfl rfl (by kernel_rfl) (by kernel_rfl) (by kernel_rfl) (fun _ _ _ h => h) (Or.inl ⟨by rfl, ?_⟩) hHeld ?_
      rotate_left
      focus (intro w hSw; (try dsimp only at hSw); go_simp; try with_reducible rfl)
      try simp only [List.setIfInBounds_toArray, List.set_cons_zero, List.set_cons_succ]
      refine wpAnyH_takeD 3 (v := ?_) rfl rfl (by kernel_rfl) (by kernel_rfl) (by kernel_rfl) (fun _ _ _ h => h) (Or.inl ⟨by rfl, ?_⟩) hHeld ?_
      rotate_left
      focus (intro w hSw; (try dsimp only at hSw); go_simp; try with_reducible rfl)
      try simp only [List.setIfInBounds_toArray, List.set_cons_zero, List.set_cons_succ]
      refine wpAnyH_takeD 4 (v := ?_) rfl rfl (by kernel_rfl) (by kernel_rfl) (by kernel_rfl) (fun _ _ _ h => h) (Or.inl ⟨by rfl, ?_⟩) hHeld ?_
      rotate_left
      focus (intro w hSw; (try dsimp only at hSw); go_simp; try with_reducible rfl)
      try simp only [List.setIfInBounds_toArray, List.set_cons_zero, List.set_cons_succ]
      refine wpAnyH_takeD 5 (v := ?_) rfl rfl (by kernel_rfl) (by kernel_rfl) (by kernel_rfl) (fun _ _ _ h => h) (Or.inl ⟨by rfl, ?_⟩) hHeld ?_
      rotate_left
      focus (intro w hSw; (try dsimp only at hSw); go_simp; try with_reducible rfl)
      try simp only [List.setIfInBounds_toArray, List.set_cons_zero, List.set_cons_succ]
      refine wpAnyH_takeD 6 (v := ?_) rfl rfl (by kernel_rfl) (by kernel_rfl) (by kernel_rfl) (fun _ _ _ h => h) (Or.inl ⟨by rfl, ?_⟩) hHeld ?_
      rotate_left
      focus (intro w hSw; (try dsimp only at hSw); go_simp; try with_reducible rfl)
      try simp only [List.setIfInBounds_toArray, List.set_cons_zero, List.set_cons_succ]
      refine wpAnyH_takeD 7 (v := ?_) rfl rfl (by kernel_rfl) (by kernel_rfl) (by kernel_rfl) (fun _ _ _ h => h) (Or.inl ⟨by rfl, ?_⟩) hHeld ?_
      rotate_left
      focus (intro w hSw; (try dsimp only at hSw); go_simp; try with_reducible rfl)
      try simp only [List.setIfInBounds_toArray, List.set_cons_zero, List.set_cons_succ]
      refine wpAnyH_takeD 8 (v := ?_) rfl rfl (by kernel_rfl) (by kernel_rfl) (by kernel_rfl) (fun _ _ _ h => h) (Or.inl ⟨by rfl, ?_⟩) hHeld ?_
      rotate_left
      focus (intro w hSw; (try dsimp only at hSw); go_simp; try with_reducible rfl)
      try simp only [List.setIfInBounds_toArray, List.set_cons_zero, List.set_cons_succ]
      refine wpAnyH_done (by kernel_rfl) ?_ _
      clear hHeld
      go_wp2_with fail
      go_roundw
      case rel => exact ⟨i + 1, by go_num, by omega, S⟩
      case measure => simp [intOf]; omega
    · obtain rfl : i = n := by omega
      have hi' : ¬ (i : Int) < (i : Int) := by omega
      go_wp2_with fail
      go_ret
      exact ⟨rfl, S.out.low⟩
end Go.Proofs.Ytamkegnnlbefdaa
