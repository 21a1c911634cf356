/- Contracts of the reference of layer 5: Lookup. -/
import Derived.Test.YtamkegnnlbefdaaTrZ
namespace Go.Proofs.Ytamkegnnlbefdaa
open Go.RowKit

/-- The best of a list, and the cells that hold it. -/
def BestC (L : List Rt) (x : Nat) (o : Option Rt) (ba bl bv : Int) : Prop := Best L x o ∧ match o with
  | none => ba = 0 ∧ bl = 0 ∧ bv = 0
  | some r => ba = (r.1.1 : Int) ∧ bl = (r.1.2 : Int) ∧ bv = r.2
theorem best_more {L : List Rt} {x : Nat} {o : Option Rt} {r : Rt} (h : Best L x o) (hr : ¬ Has r.1 x) : Best (L ++ [r]) x o := by
  cases o with
  | none =>
    intro y hy
    rcases List.mem_append.1 hy with h1 | h1
    · exact h y h1
    · rw [List.mem_singleton.1 h1]; exact hr
  | some b =>
    refine ⟨List.mem_append_left _ h.1, h.2.1, fun y hy hx => ?_⟩
    rcases List.mem_append.1 hy with h1 | h1
    · exact h.2.2 y h1 hx
    · rw [List.mem_singleton.1 h1] at hx; exact absurd hx hr
theorem best_first {L : List Rt} {x : Nat} {r : Rt} (h : Best L x none) (hr : Has r.1 x) : Best (L ++ [r]) x (some r) := by
  refine ⟨by simp, hr, fun y hy hx => ?_⟩
  rcases List.mem_append.1 hy with h1 | h1
  · exact absurd hx (h y h1)
  · rw [List.mem_singleton.1 h1]; exact Nat.le_refl _
theorem best_new {L : List Rt} {x : Nat} {b r : Rt} (h : Best L x (some b)) (hr : Has r.1 x) (hl : b.1.2 < r.1.2) : Best (L ++ [r]) x (some r) := by
  refine ⟨by simp, hr, fun y hy hx => ?_⟩
  rcases List.mem_append.1 hy with h1 | h1
  · have := h.2.2 y h1 hx; omega
  · rw [List.mem_singleton.1 h1]; exact Nat.le_refl _
theorem best_old {L : List Rt} {x : Nat} {b r : Rt} (h : Best L x (some b)) (hl : r.1.2 ≤ b.1.2) : Best (L ++ [r]) x (some b) := by
  refine ⟨List.mem_append_left _ h.1, h.2.1, fun y hy hx => ?_⟩
  rcases List.mem_append.1 hy with h1 | h1
  · exact h.2.2 y h1 hx
  · rw [List.mem_singleton.1 h1]; exact hl
theorem hasB_vld2 {p : Px} (hp : Vld p) (x : Nat) : hasB p.1 (p.2 : Int) x = true ↔ Has p x := by rw [hasB_vld hp]; simp
def LkJ (w : World) (rs : List Rt) (x n g6 g4 : Nat) (vh vi : Value) (wr : World) : Prop := ∃ (i : Nat) (o : Option Rt) (ba bl bv : Int), vh = .bool o.isSome ∧ vi = .int .i64 (i : Nat) ∧ i ≤ n ∧ Hid (BestC (rs.take i) x o ba bl bv) ∧ Hid (Sr w [] [(g6, [.int .u32 ba, .int .i64 bl, .int .i64 bv], 37), (g4, [.int .u32 0, .int .i64 0, .int .i64 0], 37)] wr)
def LkQ (w : World) (rs : List Rt) (x : Nat) (e : Ending) (W : World) : Prop := Below w.heap.size w W ∧ ∃ o, Best rs x o ∧
  e = .returned (match o with
    | none => .tuple #[.agg #[.int .u32 0, .int .i64 0, .int .i64 0], .bool false]
    | some r => .tuple #[rtV r.1 r.2, .bool true])
set_option maxRecDepth 100000 in
set_option maxHeartbeats 8000000 in
theorem refLookup_any {w : World} {v : Value} {rs : List Rt} {x : Nat} (h : TL w v rs) (hv : ∀ r ∈ rs, Vld r.1) (hx : x < 4294967296) (hn : rs.length < 4611686018427387900) :
    Calls Try.prog 18 #[v, .int .u32 (x : Int)] w (LkQ w rs x) := by
  have HT := Lib.hid h
  have HV := Lib.hid hv
  obtain ⟨A, c, rfl, -⟩ := h
  obtain ⟨n, hnn⟩ : ∃ n, rs.length = n := ⟨_, rfl⟩
  have HN := Lib.hid hnn
  rw [hnn] at hn HT ⊢
  clear hnn hv
  obtain ⟨g4, hg4⟩ : ∃ g4, w.heap.size = g4 := ⟨_, rfl⟩
  obtain ⟨w1, hw1, S⟩ : ∃ w1, w.alloc (.cells #[.int .u32 0, .int .i64 0, .int .i64 0] 37) = w1 ∧ Hid (Sr w [] [(g4, [.int .u32 0, .int .i64 0, .int .i64 0], 37)] w1) :=
    ⟨_, rfl, by rw [← hg4]; exact (Sr.start w).alloc [.int .u32 0, .int .i64 0, .int .i64 0] 37⟩
  go_enter Try.func18, Try.ntmps18
  go_wp2_with fail
  replace S := Lib.hid (S.out.alloc [.int .u32 0, .int .i64 0, .int .i64 0] 37)
  generalize hx6 : w1.heap.size = g6 at S
  obtain ⟨w2, hw2⟩ : ∃ w2, w1.alloc (.cells #[.int .u32 0, .int .i64 0, .int .i64 0] 37) = w2 := ⟨_, rfl⟩
  have HG := Lib.hid (show w.heap.size ≤ g6 ∧ w.heap.size ≤ g4 from ⟨by rw [← hx6, ← hw1]; simp, by omega⟩)
  try simp only [hg4]
  rw [show w1.alloc (.cells [Value.int .u32 0, .int .i64 0, .int .i64 0].toArray 37) = w2 from hw2] at S
  simp only [hw2]
  clear hw2 hw1 hx6 hg4
  go_loopw [7, 8] (fun vh vi wr => LkJ w rs x n g6 g4 vh vi wr) (fun _ vi _ => n - (intOf vi).toNat)
  case atStart => exact ⟨0, none, 0, 0, 0, rfl, rfl, Nat.zero_le _, ⟨by intro y hy; simp at hy, rfl, rfl, rfl⟩, S⟩
  case round =>
    clear S
    obtain ⟨wq, rfl⟩ : ∃ x, x = wr := ⟨_, rfl⟩
    obtain ⟨i, o, ba, bl, bv, rfl, rfl, hi, HB, S⟩ := hrel
    by_cases hin : i < n
    · have hi' : (i : Int) < (n : Int) := by omega
      have hz0 : (0 : Int) ≤ (i : Int) := by omega
      have hw3 : IntKind.i64.wrap ((i : Int) + 1) = (i : Int) + 1 := IntWalk.i64_in _ (by omega)
      have hir : i < rs.length := by rw [HN.out]; exact hin
      replace S := Lib.hid S.out.drew
      obtain ⟨A', c', e', hel⟩ := HT.out
      injection e' with e1 e2 e3
      subst e1 e3
      clear e2
      obtain ⟨g, rfl, hg, d0, d1, d2⟩ := hel i hir
      have htk : rs.take (i + 1) = rs.take i ++ [rs[i]] := List.take_succ_eq_append_getElem hir
      have hvr := HV.out rs[i] (List.getElem_mem hir)
      generalize rs[i] = r at d0 d1 d2 htk hvr
      obtain ⟨⟨ra, rl⟩, rv⟩ := r
      dsimp only at d0 d1 d2 hvr
      replace d0 := (S.out.low.cell (p := ⟨g, i * 3, none⟩) hg).trans d0
      replace d1 := (S.out.low.cell (p := ⟨g, i * 3 + 1, none⟩) hg).trans d1
      replace d2 := (S.out.low.cell (p := ⟨g, i * 3 + 2, none⟩) hg).trans d2
      have b1 := (S.out.at 0 rfl).cell (i := 1) rfl
      have HC := Lib.hid (fun W => refContains_any ra (rl : Int) x W (vld_lt hvr) hx)
      have HQ := Lib.hid (show rs.take (i + 1) = rs.take i ++ [((ra, rl), rv)] from htk)
      have hh := hasB_vld2 hvr x
      clear hel htk hvr hir
      go_wp2_with fail
      by_cases hc : Has (ra, rl) x
      case neg =>
        rw [Bool.eq_false_iff.2 (fun h => hc (hh.1 h))] at HC
        have HR := Lib.hid (show BestC (rs.take (i + 1)) x o ba bl bv from ⟨by rw [HQ.out]; exact best_more HB.out.1 hc, HB.out.2⟩)
        clear hh hc
        refine wp_region_held_drew (S := fun W' => W'.cell? ⟨g, i * 3, none⟩ = some (.int .u32 (ra : Int)) ∧ W'.cell? ⟨g, i * 3 + 1, none⟩ = some (.int .i64 (rl : Int)) ∧ W'.cell? ⟨g6, 1, none⟩ = some (.int .i64 bl)) (by kernel_rfl) ⟨d0, d1, b1⟩ (fun hHeld => ?_)
        generalize wq.drew = w3 at S HC d0 d1 d2 b1 hHeld ⊢
        have HD := Lib.hid (show g < w3.heap.size ∧ w3.cell? ⟨g, i * 3, none⟩ = some (.int .u32 (ra : Int)) ∧ w3.cell? ⟨g, i * 3 + 1, none⟩ = some (.int .i64 (rl : Int)) ∧ w3.cell? ⟨g, i * 3 + 2, none⟩ = some (.int .i64 rv) from ⟨Nat.lt_of_lt_of_le hg S.out.low.size, d0, d1, d2⟩)
        clear d0 d1 d2 b1
        refine wpAnyH_takeD 0 (v := ?_) rfl rfl (by kernel_rfl) (by kernel_rfl) (by kernel_rfl) (fun _ _ _ h => h) (Or.inl ⟨by rfl, ?_⟩) hHeld ?_
        rotate_left
        focus (intro w hSw; (try dsimp only at hSw); go_simp; try with_reducible rfl)
        try simp only [List.setIfInBounds_toArray, List.set_cons_zero, List.set_cons_succ]
        refine wpAnyH_takeD 1 (v := ?_) rfl rfl (by kernel_rfl) (by kernel_rfl) (by kernel_rfl) (fun _ _ _ h => h) (Or.inl ⟨by rfl, ?_⟩) hHeld ?_
        rotate_left
        focus (intro w hSw; (try dsimp only at hSw); go_simp; try with_reducible rfl)
        try simp only [List.setIfInBounds_toArray, List.set_cons_zero, List.set_cons_succ]
        refine wpAnyH_takeD 2 (v := ?_) rfl rfl (by kernel_rfl) (by kernel_rfl) (by kernel_rfl) (fun _ _ _ h => h) (Or.inl ⟨by rfl, ?_⟩) hHeld ?_
        rotate_left
        focus (intro w hSw; (try dsimp only at hSw); go_simp; try with_reducible rfl)
        try simp only [List.setIfInBounds_toArray, List.set_cons_zero, List.set_cons_succ]
        refine wpAnyH_takeD 3 (v := ?_) rfl rfl (by kernel_rfl) (by kernel_rfl) (by kernel_rfl) (fun _ _ _ h => h) (Or.inl ⟨by rfl, ?_⟩) hHeld ?_
        rotate_left
        focus (intro w hSw; (try dsimp only at hSw); go_simp; try with_reducible rfl)
        try simp only [List.setIfInBounds_toArray, List.set_cons_zero, List.set_cons_succ]
        refine wpAnyH_takeD 4 (v := ?_) rfl rfl (by kernel_rfl) (by kernel_rfl) (by kernel_rfl) (fun _ _ _ h => h) (Or.inl ⟨by rfl, ?_⟩) hHeld ?_
        rotate_left
        focus (intro w hSw; (try dsimp only at hSw); go_simp; try with_reducible rfl)
        try simp only [List.setIfInBounds_toArray, List.set_cons_zero, List.set_cons_succ]
        refine wpAnyH_takeD 5 (v := ?_) rfl rfl (by kernel_rfl) (by kernel_rfl) (by kernel_rfl) (fun _ _ _ h => h) (Or.inl ⟨by rfl, ?_⟩) hHeld ?_
        rotate_left
        focus (intro w hSw; (try dsimp only at hSw); go_simp; try with_reducible rfl)
        try simp only [List.setIfInBounds_toArray, List.set_cons_zero, List.set_cons_succ]
        refine wpAnyH_ready (rs := [6]) (by kernel_rfl) (by simp) ?_
        refine AllReadyH.cons rfl (fun K hK => ?_) AllReadyH.nil
        go_simp
        refine (HC.out _).mono ?_
        rintro e w4 ⟨rfl, hb⟩
        replace S := Lib.hid (S.out.below hb)
        replace HD := Lib.hid (show g < w4.heap.size ∧ w4.cell? ⟨g, i * 3, none⟩ = some (.int .u32 (ra : Int)) ∧ w4.cell? ⟨g, i * 3 + 1, none⟩ = some (.int .i64 (rl : Int)) ∧ w4.cell? ⟨g, i * 3 + 2, none⟩ = some (.int .i64 rv) from ⟨Nat.lt_of_lt_of_le HD.out.1 hb.size, (hb.cell (p := ⟨g, i * 3, none⟩) HD.out.1).trans HD.out.2.1, (hb.cell (p := ⟨g, i * 3 + 1, none⟩) HD.out.1).trans HD.out.2.2.1, (hb.cell (p := ⟨g, i * 3 + 2, none⟩) HD.out.1).trans HD.out.2.2.2⟩)
        refine hK.out _ _ ⟨HD.out.2.1, HD.out.2.2.1, (S.out.at 0 rfl).cell (i := 1) rfl⟩ (fun hHeld => ?_)
        clear hK K hb HC
        refine wpAnyH_takeD 7 (v := ?_) rfl rfl (by kernel_rfl) (by kernel_rfl) (by kernel_rfl) (fun _ _ _ h => h) (Or.inl ⟨by rfl, ?_⟩) hHeld ?_
        rotate_left
        focus (intro w hSw; (try dsimp only at hSw); go_simp; try with_reducible rfl)
        try simp only [List.setIfInBounds_toArray, List.set_cons_zero, List.set_cons_succ]
        refine wpAnyH_takeD 8 (v := undef) rfl rfl (by kernel_rfl) (by kernel_rfl) (by kernel_rfl) (fun _ _ _ h => h) (Or.inr ⟨by rfl, rfl⟩) hHeld ?_
        simp only [List.setIfInBounds_toArray, List.set_cons_zero, List.set_cons_succ]
        refine wpAnyH_takeD 9 (v := undef) rfl rfl (by kernel_rfl) (by kernel_rfl) (by kernel_rfl) (fun _ _ _ h => h) (Or.inr ⟨by rfl, rfl⟩) hHeld ?_
        simp only [List.setIfInBounds_toArray, List.set_cons_zero, List.set_cons_succ]
        refine wpAnyH_takeD 10 (v := undef) rfl rfl (by kernel_rfl) (by kernel_rfl) (by kernel_rfl) (fun _ _ _ h => h) (Or.inr ⟨by rfl, rfl⟩) hHeld ?_
        simp only [List.setIfInBounds_toArray, List.set_cons_zero, List.set_cons_succ]
        refine wpAnyH_takeD 11 (v := undef) rfl rfl (by kernel_rfl) (by kernel_rfl) (by kernel_rfl) (fun _ _ _ h => h) (Or.inr ⟨by rfl, rfl⟩) hHeld ?_
        simp only [List.setIfInBounds_toArray, List.set_cons_zero, List.set_cons_succ]
        refine wpAnyH_takeD 12 (v := undef) rfl rfl (by kernel_rfl) (by kernel_rfl) (by kernel_rfl) (fun _ _ _ h => h) (Or.inr ⟨by rfl, rfl⟩) hHeld ?_
        simp only [List.setIfInBounds_toArray, List.set_cons_zero, List.set_cons_succ]
        refine wpAnyH_takeD 13 (v := undef) rfl rfl (by kernel_rfl) (by kernel_rfl) (by kernel_rfl) (fun _ _ _ h => h) (Or.inr ⟨by rfl, rfl⟩) hHeld ?_
        simp only [List.setIfInBounds_toArray, List.set_cons_zero, List.set_cons_succ]
        refine wpAnyH_takeD 14 (v := undef) rfl rfl (by kernel_rfl) (by kernel_rfl) (by kernel_rfl) (fun _ _ _ h => h) (Or.inr ⟨by rfl, rfl⟩) hHeld ?_
        simp only [List.setIfInBounds_toArray, List.set_cons_zero, List.set_cons_succ]
        refine wpAnyH_takeD 15 (v := undef) rfl rfl (by kernel_rfl) (by kernel_rfl) (by kernel_rfl) (fun _ _ _ h => h) (Or.inr ⟨by rfl, rfl⟩) hHeld ?_
        simp only [List.setIfInBounds_toArray, List.set_cons_zero, List.set_cons_succ]
        refine wpAnyH_takeD 16 (v := undef) rfl rfl (by kernel_rfl) (by kernel_rfl) (by kernel_rfl) (fun _ _ _ h => h) (Or.inr ⟨by rfl, rfl⟩) hHeld ?_
        simp only [List.setIfInBounds_toArray, List.set_cons_zero, List.set_cons_succ]
        refine wpAnyH_takeD 17 (v := undef) rfl rfl (by kernel_rfl) (by kernel_rfl) (by kernel_rfl) (fun _ _ _ h => h) (Or.inr ⟨by rfl, rfl⟩) hHeld ?_
        simp only [List.setIfInBounds_toArray, List.set_cons_zero, List.set_cons_succ]
        refine wpAnyH_takeD 18 (v := undef) rfl rfl (by kernel_rfl) (by kernel_rfl) (by kernel_rfl) (fun _ _ _ h => h) (Or.inr ⟨by rfl, rfl⟩) hHeld ?_
        simp only [List.setIfInBounds_toArray, List.set_cons_zero, List.set_cons_succ]
        refine wpAnyH_takeD 19 (v := undef) rfl rfl (by kernel_rfl) (by kernel_rfl) (by kernel_rfl) (fun _ _ _ h => h) (Or.inr ⟨by rfl, rfl⟩) hHeld ?_
        simp only [List.setIfInBounds_toArray, List.set_cons_zero, List.set_cons_succ]
        refine wpAnyH_takeD 20 (v := undef) rfl rfl (by kernel_rfl) (by kernel_rfl) (by kernel_rfl) (fun _ _ _ h => h) (Or.inr ⟨by rfl, rfl⟩) hHeld ?_
        simp only [List.setIfInBounds_toArray, List.set_cons_zero, List.set_cons_succ]
        refine wpAnyH_takeD 21 (v := undef) rfl rfl (by kernel_rfl) (by kernel_rfl) (by kernel_rfl) (fun _ _ _ h => h) (Or.inr ⟨by rfl, rfl⟩) hHeld ?_
        simp only [List.setIfInBounds_toArray, List.set_cons_zero, List.set_cons_succ]
        refine wpAnyH_takeD 22 (v := ?_) rfl rfl (by kernel_rfl) (by kernel_rfl) (by kernel_rfl) (fun _ _ _ h => h) (Or.inl ⟨by rfl, ?_⟩) hHeld ?_
        rotate_left
        focus (intro w hSw; (try dsimp only at hSw); go_simp; try with_reducible rfl)
        try simp only [List.setIfInBounds_toArray, List.set_cons_zero, List.set_cons_succ]
        refine wpAnyH_done (by kernel_rfl) ?_ _
        clear hHeld
        go_wp2_with fail
        go_roundw
        case rel => first | exact ⟨i + 1, o, ba, bl, bv, rfl, by go_num, by omega, HR, S⟩ | ((repeat apply Exists.intro); refine ⟨?_, rfl⟩; exact ⟨i + 1, o, ba, bl, bv, rfl, by go_num, by omega, HR, S⟩)
        case measure => simp [intOf]; omega

      case pos =>
        rw [hh.2 hc] at HC
        cases o with
        | none =>
          have HR := Lib.hid (show BestC (rs.take (i + 1)) x (some ((ra, rl), rv)) (ra : Int) (rl : Int) rv from ⟨by rw [HQ.out]; exact best_first HB.out.1 hc, rfl, rfl, rfl⟩)
          clear hh hc
          refine wp_region_held_drew (S := fun W' => W'.cell? ⟨g, i * 3, none⟩ = some (.int .u32 (ra : Int)) ∧ W'.cell? ⟨g, i * 3 + 1, none⟩ = some (.int .i64 (rl : Int)) ∧ W'.cell? ⟨g6, 1, none⟩ = some (.int .i64 bl)) (by kernel_rfl) ⟨d0, d1, b1⟩ (fun hHeld => ?_)
          generalize wq.drew = w3 at S HC d0 d1 d2 b1 hHeld ⊢
          have HD := Lib.hid (show g < w3.heap.size ∧ w3.cell? ⟨g, i * 3, none⟩ = some (.int .u32 (ra : Int)) ∧ w3.cell? ⟨g, i * 3 + 1, none⟩ = some (.int .i64 (rl : Int)) ∧ w3.cell? ⟨g, i * 3 + 2, none⟩ = some (.int .i64 rv) from ⟨Nat.lt_of_lt_of_le hg S.out.low.size, d0, d1, d2⟩)
          clear d0 d1 d2 b1
          refine wpAnyH_takeD 0 (v := ?_) rfl rfl (by kernel_rfl) (by kernel_rfl) (by kernel_rfl) (fun _ _ _ h => h) (Or.inl ⟨by rfl, ?_⟩) hHeld ?_
          rotate_left
          focus (intro w hSw; (try dsimp only at hSw); go_simp; try with_reducible rfl)
          try simp only [List.setIfInBounds_toArray, List.set_cons_zero, List.set_cons_succ]
          refine wpAnyH_takeD 1 (v := ?_) rfl rfl (by kernel_rfl) (by kernel_rfl) (by kernel_rfl) (fun _ _ _ h => h) (Or.inl ⟨by rfl, ?_⟩) hHeld ?_
          rotate_left
          focus (intro w hSw; (try dsimp only at hSw); go_simp; try with_reducible rfl)
          try simp only [List.setIfInBounds_toArray, List.set_cons_zero, List.set_cons_succ]
          refine wpAnyH_takeD 2 (v := ?_) rfl rfl (by kernel_rfl) (by kernel_rfl) (by kernel_rfl) (fun _ _ _ h => h) (Or.inl ⟨by rfl, ?_⟩) hHeld ?_
          rotate_left
          focus (intro w hSw; (try dsimp only at hSw); go_simp; try with_reducible rfl)
          try simp only [List.setIfInBounds_toArray, List.set_cons_zero, List.set_cons_succ]
          refine wpAnyH_takeD 3 (v := ?_) rfl rfl (by kernel_rfl) (by kernel_rfl) (by kernel_rfl) (fun _ _ _ h => h) (Or.inl ⟨by rfl, ?_⟩) hHeld ?_
          rotate_left
          focus (intro w hSw; (try dsimp only at hSw); go_simp; try with_reducible rfl)
          try simp only [List.setIfInBounds_toArray, List.set_cons_zero, List.set_cons_succ]
          refine wpAnyH_takeD 4 (v := ?_) rfl rfl (by kernel_rfl) (by kernel_rfl) (by kernel_rfl) (fun _ _ _ h => h) (Or.inl ⟨by rfl, ?_⟩) hHeld ?_
          rotate_left
          focus (intro w hSw; (try dsimp only at hSw); go_simp; try with_reducible rfl)
          try simp only [List.setIfInBounds_toArray, List.set_cons_zero, List.set_cons_succ]
          refine wpAnyH_takeD 5 (v := ?_) rfl rfl (by kernel_rfl) (by kernel_rfl) (by kernel_rfl) (fun _ _ _ h => h) (Or.inl ⟨by rfl, ?_⟩) hHeld ?_
          rotate_left
          focus (intro w hSw; (try dsimp only at hSw); go_simp; try with_reducible rfl)
          try simp only [List.setIfInBounds_toArray, List.set_cons_zero, List.set_cons_succ]
          refine wpAnyH_ready (rs := [6]) (by kernel_rfl) (by simp) ?_
          refine AllReadyH.cons rfl (fun K hK => ?_) AllReadyH.nil
          go_simp
          refine (HC.out _).mono ?_
          rintro e w4 ⟨rfl, hb⟩
          replace S := Lib.hid (S.out.below hb)
          replace HD := Lib.hid (show g < w4.heap.size ∧ w4.cell? ⟨g, i * 3, none⟩ = some (.int .u32 (ra : Int)) ∧ w4.cell? ⟨g, i * 3 + 1, none⟩ = some (.int .i64 (rl : Int)) ∧ w4.cell? ⟨g, i * 3 + 2, none⟩ = some (.int .i64 rv) from ⟨Nat.lt_of_lt_of_le HD.out.1 hb.size, (hb.cell (p := ⟨g, i * 3, none⟩) HD.out.1).trans HD.out.2.1, (hb.cell (p := ⟨g, i * 3 + 1, none⟩) HD.out.1).trans HD.out.2.2.1, (hb.cell (p := ⟨g, i * 3 + 2, none⟩) HD.out.1).trans HD.out.2.2.2⟩)
          refine hK.out _ _ ⟨HD.out.2.1, HD.out.2.2.1, (S.out.at 0 rfl).cell (i := 1) rfl⟩ (fun hHeld => ?_)
          clear hK K hb HC
          refine wpAnyH_takeD 7 (v := ?_) rfl rfl (by kernel_rfl) (by kernel_rfl) (by kernel_rfl) (fun _ _ _ h => h) (Or.inl ⟨by rfl, ?_⟩) hHeld ?_
          rotate_left
          focus (intro w hSw; (try dsimp only at hSw); go_simp; try with_reducible rfl)
          try simp only [List.setIfInBounds_toArray, List.set_cons_zero, List.set_cons_succ]
          refine wpAnyH_takeD 8 (v := ?_) rfl rfl (by kernel_rfl) (by kernel_rfl) (by kernel_rfl) (fun _ _ _ h => h) (Or.inl ⟨by rfl, ?_⟩) hHeld ?_
          rotate_left
          focus (intro w hSw; (try dsimp only at hSw); go_simp; try with_reducible rfl)
          try simp only [List.setIfInBounds_toArray, List.set_cons_zero, List.set_cons_succ]
          refine wpAnyH_takeD 9 (v := ?_) rfl rfl (by kernel_rfl) (by kernel_rfl) (by kernel_rfl) (fun _ _ _ h => h) (Or.inl ⟨by rfl, ?_⟩) hHeld ?_
          rotate_left
          focus (intro w hSw; (try dsimp only at hSw); go_simp; try with_reducible rfl)
          try simp only [List.setIfInBounds_toArray, List.set_cons_zero, List.set_cons_succ]
          refine wpAnyH_takeD 10 (v := ?_) rfl rfl (by kernel_rfl) (by kernel_rfl) (by kernel_rfl) (fun _ _ _ h => h) (Or.inl ⟨by rfl, ?_⟩) hHeld ?_
          rotate_left
          focus (intro w hSw; (try dsimp only at hSw); go_simp; try with_reducible rfl)
          try simp only [List.setIfInBounds_toArray, List.set_cons_zero, List.set_cons_succ]
          refine wpAnyH_takeD 11 (v := undef) rfl rfl (by kernel_rfl) (by kernel_rfl) (by kernel_rfl) (fun _ _ _ h => h) (Or.inr ⟨by rfl, rfl⟩) hHeld ?_
          simp only [List.setIfInBounds_toArray, List.set_cons_zero, List.set_cons_succ]
          refine wpAnyH_takeD 12 (v := undef) rfl rfl (by kernel_rfl) (by kernel_rfl) (by kernel_rfl) (fun _ _ _ h => h) (Or.inr ⟨by rfl, rfl⟩) hHeld ?_
          simp only [List.setIfInBounds_toArray, List.set_cons_zero, List.set_cons_succ]
          refine wpAnyH_takeD 13 (v := undef) rfl rfl (by kernel_rfl) (by kernel_rfl) (by kernel_rfl) (fun _ _ _ h => h) (Or.inr ⟨by rfl, rfl⟩) hHeld ?_
          simp only [List.setIfInBounds_toArray, List.set_cons_zero, List.set_cons_succ]
          refine wpAnyH_takeD 14 (v := undef) rfl rfl (by kernel_rfl) (by kernel_rfl) (by kernel_rfl) (fun _ _ _ h => h) (Or.inr ⟨by rfl, rfl⟩) hHeld ?_
          simp only [List.setIfInBounds_toArray, List.set_cons_zero, List.set_cons_succ]
          refine wpAnyH_takeD 15 (v := undef) rfl rfl (by kernel_rfl) (by kernel_rfl) (by kernel_rfl) (fun _ _ _ h => h) (Or.inr ⟨by rfl, rfl⟩) hHeld ?_
          simp only [List.setIfInBounds_toArray, List.set_cons_zero, List.set_cons_succ]
          refine wpAnyH_takeD 16 (v := undef) rfl rfl (by kernel_rfl) (by kernel_rfl) (by kernel_rfl) (fun _ _ _ h => h) (Or.inr ⟨by rfl, rfl⟩) hHeld ?_
          simp only [List.setIfInBounds_toArray, List.set_cons_zero, List.set_cons_succ]
          refine wpAnyH_takeD 17 (v := undef) rfl rfl (by kernel_rfl) (by kernel_rfl) (by kernel_rfl) (fun _ _ _ h => h) (Or.inr ⟨by rfl, rfl⟩) hHeld ?_
          simp only [List.setIfInBounds_toArray, List.set_cons_zero, List.set_cons_succ]
          refine wpAnyH_takeD 18 (v := undef) rfl rfl (by kernel_rfl) (by kernel_rfl) (by kernel_rfl) (fun _ _ _ h => h) (Or.inr ⟨by rfl, rfl⟩) hHeld ?_
          simp only [List.setIfInBounds_toArray, List.set_cons_zero, List.set_cons_succ]
          refine wpAnyH_takeD 19 (v := undef) rfl rfl (by kernel_rfl) (by kernel_rfl) (by kernel_rfl) (fun _ _ _ h => h) (Or.inr ⟨by rfl, rfl⟩) hHeld ?_
          simp only [List.setIfInBounds_toArray, List.set_cons_zero, List.set_cons_succ]
          refine wpAnyH_takeD 20 (v := undef) rfl rfl (by kernel_rfl) (by kernel_rfl) (by kernel_rfl) (fun _ _ _ h => h) (Or.inr ⟨by rfl, rfl⟩) hHeld ?_
          simp only [List.setIfInBounds_toArray, List.set_cons_zero, List.set_cons_succ]
          refine wpAnyH_takeD 21 (v := ?_) rfl rfl (by kernel_rfl) (by kernel_rfl) (by kernel_rfl) (fun _ _ _ h => h) (Or.inl ⟨by rfl, ?_⟩) hHeld ?_
          rotate_left
          focus (intro w hSw; (try dsimp only at hSw); go_simp; try with_reducible rfl)
          try simp only [List.setIfInBounds_toArray, List.set_cons_zero, List.set_cons_succ]
          refine wpAnyH_takeD 22 (v := ?_) rfl rfl (by kernel_rfl) (by kernel_rfl) (by kernel_rfl) (fun _ _ _ h => h) (Or.inl ⟨by rfl, ?_⟩) hHeld ?_
          rotate_left
          focus (intro w hSw; (try dsimp only at hSw); go_simp; try with_reducible rfl)
          try simp only [List.setIfInBounds_toArray, List.set_cons_zero, List.set_cons_succ]
          refine wpAnyH_done (by kernel_rfl) ?_ _
          clear hHeld
          obtain ⟨hg2, d0, d1, d2⟩ := HD.out
          have b0 := (S.out.at 0 rfl).cell (i := 0) rfl
          have b1 := (S.out.at 0 rfl).cell (i := 1) rfl
          have b2 := (S.out.at 0 rfl).cell (i := 2) rfl
          have f0 := (S.out.at 0 rfl).frozen (i := 0)
          have f1 := (S.out.at 0 rfl).frozen (i := 1)
          have f2 := (S.out.at 0 rfl).frozen (i := 2)
          replace S := Lib.hid (((S.out.set 0 rfl HG.out.1 0 (.int .u32 (ra : Int)) rfl).set 0 rfl HG.out.1 1 (.int .i64 (rl : Int)) rfl).set 0 rfl HG.out.1 2 (.int .i64 rv) rfl)
          simp only [List.set_cons_zero, List.set_cons_succ] at S
          go_wp2_with fail
          go_roundw
          case rel => first | exact ⟨i + 1, some ((ra, rl), rv), ra, rl, rv, rfl, by go_num, by omega, HR, S⟩ | ((repeat apply Exists.intro); refine ⟨?_, rfl⟩; exact ⟨i + 1, some ((ra, rl), rv), ra, rl, rv, rfl, by go_num, by omega, HR, S⟩)
          case measure => simp [intOf]; omega

        | some b =>
          by_cases hl : b.1.2 < rl
          · have hl' : bl < (rl : Int) := by have := HB.out.2.2.1; omega
            have HR := Lib.hid (show BestC (rs.take (i + 1)) x (some ((ra, rl), rv)) (ra : Int) (rl : Int) rv from ⟨by rw [HQ.out]; exact best_new HB.out.1 hc hl, rfl, rfl, rfl⟩)
            clear hh hc
            refine wp_region_held_drew (S := fun W' => W'.cell? ⟨g, i * 3, none⟩ = some (.int .u32 (ra : Int)) ∧ W'.cell? ⟨g, i * 3 + 1, none⟩ = some (.int .i64 (rl : Int)) ∧ W'.cell? ⟨g6, 1, none⟩ = some (.int .i64 bl)) (by kernel_rfl) ⟨d0, d1, b1⟩ (fun hHeld => ?_)
            generalize wq.drew = w3 at S HC d0 d1 d2 b1 hHeld ⊢
            have HD := Lib.hid (show g < w3.heap.size ∧ w3.cell? ⟨g, i * 3, none⟩ = some (.int .u32 (ra : Int)) ∧ w3.cell? ⟨g, i * 3 + 1, none⟩ = some (.int .i64 (rl : Int)) ∧ w3.cell? ⟨g, i * 3 + 2, none⟩ = some (.int .i64 rv) from ⟨Nat.lt_of_lt_of_le hg S.out.low.size, d0, d1, d2⟩)
            clear d0 d1 d2 b1
            refine wpAnyH_takeD 0 (v := ?_) rfl rfl (by kernel_rfl) (by kernel_rfl) (by kernel_rfl) (fun _ _ _ h => h) (Or.inl ⟨by rfl, ?_⟩) hHeld ?_
            rotate_left
            focus (intro w hSw; (try dsimp only at hSw); go_simp; try with_reducible rfl)
            try simp only [List.setIfInBounds_toArray, List.set_cons_zero, List.set_cons_succ]
            refine wpAnyH_takeD 1 (v := ?_) rfl rfl (by kernel_rfl) (by kernel_rfl) (by kernel_rfl) (fun _ _ _ h => h) (Or.inl ⟨by rfl, ?_⟩) hHeld ?_
            rotate_left
            focus (intro w hSw; (try dsimp only at hSw); go_simp; try with_reducible rfl)
            try simp only [List.setIfInBounds_toArray, List.set_cons_zero, List.set_cons_succ]
            refine wpAnyH_takeD 2 (v := ?_) rfl rfl (by kernel_rfl) (by kernel_rfl) (by kernel_rfl) (fun _ _ _ h => h) (Or.inl ⟨by rfl, ?_⟩) hHeld ?_
            rotate_left
            focus (intro w hSw; (try dsimp only at hSw); go_simp; try with_reducible rfl)
            try simp only [List.setIfInBounds_toArray, List.set_cons_zero, List.set_cons_succ]
            refine wpAnyH_takeD 3 (v := ?_) rfl rfl (by kernel_rfl) (by kernel_rfl) (by kernel_rfl) (fun _ _ _ h => h) (Or.inl ⟨by rfl, ?_⟩) hHeld ?_
            rotate_left
            focus (intro w hSw; (try dsimp only at hSw); go_simp; try with_reducible rfl)
            try simp only [List.setIfInBounds_toArray, List.set_cons_zero, List.set_cons_succ]
            refine wpAnyH_takeD 4 (v := ?_) rfl rfl (by kernel_rfl) (by kernel_rfl) (by kernel_rfl) (fun _ _ _ h => h) (Or.inl ⟨by rfl, ?_⟩) hHeld ?_
            rotate_left
            focus (intro w hSw; (try dsimp only at hSw); go_simp; try with_reducible rfl)
            try simp only [List.setIfInBounds_toArray, List.set_cons_zero, List.set_cons_succ]
            refine wpAnyH_takeD 5 (v := ?_) rfl rfl (by kernel_rfl) (by kernel_rfl) (by kernel_rfl) (fun _ _ _ h => h) (Or.inl ⟨by rfl, ?_⟩) hHeld ?_
            rotate_left
            focus (intro w hSw; (try dsimp only at hSw); go_simp; try with_reducible rfl)
            try simp only [List.setIfInBounds_toArray, List.set_cons_zero, List.set_cons_succ]
            refine wpAnyH_ready (rs := [6]) (by kernel_rfl) (by simp) ?_
            refine AllReadyH.cons rfl (fun K hK => ?_) AllReadyH.nil
            go_simp
            refine (HC.out _).mono ?_
            rintro e w4 ⟨rfl, hb⟩
            replace S := Lib.hid (S.out.below hb)
            replace HD := Lib.hid (show g < w4.heap.size ∧ w4.cell? ⟨g, i * 3, none⟩ = some (.int .u32 (ra : Int)) ∧ w4.cell? ⟨g, i * 3 + 1, none⟩ = some (.int .i64 (rl : Int)) ∧ w4.cell? ⟨g, i * 3 + 2, none⟩ = some (.int .i64 rv) from ⟨Nat.lt_of_lt_of_le HD.out.1 hb.size, (hb.cell (p := ⟨g, i * 3, none⟩) HD.out.1).trans HD.out.2.1, (hb.cell (p := ⟨g, i * 3 + 1, none⟩) HD.out.1).trans HD.out.2.2.1, (hb.cell (p := ⟨g, i * 3 + 2, none⟩) HD.out.1).trans HD.out.2.2.2⟩)
            refine hK.out _ _ ⟨HD.out.2.1, HD.out.2.2.1, (S.out.at 0 rfl).cell (i := 1) rfl⟩ (fun hHeld => ?_)
            clear hK K hb HC
            refine wpAnyH_takeD 7 (v := ?_) rfl rfl (by kernel_rfl) (by kernel_rfl) (by kernel_rfl) (fun _ _ _ h => h) (Or.inl ⟨by rfl, ?_⟩) hHeld ?_
            rotate_left
            focus (intro w hSw; (try dsimp only at hSw); go_simp; try with_reducible rfl)
            try simp only [List.setIfInBounds_toArray, List.set_cons_zero, List.set_cons_succ]
            refine wpAnyH_takeD 8 (v := ?_) rfl rfl (by kernel_rfl) (by kernel_rfl) (by kernel_rfl) (fun _ _ _ h => h) (Or.inl ⟨by rfl, ?_⟩) hHeld ?_
            rotate_left
            focus (intro w hSw; (try dsimp only at hSw); go_simp; try with_reducible rfl)
            try simp only [List.setIfInBounds_toArray, List.set_cons_zero, List.set_cons_succ]
            refine wpAnyH_takeD 9 (v := ?_) rfl rfl (by kernel_rfl) (by kernel_rfl) (by kernel_rfl) (fun _ _ _ h => h) (Or.inl ⟨by rfl, ?_⟩) hHeld ?_
            rotate_left
            focus (intro w hSw; (try dsimp only at hSw); go_simp; try with_reducible rfl)
            try simp only [List.setIfInBounds_toArray, List.set_cons_zero, List.set_cons_succ]
            refine wpAnyH_takeD 10 (v := ?_) rfl rfl (by kernel_rfl) (by kernel_rfl) (by kernel_rfl) (fun _ _ _ h => h) (Or.inl ⟨by rfl, ?_⟩) hHeld ?_
            rotate_left
            focus (intro w hSw; (try dsimp only at hSw); go_simp; try with_reducible rfl)
            try simp only [List.setIfInBounds_toArray, List.set_cons_zero, List.set_cons_succ]
            refine wpAnyH_takeD 11 (v := ?_) rfl rfl (by kernel_rfl) (by kernel_rfl) (by kernel_rfl) (fun _ _ _ h => h) (Or.inl ⟨by rfl, ?_⟩) hHeld ?_
            rotate_left
            focus (intro w hSw; (try dsimp only at hSw); go_simp; try with_reducible rfl)
            try simp only [List.setIfInBounds_toArray, List.set_cons_zero, List.set_cons_succ]
            refine wpAnyH_takeD 12 (v := ?_) rfl rfl (by kernel_rfl) (by kernel_rfl) (by kernel_rfl) (fun _ _ _ h => h) (Or.inl ⟨by rfl, ?_⟩) hHeld ?_
            rotate_left
            focus (intro w hSw; (try dsimp only at hSw); go_simp; try with_reducible rfl)
            try simp only [List.setIfInBounds_toArray, List.set_cons_zero, List.set_cons_succ]
            refine wpAnyH_takeD 13 (v := ?_) rfl rfl (by kernel_rfl) (by kernel_rfl) (by kernel_rfl) (fun _ _ _ h => h) (Or.inl ⟨by rfl, ?_⟩) hHeld ?_
            rotate_left
            focus (intro w hSw; (try dsimp only at hSw); go_simp; try with_reducible rfl)
            try simp only [List.setIfInBounds_toArray, List.set_cons_zero, List.set_cons_succ]
            refine wpAnyH_takeD 14 (v := ?_) rfl rfl (by kernel_rfl) (by kernel_rfl) (by kernel_rfl) (fun _ _ _ h => h) (Or.inl ⟨by rfl, ?_⟩) hHeld ?_
            rotate_left
            focus (intro w hSw; (try dsimp only at hSw); go_simp; try with_reducible rfl)
            try simp only [List.setIfInBounds_toArray, List.set_cons_zero, List.set_cons_succ]
            refine wpAnyH_takeD 15 (v := ?_) rfl rfl (by kernel_rfl) (by kernel_rfl) (by kernel_rfl) (fun _ _ _ h => h) (Or.inl ⟨by rfl, ?_⟩) hHeld ?_
            rotate_left
            focus (intro w hSw; (try dsimp only at hSw); go_simp; try with_reducible rfl)
            try simp only [List.setIfInBounds_toArray, List.set_cons_zero, List.set_cons_succ]
            refine wpAnyH_takeD 16 (v := ?_) rfl rfl (by kernel_rfl) (by kernel_rfl) (by kernel_rfl) (fun _ _ _ h => h) (Or.inl ⟨by rfl, ?_⟩) hHeld ?_
            rotate_left
            focus (intro w hSw; (try dsimp only at hSw); go_simp; try with_reducible rfl)
            try simp only [List.setIfInBounds_toArray, List.set_cons_zero, List.set_cons_succ]
            refine wpAnyH_takeD 17 (v := ?_) rfl rfl (by kernel_rfl) (by kernel_rfl) (by kernel_rfl) (fun _ _ _ h => h) (Or.inl ⟨by rfl, ?_⟩) hHeld ?_
            rotate_left
            focus (intro w hSw; (try dsimp only at hSw); go_simp; try with_reducible rfl)
            try simp only [List.setIfInBounds_toArray, List.set_cons_zero, List.set_cons_succ]
            refine wpAnyH_takeD 18 (v := ?_) rfl rfl (by kernel_rfl) (by kernel_rfl) (by kernel_rfl) (fun _ _ _ h => h) (Or.inl ⟨by rfl, ?_⟩) hHeld ?_
            rotate_left
            focus (intro w hSw; (try dsimp only at hSw); go_simp; try with_reducible rfl)
            try simp only [List.setIfInBounds_toArray, List.set_cons_zero, List.set_cons_succ]
            refine wpAnyH_takeD 19 (v := ?_) rfl rfl (by kernel_rfl) (by kernel_rfl) (by kernel_rfl) (fun _ _ _ h => h) (Or.inl ⟨by rfl, ?_⟩) hHeld ?_
            rotate_left
            focus (intro w hSw; (try dsimp only at hSw); go_simp; try with_reducible rfl)
            try simp only [List.setIfInBounds_toArray, List.set_cons_zero, List.set_cons_succ]
            refine wpAnyH_takeD 20 (v := ?_) rfl rfl (by kernel_rfl) (by kernel_rfl) (by kernel_rfl) (fun _ _ _ h => h) (Or.inl ⟨by rfl, ?_⟩) hHeld ?_
            rotate_left
            focus (intro w hSw; (try dsimp only at hSw); go_simp; try with_reducible rfl)
            try simp only [List.setIfInBounds_toArray, List.set_cons_zero, List.set_cons_succ]
            refine wpAnyH_takeD 21 (v := ?_) rfl rfl (by kernel_rfl) (by kernel_rfl) (by kernel_rfl) (fun _ _ _ h => h) (Or.inl ⟨by rfl, ?_⟩) hHeld ?_
            rotate_left
            focus (intro w hSw; (try dsimp only at hSw); go_simp; try with_reducible rfl)
            try simp only [List.setIfInBounds_toArray, List.set_cons_zero, List.set_cons_succ]
            refine wpAnyH_takeD 22 (v := ?_) rfl rfl (by kernel_rfl) (by kernel_rfl) (by kernel_rfl) (fun _ _ _ h => h) (Or.inl ⟨by rfl, ?_⟩) hHeld ?_
            rotate_left
            focus (intro w hSw; (try dsimp only at hSw); go_simp; try with_reducible rfl)
            try simp only [List.setIfInBounds_toArray, List.set_cons_zero, List.set_cons_succ]
            refine wpAnyH_done (by kernel_rfl) ?_ _
            clear hHeld
            obtain ⟨hg2, d0, d1, d2⟩ := HD.out
            have b0 := (S.out.at 0 rfl).cell (i := 0) rfl
            have b1 := (S.out.at 0 rfl).cell (i := 1) rfl
            have b2 := (S.out.at 0 rfl).cell (i := 2) rfl
            have f0 := (S.out.at 0 rfl).frozen (i := 0)
            have f1 := (S.out.at 0 rfl).frozen (i := 1)
            have f2 := (S.out.at 0 rfl).frozen (i := 2)
            replace S := Lib.hid (((S.out.set 0 rfl HG.out.1 0 (.int .u32 (ra : Int)) rfl).set 0 rfl HG.out.1 1 (.int .i64 (rl : Int)) rfl).set 0 rfl HG.out.1 2 (.int .i64 rv) rfl)
            simp only [List.set_cons_zero, List.set_cons_succ] at S
            go_wp2_with fail
            go_roundw
            case rel => first | exact ⟨i + 1, some ((ra, rl), rv), ra, rl, rv, rfl, by go_num, by omega, HR, S⟩ | ((repeat apply Exists.intro); refine ⟨?_, rfl⟩; exact ⟨i + 1, some ((ra, rl), rv), ra, rl, rv, rfl, by go_num, by omega, HR, S⟩)
            case measure => simp [intOf]; omega

          · have hl' : ¬ bl < (rl : Int) := by have := HB.out.2.2.1; omega
            have HR := Lib.hid (show BestC (rs.take (i + 1)) x (some b) ba bl bv from ⟨by rw [HQ.out]; exact best_old (r := ((ra, rl), rv)) HB.out.1 (Nat.le_of_not_lt hl), HB.out.2⟩)
            clear hh hc
            refine wp_region_held_drew (S := fun W' => W'.cell? ⟨g, i * 3, none⟩ = some (.int .u32 (ra : Int)) ∧ W'.cell? ⟨g, i * 3 + 1, none⟩ = some (.int .i64 (rl : Int)) ∧ W'.cell? ⟨g6, 1, none⟩ = some (.int .i64 bl)) (by kernel_rfl) ⟨d0, d1, b1⟩ (fun hHeld => ?_)
            generalize wq.drew = w3 at S HC d0 d1 d2 b1 hHeld ⊢
            have HD := Lib.hid (show g < w3.heap.size ∧ w3.cell? ⟨g, i * 3, none⟩ = some (.int .u32 (ra : Int)) ∧ w3.cell? ⟨g, i * 3 + 1, none⟩ = some (.int .i64 (rl : Int)) ∧ w3.cell? ⟨g, i * 3 + 2, none⟩ = some (.int .i64 rv) from ⟨Nat.lt_of_lt_of_le hg S.out.low.size, d0, d1, d2⟩)
            clear d0 d1 d2 b1
            refine wpAnyH_takeD 0 (v := ?_) rfl rfl (by kernel_rfl) (by kernel_rfl) (by kernel_rfl) (fun _ _ _ h => h) (Or.inl ⟨by rfl, ?_⟩) hHeld ?_
            rotate_left
            focus (intro w hSw; (try dsimp only at hSw); go_simp; try with_reducible rfl)
            try simp only [List.setIfInBounds_toArray, List.set_cons_zero, List.set_cons_succ]
            refine wpAnyH_takeD 1 (v := ?_) rfl rfl (by kernel_rfl) (by kernel_rfl) (by kernel_rfl) (fun _ _ _ h => h) (Or.inl ⟨by rfl, ?_⟩) hHeld ?_
            rotate_left
            focus (intro w hSw; (try dsimp only at hSw); go_simp; try with_reducible rfl)
            try simp only [List.setIfInBounds_toArray, List.set_cons_zero, List.set_cons_succ]
            refine wpAnyH_takeD 2 (v := ?_) rfl rfl (by kernel_rfl) (by kernel_rfl) (by kernel_rfl) (fun _ _ _ h => h) (Or.inl ⟨by rfl, ?_⟩) hHeld ?_
            rotate_left
            focus (intro w hSw; (try dsimp only at hSw); go_simp; try with_reducible rfl)
            try simp only [List.setIfInBounds_toArray, List.set_cons_zero, List.set_cons_succ]
            refine wpAnyH_takeD 3 (v := ?_) rfl rfl (by kernel_rfl) (by kernel_rfl) (by kernel_rfl) (fun _ _ _ h => h) (Or.inl ⟨by rfl, ?_⟩) hHeld ?_
            rotate_left
            focus (intro w hSw; (try dsimp only at hSw); go_simp; try with_reducible rfl)
            try simp only [List.setIfInBounds_toArray, List.set_cons_zero, List.set_cons_succ]
            refine wpAnyH_takeD 4 (v := ?_) rfl rfl (by kernel_rfl) (by kernel_rfl) (by kernel_rfl) (fun _ _ _ h => h) (Or.inl ⟨by rfl, ?_⟩) hHeld ?_
            rotate_left
            focus (intro w hSw; (try dsimp only at hSw); go_simp; try with_reducible rfl)
            try simp only [List.setIfInBounds_toArray, List.set_cons_zero, List.set_cons_succ]
            refine wpAnyH_takeD 5 (v := ?_) rfl rfl (by kernel_rfl) (by kernel_rfl) (by kernel_rfl) (fun _ _ _ h => h) (Or.inl ⟨by rfl, ?_⟩) hHeld ?_
            rotate_left
            focus (intro w hSw; (try dsimp only at hSw); go_simp; try with_reducible rfl)
            try simp only [List.setIfInBounds_toArray, List.set_cons_zero, List.set_cons_succ]
            refine wpAnyH_ready (rs := [6]) (by kernel_rfl) (by simp) ?_
            refine AllReadyH.cons rfl (fun K hK => ?_) AllReadyH.nil
            go_simp
            refine (HC.out _).mono ?_
            rintro e w4 ⟨rfl, hb⟩
            replace S := Lib.hid (S.out.below hb)
            replace HD := Lib.hid (show g < w4.heap.size ∧ w4.cell? ⟨g, i * 3, none⟩ = some (.int .u32 (ra : Int)) ∧ w4.cell? ⟨g, i * 3 + 1, none⟩ = some (.int .i64 (rl : Int)) ∧ w4.cell? ⟨g, i * 3 + 2, none⟩ = some (.int .i64 rv) from ⟨Nat.lt_of_lt_of_le HD.out.1 hb.size, (hb.cell (p := ⟨g, i * 3, none⟩) HD.out.1).trans HD.out.2.1, (hb.cell (p := ⟨g, i * 3 + 1, none⟩) HD.out.1).trans HD.out.2.2.1, (hb.cell (p := ⟨g, i * 3 + 2, none⟩) HD.out.1).trans HD.out.2.2.2⟩)
            refine hK.out _ _ ⟨HD.out.2.1, HD.out.2.2.1, (S.out.at 0 rfl).cell (i := 1) rfl⟩ (fun hHeld => ?_)
            clear hK K hb HC
            refine wpAnyH_takeD 7 (v := ?_) rfl rfl (by kernel_rfl) (by kernel_rfl) (by kernel_rfl) (fun _ _ _ h => h) (Or.inl ⟨by rfl, ?_⟩) hHeld ?_
            rotate_left
            focus (intro w hSw; (try dsimp only at hSw); go_simp; try with_reducible rfl)
            try simp only [List.setIfInBounds_toArray, List.set_cons_zero, List.set_cons_succ]
            refine wpAnyH_takeD 8 (v := ?_) rfl rfl (by kernel_rfl) (by kernel_rfl) (by kernel_rfl) (fun _ _ _ h => h) (Or.inl ⟨by rfl, ?_⟩) hHeld ?_
            rotate_left
            focus (intro w hSw; (try dsimp only at hSw); go_simp; try with_reducible rfl)
            try simp only [List.setIfInBounds_toArray, List.set_cons_zero, List.set_cons_succ]
            refine wpAnyH_takeD 9 (v := ?_) rfl rfl (by kernel_rfl) (by kernel_rfl) (by kernel_rfl) (fun _ _ _ h => h) (Or.inl ⟨by rfl, ?_⟩) hHeld ?_
            rotate_left
            focus (intro w hSw; (try dsimp only at hSw); go_simp; try with_reducible rfl)
            try simp only [List.setIfInBounds_toArray, List.set_cons_zero, List.set_cons_succ]
            refine wpAnyH_takeD 10 (v := ?_) rfl rfl (by kernel_rfl) (by kernel_rfl) (by kernel_rfl) (fun _ _ _ h => h) (Or.inl ⟨by rfl, ?_⟩) hHeld ?_
            rotate_left
            focus (intro w hSw; (try dsimp only at hSw); go_simp; try with_reducible rfl)
            try simp only [List.setIfInBounds_toArray, List.set_cons_zero, List.set_cons_succ]
            refine wpAnyH_takeD 11 (v := ?_) rfl rfl (by kernel_rfl) (by kernel_rfl) (by kernel_rfl) (fun _ _ _ h => h) (Or.inl ⟨by rfl, ?_⟩) hHeld ?_
            rotate_left
            focus (intro w hSw; (try dsimp only at hSw); go_simp; try with_reducible rfl)
            try simp only [List.setIfInBounds_toArray, List.set_cons_zero, List.set_cons_succ]
            refine wpAnyH_takeD 12 (v := ?_) rfl rfl (by kernel_rfl) (by kernel_rfl) (by kernel_rfl) (fun _ _ _ h => h) (Or.inl ⟨by rfl, ?_⟩) hHeld ?_
            rotate_left
            focus (intro w hSw; (try dsimp only at hSw); go_simp; try with_reducible rfl)
            try simp only [List.setIfInBounds_toArray, List.set_cons_zero, List.set_cons_succ]
            refine wpAnyH_takeD 13 (v := ?_) rfl rfl (by kernel_rfl) (by kernel_rfl) (by kernel_rfl) (fun _ _ _ h => h) (Or.inl ⟨by rfl, ?_⟩) hHeld ?_
            rotate_left
            focus (intro w hSw; (try dsimp only at hSw); go_simp; try with_reducible rfl)
            try simp only [List.setIfInBounds_toArray, List.set_cons_zero, List.set_cons_succ]
            refine wpAnyH_takeD 14 (v := ?_) rfl rfl (by kernel_rfl) (by kernel_rfl) (by kernel_rfl) (fun _ _ _ h => h) (Or.inl ⟨by rfl, ?_⟩) hHeld ?_
            rotate_left
            focus (intro w hSw; (try dsimp only at hSw); go_simp; try with_reducible rfl)
            try simp only [List.setIfInBounds_toArray, List.set_cons_zero, List.set_cons_succ]
            refine wpAnyH_takeD 15 (v := ?_) rfl rfl (by kernel_rfl) (by kernel_rfl) (by kernel_rfl) (fun _ _ _ h => h) (Or.inl ⟨by rfl, ?_⟩) hHeld ?_
            rotate_left
            focus (intro w hSw; (try dsimp only at hSw); go_simp; try with_reducible rfl)
            try simp only [List.setIfInBounds_toArray, List.set_cons_zero, List.set_cons_succ]
            refine wpAnyH_takeD 16 (v := ?_) rfl rfl (by kernel_rfl) (by kernel_rfl) (by kernel_rfl) (fun _ _ _ h => h) (Or.inl ⟨by rfl, ?_⟩) hHeld ?_
            rotate_left
            focus (intro w hSw; (try dsimp only at hSw); go_simp; try with_reducible rfl)
            try simp only [List.setIfInBounds_toArray, List.set_cons_zero, List.set_cons_succ]
            refine wpAnyH_takeD 17 (v := ?_) rfl rfl (by kernel_rfl) (by kernel_rfl) (by kernel_rfl) (fun _ _ _ h => h) (Or.inl ⟨by rfl, ?_⟩) hHeld ?_
            rotate_left
            focus (intro w hSw; (try dsimp only at hSw); go_simp; try with_reducible rfl)
            try simp only [List.setIfInBounds_toArray, List.set_cons_zero, List.set_cons_succ]
            refine wpAnyH_takeD 18 (v := ?_) rfl rfl (by kernel_rfl) (by kernel_rfl) (by kernel_rfl) (fun _ _ _ h => h) (Or.inl ⟨by rfl, ?_⟩) hHeld ?_
            rotate_left
            focus (intro w hSw; (try dsimp only at hSw); go_simp; try with_reducible rfl)
            try simp only [List.setIfInBounds_toArray, List.set_cons_zero, List.set_cons_succ]
            refine wpAnyH_takeD 19 (v := ?_) rfl rfl (by kernel_rfl) (by kernel_rfl) (by kernel_rfl) (fun _ _ _ h => h) (Or.inl ⟨by rfl, ?_⟩) hHeld ?_
            rotate_left
            focus (intro w hSw; (try dsimp only at hSw); go_simp; try with_reducible rfl)
            try simp only [List.setIfInBounds_toArray, List.set_cons_zero, List.set_cons_succ]
            refine wpAnyH_takeD 20 (v := ?_) rfl rfl (by kernel_rfl) (by kernel_rfl) (by kernel_rfl) (fun _ _ _ h => h) (Or.inl ⟨by rfl, ?_⟩) hHeld ?_
            rotate_left
            focus (intro w hSw; (try dsimp only at hSw); go_simp; try with_reducible rfl)
            try simp only [List.setIfInBounds_toArray, List.set_cons_zero, List.set_cons_succ]
            refine wpAnyH_takeD 21 (v := ?_) rfl rfl (by kernel_rfl) (by kernel_rfl) (by kernel_rfl) (fun _ _ _ h => h) (Or.inl ⟨by rfl, ?_⟩) hHeld ?_
            rotate_left
            focus (intro w hSw; (try dsimp only at hSw); go_simp; try with_reducible rfl)
            try simp only [List.setIfInBounds_toArray, List.set_cons_zero, List.set_cons_succ]
            refine wpAnyH_takeD 22 (v := ?_) rfl rfl (by kernel_rfl) (by kernel_rfl) (by kernel_rfl) (fun _ _ _ h => h) (Or.inl ⟨by rfl, ?_⟩) hHeld ?_
            rotate_left
            focus (intro w hSw; (try dsimp only at hSw); go_simp; try with_reducible rfl)
            try simp only [List.setIfInBounds_toArray, List.set_cons_zero, List.set_cons_succ]
            refine wpAnyH_done (by kernel_rfl) ?_ _
            clear hHeld
            go_wp2_with fail
            go_roundw
            case rel => first | exact ⟨i + 1, some b, ba, bl, bv, rfl, by go_num, by omega, HR, S⟩ | ((repeat apply Exists.intro); refine ⟨?_, rfl⟩; exact ⟨i + 1, some b, ba, bl, bv, rfl, by go_num, by omega, HR, S⟩)
            case measure => simp [intOf]; omega

    · obtain rfl : i = n := by omega
      have hi' : ¬ (i : Int) < (i : Int) := by omega
      have htk : rs.take i = rs := by rw [← HN.out]; exact List.take_length
      rw [htk] at HB
      clear htk hi hin
      have c0x0 := (S.out.at 0 rfl).cell (i := 0) rfl
      have c0x1 := (S.out.at 0 rfl).cell (i := 1) rfl
      have c0x2 := (S.out.at 0 rfl).cell (i := 2) rfl
      have c1x0 := (S.out.at 1 rfl).cell (i := 0) rfl
      have f1x0 := (S.out.at 1 rfl).frozen (i := 0)
      have c1x1 := (S.out.at 1 rfl).cell (i := 1) rfl
      have f1x1 := (S.out.at 1 rfl).frozen (i := 1)
      have c1x2 := (S.out.at 1 rfl).cell (i := 2) rfl
      have f1x2 := (S.out.at 1 rfl).frozen (i := 2)
      go_wp2_with fail
      clear c0x0 c0x1 c0x2 c1x0 c1x1 c1x2 f1x0 f1x1 f1x2
      replace S := Lib.hid (((S.out.set 1 rfl HG.out.2 0 (.int .u32 ba) rfl).set 1 rfl HG.out.2 1 (.int .i64 bl) rfl).set 1 rfl HG.out.2 2 (.int .i64 bv) rfl)
      simp only [List.set_cons_zero, List.set_cons_succ] at S
      have c1x0 := (S.out.at 1 rfl).cell (i := 0) rfl
      have c1x1 := (S.out.at 1 rfl).cell (i := 1) rfl
      have c1x2 := (S.out.at 1 rfl).cell (i := 2) rfl
      refine bodyPost_ret (v := .tuple #[.agg #[.int .u32 ba, .int .i64 bl, .int .i64 bv], .bool o.isSome]) (by simp [results, Try.results18, go_sem, c1x0, c1x1, c1x2]) rfl ?_
      refine ⟨S.out.low, o, HB.out.1, ?_⟩
      have h2 := HB.out.2
      cases o with
      | none =>
        obtain ⟨rfl, rfl, rfl⟩ := h2
        rfl
      | some b =>
        obtain ⟨rfl, rfl, rfl⟩ := h2
        rfl
end Go.Proofs.Ytamkegnnlbefdaa
