/- Contract of package trie: tidy. -/
import Derived.Test.YtamkegnnlbefdaaTrT
namespace Go.Proofs.Ytamkegnnlbefdaa
open Go.RowKit

/-- What the tail of tidy is told of the counts. -/
def TE (q : Px) (x : Int) (h : Bool) (L R T : Tr) (N Nf : Nat) : Prop := tidyN q x h L R = T ∧ ((h = true ∨ (L.isNil = false ∧ R.isNil = false)) → N = Nf) ∧ (¬ (h = true ∨ (L.isNil = false ∧ R.isNil = false)) → N - 1 = Nf ∧ 1 ≤ N ∧ N < 4611686018427387900)
set_option maxRecDepth 100000 in
set_option maxHeartbeats 8000000 in
theorem tidy_here {w : World} {p : Px} {x : Int} {h : Bool} {L R : Tr} {v r0 : Value} {S0 : Nat → Prop} {gt R0 N Nf : Nat} (HA : At (.node p x h L R) w v S0) (HG : Blk w gt (trC r0 R0 N) trT) (hS : ¬ S0 gt) (hE : TE p x h L R (tidyT p (.node p x h L R)) N Nf) :
    Calls Try.prog 47 #[ptr gt, v, pv p.1 p.2] w (TdQ w gt (tidyT p (.node p x h L R)) S0 r0 R0 Nf) := by
  obtain ⟨g, a, b, Sl, Sr_, rfl, hg, hb, hL, hR, d1, d2⟩ := HA
  generalize tidyT p (.node p x h L R) = T' at hE ⊢
  obtain ⟨q, hq⟩ : ∃ q, q = p := ⟨_, rfl⟩
  obtain ⟨w1, hw1, S⟩ : ∃ w1, w.alloc (.cells #[.int .u32 (p.1 : Int), .int .i64 (p.2 : Int)] 35) = w1 ∧ Hid (Sr w [fun W => Blk W gt (trC r0 R0 N) trT, fun W => Blk W g (ndC p x h a b) ndT, fun W => At R W b Sr_, fun W => At L W a Sl] [(w.heap.size, [.int .u32 (p.1 : Int), .int .i64 (p.2 : Int)], 35)] w1) :=
    ⟨_, rfl, (((((Sr.start w).push (stb_at _ _ _) hL).push (stb_at _ _ _) hR).push (stb_blk g _ _) hb).push (stb_blk gt _ _) HG).alloc [.int .u32 (p.1 : Int), .int .i64 (p.2 : Int)] 35⟩
  have HD := Lib.hid (show S0 g ∧ (∀ k, Sl k → S0 k ∧ k ≠ g) ∧ (∀ k, Sr_ k → S0 k ∧ k ≠ g ∧ ¬ Sl k) ∧ g ≠ gt ∧ ¬ S0 gt from ⟨hg, d1, d2, fun e => hS (e ▸ hg), hS⟩)
  have HE := Lib.hid hE
  unfold TE at HE
  clear hg d1 d2 hS hE hL hR hb HG
  unfold ptr
  go_enter Try.func47, Try.ntmps47
  go_wp2_with fail
  clear hw1
  refine wp_region_held_drew (S := fun W' => W'.cell? ⟨g, 0, none⟩ = some (.int .u32 (p.1 : Int)) ∧ W'.cell? ⟨g, 1, none⟩ = some (.int .i64 (p.2 : Int)) ∧ W'.cell? ⟨w.heap.size, 0, none⟩ = some (.int .u32 (p.1 : Int)) ∧ W'.cell? ⟨w.heap.size, 1, none⟩ = some (.int .i64 (p.2 : Int))) (by kernel_rfl) ⟨(((S.out.drew)).fact 1 rfl).cell (i := 0) rfl, (((S.out.drew)).fact 1 rfl).cell (i := 1) rfl, (((S.out.drew)).at 0 rfl).cell (i := 0) rfl, (((S.out.drew)).at 0 rfl).cell (i := 1) rfl⟩ (fun hHeld => ?_)
  replace S := Lib.hid S.out.drew
  generalize w1.drew = w2 at S hHeld ⊢
  refine wpAnyH_takeD 0 (v := ?_) rfl rfl (by kernel_rfl) (by kernel_rfl) (by kernel_rfl) (fun _ _ _ h => h) (Or.inl ⟨by rfl, ?_⟩) hHeld ?_
  rotate_left
  focus (intro w hSw; (try dsimp only at hSw); go_simp; try with_reducible rfl)
  try simp only [List.setIfInBounds_toArray, List.set_cons_zero, List.set_cons_succ]
  refine wpAnyH_takeD 1 (v := ?_) rfl rfl (by kernel_rfl) (by kernel_rfl) (by kernel_rfl) (fun _ _ _ h => h) (Or.inl ⟨by rfl, ?_⟩) hHeld ?_
  rotate_left
  focus (intro w hSw; (try dsimp only at hSw); go_simp; try with_reducible rfl)
  try simp only [List.setIfInBounds_toArray, List.set_cons_zero, List.set_cons_succ]
  refine wpAnyH_takeD 2 (v := ?_) rfl rfl (by kernel_rfl) (by kernel_rfl) (by kernel_rfl) (fun _ _ _ h => h) (Or.inl ⟨by rfl, ?_⟩) hHeld ?_
  rotate_left
  focus (intro w hSw; (try dsimp only at hSw); go_simp; try with_reducible rfl)
  try simp only [List.setIfInBounds_toArray, List.set_cons_zero, List.set_cons_succ]
  refine wpAnyH_takeD 3 (v := ?_) rfl rfl (by kernel_rfl) (by kernel_rfl) (by kernel_rfl) (fun _ _ _ h => h) (Or.inl ⟨by rfl, ?_⟩) hHeld ?_
  rotate_left
  focus (intro w hSw; (try dsimp only at hSw); go_simp; try with_reducible rfl)
  try simp only [List.setIfInBounds_toArray, List.set_cons_zero, List.set_cons_succ]
  refine wpAnyH_takeD 4 (v := ?_) rfl rfl (by kernel_rfl) (by kernel_rfl) (by kernel_rfl) (fun _ _ _ h => h) (Or.inl ⟨by rfl, ?_⟩) hHeld ?_
  rotate_left
  focus (intro w hSw; (try dsimp only at hSw); go_simp; try with_reducible rfl)
  try simp only [List.setIfInBounds_toArray, List.set_cons_zero, List.set_cons_succ]
  refine wpAnyH_takeD 5 (v := ?_) rfl rfl (by kernel_rfl) (by kernel_rfl) (by kernel_rfl) (fun _ _ _ h => h) (Or.inl ⟨by rfl, ?_⟩) hHeld ?_
  rotate_left
  focus (intro w hSw; (try dsimp only at hSw); go_simp; try with_reducible rfl)
  try simp only [List.setIfInBounds_toArray, List.set_cons_zero, List.set_cons_succ]
  refine wpAnyH_done (by kernel_rfl) ?_ _
  clear hHeld
  have HF := Lib.hid (show Fr (fun g => S0 g ∨ g = gt) w w2 from Fr.of_below S.out.low)
  clear hq q
  obtain ⟨q, hq⟩ : ∃ q, p = q := ⟨_, rfl⟩
  subst hq
  have hk3 := (S.out.fact 1 rfl).cell (i := 3) rfl
  have hk4 := (S.out.fact 1 rfl).cell (i := 4) rfl
  have hk5 := (S.out.fact 1 rfl).cell (i := 5) rfl
  cases h with
  | true =>
    have HQ := Lib.hid (tidy_keep HF.out (S.out.fact 3 rfl) (S.out.fact 2 rfl) (S.out.fact 1 rfl) HD.out.1 HD.out.2.1 HD.out.2.2.1 (S.out.fact 0 rfl) (.inl rfl))
    rw [HE.out.1, HE.out.2.1 (.inl rfl)] at HQ
    clear S HE HD HF
    unfold ptr at HQ
    go_wp2_with fail
    go_ret
    exact HQ.out
  | false =>
    rcases kid_val (S.out.fact 3 rfl) with ⟨hLn, rfl⟩ | ⟨hLn, gl, rfl⟩
    · rcases kid_val (S.out.fact 2 rfl) with ⟨hRn, rfl⟩ | ⟨hRn, gr, rfl⟩
      · skip
        have hcN : ¬ (false = true ∨ (L.isNil = false ∧ R.isNil = false)) := by simp [hLn, hRn]
        obtain ⟨hw1, hw2, hw3⟩ := HE.out.2.2 hcN
        have hne : g ≠ gt := HD.out.2.2.2.1
        have g2 := (S.out.fact 0 rfl).cell (i := 2) rfl
        have gf2 := (S.out.fact 0 rfl).frozen (i := 2)
        have hwN : IntKind.i64.wrap ((N : Int) - 1) = ((N - 1 : Nat) : Int) := (IntWalk.i64_in _ (by omega)).trans (by omega)
        obtain ⟨y1, hy1⟩ : ∃ y1, w2.setCell ⟨gt, 2, none⟩ (.int .i64 ((N - 1 : Nat) : Int)) = y1 := ⟨_, rfl⟩
        have G1 : Blk y1 gt (trC r0 R0 (N - 1)) trT := by rw [← hy1]; exact (S.out.fact 0 rfl).set_ 2 _
        have B1 : Blk y1 g (ndC p x false (.pointer none) (.pointer none)) ndT := by rw [← hy1]; exact (S.out.fact 1 rfl).far (p := ⟨gt, 2, none⟩) hne _
        have F1 : Fr (fun g => g = gt) w2 y1 := by rw [← hy1]; exact Fr.set _ ⟨gt, 2, none⟩ _ rfl
        have HQ := Lib.hid (fun W' (hb : Below y1.heap.size y1 W') => tidy_drop (q := p) (x := x) (v := .pointer none) HF.out (S.out.fact 3 rfl) (S.out.fact 2 rfl) HD.out.2.1 HD.out.2.2.1 HD.out.2.2.2.2 (F1.trans (Fr.of_below hb) (fun _ h => h) (fun _ h => .inl h)) (G1.step hb) hcN (by simp [hLn]))
        rw [HE.out.1, hw1] at HQ
        have T := Lib.hid ((Sr.start y1).push (stb_blk g _ _) B1)
        generalize N - 1 = N1 at hwN hy1
        clear G1 B1 F1 S HE HD HF hw1 hw2 hw3 hcN hLn hRn
        go_wp2_with fail
        clear g2 gf2 hk3 hk4 hk5 hwN
        replace T := Lib.hid T.out.drew
        have d4 := (T.out.fact 0 rfl).cell (i := 4) rfl
        refine wp_region_held_drew (S := fun W' => W'.cell? ⟨g, 4, none⟩ = some (.pointer none) ∧ W'.cell? ⟨g, 5, none⟩ = some (.pointer none)) (by kernel_rfl) ⟨(T.out.fact 0 rfl).cell (i := 4) rfl, (T.out.fact 0 rfl).cell (i := 5) rfl⟩ (fun hHeld => ?_)
        generalize y1.drew = y2 at T hHeld d4 ⊢
        clear d4
        refine wpAnyH_takeD 0 (v := ?_) rfl rfl (by kernel_rfl) (by kernel_rfl) (by kernel_rfl) (fun _ _ _ h => h) (Or.inl ⟨by rfl, ?_⟩) hHeld ?_
        rotate_left
        focus (intro w hSw; (try dsimp only at hSw); go_simp; try with_reducible rfl)
        try simp only [List.setIfInBounds_toArray, List.set_cons_zero, List.set_cons_succ]
        refine wpAnyH_takeD 1 (v := ?_) rfl rfl (by kernel_rfl) (by kernel_rfl) (by kernel_rfl) (fun _ _ _ h => h) (Or.inl ⟨by rfl, ?_⟩) hHeld ?_
        rotate_left
        focus (intro w hSw; (try dsimp only at hSw); go_simp; try with_reducible rfl)
        try simp only [List.setIfInBounds_toArray, List.set_cons_zero, List.set_cons_succ]
        refine wpAnyH_takeD 2 (v := ?_) rfl rfl (by kernel_rfl) (by kernel_rfl) (by kernel_rfl) (fun _ _ _ h => h) (Or.inl ⟨by rfl, ?_⟩) hHeld ?_
        rotate_left
        focus (intro w hSw; (try dsimp only at hSw); go_simp; try with_reducible rfl)
        try simp only [List.setIfInBounds_toArray, List.set_cons_zero, List.set_cons_succ]
        refine wpAnyH_takeD 3 (v := ?_) rfl rfl (by kernel_rfl) (by kernel_rfl) (by kernel_rfl) (fun _ _ _ h => h) (Or.inl ⟨by rfl, ?_⟩) hHeld ?_
        rotate_left
        focus (intro w hSw; (try dsimp only at hSw); go_simp; try with_reducible rfl)
        try simp only [List.setIfInBounds_toArray, List.set_cons_zero, List.set_cons_succ]
        refine wpAnyH_takeD 4 (v := ?_) rfl rfl (by kernel_rfl) (by kernel_rfl) (by kernel_rfl) (fun _ _ _ h => h) (Or.inl ⟨by rfl, ?_⟩) hHeld ?_
        rotate_left
        focus (intro w hSw; (try dsimp only at hSw); go_simp; try with_reducible rfl)
        try simp only [List.setIfInBounds_toArray, List.set_cons_zero, List.set_cons_succ]
        refine wpAnyH_takeD 5 (v := ?_) rfl rfl (by kernel_rfl) (by kernel_rfl) (by kernel_rfl) (fun _ _ _ h => h) (Or.inl ⟨by rfl, ?_⟩) hHeld ?_
        rotate_left
        focus (intro w hSw; (try dsimp only at hSw); go_simp; try with_reducible rfl)
        try simp only [List.setIfInBounds_toArray, List.set_cons_zero, List.set_cons_succ]
        refine wpAnyH_takeD 6 (v := ?_) rfl rfl (by kernel_rfl) (by kernel_rfl) (by kernel_rfl) (fun _ _ _ h => h) (Or.inl ⟨by rfl, ?_⟩) hHeld ?_
        rotate_left
        focus (intro w hSw; (try dsimp only at hSw); go_simp; try with_reducible rfl)
        try simp only [List.setIfInBounds_toArray, List.set_cons_zero, List.set_cons_succ]
        refine wpAnyH_takeD 7 (v := ?_) rfl rfl (by kernel_rfl) (by kernel_rfl) (by kernel_rfl) (fun _ _ _ h => h) (Or.inl ⟨by rfl, ?_⟩) hHeld ?_
        rotate_left
        focus (intro w hSw; (try dsimp only at hSw); go_simp; try with_reducible rfl)
        try simp only [List.setIfInBounds_toArray, List.set_cons_zero, List.set_cons_succ]
        refine wpAnyH_takeD 8 (v := ?_) rfl rfl (by kernel_rfl) (by kernel_rfl) (by kernel_rfl) (fun _ _ _ h => h) (Or.inl ⟨by rfl, ?_⟩) hHeld ?_
        rotate_left
        focus (intro w hSw; (try dsimp only at hSw); go_simp; try with_reducible rfl)
        try simp only [List.setIfInBounds_toArray, List.set_cons_zero, List.set_cons_succ]
        refine wpAnyH_takeD 9 (v := ?_) rfl rfl (by kernel_rfl) (by kernel_rfl) (by kernel_rfl) (fun _ _ _ h => h) (Or.inl ⟨by rfl, ?_⟩) hHeld ?_
        rotate_left
        focus (intro w hSw; (try dsimp only at hSw); go_simp; try with_reducible rfl)
        try simp only [List.setIfInBounds_toArray, List.set_cons_zero, List.set_cons_succ]
        refine wpAnyH_ready (rs := [10]) (by kernel_rfl) (by simp) ?_
        refine AllReadyH.cons rfl (fun K hK => ?_) AllReadyH.nil
        go_simp
        replace T := Lib.hid (T.out.alloc [.pointer none, .pointer none] 62)
        refine hK.out _ _ ⟨((T.out).fact 0 rfl).cell (i := 4) rfl, ((T.out).fact 0 rfl).cell (i := 5) rfl⟩ (fun hHeld => ?_)
        clear hK K
        generalize hx2 : y2.heap.size = x2 at T ⊢
        generalize World.alloc y2 _ = y3 at T hHeld ⊢
        clear hx2
        refine wpAnyH_ready (rs := [11]) (by kernel_rfl) (by simp) ?_
        refine AllReadyH.cons rfl (fun K hK => ?_) AllReadyH.nil
        go_simp
        refine (or_none (T.out.at 0 rfl)).mono ?_
        rintro e y4 ⟨rfl, rfl⟩
        refine hK.out _ _ ⟨((T.out).fact 0 rfl).cell (i := 4) rfl, ((T.out).fact 0 rfl).cell (i := 5) rfl⟩ (fun hHeld => ?_)
        clear hK K
        refine wpAnyH_takeD 12 (v := ?_) rfl rfl (by kernel_rfl) (by kernel_rfl) (by kernel_rfl) (fun _ _ _ h => h) (Or.inl ⟨by rfl, ?_⟩) hHeld ?_
        rotate_left
        focus (intro w hSw; (try dsimp only at hSw); go_simp; try with_reducible rfl)
        try simp only [List.setIfInBounds_toArray, List.set_cons_zero, List.set_cons_succ]
        refine wpAnyH_done (by kernel_rfl) ?_ _
        clear hHeld
        go_wp2_with fail
        go_ret
        exact HQ.out _ T.out.low
      · skip
        have hcN : ¬ (false = true ∨ (L.isNil = false ∧ R.isNil = false)) := by simp [hLn, hRn]
        obtain ⟨hw1, hw2, hw3⟩ := HE.out.2.2 hcN
        have hne : g ≠ gt := HD.out.2.2.2.1
        have g2 := (S.out.fact 0 rfl).cell (i := 2) rfl
        have gf2 := (S.out.fact 0 rfl).frozen (i := 2)
        have hwN : IntKind.i64.wrap ((N : Int) - 1) = ((N - 1 : Nat) : Int) := (IntWalk.i64_in _ (by omega)).trans (by omega)
        obtain ⟨y1, hy1⟩ : ∃ y1, w2.setCell ⟨gt, 2, none⟩ (.int .i64 ((N - 1 : Nat) : Int)) = y1 := ⟨_, rfl⟩
        have G1 : Blk y1 gt (trC r0 R0 (N - 1)) trT := by rw [← hy1]; exact (S.out.fact 0 rfl).set_ 2 _
        have B1 : Blk y1 g (ndC p x false (.pointer none) (.pointer (some ⟨gr, 0, none⟩))) ndT := by rw [← hy1]; exact (S.out.fact 1 rfl).far (p := ⟨gt, 2, none⟩) hne _
        have F1 : Fr (fun g => g = gt) w2 y1 := by rw [← hy1]; exact Fr.set _ ⟨gt, 2, none⟩ _ rfl
        have HQ := Lib.hid (fun W' (hb : Below y1.heap.size y1 W') => tidy_drop (q := p) (x := x) (v := .pointer (some ⟨gr, 0, none⟩)) HF.out (S.out.fact 3 rfl) (S.out.fact 2 rfl) HD.out.2.1 HD.out.2.2.1 HD.out.2.2.2.2 (F1.trans (Fr.of_below hb) (fun _ h => h) (fun _ h => .inl h)) (G1.step hb) hcN (by simp [hLn]))
        rw [HE.out.1, hw1] at HQ
        have T := Lib.hid ((Sr.start y1).push (stb_blk g _ _) B1)
        generalize N - 1 = N1 at hwN hy1
        clear G1 B1 F1 S HE HD HF hw1 hw2 hw3 hcN hLn hRn
        go_wp2_with fail
        clear g2 gf2 hk3 hk4 hk5 hwN
        replace T := Lib.hid T.out.drew
        have d4 := (T.out.fact 0 rfl).cell (i := 4) rfl
        refine wp_region_held_drew (S := fun W' => W'.cell? ⟨g, 4, none⟩ = some (.pointer none) ∧ W'.cell? ⟨g, 5, none⟩ = some (.pointer (some ⟨gr, 0, none⟩))) (by kernel_rfl) ⟨(T.out.fact 0 rfl).cell (i := 4) rfl, (T.out.fact 0 rfl).cell (i := 5) rfl⟩ (fun hHeld => ?_)
        generalize y1.drew = y2 at T hHeld d4 ⊢
        clear d4
        refine wpAnyH_takeD 0 (v := ?_) rfl rfl (by kernel_rfl) (by kernel_rfl) (by kernel_rfl) (fun _ _ _ h => h) (Or.inl ⟨by rfl, ?_⟩) hHeld ?_
        rotate_left
        focus (intro w hSw; (try dsimp only at hSw); go_simp; try with_reducible rfl)
        try simp only [List.setIfInBounds_toArray, List.set_cons_zero, List.set_cons_succ]
        refine wpAnyH_takeD 1 (v := ?_) rfl rfl (by kernel_rfl) (by kernel_rfl) (by kernel_rfl) (fun _ _ _ h => h) (Or.inl ⟨by rfl, ?_⟩) hHeld ?_
        rotate_left
        focus (intro w hSw; (try dsimp only at hSw); go_simp; try with_reducible rfl)
        try simp only [List.setIfInBounds_toArray, List.set_cons_zero, List.set_cons_succ]
        refine wpAnyH_takeD 2 (v := ?_) rfl rfl (by kernel_rfl) (by kernel_rfl) (by kernel_rfl) (fun _ _ _ h => h) (Or.inl ⟨by rfl, ?_⟩) hHeld ?_
        rotate_left
        focus (intro w hSw; (try dsimp only at hSw); go_simp; try with_reducible rfl)
        try simp only [List.setIfInBounds_toArray, List.set_cons_zero, List.set_cons_succ]
        refine wpAnyH_takeD 3 (v := ?_) rfl rfl (by kernel_rfl) (by kernel_rfl) (by kernel_rfl) (fun _ _ _ h => h) (Or.inl ⟨by rfl, ?_⟩) hHeld ?_
        rotate_left
        focus (intro w hSw; (try dsimp only at hSw); go_simp; try with_reducible rfl)
        try simp only [List.setIfInBounds_toArray, List.set_cons_zero, List.set_cons_succ]
        refine wpAnyH_takeD 4 (v := ?_) rfl rfl (by kernel_rfl) (by kernel_rfl) (by kernel_rfl) (fun _ _ _ h => h) (Or.inl ⟨by rfl, ?_⟩) hHeld ?_
        rotate_left
        focus (intro w hSw; (try dsimp only at hSw); go_simp; try with_reducible rfl)
        try simp only [List.setIfInBounds_toArray, List.set_cons_zero, List.set_cons_succ]
        refine wpAnyH_takeD 5 (v := ?_) rfl rfl (by kernel_rfl) (by kernel_rfl) (by kernel_rfl) (fun _ _ _ h => h) (Or.inl ⟨by rfl, ?_⟩) hHeld ?_
        rotate_left
        focus (intro w hSw; (try dsimp only at hSw); go_simp; try with_reducible rfl)
        try simp only [List.setIfInBounds_toArray, List.set_cons_zero, List.set_cons_succ]
        refine wpAnyH_takeD 6 (v := ?_) rfl rfl (by kernel_rfl) (by kernel_rfl) (by kernel_rfl) (fun _ _ _ h => h) (Or.inl ⟨by rfl, ?_⟩) hHeld ?_
        rotate_left
        focus (intro w hSw; (try dsimp only at hSw); go_simp; try with_reducible rfl)
        try simp only [List.setIfInBounds_toArray, List.set_cons_zero, List.set_cons_succ]
        refine wpAnyH_takeD 7 (v := ?_) rfl rfl (by kernel_rfl) (by kernel_rfl) (by kernel_rfl) (fun _ _ _ h => h) (Or.inl ⟨by rfl, ?_⟩) hHeld ?_
        rotate_left
        focus (intro w hSw; (try dsimp only at hSw); go_simp; try with_reducible rfl)
        try simp only [List.setIfInBounds_toArray, List.set_cons_zero, List.set_cons_succ]
        refine wpAnyH_takeD 8 (v := ?_) rfl rfl (by kernel_rfl) (by kernel_rfl) (by kernel_rfl) (fun _ _ _ h => h) (Or.inl ⟨by rfl, ?_⟩) hHeld ?_
        rotate_left
        focus (intro w hSw; (try dsimp only at hSw); go_simp; try with_reducible rfl)
        try simp only [List.setIfInBounds_toArray, List.set_cons_zero, List.set_cons_succ]
        refine wpAnyH_takeD 9 (v := ?_) rfl rfl (by kernel_rfl) (by kernel_rfl) (by kernel_rfl) (fun _ _ _ h => h) (Or.inl ⟨by rfl, ?_⟩) hHeld ?_
        rotate_left
        focus (intro w hSw; (try dsimp only at hSw); go_simp; try with_reducible rfl)
        try simp only [List.setIfInBounds_toArray, List.set_cons_zero, List.set_cons_succ]
        refine wpAnyH_ready (rs := [10]) (by kernel_rfl) (by simp) ?_
        refine AllReadyH.cons rfl (fun K hK => ?_) AllReadyH.nil
        go_simp
        replace T := Lib.hid (T.out.alloc [.pointer none, .pointer (some ⟨gr, 0, none⟩)] 62)
        refine hK.out _ _ ⟨((T.out).fact 0 rfl).cell (i := 4) rfl, ((T.out).fact 0 rfl).cell (i := 5) rfl⟩ (fun hHeld => ?_)
        clear hK K
        generalize hx2 : y2.heap.size = x2 at T ⊢
        generalize World.alloc y2 _ = y3 at T hHeld ⊢
        clear hx2
        refine wpAnyH_ready (rs := [11]) (by kernel_rfl) (by simp) ?_
        refine AllReadyH.cons rfl (fun K hK => ?_) AllReadyH.nil
        go_simp
        refine (or_second (T.out.at 0 rfl)).mono ?_
        rintro e y4 ⟨rfl, rfl⟩
        refine hK.out _ _ ⟨((T.out).fact 0 rfl).cell (i := 4) rfl, ((T.out).fact 0 rfl).cell (i := 5) rfl⟩ (fun hHeld => ?_)
        clear hK K
        refine wpAnyH_takeD 12 (v := ?_) rfl rfl (by kernel_rfl) (by kernel_rfl) (by kernel_rfl) (fun _ _ _ h => h) (Or.inl ⟨by rfl, ?_⟩) hHeld ?_
        rotate_left
        focus (intro w hSw; (try dsimp only at hSw); go_simp; try with_reducible rfl)
        try simp only [List.setIfInBounds_toArray, List.set_cons_zero, List.set_cons_succ]
        refine wpAnyH_done (by kernel_rfl) ?_ _
        clear hHeld
        go_wp2_with fail
        go_ret
        exact HQ.out _ T.out.low
    · rcases kid_val (S.out.fact 2 rfl) with ⟨hRn, rfl⟩ | ⟨hRn, gr, rfl⟩
      · skip
        have hcN : ¬ (false = true ∨ (L.isNil = false ∧ R.isNil = false)) := by simp [hLn, hRn]
        obtain ⟨hw1, hw2, hw3⟩ := HE.out.2.2 hcN
        have hne : g ≠ gt := HD.out.2.2.2.1
        have g2 := (S.out.fact 0 rfl).cell (i := 2) rfl
        have gf2 := (S.out.fact 0 rfl).frozen (i := 2)
        have hwN : IntKind.i64.wrap ((N : Int) - 1) = ((N - 1 : Nat) : Int) := (IntWalk.i64_in _ (by omega)).trans (by omega)
        obtain ⟨y1, hy1⟩ : ∃ y1, w2.setCell ⟨gt, 2, none⟩ (.int .i64 ((N - 1 : Nat) : Int)) = y1 := ⟨_, rfl⟩
        have G1 : Blk y1 gt (trC r0 R0 (N - 1)) trT := by rw [← hy1]; exact (S.out.fact 0 rfl).set_ 2 _
        have B1 : Blk y1 g (ndC p x false (.pointer (some ⟨gl, 0, none⟩)) (.pointer none)) ndT := by rw [← hy1]; exact (S.out.fact 1 rfl).far (p := ⟨gt, 2, none⟩) hne _
        have F1 : Fr (fun g => g = gt) w2 y1 := by rw [← hy1]; exact Fr.set _ ⟨gt, 2, none⟩ _ rfl
        have HQ := Lib.hid (fun W' (hb : Below y1.heap.size y1 W') => tidy_drop (q := p) (x := x) (v := .pointer (some ⟨gl, 0, none⟩)) HF.out (S.out.fact 3 rfl) (S.out.fact 2 rfl) HD.out.2.1 HD.out.2.2.1 HD.out.2.2.2.2 (F1.trans (Fr.of_below hb) (fun _ h => h) (fun _ h => .inl h)) (G1.step hb) hcN (by simp [hLn]))
        rw [HE.out.1, hw1] at HQ
        have T := Lib.hid ((Sr.start y1).push (stb_blk g _ _) B1)
        generalize N - 1 = N1 at hwN hy1
        clear G1 B1 F1 S HE HD HF hw1 hw2 hw3 hcN hLn hRn
        go_wp2_with fail
        clear g2 gf2 hk3 hk4 hk5 hwN
        replace T := Lib.hid T.out.drew
        have d4 := (T.out.fact 0 rfl).cell (i := 4) rfl
        refine wp_region_held_drew (S := fun W' => W'.cell? ⟨g, 4, none⟩ = some (.pointer (some ⟨gl, 0, none⟩)) ∧ W'.cell? ⟨g, 5, none⟩ = some (.pointer none)) (by kernel_rfl) ⟨(T.out.fact 0 rfl).cell (i := 4) rfl, (T.out.fact 0 rfl).cell (i := 5) rfl⟩ (fun hHeld => ?_)
        generalize y1.drew = y2 at T hHeld d4 ⊢
        clear d4
        refine wpAnyH_takeD 0 (v := ?_) rfl rfl (by kernel_rfl) (by kernel_rfl) (by kernel_rfl) (fun _ _ _ h => h) (Or.inl ⟨by rfl, ?_⟩) hHeld ?_
        rotate_left
        focus (intro w hSw; (try dsimp only at hSw); go_simp; try with_reducible rfl)
        try simp only [List.setIfInBounds_toArray, List.set_cons_zero, List.set_cons_succ]
        refine wpAnyH_takeD 1 (v := ?_) rfl rfl (by kernel_rfl) (by kernel_rfl) (by kernel_rfl) (fun _ _ _ h => h) (Or.inl ⟨by rfl, ?_⟩) hHeld ?_
        rotate_left
        focus (intro w hSw; (try dsimp only at hSw); go_simp; try with_reducible rfl)
        try simp only [List.setIfInBounds_toArray, List.set_cons_zero, List.set_cons_succ]
        refine wpAnyH_takeD 2 (v := ?_) rfl rfl (by kernel_rfl) (by kernel_rfl) (by kernel_rfl) (fun _ _ _ h => h) (Or.inl ⟨by rfl, ?_⟩) hHeld ?_
        rotate_left
        focus (intro w hSw; (try dsimp only at hSw); go_simp; try with_reducible rfl)
        try simp only [List.setIfInBounds_toArray, List.set_cons_zero, List.set_cons_succ]
        refine wpAnyH_takeD 3 (v := ?_) rfl rfl (by kernel_rfl) (by kernel_rfl) (by kernel_rfl) (fun _ _ _ h => h) (Or.inl ⟨by rfl, ?_⟩) hHeld ?_
        rotate_left
        focus (intro w hSw; (try dsimp only at hSw); go_simp; try with_reducible rfl)
        try simp only [List.setIfInBounds_toArray, List.set_cons_zero, List.set_cons_succ]
        refine wpAnyH_takeD 4 (v := ?_) rfl rfl (by kernel_rfl) (by kernel_rfl) (by kernel_rfl) (fun _ _ _ h => h) (Or.inl ⟨by rfl, ?_⟩) hHeld ?_
        rotate_left
        focus (intro w hSw; (try dsimp only at hSw); go_simp; try with_reducible rfl)
        try simp only [List.setIfInBounds_toArray, List.set_cons_zero, List.set_cons_succ]
        refine wpAnyH_takeD 5 (v := ?_) rfl rfl (by kernel_rfl) (by kernel_rfl) (by kernel_rfl) (fun _ _ _ h => h) (Or.inl ⟨by rfl, ?_⟩) hHeld ?_
        rotate_left
        focus (intro w hSw; (try dsimp only at hSw); go_simp; try with_reducible rfl)
        try simp only [List.setIfInBounds_toArray, List.set_cons_zero, List.set_cons_succ]
        refine wpAnyH_takeD 6 (v := ?_) rfl rfl (by kernel_rfl) (by kernel_rfl) (by kernel_rfl) (fun _ _ _ h => h) (Or.inl ⟨by rfl, ?_⟩) hHeld ?_
        rotate_left
        focus (intro w hSw; (try dsimp only at hSw); go_simp; try with_reducible rfl)
        try simp only [List.setIfInBounds_toArray, List.set_cons_zero, List.set_cons_succ]
        refine wpAnyH_takeD 7 (v := ?_) rfl rfl (by kernel_rfl) (by kernel_rfl) (by kernel_rfl) (fun _ _ _ h => h) (Or.inl ⟨by rfl, ?_⟩) hHeld ?_
        rotate_left
        focus (intro w hSw; (try dsimp only at hSw); go_simp; try with_reducible rfl)
        try simp only [List.setIfInBounds_toArray, List.set_cons_zero, List.set_cons_succ]
        refine wpAnyH_takeD 8 (v := ?_) rfl rfl (by kernel_rfl) (by kernel_rfl) (by kernel_rfl) (fun _ _ _ h => h) (Or.inl ⟨by rfl, ?_⟩) hHeld ?_
        rotate_left
        focus (intro w hSw; (try dsimp only at hSw); go_simp; try with_reducible rfl)
        try simp only [List.setIfInBounds_toArray, List.set_cons_zero, List.set_cons_succ]
        refine wpAnyH_takeD 9 (v := ?_) rfl rfl (by kernel_rfl) (by kernel_rfl) (by kernel_rfl) (fun _ _ _ h => h) (Or.inl ⟨by rfl, ?_⟩) hHeld ?_
        rotate_left
        focus (intro w hSw; (try dsimp only at hSw); go_simp; try with_reducible rfl)
        try simp only [List.setIfInBounds_toArray, List.set_cons_zero, List.set_cons_succ]
        refine wpAnyH_ready (rs := [10]) (by kernel_rfl) (by simp) ?_
        refine AllReadyH.cons rfl (fun K hK => ?_) AllReadyH.nil
        go_simp
        replace T := Lib.hid (T.out.alloc [.pointer (some ⟨gl, 0, none⟩), .pointer none] 62)
        refine hK.out _ _ ⟨((T.out).fact 0 rfl).cell (i := 4) rfl, ((T.out).fact 0 rfl).cell (i := 5) rfl⟩ (fun hHeld => ?_)
        clear hK K
        generalize hx2 : y2.heap.size = x2 at T ⊢
        generalize World.alloc y2 _ = y3 at T hHeld ⊢
        clear hx2
        refine wpAnyH_ready (rs := [11]) (by kernel_rfl) (by simp) ?_
        refine AllReadyH.cons rfl (fun K hK => ?_) AllReadyH.nil
        go_simp
        refine (or_first (T.out.at 0 rfl)).mono ?_
        rintro e y4 ⟨rfl, rfl⟩
        refine hK.out _ _ ⟨((T.out).fact 0 rfl).cell (i := 4) rfl, ((T.out).fact 0 rfl).cell (i := 5) rfl⟩ (fun hHeld => ?_)
        clear hK K
        refine wpAnyH_takeD 12 (v := ?_) rfl rfl (by kernel_rfl) (by kernel_rfl) (by kernel_rfl) (fun _ _ _ h => h) (Or.inl ⟨by rfl, ?_⟩) hHeld ?_
        rotate_left
        focus (intro w hSw; (try dsimp only at hSw); go_simp; try with_reducible rfl)
        try simp only [List.setIfInBounds_toArray, List.set_cons_zero, List.set_cons_succ]
        refine wpAnyH_done (by kernel_rfl) ?_ _
        clear hHeld
        go_wp2_with fail
        go_ret
        exact HQ.out _ T.out.low
      · skip
        have HQ := Lib.hid (tidy_keep HF.out (S.out.fact 3 rfl) (S.out.fact 2 rfl) (S.out.fact 1 rfl) HD.out.1 HD.out.2.1 HD.out.2.2.1 (S.out.fact 0 rfl) (.inr ⟨hLn, hRn⟩))
        rw [HE.out.1, HE.out.2.1 (.inr ⟨hLn, hRn⟩)] at HQ
        clear S HE HD HF
        unfold ptr at HQ
        go_wp2_with fail
        go_ret
        exact HQ.out

end Go.Proofs.Ytamkegnnlbefdaa
