/- Contract of package trie: tidy, a step down. -/
import Derived.Test.YtamkegnnlbefdaaTrU
namespace Go.Proofs.Ytamkegnnlbefdaa
open Go.RowKit

set_option maxRecDepth 100000 in
set_option maxHeartbeats 8000000 in
theorem tidy_left {w : World} {p q : Px} {x : Int} {h : Bool} {L R L1 T' : Tr} {v r0 : Value} {S0 : Nat → Prop} {gt R0 N0 N Nf : Nat} (hne : q ≠ p) (hq32 : q.2 ≤ 32) (hd : dir p.1 q.2 = false) (HA : At (.node q x h L1 R) w v S0) (HG : Blk w gt (trC r0 R0 N0) trT) (hS : ¬ S0 gt) (hlt : ∀ g, S0 g → g < w.heap.size)
    (HK : ∀ (W : World) (kv : Value) (Sk : Nat → Prop), At L1 W kv Sk → Blk W gt (trC r0 R0 N0) trT → ¬ Sk gt → (∀ g, Sk g → g < W.heap.size) → Calls Try.prog 47 #[ptr gt, kv, pv p.1 p.2] W (TdQ W gt L Sk r0 R0 N)) (hE : TE q x h L R T' N Nf) :
    Calls Try.prog 47 #[ptr gt, v, pv p.1 p.2] w (TdQ w gt T' S0 r0 R0 Nf) := by
  obtain ⟨g, a0, b, Sl, Sr_, rfl, hg, hb, hL, hR, d1, d2⟩ := HA
  obtain ⟨w1, hw1, S⟩ : ∃ w1, w.alloc (.cells #[.int .u32 (p.1 : Int), .int .i64 (p.2 : Int)] 35) = w1 ∧ Hid (Sr w [fun W => Blk W gt (trC r0 R0 N0) trT, fun W => Blk W g (ndC q x h a0 b) ndT, fun W => At R W b Sr_, fun W => At L1 W a0 Sl] [(w.heap.size, [.int .u32 (p.1 : Int), .int .i64 (p.2 : Int)], 35)] w1) :=
    ⟨_, rfl, (((((Sr.start w).push (stb_at _ _ _) hL).push (stb_at _ _ _) hR).push (stb_blk g _ _) hb).push (stb_blk gt _ _) HG).alloc [.int .u32 (p.1 : Int), .int .i64 (p.2 : Int)] 35⟩
  have HD := Lib.hid (show S0 g ∧ (∀ k, Sl k → S0 k ∧ k ≠ g) ∧ (∀ k, Sr_ k → S0 k ∧ k ≠ g ∧ ¬ Sl k) ∧ g ≠ gt ∧ ¬ S0 gt from ⟨hg, d1, d2, fun e => hS (e ▸ hg), hS⟩)
  have HZ := Lib.hid (show (∀ g, S0 g → g < w.heap.size) ∧ gt < w.heap.size from ⟨hlt, HG.lt⟩)
  have HNE := Lib.hid hne
  have HK' := Lib.hid HK
  have HE := Lib.hid hE
  have hTw := Lib.hid (fun W (hb : Blk W g (ndC q x h a0 b) ndT) => toward_any p.1 hb hq32)
  rw [hd] at hTw
  unfold TE at HE
  unfold kidAt at hTw
  simp only [Bool.false_eq_true, if_false] at hTw
  clear hg d1 d2 hS hE hL hR hb HG HK hne hd hlt
  unfold ptr at hTw HK' ⊢
  go_enter Try.func47, Try.ntmps47
  go_wp2_with fail
  clear hw1
  refine wp_region_held_drew (S := fun W' => W'.cell? ⟨g, 0, none⟩ = some (.int .u32 (q.1 : Int)) ∧ W'.cell? ⟨g, 1, none⟩ = some (.int .i64 (q.2 : Int)) ∧ W'.cell? ⟨w.heap.size, 0, none⟩ = some (.int .u32 (p.1 : Int)) ∧ W'.cell? ⟨w.heap.size, 1, none⟩ = some (.int .i64 (p.2 : Int))) (by kernel_rfl) ⟨(((S.out.drew)).fact 1 rfl).cell (i := 0) rfl, (((S.out.drew)).fact 1 rfl).cell (i := 1) rfl, (((S.out.drew)).at 0 rfl).cell (i := 0) rfl, (((S.out.drew)).at 0 rfl).cell (i := 1) rfl⟩ (fun hHeld => ?_)
  replace S := Lib.hid S.out.drew
  generalize w1.drew = w2 at S hHeld ⊢
  refine wpAnyH_takeD 0 (v := ?_) rfl rfl (by kernel_rfl) (by kernel_rfl) (by kernel_rfl) (fun _ _ _ h => h) (Or.inl ⟨by rfl, ?_⟩) hHeld ?_
  rotate_left
  focus (intro w hSw; (try dsimp only at hSw); go_simp; try with_reducible rfl)
  try simp only [List.setIfInBounds_toArray, List.set_cons_zero, List.set_cons_succ]
  refine wpAnyH_takeD 1 (v := ?_) rfl rfl (by kernel_rfl) (by kernel_rfl) (by kernel_rfl) (fun _ _ _ h => h) (Or.inl ⟨by rfl, ?_⟩) hHeld ?_
  rotate_left
  focus (intro w hSw; (try dsimp only at hSw); go_simp; try with_reducible rfl)
  try simp only [List.setIfInBounds_toArray, List.set_cons_zero, List.set_cons_succ]
  refine wpAnyH_takeD 2 (v := ?_) rfl rfl (by kernel_rfl) (by kernel_rfl) (by kernel_rfl) (fun _ _ _ h => h) (Or.inl ⟨by rfl, ?_⟩) hHeld ?_
  rotate_left
  focus (intro w hSw; (try dsimp only at hSw); go_simp; try with_reducible rfl)
  try simp only [List.setIfInBounds_toArray, List.set_cons_zero, List.set_cons_succ]
  refine wpAnyH_takeD 3 (v := ?_) rfl rfl (by kernel_rfl) (by kernel_rfl) (by kernel_rfl) (fun _ _ _ h => h) (Or.inl ⟨by rfl, ?_⟩) hHeld ?_
  rotate_left
  focus (intro w hSw; (try dsimp only at hSw); go_simp; try with_reducible rfl)
  try simp only [List.setIfInBounds_toArray, List.set_cons_zero, List.set_cons_succ]
  refine wpAnyH_takeD 4 (v := ?_) rfl rfl (by kernel_rfl) (by kernel_rfl) (by kernel_rfl) (fun _ _ _ h => h) (Or.inl ⟨by rfl, ?_⟩) hHeld ?_
  rotate_left
  focus (intro w hSw; (try dsimp only at hSw); go_simp; try with_reducible rfl)
  try simp only [List.setIfInBounds_toArray, List.set_cons_zero, List.set_cons_succ]
  refine wpAnyH_takeD 5 (v := .bool true) rfl rfl (by kernel_rfl) (by kernel_rfl) (by kernel_rfl) (fun _ _ _ h => h) (Or.inl ⟨by rfl, ?_⟩) hHeld ?_
  · intro w hSw
    go_simp
    exact fun e1 e2 => HNE.out (Prod.ext (by omega) (by omega))
  simp only [List.setIfInBounds_toArray, List.set_cons_zero, List.set_cons_succ]
  refine wpAnyH_done (by kernel_rfl) ?_ _
  clear hHeld
  have c0x0 := (S.out.at 0 rfl).cell (i := 0) rfl
  have c0x1 := (S.out.at 0 rfl).cell (i := 1) rfl
  go_wp2_with fail
  refine (hTw.out _ (S.out.fact 1 rfl)).mono ?_
  rintro e w3 ⟨rfl, hb⟩
  replace S := Lib.hid (S.out.below hb)
  clear hb hTw c0x0 c0x1
  go_wp2_with fail
  refine wp_region_held_drew (S := fun W' => W'.cell? ⟨w.heap.size, 0, none⟩ = some (.int .u32 (p.1 : Int)) ∧ W'.cell? ⟨w.heap.size, 1, none⟩ = some (.int .i64 (p.2 : Int))) (by kernel_rfl) ⟨(((S.out.drew)).at 0 rfl).cell (i := 0) rfl, (((S.out.drew)).at 0 rfl).cell (i := 1) rfl⟩ (fun hHeld => ?_)
  replace S := Lib.hid S.out.drew
  generalize w3.drew = w4 at S hHeld ⊢
  refine wpAnyH_takeD 0 (v := ?_) rfl rfl (by kernel_rfl) (by kernel_rfl) (by kernel_rfl) (fun _ _ _ h => h) (Or.inl ⟨by rfl, ?_⟩) hHeld ?_
  rotate_left
  focus (intro w hSw; (try dsimp only at hSw); go_simp; try with_reducible rfl)
  try simp only [List.setIfInBounds_toArray, List.set_cons_zero, List.set_cons_succ]
  refine wpAnyH_takeD 1 (v := ?_) rfl rfl (by kernel_rfl) (by kernel_rfl) (by kernel_rfl) (fun _ _ _ h => h) (Or.inl ⟨by rfl, ?_⟩) hHeld ?_
  rotate_left
  focus (intro w hSw; (try dsimp only at hSw); go_simp; try with_reducible rfl)
  try simp only [List.setIfInBounds_toArray, List.set_cons_zero, List.set_cons_succ]
  refine wpAnyH_takeD 2 (v := ?_) rfl rfl (by kernel_rfl) (by kernel_rfl) (by kernel_rfl) (fun _ _ _ h => h) (Or.inl ⟨by rfl, ?_⟩) hHeld ?_
  rotate_left
  focus (intro w hSw; (try dsimp only at hSw); go_simp; try with_reducible rfl)
  try simp only [List.setIfInBounds_toArray, List.set_cons_zero, List.set_cons_succ]
  refine wpAnyH_takeD 3 (v := ?_) rfl rfl (by kernel_rfl) (by kernel_rfl) (by kernel_rfl) (fun _ _ _ h => h) (Or.inl ⟨by rfl, ?_⟩) hHeld ?_
  rotate_left
  focus (intro w hSw; (try dsimp only at hSw); go_simp; try with_reducible rfl)
  try simp only [List.setIfInBounds_toArray, List.set_cons_zero, List.set_cons_succ]
  refine wpAnyH_takeD 5 (v := ?_) rfl rfl (by kernel_rfl) (by kernel_rfl) (by kernel_rfl) (fun _ _ _ h => h) (Or.inl ⟨by rfl, ?_⟩) hHeld ?_
  rotate_left
  focus (intro w hSw; (try dsimp only at hSw); go_simp; try with_reducible rfl)
  try simp only [List.setIfInBounds_toArray, List.set_cons_zero, List.set_cons_succ]
  have ck := (S.out.fact 1 rfl).cell (i := 4) rfl
  refine wpAnyH_ready (rs := [4]) (by kernel_rfl) (by simp) ?_
  refine AllReadyH.cons rfl (fun K hK => ?_) AllReadyH.nil
  go_simp
  refine hK.out _ _ ⟨(((S.out)).at 0 rfl).cell (i := 0) rfl, (((S.out)).at 0 rfl).cell (i := 1) rfl⟩ (fun hHeld => ?_)
  clear hK K
  clear ck
  refine wpAnyH_ready (rs := [6]) (by kernel_rfl) (by simp) ?_
  refine AllReadyH.cons rfl (fun K hK => ?_) AllReadyH.nil
  go_simp
  refine (HK'.out _ _ Sl (S.out.fact 3 rfl) (S.out.fact 0 rfl) (fun e => HD.out.2.2.2.2 (HD.out.2.1 _ e).1) (fun k hk => Nat.lt_of_lt_of_le (HZ.out.1 k (HD.out.2.1 k hk).1) S.out.low.size)).mono ?_
  rintro e w5 ⟨z, rfl, hz, hG, hfr⟩
  obtain ⟨o, rfl⟩ : ∃ o, z = .pointer o := by rcases kid_val hz with ⟨_, h1⟩ | ⟨_, g1, h1⟩ <;> exact ⟨_, h1⟩
  have hxs := (S.out.at 0 rfl).lt
  have hng : ∀ k, (Sl k ∨ k = gt) → k ≠ g ∧ k ≠ w.heap.size := fun k hk => by
    rcases hk with hk | rfl
    · exact ⟨(HD.out.2.1 k hk).2, fun e => by have := HZ.out.1 k (HD.out.2.1 k hk).1; omega⟩
    · exact ⟨fun e => HD.out.2.2.2.1 e.symm, fun e => by have := HZ.out.2; omega⟩
  have hbx : Blk w5 w.heap.size [.int .u32 (p.1 : Int), .int .i64 (p.2 : Int)] 35 := (S.out.at 0 rfl).same (hfr.block _ hxs (fun e => (hng _ e).2 rfl))
  have hbg : Blk w5 g (ndC q x h a0 b) ndT := Blk.same (S.out.fact 1 rfl) (hfr.block _ (Blk.lt (S.out.fact 1 rfl)) (fun e => (hng _ e).1 rfl))
  have hot : At R w5 b Sr_ := At.keep (S.out.fact 2 rfl) (fun k hk hl => hfr.block k hl (fun e => e.elim (fun e => (HD.out.2.2.1 k hk).2.2 e) (fun e => HD.out.2.2.2.2 (e ▸ (HD.out.2.2.1 k hk).1))))
  have hf5 := Lib.hid ((Fr.of_below S.out.low (S := fun g => S0 g ∨ g = gt)).trans hfr (fun _ h => h) (fun k hk => .inl (hk.imp (fun hk => (HD.out.2.1 k hk).1) id)))
  have T := Lib.hid (((((Sr.start w5).push (stb_at _ _ _) hz).push (stb_at _ _ _) hot).push (stb_blk w.heap.size _ _) hbx).push (stb_blk gt _ _) hG |>.push (stb_blk g _ _) hbg)
  have HX := Lib.hid (show w.heap.size ≠ g from fun e => by have := HZ.out.1 g HD.out.1; omega)
  clear hz hG hfr hxs hng hbx hbg hot S HK'
  obtain ⟨S, hST⟩ : ∃ S, S = T := ⟨_, rfl⟩
  clear hST T
  refine hK.out _ _ ⟨((S.out).fact 2 rfl).cell (i := 0) rfl, ((S.out).fact 2 rfl).cell (i := 1) rfl⟩ (fun hHeld => ?_)
  clear hK K
  refine wpAnyH_takeD 7 (v := ?_) rfl rfl (by kernel_rfl) (by kernel_rfl) (by kernel_rfl) (fun _ _ _ h => h) (Or.inl ⟨by rfl, ?_⟩) hHeld ?_
  rotate_left
  focus (intro w hSw; (try dsimp only at hSw); go_simp; try with_reducible rfl)
  try simp only [List.setIfInBounds_toArray, List.set_cons_zero, List.set_cons_succ]
  have ck := (S.out.fact 0 rfl).cell (i := 4) rfl
  have fk := (S.out.fact 0 rfl).frozen (i := 4)
  refine wpAnyH_ready (rs := [8]) (by kernel_rfl) (by simp) ?_
  refine AllReadyH.cons rfl (fun K hK => ?_) AllReadyH.nil
  go_simp
  clear ck fk
  have hgs := fun k (hk : Sl k) => (HD.out.2.1 k hk).2
  have hgr := fun k (hk : Sr_ k) => (HD.out.2.2.1 k hk).2.1
  have B6 : Blk (w5.setCell ⟨g, 4, none⟩ (.pointer o)) g (ndC q x h (.pointer o) b) ndT := (S.out.fact 0 rfl).set_ 4 (.pointer o)
  have G6 : Blk (w5.setCell ⟨g, 4, none⟩ (.pointer o)) gt (trC r0 R0 N) trT := (S.out.fact 1 rfl).far (p := ⟨g, 4, none⟩) HD.out.2.2.2.1.symm _
  have X6 : Blk (w5.setCell ⟨g, 4, none⟩ (.pointer o)) w.heap.size [.int .u32 (p.1 : Int), .int .i64 (p.2 : Int)] 35 := (S.out.fact 2 rfl).far (p := ⟨g, 4, none⟩) HX.out _
  have L6 : At L (w5.setCell ⟨g, 4, none⟩ (.pointer o)) (.pointer o) Sl := At.keep (S.out.fact 4 rfl) (fun k hk _ => Below.heap_setCell w5 ⟨g, 4, none⟩ (.pointer o) k (hgs k hk))
  have R6 : At R (w5.setCell ⟨g, 4, none⟩ (.pointer o)) b Sr_ := At.keep (S.out.fact 3 rfl) (fun k hk _ => Below.heap_setCell w5 ⟨g, 4, none⟩ (.pointer o) k (hgr k hk))
  have HF := Lib.hid (hf5.out.trans (Fr.set w5 ⟨g, 4, none⟩ (.pointer o) (S := fun k => S0 k ∨ k = gt) (.inl HD.out.1)) (fun _ h => h) (fun _ h => .inl h))
  generalize World.setCell w5 _ _ = w6 at B6 G6 X6 L6 R6 HF ⊢
  have T := Lib.hid ((((((Sr.start w6).push (stb_blk w.heap.size _ _) X6).push (stb_at _ _ _) L6).push (stb_at _ _ _) R6).push (stb_blk g _ _) B6).push (stb_blk gt _ _) G6)
  clear B6 G6 X6 L6 R6 hf5 S hgs hgr
  obtain ⟨S, hST⟩ : ∃ S, S = T := ⟨_, rfl⟩
  clear hST T
  refine hK.out _ _ ⟨((S.out).fact 4 rfl).cell (i := 0) rfl, ((S.out).fact 4 rfl).cell (i := 1) rfl⟩ (fun hHeld => ?_)
  clear hK K
  refine wpAnyH_done (by kernel_rfl) ?_ _
  clear hHeld
  generalize Value.pointer o = a at S
  have hk3 := (S.out.fact 1 rfl).cell (i := 3) rfl
  have hk4 := (S.out.fact 1 rfl).cell (i := 4) rfl
  have hk5 := (S.out.fact 1 rfl).cell (i := 5) rfl
  cases h with
  | true =>
    have HQ := Lib.hid (tidy_keep HF.out (S.out.fact 3 rfl) (S.out.fact 2 rfl) (S.out.fact 1 rfl) HD.out.1 HD.out.2.1 HD.out.2.2.1 (S.out.fact 0 rfl) (.inl rfl))
    rw [HE.out.1, HE.out.2.1 (.inl rfl)] at HQ
    clear S HE HD HF
    unfold ptr at HQ
    go_wp2_with fail
    go_ret
    exact HQ.out
  | false =>
    rcases kid_val (S.out.fact 3 rfl) with ⟨hLn, rfl⟩ | ⟨hLn, gl, rfl⟩
    · rcases kid_val (S.out.fact 2 rfl) with ⟨hRn, rfl⟩ | ⟨hRn, gr, rfl⟩
      · skip
        have hcN : ¬ (false = true ∨ (L.isNil = false ∧ R.isNil = false)) := by simp [hLn, hRn]
        obtain ⟨hw1, hw2, hw3⟩ := HE.out.2.2 hcN
        have hne : g ≠ gt := HD.out.2.2.2.1
        have g2 := (S.out.fact 0 rfl).cell (i := 2) rfl
        have gf2 := (S.out.fact 0 rfl).frozen (i := 2)
        have hwN : IntKind.i64.wrap ((N : Int) - 1) = ((N - 1 : Nat) : Int) := (IntWalk.i64_in _ (by omega)).trans (by omega)
        obtain ⟨y1, hy1⟩ : ∃ y1, w6.setCell ⟨gt, 2, none⟩ (.int .i64 ((N - 1 : Nat) : Int)) = y1 := ⟨_, rfl⟩
        have G1 : Blk y1 gt (trC r0 R0 (N - 1)) trT := by rw [← hy1]; exact (S.out.fact 0 rfl).set_ 2 _
        have B1 : Blk y1 g (ndC q x false (.pointer none) (.pointer none)) ndT := by rw [← hy1]; exact (S.out.fact 1 rfl).far (p := ⟨gt, 2, none⟩) hne _
        have F1 : Fr (fun g => g = gt) w6 y1 := by rw [← hy1]; exact Fr.set _ ⟨gt, 2, none⟩ _ rfl
        have HQ := Lib.hid (fun W' (hb : Below y1.heap.size y1 W') => tidy_drop (q := q) (x := x) (v := .pointer none) HF.out (S.out.fact 3 rfl) (S.out.fact 2 rfl) HD.out.2.1 HD.out.2.2.1 HD.out.2.2.2.2 (F1.trans (Fr.of_below hb) (fun _ h => h) (fun _ h => .inl h)) (G1.step hb) hcN (by simp [hLn]))
        rw [HE.out.1, hw1] at HQ
        have T := Lib.hid ((Sr.start y1).push (stb_blk g _ _) B1)
        generalize N - 1 = N1 at hwN hy1
        clear G1 B1 F1 S HE HD HF hw1 hw2 hw3 hcN hLn hRn
        go_wp2_with fail
        clear g2 gf2 hk3 hk4 hk5 hwN
        replace T := Lib.hid T.out.drew
        have d4 := (T.out.fact 0 rfl).cell (i := 4) rfl
        refine wp_region_held_drew (S := fun W' => W'.cell? ⟨g, 4, none⟩ = some (.pointer none) ∧ W'.cell? ⟨g, 5, none⟩ = some (.pointer none)) (by kernel_rfl) ⟨(T.out.fact 0 rfl).cell (i := 4) rfl, (T.out.fact 0 rfl).cell (i := 5) rfl⟩ (fun hHeld => ?_)
        generalize y1.drew = y2 at T hHeld d4 ⊢
        clear d4
        refine wpAnyH_takeD 0 (v := ?_) rfl rfl (by kernel_rfl) (by kernel_rfl) (by kernel_rfl) (fun _ _ _ h => h) (Or.inl ⟨by rfl, ?_⟩) hHeld ?_
        rotate_left
        focus (intro w hSw; (try dsimp only at hSw); go_simp; try with_reducible rfl)
        try simp only [List.setIfInBounds_toArray, List.set_cons_zero, List.set_cons_succ]
        refine wpAnyH_takeD 1 (v := ?_) rfl rfl (by kernel_rfl) (by kernel_rfl) (by kernel_rfl) (fun _ _ _ h => h) (Or.inl ⟨by rfl, ?_⟩) hHeld ?_
        rotate_left
        focus (intro w hSw; (try dsimp only at hSw); go_simp; try with_reducible rfl)
        try simp only [List.setIfInBounds_toArray, List.set_cons_zero, List.set_cons_succ]
        refine wpAnyH_takeD 2 (v := ?_) rfl rfl (by kernel_rfl) (by kernel_rfl) (by kernel_rfl) (fun _ _ _ h => h) (Or.inl ⟨by rfl, ?_⟩) hHeld ?_
        rotate_left
        focus (intro w hSw; (try dsimp only at hSw); go_simp; try with_reducible rfl)
        try simp only [List.setIfInBounds_toArray, List.set_cons_zero, List.set_cons_succ]
        refine wpAnyH_takeD 3 (v := ?_) rfl rfl (by kernel_rfl) (by kernel_rfl) (by kernel_rfl) (fun _ _ _ h => h) (Or.inl ⟨by rfl, ?_⟩) hHeld ?_
        rotate_left
        focus (intro w hSw; (try dsimp only at hSw); go_simp; try with_reducible rfl)
        try simp only [List.setIfInBounds_toArray, List.set_cons_zero, List.set_cons_succ]
        refine wpAnyH_takeD 4 (v := ?_) rfl rfl (by kernel_rfl) (by kernel_rfl) (by kernel_rfl) (fun _ _ _ h => h) (Or.inl ⟨by rfl, ?_⟩) hHeld ?_
        rotate_left
        focus (intro w hSw; (try dsimp only at hSw); go_simp; try with_reducible rfl)
        try simp only [List.setIfInBounds_toArray, List.set_cons_zero, List.set_cons_succ]
        refine wpAnyH_takeD 5 (v := ?_) rfl rfl (by kernel_rfl) (by kernel_rfl) (by kernel_rfl) (fun _ _ _ h => h) (Or.inl ⟨by rfl, ?_⟩) hHeld ?_
        rotate_left
        focus (intro w hSw; (try dsimp only at hSw); go_simp; try with_reducible rfl)
        try simp only [List.setIfInBounds_toArray, List.set_cons_zero, List.set_cons_succ]
        refine wpAnyH_takeD 6 (v := ?_) rfl rfl (by kernel_rfl) (by kernel_rfl) (by kernel_rfl) (fun _ _ _ h => h) (Or.inl ⟨by rfl, ?_⟩) hHeld ?_
        rotate_left
        focus (intro w hSw; (try dsimp only at hSw); go_simp; try with_reducible rfl)
        try simp only [List.setIfInBounds_toArray, List.set_cons_zero, List.set_cons_succ]
        refine wpAnyH_takeD 7 (v := ?_) rfl rfl (by kernel_rfl) (by kernel_rfl) (by kernel_rfl) (fun _ _ _ h => h) (Or.inl ⟨by rfl, ?_⟩) hHeld ?_
        rotate_left
        focus (intro w hSw; (try dsimp only at hSw); go_simp; try with_reducible rfl)
        try simp only [List.setIfInBounds_toArray, List.set_cons_zero, List.set_cons_succ]
        refine wpAnyH_takeD 8 (v := ?_) rfl rfl (by kernel_rfl) (by kernel_rfl) (by kernel_rfl) (fun _ _ _ h => h) (Or.inl ⟨by rfl, ?_⟩) hHeld ?_
        rotate_left
        focus (intro w hSw; (try dsimp only at hSw); go_simp; try with_reducible rfl)
        try simp only [List.setIfInBounds_toArray, List.set_cons_zero, List.set_cons_succ]
        refine wpAnyH_takeD 9 (v := ?_) rfl rfl (by kernel_rfl) (by kernel_rfl) (by kernel_rfl) (fun _ _ _ h => h) (Or.inl ⟨by rfl, ?_⟩) hHeld ?_
        rotate_left
        focus (intro w hSw; (try dsimp only at hSw); go_simp; try with_reducible rfl)
        try simp only [List.setIfInBounds_toArray, List.set_cons_zero, List.set_cons_succ]
        refine wpAnyH_ready (rs := [10]) (by kernel_rfl) (by simp) ?_
        refine AllReadyH.cons rfl (fun K hK => ?_) AllReadyH.nil
        go_simp
        replace T := Lib.hid (T.out.alloc [.pointer none, .pointer none] 62)
        refine hK.out _ _ ⟨((T.out).fact 0 rfl).cell (i := 4) rfl, ((T.out).fact 0 rfl).cell (i := 5) rfl⟩ (fun hHeld => ?_)
        clear hK K
        generalize hx2 : y2.heap.size = x2 at T ⊢
        generalize World.alloc y2 _ = y3 at T hHeld ⊢
        clear hx2
        refine wpAnyH_ready (rs := [11]) (by kernel_rfl) (by simp) ?_
        refine AllReadyH.cons rfl (fun K hK => ?_) AllReadyH.nil
        go_simp
        refine (or_none (T.out.at 0 rfl)).mono ?_
        rintro e y4 ⟨rfl, rfl⟩
        refine hK.out _ _ ⟨((T.out).fact 0 rfl).cell (i := 4) rfl, ((T.out).fact 0 rfl).cell (i := 5) rfl⟩ (fun hHeld => ?_)
        clear hK K
        refine wpAnyH_takeD 12 (v := ?_) rfl rfl (by kernel_rfl) (by kernel_rfl) (by kernel_rfl) (fun _ _ _ h => h) (Or.inl ⟨by rfl, ?_⟩) hHeld ?_
        rotate_left
        focus (intro w hSw; (try dsimp only at hSw); go_simp; try with_reducible rfl)
        try simp only [List.setIfInBounds_toArray, List.set_cons_zero, List.set_cons_succ]
        refine wpAnyH_done (by kernel_rfl) ?_ _
        clear hHeld
        go_wp2_with fail
        go_ret
        exact HQ.out _ T.out.low
      · skip
        have hcN : ¬ (false = true ∨ (L.isNil = false ∧ R.isNil = false)) := by simp [hLn, hRn]
        obtain ⟨hw1, hw2, hw3⟩ := HE.out.2.2 hcN
        have hne : g ≠ gt := HD.out.2.2.2.1
        have g2 := (S.out.fact 0 rfl).cell (i := 2) rfl
        have gf2 := (S.out.fact 0 rfl).frozen (i := 2)
        have hwN : IntKind.i64.wrap ((N : Int) - 1) = ((N - 1 : Nat) : Int) := (IntWalk.i64_in _ (by omega)).trans (by omega)
        obtain ⟨y1, hy1⟩ : ∃ y1, w6.setCell ⟨gt, 2, none⟩ (.int .i64 ((N - 1 : Nat) : Int)) = y1 := ⟨_, rfl⟩
        have G1 : Blk y1 gt (trC r0 R0 (N - 1)) trT := by rw [← hy1]; exact (S.out.fact 0 rfl).set_ 2 _
        have B1 : Blk y1 g (ndC q x false (.pointer none) (.pointer (some ⟨gr, 0, none⟩))) ndT := by rw [← hy1]; exact (S.out.fact 1 rfl).far (p := ⟨gt, 2, none⟩) hne _
        have F1 : Fr (fun g => g = gt) w6 y1 := by rw [← hy1]; exact Fr.set _ ⟨gt, 2, none⟩ _ rfl
        have HQ := Lib.hid (fun W' (hb : Below y1.heap.size y1 W') => tidy_drop (q := q) (x := x) (v := .pointer (some ⟨gr, 0, none⟩)) HF.out (S.out.fact 3 rfl) (S.out.fact 2 rfl) HD.out.2.1 HD.out.2.2.1 HD.out.2.2.2.2 (F1.trans (Fr.of_below hb) (fun _ h => h) (fun _ h => .inl h)) (G1.step hb) hcN (by simp [hLn]))
        rw [HE.out.1, hw1] at HQ
        have T := Lib.hid ((Sr.start y1).push (stb_blk g _ _) B1)
        generalize N - 1 = N1 at hwN hy1
        clear G1 B1 F1 S HE HD HF hw1 hw2 hw3 hcN hLn hRn
        go_wp2_with fail
        clear g2 gf2 hk3 hk4 hk5 hwN
        replace T := Lib.hid T.out.drew
        have d4 := (T.out.fact 0 rfl).cell (i := 4) rfl
        refine wp_region_held_drew (S := fun W' => W'.cell? ⟨g, 4, none⟩ = some (.pointer none) ∧ W'.cell? ⟨g, 5, none⟩ = some (.pointer (some ⟨gr, 0, none⟩))) (by kernel_rfl) ⟨(T.out.fact 0 rfl).cell (i := 4) rfl, (T.out.fact 0 rfl).cell (i := 5) rfl⟩ (fun hHeld => ?_)
        generalize y1.drew = y2 at T hHeld d4 ⊢
        clear d4
        refine wpAnyH_takeD 0 (v := ?_) rfl rfl (by kernel_rfl) (by kernel_rfl) (by kernel_rfl) (fun _ _ _ h => h) (Or.inl ⟨by rfl, ?_⟩) hHeld ?_
        rotate_left
        focus (intro w hSw; (try dsimp only at hSw); go_simp; try with_reducible rfl)
        try simp only [List.setIfInBounds_toArray, List.set_cons_zero, List.set_cons_succ]
        refine wpAnyH_takeD 1 (v := ?_) rfl rfl (by kernel_rfl) (by kernel_rfl) (by kernel_rfl) (fun _ _ _ h => h) (Or.inl ⟨by rfl, ?_⟩) hHeld ?_
        rotate_left
        focus (intro w hSw; (try dsimp only at hSw); go_simp; try with_reducible rfl)
        try simp only [List.setIfInBounds_toArray, List.set_cons_zero, List.set_cons_succ]
        refine wpAnyH_takeD 2 (v := ?_) rfl rfl (by kernel_rfl) (by kernel_rfl) (by kernel_rfl) (fun _ _ _ h => h) (Or.inl ⟨by rfl, ?_⟩) hHeld ?_
        rotate_left
        focus (intro w hSw; (try dsimp only at hSw); go_simp; try with_reducible rfl)
        try simp only [List.setIfInBounds_toArray, List.set_cons_zero, List.set_cons_succ]
        refine wpAnyH_takeD 3 (v := ?_) rfl rfl (by kernel_rfl) (by kernel_rfl) (by kernel_rfl) (fun _ _ _ h => h) (Or.inl ⟨by rfl, ?_⟩) hHeld ?_
        rotate_left
        focus (intro w hSw; (try dsimp only at hSw); go_simp; try with_reducible rfl)
        try simp only [List.setIfInBounds_toArray, List.set_cons_zero, List.set_cons_succ]
        refine wpAnyH_takeD 4 (v := ?_) rfl rfl (by kernel_rfl) (by kernel_rfl) (by kernel_rfl) (fun _ _ _ h => h) (Or.inl ⟨by rfl, ?_⟩) hHeld ?_
        rotate_left
        focus (intro w hSw; (try dsimp only at hSw); go_simp; try with_reducible rfl)
        try simp only [List.setIfInBounds_toArray, List.set_cons_zero, List.set_cons_succ]
        refine wpAnyH_takeD 5 (v := ?_) rfl rfl (by kernel_rfl) (by kernel_rfl) (by kernel_rfl) (fun _ _ _ h => h) (Or.inl ⟨by rfl, ?_⟩) hHeld ?_
        rotate_left
        focus (intro w hSw; (try dsimp only at hSw); go_simp; try with_reducible rfl)
        try simp only [List.setIfInBounds_toArray, List.set_cons_zero, List.set_cons_succ]
        refine wpAnyH_takeD 6 (v := ?_) rfl rfl (by kernel_rfl) (by kernel_rfl) (by kernel_rfl) (fun _ _ _ h => h) (Or.inl ⟨by rfl, ?_⟩) hHeld ?_
        rotate_left
        focus (intro w hSw; (try dsimp only at hSw); go_simp; try with_reducible rfl)
        try simp only [List.setIfInBounds_toArray, List.set_cons_zero, List.set_cons_succ]
        refine wpAnyH_takeD 7 (v := ?_) rfl rfl (by kernel_rfl) (by kernel_rfl) (by kernel_rfl) (fun _ _ _ h => h) (Or.inl ⟨by rfl, ?_⟩) hHeld ?_
        rotate_left
        focus (intro w hSw; (try dsimp only at hSw); go_simp; try with_reducible rfl)
        try simp only [List.setIfInBounds_toArray, List.set_cons_zero, List.set_cons_succ]
        refine wpAnyH_takeD 8 (v := ?_) rfl rfl (by kernel_rfl) (by kernel_rfl) (by kernel_rfl) (fun _ _ _ h => h) (Or.inl ⟨by rfl, ?_⟩) hHeld ?_
        rotate_left
        focus (intro w hSw; (try dsimp only at hSw); go_simp; try with_reducible rfl)
        try simp only [List.setIfInBounds_toArray, List.set_cons_zero, List.set_cons_succ]
        refine wpAnyH_takeD 9 (v := ?_) rfl rfl (by kernel_rfl) (by kernel_rfl) (by kernel_rfl) (fun _ _ _ h => h) (Or.inl ⟨by rfl, ?_⟩) hHeld ?_
        rotate_left
        focus (intro w hSw; (try dsimp only at hSw); go_simp; try with_reducible rfl)
        try simp only [List.setIfInBounds_toArray, List.set_cons_zero, List.set_cons_succ]
        refine wpAnyH_ready (rs := [10]) (by kernel_rfl) (by simp) ?_
        refine AllReadyH.cons rfl (fun K hK => ?_) AllReadyH.nil
        go_simp
        replace T := Lib.hid (T.out.alloc [.pointer none, .pointer (some ⟨gr, 0, none⟩)] 62)
        refine hK.out _ _ ⟨((T.out).fact 0 rfl).cell (i := 4) rfl, ((T.out).fact 0 rfl).cell (i := 5) rfl⟩ (fun hHeld => ?_)
        clear hK K
        generalize hx2 : y2.heap.size = x2 at T ⊢
        generalize World.alloc y2 _ = y3 at T hHeld ⊢
        clear hx2
        refine wpAnyH_ready (rs := [11]) (by kernel_rfl) (by simp) ?_
        refine AllReadyH.cons rfl (fun K hK => ?_) AllReadyH.nil
        go_simp
        refine (or_second (T.out.at 0 rfl)).mono ?_
        rintro e y4 ⟨rfl, rfl⟩
        refine hK.out _ _ ⟨((T.out).fact 0 rfl).cell (i := 4) rfl, ((T.out).fact 0 rfl).cell (i := 5) rfl⟩ (fun hHeld => ?_)
        clear hK K
        refine wpAnyH_takeD 12 (v := ?_) rfl rfl (by kernel_rfl) (by kernel_rfl) (by kernel_rfl) (fun _ _ _ h => h) (Or.inl ⟨by rfl, ?_⟩) hHeld ?_
        rotate_left
        focus (intro w hSw; (try dsimp only at hSw); go_simp; try with_reducible rfl)
        try simp only [List.setIfInBounds_toArray, List.set_cons_zero, List.set_cons_succ]
        refine wpAnyH_done (by kernel_rfl) ?_ _
        clear hHeld
        go_wp2_with fail
        go_ret
        exact HQ.out _ T.out.low
    · rcases kid_val (S.out.fact 2 rfl) with ⟨hRn, rfl⟩ | ⟨hRn, gr, rfl⟩
      · skip
        have hcN : ¬ (false = true ∨ (L.isNil = false ∧ R.isNil = false)) := by simp [hLn, hRn]
        obtain ⟨hw1, hw2, hw3⟩ := HE.out.2.2 hcN
        have hne : g ≠ gt := HD.out.2.2.2.1
        have g2 := (S.out.fact 0 rfl).cell (i := 2) rfl
        have gf2 := (S.out.fact 0 rfl).frozen (i := 2)
        have hwN : IntKind.i64.wrap ((N : Int) - 1) = ((N - 1 : Nat) : Int) := (IntWalk.i64_in _ (by omega)).trans (by omega)
        obtain ⟨y1, hy1⟩ : ∃ y1, w6.setCell ⟨gt, 2, none⟩ (.int .i64 ((N - 1 : Nat) : Int)) = y1 := ⟨_, rfl⟩
        have G1 : Blk y1 gt (trC r0 R0 (N - 1)) trT := by rw [← hy1]; exact (S.out.fact 0 rfl).set_ 2 _
        have B1 : Blk y1 g (ndC q x false (.pointer (some ⟨gl, 0, none⟩)) (.pointer none)) ndT := by rw [← hy1]; exact (S.out.fact 1 rfl).far (p := ⟨gt, 2, none⟩) hne _
        have F1 : Fr (fun g => g = gt) w6 y1 := by rw [← hy1]; exact Fr.set _ ⟨gt, 2, none⟩ _ rfl
        have HQ := Lib.hid (fun W' (hb : Below y1.heap.size y1 W') => tidy_drop (q := q) (x := x) (v := .pointer (some ⟨gl, 0, none⟩)) HF.out (S.out.fact 3 rfl) (S.out.fact 2 rfl) HD.out.2.1 HD.out.2.2.1 HD.out.2.2.2.2 (F1.trans (Fr.of_below hb) (fun _ h => h) (fun _ h => .inl h)) (G1.step hb) hcN (by simp [hLn]))
        rw [HE.out.1, hw1] at HQ
        have T := Lib.hid ((Sr.start y1).push (stb_blk g _ _) B1)
        generalize N - 1 = N1 at hwN hy1
        clear G1 B1 F1 S HE HD HF hw1 hw2 hw3 hcN hLn hRn
        go_wp2_with fail
        clear g2 gf2 hk3 hk4 hk5 hwN
        replace T := Lib.hid T.out.drew
        have d4 := (T.out.fact 0 rfl).cell (i := 4) rfl
        refine wp_region_held_drew (S := fun W' => W'.cell? ⟨g, 4, none⟩ = some (.pointer (some ⟨gl, 0, none⟩)) ∧ W'.cell? ⟨g, 5, none⟩ = some (.pointer none)) (by kernel_rfl) ⟨(T.out.fact 0 rfl).cell (i := 4) rfl, (T.out.fact 0 rfl).cell (i := 5) rfl⟩ (fun hHeld => ?_)
        generalize y1.drew = y2 at T hHeld d4 ⊢
        clear d4
        refine wpAnyH_takeD 0 (v := ?_) rfl rfl (by kernel_rfl) (by kernel_rfl) (by kernel_rfl) (fun _ _ _ h => h) (Or.inl ⟨by rfl, ?_⟩) hHeld ?_
        rotate_left
        focus (intro w hSw; (try dsimp only at hSw); go_simp; try with_reducible rfl)
        try simp only [List.setIfInBounds_toArray, List.set_cons_zero, List.set_cons_succ]
        refine wpAnyH_takeD 1 (v := ?_) rfl rfl (by kernel_rfl) (by kernel_rfl) (by kernel_rfl) (fun _ _ _ h => h) (Or.inl ⟨by rfl, ?_⟩) hHeld ?_
        rotate_left
        focus (intro w hSw; (try dsimp only at hSw); go_simp; try with_reducible rfl)
        try simp only [List.setIfInBounds_toArray, List.set_cons_zero, List.set_cons_succ]
        refine wpAnyH_takeD 2 (v := ?_) rfl rfl (by kernel_rfl) (by kernel_rfl) (by kernel_rfl) (fun _ _ _ h => h) (Or.inl ⟨by rfl, ?_⟩) hHeld ?_
        rotate_left
        focus (intro w hSw; (try dsimp only at hSw); go_simp; try with_reducible rfl)
        try simp only [List.setIfInBounds_toArray, List.set_cons_zero, List.set_cons_succ]
        refine wpAnyH_takeD 3 (v := ?_) rfl rfl (by kernel_rfl) (by kernel_rfl) (by kernel_rfl) (fun _ _ _ h => h) (Or.inl ⟨by rfl, ?_⟩) hHeld ?_
        rotate_left
        focus (intro w hSw; (try dsimp only at hSw); go_simp; try with_reducible rfl)
        try simp only [List.setIfInBounds_toArray, List.set_cons_zero, List.set_cons_succ]
        refine wpAnyH_takeD 4 (v := ?_) rfl rfl (by kernel_rfl) (by kernel_rfl) (by kernel_rfl) (fun _ _ _ h => h) (Or.inl ⟨by rfl, ?_⟩) hHeld ?_
        rotate_left
        focus (intro w hSw; (try dsimp only at hSw); go_simp; try with_reducible rfl)
        try simp only [List.setIfInBounds_toArray, List.set_cons_zero, List.set_cons_succ]
        refine wpAnyH_takeD 5 (v := ?_) rfl rfl (by kernel_rfl) (by kernel_rfl) (by kernel_rfl) (fun _ _ _ h => h) (Or.inl ⟨by rfl, ?_⟩) hHeld ?_
        rotate_left
        focus (intro w hSw; (try dsimp only at hSw); go_simp; try with_reducible rfl)
        try simp only [List.setIfInBounds_toArray, List.set_cons_zero, List.set_cons_succ]
        refine wpAnyH_takeD 6 (v := ?_) rfl rfl (by kernel_rfl) (by kernel_rfl) (by kernel_rfl) (fun _ _ _ h => h) (Or.inl ⟨by rfl, ?_⟩) hHeld ?_
        rotate_left
        focus (intro w hSw; (try dsimp only at hSw); go_simp; try with_reducible rfl)
        try simp only [List.setIfInBounds_toArray, List.set_cons_zero, List.set_cons_succ]
        refine wpAnyH_takeD 7 (v := ?_) rfl rfl (by kernel_rfl) (by kernel_rfl) (by kernel_rfl) (fun _ _ _ h => h) (Or.inl ⟨by rfl, ?_⟩) hHeld ?_
        rotate_left
        focus (intro w hSw; (try dsimp only at hSw); go_simp; try with_reducible rfl)
        try simp only [List.setIfInBounds_toArray, List.set_cons_zero, List.set_cons_succ]
        refine wpAnyH_takeD 8 (v := ?_) rfl rfl (by kernel_rfl) (by kernel_rfl) (by kernel_rfl) (fun _ _ _ h => h) (Or.inl ⟨by rfl, ?_⟩) hHeld ?_
        rotate_left
        focus (intro w hSw; (try dsimp only at hSw); go_simp; try with_reducible rfl)
        try simp only [List.setIfInBounds_toArray, List.set_cons_zero, List.set_cons_succ]
        refine wpAnyH_takeD 9 (v := ?_) rfl rfl (by kernel_rfl) (by kernel_rfl) (by kernel_rfl) (fun _ _ _ h => h) (Or.inl ⟨by rfl, ?_⟩) hHeld ?_
        rotate_left
        focus (intro w hSw; (try dsimp only at hSw); go_simp; try with_reducible rfl)
        try simp only [List.setIfInBounds_toArray, List.set_cons_zero, List.set_cons_succ]
        refine wpAnyH_ready (rs := [10]) (by kernel_rfl) (by simp) ?_
        refine AllReadyH.cons rfl (fun K hK => ?_) AllReadyH.nil
        go_simp
        replace T := Lib.hid (T.out.alloc [.pointer (some ⟨gl, 0, none⟩), .pointer none] 62)
        refine hK.out _ _ ⟨((T.out).fact 0 rfl).cell (i := 4) rfl, ((T.out).fact 0 rfl).cell (i := 5) rfl⟩ (fun hHeld => ?_)
        clear hK K
        generalize hx2 : y2.heap.size = x2 at T ⊢
        generalize World.alloc y2 _ = y3 at T hHeld ⊢
        clear hx2
        refine wpAnyH_ready (rs := [11]) (by kernel_rfl) (by simp) ?_
        refine AllReadyH.cons rfl (fun K hK => ?_) AllReadyH.nil
        go_simp
        refine (or_first (T.out.at 0 rfl)).mono ?_
        rintro e y4 ⟨rfl, rfl⟩
        refine hK.out _ _ ⟨((T.out).fact 0 rfl).cell (i := 4) rfl, ((T.out).fact 0 rfl).cell (i := 5) rfl⟩ (fun hHeld => ?_)
        clear hK K
        refine wpAnyH_takeD 12 (v := ?_) rfl rfl (by kernel_rfl) (by kernel_rfl) (by kernel_rfl) (fun _ _ _ h => h) (Or.inl ⟨by rfl, ?_⟩) hHeld ?_
        rotate_left
        focus (intro w hSw; (try dsimp only at hSw); go_simp; try with_reducible rfl)
        try simp only [List.setIfInBounds_toArray, List.set_cons_zero, List.set_cons_succ]
        refine wpAnyH_done (by kernel_rfl) ?_ _
        clear hHeld
        go_wp2_with fail
        go_ret
        exact HQ.out _ T.out.low
      · skip
        have HQ := Lib.hid (tidy_keep HF.out (S.out.fact 3 rfl) (S.out.fact 2 rfl) (S.out.fact 1 rfl) HD.out.1 HD.out.2.1 HD.out.2.2.1 (S.out.fact 0 rfl) (.inr ⟨hLn, hRn⟩))
        rw [HE.out.1, HE.out.2.1 (.inr ⟨hLn, hRn⟩)] at HQ
        clear S HE HD HF
        unfold ptr at HQ
        go_wp2_with fail
        go_ret
        exact HQ.out
set_option maxRecDepth 100000 in
set_option maxHeartbeats 8000000 in
theorem tidy_right {w : World} {p q : Px} {x : Int} {h : Bool} {L R R1 T' : Tr} {v r0 : Value} {S0 : Nat → Prop} {gt R0 N0 N Nf : Nat} (hne : q ≠ p) (hq32 : q.2 ≤ 32) (hd : dir p.1 q.2 = true) (HA : At (.node q x h L R1) w v S0) (HG : Blk w gt (trC r0 R0 N0) trT) (hS : ¬ S0 gt) (hlt : ∀ g, S0 g → g < w.heap.size)
    (HK : ∀ (W : World) (kv : Value) (Sk : Nat → Prop), At R1 W kv Sk → Blk W gt (trC r0 R0 N0) trT → ¬ Sk gt → (∀ g, Sk g → g < W.heap.size) → Calls Try.prog 47 #[ptr gt, kv, pv p.1 p.2] W (TdQ W gt R Sk r0 R0 N)) (hE : TE q x h L R T' N Nf) :
    Calls Try.prog 47 #[ptr gt, v, pv p.1 p.2] w (TdQ w gt T' S0 r0 R0 Nf) := by
  obtain ⟨g, a, b0, Sl, Sr_, rfl, hg, hb, hL, hR, d1, d2⟩ := HA
  obtain ⟨w1, hw1, S⟩ : ∃ w1, w.alloc (.cells #[.int .u32 (p.1 : Int), .int .i64 (p.2 : Int)] 35) = w1 ∧ Hid (Sr w [fun W => Blk W gt (trC r0 R0 N0) trT, fun W => Blk W g (ndC q x h a b0) ndT, fun W => At R1 W b0 Sr_, fun W => At L W a Sl] [(w.heap.size, [.int .u32 (p.1 : Int), .int .i64 (p.2 : Int)], 35)] w1) :=
    ⟨_, rfl, (((((Sr.start w).push (stb_at _ _ _) hL).push (stb_at _ _ _) hR).push (stb_blk g _ _) hb).push (stb_blk gt _ _) HG).alloc [.int .u32 (p.1 : Int), .int .i64 (p.2 : Int)] 35⟩
  have HD := Lib.hid (show S0 g ∧ (∀ k, Sl k → S0 k ∧ k ≠ g) ∧ (∀ k, Sr_ k → S0 k ∧ k ≠ g ∧ ¬ Sl k) ∧ g ≠ gt ∧ ¬ S0 gt from ⟨hg, d1, d2, fun e => hS (e ▸ hg), hS⟩)
  have HZ := Lib.hid (show (∀ g, S0 g → g < w.heap.size) ∧ gt < w.heap.size from ⟨hlt, HG.lt⟩)
  have HNE := Lib.hid hne
  have HK' := Lib.hid HK
  have HE := Lib.hid hE
  have hTw := Lib.hid (fun W (hb : Blk W g (ndC q x h a b0) ndT) => toward_any p.1 hb hq32)
  rw [hd] at hTw
  unfold TE at HE
  unfold kidAt at hTw
  simp only [if_true] at hTw
  clear hg d1 d2 hS hE hL hR hb HG HK hne hd hlt
  unfold ptr at hTw HK' ⊢
  go_enter Try.func47, Try.ntmps47
  go_wp2_with fail
  clear hw1
  refine wp_region_held_drew (S := fun W' => W'.cell? ⟨g, 0, none⟩ = some (.int .u32 (q.1 : Int)) ∧ W'.cell? ⟨g, 1, none⟩ = some (.int .i64 (q.2 : Int)) ∧ W'.cell? ⟨w.heap.size, 0, none⟩ = some (.int .u32 (p.1 : Int)) ∧ W'.cell? ⟨w.heap.size, 1, none⟩ = some (.int .i64 (p.2 : Int))) (by kernel_rfl) ⟨(((S.out.drew)).fact 1 rfl).cell (i := 0) rfl, (((S.out.drew)).fact 1 rfl).cell (i := 1) rfl, (((S.out.drew)).at 0 rfl).cell (i := 0) rfl, (((S.out.drew)).at 0 rfl).cell (i := 1) rfl⟩ (fun hHeld => ?_)
  replace S := Lib.hid S.out.drew
  generalize w1.drew = w2 at S hHeld ⊢
  refine wpAnyH_takeD 0 (v := ?_) rfl rfl (by kernel_rfl) (by kernel_rfl) (by kernel_rfl) (fun _ _ _ h => h) (Or.inl ⟨by rfl, ?_⟩) hHeld ?_
  rotate_left
  focus (intro w hSw; (try dsimp only at hSw); go_simp; try with_reducible rfl)
  try simp only [List.setIfInBounds_toArray, List.set_cons_zero, List.set_cons_succ]
  refine wpAnyH_takeD 1 (v := ?_) rfl rfl (by kernel_rfl) (by kernel_rfl) (by kernel_rfl) (fun _ _ _ h => h) (Or.inl ⟨by rfl, ?_⟩) hHeld ?_
  rotate_left
  focus (intro w hSw; (try dsimp only at hSw); go_simp; try with_reducible rfl)
  try simp only [List.setIfInBounds_toArray, List.set_cons_zero, List.set_cons_succ]
  refine wpAnyH_takeD 2 (v := ?_) rfl rfl (by kernel_rfl) (by kernel_rfl) (by kernel_rfl) (fun _ _ _ h => h) (Or.inl ⟨by rfl, ?_⟩) hHeld ?_
  rotate_left
  focus (intro w hSw; (try dsimp only at hSw); go_simp; try with_reducible rfl)
  try simp only [List.setIfInBounds_toArray, List.set_cons_zero, List.set_cons_succ]
  refine wpAnyH_takeD 3 (v := ?_) rfl rfl (by kernel_rfl) (by kernel_rfl) (by kernel_rfl) (fun _ _ _ h => h) (Or.inl ⟨by rfl, ?_⟩) hHeld ?_
  rotate_left
  focus (intro w hSw; (try dsimp only at hSw); go_simp; try with_reducible rfl)
  try simp only [List.setIfInBounds_toArray, List.set_cons_zero, List.set_cons_succ]
  refine wpAnyH_takeD 4 (v := ?_) rfl rfl (by kernel_rfl) (by kernel_rfl) (by kernel_rfl) (fun _ _ _ h => h) (Or.inl ⟨by rfl, ?_⟩) hHeld ?_
  rotate_left
  focus (intro w hSw; (try dsimp only at hSw); go_simp; try with_reducible rfl)
  try simp only [List.setIfInBounds_toArray, List.set_cons_zero, List.set_cons_succ]
  refine wpAnyH_takeD 5 (v := .bool true) rfl rfl (by kernel_rfl) (by kernel_rfl) (by kernel_rfl) (fun _ _ _ h => h) (Or.inl ⟨by rfl, ?_⟩) hHeld ?_
  · intro w hSw
    go_simp
    exact fun e1 e2 => HNE.out (Prod.ext (by omega) (by omega))
  simp only [List.setIfInBounds_toArray, List.set_cons_zero, List.set_cons_succ]
  refine wpAnyH_done (by kernel_rfl) ?_ _
  clear hHeld
  have c0x0 := (S.out.at 0 rfl).cell (i := 0) rfl
  have c0x1 := (S.out.at 0 rfl).cell (i := 1) rfl
  go_wp2_with fail
  refine (hTw.out _ (S.out.fact 1 rfl)).mono ?_
  rintro e w3 ⟨rfl, hb⟩
  replace S := Lib.hid (S.out.below hb)
  clear hb hTw c0x0 c0x1
  go_wp2_with fail
  refine wp_region_held_drew (S := fun W' => W'.cell? ⟨w.heap.size, 0, none⟩ = some (.int .u32 (p.1 : Int)) ∧ W'.cell? ⟨w.heap.size, 1, none⟩ = some (.int .i64 (p.2 : Int))) (by kernel_rfl) ⟨(((S.out.drew)).at 0 rfl).cell (i := 0) rfl, (((S.out.drew)).at 0 rfl).cell (i := 1) rfl⟩ (fun hHeld => ?_)
  replace S := Lib.hid S.out.drew
  generalize w3.drew = w4 at S hHeld ⊢
  refine wpAnyH_takeD 0 (v := ?_) rfl rfl (by kernel_rfl) (by kernel_rfl) (by kernel_rfl) (fun _ _ _ h => h) (Or.inl ⟨by rfl, ?_⟩) hHeld ?_
  rotate_left
  focus (intro w hSw; (try dsimp only at hSw); go_simp; try with_reducible rfl)
  try simp only [List.setIfInBounds_toArray, List.set_cons_zero, List.set_cons_succ]
  refine wpAnyH_takeD 1 (v := ?_) rfl rfl (by kernel_rfl) (by kernel_rfl) (by kernel_rfl) (fun _ _ _ h => h) (Or.inl ⟨by rfl, ?_⟩) hHeld ?_
  rotate_left
  focus (intro w hSw; (try dsimp only at hSw); go_simp; try with_reducible rfl)
  try simp only [List.setIfInBounds_toArray, List.set_cons_zero, List.set_cons_succ]
  refine wpAnyH_takeD 2 (v := ?_) rfl rfl (by kernel_rfl) (by kernel_rfl) (by kernel_rfl) (fun _ _ _ h => h) (Or.inl ⟨by rfl, ?_⟩) hHeld ?_
  rotate_left
  focus (intro w hSw; (try dsimp only at hSw); go_simp; try with_reducible rfl)
  try simp only [List.setIfInBounds_toArray, List.set_cons_zero, List.set_cons_succ]
  refine wpAnyH_takeD 3 (v := ?_) rfl rfl (by kernel_rfl) (by kernel_rfl) (by kernel_rfl) (fun _ _ _ h => h) (Or.inl ⟨by rfl, ?_⟩) hHeld ?_
  rotate_left
  focus (intro w hSw; (try dsimp only at hSw); go_simp; try with_reducible rfl)
  try simp only [List.setIfInBounds_toArray, List.set_cons_zero, List.set_cons_succ]
  refine wpAnyH_takeD 5 (v := ?_) rfl rfl (by kernel_rfl) (by kernel_rfl) (by kernel_rfl) (fun _ _ _ h => h) (Or.inl ⟨by rfl, ?_⟩) hHeld ?_
  rotate_left
  focus (intro w hSw; (try dsimp only at hSw); go_simp; try with_reducible rfl)
  try simp only [List.setIfInBounds_toArray, List.set_cons_zero, List.set_cons_succ]
  have ck := (S.out.fact 1 rfl).cell (i := 5) rfl
  refine wpAnyH_ready (rs := [4]) (by kernel_rfl) (by simp) ?_
  refine AllReadyH.cons rfl (fun K hK => ?_) AllReadyH.nil
  go_simp
  refine hK.out _ _ ⟨(((S.out)).at 0 rfl).cell (i := 0) rfl, (((S.out)).at 0 rfl).cell (i := 1) rfl⟩ (fun hHeld => ?_)
  clear hK K
  clear ck
  refine wpAnyH_ready (rs := [6]) (by kernel_rfl) (by simp) ?_
  refine AllReadyH.cons rfl (fun K hK => ?_) AllReadyH.nil
  go_simp
  refine (HK'.out _ _ Sr_ (S.out.fact 2 rfl) (S.out.fact 0 rfl) (fun e => HD.out.2.2.2.2 (HD.out.2.2.1 _ e).1) (fun k hk => Nat.lt_of_lt_of_le (HZ.out.1 k (HD.out.2.2.1 k hk).1) S.out.low.size)).mono ?_
  rintro e w5 ⟨z, rfl, hz, hG, hfr⟩
  obtain ⟨o, rfl⟩ : ∃ o, z = .pointer o := by rcases kid_val hz with ⟨_, h1⟩ | ⟨_, g1, h1⟩ <;> exact ⟨_, h1⟩
  have hxs := (S.out.at 0 rfl).lt
  have hng : ∀ k, (Sr_ k ∨ k = gt) → k ≠ g ∧ k ≠ w.heap.size := fun k hk => by
    rcases hk with hk | rfl
    · exact ⟨(HD.out.2.2.1 k hk).2.1, fun e => by have := HZ.out.1 k (HD.out.2.2.1 k hk).1; omega⟩
    · exact ⟨fun e => HD.out.2.2.2.1 e.symm, fun e => by have := HZ.out.2; omega⟩
  have hbx : Blk w5 w.heap.size [.int .u32 (p.1 : Int), .int .i64 (p.2 : Int)] 35 := (S.out.at 0 rfl).same (hfr.block _ hxs (fun e => (hng _ e).2 rfl))
  have hbg : Blk w5 g (ndC q x h a b0) ndT := Blk.same (S.out.fact 1 rfl) (hfr.block _ (Blk.lt (S.out.fact 1 rfl)) (fun e => (hng _ e).1 rfl))
  have hot : At L w5 a Sl := At.keep (S.out.fact 3 rfl) (fun k hk hl => hfr.block k hl (fun e => e.elim (fun e => (HD.out.2.2.1 k e).2.2 hk) (fun e => HD.out.2.2.2.2 (e ▸ (HD.out.2.1 k hk).1))))
  have hf5 := Lib.hid ((Fr.of_below S.out.low (S := fun g => S0 g ∨ g = gt)).trans hfr (fun _ h => h) (fun k hk => .inl (hk.imp (fun hk => (HD.out.2.2.1 k hk).1) id)))
  have T := Lib.hid (((((Sr.start w5).push (stb_at _ _ _) hot).push (stb_at _ _ _) hz).push (stb_blk w.heap.size _ _) hbx).push (stb_blk gt _ _) hG |>.push (stb_blk g _ _) hbg)
  have HX := Lib.hid (show w.heap.size ≠ g from fun e => by have := HZ.out.1 g HD.out.1; omega)
  clear hz hG hfr hxs hng hbx hbg hot S HK'
  obtain ⟨S, hST⟩ : ∃ S, S = T := ⟨_, rfl⟩
  clear hST T
  refine hK.out _ _ ⟨((S.out).fact 2 rfl).cell (i := 0) rfl, ((S.out).fact 2 rfl).cell (i := 1) rfl⟩ (fun hHeld => ?_)
  clear hK K
  refine wpAnyH_takeD 7 (v := ?_) rfl rfl (by kernel_rfl) (by kernel_rfl) (by kernel_rfl) (fun _ _ _ h => h) (Or.inl ⟨by rfl, ?_⟩) hHeld ?_
  rotate_left
  focus (intro w hSw; (try dsimp only at hSw); go_simp; try with_reducible rfl)
  try simp only [List.setIfInBounds_toArray, List.set_cons_zero, List.set_cons_succ]
  have ck := (S.out.fact 0 rfl).cell (i := 5) rfl
  have fk := (S.out.fact 0 rfl).frozen (i := 5)
  refine wpAnyH_ready (rs := [8]) (by kernel_rfl) (by simp) ?_
  refine AllReadyH.cons rfl (fun K hK => ?_) AllReadyH.nil
  go_simp
  clear ck fk
  have hgs := fun k (hk : Sl k) => (HD.out.2.1 k hk).2
  have hgr := fun k (hk : Sr_ k) => (HD.out.2.2.1 k hk).2.1
  have B6 : Blk (w5.setCell ⟨g, 5, none⟩ (.pointer o)) g (ndC q x h a (.pointer o)) ndT := (S.out.fact 0 rfl).set_ 5 (.pointer o)
  have G6 : Blk (w5.setCell ⟨g, 5, none⟩ (.pointer o)) gt (trC r0 R0 N) trT := (S.out.fact 1 rfl).far (p := ⟨g, 5, none⟩) HD.out.2.2.2.1.symm _
  have X6 : Blk (w5.setCell ⟨g, 5, none⟩ (.pointer o)) w.heap.size [.int .u32 (p.1 : Int), .int .i64 (p.2 : Int)] 35 := (S.out.fact 2 rfl).far (p := ⟨g, 5, none⟩) HX.out _
  have L6 : At L (w5.setCell ⟨g, 5, none⟩ (.pointer o)) a Sl := At.keep (S.out.fact 4 rfl) (fun k hk _ => Below.heap_setCell w5 ⟨g, 5, none⟩ (.pointer o) k (hgs k hk))
  have R6 : At R (w5.setCell ⟨g, 5, none⟩ (.pointer o)) (.pointer o) Sr_ := At.keep (S.out.fact 3 rfl) (fun k hk _ => Below.heap_setCell w5 ⟨g, 5, none⟩ (.pointer o) k (hgr k hk))
  have HF := Lib.hid (hf5.out.trans (Fr.set w5 ⟨g, 5, none⟩ (.pointer o) (S := fun k => S0 k ∨ k = gt) (.inl HD.out.1)) (fun _ h => h) (fun _ h => .inl h))
  generalize World.setCell w5 _ _ = w6 at B6 G6 X6 L6 R6 HF ⊢
  have T := Lib.hid ((((((Sr.start w6).push (stb_blk w.heap.size _ _) X6).push (stb_at _ _ _) L6).push (stb_at _ _ _) R6).push (stb_blk g _ _) B6).push (stb_blk gt _ _) G6)
  clear B6 G6 X6 L6 R6 hf5 S hgs hgr
  obtain ⟨S, hST⟩ : ∃ S, S = T := ⟨_, rfl⟩
  clear hST T
  refine hK.out _ _ ⟨((S.out).fact 4 rfl).cell (i := 0) rfl, ((S.out).fact 4 rfl).cell (i := 1) rfl⟩ (fun hHeld => ?_)
  clear hK K
  refine wpAnyH_done (by kernel_rfl) ?_ _
  clear hHeld
  generalize Value.pointer o = b at S
  have hk3 := (S.out.fact 1 rfl).cell (i := 3) rfl
  have hk4 := (S.out.fact 1 rfl).cell (i := 4) rfl
  have hk5 := (S.out.fact 1 rfl).cell (i := 5) rfl
  cases h with
  | true =>
    have HQ := Lib.hid (tidy_keep HF.out (S.out.fact 3 rfl) (S.out.fact 2 rfl) (S.out.fact 1 rfl) HD.out.1 HD.out.2.1 HD.out.2.2.1 (S.out.fact 0 rfl) (.inl rfl))
    rw [HE.out.1, HE.out.2.1 (.inl rfl)] at HQ
    clear S HE HD HF
    unfold ptr at HQ
    go_wp2_with fail
    go_ret
    exact HQ.out
  | false =>
    rcases kid_val (S.out.fact 3 rfl) with ⟨hLn, rfl⟩ | ⟨hLn, gl, rfl⟩
    · rcases kid_val (S.out.fact 2 rfl) with ⟨hRn, rfl⟩ | ⟨hRn, gr, rfl⟩
      · skip
        have hcN : ¬ (false = true ∨ (L.isNil = false ∧ R.isNil = false)) := by simp [hLn, hRn]
        obtain ⟨hw1, hw2, hw3⟩ := HE.out.2.2 hcN
        have hne : g ≠ gt := HD.out.2.2.2.1
        have g2 := (S.out.fact 0 rfl).cell (i := 2) rfl
        have gf2 := (S.out.fact 0 rfl).frozen (i := 2)
        have hwN : IntKind.i64.wrap ((N : Int) - 1) = ((N - 1 : Nat) : Int) := (IntWalk.i64_in _ (by omega)).trans (by omega)
        obtain ⟨y1, hy1⟩ : ∃ y1, w6.setCell ⟨gt, 2, none⟩ (.int .i64 ((N - 1 : Nat) : Int)) = y1 := ⟨_, rfl⟩
        have G1 : Blk y1 gt (trC r0 R0 (N - 1)) trT := by rw [← hy1]; exact (S.out.fact 0 rfl).set_ 2 _
        have B1 : Blk y1 g (ndC q x false (.pointer none) (.pointer none)) ndT := by rw [← hy1]; exact (S.out.fact 1 rfl).far (p := ⟨gt, 2, none⟩) hne _
        have F1 : Fr (fun g => g = gt) w6 y1 := by rw [← hy1]; exact Fr.set _ ⟨gt, 2, none⟩ _ rfl
        have HQ := Lib.hid (fun W' (hb : Below y1.heap.size y1 W') => tidy_drop (q := q) (x := x) (v := .pointer none) HF.out (S.out.fact 3 rfl) (S.out.fact 2 rfl) HD.out.2.1 HD.out.2.2.1 HD.out.2.2.2.2 (F1.trans (Fr.of_below hb) (fun _ h => h) (fun _ h => .inl h)) (G1.step hb) hcN (by simp [hLn]))
        rw [HE.out.1, hw1] at HQ
        have T := Lib.hid ((Sr.start y1).push (stb_blk g _ _) B1)
        generalize N - 1 = N1 at hwN hy1
        clear G1 B1 F1 S HE HD HF hw1 hw2 hw3 hcN hLn hRn
        go_wp2_with fail
        clear g2 gf2 hk3 hk4 hk5 hwN
        replace T := Lib.hid T.out.drew
        have d4 := (T.out.fact 0 rfl).cell (i := 4) rfl
        refine wp_region_held_drew (S := fun W' => W'.cell? ⟨g, 4, none⟩ = some (.pointer none) ∧ W'.cell? ⟨g, 5, none⟩ = some (.pointer none)) (by kernel_rfl) ⟨(T.out.fact 0 rfl).cell (i := 4) rfl, (T.out.fact 0 rfl).cell (i := 5) rfl⟩ (fun hHeld => ?_)
        generalize y1.drew = y2 at T hHeld d4 ⊢
        clear d4
        refine wpAnyH_takeD 0 (v := ?_) rfl rfl (by kernel_rfl) (by kernel_rfl) (by kernel_rfl) (fun _ _ _ h => h) (Or.inl ⟨by rfl, ?_⟩) hHeld ?_
        rotate_left
        focus (intro w hSw; (try dsimp only at hSw); go_simp; try with_reducible rfl)
        try simp only [List.setIfInBounds_toArray, List.set_cons_zero, List.set_cons_succ]
        refine wpAnyH_takeD 1 (v := ?_) rfl rfl (by kernel_rfl) (by kernel_rfl) (by kernel_rfl) (fun _ _ _ h => h) (Or.inl ⟨by rfl, ?_⟩) hHeld ?_
        rotate_left
        focus (intro w hSw; (try dsimp only at hSw); go_simp; try with_reducible rfl)
        try simp only [List.setIfInBounds_toArray, List.set_cons_zero, List.set_cons_succ]
        refine wpAnyH_takeD 2 (v := ?_) rfl rfl (by kernel_rfl) (by kernel_rfl) (by kernel_rfl) (fun _ _ _ h => h) (Or.inl ⟨by rfl, ?_⟩) hHeld ?_
        rotate_left
        focus (intro w hSw; (try dsimp only at hSw); go_simp; try with_reducible rfl)
        try simp only [List.setIfInBounds_toArray, List.set_cons_zero, List.set_cons_succ]
        refine wpAnyH_takeD 3 (v := ?_) rfl rfl (by kernel_rfl) (by kernel_rfl) (by kernel_rfl) (fun _ _ _ h => h) (Or.inl ⟨by rfl, ?_⟩) hHeld ?_
        rotate_left
        focus (intro w hSw; (try dsimp only at hSw); go_simp; try with_reducible rfl)
        try simp only [List.setIfInBounds_toArray, List.set_cons_zero, List.set_cons_succ]
        refine wpAnyH_takeD 4 (v := ?_) rfl rfl (by kernel_rfl) (by kernel_rfl) (by kernel_rfl) (fun _ _ _ h => h) (Or.inl ⟨by rfl, ?_⟩) hHeld ?_
        rotate_left
        focus (intro w hSw; (try dsimp only at hSw); go_simp; try with_reducible rfl)
        try simp only [List.setIfInBounds_toArray, List.set_cons_zero, List.set_cons_succ]
        refine wpAnyH_takeD 5 (v := ?_) rfl rfl (by kernel_rfl) (by kernel_rfl) (by kernel_rfl) (fun _ _ _ h => h) (Or.inl ⟨by rfl, ?_⟩) hHeld ?_
        rotate_left
        focus (intro w hSw; (try dsimp only at hSw); go_simp; try with_reducible rfl)
        try simp only [List.setIfInBounds_toArray, List.set_cons_zero, List.set_cons_succ]
        refine wpAnyH_takeD 6 (v := ?_) rfl rfl (by kernel_rfl) (by kernel_rfl) (by kernel_rfl) (fun _ _ _ h => h) (Or.inl ⟨by rfl, ?_⟩) hHeld ?_
        rotate_left
        focus (intro w hSw; (try dsimp only at hSw); go_simp; try with_reducible rfl)
        try simp only [List.setIfInBounds_toArray, List.set_cons_zero, List.set_cons_succ]
        refine wpAnyH_takeD 7 (v := ?_) rfl rfl (by kernel_rfl) (by kernel_rfl) (by kernel_rfl) (fun _ _ _ h => h) (Or.inl ⟨by rfl, ?_⟩) hHeld ?_
        rotate_left
        focus (intro w hSw; (try dsimp only at hSw); go_simp; try with_reducible rfl)
        try simp only [List.setIfInBounds_toArray, List.set_cons_zero, List.set_cons_succ]
        refine wpAnyH_takeD 8 (v := ?_) rfl rfl (by kernel_rfl) (by kernel_rfl) (by kernel_rfl) (fun _ _ _ h => h) (Or.inl ⟨by rfl, ?_⟩) hHeld ?_
        rotate_left
        focus (intro w hSw; (try dsimp only at hSw); go_simp; try with_reducible rfl)
        try simp only [List.setIfInBounds_toArray, List.set_cons_zero, List.set_cons_succ]
        refine wpAnyH_takeD 9 (v := ?_) rfl rfl (by kernel_rfl) (by kernel_rfl) (by kernel_rfl) (fun _ _ _ h => h) (Or.inl ⟨by rfl, ?_⟩) hHeld ?_
        rotate_left
        focus (intro w hSw; (try dsimp only at hSw); go_simp; try with_reducible rfl)
        try simp only [List.setIfInBounds_toArray, List.set_cons_zero, List.set_cons_succ]
        refine wpAnyH_ready (rs := [10]) (by kernel_rfl) (by simp) ?_
        refine AllReadyH.cons rfl (fun K hK => ?_) AllReadyH.nil
        go_simp
        replace T := Lib.hid (T.out.alloc [.pointer none, .pointer none] 62)
        refine hK.out _ _ ⟨((T.out).fact 0 rfl).cell (i := 4) rfl, ((T.out).fact 0 rfl).cell (i := 5) rfl⟩ (fun hHeld => ?_)
        clear hK K
        generalize hx2 : y2.heap.size = x2 at T ⊢
        generalize World.alloc y2 _ = y3 at T hHeld ⊢
        clear hx2
        refine wpAnyH_ready (rs := [11]) (by kernel_rfl) (by simp) ?_
        refine AllReadyH.cons rfl (fun K hK => ?_) AllReadyH.nil
        go_simp
        refine (or_none (T.out.at 0 rfl)).mono ?_
        rintro e y4 ⟨rfl, rfl⟩
        refine hK.out _ _ ⟨((T.out).fact 0 rfl).cell (i := 4) rfl, ((T.out).fact 0 rfl).cell (i := 5) rfl⟩ (fun hHeld => ?_)
        clear hK K
        refine wpAnyH_takeD 12 (v := ?_) rfl rfl (by kernel_rfl) (by kernel_rfl) (by kernel_rfl) (fun _ _ _ h => h) (Or.inl ⟨by rfl, ?_⟩) hHeld ?_
        rotate_left
        focus (intro w hSw; (try dsimp only at hSw); go_simp; try with_reducible rfl)
        try simp only [List.setIfInBounds_toArray, List.set_cons_zero, List.set_cons_succ]
        refine wpAnyH_done (by kernel_rfl) ?_ _
        clear hHeld
        go_wp2_with fail
        go_ret
        exact HQ.out _ T.out.low
      · skip
        have hcN : ¬ (false = true ∨ (L.isNil = false ∧ R.isNil = false)) := by simp [hLn, hRn]
        obtain ⟨hw1, hw2, hw3⟩ := HE.out.2.2 hcN
        have hne : g ≠ gt := HD.out.2.2.2.1
        have g2 := (S.out.fact 0 rfl).cell (i := 2) rfl
        have gf2 := (S.out.fact 0 rfl).frozen (i := 2)
        have hwN : IntKind.i64.wrap ((N : Int) - 1) = ((N - 1 : Nat) : Int) := (IntWalk.i64_in _ (by omega)).trans (by omega)
        obtain ⟨y1, hy1⟩ : ∃ y1, w6.setCell ⟨gt, 2, none⟩ (.int .i64 ((N - 1 : Nat) : Int)) = y1 := ⟨_, rfl⟩
        have G1 : Blk y1 gt (trC r0 R0 (N - 1)) trT := by rw [← hy1]; exact (S.out.fact 0 rfl).set_ 2 _
        have B1 : Blk y1 g (ndC q x false (.pointer none) (.pointer (some ⟨gr, 0, none⟩))) ndT := by rw [← hy1]; exact (S.out.fact 1 rfl).far (p := ⟨gt, 2, none⟩) hne _
        have F1 : Fr (fun g => g = gt) w6 y1 := by rw [← hy1]; exact Fr.set _ ⟨gt, 2, none⟩ _ rfl
        have HQ := Lib.hid (fun W' (hb : Below y1.heap.size y1 W') => tidy_drop (q := q) (x := x) (v := .pointer (some ⟨gr, 0, none⟩)) HF.out (S.out.fact 3 rfl) (S.out.fact 2 rfl) HD.out.2.1 HD.out.2.2.1 HD.out.2.2.2.2 (F1.trans (Fr.of_below hb) (fun _ h => h) (fun _ h => .inl h)) (G1.step hb) hcN (by simp [hLn]))
        rw [HE.out.1, hw1] at HQ
        have T := Lib.hid ((Sr.start y1).push (stb_blk g _ _) B1)
        generalize N - 1 = N1 at hwN hy1
        clear G1 B1 F1 S HE HD HF hw1 hw2 hw3 hcN hLn hRn
        go_wp2_with fail
        clear g2 gf2 hk3 hk4 hk5 hwN
        replace T := Lib.hid T.out.drew
        have d4 := (T.out.fact 0 rfl).cell (i := 4) rfl
        refine wp_region_held_drew (S := fun W' => W'.cell? ⟨g, 4, none⟩ = some (.pointer none) ∧ W'.cell? ⟨g, 5, none⟩ = some (.pointer (some ⟨gr, 0, none⟩))) (by kernel_rfl) ⟨(T.out.fact 0 rfl).cell (i := 4) rfl, (T.out.fact 0 rfl).cell (i := 5) rfl⟩ (fun hHeld => ?_)
        generalize y1.drew = y2 at T hHeld d4 ⊢
        clear d4
        refine wpAnyH_takeD 0 (v := ?_) rfl rfl (by kernel_rfl) (by kernel_rfl) (by kernel_rfl) (fun _ _ _ h => h) (Or.inl ⟨by rfl, ?_⟩) hHeld ?_
        rotate_left
        focus (intro w hSw; (try dsimp only at hSw); go_simp; try with_reducible rfl)
        try simp only [List.setIfInBounds_toArray, List.set_cons_zero, List.set_cons_succ]
        refine wpAnyH_takeD 1 (v := ?_) rfl rfl (by kernel_rfl) (by kernel_rfl) (by kernel_rfl) (fun _ _ _ h => h) (Or.inl ⟨by rfl, ?_⟩) hHeld ?_
        rotate_left
        focus (intro w hSw; (try dsimp only at hSw); go_simp; try with_reducible rfl)
        try simp only [List.setIfInBounds_toArray, List.set_cons_zero, List.set_cons_succ]
        refine wpAnyH_takeD 2 (v := ?_) rfl rfl (by kernel_rfl) (by kernel_rfl) (by kernel_rfl) (fun _ _ _ h => h) (Or.inl ⟨by rfl, ?_⟩) hHeld ?_
        rotate_left
        focus (intro w hSw; (try dsimp only at hSw); go_simp; try with_reducible rfl)
        try simp only [List.setIfInBounds_toArray, List.set_cons_zero, List.set_cons_succ]
        refine wpAnyH_takeD 3 (v := ?_) rfl rfl (by kernel_rfl) (by kernel_rfl) (by kernel_rfl) (fun _ _ _ h => h) (Or.inl ⟨by rfl, ?_⟩) hHeld ?_
        rotate_left
        focus (intro w hSw; (try dsimp only at hSw); go_simp; try with_reducible rfl)
        try simp only [List.setIfInBounds_toArray, List.set_cons_zero, List.set_cons_succ]
        refine wpAnyH_takeD 4 (v := ?_) rfl rfl (by kernel_rfl) (by kernel_rfl) (by kernel_rfl) (fun _ _ _ h => h) (Or.inl ⟨by rfl, ?_⟩) hHeld ?_
        rotate_left
        focus (intro w hSw; (try dsimp only at hSw); go_simp; try with_reducible rfl)
        try simp only [List.setIfInBounds_toArray, List.set_cons_zero, List.set_cons_succ]
        refine wpAnyH_takeD 5 (v := ?_) rfl rfl (by kernel_rfl) (by kernel_rfl) (by kernel_rfl) (fun _ _ _ h => h) (Or.inl ⟨by rfl, ?_⟩) hHeld ?_
        rotate_left
        focus (intro w hSw; (try dsimp only at hSw); go_simp; try with_reducible rfl)
        try simp only [List.setIfInBounds_toArray, List.set_cons_zero, List.set_cons_succ]
        refine wpAnyH_takeD 6 (v := ?_) rfl rfl (by kernel_rfl) (by kernel_rfl) (by kernel_rfl) (fun _ _ _ h => h) (Or.inl ⟨by rfl, ?_⟩) hHeld ?_
        rotate_left
        focus (intro w hSw; (try dsimp only at hSw); go_simp; try with_reducible rfl)
        try simp only [List.setIfInBounds_toArray, List.set_cons_zero, List.set_cons_succ]
        refine wpAnyH_takeD 7 (v := ?_) rfl rfl (by kernel_rfl) (by kernel_rfl) (by kernel_rfl) (fun _ _ _ h => h) (Or.inl ⟨by rfl, ?_⟩) hHeld ?_
        rotate_left
        focus (intro w hSw; (try dsimp only at hSw); go_simp; try with_reducible rfl)
        try simp only [List.setIfInBounds_toArray, List.set_cons_zero, List.set_cons_succ]
        refine wpAnyH_takeD 8 (v := ?_) rfl rfl (by kernel_rfl) (by kernel_rfl) (by kernel_rfl) (fun _ _ _ h => h) (Or.inl ⟨by rfl, ?_⟩) hHeld ?_
        rotate_left
        focus (intro w hSw; (try dsimp only at hSw); go_simp; try with_reducible rfl)
        try simp only [List.setIfInBounds_toArray, List.set_cons_zero, List.set_cons_succ]
        refine wpAnyH_takeD 9 (v := ?_) rfl rfl (by kernel_rfl) (by kernel_rfl) (by kernel_rfl) (fun _ _ _ h => h) (Or.inl ⟨by rfl, ?_⟩) hHeld ?_
        rotate_left
        focus (intro w hSw; (try dsimp only at hSw); go_simp; try with_reducible rfl)
        try simp only [List.setIfInBounds_toArray, List.set_cons_zero, List.set_cons_succ]
        refine wpAnyH_ready (rs := [10]) (by kernel_rfl) (by simp) ?_
        refine AllReadyH.cons rfl (fun K hK => ?_) AllReadyH.nil
        go_simp
        replace T := Lib.hid (T.out.alloc [.pointer none, .pointer (some ⟨gr, 0, none⟩)] 62)
        refine hK.out _ _ ⟨((T.out).fact 0 rfl).cell (i := 4) rfl, ((T.out).fact 0 rfl).cell (i := 5) rfl⟩ (fun hHeld => ?_)
        clear hK K
        generalize hx2 : y2.heap.size = x2 at T ⊢
        generalize World.alloc y2 _ = y3 at T hHeld ⊢
        clear hx2
        refine wpAnyH_ready (rs := [11]) (by kernel_rfl) (by simp) ?_
        refine AllReadyH.cons rfl (fun K hK => ?_) AllReadyH.nil
        go_simp
        refine (or_second (T.out.at 0 rfl)).mono ?_
        rintro e y4 ⟨rfl, rfl⟩
        refine hK.out _ _ ⟨((T.out).fact 0 rfl).cell (i := 4) rfl, ((T.out).fact 0 rfl).cell (i := 5) rfl⟩ (fun hHeld => ?_)
        clear hK K
        refine wpAnyH_takeD 12 (v := ?_) rfl rfl (by kernel_rfl) (by kernel_rfl) (by kernel_rfl) (fun _ _ _ h => h) (Or.inl ⟨by rfl, ?_⟩) hHeld ?_
        rotate_left
        focus (intro w hSw; (try dsimp only at hSw); go_simp; try with_reducible rfl)
        try simp only [List.setIfInBounds_toArray, List.set_cons_zero, List.set_cons_succ]
        refine wpAnyH_done (by kernel_rfl) ?_ _
        clear hHeld
        go_wp2_with fail
        go_ret
        exact HQ.out _ T.out.low
    · rcases kid_val (S.out.fact 2 rfl) with ⟨hRn, rfl⟩ | ⟨hRn, gr, rfl⟩
      · skip
        have hcN : ¬ (false = true ∨ (L.isNil = false ∧ R.isNil = false)) := by simp [hLn, hRn]
        obtain ⟨hw1, hw2, hw3⟩ := HE.out.2.2 hcN
        have hne : g ≠ gt := HD.out.2.2.2.1
        have g2 := (S.out.fact 0 rfl).cell (i := 2) rfl
        have gf2 := (S.out.fact 0 rfl).frozen (i := 2)
        have hwN : IntKind.i64.wrap ((N : Int) - 1) = ((N - 1 : Nat) : Int) := (IntWalk.i64_in _ (by omega)).trans (by omega)
        obtain ⟨y1, hy1⟩ : ∃ y1, w6.setCell ⟨gt, 2, none⟩ (.int .i64 ((N - 1 : Nat) : Int)) = y1 := ⟨_, rfl⟩
        have G1 : Blk y1 gt (trC r0 R0 (N - 1)) trT := by rw [← hy1]; exact (S.out.fact 0 rfl).set_ 2 _
        have B1 : Blk y1 g (ndC q x false (.pointer (some ⟨gl, 0, none⟩)) (.pointer none)) ndT := by rw [← hy1]; exact (S.out.fact 1 rfl).far (p := ⟨gt, 2, none⟩) hne _
        have F1 : Fr (fun g => g = gt) w6 y1 := by rw [← hy1]; exact Fr.set _ ⟨gt, 2, none⟩ _ rfl
        have HQ := Lib.hid (fun W' (hb : Below y1.heap.size y1 W') => tidy_drop (q := q) (x := x) (v := .pointer (some ⟨gl, 0, none⟩)) HF.out (S.out.fact 3 rfl) (S.out.fact 2 rfl) HD.out.2.1 HD.out.2.2.1 HD.out.2.2.2.2 (F1.trans (Fr.of_below hb) (fun _ h => h) (fun _ h => .inl h)) (G1.step hb) hcN (by simp [hLn]))
        rw [HE.out.1, hw1] at HQ
        have T := Lib.hid ((Sr.start y1).push (stb_blk g _ _) B1)
        generalize N - 1 = N1 at hwN hy1
        clear G1 B1 F1 S HE HD HF hw1 hw2 hw3 hcN hLn hRn
        go_wp2_with fail
        clear g2 gf2 hk3 hk4 hk5 hwN
        replace T := Lib.hid T.out.drew
        have d4 := (T.out.fact 0 rfl).cell (i := 4) rfl
        refine wp_region_held_drew (S := fun W' => W'.cell? ⟨g, 4, none⟩ = some (.pointer (some ⟨gl, 0, none⟩)) ∧ W'.cell? ⟨g, 5, none⟩ = some (.pointer none)) (by kernel_rfl) ⟨(T.out.fact 0 rfl).cell (i := 4) rfl, (T.out.fact 0 rfl).cell (i := 5) rfl⟩ (fun hHeld => ?_)
        generalize y1.drew = y2 at T hHeld d4 ⊢
        clear d4
        refine wpAnyH_takeD 0 (v := ?_) rfl rfl (by kernel_rfl) (by kernel_rfl) (by kernel_rfl) (fun _ _ _ h => h) (Or.inl ⟨by rfl, ?_⟩) hHeld ?_
        rotate_left
        focus (intro w hSw; (try dsimp only at hSw); go_simp; try with_reducible rfl)
        try simp only [List.setIfInBounds_toArray, List.set_cons_zero, List.set_cons_succ]
        refine wpAnyH_takeD 1 (v := ?_) rfl rfl (by kernel_rfl) (by kernel_rfl) (by kernel_rfl) (fun _ _ _ h => h) (Or.inl ⟨by rfl, ?_⟩) hHeld ?_
        rotate_left
        focus (intro w hSw; (try dsimp only at hSw); go_simp; try with_reducible rfl)
        try simp only [List.setIfInBounds_toArray, List.set_cons_zero, List.set_cons_succ]
        refine wpAnyH_takeD 2 (v := ?_) rfl rfl (by kernel_rfl) (by kernel_rfl) (by kernel_rfl) (fun _ _ _ h => h) (Or.inl ⟨by rfl, ?_⟩) hHeld ?_
        rotate_left
        focus (intro w hSw; (try dsimp only at hSw); go_simp; try with_reducible rfl)
        try simp only [List.setIfInBounds_toArray, List.set_cons_zero, List.set_cons_succ]
        refine wpAnyH_takeD 3 (v := ?_) rfl rfl (by kernel_rfl) (by kernel_rfl) (by kernel_rfl) (fun _ _ _ h => h) (Or.inl ⟨by rfl, ?_⟩) hHeld ?_
        rotate_left
        focus (intro w hSw; (try dsimp only at hSw); go_simp; try with_reducible rfl)
        try simp only [List.setIfInBounds_toArray, List.set_cons_zero, List.set_cons_succ]
        refine wpAnyH_takeD 4 (v := ?_) rfl rfl (by kernel_rfl) (by kernel_rfl) (by kernel_rfl) (fun _ _ _ h => h) (Or.inl ⟨by rfl, ?_⟩) hHeld ?_
        rotate_left
        focus (intro w hSw; (try dsimp only at hSw); go_simp; try with_reducible rfl)
        try simp only [List.setIfInBounds_toArray, List.set_cons_zero, List.set_cons_succ]
        refine wpAnyH_takeD 5 (v := ?_) rfl rfl (by kernel_rfl) (by kernel_rfl) (by kernel_rfl) (fun _ _ _ h => h) (Or.inl ⟨by rfl, ?_⟩) hHeld ?_
        rotate_left
        focus (intro w hSw; (try dsimp only at hSw); go_simp; try with_reducible rfl)
        try simp only [List.setIfInBounds_toArray, List.set_cons_zero, List.set_cons_succ]
        refine wpAnyH_takeD 6 (v := ?_) rfl rfl (by kernel_rfl) (by kernel_rfl) (by kernel_rfl) (fun _ _ _ h => h) (Or.inl ⟨by rfl, ?_⟩) hHeld ?_
        rotate_left
        focus (intro w hSw; (try dsimp only at hSw); go_simp; try with_reducible rfl)
        try simp only [List.setIfInBounds_toArray, List.set_cons_zero, List.set_cons_succ]
        refine wpAnyH_takeD 7 (v := ?_) rfl rfl (by kernel_rfl) (by kernel_rfl) (by kernel_rfl) (fun _ _ _ h => h) (Or.inl ⟨by rfl, ?_⟩) hHeld ?_
        rotate_left
        focus (intro w hSw; (try dsimp only at hSw); go_simp; try with_reducible rfl)
        try simp only [List.setIfInBounds_toArray, List.set_cons_zero, List.set_cons_succ]
        refine wpAnyH_takeD 8 (v := ?_) rfl rfl (by kernel_rfl) (by kernel_rfl) (by kernel_rfl) (fun _ _ _ h => h) (Or.inl ⟨by rfl, ?_⟩) hHeld ?_
        rotate_left
        focus (intro w hSw; (try dsimp only at hSw); go_simp; try with_reducible rfl)
        try simp only [List.setIfInBounds_toArray, List.set_cons_zero, List.set_cons_succ]
        refine wpAnyH_takeD 9 (v := ?_) rfl rfl (by kernel_rfl) (by kernel_rfl) (by kernel_rfl) (fun _ _ _ h => h) (Or.inl ⟨by rfl, ?_⟩) hHeld ?_
        rotate_left
        focus (intro w hSw; (try dsimp only at hSw); go_simp; try with_reducible rfl)
        try simp only [List.setIfInBounds_toArray, List.set_cons_zero, List.set_cons_succ]
        refine wpAnyH_ready (rs := [10]) (by kernel_rfl) (by simp) ?_
        refine AllReadyH.cons rfl (fun K hK => ?_) AllReadyH.nil
        go_simp
        replace T := Lib.hid (T.out.alloc [.pointer (some ⟨gl, 0, none⟩), .pointer none] 62)
        refine hK.out _ _ ⟨((T.out).fact 0 rfl).cell (i := 4) rfl, ((T.out).fact 0 rfl).cell (i := 5) rfl⟩ (fun hHeld => ?_)
        clear hK K
        generalize hx2 : y2.heap.size = x2 at T ⊢
        generalize World.alloc y2 _ = y3 at T hHeld ⊢
        clear hx2
        refine wpAnyH_ready (rs := [11]) (by kernel_rfl) (by simp) ?_
        refine AllReadyH.cons rfl (fun K hK => ?_) AllReadyH.nil
        go_simp
        refine (or_first (T.out.at 0 rfl)).mono ?_
        rintro e y4 ⟨rfl, rfl⟩
        refine hK.out _ _ ⟨((T.out).fact 0 rfl).cell (i := 4) rfl, ((T.out).fact 0 rfl).cell (i := 5) rfl⟩ (fun hHeld => ?_)
        clear hK K
        refine wpAnyH_takeD 12 (v := ?_) rfl rfl (by kernel_rfl) (by kernel_rfl) (by kernel_rfl) (fun _ _ _ h => h) (Or.inl ⟨by rfl, ?_⟩) hHeld ?_
        rotate_left
        focus (intro w hSw; (try dsimp only at hSw); go_simp; try with_reducible rfl)
        try simp only [List.setIfInBounds_toArray, List.set_cons_zero, List.set_cons_succ]
        refine wpAnyH_done (by kernel_rfl) ?_ _
        clear hHeld
        go_wp2_with fail
        go_ret
        exact HQ.out _ T.out.low
      · skip
        have HQ := Lib.hid (tidy_keep HF.out (S.out.fact 3 rfl) (S.out.fact 2 rfl) (S.out.fact 1 rfl) HD.out.1 HD.out.2.1 HD.out.2.2.1 (S.out.fact 0 rfl) (.inr ⟨hLn, hRn⟩))
        rw [HE.out.1, HE.out.2.1 (.inr ⟨hLn, hRn⟩)] at HQ
        clear S HE HD HF
        unfold ptr at HQ
        go_wp2_with fail
        go_ret
        exact HQ.out
end Go.Proofs.Ytamkegnnlbefdaa
