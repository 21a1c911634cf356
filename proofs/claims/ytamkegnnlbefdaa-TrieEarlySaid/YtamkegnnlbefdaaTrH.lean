/- Contracts of package trie: ensure, the walk. -/
import Derived.Test.YtamkegnnlbefdaaTrG
namespace Go.Proofs.Ytamkegnnlbefdaa
open Go.RowKit

/-- A trie in memory: its own block, its nodes. -/
structure TrieM (W : World) (gt : Nat) (T : Tr) (S0 : Nat → Prop) (R N : Nat) : Prop where
  blk : ∃ r, Blk W gt (trC r R N) trT ∧ At T W r S0
  out : ¬ S0 gt
  lt : ∀ g, S0 g → g < W.heap.size
theorem TrieM.pl {W : World} {gt : Nat} {T : Tr} {S0 : Nat → Prop} {R N : Nat} (h : TrieM W gt T S0 R N) : Pl W (rootAt gt) T S0 := by
  obtain ⟨⟨r, h1, h2⟩, h3, h4⟩ := h
  exact ⟨⟨r, h2, _, _, h1, rfl⟩, rfl, h3⟩
theorem TrieM.below {W W' : World} {gt : Nat} {T : Tr} {S0 : Nat → Prop} {R N : Nat} (h : TrieM W gt T S0 R N) (hb : Below W.heap.size W W') : TrieM W' gt T S0 R N := by
  obtain ⟨⟨r, h1, h2⟩, h3, h4⟩ := h
  exact ⟨⟨r, h1.step hb, h2.below hb⟩, h3, fun g hg => Nat.lt_of_lt_of_le (h4 g hg) hb.size⟩
theorem stb_trie (gt : Nat) (T : Tr) (S0 : Nat → Prop) (R N : Nat) : Stb (fun W => TrieM W gt T S0 R N) := fun _ _ hb h => h.below hb
theorem Kp.step {W W' W'' : World} {a : Addr} {g : Nat} (h : Kp W W' a g) (e : W''.heap[g]? = W'.heap[g]?) : Kp W W'' a g :=
  ⟨fun hg => e.trans (h.1 hg), fun hg cs t hc => by obtain ⟨u, hu⟩ := h.2 hg cs t hc; exact ⟨u, hu.same e⟩⟩
theorem reach_nil {p : Px} : reachT p .nil = .nil := rfl
set_option maxRecDepth 100000 in
set_option maxHeartbeats 8000000 in
theorem ensure_any {w : World} {gt : Nat} {p : Px} {T : Tr} {S0 : Nat → Prop} {R N : Nat} (hp : Vld p) (hw : WF T) (H : TrieM w gt T S0 R N) (hN : N < 4611686018427387900) :
    Calls Try.prog 45 #[ptr gt, pv p.1 p.2] w (EnsQ w gt p T S0 R N) := by
  obtain ⟨w1, hw1, S⟩ : ∃ w1, w.alloc (.cells #[.int .u32 (p.1 : Int), .int .i64 (p.2 : Int)] 35) = w1 ∧ Hid (Sr w [fun W => TrieM W gt T S0 R N] [(w.heap.size, [.int .u32 (p.1 : Int), .int .i64 (p.2 : Int)], 35)] w1) :=
    ⟨_, rfl, ((Sr.start w).push (stb_trie _ _ _ _ _) H).alloc [.int .u32 (p.1 : Int), .int .i64 (p.2 : Int)] 35⟩
  have hR := Lib.hid (fun W (H : TrieM W gt T S0 R N) => reach_any hp hw H.pl H.lt)
  have HP := Lib.hid hp
  have HN := Lib.hid hN
  have HTM := Lib.hid H
  unfold ptr at hR ⊢
  clear H hw hN hp
  go_enter Try.func45, Try.ntmps45
  have c0x0 := (S.out.at 0 rfl).cell (i := 0) rfl
  have c0x1 := (S.out.at 0 rfl).cell (i := 1) rfl
  go_wp2_with fail
  refine (hR.out _ (S.out.fact 0 rfl)).mono ?_
  rintro e w2 ⟨a, k, S1, s, rfl, hs, hws, hPk, hT, hsr, hSp, hb⟩
  obtain ⟨r0, hB0, hA0⟩ := ((S.out.below hb).fact 0 rfl).blk
  replace S := Lib.hid (((S.out.below hb).push (stb_spot _ _ _ _ _ _) hSp).push (stb_blk gt _ _) hB0)
  have HW := Lib.hid (show WF s ∧ Pth p k ∧ T = k s ∧ s = reachT p T from ⟨hws, hPk, hT, hsr⟩)
  have HA : Hid (a.block = gt → a.off = 0) := by
    intro e
    rcases hSp.inn with h3 | h3
    · exact absurd (e ▸ h3) hSp.out
    · rw [h3]; rfl
  clear hb hw1 hR hPk hT hsr c0x0 c0x1 hB0 hA0
  cases s with
  | nil =>
    obtain ⟨v0, hv0, hc0⟩ := hSp.pl.val
    obtain rfl := hv0.nil_val
    replace S := Lib.hid (S.out.push (stb_cel a (.pointer none)) hc0)
    have ca := Cel.cell (S.out.fact 0 rfl) hs
    have hAd := Lib.hid (fun W (hB : Blk W gt (trC r0 R N) trT) (hC : Cel W a (.pointer none)) => add_any (p := p) hB hC hs HA.out (by have := HN.out; omega))
    unfold ptr at hAd
    clear hc0 hSp hws
    go_wp2_with fail
    clear ca
    refine wp_region_held_drew (S := fun W' => W'.cell? a = some (.pointer none) ∧ W'.cell? ⟨w.heap.size, 0, none⟩ = some (.int .u32 (p.1 : Int)) ∧ W'.cell? ⟨w.heap.size, 1, none⟩ = some (.int .i64 (p.2 : Int))) (by kernel_rfl) ⟨(((S.out.drew)).fact 0 rfl).cell hs, (((S.out.drew)).at 0 rfl).cell (i := 0) rfl, (((S.out.drew)).at 0 rfl).cell (i := 1) rfl⟩ (fun hHeld => ?_)
    replace S := Lib.hid S.out.drew
    generalize w2.drew = w3 at S hHeld ⊢
    refine wpAnyH_takeD 0 (v := ?_) rfl rfl (by kernel_rfl) (by kernel_rfl) (by kernel_rfl) (fun _ _ _ h => h) (Or.inl ⟨by rfl, ?_⟩) hHeld ?_
    rotate_left
    focus (intro w hSw; (try dsimp only at hSw); go_simp; try with_reducible rfl)
    try simp only [List.setIfInBounds_toArray, List.set_cons_zero, List.set_cons_succ]
    refine wpAnyH_takeD 1 (v := ?_) rfl rfl (by kernel_rfl) (by kernel_rfl) (by kernel_rfl) (fun _ _ _ h => h) (Or.inl ⟨by rfl, ?_⟩) hHeld ?_
    rotate_left
    focus (intro w hSw; (try dsimp only at hSw); go_simp; try with_reducible rfl)
    try simp only [List.setIfInBounds_toArray, List.set_cons_zero, List.set_cons_succ]
    refine wpAnyH_takeD 2 (v := ?_) rfl rfl (by kernel_rfl) (by kernel_rfl) (by kernel_rfl) (fun _ _ _ h => h) (Or.inl ⟨by rfl, ?_⟩) hHeld ?_
    rotate_left
    focus (intro w hSw; (try dsimp only at hSw); go_simp; try with_reducible rfl)
    try simp only [List.setIfInBounds_toArray, List.set_cons_zero, List.set_cons_succ]
    refine wpAnyH_takeD 3 (v := undef) rfl rfl (by kernel_rfl) (by kernel_rfl) (by kernel_rfl) (fun _ _ _ h => h) (Or.inr ⟨by rfl, rfl⟩) hHeld ?_
    simp only [List.setIfInBounds_toArray, List.set_cons_zero, List.set_cons_succ]
    refine wpAnyH_takeD 4 (v := undef) rfl rfl (by kernel_rfl) (by kernel_rfl) (by kernel_rfl) (fun _ _ _ h => h) (Or.inr ⟨by rfl, rfl⟩) hHeld ?_
    simp only [List.setIfInBounds_toArray, List.set_cons_zero, List.set_cons_succ]
    refine wpAnyH_takeD 5 (v := undef) rfl rfl (by kernel_rfl) (by kernel_rfl) (by kernel_rfl) (fun _ _ _ h => h) (Or.inr ⟨by rfl, rfl⟩) hHeld ?_
    simp only [List.setIfInBounds_toArray, List.set_cons_zero, List.set_cons_succ]
    refine wpAnyH_takeD 6 (v := undef) rfl rfl (by kernel_rfl) (by kernel_rfl) (by kernel_rfl) (fun _ _ _ h => h) (Or.inr ⟨by rfl, rfl⟩) hHeld ?_
    simp only [List.setIfInBounds_toArray, List.set_cons_zero, List.set_cons_succ]
    refine wpAnyH_takeD 7 (v := undef) rfl rfl (by kernel_rfl) (by kernel_rfl) (by kernel_rfl) (fun _ _ _ h => h) (Or.inr ⟨by rfl, rfl⟩) hHeld ?_
    simp only [List.setIfInBounds_toArray, List.set_cons_zero, List.set_cons_succ]
    refine wpAnyH_takeD 8 (v := undef) rfl rfl (by kernel_rfl) (by kernel_rfl) (by kernel_rfl) (fun _ _ _ h => h) (Or.inr ⟨by rfl, rfl⟩) hHeld ?_
    simp only [List.setIfInBounds_toArray, List.set_cons_zero, List.set_cons_succ]
    refine wpAnyH_takeD 9 (v := ?_) rfl rfl (by kernel_rfl) (by kernel_rfl) (by kernel_rfl) (fun _ _ _ h => h) (Or.inl ⟨by rfl, ?_⟩) hHeld ?_
    rotate_left
    focus (intro w hSw; (try dsimp only at hSw); go_simp; try with_reducible rfl)
    try simp only [List.setIfInBounds_toArray, List.set_cons_zero, List.set_cons_succ]
    refine wpAnyH_done (by kernel_rfl) ?_ _
    have c0x0 := (S.out.at 0 rfl).cell (i := 0) rfl
    have c0x1 := (S.out.at 0 rfl).cell (i := 1) rfl
    go_wp2_with fail
    refine (hAd.out _ (S.out.fact 1 rfl) (S.out.fact 0 rfl)).mono ?_
    rintro e w4 hq
    obtain ⟨gn, rfl, hq2⟩ := hq
    have HF := Lib.hid (ens_nil (e := .returned (ptr gn)) (T := T) (w := w) hs HW.out.2.1 HW.out.2.2.1 (S.out.fact 2 rfl) (S.out.fact 1 rfl) S.out.low ⟨gn, rfl, hq2⟩)
    clear hq2 hAd c0x0 c0x1 hHeld
    unfold ptr at HF ⊢
    go_wp2_with fail
    go_ret
    exact HF.out
  | node q x h l r =>
    obtain ⟨v0, hv0, hc0⟩ := hSp.pl.val
    obtain ⟨g, u, v, rfl, hSg, hbg⟩ := hv0.node_val
    replace S := Lib.hid ((S.out.push (stb_blk g _ _) hbg).push (stb_cel a _) hc0)
    have ca := Cel.cell (S.out.fact 0 rfl) hs
    unfold ptr at ca
    have HG := Lib.hid hSg
    have hq2 := vld_lt hws.1
    clear hc0 hv0 hbg hSg
    by_cases he : q = p
    · subst he
      have HF := Lib.hid (fun W (S : Sr w [fun W => Cel W a (ptr g), fun W => Blk W g (ndC q x h u v) ndT, fun W => Blk W gt (trC r0 R N) trT, fun W => Spot k W (rootAt gt) a S0 S1 (.node q x h l r), fun W => TrieM W gt T S0 R N] [(w.heap.size, [.int .u32 (q.1 : Int), .int .i64 (q.2 : Int)], 35)] W) =>
        ens_old (T := T) (w := w) (N := N) (R := R) hs HW.out.2.1 HW.out.2.2.1 (S.fact 3 rfl) (S.fact 0 rfl) (S.fact 1 rfl) HG.out (S.fact 2 rfl) S.low)
      unfold ndC at S
      clear hws hSp
      go_wp2_with fail
      clear ca
      refine wp_region_held_drew (S := fun W' => W'.cell? ⟨g, 0, none⟩ = some (.int .u32 (q.1 : Int)) ∧ W'.cell? ⟨g, 1, none⟩ = some (.int .i64 (q.2 : Int)) ∧ W'.cell? ⟨w.heap.size, 0, none⟩ = some (.int .u32 (q.1 : Int)) ∧ W'.cell? ⟨w.heap.size, 1, none⟩ = some (.int .i64 (q.2 : Int))) (by kernel_rfl) ⟨(((S.out.drew)).fact 1 rfl).cell (i := 0) rfl, (((S.out.drew)).fact 1 rfl).cell (i := 1) rfl, (((S.out.drew)).at 0 rfl).cell (i := 0) rfl, (((S.out.drew)).at 0 rfl).cell (i := 1) rfl⟩ (fun hHeld => ?_)
      replace S := Lib.hid S.out.drew
      generalize w2.drew = w3 at S hHeld ⊢
      refine wpAnyH_takeD 0 (v := ?_) rfl rfl (by kernel_rfl) (by kernel_rfl) (by kernel_rfl) (fun _ _ _ h => h) (Or.inl ⟨by rfl, ?_⟩) hHeld ?_
      rotate_left
      focus (intro w hSw; (try dsimp only at hSw); go_simp; try with_reducible rfl)
      try simp only [List.setIfInBounds_toArray, List.set_cons_zero, List.set_cons_succ]
      refine wpAnyH_takeD 1 (v := ?_) rfl rfl (by kernel_rfl) (by kernel_rfl) (by kernel_rfl) (fun _ _ _ h => h) (Or.inl ⟨by rfl, ?_⟩) hHeld ?_
      rotate_left
      focus (intro w hSw; (try dsimp only at hSw); go_simp; try with_reducible rfl)
      try simp only [List.setIfInBounds_toArray, List.set_cons_zero, List.set_cons_succ]
      refine wpAnyH_takeD 2 (v := ?_) rfl rfl (by kernel_rfl) (by kernel_rfl) (by kernel_rfl) (fun _ _ _ h => h) (Or.inl ⟨by rfl, ?_⟩) hHeld ?_
      rotate_left
      focus (intro w hSw; (try dsimp only at hSw); go_simp; try with_reducible rfl)
      try simp only [List.setIfInBounds_toArray, List.set_cons_zero, List.set_cons_succ]
      refine wpAnyH_takeD 3 (v := ?_) rfl rfl (by kernel_rfl) (by kernel_rfl) (by kernel_rfl) (fun _ _ _ h => h) (Or.inl ⟨by rfl, ?_⟩) hHeld ?_
      rotate_left
      focus (intro w hSw; (try dsimp only at hSw); go_simp; try with_reducible rfl)
      try simp only [List.setIfInBounds_toArray, List.set_cons_zero, List.set_cons_succ]
      refine wpAnyH_takeD 4 (v := ?_) rfl rfl (by kernel_rfl) (by kernel_rfl) (by kernel_rfl) (fun _ _ _ h => h) (Or.inl ⟨by rfl, ?_⟩) hHeld ?_
      rotate_left
      focus (intro w hSw; (try dsimp only at hSw); go_simp; try with_reducible rfl)
      try simp only [List.setIfInBounds_toArray, List.set_cons_zero, List.set_cons_succ]
      refine wpAnyH_takeD 5 (v := ?_) rfl rfl (by kernel_rfl) (by kernel_rfl) (by kernel_rfl) (fun _ _ _ h => h) (Or.inl ⟨by rfl, ?_⟩) hHeld ?_
      rotate_left
      focus (intro w hSw; (try dsimp only at hSw); go_simp; try with_reducible rfl)
      try simp only [List.setIfInBounds_toArray, List.set_cons_zero, List.set_cons_succ]
      refine wpAnyH_takeD 6 (v := ?_) rfl rfl (by kernel_rfl) (by kernel_rfl) (by kernel_rfl) (fun _ _ _ h => h) (Or.inl ⟨by rfl, ?_⟩) hHeld ?_
      rotate_left
      focus (intro w hSw; (try dsimp only at hSw); go_simp; try with_reducible rfl)
      try simp only [List.setIfInBounds_toArray, List.set_cons_zero, List.set_cons_succ]
      refine wpAnyH_takeD 7 (v := ?_) rfl rfl (by kernel_rfl) (by kernel_rfl) (by kernel_rfl) (fun _ _ _ h => h) (Or.inl ⟨by rfl, ?_⟩) hHeld ?_
      rotate_left
      focus (intro w hSw; (try dsimp only at hSw); go_simp; try with_reducible rfl)
      try simp only [List.setIfInBounds_toArray, List.set_cons_zero, List.set_cons_succ]
      refine wpAnyH_takeD 8 (v := ?_) rfl rfl (by kernel_rfl) (by kernel_rfl) (by kernel_rfl) (fun _ _ _ h => h) (Or.inl ⟨by rfl, ?_⟩) hHeld ?_
      rotate_left
      focus (intro w hSw; (try dsimp only at hSw); go_simp; try with_reducible rfl)
      try simp only [List.setIfInBounds_toArray, List.set_cons_zero, List.set_cons_succ]
      refine wpAnyH_takeD 9 (v := ?_) rfl rfl (by kernel_rfl) (by kernel_rfl) (by kernel_rfl) (fun _ _ _ h => h) (Or.inl ⟨by rfl, ?_⟩) hHeld ?_
      rotate_left
      focus (intro w hSw; (try dsimp only at hSw); go_simp; try with_reducible rfl)
      try simp only [List.setIfInBounds_toArray, List.set_cons_zero, List.set_cons_succ]
      refine wpAnyH_done (by kernel_rfl) ?_ _
      go_wp2_with fail
      go_ret
      exact HF.out _ S.out
    · have hst := reach_top (HW.out.2.2.2 ▸ rfl : reachT p T = .node q x h l r)
      have hqp : ¬ Cov q p := fun hc => hst ⟨he, hc⟩
      have hcv := Lib.hid (fun W => covers_any p.1 (p.2 : Int) q.1 (q.2 : Int) W (vld_lt HP.out) hq2)
      have hAd := Lib.hid (fun W (hB : Blk W gt (trC r0 R N) trT) (hC : Cel W a (ptr g)) => add_any (p := p) hB hC hs HA.out (by have := HN.out; omega))
      have hgg : g < w2.heap.size := hSp.lt g (hSp.sub g HG.out)
      have hgo : g ≠ gt ∧ g ≠ a.block := ⟨fun e => hSp.out (e ▸ hSp.sub g HG.out), fun e => hSp.pl.out (e ▸ HG.out)⟩
      have HE := Lib.hid (show q ≠ p ∧ ¬ Cov q p ∧ Vld q ∧ g < w2.heap.size ∧ g ≠ gt ∧ g ≠ a.block from ⟨he, hqp, hws.1, hgg, hgo⟩)
      have hcb := Lib.hid (covB_vld HP.out hws.1)
      unfold ptr at hAd
      clear hws hSp hst he hqp hgg hgo hq2
      have hcells := S.out.fact 1 rfl
      unfold ndC at S
      go_wp2_with fail
      clear ca
      refine wp_region_held_drew (S := fun W' => W'.cell? ⟨g, 0, none⟩ = some (.int .u32 (q.1 : Int)) ∧ W'.cell? ⟨g, 1, none⟩ = some (.int .i64 (q.2 : Int)) ∧ W'.cell? ⟨w.heap.size, 0, none⟩ = some (.int .u32 (p.1 : Int)) ∧ W'.cell? ⟨w.heap.size, 1, none⟩ = some (.int .i64 (p.2 : Int))) (by kernel_rfl) ⟨(((S.out.drew)).fact 1 rfl).cell (i := 0) rfl, (((S.out.drew)).fact 1 rfl).cell (i := 1) rfl, (((S.out.drew)).at 0 rfl).cell (i := 0) rfl, (((S.out.drew)).at 0 rfl).cell (i := 1) rfl⟩ (fun hHeld => ?_)
      replace S := Lib.hid S.out.drew
      generalize w2.drew = w3 at S hHeld ⊢
      refine wpAnyH_takeD 0 (v := ?_) rfl rfl (by kernel_rfl) (by kernel_rfl) (by kernel_rfl) (fun _ _ _ h => h) (Or.inl ⟨by rfl, ?_⟩) hHeld ?_
      rotate_left
      focus (intro w hSw; (try dsimp only at hSw); go_simp; try with_reducible rfl)
      try simp only [List.setIfInBounds_toArray, List.set_cons_zero, List.set_cons_succ]
      refine wpAnyH_takeD 1 (v := ?_) rfl rfl (by kernel_rfl) (by kernel_rfl) (by kernel_rfl) (fun _ _ _ h => h) (Or.inl ⟨by rfl, ?_⟩) hHeld ?_
      rotate_left
      focus (intro w hSw; (try dsimp only at hSw); go_simp; try with_reducible rfl)
      try simp only [List.setIfInBounds_toArray, List.set_cons_zero, List.set_cons_succ]
      refine wpAnyH_takeD 2 (v := ?_) rfl rfl (by kernel_rfl) (by kernel_rfl) (by kernel_rfl) (fun _ _ _ h => h) (Or.inl ⟨by rfl, ?_⟩) hHeld ?_
      rotate_left
      focus (intro w hSw; (try dsimp only at hSw); go_simp; try with_reducible rfl)
      try simp only [List.setIfInBounds_toArray, List.set_cons_zero, List.set_cons_succ]
      refine wpAnyH_takeD 3 (v := ?_) rfl rfl (by kernel_rfl) (by kernel_rfl) (by kernel_rfl) (fun _ _ _ h => h) (Or.inl ⟨by rfl, ?_⟩) hHeld ?_
      rotate_left
      focus (intro w hSw; (try dsimp only at hSw); go_simp; try with_reducible rfl)
      try simp only [List.setIfInBounds_toArray, List.set_cons_zero, List.set_cons_succ]
      refine wpAnyH_takeD 4 (v := ?_) rfl rfl (by kernel_rfl) (by kernel_rfl) (by kernel_rfl) (fun _ _ _ h => h) (Or.inl ⟨by rfl, ?_⟩) hHeld ?_
      rotate_left
      focus (intro w hSw; (try dsimp only at hSw); go_simp; try with_reducible rfl)
      try simp only [List.setIfInBounds_toArray, List.set_cons_zero, List.set_cons_succ]
      refine wpAnyH_takeD 5 (v := ?_) rfl rfl (by kernel_rfl) (by kernel_rfl) (by kernel_rfl) (fun _ _ _ h => h) (Or.inl ⟨by rfl, ?_⟩) hHeld ?_
      rotate_left
      focus (intro w hSw; (try dsimp only at hSw); go_simp; try with_reducible rfl)
      try simp only [List.setIfInBounds_toArray, List.set_cons_zero, List.set_cons_succ]
      refine wpAnyH_takeD 6 (v := ?_) rfl rfl (by kernel_rfl) (by kernel_rfl) (by kernel_rfl) (fun _ _ _ h => h) (Or.inl ⟨by rfl, ?_⟩) hHeld ?_
      rotate_left
      focus (intro w hSw; (try dsimp only at hSw); go_simp; try with_reducible rfl)
      try simp only [List.setIfInBounds_toArray, List.set_cons_zero, List.set_cons_succ]
      refine wpAnyH_takeD 7 (v := ?_) rfl rfl (by kernel_rfl) (by kernel_rfl) (by kernel_rfl) (fun _ _ _ h => h) (Or.inl ⟨by rfl, ?_⟩) hHeld ?_
      rotate_left
      focus (intro w hSw; (try dsimp only at hSw); go_simp; try with_reducible rfl)
      try simp only [List.setIfInBounds_toArray, List.set_cons_zero, List.set_cons_succ]
      refine wpAnyH_takeD 8 (v := .bool false) rfl rfl (by kernel_rfl) (by kernel_rfl) (by kernel_rfl) (fun _ _ _ h => h) (Or.inl ⟨by rfl, ?_⟩) hHeld ?_
      · intro w hSw
        go_simp
        exact fun e1 e2 => HE.out.1 (Prod.ext (by omega) (by omega))
      simp only [List.setIfInBounds_toArray, List.set_cons_zero, List.set_cons_succ]
      refine wpAnyH_takeD 9 (v := ?_) rfl rfl (by kernel_rfl) (by kernel_rfl) (by kernel_rfl) (fun _ _ _ h => h) (Or.inl ⟨by rfl, ?_⟩) hHeld ?_
      rotate_left
      focus (intro w hSw; (try dsimp only at hSw); go_simp; try with_reducible rfl)
      try simp only [List.setIfInBounds_toArray, List.set_cons_zero, List.set_cons_succ]
      refine wpAnyH_done (by kernel_rfl) ?_ _
      have c0x0 := (S.out.at 0 rfl).cell (i := 0) rfl
      have c0x1 := (S.out.at 0 rfl).cell (i := 1) rfl
      go_wp2_with fail
      have SS := Lib.hid (show Sr w [fun W => Cel W a (ptr g), fun W => Blk W g (ndC q x h u v) ndT, fun W => Blk W gt (trC r0 R N) trT, fun W => Spot k W (rootAt gt) a S0 S1 (.node q x h l r), fun W => TrieM W gt T S0 R N] [(w.heap.size, [.int .u32 (p.1 : Int), .int .i64 (p.2 : Int)], 35)] w3 from S.out)
      clear S
      refine (hAd.out _ (SS.out.fact 2 rfl) (SS.out.fact 0 rfl)).mono ?_
      rintro e w4 ⟨gn, rfl, hgn, hbn, hca, ⟨r1, hbt, hr1⟩, hkp, hfr⟩
      have hbx := SS.out.at 0 rfl
      have hg3 : g < w3.heap.size := Blk.lt (SS.out.fact 1 rfl)
      have hbd : w.heap.size ≠ gt ∧ w.heap.size ≠ a.block := by
        have h1 := HTM.out
        obtain ⟨r9, hB9, -⟩ := h1.blk
        have h9 := hB9.lt
        refine ⟨by omega, fun e => ?_⟩
        rcases (Spot.inn (SS.out.fact 3 rfl)) with h3 | h3
        · have := h1.lt _ h3; omega
        · rw [h3] at e
          have e' : w.heap.size = gt := e
          omega
      have hbx4 : Blk w4 w.heap.size [.int .u32 (p.1 : Int), .int .i64 (p.2 : Int)] 35 := hbx.same (hfr.block _ hbx.lt (fun e => e.elim hbd.1 hbd.2))
      have hbg4 : Blk w4 g (ndC q x h u v) ndT := Blk.same (SS.out.fact 1 rfl) (hfr.block _ hg3 (fun e => e.elim HE.out.2.2.2.2.1 HE.out.2.2.2.2.2))
      have S := Lib.hid (((((((Sr.start w4).push (stb_blk gn _ _) hbn).push (stb_cel a _) hca).push (stb_blk gt _ _) hbt).push (stb_blk w.heap.size _ _) hbx4).push (stb_blk g _ _) hbg4))
      have HQ := Lib.hid (show w3.heap.size ≤ gn ∧ (a.block ≠ gt → r1 = r0) ∧ (∀ g, g < w3.heap.size → g ≠ gt → Kp w3 w4 a g) ∧ Fr (fun g => g = gt ∨ g = a.block) w3 w4 ∧ gn < w4.heap.size ∧ g ≠ gn ∧ w.heap.size ≠ gt ∧ w.heap.size ≠ a.block ∧ w.heap.size < w3.heap.size ∧ g < w3.heap.size from ⟨hgn, hr1, hkp, hfr, hbn.lt, by omega, hbd.1, hbd.2, hbx.lt, hg3⟩)
      clear hgn hbn hca hbt hr1 hkp hfr hbx hg3 hbx4 hbg4 hAd hbd c0x0 c0x1 hcells hHeld
      unfold ndC ptr at S
      unfold ptr
      by_cases hpq : Cov p q
      · rw [hcb.out.2 hpq] at hcv
        go_wp2_with fail
        refine wp_region_held_drew (S := fun W' => W'.cell? ⟨g, 0, none⟩ = some (.int .u32 (q.1 : Int)) ∧ W'.cell? ⟨g, 1, none⟩ = some (.int .i64 (q.2 : Int)) ∧ W'.cell? ⟨w.heap.size, 0, none⟩ = some (.int .u32 (p.1 : Int)) ∧ W'.cell? ⟨w.heap.size, 1, none⟩ = some (.int .i64 (p.2 : Int))) (by kernel_rfl) ⟨(((S.out.drew)).fact 0 rfl).cell (i := 0) rfl, (((S.out.drew)).fact 0 rfl).cell (i := 1) rfl, (((S.out.drew)).fact 1 rfl).cell (i := 0) rfl, (((S.out.drew)).fact 1 rfl).cell (i := 1) rfl⟩ (fun hHeld => ?_)
        replace S := Lib.hid S.out.drew
        generalize w4.drew = w5 at S hHeld ⊢
        refine wpAnyH_takeD 0 (v := ?_) rfl rfl (by kernel_rfl) (by kernel_rfl) (by kernel_rfl) (fun _ _ _ h => h) (Or.inl ⟨by rfl, ?_⟩) hHeld ?_
        rotate_left
        focus (intro w hSw; (try dsimp only at hSw); go_simp; try with_reducible rfl)
        try simp only [List.setIfInBounds_toArray, List.set_cons_zero, List.set_cons_succ]
        refine wpAnyH_takeD 1 (v := ?_) rfl rfl (by kernel_rfl) (by kernel_rfl) (by kernel_rfl) (fun _ _ _ h => h) (Or.inl ⟨by rfl, ?_⟩) hHeld ?_
        rotate_left
        focus (intro w hSw; (try dsimp only at hSw); go_simp; try with_reducible rfl)
        try simp only [List.setIfInBounds_toArray, List.set_cons_zero, List.set_cons_succ]
        refine wpAnyH_takeD 2 (v := ?_) rfl rfl (by kernel_rfl) (by kernel_rfl) (by kernel_rfl) (fun _ _ _ h => h) (Or.inl ⟨by rfl, ?_⟩) hHeld ?_
        rotate_left
        focus (intro w hSw; (try dsimp only at hSw); go_simp; try with_reducible rfl)
        try simp only [List.setIfInBounds_toArray, List.set_cons_zero, List.set_cons_succ]
        refine wpAnyH_takeD 3 (v := ?_) rfl rfl (by kernel_rfl) (by kernel_rfl) (by kernel_rfl) (fun _ _ _ h => h) (Or.inl ⟨by rfl, ?_⟩) hHeld ?_
        rotate_left
        focus (intro w hSw; (try dsimp only at hSw); go_simp; try with_reducible rfl)
        try simp only [List.setIfInBounds_toArray, List.set_cons_zero, List.set_cons_succ]
        refine wpAnyH_takeD 4 (v := ?_) rfl rfl (by kernel_rfl) (by kernel_rfl) (by kernel_rfl) (fun _ _ _ h => h) (Or.inl ⟨by rfl, ?_⟩) hHeld ?_
        rotate_left
        focus (intro w hSw; (try dsimp only at hSw); go_simp; try with_reducible rfl)
        try simp only [List.setIfInBounds_toArray, List.set_cons_zero, List.set_cons_succ]
        refine wpAnyH_ready (rs := [5]) (by kernel_rfl) (by simp) ?_
        refine AllReadyH.cons rfl (fun K hK => ?_) AllReadyH.nil
        go_simp
        refine (hcv.out _).mono ?_
        rintro e w6 ⟨rfl, hb⟩
        replace S := Lib.hid (S.out.below hb)
        clear hb hcv
        refine hK.out _ _ ⟨(((S.out)).fact 0 rfl).cell (i := 0) rfl, (((S.out)).fact 0 rfl).cell (i := 1) rfl, (((S.out)).fact 1 rfl).cell (i := 0) rfl, (((S.out)).fact 1 rfl).cell (i := 1) rfl⟩ (fun hHeld => ?_)
        clear hK K
        refine wpAnyH_takeD 6 (v := ?_) rfl rfl (by kernel_rfl) (by kernel_rfl) (by kernel_rfl) (fun _ _ _ h => h) (Or.inl ⟨by rfl, ?_⟩) hHeld ?_
        rotate_left
        focus (intro w hSw; (try dsimp only at hSw); go_simp; try with_reducible rfl)
        try simp only [List.setIfInBounds_toArray, List.set_cons_zero, List.set_cons_succ]
        refine wpAnyH_done (by kernel_rfl) ?_ _
        have ca := Cel.cell (S.out.fact 3 rfl) hs
        have hH := Lib.hid (fun W (hb : Blk W gn (ndC p 0 false (.pointer none) (.pointer none)) ndT) (hk : Blk W g (ndC q x h u v) ndT) => hang_any hb hk HP.out.1 HQ.out.2.2.2.2.2.1.symm)
        unfold ptr at hH
        go_wp2_with fail
        refine (hH.out _ (S.out.fact 4 rfl) (S.out.fact 0 rfl)).mono ?_
        rintro e w7 ⟨rfl, hbn, hf⟩
        have HF := Lib.hid (ens_up (T := T) (w := w) hs HW.out.2.1 HW.out.2.2.1 HE.out.1 HE.out.2.1 hpq (SS.out.fact 3 rfl) (SS.out.fact 0 rfl) (SS.out.fact 1 rfl) (SS.out.fact 2 rfl) SS.out.low HQ.out.1 (S.out.fact 3 rfl) (S.out.fact 2 rfl) HQ.out.2.1
          (fun j h1 h2 => (HQ.out.2.2.1 j h1 h2).step (S.out.low.block j (Nat.lt_of_lt_of_le h1 HQ.out.2.2.2.1.size))) (HQ.out.2.2.2.1.trans (Fr.of_below (S := fun _ => False) S.out.low) (fun _ h => h) (fun _ h => h.elim)) hbn hf (Nat.lt_of_lt_of_le HQ.out.2.2.2.2.1 S.out.low.size))
        clear ca hH hbn hf hpq hHeld
        unfold ptr at HF
        go_wp2_with fail
        go_ret
        exact HF.out
      · have hcf : covB p.1 (p.2 : Int) q.1 (q.2 : Int) = false := by
          cases hb : covB p.1 (p.2 : Int) q.1 (q.2 : Int)
          · rfl
          · exact absurd (hcb.out.1 hb) hpq
        rw [hcf] at hcv
        have hC := com_is p q HP.out HE.out.2.2.1 hpq HE.out.2.1
        have hcm := Lib.hid (fun W => common_any (w := W) p q (vld_lt HP.out) (vld_lt HE.out.2.2.1))
        have HD := Lib.hid (show ¬ Cov p q ∧ dir p.1 (comF p q).2 ≠ dir q.1 (comF p q).2 ∧ (comF p q).2 ≤ 32 from ⟨hpq, hC.ne, Nat.le_of_lt hC.lt⟩)
        obtain ⟨c, hc⟩ : ∃ c, comF p q = c := ⟨_, rfl⟩
        have HC := Lib.hid hc
        rw [hc] at hcm HD
        clear hC hc hpq hcf
        go_wp2_with fail
        refine wp_region_held_drew (S := fun W' => W'.cell? ⟨g, 0, none⟩ = some (.int .u32 (q.1 : Int)) ∧ W'.cell? ⟨g, 1, none⟩ = some (.int .i64 (q.2 : Int)) ∧ W'.cell? ⟨w.heap.size, 0, none⟩ = some (.int .u32 (p.1 : Int)) ∧ W'.cell? ⟨w.heap.size, 1, none⟩ = some (.int .i64 (p.2 : Int))) (by kernel_rfl) ⟨(((S.out.drew)).fact 0 rfl).cell (i := 0) rfl, (((S.out.drew)).fact 0 rfl).cell (i := 1) rfl, (((S.out.drew)).fact 1 rfl).cell (i := 0) rfl, (((S.out.drew)).fact 1 rfl).cell (i := 1) rfl⟩ (fun hHeld => ?_)
        replace S := Lib.hid S.out.drew
        generalize w4.drew = w5 at S hHeld ⊢
        refine wpAnyH_takeD 0 (v := ?_) rfl rfl (by kernel_rfl) (by kernel_rfl) (by kernel_rfl) (fun _ _ _ h => h) (Or.inl ⟨by rfl, ?_⟩) hHeld ?_
        rotate_left
        focus (intro w hSw; (try dsimp only at hSw); go_simp; try with_reducible rfl)
        try simp only [List.setIfInBounds_toArray, List.set_cons_zero, List.set_cons_succ]
        refine wpAnyH_takeD 1 (v := ?_) rfl rfl (by kernel_rfl) (by kernel_rfl) (by kernel_rfl) (fun _ _ _ h => h) (Or.inl ⟨by rfl, ?_⟩) hHeld ?_
        rotate_left
        focus (intro w hSw; (try dsimp only at hSw); go_simp; try with_reducible rfl)
        try simp only [List.setIfInBounds_toArray, List.set_cons_zero, List.set_cons_succ]
        refine wpAnyH_takeD 2 (v := ?_) rfl rfl (by kernel_rfl) (by kernel_rfl) (by kernel_rfl) (fun _ _ _ h => h) (Or.inl ⟨by rfl, ?_⟩) hHeld ?_
        rotate_left
        focus (intro w hSw; (try dsimp only at hSw); go_simp; try with_reducible rfl)
        try simp only [List.setIfInBounds_toArray, List.set_cons_zero, List.set_cons_succ]
        refine wpAnyH_takeD 3 (v := ?_) rfl rfl (by kernel_rfl) (by kernel_rfl) (by kernel_rfl) (fun _ _ _ h => h) (Or.inl ⟨by rfl, ?_⟩) hHeld ?_
        rotate_left
        focus (intro w hSw; (try dsimp only at hSw); go_simp; try with_reducible rfl)
        try simp only [List.setIfInBounds_toArray, List.set_cons_zero, List.set_cons_succ]
        refine wpAnyH_takeD 4 (v := ?_) rfl rfl (by kernel_rfl) (by kernel_rfl) (by kernel_rfl) (fun _ _ _ h => h) (Or.inl ⟨by rfl, ?_⟩) hHeld ?_
        rotate_left
        focus (intro w hSw; (try dsimp only at hSw); go_simp; try with_reducible rfl)
        try simp only [List.setIfInBounds_toArray, List.set_cons_zero, List.set_cons_succ]
        refine wpAnyH_ready (rs := [5]) (by kernel_rfl) (by simp) ?_
        refine AllReadyH.cons rfl (fun K hK => ?_) AllReadyH.nil
        go_simp
        refine (hcv.out _).mono ?_
        rintro e w6 ⟨rfl, hb⟩
        replace S := Lib.hid (S.out.below hb)
        clear hb hcv
        refine hK.out _ _ ⟨(((S.out)).fact 0 rfl).cell (i := 0) rfl, (((S.out)).fact 0 rfl).cell (i := 1) rfl, (((S.out)).fact 1 rfl).cell (i := 0) rfl, (((S.out)).fact 1 rfl).cell (i := 1) rfl⟩ (fun hHeld => ?_)
        clear hK K
        refine wpAnyH_takeD 6 (v := ?_) rfl rfl (by kernel_rfl) (by kernel_rfl) (by kernel_rfl) (fun _ _ _ h => h) (Or.inl ⟨by rfl, ?_⟩) hHeld ?_
        rotate_left
        focus (intro w hSw; (try dsimp only at hSw); go_simp; try with_reducible rfl)
        try simp only [List.setIfInBounds_toArray, List.set_cons_zero, List.set_cons_succ]
        refine wpAnyH_done (by kernel_rfl) ?_ _
        clear hHeld
        have hAd2 := Lib.hid (fun W (hB : Blk W gt (trC r1 R (N + 1)) trT) (hC : Cel W a (ptr gn)) => add_any (p := c) hB hC hs HA.out (by have := HN.out; omega))
        unfold ptr at hAd2
        go_wp2_with fail
        refine wp_region_held_drew (S := fun W' => W'.cell? ⟨g, 0, none⟩ = some (.int .u32 (q.1 : Int)) ∧ W'.cell? ⟨g, 1, none⟩ = some (.int .i64 (q.2 : Int)) ∧ W'.cell? ⟨w.heap.size, 0, none⟩ = some (.int .u32 (p.1 : Int)) ∧ W'.cell? ⟨w.heap.size, 1, none⟩ = some (.int .i64 (p.2 : Int))) (by kernel_rfl) ⟨(((S.out.drew)).fact 0 rfl).cell (i := 0) rfl, (((S.out.drew)).fact 0 rfl).cell (i := 1) rfl, (((S.out.drew)).fact 1 rfl).cell (i := 0) rfl, (((S.out.drew)).fact 1 rfl).cell (i := 1) rfl⟩ (fun hHeld => ?_)
        replace S := Lib.hid S.out.drew
        generalize w6.drew = w7 at S hHeld ⊢
        refine wpAnyH_takeD 0 (v := ?_) rfl rfl (by kernel_rfl) (by kernel_rfl) (by kernel_rfl) (fun _ _ _ h => h) (Or.inl ⟨by rfl, ?_⟩) hHeld ?_
        rotate_left
        focus (intro w hSw; (try dsimp only at hSw); go_simp; try with_reducible rfl)
        try simp only [List.setIfInBounds_toArray, List.set_cons_zero, List.set_cons_succ]
        refine wpAnyH_takeD 1 (v := ?_) rfl rfl (by kernel_rfl) (by kernel_rfl) (by kernel_rfl) (fun _ _ _ h => h) (Or.inl ⟨by rfl, ?_⟩) hHeld ?_
        rotate_left
        focus (intro w hSw; (try dsimp only at hSw); go_simp; try with_reducible rfl)
        try simp only [List.setIfInBounds_toArray, List.set_cons_zero, List.set_cons_succ]
        refine wpAnyH_takeD 2 (v := ?_) rfl rfl (by kernel_rfl) (by kernel_rfl) (by kernel_rfl) (fun _ _ _ h => h) (Or.inl ⟨by rfl, ?_⟩) hHeld ?_
        rotate_left
        focus (intro w hSw; (try dsimp only at hSw); go_simp; try with_reducible rfl)
        try simp only [List.setIfInBounds_toArray, List.set_cons_zero, List.set_cons_succ]
        refine wpAnyH_takeD 3 (v := ?_) rfl rfl (by kernel_rfl) (by kernel_rfl) (by kernel_rfl) (fun _ _ _ h => h) (Or.inl ⟨by rfl, ?_⟩) hHeld ?_
        rotate_left
        focus (intro w hSw; (try dsimp only at hSw); go_simp; try with_reducible rfl)
        try simp only [List.setIfInBounds_toArray, List.set_cons_zero, List.set_cons_succ]
        refine wpAnyH_takeD 4 (v := ?_) rfl rfl (by kernel_rfl) (by kernel_rfl) (by kernel_rfl) (fun _ _ _ h => h) (Or.inl ⟨by rfl, ?_⟩) hHeld ?_
        rotate_left
        focus (intro w hSw; (try dsimp only at hSw); go_simp; try with_reducible rfl)
        try simp only [List.setIfInBounds_toArray, List.set_cons_zero, List.set_cons_succ]
        refine wpAnyH_takeD 5 (v := ?_) rfl rfl (by kernel_rfl) (by kernel_rfl) (by kernel_rfl) (fun _ _ _ h => h) (Or.inl ⟨by rfl, ?_⟩) hHeld ?_
        rotate_left
        focus (intro w hSw; (try dsimp only at hSw); go_simp; try with_reducible rfl)
        try simp only [List.setIfInBounds_toArray, List.set_cons_zero, List.set_cons_succ]
        refine wpAnyH_takeD 6 (v := ?_) rfl rfl (by kernel_rfl) (by kernel_rfl) (by kernel_rfl) (fun _ _ _ h => h) (Or.inl ⟨by rfl, ?_⟩) hHeld ?_
        rotate_left
        focus (intro w hSw; (try dsimp only at hSw); go_simp; try with_reducible rfl)
        try simp only [List.setIfInBounds_toArray, List.set_cons_zero, List.set_cons_succ]
        refine wpAnyH_takeD 9 (v := ?_) rfl rfl (by kernel_rfl) (by kernel_rfl) (by kernel_rfl) (fun _ _ _ h => h) (Or.inl ⟨by rfl, ?_⟩) hHeld ?_
        rotate_left
        focus (intro w hSw; (try dsimp only at hSw); go_simp; try with_reducible rfl)
        try simp only [List.setIfInBounds_toArray, List.set_cons_zero, List.set_cons_succ]
        refine wpAnyH_ready (rs := [7]) (by kernel_rfl) (by simp) ?_
        refine AllReadyH.cons rfl (fun K hK => ?_) AllReadyH.nil
        go_simp
        refine (hcm.out _).mono ?_
        rintro e w8 ⟨rfl, hb⟩
        replace S := Lib.hid (S.out.below hb)
        clear hb hcm
        refine hK.out _ _ ⟨(((S.out)).fact 0 rfl).cell (i := 0) rfl, (((S.out)).fact 0 rfl).cell (i := 1) rfl, (((S.out)).fact 1 rfl).cell (i := 0) rfl, (((S.out)).fact 1 rfl).cell (i := 1) rfl⟩ (fun hHeld => ?_)
        clear hK K
        refine wpAnyH_ready (rs := [8]) (by kernel_rfl) (by simp) ?_
        refine AllReadyH.cons rfl (fun K hK => ?_) AllReadyH.nil
        go_simp
        refine (hAd2.out _ (S.out.fact 2 rfl) (S.out.fact 3 rfl)).mono ?_
        rintro e w9 ⟨gc, rfl, hgc, hbc, hca, ⟨r2, hbt, hr2⟩, hkp, hfr⟩
        have hs48 : w3.heap.size ≤ w8.heap.size := Nat.le_trans HQ.out.2.2.2.1.size S.out.low.size
        have hkey : ∀ {j : Nat} {cs : List Value} {t : TypeId}, Blk w8 j cs t → j ≠ gt → j ≠ a.block → Blk w9 j cs t := fun hj h1 h2 => hj.same (hfr.block _ hj.lt (fun e => e.elim h1 h2))
        have hal := (SS.out.fact 0 rfl : Cel w3 a (ptr g)).lt
        have hgl := (SS.out.fact 2 rfl : Blk w3 gt (trC r0 R N) trT).lt
        have hbn9 := hkey (S.out.fact 4 rfl) (by have := HQ.out.1; omega) (by have := HQ.out.1; omega)
        have hbx9 := hkey (S.out.fact 1 rfl) HQ.out.2.2.2.2.2.2.1 HQ.out.2.2.2.2.2.2.2.1
        have hbg9 := hkey (S.out.fact 0 rfl) HE.out.2.2.2.2.1 HE.out.2.2.2.2.2
        have hnn : gn ≠ gc := by have := (S.out.fact 4 rfl : Blk w8 gn (ndC p 0 false (.pointer none) (.pointer none)) ndT).lt; omega
        have HQ2 := Lib.hid (show w3.heap.size ≤ gc ∧ gn ≠ gc ∧ (a.block ≠ gt → r2 = r0) ∧ (∀ j, j < w3.heap.size → j ≠ gt → Kp w3 w9 a j) ∧ Fr (fun g => g = gt ∨ g = a.block) w3 w9 ∧ gn < w9.heap.size ∧ gc < w9.heap.size from
          ⟨by omega, hnn, fun h => (hr2 h).trans (HQ.out.2.1 h), fun j h1 h2 => (((HQ.out.2.2.1 j h1 h2).step (S.out.low.block j (Nat.lt_of_lt_of_le h1 HQ.out.2.2.2.1.size))).trans (hkp j (by omega) h2)),
            (HQ.out.2.2.2.1.trans (Fr.of_below (S := fun _ => False) S.out.low) (fun _ h => h) (fun _ h => h.elim)).trans hfr (fun _ h => h) (fun _ h => .inl h), hbn9.lt, hbc.lt⟩)
        replace S := Lib.hid ((((((((Sr.start w9).push (stb_blk gc _ _) hbc).push (stb_blk gn _ _) hbn9).push (stb_cel a _) hca).push (stb_blk gt _ _) hbt).push (stb_blk w.heap.size _ _) hbx9).push (stb_blk g _ _) hbg9))
        clear hgc hbc hca hbt hr2 hkp hfr hs48 hkey hal hgl hbn9 hbx9 hbg9 hnn hAd2
        unfold ndC ptr at S
        unfold ptr
        have hH1 := Lib.hid (fun W (hb : Blk W gc (ndC c 0 false (.pointer none) (.pointer none)) ndT) (hk : Blk W gn (ndC p 0 false (.pointer none) (.pointer none)) ndT) => hang_any hb hk HD.out.2.2 HQ2.out.2.1.symm)
        unfold ptr at hH1
        refine hK.out _ _ ⟨(((S.out)).fact 0 rfl).cell (i := 0) rfl, (((S.out)).fact 0 rfl).cell (i := 1) rfl, (((S.out)).fact 1 rfl).cell (i := 0) rfl, (((S.out)).fact 1 rfl).cell (i := 1) rfl⟩ (fun hHeld => ?_)
        clear hK K
        refine wpAnyH_ready (rs := [10]) (by kernel_rfl) (by simp) ?_
        refine AllReadyH.cons rfl (fun K hK => ?_) AllReadyH.nil
        go_simp
        refine (hH1.out _ (S.out.fact 5 rfl) (S.out.fact 4 rfl)).mono ?_
        rintro e w10 ⟨rfl, hbc, hf⟩
        have hal := (SS.out.fact 0 rfl : Cel w3 a (ptr g)).lt
        have hgl := (SS.out.fact 2 rfl : Blk w3 gt (trC r0 R N) trT).lt
        have hkey : ∀ {j : Nat} {cs : List Value} {t : TypeId}, Blk w9 j cs t → j ≠ gc → Blk w10 j cs t := fun hj h1 => hj.same (hf.block _ hj.lt h1)
        have hbn9 := hkey (S.out.fact 4 rfl) HQ2.out.2.1
        have hbx9 := hkey (S.out.fact 1 rfl) (by have := HQ.out.2.2.2.2.2.2.2.2.1; have := HQ2.out.1; omega)
        have hbg9 := hkey (S.out.fact 0 rfl) (by have := HQ.out.2.2.2.2.2.2.2.2.2; have := HQ2.out.1; omega)
        have hbt9 := hkey (S.out.fact 2 rfl) (by have := HQ2.out.1; omega)
        have hca9 : Cel w10 a (ptr gc) := Cel.same (S.out.fact 3 rfl) (hf.block _ (Cel.lt (S.out.fact 3 rfl)) (by have := HQ2.out.1; intro e; have e' : a.block = gc := e; omega))
        have hs39 := HQ2.out.2.2.2.2.1.size
        have HQ3 := Lib.hid (show (∀ j, j < w3.heap.size → j ≠ gt → Kp w3 w10 a j) ∧ Fr (fun g => g = gt ∨ g = a.block) w3 w10 ∧ g ≠ gc from
          ⟨fun j h1 h2 => (HQ2.out.2.2.2.1 j h1 h2).step (hf.block j (by omega) (by have := HQ2.out.1; intro e; have e' : j = gc := e; omega)), HQ2.out.2.2.2.2.1.trans hf (fun _ h => h) (fun j h => .inr (by have := HQ2.out.1; have e' : j = gc := h; omega)), by have := HQ.out.2.2.2.2.2.2.2.2.2; have := HQ2.out.1; omega⟩)
        obtain ⟨u1, hu1⟩ : ∃ u1, (setV (dir p.1 c.2) (.pointer none) (.pointer none) (.pointer (some ⟨gn, 0, none⟩))).1 = u1 := ⟨_, rfl⟩
        obtain ⟨v1, hv1⟩ : ∃ v1, (setV (dir p.1 c.2) (.pointer none) (.pointer none) (.pointer (some ⟨gn, 0, none⟩))).2 = v1 := ⟨_, rfl⟩
        rw [hu1, hv1] at hbc
        have HUV := Lib.hid (show setV (dir p.1 c.2) (.pointer none) (.pointer none) (.pointer (some ⟨gn, 0, none⟩)) = (u1, v1) from Prod.ext hu1 hv1)
        replace S := Lib.hid ((((((((Sr.start w10).push (stb_blk gc _ _) hbc).push (stb_blk gn _ _) hbn9).push (stb_cel a _) hca9).push (stb_blk gt _ _) hbt9).push (stb_blk w.heap.size _ _) hbx9).push (stb_blk g _ _) hbg9))
        clear hbc hf hal hgl hkey hbn9 hbx9 hbg9 hbt9 hca9 hs39 hH1 hu1 hv1
        unfold ndC ptr at S
        have hH2 := Lib.hid (fun W (hb : Blk W gc (ndC c 0 false u1 v1) ndT) (hk : Blk W g (ndC q x h u v) ndT) => hang_any hb hk HD.out.2.2 HQ3.out.2.2.symm)
        unfold ptr at hH2
        refine hK.out _ _ ⟨(((S.out)).fact 0 rfl).cell (i := 0) rfl, (((S.out)).fact 0 rfl).cell (i := 1) rfl, (((S.out)).fact 1 rfl).cell (i := 0) rfl, (((S.out)).fact 1 rfl).cell (i := 1) rfl⟩ (fun hHeld => ?_)
        clear hK K
        refine wpAnyH_done (by kernel_rfl) ?_ _
        clear hHeld
        have ca := Cel.cell (S.out.fact 3 rfl) hs
        go_wp2_with fail
        refine (hH2.out _ (S.out.fact 5 rfl) (S.out.fact 0 rfl)).mono ?_
        rintro e w11 ⟨rfl, hbc, hf⟩
        have HF : Hid (EnsQ w gt p T S0 R N (.returned (ptr gn)) w11) := by
          have hal := (SS.out.fact 0 rfl : Cel w3 a (ptr g)).lt
          have hgl := (SS.out.fact 2 rfl : Blk w3 gt (trC r0 R N) trT).lt
          have hgc := HQ2.out.1
          have hs310 := HQ3.out.2.1.size
          have hkey : ∀ {j : Nat} {cs : List Value} {t : TypeId}, Blk w10 j cs t → j ≠ gc → Blk w11 j cs t := fun hj h1 => hj.same (hf.block _ hj.lt h1)
          have euv := HUV.out
          have hc := HC.out
          subst hc
          refine ens_fork (T := T) (w := w) hs HW.out.2.1 HW.out.2.2.1 HE.out.1 HE.out.2.1 HD.out.1 HD.out.2.1 (SS.out.fact 3 rfl) (SS.out.fact 0 rfl) (SS.out.fact 1 rfl) (SS.out.fact 2 rfl) SS.out.low HQ.out.1 hgc HQ2.out.2.1
            (Cel.same (S.out.fact 3 rfl) (hf.block _ (Cel.lt (S.out.fact 3 rfl)) (by intro e; have e' : a.block = gc := e; omega))) (hkey (S.out.fact 2 rfl) (by omega)) HQ2.out.2.2.1
            (fun j h1 h2 => (HQ3.out.1 j h1 h2).step (hf.block j (by omega) (by intro e; have e' : j = gc := e; omega))) (HQ3.out.2.1.trans hf (fun _ h => h) (fun j h => .inr (by have e' : j = gc := h; omega))) (hkey (S.out.fact 4 rfl) HQ2.out.2.1) ?_
          have hd := HD.out.2.1
          revert euv hbc hd
          unfold ptr
          cases dir p.1 (comF p q).2 <;> cases dir q.1 (comF p q).2 <;> simp [setV]
          · rintro h rfl rfl; exact h
          · rintro h rfl rfl; exact h
        clear ca hH2 hbc hf
        unfold ptr at HF
        go_wp2_with fail
        go_ret
        exact HF.out
end Go.Proofs.Ytamkegnnlbefdaa
