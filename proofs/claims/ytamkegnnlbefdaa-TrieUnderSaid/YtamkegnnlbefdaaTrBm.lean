/- Contract of package trie: Under. -/
import Derived.Test.YtamkegnnlbefdaaTrBk
namespace Go.Proofs.Ytamkegnnlbefdaa
open Go.RowKit

theorem routes_vldU {T : Tr} (hw : WF T) : ∀ r ∈ routes T, Vld r.1 := fun r hr => wf_vld hw _ (routes_prefs r hr)
def undS (a : Nat) (l : Int) : Tr → List Rt
  | .nil => []
  | .node q x h tl tr => if covB a l q.1 (q.2 : Int) = true then routes (.node q x h tl tr) else []
theorem undS_node (a : Nat) (l : Int) (q : Px) (x : Int) (h : Bool) (tl tr : Tr) : undS a l (.node q x h tl tr) = if covB a l q.1 (q.2 : Int) = true then routes (.node q x h tl tr) else [] := rfl
theorem covB_badU {a : Nat} {l : Int} (h : vldB a l = false) (b : Nat) (m : Int) : covB a l b m = false := by unfold covB hasB; rw [h]; simp
/-- What reach answers, for any prefix. -/
def RchU (w : World) (a : Nat) (l : Int) (T : Tr) (e : Ending) (W : World) : Prop := ∃ b off v s S, e = .returned (.pointer (some ⟨b, off, none⟩)) ∧ W.cell? ⟨b, off, none⟩ = some v ∧ At s W v S ∧ WF s ∧ (routes s).length ≤ (routes T).length ∧ undR a l (routes T) = undS a l s ∧ Below w.heap.size w W
theorem cel_at {W : World} {b off : Nat} {v : Value} (h : ∃ cs ty, Blk W b cs ty ∧ cs[off]? = some v) : W.cell? ⟨b, off, none⟩ = some v := by
  obtain ⟨cs, ty, h1, h2⟩ := h
  exact h1.cell h2
theorem reach_len {p : Px} {t : Tr} : (routes (reachT p t)).length ≤ (routes t).length := by
  induction t with
  | nil => exact Nat.le_refl _
  | node q x h l r ihl ihr =>
    rw [len_node]
    unfold reachT
    split
    · split
      · exact Nat.le_trans ihr (by omega)
      · exact Nat.le_trans ihl (by omega)
    · rw [len_node]
      exact Nat.le_refl _
theorem reachU {w : World} {gt a : Nat} {l : Int} {T : Tr} {S0 : Nat → Prop} (ha : a < 4294967296) (H : TrieP w gt T S0) : Calls Try.prog 39 #[ptr gt, pv a l] w (RchU w a l T) := by
  have hpl := H.2.pl
  by_cases hv : vldB a l = false
  · refine (reach_bad ha hv H.1 hpl).mono ?_
    rintro e W ⟨rfl, hb⟩
    obtain ⟨v, h1, h2⟩ := (hpl.below hb).val
    refine ⟨gt, 0, v, T, S0, rfl, cel_at h2, h1, H.1, Nat.le_refl _, ?_, hb⟩
    have e1 : undR a l (routes T) = [] := by
      unfold undR
      rw [List.filter_eq_nil_iff]
      intro r _
      rw [covB_badU hv]
      simp
    rw [e1]
    cases T with
    | nil => rfl
    | node q x h tl tr =>
      rw [undS_node, if_neg (by rw [covB_badU hv]; simp)]
  · obtain ⟨n, rfl, hp⟩ := good_px ha hv
    refine (reach_any (p := (a, n)) hp H.1 hpl H.2.lt).mono ?_
    rintro e W ⟨⟨b, off, sp⟩, k, S, s, rfl, hs, hws, -, -, hr, hsp, hb⟩
    obtain rfl : sp = none := hs
    obtain ⟨v, h1, h2⟩ := hsp.pl.val
    refine ⟨b, off, v, s, S, rfl, cel_at h2, h1, hws, by rw [hr]; exact reach_len, ?_, hb⟩
    have e1 : undR a (n : Int) (routes T) = underT (a, n) T := by
      rw [under_eq hp H.1]
      unfold undR
      refine List.filter_congr fun r hr => ?_
      have := covB_vld hp (routes_vldU H.1 r hr)
      rw [Bool.eq_iff_iff, decide_eq_true_iff]
      exact this
    rw [e1]
    unfold underT
    rw [← hr]
    cases s with
    | nil => rfl
    | node q x h tl tr =>
      have hq : Vld q := hws.1
      have := covB_vld hp hq
      rw [undS_node]
      by_cases hc : Cov (a, n) q
      · rw [if_pos (this.2 hc)]
        exact if_pos hc
      · rw [if_neg (fun h => hc (this.1 h))]
        exact if_neg hc
set_option maxRecDepth 100000 in
set_option maxHeartbeats 8000000 in
theorem under_any {w : World} {gt a : Nat} {l : Int} {T : Tr} {S0 : Nat → Prop} (H : TrieP w gt T S0) (ha : a < 4294967296) (hl : (routes T).length ≤ 1000) :
    Calls Try.prog 21 #[.pointer (some ⟨gt, 0, none⟩), pv a l] w (UnQ w (undR a l (routes T))) := by
  obtain ⟨w1, hw1, S⟩ : ∃ w1, w.alloc (.cells #[.int .u32 (a : Int), .int .i64 l] 35) = w1 ∧ Hid (Sr w [fun W => TrieP W gt T S0] [(w.heap.size, [.int .u32 (a : Int), .int .i64 l], 35)] w1) :=
    ⟨_, rfl, ((Sr.start w).push (stb_trieP _ _ _) H).alloc [.int .u32 (a : Int), .int .i64 l] 35⟩
  have hR := Lib.hid (reachU (l := l) ha (S.out.fact 0 rfl : TrieP w1 gt T S0))
  unfold ptr at hR
  clear H
  have c0x0 := (S.out.at 0 rfl).cell (i := 0) rfl
  have c0x1 := (S.out.at 0 rfl).cell (i := 1) rfl
  go_enter Try.func21, Try.ntmps21
  go_wp2_with fail
  refine hR.out.mono ?_
  rintro e w2 ⟨b, off, v, s, S1, rfl, hc, hat, hws, hls, hu, hb⟩
  replace S := Lib.hid (S.out.below hb)
  have HU := Lib.hid hu
  clear hR hw1 hb c0x0 c0x1 hu
  cases s with
  | nil =>
    obtain rfl := hat.nil_val
    have HQ := Lib.hid (show UnQ w (undR a l (routes T)) (.returned (.slice none 0 0)) w2.drew from ⟨_, rfl, by rw [HU.out]; exact OwnT.nil _ _, S.out.drew.low⟩)
    clear hat hws hls
    go_wp2_with fail
    refine wp_region_held_drew (S := fun _ => True) (by kernel_rfl) trivial (fun hHeld => ?_)
    generalize w2.drew = w3 at HQ ⊢
    clear hc
    refine wpAnyH_takeD 0 (v := ?_) rfl rfl (by kernel_rfl) (by kernel_rfl) (by kernel_rfl) (fun _ _ _ h => h) (Or.inl ⟨by rfl, ?_⟩) hHeld ?_
    rotate_left
    focus (intro w hSw; (try dsimp only at hSw); go_simp; try with_reducible rfl)
    try simp only [List.setIfInBounds_toArray, List.set_cons_zero, List.set_cons_succ]
    refine wpAnyH_takeD 1 (v := ?_) rfl rfl (by kernel_rfl) (by kernel_rfl) (by kernel_rfl) (fun _ _ _ h => h) (Or.inl ⟨by rfl, ?_⟩) hHeld ?_
    rotate_left
    focus (intro w hSw; (try dsimp only at hSw); go_simp; try with_reducible rfl)
    try simp only [List.setIfInBounds_toArray, List.set_cons_zero, List.set_cons_succ]
    refine wpAnyH_takeD 2 (v := ?_) rfl rfl (by kernel_rfl) (by kernel_rfl) (by kernel_rfl) (fun _ _ _ h => h) (Or.inl ⟨by rfl, ?_⟩) hHeld ?_
    rotate_left
    focus (intro w hSw; (try dsimp only at hSw); go_simp; try with_reducible rfl)
    try simp only [List.setIfInBounds_toArray, List.set_cons_zero, List.set_cons_succ]
    refine wpAnyH_takeD 3 (v := undef) rfl rfl (by kernel_rfl) (by kernel_rfl) (by kernel_rfl) (fun _ _ _ h => h) (Or.inr ⟨by rfl, rfl⟩) hHeld ?_
    simp only [List.setIfInBounds_toArray, List.set_cons_zero, List.set_cons_succ]
    refine wpAnyH_takeD 4 (v := undef) rfl rfl (by kernel_rfl) (by kernel_rfl) (by kernel_rfl) (fun _ _ _ h => h) (Or.inr ⟨by rfl, rfl⟩) hHeld ?_
    simp only [List.setIfInBounds_toArray, List.set_cons_zero, List.set_cons_succ]
    refine wpAnyH_takeD 5 (v := undef) rfl rfl (by kernel_rfl) (by kernel_rfl) (by kernel_rfl) (fun _ _ _ h => h) (Or.inr ⟨by rfl, rfl⟩) hHeld ?_
    simp only [List.setIfInBounds_toArray, List.set_cons_zero, List.set_cons_succ]
    refine wpAnyH_takeD 6 (v := undef) rfl rfl (by kernel_rfl) (by kernel_rfl) (by kernel_rfl) (fun _ _ _ h => h) (Or.inr ⟨by rfl, rfl⟩) hHeld ?_
    simp only [List.setIfInBounds_toArray, List.set_cons_zero, List.set_cons_succ]
    refine wpAnyH_takeD 7 (v := undef) rfl rfl (by kernel_rfl) (by kernel_rfl) (by kernel_rfl) (fun _ _ _ h => h) (Or.inr ⟨by rfl, rfl⟩) hHeld ?_
    simp only [List.setIfInBounds_toArray, List.set_cons_zero, List.set_cons_succ]
    refine wpAnyH_takeD 8 (v := undef) rfl rfl (by kernel_rfl) (by kernel_rfl) (by kernel_rfl) (fun _ _ _ h => h) (Or.inr ⟨by rfl, rfl⟩) hHeld ?_
    simp only [List.setIfInBounds_toArray, List.set_cons_zero, List.set_cons_succ]
    refine wpAnyH_takeD 9 (v := undef) rfl rfl (by kernel_rfl) (by kernel_rfl) (by kernel_rfl) (fun _ _ _ h => h) (Or.inr ⟨by rfl, rfl⟩) hHeld ?_
    simp only [List.setIfInBounds_toArray, List.set_cons_zero, List.set_cons_succ]
    refine wpAnyH_takeD 10 (v := ?_) rfl rfl (by kernel_rfl) (by kernel_rfl) (by kernel_rfl) (fun _ _ _ h => h) (Or.inl ⟨by rfl, ?_⟩) hHeld ?_
    rotate_left
    focus (intro w hSw; (try dsimp only at hSw); go_simp; try with_reducible rfl)
    try simp only [List.setIfInBounds_toArray, List.set_cons_zero, List.set_cons_succ]
    refine wpAnyH_done (by kernel_rfl) ?_ _
    clear hHeld
    go_wp2_with fail
    go_ret
    exact HQ.out
  | node q x h tl tr =>
    have HAT := Lib.hid hat
    obtain ⟨g, u, z, rfl, hg, hbk⟩ := hat.node_val
    have HC := Lib.hid (fun W => covers_any a l q.1 (q.2 : Int) W ha (vld_lt hws.1))
    have HBK := Lib.hid hbk
    have q0 := hbk.cell (i := 0) rfl
    have q1 := hbk.cell (i := 1) rfl
    have c0x0 := (S.out.at 0 rfl).cell (i := 0) rfl
    have c0x1 := (S.out.at 0 rfl).cell (i := 1) rfl
    unfold ptr at hc HAT
    clear hat hg hbk hws
    go_wp2_with fail
    refine wp_region_held_drew (S := fun W' => W'.cell? ⟨g, 0, none⟩ = some (.int .u32 (q.1 : Int)) ∧ W'.cell? ⟨g, 1, none⟩ = some (.int .i64 (q.2 : Int)) ∧ W'.cell? ⟨w.heap.size, 0, none⟩ = some (.int .u32 (a : Int)) ∧ W'.cell? ⟨w.heap.size, 1, none⟩ = some (.int .i64 l)) (by kernel_rfl) ⟨q0, q1, c0x0, c0x1⟩ (fun hHeld => ?_)
    have hdr : Below w2.heap.size w2 w2.drew := (Below.refl _ _).drew
    replace S := Lib.hid (S.out.below hdr)
    replace HAT := Lib.hid (HAT.out.below hdr)
    replace HBK := Lib.hid (HBK.out.step hdr)
    clear hdr
    generalize w2.drew = w3 at S HAT HBK hHeld ⊢
    clear q0 q1 c0x0 c0x1 hc
    refine wpAnyH_takeD 0 (v := ?_) rfl rfl (by kernel_rfl) (by kernel_rfl) (by kernel_rfl) (fun _ _ _ h => h) (Or.inl ⟨by rfl, ?_⟩) hHeld ?_
    rotate_left
    focus (intro w hSw; (try dsimp only at hSw); go_simp; try with_reducible rfl)
    try simp only [List.setIfInBounds_toArray, List.set_cons_zero, List.set_cons_succ]
    refine wpAnyH_takeD 1 (v := ?_) rfl rfl (by kernel_rfl) (by kernel_rfl) (by kernel_rfl) (fun _ _ _ h => h) (Or.inl ⟨by rfl, ?_⟩) hHeld ?_
    rotate_left
    focus (intro w hSw; (try dsimp only at hSw); go_simp; try with_reducible rfl)
    try simp only [List.setIfInBounds_toArray, List.set_cons_zero, List.set_cons_succ]
    refine wpAnyH_takeD 2 (v := ?_) rfl rfl (by kernel_rfl) (by kernel_rfl) (by kernel_rfl) (fun _ _ _ h => h) (Or.inl ⟨by rfl, ?_⟩) hHeld ?_
    rotate_left
    focus (intro w hSw; (try dsimp only at hSw); go_simp; try with_reducible rfl)
    try simp only [List.setIfInBounds_toArray, List.set_cons_zero, List.set_cons_succ]
    refine wpAnyH_takeD 3 (v := ?_) rfl rfl (by kernel_rfl) (by kernel_rfl) (by kernel_rfl) (fun _ _ _ h => h) (Or.inl ⟨by rfl, ?_⟩) hHeld ?_
    rotate_left
    focus (intro w hSw; (try dsimp only at hSw); go_simp; try with_reducible rfl)
    try simp only [List.setIfInBounds_toArray, List.set_cons_zero, List.set_cons_succ]
    refine wpAnyH_takeD 4 (v := ?_) rfl rfl (by kernel_rfl) (by kernel_rfl) (by kernel_rfl) (fun _ _ _ h => h) (Or.inl ⟨by rfl, ?_⟩) hHeld ?_
    rotate_left
    focus (intro w hSw; (try dsimp only at hSw); go_simp; try with_reducible rfl)
    try simp only [List.setIfInBounds_toArray, List.set_cons_zero, List.set_cons_succ]
    refine wpAnyH_takeD 5 (v := ?_) rfl rfl (by kernel_rfl) (by kernel_rfl) (by kernel_rfl) (fun _ _ _ h => h) (Or.inl ⟨by rfl, ?_⟩) hHeld ?_
    rotate_left
    focus (intro w hSw; (try dsimp only at hSw); go_simp; try with_reducible rfl)
    try simp only [List.setIfInBounds_toArray, List.set_cons_zero, List.set_cons_succ]
    refine wpAnyH_takeD 6 (v := ?_) rfl rfl (by kernel_rfl) (by kernel_rfl) (by kernel_rfl) (fun _ _ _ h => h) (Or.inl ⟨by rfl, ?_⟩) hHeld ?_
    rotate_left
    focus (intro w hSw; (try dsimp only at hSw); go_simp; try with_reducible rfl)
    try simp only [List.setIfInBounds_toArray, List.set_cons_zero, List.set_cons_succ]
    refine wpAnyH_takeD 7 (v := ?_) rfl rfl (by kernel_rfl) (by kernel_rfl) (by kernel_rfl) (fun _ _ _ h => h) (Or.inl ⟨by rfl, ?_⟩) hHeld ?_
    rotate_left
    focus (intro w hSw; (try dsimp only at hSw); go_simp; try with_reducible rfl)
    try simp only [List.setIfInBounds_toArray, List.set_cons_zero, List.set_cons_succ]
    by_cases hcv : covB a l q.1 (q.2 : Int) = true
    · rw [hcv] at HC
      have HU2 := Lib.hid (show undR a l (routes T) = routes (.node q x h tl tr) from by rw [HU.out, undS_node, if_pos hcv])
      clear hcv HU
      refine wpAnyH_ready (rs := [8]) (by kernel_rfl) (by simp) ?_
      refine AllReadyH.cons rfl (fun K hK => ?_) AllReadyH.nil
      go_simp
      refine (HC.out _).mono ?_
      rintro e w4 ⟨rfl, hb⟩
      replace S := Lib.hid (S.out.below hb)
      replace HAT := Lib.hid (HAT.out.below hb)
      replace HBK := Lib.hid (HBK.out.step hb)
      clear hb HC
      refine hK.out _ _ ⟨HBK.out.cell rfl, HBK.out.cell rfl, (S.out.at 0 rfl).cell rfl, (S.out.at 0 rfl).cell rfl⟩ (fun hHeld => ?_)
      clear hK K
      refine wpAnyH_takeD 9 (v := ?_) rfl rfl (by kernel_rfl) (by kernel_rfl) (by kernel_rfl) (fun _ _ _ h => h) (Or.inl ⟨by rfl, ?_⟩) hHeld ?_
      rotate_left
      focus (intro w hSw; (try dsimp only at hSw); go_simp; try with_reducible rfl)
      try simp only [List.setIfInBounds_toArray, List.set_cons_zero, List.set_cons_succ]
      refine wpAnyH_takeD 10 (v := ?_) rfl rfl (by kernel_rfl) (by kernel_rfl) (by kernel_rfl) (fun _ _ _ h => h) (Or.inl ⟨by rfl, ?_⟩) hHeld ?_
      rotate_left
      focus (intro w hSw; (try dsimp only at hSw); go_simp; try with_reducible rfl)
      try simp only [List.setIfInBounds_toArray, List.set_cons_zero, List.set_cons_succ]
      refine wpAnyH_done (by kernel_rfl) ?_ _
      clear hHeld HBK
      obtain ⟨gb, hgb⟩ : ∃ gb, w4.heap.size = gb := ⟨_, rfl⟩
      obtain ⟨w5, hw5⟩ : ∃ w5, w4.alloc (.cells #[.slice none 0 0] slT) = w5 := ⟨_, rfl⟩
      have HB5 := Lib.hid (show Below w4.heap.size w4 w5 from by rw [← hw5]; exact (Below.refl _ _).alloc (Nat.le_refl _) _)
      have HI : UnI w4 gb [] w5 := ⟨HB5.out, by rw [← hgb]; exact Nat.le_refl _, .slice none 0 0, by rw [← hw5, ← hgb]; exact Blk.new w4 [.slice none 0 0] slT, OwnT.nil _ _, none, 0, 0, rfl⟩
      have HV := Lib.hid (visitU (.node q x h tl tr) _ [] w5 S1 HAT.out HI (by simp; omega))
      have HLow := Lib.hid S.out.low
      unfold cloV at HV
      clear HI HB5 HAT S hls
      go_wp2_with fail
      refine HV.out.mono ?_
      rintro e w6 ⟨rfl, low, -, v, hblk, how, A2, n2, c2, rfl⟩
      have q0 := hblk.cell (i := 0) rfl
      have HQ := Lib.hid (show UnQ w (undR a l (routes T)) (.returned (.slice A2 n2 c2)) w6 from ⟨_, rfl, by rw [HU2.out]; exact how.down HLow.out.size, HLow.out.trans (low.mono HLow.out.size)⟩)
      clear hblk how low HV hw5 hgb HLow
      go_wp2_with fail
      go_ret
      exact HQ.out
    · rw [Bool.eq_false_iff.2 hcv] at HC
      have HU2 := Lib.hid (show undR a l (routes T) = [] from by rw [HU.out, undS_node, if_neg hcv])
      clear hcv HU
      refine wpAnyH_ready (rs := [8]) (by kernel_rfl) (by simp) ?_
      refine AllReadyH.cons rfl (fun K hK => ?_) AllReadyH.nil
      go_simp
      refine (HC.out _).mono ?_
      rintro e w4 ⟨rfl, hb⟩
      replace S := Lib.hid (S.out.below hb)
      replace HBK := Lib.hid (HBK.out.step hb)
      have HQ := Lib.hid (show UnQ w (undR a l (routes T)) (.returned (.slice none 0 0)) w4 from ⟨_, rfl, by rw [HU2.out]; exact OwnT.nil _ _, S.out.low⟩)
      clear hb HC
      refine hK.out _ _ ⟨HBK.out.cell rfl, HBK.out.cell rfl, (S.out.at 0 rfl).cell rfl, (S.out.at 0 rfl).cell rfl⟩ (fun hHeld => ?_)
      clear hK K
      refine wpAnyH_takeD 9 (v := ?_) rfl rfl (by kernel_rfl) (by kernel_rfl) (by kernel_rfl) (fun _ _ _ h => h) (Or.inl ⟨by rfl, ?_⟩) hHeld ?_
      rotate_left
      focus (intro w hSw; (try dsimp only at hSw); go_simp; try with_reducible rfl)
      try simp only [List.setIfInBounds_toArray, List.set_cons_zero, List.set_cons_succ]
      refine wpAnyH_takeD 10 (v := ?_) rfl rfl (by kernel_rfl) (by kernel_rfl) (by kernel_rfl) (fun _ _ _ h => h) (Or.inl ⟨by rfl, ?_⟩) hHeld ?_
      rotate_left
      focus (intro w hSw; (try dsimp only at hSw); go_simp; try with_reducible rfl)
      try simp only [List.setIfInBounds_toArray, List.set_cons_zero, List.set_cons_succ]
      refine wpAnyH_done (by kernel_rfl) ?_ _
      clear hHeld HBK HAT S
      go_wp2_with fail
      go_ret
      exact HQ.out
end Go.Proofs.Ytamkegnnlbefdaa
