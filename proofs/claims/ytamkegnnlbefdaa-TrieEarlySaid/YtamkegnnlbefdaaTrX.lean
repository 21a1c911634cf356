/- Contract of package trie: Remove. -/
import Derived.Test.YtamkegnnlbefdaaTrW
namespace Go.Proofs.Ytamkegnnlbefdaa
open Go.RowKit

theorem routes_tidyT (p : Px) (t : Tr) : routes (tidyT p t) = routes t := by
  induction t with
  | nil => rfl
  | node q x h l r ihl ihr =>
    simp only [tidyT]
    split
    · exact routes_tidy _ _ _ _ _
    · split
      · rw [routes_tidy]; simp [routes, ihr]
      · rw [routes_tidy]; simp [routes, ihl]
/-- What Remove leaves. -/
def RemQ (w : World) (gt : Nat) (p : Px) (T : Tr) (S0 : Nat → Prop) (e : Ending) (W : World) : Prop :=
  (valT p (reachT p T) = none ∧ e = .returned (.int .i64 8) ∧ Below w.heap.size w W) ∨
  ((valT p (reachT p T)).isSome = true ∧ e = .returned (.int .i64 0) ∧ TrieP W gt (del p T) S0 ∧ Fr (fun g => S0 g ∨ g = gt) w W)
/-- The tree with the mark taken away: what tidy is given, and what it makes of it. -/
theorem rem_math {p : Px} {k : Tr → Tr} {T : Tr} {x : Int} {l r : Tr} (hw : WF T) (hk : Pth p k) (hT : T = k (.node p x true l r)) (_hr : reachT p T = .node p x true l r) :
    InT p (k (.node p 0 false l r)) ∧ Low (k (.node p 0 false l r)) ∧ cnt (k (.node p 0 false l r)) = cnt T ∧ tidyT p (k (.node p 0 false l r)) = del p T ∧ (routes (del p T)).length + 1 = (routes T).length := by
  have e1 : reachT p (k (.node p 0 false l r)) = .node p 0 false l r := by
    rw [hk.creach]
    simp [reachT]
  have e2 : tidyT p (k (.node p 0 false l r)) = del p T := by
    rw [hT]
    exact hk.cdel _ _ (by simp [tidyT, del])
  have hlow : Low (k (.node p x true l r)) := by rw [← hT]; exact low_of_wf hw
  obtain ⟨h1, h2⟩ := hk.clow _ hlow
  have hc := hk.ccnt (.node p x true l r) (.node p 0 false l r)
  have hl := hk.clen (.node p x true l r) (.node p 0 false l r)
  refine ⟨inT_reach e1, h2 _ ⟨h1.1, h1.2.1, h1.2.2⟩, ?_, e2, ?_⟩
  · rw [hT]
    rw [cnt_node, cnt_node] at hc
    omega
  · rw [← e2, routes_tidyT, hT]
    simp [routes] at hl
    omega
set_option maxRecDepth 100000 in
set_option maxHeartbeats 8000000 in
theorem remove_any {w : World} {gt : Nat} {p : Px} {T : Tr} {S0 : Nat → Prop} (hp : Vld p) (H : TrieP w gt T S0) (hN : cnt T < 4611686018427387900) :
    Calls Try.prog 26 #[ptr gt, pv p.1 p.2] w (RemQ w gt p T S0) := by
  obtain ⟨w1, hw1, S⟩ : ∃ w1, w.alloc (.cells #[.int .u32 (p.1 : Int), .int .i64 (p.2 : Int)] 35) = w1 ∧ Hid (Sr w [fun W => TrieP W gt T S0] [(w.heap.size, [.int .u32 (p.1 : Int), .int .i64 (p.2 : Int)], 35)] w1) :=
    ⟨_, rfl, ((Sr.start w).push (stb_trieP _ _ _) H).alloc [.int .u32 (p.1 : Int), .int .i64 (p.2 : Int)] 35⟩
  have hV := Lib.hid (fun W => valid_any p.1 (p.2 : Int) W (vld_lt hp))
  rw [(vldB_vld (vld_lt hp)).2 hp] at hV
  have hFd := Lib.hid (fun W (H : TrieP W gt T S0) => find_any hp H.1 H.2.pl H.2.lt)
  have hR : (routes T).length ≤ cnt T := (cnt_bounds H.1).1
  have HP := Lib.hid (show WF T ∧ (routes T).length < 4611686018427387900 ∧ cnt T < 4611686018427387900 ∧ w.heap.size ≠ gt ∧ (∀ g, S0 g → g < w.heap.size) ∧ ¬ S0 gt from ⟨H.1, by omega, hN, fun e => by obtain ⟨r9, hB9, -⟩ := H.2.blk; have := hB9.lt; omega, H.2.lt, H.2.out⟩)
  unfold ptr at hFd ⊢
  clear H hN hp hR
  go_enter Try.func26, Try.ntmps26
  have c0x0 := (S.out.at 0 rfl).cell (i := 0) rfl
  have c0x1 := (S.out.at 0 rfl).cell (i := 1) rfl
  go_wp2_with fail
  refine (hV.out _).mono ?_
  rintro e w2 ⟨rfl, hb⟩
  replace S := Lib.hid (S.out.below hb)
  clear hb hw1 hV c0x0 c0x1
  have c0x0 := (S.out.at 0 rfl).cell (i := 0) rfl
  have c0x1 := (S.out.at 0 rfl).cell (i := 1) rfl
  go_wp2_with fail
  refine (hFd.out _ (S.out.fact 0 rfl)).mono ?_
  rintro e w3 ⟨a, k, S1, s, hs, hws, hPk, hT, hsr, hSp, hb, hcase⟩
  replace S := Lib.hid (S.out.below hb)
  clear hb hFd c0x0 c0x1
  rcases hcase with ⟨hv, rfl⟩ | ⟨x, l, r, g, u, v, rfl, rfl, hca, hbn, hSg⟩
  · have HQ := Lib.hid (show valT p (reachT p T) = none from by rw [← hsr]; exact hv)
    clear hv hSp hsr hT hPk hws
    go_wp2_with fail
    go_ret
    exact .inl ⟨HQ.out, rfl, S.out.low⟩
  · obtain ⟨hI, hLo, hcn, htd, hrl⟩ := rem_math HP.out.1 hPk hT hsr.symm
    have hTM : TrieM w3 gt T S0 (routes T).length (cnt T) := (S.out.fact 0 rfl : TrieP w3 gt T S0).2
    obtain ⟨r1, hB, -⟩ := hTM.blk
    have hng : g ≠ gt := fun e => HP.out.2.2.2.2.2 (e ▸ hSp.sub g hSg)
    have hxn : w.heap.size ≠ g := fun e => by have := HP.out.2.2.2.2.1 g (hSp.sub g hSg); omega
    have hgS : S0 g := hSp.sub g hSg
    obtain ⟨R, hR⟩ : ∃ R, (routes T).length = R := ⟨_, rfl⟩
    obtain ⟨R', hR'⟩ : ∃ R', (routes (del p T)).length = R' := ⟨_, rfl⟩
    rw [hR'] at hrl
    rw [hR] at hB hrl
    have hwR : IntKind.i64.wrap ((R : Int) - 1) = (R' : Int) := (IntWalk.i64_in _ (by have := HP.out.2.1; omega)).trans (by omega)
    obtain ⟨w4, hw4⟩ : ∃ w4, w3.setCell ⟨g, 2, none⟩ (.int .i64 0) = w4 := ⟨_, rfl⟩
    have B4 : Blk w4 g (ndC p 0 true u v) ndT := by rw [← hw4]; exact hbn.set_ 2 _
    have G4 : Blk w4 gt (trC r1 R (cnt T)) trT := by rw [← hw4]; exact hB.far (p := ⟨g, 2, none⟩) hng.symm _
    obtain ⟨w5, hw5⟩ : ∃ w5, w4.setCell ⟨g, 3, none⟩ (.bool false) = w5 := ⟨_, rfl⟩
    have B5 : Blk w5 g (ndC p 0 false u v) ndT := by rw [← hw5]; exact B4.set_ 3 _
    have G5 : Blk w5 gt (trC r1 R (cnt T)) trT := by rw [← hw5]; exact G4.far (p := ⟨g, 3, none⟩) hng.symm _
    obtain ⟨w6, hw6⟩ : ∃ w6, w5.setCell ⟨gt, 1, none⟩ (.int .i64 (R' : Int)) = w6 := ⟨_, rfl⟩
    have B6 : Blk w6 g (ndC p 0 false u v) ndT := by rw [← hw6]; exact B5.far (p := ⟨gt, 1, none⟩) hng _
    have G6 : Blk w6 gt (trC r1 R' (cnt T)) trT := by rw [← hw6]; exact G5.set_ 1 _
    have X6 : Blk w6 w.heap.size [.int .u32 (p.1 : Int), .int .i64 (p.2 : Int)] 35 := by
      rw [← hw6, ← hw5, ← hw4]
      exact (((S.out.at 0 rfl).far (p := ⟨g, 2, none⟩) hxn _).far (p := ⟨g, 3, none⟩) hxn _).far (p := ⟨gt, 1, none⟩) HP.out.2.2.2.1 _
    have F6 : Fr (fun j => j = g ∨ j = gt) w3 w6 := by
      rw [← hw6, ← hw5, ← hw4]
      exact ((Fr.set w3 ⟨g, 2, none⟩ _ (S := fun j => j = g ∨ j = gt) (.inl rfl)).trans (Fr.set _ ⟨g, 3, none⟩ _ (S := fun j => j = g ∨ j = gt) (.inl rfl)) (fun _ h => h) (fun _ h => .inl h)).trans (Fr.set _ ⟨gt, 1, none⟩ _ (S := fun j => j = g ∨ j = gt) (.inr rfl)) (fun _ h => h) (fun _ h => .inl h)
    have M6 : TrieM w6 gt (k (.node p 0 false l r)) S0 R' (cnt T) := node_upd hSp hca hbn hSg hB B6 G6 (fun j h1 h2 h3 => F6.block j h1 (fun e => e.elim h2 h3)) F6.size
    have n2 := hbn.cell (i := 2) rfl
    have nf2 := hbn.frozen (i := 2)
    have n3 := B4.cell (i := 3) rfl
    have nf3 := B4.frozen (i := 3)
    have t1 := G5.cell (i := 1) rfl
    have tf1 := G5.frozen (i := 1)
    have HF6 := Lib.hid (show Fr (fun j => S0 j ∨ j = gt) w w6 from (Fr.of_below S.out.low).trans F6 (fun _ h => h) (fun j hj => .inl (by
      rcases hj with rfl | rfl
      · exact .inl hgS
      · exact .inr rfl)))
    obtain ⟨r2, hG2, hA2⟩ := M6.blk
    have S2 := Lib.hid ((((Sr.start w6).push (stb_blk w.heap.size _ _) X6).push (stb_at _ _ _) hA2).push (stb_blk gt _ _) hG2)
    have hsz : ∀ j, S0 j → j < w6.heap.size := fun j hj => Nat.lt_of_lt_of_le (hTM.lt j hj) F6.size
    have HTd := Lib.hid (fun W (hA : At (k (.node p 0 false l r)) W r2 S0) (hG : Blk W gt (trC r2 R' (cnt T)) trT) (hl : ∀ j, S0 j → j < W.heap.size) => tidy_any (p := p) (k (.node p 0 false l r)) hI hLo hA hG HP.out.2.2.2.2.2 hl (by rw [hcn]; exact Nat.le_refl _) HP.out.2.2.1)
    rw [htd, hcn] at HTd
    have hcx : cnt T + cnt (del p T) - cnt T = cnt (del p T) := by omega
    rw [hcx] at HTd
    have HSZ := Lib.hid hsz
    have HV := Lib.hid (show (valT p (reachT p T)).isSome = true from by rw [← hsr]; simp [valT])
    have HR' := Lib.hid hR'
    have HX := Lib.hid (show w.heap.size < w6.heap.size from X6.lt)
    clear hcx hsz hA2 hG2 M6 F6 X6 G6 B6 G5 B5 G4 B4 hgS hxn hng hTM hB hI hLo hcn htd hrl hR hR' hca hbn hSg hSp hws hPk hsr hs S hT
    generalize k (.node p 0 false l r) = T3 at S2 HTd
    unfold ptr at HTd ⊢
    go_wp2_with fail
    clear n2 nf2 n3 nf3 t1 tf1 hw4 hw5 hw6 hwR
    obtain ⟨S, hST⟩ : ∃ S, S = S2 := ⟨_, rfl⟩
    clear hST S2
    refine wp_region_held_drew (S := fun W' => W'.cell? ⟨w.heap.size, 0, none⟩ = some (.int .u32 (p.1 : Int)) ∧ W'.cell? ⟨w.heap.size, 1, none⟩ = some (.int .i64 (p.2 : Int))) (by kernel_rfl) ⟨(((S.out.drew)).fact 2 rfl).cell (i := 0) rfl, (((S.out.drew)).fact 2 rfl).cell (i := 1) rfl⟩ (fun hHeld => ?_)
    replace S := Lib.hid S.out.drew
    generalize w6.drew = w7 at S hHeld ⊢
    refine wpAnyH_takeD 0 (v := ?_) rfl rfl (by kernel_rfl) (by kernel_rfl) (by kernel_rfl) (fun _ _ _ h => h) (Or.inl ⟨by rfl, ?_⟩) hHeld ?_
    rotate_left
    focus (intro w hSw; (try dsimp only at hSw); go_simp; try with_reducible rfl)
    try simp only [List.setIfInBounds_toArray, List.set_cons_zero, List.set_cons_succ]
    refine wpAnyH_takeD 1 (v := ?_) rfl rfl (by kernel_rfl) (by kernel_rfl) (by kernel_rfl) (fun _ _ _ h => h) (Or.inl ⟨by rfl, ?_⟩) hHeld ?_
    rotate_left
    focus (intro w hSw; (try dsimp only at hSw); go_simp; try with_reducible rfl)
    try simp only [List.setIfInBounds_toArray, List.set_cons_zero, List.set_cons_succ]
    refine wpAnyH_takeD 2 (v := ?_) rfl rfl (by kernel_rfl) (by kernel_rfl) (by kernel_rfl) (fun _ _ _ h => h) (Or.inl ⟨by rfl, ?_⟩) hHeld ?_
    rotate_left
    focus (intro w hSw; (try dsimp only at hSw); go_simp; try with_reducible rfl)
    try simp only [List.setIfInBounds_toArray, List.set_cons_zero, List.set_cons_succ]
    refine wpAnyH_takeD 3 (v := ?_) rfl rfl (by kernel_rfl) (by kernel_rfl) (by kernel_rfl) (fun _ _ _ h => h) (Or.inl ⟨by rfl, ?_⟩) hHeld ?_
    rotate_left
    focus (intro w hSw; (try dsimp only at hSw); go_simp; try with_reducible rfl)
    try simp only [List.setIfInBounds_toArray, List.set_cons_zero, List.set_cons_succ]
    refine wpAnyH_takeD 4 (v := ?_) rfl rfl (by kernel_rfl) (by kernel_rfl) (by kernel_rfl) (fun _ _ _ h => h) (Or.inl ⟨by rfl, ?_⟩) hHeld ?_
    rotate_left
    focus (intro w hSw; (try dsimp only at hSw); go_simp; try with_reducible rfl)
    try simp only [List.setIfInBounds_toArray, List.set_cons_zero, List.set_cons_succ]
    refine wpAnyH_takeD 6 (v := ?_) rfl rfl (by kernel_rfl) (by kernel_rfl) (by kernel_rfl) (fun _ _ _ h => h) (Or.inl ⟨by rfl, ?_⟩) hHeld ?_
    rotate_left
    focus (intro w hSw; (try dsimp only at hSw); go_simp; try with_reducible rfl)
    try simp only [List.setIfInBounds_toArray, List.set_cons_zero, List.set_cons_succ]
    have ck := (S.out.fact 0 rfl).cell (i := 0) rfl
    refine wpAnyH_ready (rs := [5]) (by kernel_rfl) (by simp) ?_
    refine AllReadyH.cons rfl (fun K hK => ?_) AllReadyH.nil
    go_simp
    refine hK.out _ _ ⟨(((S.out)).fact 2 rfl).cell (i := 0) rfl, (((S.out)).fact 2 rfl).cell (i := 1) rfl⟩ (fun hHeld => ?_)
    clear hK K
    clear ck
    refine wpAnyH_ready (rs := [7]) (by kernel_rfl) (by simp) ?_
    refine AllReadyH.cons rfl (fun K hK => ?_) AllReadyH.nil
    go_simp
    refine (HTd.out _ (S.out.fact 1 rfl) (S.out.fact 0 rfl) (fun j hj => Nat.lt_of_lt_of_le (HSZ.out j hj) S.out.low.size)).mono ?_
    rintro e w8 ⟨z, rfl, hz, hG, hfr⟩
    obtain ⟨o, rfl⟩ : ∃ o, z = .pointer o := by rcases kid_val hz with ⟨_, h1⟩ | ⟨_, g1, h1⟩ <;> exact ⟨_, h1⟩
    have hbx : Blk w8 w.heap.size [.int .u32 (p.1 : Int), .int .i64 (p.2 : Int)] 35 := Blk.same (S.out.fact 2 rfl) (hfr.block _ (Blk.lt (S.out.fact 2 rfl)) (fun e => e.elim (fun h => by have := HP.out.2.2.2.2.1 _ h; omega) (fun h => HP.out.2.2.2.1 h)))
    have HF8 := Lib.hid ((HF6.out.trans (Fr.of_below S.out.low (S := fun j => S0 j ∨ j = gt)) (fun _ h => h) (fun _ h => .inl h)).trans hfr (fun _ h => h) (fun _ h => .inl h))
    have T2 := Lib.hid ((((Sr.start w8).push (stb_blk w.heap.size _ _) hbx).push (stb_at _ _ _) hz).push (stb_blk gt _ _) hG)
    clear hbx hz hG hfr S HTd
    obtain ⟨S, hST⟩ : ∃ S, S = T2 := ⟨_, rfl⟩
    clear hST T2
    refine hK.out _ _ ⟨(((S.out)).fact 2 rfl).cell (i := 0) rfl, (((S.out)).fact 2 rfl).cell (i := 1) rfl⟩ (fun hHeld => ?_)
    clear hK K
    refine wpAnyH_takeD 8 (v := ?_) rfl rfl (by kernel_rfl) (by kernel_rfl) (by kernel_rfl) (fun _ _ _ h => h) (Or.inl ⟨by rfl, ?_⟩) hHeld ?_
    rotate_left
    focus (intro w hSw; (try dsimp only at hSw); go_simp; try with_reducible rfl)
    try simp only [List.setIfInBounds_toArray, List.set_cons_zero, List.set_cons_succ]
    refine wpAnyH_takeD 9 (v := ?_) rfl rfl (by kernel_rfl) (by kernel_rfl) (by kernel_rfl) (fun _ _ _ h => h) (Or.inl ⟨by rfl, ?_⟩) hHeld ?_
    rotate_left
    focus (intro w hSw; (try dsimp only at hSw); go_simp; try with_reducible rfl)
    try simp only [List.setIfInBounds_toArray, List.set_cons_zero, List.set_cons_succ]
    have ck := (S.out.fact 0 rfl).cell (i := 0) rfl
    have fk := (S.out.fact 0 rfl).frozen (i := 0)
    refine wpAnyH_ready (rs := [10]) (by kernel_rfl) (by simp) ?_
    refine AllReadyH.cons rfl (fun K hK => ?_) AllReadyH.nil
    go_simp
    clear ck fk
    have G9 : Blk (w8.setCell ⟨gt, 0, none⟩ (.pointer o)) gt (trC (.pointer o) R' (cnt (del p T))) trT := (S.out.fact 0 rfl).set_ 0 _
    have A9 : At (del p T) (w8.setCell ⟨gt, 0, none⟩ (.pointer o)) (.pointer o) S0 := At.keep (S.out.fact 1 rfl) (fun j hj _ => Below.heap_setCell w8 ⟨gt, 0, none⟩ (.pointer o) j (fun e => HP.out.2.2.2.2.2 ((show j = gt from e) ▸ hj)))
    have X9 : Blk (w8.setCell ⟨gt, 0, none⟩ (.pointer o)) w.heap.size [.int .u32 (p.1 : Int), .int .i64 (p.2 : Int)] 35 := (S.out.fact 2 rfl).far (p := ⟨gt, 0, none⟩) HP.out.2.2.2.1 _
    have F9 := HF8.out.trans (Fr.set w8 ⟨gt, 0, none⟩ (.pointer o) (S := fun j => S0 j ∨ j = gt) (.inr rfl)) (fun _ h => h) (fun _ h => .inl h)
    have HQ := Lib.hid (show RemQ w gt p T S0 (.returned (.int .i64 0)) (w8.setCell ⟨gt, 0, none⟩ (.pointer o)) from .inr ⟨HV.out, rfl, ⟨(del_wf HP.out.1).1, ⟨⟨.pointer o, by rw [HR'.out]; exact G9, A9⟩, HP.out.2.2.2.2.2, fun j hj => by have h1 := F9.size; have := HP.out.2.2.2.2.1 j hj; omega⟩⟩, F9⟩)
    have T2 := Lib.hid ((Sr.start _).push (stb_blk w.heap.size _ _) X9)
    generalize World.setCell w8 _ _ = w9 at HQ T2 ⊢
    clear G9 A9 X9 F9 S
    obtain ⟨S, hST⟩ : ∃ S, S = T2 := ⟨_, rfl⟩
    clear hST T2
    refine hK.out _ _ ⟨((S.out).fact 0 rfl).cell (i := 0) rfl, ((S.out).fact 0 rfl).cell (i := 1) rfl⟩ (fun hHeld => ?_)
    clear hK K
    refine wpAnyH_done (by kernel_rfl) ?_ _
    clear hHeld
    go_wp2_with fail
    go_ret
    exact HQ.out
theorem remove_bad {w : World} {gt pa : Nat} {pl : Int} (ha : pa < 4294967296) (hv : vldB pa pl = false) :
    Calls Try.prog 26 #[ptr gt, pv pa pl] w fun e W => e = .returned (.int .i64 1) ∧ Below w.heap.size w W := by
  obtain ⟨w1, hw1, S⟩ : ∃ w1, w.alloc (.cells #[.int .u32 (pa : Int), .int .i64 pl] 35) = w1 ∧ Hid (Sr w [] [(w.heap.size, [.int .u32 (pa : Int), .int .i64 pl], 35)] w1) :=
    ⟨_, rfl, (Sr.start w).alloc [.int .u32 (pa : Int), .int .i64 pl] 35⟩
  have hV := Lib.hid (fun W => valid_any pa pl W ha)
  rw [hv] at hV
  unfold ptr
  clear hv ha
  go_enter Try.func26, Try.ntmps26
  have c0x0 := (S.out.at 0 rfl).cell (i := 0) rfl
  have c0x1 := (S.out.at 0 rfl).cell (i := 1) rfl
  go_wp2_with fail
  refine (hV.out _).mono ?_
  rintro e w2 ⟨rfl, hb⟩
  replace S := Lib.hid (S.out.below hb)
  clear hb hw1 hV c0x0 c0x1
  go_wp2_with fail
  go_ret
  exact ⟨rfl, S.out.low⟩
end Go.Proofs.Ytamkegnnlbefdaa
