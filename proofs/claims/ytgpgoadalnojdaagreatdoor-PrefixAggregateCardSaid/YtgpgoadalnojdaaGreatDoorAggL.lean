/- The law PrefixOrder. -/
import Derived.Test.YtgpgoadalnojdaaGreatDoorAggK
namespace Go.Proofs.YtgpgoadalnojdaaGreatDoor
open Go.RowKit

/-- Three rows that hold one list. -/
structure SO (w : World) (v1 v2 v3 : Value) (X : List Px) (wr : World) : Prop where
  below : Below w.heap.size w wr
  one : OwnP wr w.heap.size v1 X
  two : OwnP wr w.heap.size v2 X
  three : OwnP wr w.heap.size v3 X
theorem SO.step {w wr wr' : World} {v1 v2 v3 : Value} {X : List Px} (h : SO w v1 v2 v3 X wr) (hb : Below wr.heap.size wr wr') : SO w v1 v2 v3 X wr' :=
  ⟨h.below.trans (hb.mono h.below.size), h.one.below hb, h.two.below hb, h.three.below hb⟩
theorem OwnP.px_at {w : World} {base m c : Nat} {A : Option Addr} {M : List Px} (h : OwnP w base (.slice A m c) M) (hm : M.length = m) (hV : ∀ p ∈ M, Vld p) : PxL w A m (xsOf M) := by
  subst hm
  obtain ⟨A', c', e, hp⟩ := h.px hV
  injection e with e1 _ e3
  subst e1
  exact hp
theorem OwnP.addr {w : World} {base m c : Nat} {A : Option Addr} {M : List Px} (h : OwnP w base (.slice A m c) M) (hm : M.length = m) (h0 : 0 < m) : ∃ g, A = some ⟨g, 0, none⟩ := by
  subst hm
  obtain ⟨g, cap, e, -⟩ := h.some_ h0
  injection e with e1 _ _
  exact ⟨g, e1⟩
theorem OwnP.cell_at {w : World} {base m c g : Nat} {M : List Px} (h : OwnP w base (.slice (some ⟨g, 0, none⟩) m c) M) (hm : M.length = m) {i : Nat} (hi : i < M.length) :
    w.cell? ⟨g, i * 2, none⟩ = some (.int .u32 (M[i].1 : Int)) ∧ w.cell? ⟨g, i * 2 + 1, none⟩ = some (.int .i64 (M[i].2 : Int)) := by
  subst hm
  exact h.cell hi
theorem px_nil_ (w : World) (xs : Nat → Nat × Int) : PxL w none 0 xs := fun i hi => by omega

theorem px_front {w : World} {a : Addr} {n c f : Nat} {xs : Nat → Nat × Int} (h : PxL w (some a) n xs) (hf : f ≤ n) (hnc : n ≤ c) :
    ∀ (j : Nat) u, (flr (n - f) (fun i => xs (f + i)))[j]? = some u → w.cell? ((if c = f then a else a.add (f * 2)).add j) = some u := by
  by_cases hcf : c = f
  · intro j u hu
    have h1 := (List.getElem?_eq_some_iff.1 hu).1
    rw [flr_length] at h1
    omega
  · rw [if_neg hcf]
    exact px_cells h (by omega)
theorem add_nought (a : Addr) : a.add 0 = a := by
  unfold Addr.add
  rw [if_pos rfl]
set_option maxRecDepth 100000 in
set_option maxHeartbeats 32000000 in
theorem lawOrder_few {w : World} {A : Option Addr} {n c f : Nat} {xs : Nat → Nat × Int} (hL : PxL w A n xs) (hV : Vars w) (hn : n ≤ 30) (hf : f ≤ n) (hnc : n ≤ c) (hc0 : A = none → c = 0) :
    Calls Tryz.prog 5 #[.slice A n c, .int .i64 (f : Int)] w fun e w' => e = .returned (.bool true) ∧ Below w.heap.size w w' := by
  have hAw := Lib.hid (fun (W : World) (hW : Below w.heap.size w W) => awake_any W (hV.below hW))
  have hFw := Lib.hid (few_any A n c)
  rw [decide_eq_true hn] at hFw
  have HL := Lib.hid hL
  have hAg := Lib.hid (fun (W : World) (hW : Below w.heap.size w W) => agg_v (c := c) (hL.below hW) (by omega))
  have hf1 : ¬ (f : Int) < 0 := by omega
  have hf2 : ¬ (n : Int) < (f : Int) := by omega
  have hf3 : (0 : Int) ≤ (f : Int) := by omega
  have hf4 : (f : Int) ≤ (n : Int) := by omega
  have hf5 : (n : Int) ≤ (c : Int) := by omega
  have hf6 : (f : Int) ≤ (c : Int) := by omega
  clear hV hL
  go_enter Tryz.func5, Tryz.ntmps5
  go_wp2_with fail
  refine (hAw.out _ (Below.refl _ _)).mono ?_
  rintro e w1 ⟨rfl, hb1⟩
  have H1 := Lib.hid hb1
  clear hb1
  go_wp2_with fail
  refine (hFw.out _).mono ?_
  rintro e w2 ⟨rfl, rfl⟩
  go_wp2_with fail
  refine (hAg.out _ H1.out).mono ?_
  rintro e w3 ⟨v1, X, e0, rfl, hU1⟩
  have HU := Lib.hid (And.intro hU1.canon (And.intro hU1.len hU1.what))
  have H3 := Lib.hid (show SI w v1 X w3 from ⟨H1.out.trans (hU1.below.mono H1.out.size), OwnP.base hU1.own H1.out.size⟩)
  clear hU1 H1 hAw hFw hAg
  go_wp2_with fail
  refine wp_region_held_drew (S := fun _ => True) (by kernel_rfl) trivial (fun hHeld => ?_)
  obtain ⟨wd, hwd⟩ : ∃ wd, w3.drew = wd := ⟨_, rfl⟩
  have HD := Lib.hid (H3.out.below (Below.refl _ w3).drew)
  rw [hwd] at HD ⊢
  have HBW := Lib.hid (show ∀ k, v1.ownBlock = some k → k < wd.heap.size from fun k hk => (HD.out.2.lt k hk).2)
  clear H3 hwd
  obtain ⟨i0, hi, hz0, hz9, hz8⟩ := info_parts infoPx
  have hcs : (pv 0 0).cells.size = 2 := by first | rfl | decide | kernel_rfl
  have hT := Tryz.underlying22
  cases A with
  | none =>
    obtain rfl : c = 0 := hc0 rfl
    obtain rfl : n = 0 := by omega
    obtain rfl : f = 0 := by omega
    refine wpAnyH_takeD 1 (v := ?_) rfl rfl (by kernel_rfl) (by kernel_rfl) (by kernel_rfl) (fun _ _ _ h => h) (Or.inl ⟨by rfl, ?_⟩) hHeld ?_
    rotate_left
    focus (intro w hSw; (try dsimp only at hSw); go_simp; try with_reducible rfl)
    simp only [List.setIfInBounds_toArray, List.set_cons_zero, List.set_cons_succ]
    refine wpAnyH_takeD 2 (v := ?_) rfl rfl (by kernel_rfl) (by kernel_rfl) (by kernel_rfl) (fun _ _ _ h => h) (Or.inl ⟨by rfl, ?_⟩) hHeld ?_
    rotate_left
    focus (intro w hSw; (try dsimp only at hSw); go_simp; try with_reducible rfl)
    simp only [List.setIfInBounds_toArray, List.set_cons_zero, List.set_cons_succ]
    refine wpAnyH_takeD 3 (v := ?_) rfl rfl (by kernel_rfl) (by kernel_rfl) (by kernel_rfl) (fun _ _ _ h => h) (Or.inl ⟨by rfl, ?_⟩) hHeld ?_
    rotate_left
    focus (intro w hSw; (try dsimp only at hSw); go_simp; try with_reducible rfl)
    simp only [List.setIfInBounds_toArray, List.set_cons_zero, List.set_cons_succ]
    refine wpAnyH_takeD 5 (v := ?_) rfl rfl (by kernel_rfl) (by kernel_rfl) (by kernel_rfl) (fun _ _ _ h => h) (Or.inl ⟨by rfl, ?_⟩) hHeld ?_
    rotate_left
    focus (intro w hSw; (try dsimp only at hSw); go_simp; try with_reducible rfl)
    simp only [List.setIfInBounds_toArray, List.set_cons_zero, List.set_cons_succ]
    refine wpAnyH_takeD 6 (v := ?_) rfl rfl (by kernel_rfl) (by kernel_rfl) (by kernel_rfl) (fun _ _ _ h => h) (Or.inl ⟨by rfl, ?_⟩) hHeld ?_
    rotate_left
    focus (intro w hSw; (try dsimp only at hSw); go_simp; try with_reducible rfl)
    simp only [List.setIfInBounds_toArray, List.set_cons_zero, List.set_cons_succ]
    refine wpAnyH_takeD 7 (v := ?_) rfl rfl (by kernel_rfl) (by kernel_rfl) (by kernel_rfl) (fun _ _ _ h => h) (Or.inl ⟨by rfl, ?_⟩) hHeld ?_
    rotate_left
    focus (intro w hSw; (try dsimp only at hSw); go_simp; try with_reducible rfl)
    simp only [List.setIfInBounds_toArray, List.set_cons_zero, List.set_cons_succ]
    refine wpAnyH_ready (rs := [0]) (by kernel_rfl) (by simp) ?_
    refine AllReadyH.cons rfl (fun K hK => ?_) AllReadyH.nil
    go_simp
    obtain ⟨wa, hwa⟩ : ∃ wa, wd.alloc (.cells #[] 32) = wa := ⟨_, rfl⟩
    have HA0 := Lib.hid (show wa.ownsRow wd.heap.size 32 2 (.slice (some ⟨wd.heap.size, 0, none⟩) 0 0) 0 [] by rw [← hwa]; exact World.ownsRow_made wd #[] 0 (Nat.le_refl _) (Nat.zero_le _) (by simp))
    have HDA := Lib.hid (HD.out.below (show Below wd.heap.size wd wa by rw [← hwa]; exact (Below.refl _ wd).alloc (Nat.le_refl _) _))
    have HSA := Lib.hid (show wd.heap.size ≤ wa.heap.size by rw [← hwa]; simp)
    rw [hwa]
    refine hK.out _ _ trivial (fun hHeld => ?_)
    clear hK K hwa
    refine wpAnyH_ready (rs := [4]) (by kernel_rfl) (by simp) ?_
    refine AllReadyH.cons rfl (fun K hK => ?_) AllReadyH.nil
    refine wp_append_none (.tmp 37) (.tmp 40) 22 rfl wd.heap.size 32 i0 2 hT hi _ 0 [] rfl HA0.out rfl ?_
    refine hK.out _ _ trivial (fun hHeld => ?_)
    clear hK K
    refine wpAnyH_ready (rs := [8]) (by kernel_rfl) (by simp) ?_
    refine AllReadyH.cons rfl (fun K hK => ?_) AllReadyH.nil
    refine wp_append_none (.tmp 41) (.tmp 44) 22 rfl wd.heap.size 32 i0 2 hT hi _ 0 [] rfl HA0.out rfl ?_
    refine hK.out _ _ trivial (fun hHeld => ?_)
    clear hK K
    obtain ⟨wc, hwc⟩ : ∃ wc, wa = wc := ⟨_, rfl⟩
    have HR := Lib.hid (show OwnR wc wd.heap.size (.slice (some ⟨wd.heap.size, 0, none⟩) 0 0) 0 (rot 0 0 xs) by rw [← hwc]; exact HA0.out)
    have HC := Lib.hid (show SI w v1 X wc by rw [← hwc]; exact HDA.out)
    subst hwc
    obtain ⟨A4, c4, e4, hpx⟩ := OwnR.px HR.out ((rot_all hf (fun y => y.1 < 4294967296)).2 (fun i hi => (HL.out i hi).elim fun b h => h.elim fun off h => h.2.2.2.2))
    obtain ⟨rfl, rfl⟩ : some ⟨wd.heap.size, 0, none⟩ = A4 ∧ 0 = c4 := by injection e4 with e5 _ e6; exact ⟨e5, e6⟩
    have hAg := Lib.hid (agg_v (c := 0) hpx (by omega))
    clear hpx HA0 HDA HSA HD HBW hi hz0 hz9 hz8 hcs hT
    refine wpAnyH_ready (rs := [9]) (by kernel_rfl) (by simp) ?_
    refine AllReadyH.cons rfl (fun K hK => ?_) AllReadyH.nil
    go_simp
    refine hAg.out.mono ?_
    rintro e w5 ⟨v2, Y, e1, rfl, hU2⟩
    have H5 := Lib.hid (HC.out.below hU2.below)
    have HO2 := Lib.hid (OwnP.base hU2.own HC.out.1.size)
    have HU2 := Lib.hid (And.intro hU2.canon (And.intro hU2.len hU2.what))
    clear hU2 hAg
    refine hK.out _ _ trivial (fun hHeld => ?_)
    clear hK K
    refine wpAnyH_takeD 10 (v := ?_) rfl rfl (by kernel_rfl) (by kernel_rfl) (by kernel_rfl) (fun _ _ _ h => h) (Or.inl ⟨by rfl, ?_⟩) hHeld ?_
    rotate_left
    focus (intro w hSw; (try dsimp only at hSw); go_simp; try with_reducible rfl)
    simp only [List.setIfInBounds_toArray, List.set_cons_zero, List.set_cons_succ]
    refine wpAnyH_takeD 11 (v := ?_) rfl rfl (by kernel_rfl) (by kernel_rfl) (by kernel_rfl) (fun _ _ _ h => h) (Or.inl ⟨by rfl, ?_⟩) hHeld ?_
    rotate_left
    focus (intro w hSw; (try dsimp only at hSw); go_simp; try with_reducible rfl)
    simp only [List.setIfInBounds_toArray, List.set_cons_zero, List.set_cons_succ]
    refine wpAnyH_takeD 12 (v := ?_) rfl rfl (by kernel_rfl) (by kernel_rfl) (by kernel_rfl) (fun _ _ _ h => h) (Or.inl ⟨by rfl, ?_⟩) hHeld ?_
    rotate_left
    focus (intro w hSw; (try dsimp only at hSw); go_simp; try with_reducible rfl)
    simp only [List.setIfInBounds_toArray, List.set_cons_zero, List.set_cons_succ]
    refine wpAnyH_takeD 13 (v := ?_) rfl rfl (by kernel_rfl) (by kernel_rfl) (by kernel_rfl) (fun _ _ _ h => h) (Or.inl ⟨by rfl, ?_⟩) hHeld ?_
    rotate_left
    focus (intro w hSw; (try dsimp only at hSw); go_simp; try with_reducible rfl)
    simp only [List.setIfInBounds_toArray, List.set_cons_zero, List.set_cons_succ]
    refine wpAnyH_takeD 14 (v := ?_) rfl rfl (by kernel_rfl) (by kernel_rfl) (by kernel_rfl) (fun _ _ _ h => h) (Or.inl ⟨by rfl, ?_⟩) hHeld ?_
    rotate_left
    focus (intro w hSw; (try dsimp only at hSw); go_simp; try with_reducible rfl)
    simp only [List.setIfInBounds_toArray, List.set_cons_zero, List.set_cons_succ]
    refine wpAnyH_done (by kernel_rfl) ?_ _
    clear hHeld
    have hpx1 := H5.out.2.px HU.out.1.1
    obtain ⟨A1, c1, hv1, hpx1⟩ := hpx1
    have HV1 := Lib.hid hv1
    subst hv1
    have hAg3 := Lib.hid (agg_v (c := c1) hpx1 (by have := HU.out.2.1; omega))
    clear hpx1
    go_wp2_with fail
    refine hAg3.out.mono ?_
    rintro e w6 ⟨v3, Z, e2, rfl, hU3⟩
    have hZ : e2 = 0 ∧ Z = X := by
      rcases hU3.what with ⟨-, h1, h2⟩ | ⟨h1, -⟩
      · refine ⟨h1, eq_of_u hU3.canon HU.out.1 fun x => ?_⟩
        rw [h2, pl_of]
      · exact absurd (allV_of HU.out.1.1) h1
    obtain ⟨rfl, rfl⟩ := hZ
    rcases HU.out.2.2 with ⟨hav, he0, hux⟩ | ⟨hav, he0, hx0⟩
    case inr =>
      have he1 : e1 = 1 := by
        rcases HU2.out.2.2 with ⟨h1, -, -⟩ | ⟨-, h1, -⟩
        · exact absurd ((rot_all hf (fun y => vldB y.1 y.2 = true)).1 h1) hav
        · exact h1
      subst he0 he1
      have H6 := Lib.hid (H5.out.1.trans (hU3.below.mono H5.out.1.size))
      clear hU3 hAg3 hav hx0
      go_wp2_with fail
      go_ret
      exact ⟨rfl, H6.out⟩
    case inl =>
      have hY : e1 = 0 ∧ Y = Z := by
        rcases HU2.out.2.2 with ⟨h1, h2, h3⟩ | ⟨h1, -⟩
        · refine ⟨h2, eq_of_u HU2.out.1 HU.out.1 fun x => ?_⟩
          rw [h3, hux, rot_u hf]
        · exact absurd ((rot_all hf (fun y => vldB y.1 y.2 = true)).2 hav) h1
      obtain ⟨rfl, rfl⟩ := hY
      subst he0
      have HS := Lib.hid (show SO w (.slice A1 Y.length c1) v2 v3 Y w6 from ⟨H5.out.1.trans (hU3.below.mono H5.out.1.size), (H5.out.2.below hU3.below), HO2.out.below hU3.below, OwnP.base hU3.own H5.out.1.size⟩)
      have HCN := Lib.hid HU.out.1
      have hm30 : Y.length ≤ 30 := by have := HU.out.2.1; omega
      clear hU3 hAg3 hav hux H5 HO2 HU HU2 HR HC
      obtain ⟨A2, c2, hv2, -⟩ := HS.out.two.px HCN.out.1
      obtain ⟨A3, c3, hv3, -⟩ := HS.out.three.px HCN.out.1
      subst hv2 hv3
      obtain ⟨m, hm⟩ : ∃ m, Y.length = m := ⟨_, rfl⟩
      rw [hm] at HS hm30 ⊢
      have HM := Lib.hid hm
      have hS12 := Lib.hid (fun (W : World) (h : SO w (.slice A1 m c1) (.slice A2 m c2) (.slice A3 m c3) Y W) => same_true (c := c1) (d := c2) (h.one.px_at HM.out HCN.out.1) (h.two.px_at HM.out HCN.out.1) (by omega))
      have hS13 := Lib.hid (fun (W : World) (h : SO w (.slice A1 m c1) (.slice A2 m c2) (.slice A3 m c3) Y W) => same_true (c := c1) (d := c3) (h.one.px_at HM.out HCN.out.1) (h.three.px_at HM.out HCN.out.1) (by omega))
      clear hm HV1
      go_wp2_with fail
      go_loopw [11] (fun v wr => ∃ i : Nat, v = .int .i64 (i : Nat) ∧ i ≤ m ∧ Hid (SO w (.slice A1 m c1) (.slice A2 m c2) (.slice A3 m c3) Y wr)) (fun v _ => m - (intOf v).toNat)
      case atStart => exact ⟨0, rfl, Nat.zero_le _, HS⟩
      case round =>
        clear HS
        obtain ⟨wq, rfl⟩ : ∃ x, x = wr := ⟨_, rfl⟩
        obtain ⟨i, rfl, hi, HI⟩ := hrel
        by_cases him : i < m
        · have hz0 : (0 : Int) ≤ (i : Int) := by omega
          have hz1 : (i : Int) < (m : Int) := by omega
          have hwi : IntKind.i64.wrap ((i : Int) + 1) = (i : Int) + 1 := IntWalk.i64_in _ (by omega)
          go_wp2_with fail
          go_loopw [12] (fun v wr => ∃ k : Nat, v = .int .i64 (k : Nat) ∧ k ≤ m ∧ Hid (SO w (.slice A1 m c1) (.slice A2 m c2) (.slice A3 m c3) Y wr)) (fun v _ => m - (intOf v).toNat)
          case atStart => exact ⟨0, rfl, Nat.zero_le _, HI⟩
          case round =>
            clear HI
            obtain ⟨wy, rfl⟩ : ∃ x, x = wr := ⟨_, rfl⟩
            obtain ⟨k, rfl, hk, HK⟩ := hrel
            by_cases hkm : k < m
            · have hy0 : (0 : Int) ≤ (k : Int) := by omega
              have hy1 : (k : Int) < (m : Int) := by omega
              have hwk : IntKind.i64.wrap ((k : Int) + 1) = (k : Int) + 1 := IntWalk.i64_in _ (by omega)
              by_cases hik : i = k
              · subst hik
                go_wp2_with fail
                refine wp_region_held_drew (S := fun _ => True) (by kernel_rfl) trivial (fun hHeld => ?_)
                refine wpAnyH_takeD 0 (v := ?_) rfl rfl (by kernel_rfl) (by kernel_rfl) (by kernel_rfl) (fun _ _ _ h => h) (Or.inl ⟨by rfl, ?_⟩) hHeld ?_
                rotate_left
                focus (intro w hSw; (try dsimp only at hSw); go_simp; try with_reducible rfl)
                simp only [List.setIfInBounds_toArray, List.set_cons_zero, List.set_cons_succ]
                refine wpAnyH_takeD 1 (v := ?_) rfl rfl (by kernel_rfl) (by kernel_rfl) (by kernel_rfl) (fun _ _ _ h => h) (Or.inl ⟨by rfl, ?_⟩) hHeld ?_
                rotate_left
                focus (intro w hSw; (try dsimp only at hSw); go_simp; try with_reducible rfl)
                simp only [List.setIfInBounds_toArray, List.set_cons_zero, List.set_cons_succ]
                refine wpAnyH_takeD 2 (v := ?_) rfl rfl (by kernel_rfl) (by kernel_rfl) (by kernel_rfl) (fun _ _ _ h => h) (Or.inl ⟨by rfl, ?_⟩) hHeld ?_
                rotate_left
                focus (intro w hSw; (try dsimp only at hSw); go_simp; try with_reducible rfl)
                simp only [List.setIfInBounds_toArray, List.set_cons_zero, List.set_cons_succ]
                refine wpAnyH_takeD 3 (v := ?_) rfl rfl (by kernel_rfl) (by kernel_rfl) (by kernel_rfl) (fun _ _ _ h => h) (Or.inl ⟨by rfl, ?_⟩) hHeld ?_
                rotate_left
                focus (intro w hSw; (try dsimp only at hSw); go_simp; try with_reducible rfl)
                simp only [List.setIfInBounds_toArray, List.set_cons_zero, List.set_cons_succ]
                refine wpAnyH_takeD 4 (v := undef) rfl rfl (by kernel_rfl) (by kernel_rfl) (by kernel_rfl) (fun _ _ _ h => h) (Or.inr ⟨by rfl, rfl⟩) hHeld ?_
                simp only [List.setIfInBounds_toArray, List.set_cons_zero, List.set_cons_succ]
                refine wpAnyH_takeD 5 (v := undef) rfl rfl (by kernel_rfl) (by kernel_rfl) (by kernel_rfl) (fun _ _ _ h => h) (Or.inr ⟨by rfl, rfl⟩) hHeld ?_
                simp only [List.setIfInBounds_toArray, List.set_cons_zero, List.set_cons_succ]
                refine wpAnyH_takeD 6 (v := undef) rfl rfl (by kernel_rfl) (by kernel_rfl) (by kernel_rfl) (fun _ _ _ h => h) (Or.inr ⟨by rfl, rfl⟩) hHeld ?_
                simp only [List.setIfInBounds_toArray, List.set_cons_zero, List.set_cons_succ]
                refine wpAnyH_takeD 7 (v := undef) rfl rfl (by kernel_rfl) (by kernel_rfl) (by kernel_rfl) (fun _ _ _ h => h) (Or.inr ⟨by rfl, rfl⟩) hHeld ?_
                simp only [List.setIfInBounds_toArray, List.set_cons_zero, List.set_cons_succ]
                refine wpAnyH_takeD 8 (v := undef) rfl rfl (by kernel_rfl) (by kernel_rfl) (by kernel_rfl) (fun _ _ _ h => h) (Or.inr ⟨by rfl, rfl⟩) hHeld ?_
                simp only [List.setIfInBounds_toArray, List.set_cons_zero, List.set_cons_succ]
                refine wpAnyH_takeD 9 (v := undef) rfl rfl (by kernel_rfl) (by kernel_rfl) (by kernel_rfl) (fun _ _ _ h => h) (Or.inr ⟨by rfl, rfl⟩) hHeld ?_
                simp only [List.setIfInBounds_toArray, List.set_cons_zero, List.set_cons_succ]
                refine wpAnyH_takeD 10 (v := undef) rfl rfl (by kernel_rfl) (by kernel_rfl) (by kernel_rfl) (fun _ _ _ h => h) (Or.inr ⟨by rfl, rfl⟩) hHeld ?_
                simp only [List.setIfInBounds_toArray, List.set_cons_zero, List.set_cons_succ]
                refine wpAnyH_takeD 11 (v := undef) rfl rfl (by kernel_rfl) (by kernel_rfl) (by kernel_rfl) (fun _ _ _ h => h) (Or.inr ⟨by rfl, rfl⟩) hHeld ?_
                simp only [List.setIfInBounds_toArray, List.set_cons_zero, List.set_cons_succ]
                refine wpAnyH_takeD 12 (v := undef) rfl rfl (by kernel_rfl) (by kernel_rfl) (by kernel_rfl) (fun _ _ _ h => h) (Or.inr ⟨by rfl, rfl⟩) hHeld ?_
                simp only [List.setIfInBounds_toArray, List.set_cons_zero, List.set_cons_succ]
                refine wpAnyH_takeD 13 (v := ?_) rfl rfl (by kernel_rfl) (by kernel_rfl) (by kernel_rfl) (fun _ _ _ h => h) (Or.inl ⟨by rfl, ?_⟩) hHeld ?_
                rotate_left
                focus (intro w hSw; (try dsimp only at hSw); go_simp; try with_reducible rfl)
                simp only [List.setIfInBounds_toArray, List.set_cons_zero, List.set_cons_succ]
                refine wpAnyH_done (by kernel_rfl) ?_ _
                have H7 := Lib.hid (HK.out.step (Below.refl _ wy).drew)
                clear hHeld
                go_wp2_with fail
                go_roundw
                case rel => exact ⟨i + 1, by go_num, by omega, H7⟩
                case measure => simp [intOf]; omega
              · have hne : ((i : Int) == (k : Int)) = false := beq_eq_false_iff_ne.2 (by omega)
                have hne2 : ¬ ((i : Int) = (k : Int)) := by omega
                have hne3 : ((i : Int) != (k : Int)) = true := by simp; omega
                have hne4 : (i == k) = false := beq_eq_false_iff_ne.2 hik
                have hne5 : (i != k) = true := by simp; exact hik
                obtain ⟨g, hg⟩ := HK.out.one.addr HM.out (by omega)
                subst hg
                have hiY : i < Y.length := by rw [HM.out]; exact him
                have hkY : k < Y.length := by rw [HM.out]; exact hkm
                obtain ⟨s0, s1⟩ := HK.out.one.cell_at HM.out hiY
                obtain ⟨t0, t1⟩ := HK.out.one.cell_at HM.out hkY
                have hC := Lib.hid (fun W => refCovers_any Y[i].1 Y[i].2 Y[k].1 Y[k].2 W (vld_lt (HCN.out.1 _ (List.getElem_mem hiY))) (vld_lt (HCN.out.1 _ (List.getElem_mem hkY))))
                rw [show covB Y[i].1 (Y[i].2 : Int) Y[k].1 (Y[k].2 : Int) = false from by rw [← Bool.not_eq_true]; exact fun h => no_cov HCN.out hiY hkY hik ((covB_vld (HCN.out.1 _ (List.getElem_mem hiY)) (HCN.out.1 _ (List.getElem_mem hkY))).1 h)] at hC
                have hgl := (HK.out.one.lt g rfl).2
                obtain ⟨p, hp⟩ : ∃ p, Y[i] = p := ⟨_, rfl⟩
                obtain ⟨q, hq⟩ : ∃ q, Y[k] = q := ⟨_, rfl⟩
                rw [hp] at s0 s1 hC
                rw [hq] at t0 t1 hC
                clear hp hq
                go_wp2_with fail
                refine wp_region_held_drew (S := fun W' => W'.cell? ⟨g, i * 2, none⟩ = some (.int .u32 (p.1 : Int)) ∧ W'.cell? ⟨g, i * 2 + 1, none⟩ = some (.int .i64 (p.2 : Int)) ∧ W'.cell? ⟨g, k * 2, none⟩ = some (.int .u32 (q.1 : Int)) ∧ W'.cell? ⟨g, k * 2 + 1, none⟩ = some (.int .i64 (q.2 : Int))) (by kernel_rfl) ⟨s0, s1, t0, t1⟩ (fun hHeld => ?_)
                obtain ⟨wd2, hwd2⟩ : ∃ wd2, wy.drew = wd2 := ⟨_, rfl⟩
                have H7 := Lib.hid (HK.out.step (Below.refl _ wy).drew)
                have hgl2 : g < wd2.heap.size := by rw [← hwd2]; exact hgl
                rw [hwd2] at hHeld H7 ⊢
                clear hwd2 HK s0 s1 t0 t1 hgl
                refine wpAnyH_takeD 0 (v := ?_) rfl rfl (by kernel_rfl) (by kernel_rfl) (by kernel_rfl) (fun _ _ _ h => h) (Or.inl ⟨by rfl, ?_⟩) hHeld ?_
                rotate_left
                focus (intro w hSw; (try dsimp only at hSw); go_simp; try with_reducible rfl)
                simp only [List.setIfInBounds_toArray, List.set_cons_zero, List.set_cons_succ]
                refine wpAnyH_takeD 1 (v := ?_) rfl rfl (by kernel_rfl) (by kernel_rfl) (by kernel_rfl) (fun _ _ _ h => h) (Or.inl ⟨by rfl, ?_⟩) hHeld ?_
                rotate_left
                focus (intro w hSw; (try dsimp only at hSw); go_simp; try with_reducible rfl)
                simp only [List.setIfInBounds_toArray, List.set_cons_zero, List.set_cons_succ]
                refine wpAnyH_takeD 2 (v := ?_) rfl rfl (by kernel_rfl) (by kernel_rfl) (by kernel_rfl) (fun _ _ _ h => h) (Or.inl ⟨by rfl, ?_⟩) hHeld ?_
                rotate_left
                focus (intro w hSw; (try dsimp only at hSw); go_simp; try with_reducible rfl)
                simp only [List.setIfInBounds_toArray, List.set_cons_zero, List.set_cons_succ]
                refine wpAnyH_takeD 3 (v := ?_) rfl rfl (by kernel_rfl) (by kernel_rfl) (by kernel_rfl) (fun _ _ _ h => h) (Or.inl ⟨by rfl, ?_⟩) hHeld ?_
                rotate_left
                focus (intro w hSw; (try dsimp only at hSw); go_simp; try with_reducible rfl)
                simp only [List.setIfInBounds_toArray, List.set_cons_zero, List.set_cons_succ]
                refine wpAnyH_takeD 4 (v := ?_) rfl rfl (by kernel_rfl) (by kernel_rfl) (by kernel_rfl) (fun _ _ _ h => h) (Or.inl ⟨by rfl, ?_⟩) hHeld ?_
                rotate_left
                focus (intro w hSw; (try dsimp only at hSw); go_simp; try with_reducible rfl)
                simp only [List.setIfInBounds_toArray, List.set_cons_zero, List.set_cons_succ]
                refine wpAnyH_takeD 5 (v := ?_) rfl rfl (by kernel_rfl) (by kernel_rfl) (by kernel_rfl) (fun _ _ _ h => h) (Or.inl ⟨by rfl, ?_⟩) hHeld ?_
                rotate_left
                focus (intro w hSw; (try dsimp only at hSw); go_simp; try with_reducible rfl)
                simp only [List.setIfInBounds_toArray, List.set_cons_zero, List.set_cons_succ]
                refine wpAnyH_takeD 6 (v := ?_) rfl rfl (by kernel_rfl) (by kernel_rfl) (by kernel_rfl) (fun _ _ _ h => h) (Or.inl ⟨by rfl, ?_⟩) hHeld ?_
                rotate_left
                focus (intro w hSw; (try dsimp only at hSw); go_simp; try with_reducible rfl)
                simp only [List.setIfInBounds_toArray, List.set_cons_zero, List.set_cons_succ]
                refine wpAnyH_takeD 7 (v := ?_) rfl rfl (by kernel_rfl) (by kernel_rfl) (by kernel_rfl) (fun _ _ _ h => h) (Or.inl ⟨by rfl, ?_⟩) hHeld ?_
                rotate_left
                focus (intro w hSw; (try dsimp only at hSw); go_simp; try with_reducible rfl)
                simp only [List.setIfInBounds_toArray, List.set_cons_zero, List.set_cons_succ]
                refine wpAnyH_takeD 8 (v := ?_) rfl rfl (by kernel_rfl) (by kernel_rfl) (by kernel_rfl) (fun _ _ _ h => h) (Or.inl ⟨by rfl, ?_⟩) hHeld ?_
                rotate_left
                focus (intro w hSw; (try dsimp only at hSw); go_simp; try with_reducible rfl)
                simp only [List.setIfInBounds_toArray, List.set_cons_zero, List.set_cons_succ]
                refine wpAnyH_takeD 9 (v := ?_) rfl rfl (by kernel_rfl) (by kernel_rfl) (by kernel_rfl) (fun _ _ _ h => h) (Or.inl ⟨by rfl, ?_⟩) hHeld ?_
                rotate_left
                focus (intro w hSw; (try dsimp only at hSw); go_simp; try with_reducible rfl)
                simp only [List.setIfInBounds_toArray, List.set_cons_zero, List.set_cons_succ]
                refine wpAnyH_takeD 10 (v := ?_) rfl rfl (by kernel_rfl) (by kernel_rfl) (by kernel_rfl) (fun _ _ _ h => h) (Or.inl ⟨by rfl, ?_⟩) hHeld ?_
                rotate_left
                focus (intro w hSw; (try dsimp only at hSw); go_simp; try with_reducible rfl)
                simp only [List.setIfInBounds_toArray, List.set_cons_zero, List.set_cons_succ]
                refine wpAnyH_takeD 11 (v := ?_) rfl rfl (by kernel_rfl) (by kernel_rfl) (by kernel_rfl) (fun _ _ _ h => h) (Or.inl ⟨by rfl, ?_⟩) hHeld ?_
                rotate_left
                focus (intro w hSw; (try dsimp only at hSw); go_simp; try with_reducible rfl)
                simp only [List.setIfInBounds_toArray, List.set_cons_zero, List.set_cons_succ]
                refine wpAnyH_ready (rs := [12]) (by kernel_rfl) (by simp) ?_
                refine AllReadyH.cons rfl (fun K hK => ?_) AllReadyH.nil
                go_simp
                refine (hC.out _).mono ?_
                rintro e w8 ⟨rfl, hb8⟩
                have H8 := Lib.hid (H7.out.step hb8)
                refine hK.out _ _ ⟨(hb8.cell (p := ⟨g, i * 2, none⟩) hgl2).trans hHeld.1, (hb8.cell (p := ⟨g, i * 2 + 1, none⟩) hgl2).trans hHeld.2.1, (hb8.cell (p := ⟨g, k * 2, none⟩) hgl2).trans hHeld.2.2.1, (hb8.cell (p := ⟨g, k * 2 + 1, none⟩) hgl2).trans hHeld.2.2.2⟩ (fun hHeld => ?_)
                clear hK K
                refine wpAnyH_takeD 13 (v := ?_) rfl rfl (by kernel_rfl) (by kernel_rfl) (by kernel_rfl) (fun _ _ _ h => h) (Or.inl ⟨by rfl, ?_⟩) hHeld ?_
                rotate_left
                focus (intro w hSw; (try dsimp only at hSw); go_simp; try with_reducible rfl)
                simp only [List.setIfInBounds_toArray, List.set_cons_zero, List.set_cons_succ]
                refine wpAnyH_done (by kernel_rfl) ?_ _
                clear hHeld hb8 H7
                go_wp2_with fail
                go_roundw
                case rel => exact ⟨k + 1, by go_num, by omega, H8⟩
                case measure => simp [intOf]; omega
            · obtain rfl : k = m := by omega
              have hy1 : ¬ ((k : Int) < (k : Int)) := by omega
              go_wp2_with fail
              go_roundw
              case rel => exact ⟨i + 1, by go_num, by omega, HK⟩
              case measure => simp [intOf]; omega
        · obtain rfl : i = m := by omega
          have hi1 : ¬ ((i : Int) < (i : Int)) := by omega
          have h12 := Lib.hid (hS12.out wq HI.out)
          go_wp2_with fail
          refine h12.out.mono ?_
          rintro e w8 ⟨rfl, hb8⟩
          have H8 := Lib.hid (HI.out.step hb8)
          have h13 := Lib.hid (hS13.out w8 H8.out)
          clear hb8 HI
          go_wp2_with fail
          refine h13.out.mono ?_
          rintro e w9 ⟨rfl, hb9⟩
          have H9 := Lib.hid (H8.out.step hb9).below
          clear hb9 H8
          go_wp2_with fail
          go_ret
          exact ⟨rfl, H9.out⟩
  | some a =>
    refine wpAnyH_takeD 1 (v := ?_) rfl rfl (by kernel_rfl) (by kernel_rfl) (by kernel_rfl) (fun _ _ _ h => h) (Or.inl ⟨by rfl, ?_⟩) hHeld ?_
    rotate_left
    focus (intro w hSw; (try dsimp only at hSw); go_simp; try with_reducible rfl)
    simp only [List.setIfInBounds_toArray, List.set_cons_zero, List.set_cons_succ]
    refine wpAnyH_takeD 2 (v := ?_) rfl rfl (by kernel_rfl) (by kernel_rfl) (by kernel_rfl) (fun _ _ _ h => h) (Or.inl ⟨by rfl, ?_⟩) hHeld ?_
    rotate_left
    focus (intro w hSw; (try dsimp only at hSw); go_simp; try with_reducible rfl)
    simp only [List.setIfInBounds_toArray, List.set_cons_zero, List.set_cons_succ]
    refine wpAnyH_takeD 3 (v := ?_) rfl rfl (by kernel_rfl) (by kernel_rfl) (by kernel_rfl) (fun _ _ _ h => h) (Or.inl ⟨by rfl, ?_⟩) hHeld ?_
    rotate_left
    focus (intro w hSw; (try dsimp only at hSw); go_simp; try with_reducible rfl)
    simp only [List.setIfInBounds_toArray, List.set_cons_zero, List.set_cons_succ]
    refine wpAnyH_takeD 5 (v := ?_) rfl rfl (by kernel_rfl) (by kernel_rfl) (by kernel_rfl) (fun _ _ _ h => h) (Or.inl ⟨by rfl, ?_⟩) hHeld ?_
    rotate_left
    focus (intro w hSw; (try dsimp only at hSw); go_simp; try with_reducible rfl)
    simp only [List.setIfInBounds_toArray, List.set_cons_zero, List.set_cons_succ]
    refine wpAnyH_takeD 6 (v := ?_) rfl rfl (by kernel_rfl) (by kernel_rfl) (by kernel_rfl) (fun _ _ _ h => h) (Or.inl ⟨by rfl, ?_⟩) hHeld ?_
    rotate_left
    focus (intro w hSw; (try dsimp only at hSw); go_simp; try with_reducible rfl)
    simp only [List.setIfInBounds_toArray, List.set_cons_zero, List.set_cons_succ]
    refine wpAnyH_takeD 7 (v := ?_) rfl rfl (by kernel_rfl) (by kernel_rfl) (by kernel_rfl) (fun _ _ _ h => h) (Or.inl ⟨by rfl, ?_⟩) hHeld ?_
    rotate_left
    focus (intro w hSw; (try dsimp only at hSw); go_simp; try with_reducible rfl)
    simp only [List.setIfInBounds_toArray, List.set_cons_zero, List.set_cons_succ]
    refine wpAnyH_ready (rs := [0]) (by kernel_rfl) (by simp) ?_
    refine AllReadyH.cons rfl (fun K hK => ?_) AllReadyH.nil
    go_simp
    obtain ⟨wa, hwa⟩ : ∃ wa, wd.alloc (.cells #[] 32) = wa := ⟨_, rfl⟩
    have HA0 := Lib.hid (show wa.ownsRow wd.heap.size 32 2 (.slice (some ⟨wd.heap.size, 0, none⟩) 0 0) 0 [] by rw [← hwa]; exact World.ownsRow_made wd #[] 0 (Nat.le_refl _) (Nat.zero_le _) (by simp))
    have HDA := Lib.hid (HD.out.below (show Below wd.heap.size wd wa by rw [← hwa]; exact (Below.refl _ wd).alloc (Nat.le_refl _) _))
    have HSA := Lib.hid (show wd.heap.size ≤ wa.heap.size by rw [← hwa]; simp)
    rw [hwa]
    refine hK.out _ _ trivial (fun hHeld => ?_)
    clear hK K hwa
    refine wpAnyH_ready (rs := [4]) (by kernel_rfl) (by simp) ?_
    refine AllReadyH.cons rfl (fun K hK => ?_) AllReadyH.nil
    refine wp_append_own wa (.tmp 37) (.tmp 40) 22 rfl wd.heap.size 32 i0 _ 2 16 hT hi hz0 hz9 hz8 hcs (by decide) _ 0 [] rfl HA0.out (if c = f then a else a.add (f * 2)) (n - f) (c - f) (flr (n - f) fun i => xs (f + i)) (by show Value.slice (if c = f then some a else some (a.add (f * 2))) (n - f) (c - f) = _; by_cases hcf : c = f <;> simp [hcf]) (flr_length _ _) (px_front (HL.out.below HDA.out.1) hf hnc) (flr_one _ _) (by unfold maxLen; omega) (by omega) HSA.out ?_
    intro y1 wb g1 g2 _
    have HB := Lib.hid g1
    have HDB := Lib.hid (HDA.out.gb g2 (fun k hk => (HA0.out.lt k hk).1) HBW.out HD.out.1.size)
    have HSB := Lib.hid (Nat.le_trans HSA.out g2.size)
    clear g1 g2
    refine hK.out _ _ trivial (fun hHeld => ?_)
    clear hK K
    refine wpAnyH_ready (rs := [8]) (by kernel_rfl) (by simp) ?_
    refine AllReadyH.cons rfl (fun K hK => ?_) AllReadyH.nil
    refine wp_append_own wb (.tmp 41) (.tmp 44) 22 rfl wd.heap.size 32 i0 _ 2 16 hT hi hz0 hz9 hz8 hcs (by decide) _ _ _ rfl HB.out a f c (flr f xs) rfl (flr_length _ _) (fun j u hu => by have h9 := px_cells (HL.out.below HDB.out.1) (f := 0) (m := f) (by omega) j u (by simpa using hu); rw [Nat.zero_mul, add_nought] at h9; exact h9) (flr_one _ _) (by unfold maxLen; omega) (by omega) HSB.out ?_
    intro y2 wc g1 g2 _
    rw [List.nil_append, flr_rot xs hf, show 0 + (n - f) + f = n by omega] at g1
    have HR := Lib.hid g1
    have HC := Lib.hid (HDB.out.gb g2 (fun k hk => (HB.out.lt k hk).1) HBW.out HD.out.1.size)
    clear g1 g2
    refine hK.out _ _ trivial (fun hHeld => ?_)
    clear hK K
    obtain ⟨A4, c4, e4, hpx⟩ := OwnR.px HR.out ((rot_all hf (fun y => y.1 < 4294967296)).2 (fun i hi => (HL.out i hi).elim fun b h => h.elim fun off h => h.2.2.2.2))
    subst e4
    have hAg := Lib.hid (agg_v (c := c4) hpx (by omega))
    clear hpx HA0 HDA HSA HD HBW hi hz0 hz9 hz8 hcs hT
    refine wpAnyH_ready (rs := [9]) (by kernel_rfl) (by simp) ?_
    refine AllReadyH.cons rfl (fun K hK => ?_) AllReadyH.nil
    go_simp
    refine hAg.out.mono ?_
    rintro e w5 ⟨v2, Y, e1, rfl, hU2⟩
    have H5 := Lib.hid (HC.out.below hU2.below)
    have HO2 := Lib.hid (OwnP.base hU2.own HC.out.1.size)
    have HU2 := Lib.hid (And.intro hU2.canon (And.intro hU2.len hU2.what))
    clear hU2 hAg
    refine hK.out _ _ trivial (fun hHeld => ?_)
    clear hK K
    refine wpAnyH_takeD 10 (v := ?_) rfl rfl (by kernel_rfl) (by kernel_rfl) (by kernel_rfl) (fun _ _ _ h => h) (Or.inl ⟨by rfl, ?_⟩) hHeld ?_
    rotate_left
    focus (intro w hSw; (try dsimp only at hSw); go_simp; try with_reducible rfl)
    simp only [List.setIfInBounds_toArray, List.set_cons_zero, List.set_cons_succ]
    refine wpAnyH_takeD 11 (v := ?_) rfl rfl (by kernel_rfl) (by kernel_rfl) (by kernel_rfl) (fun _ _ _ h => h) (Or.inl ⟨by rfl, ?_⟩) hHeld ?_
    rotate_left
    focus (intro w hSw; (try dsimp only at hSw); go_simp; try with_reducible rfl)
    simp only [List.setIfInBounds_toArray, List.set_cons_zero, List.set_cons_succ]
    refine wpAnyH_takeD 12 (v := ?_) rfl rfl (by kernel_rfl) (by kernel_rfl) (by kernel_rfl) (fun _ _ _ h => h) (Or.inl ⟨by rfl, ?_⟩) hHeld ?_
    rotate_left
    focus (intro w hSw; (try dsimp only at hSw); go_simp; try with_reducible rfl)
    simp only [List.setIfInBounds_toArray, List.set_cons_zero, List.set_cons_succ]
    refine wpAnyH_takeD 13 (v := ?_) rfl rfl (by kernel_rfl) (by kernel_rfl) (by kernel_rfl) (fun _ _ _ h => h) (Or.inl ⟨by rfl, ?_⟩) hHeld ?_
    rotate_left
    focus (intro w hSw; (try dsimp only at hSw); go_simp; try with_reducible rfl)
    simp only [List.setIfInBounds_toArray, List.set_cons_zero, List.set_cons_succ]
    refine wpAnyH_takeD 14 (v := ?_) rfl rfl (by kernel_rfl) (by kernel_rfl) (by kernel_rfl) (fun _ _ _ h => h) (Or.inl ⟨by rfl, ?_⟩) hHeld ?_
    rotate_left
    focus (intro w hSw; (try dsimp only at hSw); go_simp; try with_reducible rfl)
    simp only [List.setIfInBounds_toArray, List.set_cons_zero, List.set_cons_succ]
    refine wpAnyH_done (by kernel_rfl) ?_ _
    clear hHeld
    generalize Value.slice (if c = f then some a else some (a.add (f * 2))) (n - f) (c - f) = q40
    have hpx1 := H5.out.2.px HU.out.1.1
    obtain ⟨A1, c1, hv1, hpx1⟩ := hpx1
    have HV1 := Lib.hid hv1
    subst hv1
    have hAg3 := Lib.hid (agg_v (c := c1) hpx1 (by have := HU.out.2.1; omega))
    clear hpx1
    go_wp2_with fail
    refine hAg3.out.mono ?_
    rintro e w6 ⟨v3, Z, e2, rfl, hU3⟩
    have hZ : e2 = 0 ∧ Z = X := by
      rcases hU3.what with ⟨-, h1, h2⟩ | ⟨h1, -⟩
      · refine ⟨h1, eq_of_u hU3.canon HU.out.1 fun x => ?_⟩
        rw [h2, pl_of]
      · exact absurd (allV_of HU.out.1.1) h1
    obtain ⟨rfl, rfl⟩ := hZ
    rcases HU.out.2.2 with ⟨hav, he0, hux⟩ | ⟨hav, he0, hx0⟩
    case inr =>
      have he1 : e1 = 1 := by
        rcases HU2.out.2.2 with ⟨h1, -, -⟩ | ⟨-, h1, -⟩
        · exact absurd ((rot_all hf (fun y => vldB y.1 y.2 = true)).1 h1) hav
        · exact h1
      subst he0 he1
      have H6 := Lib.hid (H5.out.1.trans (hU3.below.mono H5.out.1.size))
      clear hU3 hAg3 hav hx0
      go_wp2_with fail
      go_ret
      exact ⟨rfl, H6.out⟩
    case inl =>
      have hY : e1 = 0 ∧ Y = Z := by
        rcases HU2.out.2.2 with ⟨h1, h2, h3⟩ | ⟨h1, -⟩
        · refine ⟨h2, eq_of_u HU2.out.1 HU.out.1 fun x => ?_⟩
          rw [h3, hux, rot_u hf]
        · exact absurd ((rot_all hf (fun y => vldB y.1 y.2 = true)).2 hav) h1
      obtain ⟨rfl, rfl⟩ := hY
      subst he0
      have HS := Lib.hid (show SO w (.slice A1 Y.length c1) v2 v3 Y w6 from ⟨H5.out.1.trans (hU3.below.mono H5.out.1.size), (H5.out.2.below hU3.below), HO2.out.below hU3.below, OwnP.base hU3.own H5.out.1.size⟩)
      have HCN := Lib.hid HU.out.1
      have hm30 : Y.length ≤ 30 := by have := HU.out.2.1; omega
      clear hU3 hAg3 hav hux H5 HO2 HU HU2 HR HC
      obtain ⟨A2, c2, hv2, -⟩ := HS.out.two.px HCN.out.1
      obtain ⟨A3, c3, hv3, -⟩ := HS.out.three.px HCN.out.1
      subst hv2 hv3
      obtain ⟨m, hm⟩ : ∃ m, Y.length = m := ⟨_, rfl⟩
      rw [hm] at HS hm30 ⊢
      have HM := Lib.hid hm
      have hS12 := Lib.hid (fun (W : World) (h : SO w (.slice A1 m c1) (.slice A2 m c2) (.slice A3 m c3) Y W) => same_true (c := c1) (d := c2) (h.one.px_at HM.out HCN.out.1) (h.two.px_at HM.out HCN.out.1) (by omega))
      have hS13 := Lib.hid (fun (W : World) (h : SO w (.slice A1 m c1) (.slice A2 m c2) (.slice A3 m c3) Y W) => same_true (c := c1) (d := c3) (h.one.px_at HM.out HCN.out.1) (h.three.px_at HM.out HCN.out.1) (by omega))
      clear hm HV1
      go_wp2_with fail
      go_loopw [11] (fun v wr => ∃ i : Nat, v = .int .i64 (i : Nat) ∧ i ≤ m ∧ Hid (SO w (.slice A1 m c1) (.slice A2 m c2) (.slice A3 m c3) Y wr)) (fun v _ => m - (intOf v).toNat)
      case atStart => exact ⟨0, rfl, Nat.zero_le _, HS⟩
      case round =>
        clear HS
        obtain ⟨wq, rfl⟩ : ∃ x, x = wr := ⟨_, rfl⟩
        obtain ⟨i, rfl, hi, HI⟩ := hrel
        by_cases him : i < m
        · have hz0 : (0 : Int) ≤ (i : Int) := by omega
          have hz1 : (i : Int) < (m : Int) := by omega
          have hwi : IntKind.i64.wrap ((i : Int) + 1) = (i : Int) + 1 := IntWalk.i64_in _ (by omega)
          go_wp2_with fail
          go_loopw [12] (fun v wr => ∃ k : Nat, v = .int .i64 (k : Nat) ∧ k ≤ m ∧ Hid (SO w (.slice A1 m c1) (.slice A2 m c2) (.slice A3 m c3) Y wr)) (fun v _ => m - (intOf v).toNat)
          case atStart => exact ⟨0, rfl, Nat.zero_le _, HI⟩
          case round =>
            clear HI
            obtain ⟨wy, rfl⟩ : ∃ x, x = wr := ⟨_, rfl⟩
            obtain ⟨k, rfl, hk, HK⟩ := hrel
            by_cases hkm : k < m
            · have hy0 : (0 : Int) ≤ (k : Int) := by omega
              have hy1 : (k : Int) < (m : Int) := by omega
              have hwk : IntKind.i64.wrap ((k : Int) + 1) = (k : Int) + 1 := IntWalk.i64_in _ (by omega)
              by_cases hik : i = k
              · subst hik
                go_wp2_with fail
                refine wp_region_held_drew (S := fun _ => True) (by kernel_rfl) trivial (fun hHeld => ?_)
                refine wpAnyH_takeD 0 (v := ?_) rfl rfl (by kernel_rfl) (by kernel_rfl) (by kernel_rfl) (fun _ _ _ h => h) (Or.inl ⟨by rfl, ?_⟩) hHeld ?_
                rotate_left
                focus (intro w hSw; (try dsimp only at hSw); go_simp; try with_reducible rfl)
                simp only [List.setIfInBounds_toArray, List.set_cons_zero, List.set_cons_succ]
                refine wpAnyH_takeD 1 (v := ?_) rfl rfl (by kernel_rfl) (by kernel_rfl) (by kernel_rfl) (fun _ _ _ h => h) (Or.inl ⟨by rfl, ?_⟩) hHeld ?_
                rotate_left
                focus (intro w hSw; (try dsimp only at hSw); go_simp; try with_reducible rfl)
                simp only [List.setIfInBounds_toArray, List.set_cons_zero, List.set_cons_succ]
                refine wpAnyH_takeD 2 (v := ?_) rfl rfl (by kernel_rfl) (by kernel_rfl) (by kernel_rfl) (fun _ _ _ h => h) (Or.inl ⟨by rfl, ?_⟩) hHeld ?_
                rotate_left
                focus (intro w hSw; (try dsimp only at hSw); go_simp; try with_reducible rfl)
                simp only [List.setIfInBounds_toArray, List.set_cons_zero, List.set_cons_succ]
                refine wpAnyH_takeD 3 (v := ?_) rfl rfl (by kernel_rfl) (by kernel_rfl) (by kernel_rfl) (fun _ _ _ h => h) (Or.inl ⟨by rfl, ?_⟩) hHeld ?_
                rotate_left
                focus (intro w hSw; (try dsimp only at hSw); go_simp; try with_reducible rfl)
                simp only [List.setIfInBounds_toArray, List.set_cons_zero, List.set_cons_succ]
                refine wpAnyH_takeD 4 (v := undef) rfl rfl (by kernel_rfl) (by kernel_rfl) (by kernel_rfl) (fun _ _ _ h => h) (Or.inr ⟨by rfl, rfl⟩) hHeld ?_
                simp only [List.setIfInBounds_toArray, List.set_cons_zero, List.set_cons_succ]
                refine wpAnyH_takeD 5 (v := undef) rfl rfl (by kernel_rfl) (by kernel_rfl) (by kernel_rfl) (fun _ _ _ h => h) (Or.inr ⟨by rfl, rfl⟩) hHeld ?_
                simp only [List.setIfInBounds_toArray, List.set_cons_zero, List.set_cons_succ]
                refine wpAnyH_takeD 6 (v := undef) rfl rfl (by kernel_rfl) (by kernel_rfl) (by kernel_rfl) (fun _ _ _ h => h) (Or.inr ⟨by rfl, rfl⟩) hHeld ?_
                simp only [List.setIfInBounds_toArray, List.set_cons_zero, List.set_cons_succ]
                refine wpAnyH_takeD 7 (v := undef) rfl rfl (by kernel_rfl) (by kernel_rfl) (by kernel_rfl) (fun _ _ _ h => h) (Or.inr ⟨by rfl, rfl⟩) hHeld ?_
                simp only [List.setIfInBounds_toArray, List.set_cons_zero, List.set_cons_succ]
                refine wpAnyH_takeD 8 (v := undef) rfl rfl (by kernel_rfl) (by kernel_rfl) (by kernel_rfl) (fun _ _ _ h => h) (Or.inr ⟨by rfl, rfl⟩) hHeld ?_
                simp only [List.setIfInBounds_toArray, List.set_cons_zero, List.set_cons_succ]
                refine wpAnyH_takeD 9 (v := undef) rfl rfl (by kernel_rfl) (by kernel_rfl) (by kernel_rfl) (fun _ _ _ h => h) (Or.inr ⟨by rfl, rfl⟩) hHeld ?_
                simp only [List.setIfInBounds_toArray, List.set_cons_zero, List.set_cons_succ]
                refine wpAnyH_takeD 10 (v := undef) rfl rfl (by kernel_rfl) (by kernel_rfl) (by kernel_rfl) (fun _ _ _ h => h) (Or.inr ⟨by rfl, rfl⟩) hHeld ?_
                simp only [List.setIfInBounds_toArray, List.set_cons_zero, List.set_cons_succ]
                refine wpAnyH_takeD 11 (v := undef) rfl rfl (by kernel_rfl) (by kernel_rfl) (by kernel_rfl) (fun _ _ _ h => h) (Or.inr ⟨by rfl, rfl⟩) hHeld ?_
                simp only [List.setIfInBounds_toArray, List.set_cons_zero, List.set_cons_succ]
                refine wpAnyH_takeD 12 (v := undef) rfl rfl (by kernel_rfl) (by kernel_rfl) (by kernel_rfl) (fun _ _ _ h => h) (Or.inr ⟨by rfl, rfl⟩) hHeld ?_
                simp only [List.setIfInBounds_toArray, List.set_cons_zero, List.set_cons_succ]
                refine wpAnyH_takeD 13 (v := ?_) rfl rfl (by kernel_rfl) (by kernel_rfl) (by kernel_rfl) (fun _ _ _ h => h) (Or.inl ⟨by rfl, ?_⟩) hHeld ?_
                rotate_left
                focus (intro w hSw; (try dsimp only at hSw); go_simp; try with_reducible rfl)
                simp only [List.setIfInBounds_toArray, List.set_cons_zero, List.set_cons_succ]
                refine wpAnyH_done (by kernel_rfl) ?_ _
                have H7 := Lib.hid (HK.out.step (Below.refl _ wy).drew)
                clear hHeld
                go_wp2_with fail
                go_roundw
                case rel => exact ⟨i + 1, by go_num, by omega, H7⟩
                case measure => simp [intOf]; omega
              · have hne : ((i : Int) == (k : Int)) = false := beq_eq_false_iff_ne.2 (by omega)
                have hne2 : ¬ ((i : Int) = (k : Int)) := by omega
                have hne3 : ((i : Int) != (k : Int)) = true := by simp; omega
                have hne4 : (i == k) = false := beq_eq_false_iff_ne.2 hik
                have hne5 : (i != k) = true := by simp; exact hik
                obtain ⟨g, hg⟩ := HK.out.one.addr HM.out (by omega)
                subst hg
                have hiY : i < Y.length := by rw [HM.out]; exact him
                have hkY : k < Y.length := by rw [HM.out]; exact hkm
                obtain ⟨s0, s1⟩ := HK.out.one.cell_at HM.out hiY
                obtain ⟨t0, t1⟩ := HK.out.one.cell_at HM.out hkY
                have hC := Lib.hid (fun W => refCovers_any Y[i].1 Y[i].2 Y[k].1 Y[k].2 W (vld_lt (HCN.out.1 _ (List.getElem_mem hiY))) (vld_lt (HCN.out.1 _ (List.getElem_mem hkY))))
                rw [show covB Y[i].1 (Y[i].2 : Int) Y[k].1 (Y[k].2 : Int) = false from by rw [← Bool.not_eq_true]; exact fun h => no_cov HCN.out hiY hkY hik ((covB_vld (HCN.out.1 _ (List.getElem_mem hiY)) (HCN.out.1 _ (List.getElem_mem hkY))).1 h)] at hC
                have hgl := (HK.out.one.lt g rfl).2
                obtain ⟨p, hp⟩ : ∃ p, Y[i] = p := ⟨_, rfl⟩
                obtain ⟨q, hq⟩ : ∃ q, Y[k] = q := ⟨_, rfl⟩
                rw [hp] at s0 s1 hC
                rw [hq] at t0 t1 hC
                clear hp hq
                go_wp2_with fail
                refine wp_region_held_drew (S := fun W' => W'.cell? ⟨g, i * 2, none⟩ = some (.int .u32 (p.1 : Int)) ∧ W'.cell? ⟨g, i * 2 + 1, none⟩ = some (.int .i64 (p.2 : Int)) ∧ W'.cell? ⟨g, k * 2, none⟩ = some (.int .u32 (q.1 : Int)) ∧ W'.cell? ⟨g, k * 2 + 1, none⟩ = some (.int .i64 (q.2 : Int))) (by kernel_rfl) ⟨s0, s1, t0, t1⟩ (fun hHeld => ?_)
                obtain ⟨wd2, hwd2⟩ : ∃ wd2, wy.drew = wd2 := ⟨_, rfl⟩
                have H7 := Lib.hid (HK.out.step (Below.refl _ wy).drew)
                have hgl2 : g < wd2.heap.size := by rw [← hwd2]; exact hgl
                rw [hwd2] at hHeld H7 ⊢
                clear hwd2 HK s0 s1 t0 t1 hgl
                refine wpAnyH_takeD 0 (v := ?_) rfl rfl (by kernel_rfl) (by kernel_rfl) (by kernel_rfl) (fun _ _ _ h => h) (Or.inl ⟨by rfl, ?_⟩) hHeld ?_
                rotate_left
                focus (intro w hSw; (try dsimp only at hSw); go_simp; try with_reducible rfl)
                simp only [List.setIfInBounds_toArray, List.set_cons_zero, List.set_cons_succ]
                refine wpAnyH_takeD 1 (v := ?_) rfl rfl (by kernel_rfl) (by kernel_rfl) (by kernel_rfl) (fun _ _ _ h => h) (Or.inl ⟨by rfl, ?_⟩) hHeld ?_
                rotate_left
                focus (intro w hSw; (try dsimp only at hSw); go_simp; try with_reducible rfl)
                simp only [List.setIfInBounds_toArray, List.set_cons_zero, List.set_cons_succ]
                refine wpAnyH_takeD 2 (v := ?_) rfl rfl (by kernel_rfl) (by kernel_rfl) (by kernel_rfl) (fun _ _ _ h => h) (Or.inl ⟨by rfl, ?_⟩) hHeld ?_
                rotate_left
                focus (intro w hSw; (try dsimp only at hSw); go_simp; try with_reducible rfl)
                simp only [List.setIfInBounds_toArray, List.set_cons_zero, List.set_cons_succ]
                refine wpAnyH_takeD 3 (v := ?_) rfl rfl (by kernel_rfl) (by kernel_rfl) (by kernel_rfl) (fun _ _ _ h => h) (Or.inl ⟨by rfl, ?_⟩) hHeld ?_
                rotate_left
                focus (intro w hSw; (try dsimp only at hSw); go_simp; try with_reducible rfl)
                simp only [List.setIfInBounds_toArray, List.set_cons_zero, List.set_cons_succ]
                refine wpAnyH_takeD 4 (v := ?_) rfl rfl (by kernel_rfl) (by kernel_rfl) (by kernel_rfl) (fun _ _ _ h => h) (Or.inl ⟨by rfl, ?_⟩) hHeld ?_
                rotate_left
                focus (intro w hSw; (try dsimp only at hSw); go_simp; try with_reducible rfl)
                simp only [List.setIfInBounds_toArray, List.set_cons_zero, List.set_cons_succ]
                refine wpAnyH_takeD 5 (v := ?_) rfl rfl (by kernel_rfl) (by kernel_rfl) (by kernel_rfl) (fun _ _ _ h => h) (Or.inl ⟨by rfl, ?_⟩) hHeld ?_
                rotate_left
                focus (intro w hSw; (try dsimp only at hSw); go_simp; try with_reducible rfl)
                simp only [List.setIfInBounds_toArray, List.set_cons_zero, List.set_cons_succ]
                refine wpAnyH_takeD 6 (v := ?_) rfl rfl (by kernel_rfl) (by kernel_rfl) (by kernel_rfl) (fun _ _ _ h => h) (Or.inl ⟨by rfl, ?_⟩) hHeld ?_
                rotate_left
                focus (intro w hSw; (try dsimp only at hSw); go_simp; try with_reducible rfl)
                simp only [List.setIfInBounds_toArray, List.set_cons_zero, List.set_cons_succ]
                refine wpAnyH_takeD 7 (v := ?_) rfl rfl (by kernel_rfl) (by kernel_rfl) (by kernel_rfl) (fun _ _ _ h => h) (Or.inl ⟨by rfl, ?_⟩) hHeld ?_
                rotate_left
                focus (intro w hSw; (try dsimp only at hSw); go_simp; try with_reducible rfl)
                simp only [List.setIfInBounds_toArray, List.set_cons_zero, List.set_cons_succ]
                refine wpAnyH_takeD 8 (v := ?_) rfl rfl (by kernel_rfl) (by kernel_rfl) (by kernel_rfl) (fun _ _ _ h => h) (Or.inl ⟨by rfl, ?_⟩) hHeld ?_
                rotate_left
                focus (intro w hSw; (try dsimp only at hSw); go_simp; try with_reducible rfl)
                simp only [List.setIfInBounds_toArray, List.set_cons_zero, List.set_cons_succ]
                refine wpAnyH_takeD 9 (v := ?_) rfl rfl (by kernel_rfl) (by kernel_rfl) (by kernel_rfl) (fun _ _ _ h => h) (Or.inl ⟨by rfl, ?_⟩) hHeld ?_
                rotate_left
                focus (intro w hSw; (try dsimp only at hSw); go_simp; try with_reducible rfl)
                simp only [List.setIfInBounds_toArray, List.set_cons_zero, List.set_cons_succ]
                refine wpAnyH_takeD 10 (v := ?_) rfl rfl (by kernel_rfl) (by kernel_rfl) (by kernel_rfl) (fun _ _ _ h => h) (Or.inl ⟨by rfl, ?_⟩) hHeld ?_
                rotate_left
                focus (intro w hSw; (try dsimp only at hSw); go_simp; try with_reducible rfl)
                simp only [List.setIfInBounds_toArray, List.set_cons_zero, List.set_cons_succ]
                refine wpAnyH_takeD 11 (v := ?_) rfl rfl (by kernel_rfl) (by kernel_rfl) (by kernel_rfl) (fun _ _ _ h => h) (Or.inl ⟨by rfl, ?_⟩) hHeld ?_
                rotate_left
                focus (intro w hSw; (try dsimp only at hSw); go_simp; try with_reducible rfl)
                simp only [List.setIfInBounds_toArray, List.set_cons_zero, List.set_cons_succ]
                refine wpAnyH_ready (rs := [12]) (by kernel_rfl) (by simp) ?_
                refine AllReadyH.cons rfl (fun K hK => ?_) AllReadyH.nil
                go_simp
                refine (hC.out _).mono ?_
                rintro e w8 ⟨rfl, hb8⟩
                have H8 := Lib.hid (H7.out.step hb8)
                refine hK.out _ _ ⟨(hb8.cell (p := ⟨g, i * 2, none⟩) hgl2).trans hHeld.1, (hb8.cell (p := ⟨g, i * 2 + 1, none⟩) hgl2).trans hHeld.2.1, (hb8.cell (p := ⟨g, k * 2, none⟩) hgl2).trans hHeld.2.2.1, (hb8.cell (p := ⟨g, k * 2 + 1, none⟩) hgl2).trans hHeld.2.2.2⟩ (fun hHeld => ?_)
                clear hK K
                refine wpAnyH_takeD 13 (v := ?_) rfl rfl (by kernel_rfl) (by kernel_rfl) (by kernel_rfl) (fun _ _ _ h => h) (Or.inl ⟨by rfl, ?_⟩) hHeld ?_
                rotate_left
                focus (intro w hSw; (try dsimp only at hSw); go_simp; try with_reducible rfl)
                simp only [List.setIfInBounds_toArray, List.set_cons_zero, List.set_cons_succ]
                refine wpAnyH_done (by kernel_rfl) ?_ _
                clear hHeld hb8 H7
                go_wp2_with fail
                go_roundw
                case rel => exact ⟨k + 1, by go_num, by omega, H8⟩
                case measure => simp [intOf]; omega
            · obtain rfl : k = m := by omega
              have hy1 : ¬ ((k : Int) < (k : Int)) := by omega
              go_wp2_with fail
              go_roundw
              case rel => exact ⟨i + 1, by go_num, by omega, HK⟩
              case measure => simp [intOf]; omega
        · obtain rfl : i = m := by omega
          have hi1 : ¬ ((i : Int) < (i : Int)) := by omega
          have h12 := Lib.hid (hS12.out wq HI.out)
          go_wp2_with fail
          refine h12.out.mono ?_
          rintro e w8 ⟨rfl, hb8⟩
          have H8 := Lib.hid (HI.out.step hb8)
          have h13 := Lib.hid (hS13.out w8 H8.out)
          clear hb8 HI
          go_wp2_with fail
          refine h13.out.mono ?_
          rintro e w9 ⟨rfl, hb9⟩
          have H9 := Lib.hid (H8.out.step hb9).below
          clear hb9 H8
          go_wp2_with fail
          go_ret
          exact ⟨rfl, H9.out⟩
end Go.Proofs.YtgpgoadalnojdaaGreatDoor
