/- The reference's Nodes. -/
import Derived.Test.YtamkegnnlbefdaaTrBi
namespace Go.Proofs.Ytamkegnnlbefdaa
open Go.RowKit

def NdJ (w : World) (rs : List Rt) (v3 v4 : Value) (wr : World) : Prop := ∃ (yv : Value) (i : Nat), yv = v3 ∧ v4 = .int .i64 (i : Nat) ∧ i ≤ rs.length ∧ Hid (OwnX w.heap.size wr yv (nodesI rs i) ∧ Below w.heap.size w wr)
set_option maxRecDepth 100000 in
set_option maxHeartbeats 8000000 in
theorem refNodes_any {w : World} {v : Value} {rs : List Rt} (h : TL w v rs) (hv : ∀ r ∈ rs, Vld r.1) (hn : rs.length ≤ 10000) :
    Calls Try.prog 16 #[v] w fun e W => e = .returned (.int .i64 ((nodesI rs rs.length).length : Nat)) ∧ Below w.heap.size w W := by
  have HT := Lib.hid h
  have HV := Lib.hid hv
  obtain ⟨A, c, rfl, -⟩ := h
  obtain ⟨n, hnn⟩ : ∃ n, rs.length = n := ⟨_, rfl⟩
  have HN := Lib.hid hnn
  rw [hnn] at hn HT ⊢
  clear hnn hv
  have H0 := Lib.hid (show OwnX w.heap.size w (.slice none 0 0) (nodesI rs 0) ∧ Below w.heap.size w w from ⟨OwnX.nil _ _, Below.refl _ _⟩)
  go_enter Try.func16, Try.ntmps16
  go_wp2_with fail
  go_loopw [3, 4] (fun v3 v4 wr => NdJ w rs v3 v4 wr) (fun _ vi _ => n - (intOf vi).toNat)
  case atStart => exact ⟨_, 0, rfl, rfl, Nat.zero_le _, H0⟩
  case round =>
    clear H0
    obtain ⟨wq, rfl⟩ : ∃ x, x = wr := ⟨_, rfl⟩
    obtain ⟨yv, i, rfl, rfl, hi, H⟩ := hrel
    rw [HN.out] at hi
    by_cases hin : i < n
    · have hi' : (i : Int) < (n : Int) := by omega
      have hz0 : (0 : Int) ≤ (i : Int) := by omega
      have hw3 : IntKind.i64.wrap ((i : Int) + 1) = (i : Int) + 1 := IntWalk.i64_in _ (by omega)
      have hir : i < rs.length := by rw [HN.out]; exact hin
      obtain ⟨A', c', e', hel⟩ := HT.out
      injection e' with e1 e2 e3
      subst e1 e3
      clear e2
      obtain ⟨g, rfl, hg, d0, d1, -⟩ := hel i hir
      have HX := Lib.hid (at0_get hir)
      have hpv := HV.out _ (List.getElem_mem hir)
      obtain ⟨⟨⟨ra, rl⟩, rv⟩, hx⟩ : ∃ x, rs[i] = x := ⟨_, rfl⟩
      rw [hx] at d0 d1 HX hpv
      dsimp only at d0 d1 hpv
      have HG := Lib.hid (show g < w.heap.size ∧ w.cell? ⟨g, i * 3, none⟩ = some (.int .u32 (ra : Int)) ∧ w.cell? ⟨g, i * 3 + 1, none⟩ = some (.int .i64 (rl : Int)) from ⟨hg, d0, d1⟩)
      have hle := nodesI_len rs i
      have hW := Lib.hid (with_any (p := (ra, rl)) H.out.1 H.out.2.size (by omega))
      replace d0 := (H.out.2.cell (p := ⟨g, i * 3, none⟩) hg).trans d0
      replace d1 := (H.out.2.cell (p := ⟨g, i * 3 + 1, none⟩) hg).trans d1
      dsimp only at hW
      by_cases hi0 : i = 0
      · subst hi0
        clear hel hg hx hpv
        go_wp2_with fail
        refine hW.out.mono ?_
        rintro e w2 ⟨v', rfl, ho, hb⟩
        have HJ := Lib.hid (show OwnX w.heap.size w2 v' (nodesI rs 1) ∧ Below w.heap.size w w2 from ⟨by
          rw [nodesI, if_neg (Nat.lt_irrefl 0), HX.out]
          exact ho, H.out.2.trans hb⟩)
        clear ho hb hW H d0 d1
        go_wp2_with fail
        go_roundw
        case rel => exact ⟨v', 1, rfl, by go_num, by omega, HJ⟩
        case measure => simp [intOf]; omega
      · have hi1 : (0 : Int) < (i : Int) := by omega
        obtain ⟨k, hk⟩ : ∃ k, i = k + 1 := ⟨i - 1, by omega⟩
        have hkr : k < rs.length := by omega
        have hk1 : (k : Int) < (n : Int) := by omega
        have hk2 : (0 : Int) ≤ (k : Int) := by omega
        have hk3 : IntKind.i64.wrap ((i : Int) - 1) = (k : Int) := by rw [IntWalk.i64_in _ (by omega)]; omega
        obtain ⟨g', eg, -, k0, k1, -⟩ := hel k hkr
        obtain rfl : g = g' := by simpa using eg
        have HXk := Lib.hid (at0_get hkr)
        have hpk := HV.out _ (List.getElem_mem hkr)
        obtain ⟨⟨⟨qa, ql⟩, qv⟩, hxk⟩ : ∃ x, rs[k] = x := ⟨_, rfl⟩
        rw [hxk] at k0 k1 HXk hpk
        dsimp only at k0 k1 hpk
        have HK := Lib.hid (show w.cell? ⟨g, k * 3, none⟩ = some (.int .u32 (qa : Int)) ∧ w.cell? ⟨g, k * 3 + 1, none⟩ = some (.int .i64 (ql : Int)) from ⟨k0, k1⟩)
        have HM := Lib.hid (fun W => meet_any (w := W) hpk hpv)
        obtain ⟨⟨ma, ml⟩, hme⟩ : ∃ m, meet (qa, ql) (ra, rl) = m := ⟨_, rfl⟩
        rw [hme] at HM
        dsimp only at HM
        have HME := Lib.hid hme
        have HIK := Lib.hid hk
        clear hel hg hx hxk hpv hpk k0 k1 eg hme hk
        go_wp2_with fail
        refine hW.out.mono ?_
        rintro e w2 ⟨v', rfl, ho, hb⟩
        have low2 := H.out.2.trans hb
        have HJ := Lib.hid (show OwnX w.heap.size w2 v' (withL (nodesI rs i) (ra, rl)) ∧ Below w.heap.size w w2 from ⟨ho, low2⟩)
        clear ho hb hW H d0 d1 low2
        go_wp2_with fail
        have HC := Lib.hid (fun W (hW : Below w.heap.size w W) => (show W.cell? ⟨g, i * 3, none⟩ = some (.int .u32 (ra : Int)) ∧ W.cell? ⟨g, i * 3 + 1, none⟩ = some (.int .i64 (rl : Int)) ∧ W.cell? ⟨g, k * 3, none⟩ = some (.int .u32 (qa : Int)) ∧ W.cell? ⟨g, k * 3 + 1, none⟩ = some (.int .i64 (ql : Int)) from
          ⟨(hW.cell (p := ⟨g, i * 3, none⟩) HG.out.1).trans HG.out.2.1, (hW.cell (p := ⟨g, i * 3 + 1, none⟩) HG.out.1).trans HG.out.2.2, (hW.cell (p := ⟨g, k * 3, none⟩) HG.out.1).trans HK.out.1, (hW.cell (p := ⟨g, k * 3 + 1, none⟩) HG.out.1).trans HK.out.2⟩))
        have hd := HC.out w2 HJ.out.2
        refine wp_region_held_drew (S := fun W' => W'.cell? ⟨g, i * 3, none⟩ = some (.int .u32 (ra : Int)) ∧ W'.cell? ⟨g, i * 3 + 1, none⟩ = some (.int .i64 (rl : Int)) ∧ W'.cell? ⟨g, k * 3, none⟩ = some (.int .u32 (qa : Int)) ∧ W'.cell? ⟨g, k * 3 + 1, none⟩ = some (.int .i64 (ql : Int))) (by kernel_rfl) hd (fun hHeld => ?_)
        have HJ2 := Lib.hid (show OwnX w.heap.size w2.drew v' (withL (nodesI rs i) (ra, rl)) ∧ Below w.heap.size w w2.drew from ⟨HJ.out.1.below (Below.refl _ _).drew, HJ.out.2.drew⟩)
        generalize w2.drew = w3 at HJ2 hHeld ⊢
        clear hd HJ
        refine wpAnyH_takeD 0 (v := ?_) rfl rfl (by kernel_rfl) (by kernel_rfl) (by kernel_rfl) (fun _ _ _ h => h) (Or.inl ⟨by rfl, ?_⟩) hHeld ?_
        rotate_left
        focus (intro w hSw; (try dsimp only at hSw); go_simp; try with_reducible rfl)
        try simp only [List.setIfInBounds_toArray, List.set_cons_zero, List.set_cons_succ]
        refine wpAnyH_takeD 1 (v := ?_) rfl rfl (by kernel_rfl) (by kernel_rfl) (by kernel_rfl) (fun _ _ _ h => h) (Or.inl ⟨by rfl, ?_⟩) hHeld ?_
        rotate_left
        focus (intro w hSw; (try dsimp only at hSw); go_simp; try with_reducible rfl)
        try simp only [List.setIfInBounds_toArray, List.set_cons_zero, List.set_cons_succ]
        refine wpAnyH_takeD 2 (v := ?_) rfl rfl (by kernel_rfl) (by kernel_rfl) (by kernel_rfl) (fun _ _ _ h => h) (Or.inl ⟨by rfl, ?_⟩) hHeld ?_
        rotate_left
        focus (intro w hSw; (try dsimp only at hSw); go_simp; try with_reducible rfl)
        try simp only [List.setIfInBounds_toArray, List.set_cons_zero, List.set_cons_succ]
        refine wpAnyH_takeD 3 (v := ?_) rfl rfl (by kernel_rfl) (by kernel_rfl) (by kernel_rfl) (fun _ _ _ h => h) (Or.inl ⟨by rfl, ?_⟩) hHeld ?_
        rotate_left
        focus (intro w hSw; (try dsimp only at hSw); go_simp; try with_reducible rfl)
        try simp only [List.setIfInBounds_toArray, List.set_cons_zero, List.set_cons_succ]
        refine wpAnyH_takeD 4 (v := ?_) rfl rfl (by kernel_rfl) (by kernel_rfl) (by kernel_rfl) (fun _ _ _ h => h) (Or.inl ⟨by rfl, ?_⟩) hHeld ?_
        rotate_left
        focus (intro w hSw; (try dsimp only at hSw); go_simp; try with_reducible rfl)
        try simp only [List.setIfInBounds_toArray, List.set_cons_zero, List.set_cons_succ]
        refine wpAnyH_takeD 5 (v := ?_) rfl rfl (by kernel_rfl) (by kernel_rfl) (by kernel_rfl) (fun _ _ _ h => h) (Or.inl ⟨by rfl, ?_⟩) hHeld ?_
        rotate_left
        focus (intro w hSw; (try dsimp only at hSw); go_simp; try with_reducible rfl)
        try simp only [List.setIfInBounds_toArray, List.set_cons_zero, List.set_cons_succ]
        refine wpAnyH_takeD 6 (v := ?_) rfl rfl (by kernel_rfl) (by kernel_rfl) (by kernel_rfl) (fun _ _ _ h => h) (Or.inl ⟨by rfl, ?_⟩) hHeld ?_
        rotate_left
        focus (intro w hSw; (try dsimp only at hSw); go_simp; try with_reducible rfl)
        try simp only [List.setIfInBounds_toArray, List.set_cons_zero, List.set_cons_succ]
        refine wpAnyH_takeD 7 (v := ?_) rfl rfl (by kernel_rfl) (by kernel_rfl) (by kernel_rfl) (fun _ _ _ h => h) (Or.inl ⟨by rfl, ?_⟩) hHeld ?_
        rotate_left
        focus (intro w hSw; (try dsimp only at hSw); go_simp; try with_reducible rfl)
        try simp only [List.setIfInBounds_toArray, List.set_cons_zero, List.set_cons_succ]
        refine wpAnyH_takeD 8 (v := ?_) rfl rfl (by kernel_rfl) (by kernel_rfl) (by kernel_rfl) (fun _ _ _ h => h) (Or.inl ⟨by rfl, ?_⟩) hHeld ?_
        rotate_left
        focus (intro w hSw; (try dsimp only at hSw); go_simp; try with_reducible rfl)
        try simp only [List.setIfInBounds_toArray, List.set_cons_zero, List.set_cons_succ]
        refine wpAnyH_takeD 9 (v := ?_) rfl rfl (by kernel_rfl) (by kernel_rfl) (by kernel_rfl) (fun _ _ _ h => h) (Or.inl ⟨by rfl, ?_⟩) hHeld ?_
        rotate_left
        focus (intro w hSw; (try dsimp only at hSw); go_simp; try with_reducible rfl)
        try simp only [List.setIfInBounds_toArray, List.set_cons_zero, List.set_cons_succ]
        refine wpAnyH_takeD 10 (v := ?_) rfl rfl (by kernel_rfl) (by kernel_rfl) (by kernel_rfl) (fun _ _ _ h => h) (Or.inl ⟨by rfl, ?_⟩) hHeld ?_
        rotate_left
        focus (intro w hSw; (try dsimp only at hSw); go_simp; try with_reducible rfl)
        try simp only [List.setIfInBounds_toArray, List.set_cons_zero, List.set_cons_succ]
        refine wpAnyH_takeD 11 (v := ?_) rfl rfl (by kernel_rfl) (by kernel_rfl) (by kernel_rfl) (fun _ _ _ h => h) (Or.inl ⟨by rfl, ?_⟩) hHeld ?_
        rotate_left
        focus (intro w hSw; (try dsimp only at hSw); go_simp; try with_reducible rfl)
        try simp only [List.setIfInBounds_toArray, List.set_cons_zero, List.set_cons_succ]
        refine wpAnyH_ready (rs := [12]) (by kernel_rfl) (by simp) ?_
        refine AllReadyH.cons rfl (fun K hK => ?_) AllReadyH.nil
        go_simp
        refine (HM.out _).mono ?_
        rintro e w4 ⟨rfl, hb⟩
        have HJ3 := Lib.hid (show OwnX w.heap.size w4 v' (withL (nodesI rs i) (ra, rl)) ∧ Below w.heap.size w w4 from ⟨HJ2.out.1.below hb, HJ2.out.2.trans (hb.mono HJ2.out.2.size)⟩)
        clear hb HJ2 HM
        refine hK.out _ _ (HC.out _ HJ3.out.2) (fun hHeld => ?_)
        clear hK K
        have hW2 := Lib.hid (with_any (p := (ma, ml)) HJ3.out.1 HJ3.out.2.size (by have := with_len (l := nodesI rs i) (p := (ra, rl)); omega))
        dsimp only at hW2
        refine wpAnyH_ready (rs := [13]) (by kernel_rfl) (by simp) ?_
        refine AllReadyH.cons rfl (fun K hK => ?_) AllReadyH.nil
        go_simp
        refine hW2.out.mono ?_
        rintro e w5 ⟨v5, rfl, ho, hb⟩
        have low5 := HJ3.out.2.trans hb
        have HJ5 := Lib.hid (show OwnX w.heap.size w5 v5 (nodesI rs (i + 1)) ∧ Below w.heap.size w w5 from ⟨by
          rw [nodesI, if_pos (by omega), HX.out, show i - 1 = k by have := HIK.out; omega, HXk.out]
          show OwnX w.heap.size w5 v5 (withL (withL (nodesI rs i) (ra, rl)) (meet (qa, ql) (ra, rl)))
          rw [HME.out]
          exact ho, low5⟩)
        clear ho hb hW2 HJ3
        refine hK.out _ _ (HC.out _ low5) (fun hHeld => ?_)
        clear hK K low5
        refine wpAnyH_takeD 14 (v := ?_) rfl rfl (by kernel_rfl) (by kernel_rfl) (by kernel_rfl) (fun _ _ _ h => h) (Or.inl ⟨by rfl, ?_⟩) hHeld ?_
        rotate_left
        focus (intro w hSw; (try dsimp only at hSw); go_simp; try with_reducible rfl)
        try simp only [List.setIfInBounds_toArray, List.set_cons_zero, List.set_cons_succ]
        refine wpAnyH_done (by kernel_rfl) ?_ _
        clear hHeld
        go_wp2_with fail
        go_roundw
        case rel => exact ⟨v5, i + 1, rfl, by go_num, by omega, HJ5⟩
        case measure => simp [intOf]; omega
    · obtain rfl : i = n := by omega
      have hi' : ¬ (i : Int) < (i : Int) := by omega
      obtain ⟨A', c', rfl, -⟩ := H.out.1.form
      have HB := Lib.hid H.out.2
      clear H
      go_wp2_with fail
      go_ret
      exact ⟨rfl, HB.out⟩
end Go.Proofs.Ytamkegnnlbefdaa
