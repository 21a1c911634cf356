/- Walks of the laws PrefixContains and PrefixNested. -/
import Derived.Test.YtgpgoadalnojdaaDoorPfxK
namespace Go.Proofs.YtgpgoadalnojdaaDoor
open Go.RowKit

set_option maxRecDepth 100000 in
set_option maxHeartbeats 8000000 in
theorem lawContains (a : Nat) (l : Int) (b : Nat) (m : Int) (x : Nat) (w : World) (ha : a < 4294967296) (hb : b < 4294967296) (hx : x < 4294967296) (hV : Vars w) :
    Calls Tryd.prog 5 #[pv a l, pv b m, .int .u32 (x : Int)] w fun e w' => e = .returned (.bool true) ∧ Below w.heap.size w w' := by
  have hAw := Lib.hid (fun (W : World) (hW : Below w.heap.size w W) => awake_any W (hV.below hW))
  have hC1 := Lib.hid (fun W => contains_any a l x W ha hx)
  have hC2 := Lib.hid (fun W => refContains_any a l x W ha hx)
  have hD1 := Lib.hid (fun W => covers_any a l b m W ha hb)
  have hD2 := Lib.hid (fun W => refCovers_any a l b m W ha hb)
  have hE1 := Lib.hid (fun W => compare_any a l b m W)
  have hE2 := Lib.hid (fun W => refCompare_any a l b m W)
  obtain ⟨p, hp⟩ : ∃ p, hasB a l x = p := ⟨_, rfl⟩
  obtain ⟨q, hq⟩ : ∃ q, covB a l b m = q := ⟨_, rfl⟩
  obtain ⟨r, hr⟩ : ∃ r, cmpS a l b m = r := ⟨_, rfl⟩
  rw [hp] at hC1 hC2
  rw [hq] at hD1 hD2
  rw [hr] at hE1 hE2
  obtain ⟨b1, w2, e1, hw2, hP, hQ, hbw⟩ := start_pq w a l b m
  have H0 := Lib.hid (And.intro hP.drew (And.intro hQ.drew hbw.drew))
  have p0 := hP.cell0
  have p1 := hP.cell1
  have q0 := hQ.cell0
  have q1 := hQ.cell1
  have E1 := Lib.hid e1.symm
  clear hP hQ hbw e1 hV ha hb hx hp hq hr
  go_enter Tryd.func5, Tryd.ntmps5
  go_wp2_with fail
  try simp only [E1.out]
  refine wp_region_held_drew (S := fun W' => W'.cell? ⟨w.heap.size, 0, none⟩ = some (.int .u32 (a : Int)) ∧ W'.cell? ⟨w.heap.size, 1, none⟩ = some (.int .i64 l) ∧ W'.cell? ⟨b1, 0, none⟩ = some (.int .u32 (b : Int)) ∧ W'.cell? ⟨b1, 1, none⟩ = some (.int .i64 m)) (by kernel_rfl) ⟨p0, p1, q0, q1⟩ (fun hHeld => ?_)
  obtain ⟨v0, hv0⟩ : ∃ v0, w2.drew = v0 := ⟨_, rfl⟩
  rw [hv0] at hHeld H0 ⊢
  clear hv0 hw2 p0 p1 q0 q1
  refine wpAnyH_ready (rs := [0]) (by kernel_rfl) (by simp) ?_
  refine AllReadyH.cons rfl (fun K hK => ?_) AllReadyH.nil
  go_simp
  refine (hAw.out _ H0.out.2.2).mono ?_
  rintro e v1 ⟨rfl, hb⟩
  have H1 := Lib.hid (And.intro (H0.out.1.step hb) (And.intro (H0.out.2.1.step hb) (H0.out.2.2.trans (hb.mono H0.out.2.2.size))))
  clear hb
  refine hK.out _ _ ⟨H1.out.1.cell0, H1.out.1.cell1, H1.out.2.1.cell0, H1.out.2.1.cell1⟩ (fun hHeld => ?_)
  clear hK K
  refine wpAnyH_takeD 1 (v := ?_) rfl rfl (by kernel_rfl) (by kernel_rfl) (by kernel_rfl) (fun _ _ _ h => h) (Or.inl ⟨by rfl, ?_⟩) hHeld ?_
  rotate_left
  focus (intro w hSw; (try dsimp only at hSw); go_simp; try with_reducible rfl)
  simp only [List.setIfInBounds_toArray, List.set_cons_zero, List.set_cons_succ]
  refine wpAnyH_takeD 2 (v := ?_) rfl rfl (by kernel_rfl) (by kernel_rfl) (by kernel_rfl) (fun _ _ _ h => h) (Or.inl ⟨by rfl, ?_⟩) hHeld ?_
  rotate_left
  focus (intro w hSw; (try dsimp only at hSw); go_simp; try with_reducible rfl)
  simp only [List.setIfInBounds_toArray, List.set_cons_zero, List.set_cons_succ]
  refine wpAnyH_takeD 3 (v := ?_) rfl rfl (by kernel_rfl) (by kernel_rfl) (by kernel_rfl) (fun _ _ _ h => h) (Or.inl ⟨by rfl, ?_⟩) hHeld ?_
  rotate_left
  focus (intro w hSw; (try dsimp only at hSw); go_simp; try with_reducible rfl)
  simp only [List.setIfInBounds_toArray, List.set_cons_zero, List.set_cons_succ]
  refine wpAnyH_takeD 5 (v := ?_) rfl rfl (by kernel_rfl) (by kernel_rfl) (by kernel_rfl) (fun _ _ _ h => h) (Or.inl ⟨by rfl, ?_⟩) hHeld ?_
  rotate_left
  focus (intro w hSw; (try dsimp only at hSw); go_simp; try with_reducible rfl)
  simp only [List.setIfInBounds_toArray, List.set_cons_zero, List.set_cons_succ]
  refine wpAnyH_takeD 6 (v := ?_) rfl rfl (by kernel_rfl) (by kernel_rfl) (by kernel_rfl) (fun _ _ _ h => h) (Or.inl ⟨by rfl, ?_⟩) hHeld ?_
  rotate_left
  focus (intro w hSw; (try dsimp only at hSw); go_simp; try with_reducible rfl)
  simp only [List.setIfInBounds_toArray, List.set_cons_zero, List.set_cons_succ]
  refine wpAnyH_ready (rs := [4]) (by kernel_rfl) (by simp) ?_
  refine AllReadyH.cons rfl (fun K hK => ?_) AllReadyH.nil
  go_simp
  refine (hC1.out _).mono ?_
  rintro e v2 ⟨rfl, hb⟩
  have H2 := Lib.hid (And.intro (H1.out.1.step hb) (And.intro (H1.out.2.1.step hb) (H1.out.2.2.trans (hb.mono H1.out.2.2.size))))
  clear hb
  refine hK.out _ _ ⟨H2.out.1.cell0, H2.out.1.cell1, H2.out.2.1.cell0, H2.out.2.1.cell1⟩ (fun hHeld => ?_)
  clear hK K
  refine wpAnyH_ready (rs := [7]) (by kernel_rfl) (by simp) ?_
  refine AllReadyH.cons rfl (fun K hK => ?_) AllReadyH.nil
  go_simp
  refine (hC2.out _).mono ?_
  rintro e v3 ⟨rfl, hb⟩
  have H3 := Lib.hid (And.intro (H2.out.1.step hb) (And.intro (H2.out.2.1.step hb) (H2.out.2.2.trans (hb.mono H2.out.2.2.size))))
  clear hb
  refine hK.out _ _ ⟨H3.out.1.cell0, H3.out.1.cell1, H3.out.2.1.cell0, H3.out.2.1.cell1⟩ (fun hHeld => ?_)
  clear hK K
  refine wpAnyH_takeD 8 (v := ?_) rfl rfl (by kernel_rfl) (by kernel_rfl) (by kernel_rfl) (fun _ _ _ h => h) (Or.inl ⟨by rfl, ?_⟩) hHeld ?_
  rotate_left
  focus (intro w hSw; (try dsimp only at hSw); go_simp; try with_reducible rfl)
  simp only [List.setIfInBounds_toArray, List.set_cons_zero, List.set_cons_succ]
  refine wpAnyH_takeD 9 (v := ?_) rfl rfl (by kernel_rfl) (by kernel_rfl) (by kernel_rfl) (fun _ _ _ h => h) (Or.inl ⟨by rfl, ?_⟩) hHeld ?_
  rotate_left
  focus (intro w hSw; (try dsimp only at hSw); go_simp; try with_reducible rfl)
  simp only [List.setIfInBounds_toArray, List.set_cons_zero, List.set_cons_succ]
  refine wpAnyH_takeD 10 (v := ?_) rfl rfl (by kernel_rfl) (by kernel_rfl) (by kernel_rfl) (fun _ _ _ h => h) (Or.inl ⟨by rfl, ?_⟩) hHeld ?_
  rotate_left
  focus (intro w hSw; (try dsimp only at hSw); go_simp; try with_reducible rfl)
  simp only [List.setIfInBounds_toArray, List.set_cons_zero, List.set_cons_succ]
  refine wpAnyH_takeD 11 (v := ?_) rfl rfl (by kernel_rfl) (by kernel_rfl) (by kernel_rfl) (fun _ _ _ h => h) (Or.inl ⟨by rfl, ?_⟩) hHeld ?_
  rotate_left
  focus (intro w hSw; (try dsimp only at hSw); go_simp; try with_reducible rfl)
  simp only [List.setIfInBounds_toArray, List.set_cons_zero, List.set_cons_succ]
  refine wpAnyH_takeD 12 (v := ?_) rfl rfl (by kernel_rfl) (by kernel_rfl) (by kernel_rfl) (fun _ _ _ h => h) (Or.inl ⟨by rfl, ?_⟩) hHeld ?_
  rotate_left
  focus (intro w hSw; (try dsimp only at hSw); go_simp; try with_reducible rfl)
  simp only [List.setIfInBounds_toArray, List.set_cons_zero, List.set_cons_succ]
  refine wpAnyH_takeD 14 (v := ?_) rfl rfl (by kernel_rfl) (by kernel_rfl) (by kernel_rfl) (fun _ _ _ h => h) (Or.inl ⟨by rfl, ?_⟩) hHeld ?_
  rotate_left
  focus (intro w hSw; (try dsimp only at hSw); go_simp; try with_reducible rfl)
  simp only [List.setIfInBounds_toArray, List.set_cons_zero, List.set_cons_succ]
  refine wpAnyH_takeD 15 (v := ?_) rfl rfl (by kernel_rfl) (by kernel_rfl) (by kernel_rfl) (fun _ _ _ h => h) (Or.inl ⟨by rfl, ?_⟩) hHeld ?_
  rotate_left
  focus (intro w hSw; (try dsimp only at hSw); go_simp; try with_reducible rfl)
  simp only [List.setIfInBounds_toArray, List.set_cons_zero, List.set_cons_succ]
  refine wpAnyH_ready (rs := [13]) (by kernel_rfl) (by simp) ?_
  refine AllReadyH.cons rfl (fun K hK => ?_) AllReadyH.nil
  go_simp
  refine (hD1.out _).mono ?_
  rintro e v4 ⟨rfl, hb⟩
  have H4 := Lib.hid (And.intro (H3.out.1.step hb) (And.intro (H3.out.2.1.step hb) (H3.out.2.2.trans (hb.mono H3.out.2.2.size))))
  clear hb
  refine hK.out _ _ ⟨H4.out.1.cell0, H4.out.1.cell1, H4.out.2.1.cell0, H4.out.2.1.cell1⟩ (fun hHeld => ?_)
  clear hK K
  refine wpAnyH_ready (rs := [16]) (by kernel_rfl) (by simp) ?_
  refine AllReadyH.cons rfl (fun K hK => ?_) AllReadyH.nil
  go_simp
  refine (hD2.out _).mono ?_
  rintro e v5 ⟨rfl, hb⟩
  have H5 := Lib.hid (And.intro (H4.out.1.step hb) (And.intro (H4.out.2.1.step hb) (H4.out.2.2.trans (hb.mono H4.out.2.2.size))))
  clear hb
  refine hK.out _ _ ⟨H5.out.1.cell0, H5.out.1.cell1, H5.out.2.1.cell0, H5.out.2.1.cell1⟩ (fun hHeld => ?_)
  clear hK K
  refine wpAnyH_takeD 17 (v := ?_) rfl rfl (by kernel_rfl) (by kernel_rfl) (by kernel_rfl) (fun _ _ _ h => h) (Or.inl ⟨by rfl, ?_⟩) hHeld ?_
  rotate_left
  focus (intro w hSw; (try dsimp only at hSw); go_simp; try with_reducible rfl)
  simp only [List.setIfInBounds_toArray, List.set_cons_zero, List.set_cons_succ]
  refine wpAnyH_takeD 18 (v := ?_) rfl rfl (by kernel_rfl) (by kernel_rfl) (by kernel_rfl) (fun _ _ _ h => h) (Or.inl ⟨by rfl, ?_⟩) hHeld ?_
  rotate_left
  focus (intro w hSw; (try dsimp only at hSw); go_simp; try with_reducible rfl)
  simp only [List.setIfInBounds_toArray, List.set_cons_zero, List.set_cons_succ]
  refine wpAnyH_takeD 19 (v := ?_) rfl rfl (by kernel_rfl) (by kernel_rfl) (by kernel_rfl) (fun _ _ _ h => h) (Or.inl ⟨by rfl, ?_⟩) hHeld ?_
  rotate_left
  focus (intro w hSw; (try dsimp only at hSw); go_simp; try with_reducible rfl)
  simp only [List.setIfInBounds_toArray, List.set_cons_zero, List.set_cons_succ]
  refine wpAnyH_takeD 20 (v := ?_) rfl rfl (by kernel_rfl) (by kernel_rfl) (by kernel_rfl) (fun _ _ _ h => h) (Or.inl ⟨by rfl, ?_⟩) hHeld ?_
  rotate_left
  focus (intro w hSw; (try dsimp only at hSw); go_simp; try with_reducible rfl)
  simp only [List.setIfInBounds_toArray, List.set_cons_zero, List.set_cons_succ]
  refine wpAnyH_takeD 21 (v := ?_) rfl rfl (by kernel_rfl) (by kernel_rfl) (by kernel_rfl) (fun _ _ _ h => h) (Or.inl ⟨by rfl, ?_⟩) hHeld ?_
  rotate_left
  focus (intro w hSw; (try dsimp only at hSw); go_simp; try with_reducible rfl)
  simp only [List.setIfInBounds_toArray, List.set_cons_zero, List.set_cons_succ]
  refine wpAnyH_takeD 23 (v := ?_) rfl rfl (by kernel_rfl) (by kernel_rfl) (by kernel_rfl) (fun _ _ _ h => h) (Or.inl ⟨by rfl, ?_⟩) hHeld ?_
  rotate_left
  focus (intro w hSw; (try dsimp only at hSw); go_simp; try with_reducible rfl)
  simp only [List.setIfInBounds_toArray, List.set_cons_zero, List.set_cons_succ]
  refine wpAnyH_takeD 24 (v := ?_) rfl rfl (by kernel_rfl) (by kernel_rfl) (by kernel_rfl) (fun _ _ _ h => h) (Or.inl ⟨by rfl, ?_⟩) hHeld ?_
  rotate_left
  focus (intro w hSw; (try dsimp only at hSw); go_simp; try with_reducible rfl)
  simp only [List.setIfInBounds_toArray, List.set_cons_zero, List.set_cons_succ]
  refine wpAnyH_ready (rs := [22]) (by kernel_rfl) (by simp) ?_
  refine AllReadyH.cons rfl (fun K hK => ?_) AllReadyH.nil
  go_simp
  refine (hE1.out _).mono ?_
  rintro e v6 ⟨rfl, hb⟩
  have H6 := Lib.hid (And.intro (H5.out.1.step hb) (And.intro (H5.out.2.1.step hb) (H5.out.2.2.trans (hb.mono H5.out.2.2.size))))
  clear hb
  refine hK.out _ _ ⟨H6.out.1.cell0, H6.out.1.cell1, H6.out.2.1.cell0, H6.out.2.1.cell1⟩ (fun hHeld => ?_)
  clear hK K
  refine wpAnyH_ready (rs := [25]) (by kernel_rfl) (by simp) ?_
  refine AllReadyH.cons rfl (fun K hK => ?_) AllReadyH.nil
  go_simp
  refine (hE2.out _).mono ?_
  rintro e v7 ⟨rfl, hb⟩
  have H7 := Lib.hid (And.intro (H6.out.1.step hb) (And.intro (H6.out.2.1.step hb) (H6.out.2.2.trans (hb.mono H6.out.2.2.size))))
  clear hb
  refine hK.out _ _ ⟨H7.out.1.cell0, H7.out.1.cell1, H7.out.2.1.cell0, H7.out.2.1.cell1⟩ (fun hHeld => ?_)
  clear hK K
  refine wpAnyH_takeD 26 (v := ?_) rfl rfl (by kernel_rfl) (by kernel_rfl) (by kernel_rfl) (fun _ _ _ h => h) (Or.inl ⟨by rfl, ?_⟩) hHeld ?_
  rotate_left
  focus (intro w hSw; (try dsimp only at hSw); go_simp; try with_reducible rfl)
  simp only [List.setIfInBounds_toArray, List.set_cons_zero, List.set_cons_succ]
  refine wpAnyH_takeD 27 (v := ?_) rfl rfl (by kernel_rfl) (by kernel_rfl) (by kernel_rfl) (fun _ _ _ h => h) (Or.inl ⟨by rfl, ?_⟩) hHeld ?_
  rotate_left
  focus (intro w hSw; (try dsimp only at hSw); go_simp; try with_reducible rfl)
  simp only [List.setIfInBounds_toArray, List.set_cons_zero, List.set_cons_succ]
  refine wpAnyH_takeD 28 (v := ?_) rfl rfl (by kernel_rfl) (by kernel_rfl) (by kernel_rfl) (fun _ _ _ h => h) (Or.inl ⟨by rfl, ?_⟩) hHeld ?_
  rotate_left
  focus (intro w hSw; (try dsimp only at hSw); go_simp; try with_reducible rfl)
  simp only [List.setIfInBounds_toArray, List.set_cons_zero, List.set_cons_succ]
  refine wpAnyH_done (by kernel_rfl) ?_ _
  go_wp2_with fail
  go_ret
  exact ⟨rfl, H7.out.2.2⟩
end Go.Proofs.YtgpgoadalnojdaaDoor
