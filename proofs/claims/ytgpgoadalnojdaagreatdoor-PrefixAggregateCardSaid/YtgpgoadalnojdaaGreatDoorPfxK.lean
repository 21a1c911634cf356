/- Contract of the laws' helper awake. -/
import Derived.Test.YtgpgoadalnojdaaGreatDoorPfxJ
namespace Go.Proofs.YtgpgoadalnojdaaGreatDoor
open Go.RowKit

theorem vldB_a : vldB 167837696 16 = true := by decide +kernel
theorem vldB_b : vldB 167838208 24 = true := by decide +kernel
theorem px_a : pPfx [49, 48, 46, 49, 46, 48, 46, 48, 47, 49, 54] = some (167837696, 16) := by
  rw [show [49, 48, 46, 49, 46, 48, 46, 48, 47, 49, 54] = tx 167837696 16 by decide +kernel]
  exact pPfx_tx ((vldB_vld (by omega)).1 vldB_a)
theorem px_b : pPfx [49, 48, 46, 49, 46, 50, 46, 48, 47, 50, 52] = some (167838208, 24) := by
  rw [show [49, 48, 46, 49, 46, 50, 46, 48, 47, 50, 52] = tx 167838208 24 by decide +kernel]
  exact pPfx_tx ((vldB_vld (by omega)).1 vldB_b)
theorem tx_a : str (txV 167837696 16) = ⟨#[49, 48, 46, 49, 46, 48, 46, 48, 47, 49, 54]⟩ := by
  have : txV 167837696 16 = [49, 48, 46, 49, 46, 48, 46, 48, 47, 49, 54] := by decide +kernel
  rw [this]; rfl
theorem cov_ab : covB 167837696 16 167838208 24 = true := by decide +kernel
theorem cov_ba : covB 167838208 24 167837696 16 = false := by decide +kernel
theorem split_8 : splitV 167772160 8 = .tuple #[pv 167772160 9, pv 176160768 9, .int .i64 0] := by
  unfold splitV
  rw [if_pos (by decide +kernel), if_neg (by decide)]
  rfl

set_option maxRecDepth 100000 in
set_option maxHeartbeats 8000000 in
theorem awake_any (w : World) (hV : Vars w) : Calls Tryz.prog 6 #[] w fun e w' => e = .returned (.bool true) ∧ Below w.heap.size w w' := by
  have hPa := Lib.hid (fun (W : World) (hW : Below w.heap.size w W) => parse_any ⟨#[49, 48, 46, 49, 46, 48, 46, 48, 47, 49, 54]⟩ W (by decide) (hV.below hW))
  have hPb := Lib.hid (fun (W : World) (hW : Below w.heap.size w W) => parse_any ⟨#[49, 48, 46, 49, 46, 50, 46, 48, 47, 50, 52]⟩ W (by decide) (hV.below hW))
  rw [show (⟨#[49, 48, 46, 49, 46, 48, 46, 48, 47, 49, 54]⟩ : ByteArray).data.toList = [49, 48, 46, 49, 46, 48, 46, 48, 47, 49, 54] from rfl, px_a] at hPa
  rw [show (⟨#[49, 48, 46, 49, 46, 50, 46, 48, 47, 50, 52]⟩ : ByteArray).data.toList = [49, 48, 46, 49, 46, 50, 46, 48, 47, 50, 52] from rfl, px_b] at hPb
  have hSp := Lib.hid (fun W => split_any 167772160 8 W (by omega))
  rw [split_8] at hSp
  have hCa := Lib.hid (fun W => covers_any 167837696 16 167838208 24 W (by omega) (by omega))
  have hCb := Lib.hid (fun W => covers_any 167838208 24 167837696 16 W (by omega) (by omega))
  rw [cov_ab] at hCa
  rw [cov_ba] at hCb
  have hTx := Lib.hid (fun (W : World) (hW : Below w.heap.size w W) => text_any 167837696 16 W (by omega) (hV.below hW))
  rw [tx_a] at hTx
  clear hV
  go_enter Tryz.func6, Tryz.ntmps6
  go_wp2_with fail
  refine (hPa.out _ (Below.refl _ _)).mono ?_
  rintro e w1 ⟨rfl, hb1⟩
  have H1 := Lib.hid hb1
  clear hb1
  unfold parseV
  go_wp2_with fail
  obtain ⟨w2, hw2, hP2, hb2⟩ := fresh_box w1 167837696 16
  rw [show w1.alloc (.cells #[.int .u32 167837696, .int .i64 16] 32) = w2 from hw2]
  have H2 := Lib.hid (And.intro hP2 (H1.out.trans (hb2.mono H1.out.size)))
  generalize w1.heap.size = ba at H2 ⊢
  clear hw2 hP2 hb2 H1
  refine (hPb.out _ H2.out.2).mono ?_
  rintro e w3 ⟨rfl, hb3⟩
  have H3 := Lib.hid (And.intro (H2.out.1.step hb3) (H2.out.2.trans (hb3.mono H2.out.2.size)))
  clear hb3 H2
  unfold parseV
  go_wp2_with fail
  obtain ⟨w4, hw4, hP4, hb4⟩ := fresh_box w3 167838208 24
  rw [show w3.alloc (.cells #[.int .u32 167838208, .int .i64 24] 32) = w4 from hw4]
  have H4 := Lib.hid (And.intro (H3.out.1.step hb4) (And.intro hP4 (H3.out.2.trans (hb4.mono H3.out.2.size))))
  generalize w3.heap.size = bb at H4 ⊢
  clear hw4 hP4 hb4 H3
  refine (hSp.out _).mono ?_
  rintro e w5 ⟨rfl, hb5⟩
  have H5 := Lib.hid (And.intro (H4.out.1.step hb5) (And.intro (H4.out.2.1.step hb5) (H4.out.2.2.trans (hb5.mono H4.out.2.2.size))))
  clear hb5 H4
  go_upto_region 4 with fail
  obtain ⟨bd, w6, e6, hw6, hP6, hQ6, hb6⟩ := start_pq w5 167772160 9 176160768 9
  rw [show (w5.alloc (.cells #[.int .u32 167772160, .int .i64 9] 32)).alloc (.cells #[.int .u32 176160768, .int .i64 9] 32) = w6 from hw6]
  rw [← e6]
  have H6 := Lib.hid (And.intro (H5.out.1.step hb6) (And.intro (H5.out.2.1.step hb6) (And.intro hP6 (And.intro hQ6 (H5.out.2.2.trans (hb6.mono H5.out.2.2.size))))))
  clear e6
  generalize w5.heap.size = bc at H6 ⊢
  clear hw6 hP6 hQ6 hb6 H5
  have c0 : w6.cell? ⟨ba, 0, none⟩ = some (.int .u32 167837696) := H6.out.1.cell0
  have c1 : w6.cell? ⟨ba, 1, none⟩ = some (.int .i64 16) := H6.out.1.cell1
  have d0 : w6.cell? ⟨bb, 0, none⟩ = some (.int .u32 167838208) := H6.out.2.1.cell0
  have d1 : w6.cell? ⟨bb, 1, none⟩ = some (.int .i64 24) := H6.out.2.1.cell1
  go_wp2_with fail
  refine (hCa.out _).mono ?_
  rintro e w7 ⟨rfl, hb⟩
  have H7 := Lib.hid (And.intro (H6.out.1.step hb) (And.intro (H6.out.2.1.step hb) (And.intro (H6.out.2.2.1.step hb) (And.intro (H6.out.2.2.2.1.step hb) (H6.out.2.2.2.2.trans (hb.mono H6.out.2.2.2.2.size))))))
  clear hb c0 c1 d0 d1 H6
  have c0 : w7.cell? ⟨ba, 0, none⟩ = some (.int .u32 167837696) := H7.out.1.cell0
  have c1 : w7.cell? ⟨ba, 1, none⟩ = some (.int .i64 16) := H7.out.1.cell1
  have d0 : w7.cell? ⟨bb, 0, none⟩ = some (.int .u32 167838208) := H7.out.2.1.cell0
  have d1 : w7.cell? ⟨bb, 1, none⟩ = some (.int .i64 24) := H7.out.2.1.cell1
  go_wp2_with fail
  refine (hCb.out _).mono ?_
  rintro e w8 ⟨rfl, hb⟩
  have H8 := Lib.hid (And.intro (H7.out.1.step hb) (And.intro (H7.out.2.2.1.step hb) (And.intro (H7.out.2.2.2.1.step hb) (H7.out.2.2.2.2.trans (hb.mono H7.out.2.2.2.2.size)))))
  clear hb c0 c1 d0 d1 H7
  have c0 : w8.cell? ⟨ba, 0, none⟩ = some (.int .u32 167837696) := H8.out.1.cell0
  have c1 : w8.cell? ⟨ba, 1, none⟩ = some (.int .i64 16) := H8.out.1.cell1
  have d0 : w8.cell? ⟨bc, 0, none⟩ = some (.int .u32 167772160) := H8.out.2.1.cell0
  have d1 : w8.cell? ⟨bc, 1, none⟩ = some (.int .i64 9) := H8.out.2.1.cell1
  have e0 : w8.cell? ⟨bd, 0, none⟩ = some (.int .u32 176160768) := H8.out.2.2.1.cell0
  have e1 : w8.cell? ⟨bd, 1, none⟩ = some (.int .i64 9) := H8.out.2.2.1.cell1
  go_wp2_with fail
  refine (hTx.out _ H8.out.2.2.2).mono ?_
  rintro e w9 ⟨rfl, hb⟩
  have H9 := Lib.hid (H8.out.2.2.2.trans (hb.mono H8.out.2.2.2.size))
  clear hb
  go_wp2_with fail
  go_ret
  exact ⟨rfl, H9.out⟩
end Go.Proofs.YtgpgoadalnojdaaGreatDoor
