/- Walk of the law PrefixText. -/
import Derived.Test.YtgpgoadalnojdaaDoorLawSpl
import Derived.Test.YtgpgoadalnojdaaDoorPfxL
namespace Go.Proofs.YtgpgoadalnojdaaDoor
open Go.RowKit

theorem px_nil : pPfx [] = none := by
  unfold pPfx
  have h1 : Lib.cut [] [47] = (([] : List UInt8), [], false) := cut_no (by simp)
  rw [h1]
  have h2 : num [] 32 = none := by decide +kernel
  simp only [h2]
  cases pAddr [] <;> rfl
theorem txV_size (a : Nat) (l : Int) : (str (txV a l)).size ≤ 18 := by
  rw [data_size]
  unfold txV
  cases hv : vldB a l with
  | true =>
    obtain ⟨n, rfl, hn, _⟩ := vldB_true hv
    simp only [if_true, Int.toNat_natCast]
    exact (tx_len hn).1
  | false => simp
theorem px_txV (a : Nat) (l : Int) (ha : a < 4294967296) : (vldB a l = false ∧ pPfx (txV a l) = none) ∨ ∃ n : Nat, l = n ∧ vldB a l = true ∧ pPfx (txV a l) = some (a, n) := by
  unfold txV
  cases hv : vldB a l with
  | true =>
    obtain ⟨n, rfl, hn, _⟩ := vldB_true hv
    right
    refine ⟨n, rfl, rfl, ?_⟩
    simp only [if_true, Int.toNat_natCast]
    exact pPfx_tx ((vldB_vld ha).1 hv)
  | false => left; exact ⟨rfl, px_nil⟩

set_option maxRecDepth 100000 in
set_option maxHeartbeats 20000000 in
theorem lawText (a : Nat) (l : Int) (w : World) (ha : a < 4294967296) (hV : Vars w) :
    Calls Tryd.prog 3 #[pv a l] w fun e w' => e = .returned (.bool true) ∧ Below w.heap.size w w' := by
  have hAw := Lib.hid (fun (W : World) (hW : Below w.heap.size w W) => awake_any W (hV.below hW))
  have hT1 := Lib.hid (fun (W : World) (hW : Below w.heap.size w W) => text_any a l W ha (hV.below hW))
  have hT2 := Lib.hid (fun W => refText_any a l W ha)
  have hV1 := Lib.hid (fun W => valid_any a l W ha)
  have hV2 := Lib.hid (fun W => refValid_any a l W ha)
  have hPr := Lib.hid (fun (W : World) (hW : Below w.heap.size w W) => parse_any (str (txV a l)) W (by have := txV_size a l; omega) (hV.below hW))
  rw [data_str] at hPr
  have hpx := px_txV a l ha
  obtain ⟨S, hS⟩ : ∃ S, str (txV a l) = S := ⟨_, rfl⟩
  obtain ⟨o, ho⟩ : ∃ o, pPfx (txV a l) = o := ⟨_, rfl⟩
  obtain ⟨v, hv⟩ : ∃ v, vldB a l = v := ⟨_, rfl⟩
  rw [hS] at hT1 hT2 hPr
  rw [ho] at hPr hpx
  rw [hv] at hV1 hV2 hpx
  have HPX := Lib.hid hpx
  obtain ⟨w1, hw1, hB1, hb1⟩ := fresh_box w a l
  have H0 := Lib.hid (show Bx w [(w.heap.size, a, l)] w1 from ⟨hb1, fun x hx => by rw [List.mem_singleton] at hx; subst hx; exact hB1⟩)
  have p0 := hB1.cell0
  have p1 := hB1.cell1
  clear hB1 hb1 hV ha hpx hS ho hv
  go_enter Tryd.func3, Tryd.ntmps3
  go_wp2_with fail
  refine (hT1.out _ H0.out.1).mono ?_
  rintro en v1 ⟨rfl, hb⟩
  have H1 := Lib.hid (H0.out.step hb)
  clear hb p0 p1 H0
  clear hw1
  have p0 := (H1.out.get (b := w.heap.size) (a := a) (l := l) (by simp)).cell0
  have p1 := (H1.out.get (b := w.heap.size) (a := a) (l := l) (by simp)).cell1
  go_wp2_with fail
  refine wp_region_held_drew (S := fun W' => W'.cell? ⟨w.heap.size, 0, none⟩ = some (.int .u32 (a : Int)) ∧ W'.cell? ⟨w.heap.size, 1, none⟩ = some (.int .i64 l)) (by kernel_rfl) ⟨p0, p1⟩ (fun hHeld => ?_)
  obtain ⟨v2, hv2⟩ : ∃ v, v1.drew = v := ⟨_, rfl⟩
  have H2 := Lib.hid H1.out.drew
  rw [hv2] at hHeld H2 ⊢
  clear hv2 H1 p0 p1
  refine wpAnyH_ready (rs := [0]) (by kernel_rfl) (by simp) ?_
  refine AllReadyH.cons rfl (fun K hK => ?_) AllReadyH.nil
  go_simp
  refine (hAw.out _ H2.out.1).mono ?_
  rintro en v3 ⟨rfl, hb⟩
  have H3 := Lib.hid (H2.out.step hb)
  clear hb H2
  refine hK.out _ _ ⟨(H3.out.get (b := w.heap.size) (a := a) (l := l) (by simp)).cell0, (H3.out.get (b := w.heap.size) (a := a) (l := l) (by simp)).cell1⟩ (fun hHeld => ?_)
  clear hK K
  refine wpAnyH_takeD 1 (v := ?_) rfl rfl (by kernel_rfl) (by kernel_rfl) (by kernel_rfl) (fun _ _ _ h => h) (Or.inl ⟨by rfl, ?_⟩) hHeld ?_
  rotate_left
  focus (intro w hSw; (try dsimp only at hSw); go_simp; try with_reducible rfl)
  simp only [List.setIfInBounds_toArray, List.set_cons_zero, List.set_cons_succ]
  refine wpAnyH_takeD 2 (v := ?_) rfl rfl (by kernel_rfl) (by kernel_rfl) (by kernel_rfl) (fun _ _ _ h => h) (Or.inl ⟨by rfl, ?_⟩) hHeld ?_
  rotate_left
  focus (intro w hSw; (try dsimp only at hSw); go_simp; try with_reducible rfl)
  simp only [List.setIfInBounds_toArray, List.set_cons_zero, List.set_cons_succ]
  refine wpAnyH_takeD 3 (v := ?_) rfl rfl (by kernel_rfl) (by kernel_rfl) (by kernel_rfl) (fun _ _ _ h => h) (Or.inl ⟨by rfl, ?_⟩) hHeld ?_
  rotate_left
  focus (intro w hSw; (try dsimp only at hSw); go_simp; try with_reducible rfl)
  simp only [List.setIfInBounds_toArray, List.set_cons_zero, List.set_cons_succ]
  refine wpAnyH_takeD 4 (v := ?_) rfl rfl (by kernel_rfl) (by kernel_rfl) (by kernel_rfl) (fun _ _ _ h => h) (Or.inl ⟨by rfl, ?_⟩) hHeld ?_
  rotate_left
  focus (intro w hSw; (try dsimp only at hSw); go_simp; try with_reducible rfl)
  simp only [List.setIfInBounds_toArray, List.set_cons_zero, List.set_cons_succ]
  refine wpAnyH_ready (rs := [5]) (by kernel_rfl) (by simp) ?_
  refine AllReadyH.cons rfl (fun K hK => ?_) AllReadyH.nil
  go_simp
  refine (hT2.out _).mono ?_
  rintro en v4 ⟨rfl, hb⟩
  have H4 := Lib.hid (H3.out.step hb)
  clear hb H3
  refine hK.out _ _ ⟨(H4.out.get (b := w.heap.size) (a := a) (l := l) (by simp)).cell0, (H4.out.get (b := w.heap.size) (a := a) (l := l) (by simp)).cell1⟩ (fun hHeld => ?_)
  clear hK K
  refine wpAnyH_takeD 6 (v := ?_) rfl rfl (by kernel_rfl) (by kernel_rfl) (by kernel_rfl) (fun _ _ _ h => h) (Or.inl ⟨by rfl, ?_⟩) hHeld ?_
  rotate_left
  focus (intro w hSw; (try dsimp only at hSw); go_simp; try with_reducible rfl)
  simp only [List.setIfInBounds_toArray, List.set_cons_zero, List.set_cons_succ]
  refine wpAnyH_takeD 7 (v := ?_) rfl rfl (by kernel_rfl) (by kernel_rfl) (by kernel_rfl) (fun _ _ _ h => h) (Or.inl ⟨by rfl, ?_⟩) hHeld ?_
  rotate_left
  focus (intro w hSw; (try dsimp only at hSw); go_simp; try with_reducible rfl)
  simp only [List.setIfInBounds_toArray, List.set_cons_zero, List.set_cons_succ]
  refine wpAnyH_takeD 8 (v := ?_) rfl rfl (by kernel_rfl) (by kernel_rfl) (by kernel_rfl) (fun _ _ _ h => h) (Or.inl ⟨by rfl, ?_⟩) hHeld ?_
  rotate_left
  focus (intro w hSw; (try dsimp only at hSw); go_simp; try with_reducible rfl)
  simp only [List.setIfInBounds_toArray, List.set_cons_zero, List.set_cons_succ]
  refine wpAnyH_takeD 9 (v := ?_) rfl rfl (by kernel_rfl) (by kernel_rfl) (by kernel_rfl) (fun _ _ _ h => h) (Or.inl ⟨by rfl, ?_⟩) hHeld ?_
  rotate_left
  focus (intro w hSw; (try dsimp only at hSw); go_simp; try with_reducible rfl)
  simp only [List.setIfInBounds_toArray, List.set_cons_zero, List.set_cons_succ]
  refine wpAnyH_takeD 11 (v := ?_) rfl rfl (by kernel_rfl) (by kernel_rfl) (by kernel_rfl) (fun _ _ _ h => h) (Or.inl ⟨by rfl, ?_⟩) hHeld ?_
  rotate_left
  focus (intro w hSw; (try dsimp only at hSw); go_simp; try with_reducible rfl)
  simp only [List.setIfInBounds_toArray, List.set_cons_zero, List.set_cons_succ]
  refine wpAnyH_ready (rs := [10]) (by kernel_rfl) (by simp) ?_
  refine AllReadyH.cons rfl (fun K hK => ?_) AllReadyH.nil
  go_simp
  refine (hV1.out _).mono ?_
  rintro en v5 ⟨rfl, hb⟩
  have H5 := Lib.hid (H4.out.step hb)
  clear hb H4
  refine hK.out _ _ ⟨(H5.out.get (b := w.heap.size) (a := a) (l := l) (by simp)).cell0, (H5.out.get (b := w.heap.size) (a := a) (l := l) (by simp)).cell1⟩ (fun hHeld => ?_)
  clear hK K
  refine wpAnyH_ready (rs := [12]) (by kernel_rfl) (by simp) ?_
  refine AllReadyH.cons rfl (fun K hK => ?_) AllReadyH.nil
  go_simp
  refine (hV2.out _).mono ?_
  rintro en v6 ⟨rfl, hb⟩
  have H6 := Lib.hid (H5.out.step hb)
  clear hb H5
  refine hK.out _ _ ⟨(H6.out.get (b := w.heap.size) (a := a) (l := l) (by simp)).cell0, (H6.out.get (b := w.heap.size) (a := a) (l := l) (by simp)).cell1⟩ (fun hHeld => ?_)
  clear hK K
  refine wpAnyH_takeD 13 (v := ?_) rfl rfl (by kernel_rfl) (by kernel_rfl) (by kernel_rfl) (fun _ _ _ h => h) (Or.inl ⟨by rfl, ?_⟩) hHeld ?_
  rotate_left
  focus (intro w hSw; (try dsimp only at hSw); go_simp; try with_reducible rfl)
  simp only [List.setIfInBounds_toArray, List.set_cons_zero, List.set_cons_succ]
  refine wpAnyH_takeD 14 (v := ?_) rfl rfl (by kernel_rfl) (by kernel_rfl) (by kernel_rfl) (fun _ _ _ h => h) (Or.inl ⟨by rfl, ?_⟩) hHeld ?_
  rotate_left
  focus (intro w hSw; (try dsimp only at hSw); go_simp; try with_reducible rfl)
  simp only [List.setIfInBounds_toArray, List.set_cons_zero, List.set_cons_succ]
  refine wpAnyH_done (by kernel_rfl) ?_ _
  clear hHeld
  go_wp2_with fail
  refine (hPr.out _ H6.out.1).mono ?_
  rintro en v7 ⟨rfl, hb⟩
  have H7 := Lib.hid (H6.out.step hb)
  clear hb H6
  rcases HPX.out with ⟨hv0, ho0⟩ | ⟨n, hl, hv0, ho0⟩
  · subst hv0 ho0
    clear HPX
    unfold parseV
    go_upto_region 5 with fail
    have G7 := Lib.hid (H7.out.alloc1 0 0)
    rw [show (Obj.cells #[.int .u32 ((0 : Nat) : Int), .int .i64 0] 24) = Obj.cells #[.int .u32 0, .int .i64 0] 24 from rfl] at G7
    generalize v7.alloc (.cells #[.int .u32 0, .int .i64 0] 24) = u7 at G7 ⊢
    obtain ⟨bq, hbq⟩ : ∃ b, v7.heap.size = b := ⟨_, rfl⟩
    rw [hbq] at G7 ⊢
    clear hbq H7
    have p0 := (G7.out.get (b := w.heap.size) (a := a) (l := l) (by simp)).cell0
    have p1 := (G7.out.get (b := w.heap.size) (a := a) (l := l) (by simp)).cell1
    go_wp2_with fail
    refine (hV2.out _).mono ?_
    rintro en v8 ⟨rfl, hb⟩
    have H8 := Lib.hid (G7.out.step hb)
    clear hb p0 p1 G7
    go_wp2_with fail
    go_ret
    exact ⟨rfl, H8.out.1⟩
  · subst hl hv0 ho0
    clear HPX
    unfold parseV
    go_upto_region 5 with fail
    have G7 := Lib.hid (H7.out.alloc1 a n)
    generalize v7.alloc (.cells #[.int .u32 (a : Int), .int .i64 (n : Int)] 24) = u7 at G7 ⊢
    obtain ⟨bq, hbq⟩ : ∃ b, v7.heap.size = b := ⟨_, rfl⟩
    rw [hbq] at G7 ⊢
    clear hbq H7
    have p0 := (G7.out.get (b := w.heap.size) (a := a) (l := n) (by simp)).cell0
    have p1 := (G7.out.get (b := w.heap.size) (a := a) (l := n) (by simp)).cell1
    go_wp2_with fail
    refine (hV2.out _).mono ?_
    rintro en v8 ⟨rfl, hb⟩
    have H8 := Lib.hid (G7.out.step hb)
    clear hb p0 p1 G7
    have p0 := (H8.out.get (b := w.heap.size) (a := a) (l := n) (by simp)).cell0
    have p1 := (H8.out.get (b := w.heap.size) (a := a) (l := n) (by simp)).cell1
    have q0 := (H8.out.get (b := bq) (a := a) (l := n) (by simp)).cell0
    have q1 := (H8.out.get (b := bq) (a := a) (l := n) (by simp)).cell1
    go_wp2_with fail
    go_ret
    exact ⟨rfl, H8.out.1⟩
end Go.Proofs.YtgpgoadalnojdaaDoor
