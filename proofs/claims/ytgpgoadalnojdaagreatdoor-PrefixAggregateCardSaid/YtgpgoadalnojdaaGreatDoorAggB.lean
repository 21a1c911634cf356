/- The order of prefixes as slices.SortFunc asks it; a row of prefixes, sorted. -/
import Derived.Test.YtgpgoadalnojdaaGreatDoorAggA
import Derived.Test.YtgpgoadalnojdaaGreatDoorPfxF
import Derived.Test.YtgpgoadalnojdaaGreatDoorSrt
import Derived.Lib.OwnBridge
namespace Go.Proofs.YtgpgoadalnojdaaGreatDoor
open Go.RowKit

/-- A world that has drawn, with new blocks behind it. -/
def GD (w w' : World) : Prop := ∃ q os, w' = Sort.grow (w.drewN q) os
section
variable {w w' : World}
theorem GD.refl (w : World) : GD w w := ⟨0, #[], by rw [Sort.grow_empty]; rfl⟩
theorem GD.drew (h : GD w w') : GD w w'.drew := by
  obtain ⟨q, os, rfl⟩ := h
  exact ⟨q + 1, os, rfl⟩
theorem GD.alloc (h : GD w w') (o : Obj) : GD w (w'.alloc o) := by
  obtain ⟨q, os, rfl⟩ := h
  exact ⟨q, os ++ #[o], by rw [Sort.alloc_eq_grow, Sort.grow_grow]⟩
end

set_option maxHeartbeats 4000000 in
theorem compare_gd (a : Nat) (l : Int) (b : Nat) (m : Int) (w : World) : Calls Tryz.prog 20 #[pv a l, pv b m] w fun e w' => e = .returned (.int .i64 (cmpS a l b m)) ∧ GD w w' := by
  have hU := Lib.hid (fun W => cmpU_any a b W)
  have hI := Lib.hid (fun W => cmpI_any l m W)
  have hS : cmpS a l b m = if cmpI a b ≠ 0 then cmpI a b else cmpI l m := rfl
  obtain ⟨x, hx⟩ : ∃ x, cmpI a b = x := ⟨_, rfl⟩
  obtain ⟨y, hy⟩ : ∃ y, cmpI l m = y := ⟨_, rfl⟩
  rw [hx, hy] at hS
  rw [hx] at hU
  rw [hy] at hI
  rw [hS]
  have hO := Lib.hid (fun W g h0 h1 => or_any x y g W h0 h1)
  obtain ⟨r, hr⟩ : ∃ r, (if x ≠ 0 then x else y) = r := ⟨_, rfl⟩
  rw [hr] at hO ⊢
  obtain ⟨b1, w2, e1, hw2, hP, hQ, -⟩ := start_pq w a l b m
  have hb : GD w w2 := by rw [← hw2]; exact ((GD.refl w).alloc _).alloc _
  have H2 := Lib.hid (And.intro hP (And.intro hQ hb))
  have p0 := hP.cell0
  have p1 := hP.cell1
  have q0 := hQ.cell0
  have q1 := hQ.cell1
  have E1 := Lib.hid e1.symm
  clear hS hx hy hr hP hQ hb e1
  go_enter Tryz.func20, Tryz.ntmps20
  go_wp2_with fail
  try simp only [E1.out]
  refine wp_region_held_drew (S := fun W' => W'.cell? ⟨w.heap.size, 0, none⟩ = some (.int .u32 (a : Int)) ∧ W'.cell? ⟨w.heap.size, 1, none⟩ = some (.int .i64 l) ∧ W'.cell? ⟨b1, 0, none⟩ = some (.int .u32 (b : Int)) ∧ W'.cell? ⟨b1, 1, none⟩ = some (.int .i64 m)) (by kernel_rfl) ⟨p0, p1, q0, q1⟩ (fun hHeld => ?_)
  obtain ⟨w3, hw3⟩ : ∃ w3, w2.drew = w3 := ⟨_, rfl⟩
  have H3 := Lib.hid (And.intro H2.out.1.drew (And.intro H2.out.2.1.drew H2.out.2.2.drew))
  rw [hw3] at hHeld H3 ⊢
  clear hw3 hw2 H2 p0 p1 q0 q1
  refine wpAnyH_takeD 0 (v := ?_) rfl rfl (by kernel_rfl) (by kernel_rfl) (by kernel_rfl) (fun _ _ _ h => h) (Or.inl ⟨by rfl, ?_⟩) hHeld ?_
  rotate_left
  focus (intro w hSw; (try dsimp only at hSw); go_simp; try with_reducible rfl)
  simp only [List.setIfInBounds_toArray, List.set_cons_zero, List.set_cons_succ]
  refine wpAnyH_takeD 1 (v := ?_) rfl rfl (by kernel_rfl) (by kernel_rfl) (by kernel_rfl) (fun _ _ _ h => h) (Or.inl ⟨by rfl, ?_⟩) hHeld ?_
  rotate_left
  focus (intro w hSw; (try dsimp only at hSw); go_simp; try with_reducible rfl)
  simp only [List.setIfInBounds_toArray, List.set_cons_zero, List.set_cons_succ]
  refine wpAnyH_takeD 2 (v := ?_) rfl rfl (by kernel_rfl) (by kernel_rfl) (by kernel_rfl) (fun _ _ _ h => h) (Or.inl ⟨by rfl, ?_⟩) hHeld ?_
  rotate_left
  focus (intro w hSw; (try dsimp only at hSw); go_simp; try with_reducible rfl)
  simp only [List.setIfInBounds_toArray, List.set_cons_zero, List.set_cons_succ]
  refine wpAnyH_takeD 3 (v := ?_) rfl rfl (by kernel_rfl) (by kernel_rfl) (by kernel_rfl) (fun _ _ _ h => h) (Or.inl ⟨by rfl, ?_⟩) hHeld ?_
  rotate_left
  focus (intro w hSw; (try dsimp only at hSw); go_simp; try with_reducible rfl)
  simp only [List.setIfInBounds_toArray, List.set_cons_zero, List.set_cons_succ]
  refine wpAnyH_takeD 5 (v := ?_) rfl rfl (by kernel_rfl) (by kernel_rfl) (by kernel_rfl) (fun _ _ _ h => h) (Or.inl ⟨by rfl, ?_⟩) hHeld ?_
  rotate_left
  focus (intro w hSw; (try dsimp only at hSw); go_simp; try with_reducible rfl)
  simp only [List.setIfInBounds_toArray, List.set_cons_zero, List.set_cons_succ]
  refine wpAnyH_takeD 6 (v := ?_) rfl rfl (by kernel_rfl) (by kernel_rfl) (by kernel_rfl) (fun _ _ _ h => h) (Or.inl ⟨by rfl, ?_⟩) hHeld ?_
  rotate_left
  focus (intro w hSw; (try dsimp only at hSw); go_simp; try with_reducible rfl)
  simp only [List.setIfInBounds_toArray, List.set_cons_zero, List.set_cons_succ]
  refine wpAnyH_takeD 7 (v := ?_) rfl rfl (by kernel_rfl) (by kernel_rfl) (by kernel_rfl) (fun _ _ _ h => h) (Or.inl ⟨by rfl, ?_⟩) hHeld ?_
  rotate_left
  focus (intro w hSw; (try dsimp only at hSw); go_simp; try with_reducible rfl)
  simp only [List.setIfInBounds_toArray, List.set_cons_zero, List.set_cons_succ]
  refine wpAnyH_takeD 8 (v := ?_) rfl rfl (by kernel_rfl) (by kernel_rfl) (by kernel_rfl) (fun _ _ _ h => h) (Or.inl ⟨by rfl, ?_⟩) hHeld ?_
  rotate_left
  focus (intro w hSw; (try dsimp only at hSw); go_simp; try with_reducible rfl)
  simp only [List.setIfInBounds_toArray, List.set_cons_zero, List.set_cons_succ]
  refine wpAnyH_ready (rs := [4]) (by kernel_rfl) (by simp) ?_
  refine AllReadyH.cons rfl (fun K hK => ?_) AllReadyH.nil
  go_simp
  refine (hU.out _).mono ?_
  rintro e w5 ⟨rfl, rfl⟩
  refine hK.out _ _ hHeld (fun hHeld => ?_)
  clear hK K
  refine wpAnyH_ready (rs := [9]) (by kernel_rfl) (by simp) ?_
  refine AllReadyH.cons rfl (fun K hK => ?_) AllReadyH.nil
  go_simp
  refine (hI.out _).mono ?_
  rintro e w5 ⟨rfl, rfl⟩
  refine hK.out _ _ hHeld (fun hHeld => ?_)
  clear hK K
  refine wpAnyH_ready (rs := [10]) (by kernel_rfl) (by simp) ?_
  refine AllReadyH.cons rfl (fun K hK => ?_) AllReadyH.nil
  go_simp
  have hN : PrX (w5.alloc (.cells #[.int .i64 x, .int .i64 y] 3)) w5.heap.size x y := heap_alloc_new _ _
  have H6 := Lib.hid (And.intro (H3.out.1.alloc (.cells #[.int .i64 x, .int .i64 y] 3)) (And.intro (H3.out.2.1.alloc (.cells #[.int .i64 x, .int .i64 y] 3)) (H3.out.2.2.alloc (.cells #[.int .i64 x, .int .i64 y] 3))))
  refine hK.out _ _ ⟨H6.out.1.cell0, H6.out.1.cell1, H6.out.2.1.cell0, H6.out.2.1.cell1⟩ (fun hHeld => ?_)
  clear hK K
  refine wpAnyH_ready (rs := [11]) (by kernel_rfl) (by simp) ?_
  refine AllReadyH.cons rfl (fun K hK => ?_) AllReadyH.nil
  go_simp
  refine (hO.out _ _ hN.cell0 hN.cell1).mono ?_
  rintro e w6 ⟨rfl, rfl⟩
  refine hK.out _ _ hHeld (fun hHeld => ?_)
  clear hK K
  refine wpAnyH_takeD 12 (v := ?_) rfl rfl (by kernel_rfl) (by kernel_rfl) (by kernel_rfl) (fun _ _ _ h => h) (Or.inl ⟨by rfl, ?_⟩) hHeld ?_
  rotate_left
  focus (intro w hSw; (try dsimp only at hSw); go_simp; try with_reducible rfl)
  simp only [List.setIfInBounds_toArray, List.set_cons_zero, List.set_cons_succ]
  refine wpAnyH_done (by kernel_rfl) ?_ _
  go_wp2_with fail
  go_ret
  exact ⟨rfl, H6.out.2.2⟩

/-- A prefix's two cells. -/
def encP (x : Px) : List Value := [.int .u32 (x.1 : Int), .int .i64 (x.2 : Int)]
/-- The cells of a list of prefixes. -/
def fl (M : List Px) : List Value := M.flatMap encP
def cmpP (x y : Px) : Int := cmpS x.1 x.2 y.1 y.2
theorem fl_length (M : List Px) : (fl M).length = M.length * 2 := by
  induction M with
  | nil => rfl
  | cons x M ih => simp only [fl, List.flatMap_cons, List.length_append, List.length_cons] at *; simp [encP] at *; omega
theorem fl_get (M : List Px) {i : Nat} (hi : i < M.length) (c : Nat) (hc : c < 2) : (fl M)[i * 2 + c]? = (encP M[i])[c]? := by
  induction M generalizing i with
  | nil => simp at hi
  | cons x M ih =>
    cases i with
    | zero =>
      simp only [fl, List.flatMap_cons, Nat.zero_mul, Nat.zero_add, List.getElem_cons_zero]
      rw [List.getElem?_append_left (by simp [encP]; omega)]
    | succ i =>
      have := ih (i := i) (by simpa using hi)
      simp only [fl, List.flatMap_cons, List.getElem_cons_succ]
      rw [List.getElem?_append_right (by simp [encP]; omega), show (i + 1) * 2 + c - (encP x).length = i * 2 + c by simp [encP]; omega]
      exact this
theorem flatK_fl (d : Array Px) : Sort.flatK encP 2 d = (fl d.toList).toArray := by
  apply Array.ext_getElem?
  intro t
  by_cases ht : t < d.size * 2
  · have h1 := Sort.get_flatK encP 2 d t ht
    rw [getElem!_pos _ t (by rw [Sort.size_flatK]; exact ht)] at h1
    rw [Array.getElem?_eq_getElem (by rw [Sort.size_flatK]; exact ht), h1]
    have hq : t / 2 < d.toList.length := by simp; omega
    have h2 := fl_get d.toList (i := t / 2) hq (t % 2) (by omega)
    rw [show t / 2 * 2 + t % 2 = t by omega] at h2
    rw [List.getElem?_toArray, h2, getElem!_pos d (t / 2) (by omega)]
    rw [getElem!_pos _ _ (by simp [encP]; omega), List.getElem?_eq_getElem (by simp [encP]; omega)]
    simp
  · rw [Array.getElem?_eq_none (by rw [Sort.size_flatK]; omega), Array.getElem?_eq_none (by simp [fl_length]; omega)]

theorem cmpP_lt {a b : Nat} {l m : Int} (h : a < b) : cmpS a l b m = -1 := by unfold cmpS cmpI; rw [if_pos (show (a : Int) < b by omega)]; simp
theorem cmpP_gt {a b : Nat} {l m : Int} (h : b < a) : cmpS a l b m = 1 := by unfold cmpS cmpI; rw [if_neg (show ¬ (a : Int) < b by omega), if_pos (show (b : Int) < a by omega)]; simp
theorem cmpP_eq {a : Nat} {l m : Int} : cmpS a l a m = cmpI l m := by unfold cmpS; simp [cmpI]
theorem lt_cmpP (x y : Px) : ltOf cmpP x y = decide (x.1 < y.1 ∨ x.1 = y.1 ∧ x.2 < y.2) := by
  unfold ltOf cmpP
  rw [decide_eq_decide]
  rcases Nat.lt_trichotomy x.1 y.1 with h | h | h
  · rw [cmpP_lt h]; simp [h]
  · rw [h, cmpP_eq]
    unfold cmpI
    by_cases h1 : (x.2 : Int) < y.2
    · rw [if_pos h1]; simp; omega
    · rw [if_neg h1]
      by_cases h2 : (y.2 : Int) < x.2
      · rw [if_pos h2]; simp; omega
      · rw [if_neg h2]; simp; omega
  · rw [cmpP_gt h]; simp; omega
theorem swo_cmpP : Sort.SWO (ltOf cmpP) where
  irrefl x := by rw [lt_cmpP]; simp
  trans x y z h1 h2 := by rw [lt_cmpP] at *; simp at *; omega
  ntrans x y z h1 h2 := by rw [lt_cmpP] at *; simp at *; omega
theorem cmp_lays (blk off size : Nat) (w : World) : CmpLays Tryz.prog 20 #[] encP 2 cmpP blk off size w :=
  fun _ _ _ _ x y => compare_gd x.1 x.2 y.1 y.2 _

/-- A row of prefixes of the call's own. -/
abbrev OwnP (w : World) (base : Nat) (v : Value) (M : List Px) : Prop := w.ownsRow base 32 2 v M.length (fl M)
theorem holdsK_own {w : World} {base g cap : Nat} {M : List Px} (h : OwnP w base (.slice (some ⟨g, 0, none⟩) M.length cap) M) : Sort.HoldsK encP 2 w g 0 M.toArray := by
  intro j hj
  rw [flatK_fl] at hj ⊢
  simp only [List.size_toArray] at hj
  rw [Nat.zero_add]
  rw [fl_length] at hj
  refine ⟨?_, h.frozenAt j⟩
  rw [h.cellAt j hj]
  rw [getElem!_pos _ j (by simp [fl_length]; omega), List.getElem?_eq_getElem (by simp [fl_length]; omega)]
  simp
theorem own_sorted {w : World} {base g cap q : Nat} {os : Array Obj} {M M' : List Px} (h : OwnP w base (.slice (some ⟨g, 0, none⟩) M.length cap) M) (hl : M'.length = M.length) :
    OwnP (sortWorldK encP 2 w g 0 q M'.toArray os) base (.slice (some ⟨g, 0, none⟩) M'.length cap) M' ∧ ∀ B w0, B ≤ g → Below B w0 w → Below B w0 (sortWorldK encP 2 w g 0 q M'.toArray os) := by
  unfold sortWorldK Sort.putRowK
  rw [flatK_fl]
  simp only
  refine ⟨?_, fun B w0 hB hb => ?_⟩
  · rcases h.2 with ⟨e0, _⟩ | ⟨g', cap', cur, e0, hb, hg, hn, hm, hs, ht⟩
    · cases e0
    · cases e0
      have hlt : g < w.heap.size := by
        rcases Nat.lt_or_ge g w.heap.size with h' | h'
        · exact h'
        · rw [Array.getElem?_eq_none h'] at hg; cases hg
      refine ⟨fl_length M', .inr ⟨g, cap, Sort.putCells id 0 (fl M').toArray cur, rfl, hb, ?_, by omega, hm, by simpa [Sort.putCells] using hs, ?_⟩⟩
      · rw [Sort.heap_grow_old _ _ (by simp [Sort.putRow, Sort.mapBlock, Sort.ahead]; exact hlt)]
        simp [Sort.putRow, Sort.mapBlock, Sort.ahead, Array.getElem?_modify, hg, Sort.onCells]
      · apply List.ext_getElem?
        intro j
        rw [List.getElem?_take, Array.getElem?_toList]
        by_cases hj : j < M'.length * 2
        · have hjc : j < cur.size := by omega
          have hjf : j < (fl M').length := by rw [fl_length]; exact hj
          simp only [if_pos hj, Sort.putCells, Array.getElem?_mapIdx, Array.getElem?_eq_getElem hjc, Option.map_some]
          rw [if_pos (by simp; exact hjf), List.getElem?_eq_getElem hjf]
          simp [getElem!_pos, hjf]
        · rw [if_neg hj, List.getElem?_eq_none (by rw [fl_length]; omega)]
  · have h1 := Lib.below_putRow (enc := id) (q := q) (d := (fl M').toArray) hb hB
    exact ⟨h1.os, h1.tape, h1.output, by rw [Sort.size_grow]; exact Nat.le_trans h1.size (Nat.le_add_right _ _), fun k hk => by
      rw [← h1.block k hk]
      exact Sort.heap_grow_old _ _ (by rw [Sort.size_putRow]; show k < w.heap.size; have := (h.lt g rfl).2; omega)⟩

theorem eg_compare : ∀ args w, (callFunc 20 args).run Tryz.prog w = .ok (.enter 20 args) w := enters_of Tryz.func20 (by kernel_rfl) rfl
theorem encP_one : ∀ x : Px, ∀ v ∈ encP x, v.oneCell' = true := fun x v hv => by simp [encP] at hv; rcases hv with rfl | rfl <;> rfl

/-- What SortFunc leaves. -/
def SortPost (w : World) (base g cap : Nat) (M : List Px) (e : Ending) (w' : World) : Prop :=
  e = .returned (.tuple #[]) ∧ ∃ M' : List Px, M'.Perm M ∧ M'.Pairwise Le ∧ OwnP w' base (.slice (some ⟨g, 0, none⟩) M.length cap) M' ∧ ∀ B w0, B ≤ g → Below B w0 w → Below B w0 w'
theorem sort_row {w : World} {base g cap : Nat} {M : List Px} (h : OwnP w base (.slice (some ⟨g, 0, none⟩) M.length cap) M) (hn : M.length < 4611686018427387904) :
    Calls Tryz.prog 19 #[.slice (some ⟨g, 0, none⟩) M.length cap, .func (.func 20) #[] #[]] w (SortPost w base g cap M) := by
  have hlt := h.lt g rfl
  have hc := AnyQ.slices_SortFunc Tryz.sortPx 2 Tryz.isAgg32 Tryz.sizeOf32 encP (fun _ => rfl) encP_one cmpP swo_cmpP 20 #[] g 0 cap M.toArray w eg_compare (cmp_lays _ _ _ _) (holdsK_own h) hlt.2 (by simpa using hn)
  simp only [List.size_toArray] at hc
  refine Calls.mono hc ?_
  rintro e w' ⟨rfl, d', n, os, hp, hs, rfl⟩
  have hl : d'.toList.length = M.length := by have := hp.1; simpa using this
  have ho := own_sorted (q := n) (os := os) h hl
  rw [Array.toArray_toList] at ho
  refine ⟨rfl, d'.toList, ?_, ?_, ?_, ho.2⟩
  · have h3 := hp.2.2
    rwa [Array.extract_eq_self_of_le (by simp at hl ⊢; omega), Array.extract_eq_self_of_le (by simp)] at h3
  · rw [List.pairwise_iff_getElem]
    intro i j hi hj hij
    have := hs i j (Nat.zero_le _) hij (by omega)
    rw [getElem!_pos d' j (by simpa using hj), getElem!_pos d' i (by simpa using hi), lt_cmpP] at this
    simp at this
    simp only [Array.getElem_toList]
    unfold Le
    omega
  · rw [← hl]; exact ho.1
theorem sort_none (p : Option Addr) (cap : Nat) (fv : Value) (w : World) :
    Calls Tryz.prog 19 #[.slice p 0 cap, fv] w fun e w' => e = .returned (.tuple #[]) ∧ w' = w := AnyF.slices_SortFunc_none Tryz.sortPx p cap fv w
theorem infoPx : (Tryz.prog.info? 32).map (fun i => (i.zero, i.size, i.bytes)) = some (some (pv 0 0), 2, 16) := by kernel_rfl
end Go.Proofs.YtgpgoadalnojdaaGreatDoor
