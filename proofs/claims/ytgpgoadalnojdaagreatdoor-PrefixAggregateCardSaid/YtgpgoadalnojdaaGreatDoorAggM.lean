/- Contract of the reference: within. -/
import Derived.Test.YtgpgoadalnojdaaGreatDoorAggJ
namespace Go.Proofs.YtgpgoadalnojdaaGreatDoor
open Go.RowKit

/-- A list of valid prefixes. -/
def VL (w : World) (A : Option Addr) (M : List Px) : Prop := PxL w A M.length (xsOf M) ∧ ∀ p ∈ M, Vld p
theorem VL.below {w W : World} {A : Option Addr} {M : List Px} (h : VL w A M) (hb : Below w.heap.size w W) : VL W A M := ⟨h.1.below hb, h.2⟩
theorem VL.at {w W : World} {A : Option Addr} {M : List Px} (h : VL w A M) (hb : Below w.heap.size w W) {i : Nat} (hi : i < M.length) :
    ∃ b off, A = some ⟨b, off, none⟩ ∧ b < w.heap.size ∧ W.cell? ⟨b, off + i * 2, none⟩ = some (.int .u32 (M[i].1 : Int)) ∧ W.cell? ⟨b, off + i * 2 + 1, none⟩ = some (.int .i64 (M[i].2 : Int)) := by
  obtain ⟨b, off, e, h1, h2, h3, -⟩ := h.1 i hi
  have e2 : M.getD i (0, 0) = M[i] := by simp [List.getD, hi]
  unfold xsOf at h2 h3
  rw [e2] at h2 h3
  exact ⟨b, off, e, h1, (hb.cell (p := ⟨b, off + i * 2, none⟩) h1).trans h2, (hb.cell (p := ⟨b, off + i * 2 + 1, none⟩) h1).trans h3⟩
/-- What within returns. -/
def anyC (M : List Px) (p : Px) : Bool := M.any fun q => decide (Cov q p)
def filC (M : List Px) (p : Px) : List Px := M.filter fun q => decide (Cov p q)
def WithinPost (w : World) (M : List Px) (p : Px) (e : Ending) (w' : World) : Prop :=
  ∃ v, e = .returned (.tuple #[v, .bool (anyC M p)]) ∧ OwnP w' w.heap.size v (if anyC M p then [] else filC M p) ∧ Below w.heap.size w w'
/-- The state of within's loop. -/
structure WI (w : World) (M : List Px) (p : Px) (i : Nat) (vo : Value) (wr : World) : Prop where
  none : ∀ q ∈ M.take i, ¬ Cov q p
  own : OwnP wr (w.heap.size + 1) vo (filC (M.take i) p)
  below : Below w.heap.size w wr
  box : PB wr w.heap.size p.1 p.2
theorem WI.step {w wr wr' : World} {M : List Px} {p : Px} {i : Nat} {vo : Value} (h : WI w M p i vo wr) (hb : Below wr.heap.size wr wr') : WI w M p i vo wr' :=
  ⟨h.none, h.own.below hb, h.below.trans (hb.mono h.below.size), h.box.step hb⟩
theorem WI.skip {w wr : World} {M : List Px} {p : Px} {i : Nat} {vo : Value} (h : WI w M p i vo wr) (hi : i < M.length) (h1 : ¬ Cov M[i] p) (h2 : ¬ Cov p M[i]) : WI w M p (i + 1) vo wr := by
  refine ⟨fun q hq => ?_, ?_, h.below, h.box⟩
  · rw [List.take_succ_eq_append_getElem hi] at hq
    rcases List.mem_append.1 hq with h3 | h3
    · exact h.none q h3
    · rw [List.mem_singleton.1 h3]; exact h1
  · have e : filC (M.take (i + 1)) p = filC (M.take i) p := by
      unfold filC
      rw [List.take_succ_eq_append_getElem hi, List.filter_append]
      simp [h2]
    rw [e]; exact h.own
theorem filC_snoc {M : List Px} {p : Px} {i : Nat} (hi : i < M.length) (h2 : Cov p M[i]) : filC (M.take (i + 1)) p = filC (M.take i) p ++ [M[i]] := by
  unfold filC
  rw [List.take_succ_eq_append_getElem hi, List.filter_append]
  simp [h2]
theorem WI.more {w wr w2 : World} {M : List Px} {p : Px} {i : Nat} {vo v' : Value} (h : WI w M p i vo wr) (hi : i < M.length) (h1 : ¬ Cov M[i] p) (h2 : Cov p M[i]) (o : Obj)
    (hown : w2.ownsRow (w.heap.size + 1) 32 2 v' ((filC (M.take i) p).length + 1) (fl (filC (M.take i) p) ++ encP M[i])) (hg : (wr.alloc o).grownBy w2 vo.ownBlock) : WI w M p (i + 1) v' w2 := by
  have hb : ∀ k, vo.ownBlock = some k → w.heap.size + 1 ≤ k := fun k hk => (h.own.lt k hk).1
  have hs := h.below.size
  refine ⟨fun q hq => ?_, ?_, ?_, ?_⟩
  · rw [List.take_succ_eq_append_getElem hi] at hq
    rcases List.mem_append.1 hq with h3 | h3
    · exact h.none q h3
    · rw [List.mem_singleton.1 h3]; exact h1
  · rw [filC_snoc hi h2]
    unfold OwnP
    rw [fl_snoc]
    simpa using hown
  · exact (h.below.alloc hs o).trans (below_of_gb hg (by simp; omega) (fun k hk => by have := hb k hk; omega))
  · have hlt := h.box.lt
    exact (hg.block w.heap.size (by simp; omega) (fun e => by have := hb _ e.symm; omega)).trans (h.box.alloc o)
theorem refCov_any {p q : Px} (hp : Vld p) (hq : Vld q) (w : World) : Calls Tryz.prog 12 #[pv p.1 p.2, pv q.1 q.2] w fun e w' => e = .returned (.bool (decide (Cov p q))) ∧ Below w.heap.size w w' := by
  have h := refCovers_any p.1 p.2 q.1 q.2 w (vld_lt hp) (vld_lt hq)
  have e : covB p.1 (p.2 : Int) q.1 (q.2 : Int) = decide (Cov p q) := by
    rw [Bool.eq_iff_iff, covB_vld hp hq, decide_eq_true_eq]
  rwa [e] at h

set_option maxRecDepth 100000 in
set_option maxHeartbeats 16000000 in
theorem within_any {w : World} {A : Option Addr} {c : Nat} {M : List Px} {p : Px} (hL : VL w A M) (hp : Vld p) (hn : M.length ≤ 1000) :
    Calls Tryz.prog 38 #[.slice A M.length c, pv p.1 p.2] w (WithinPost w M p) := by
  have HL := Lib.hid hL
  have hC1 := Lib.hid (fun (i : Nat) (hi : i < M.length) W => refCov_any (hL.2 _ (List.getElem_mem hi)) hp W)
  have hC2 := Lib.hid (fun (i : Nat) (hi : i < M.length) W => refCov_any hp (hL.2 _ (List.getElem_mem hi)) W)
  obtain ⟨w1, hw1, hB1, hb1⟩ := fresh_box w p.1 p.2
  have HI0 := Lib.hid (show WI w M p 0 (.slice none 0 0) w1 from ⟨fun q hq => by simp at hq, OwnP.nil _ _, hb1, hB1⟩)
  obtain ⟨m, hm⟩ : ∃ m, M.length = m := ⟨_, rfl⟩
  have HM := Lib.hid hm
  rw [hm] at hn ⊢
  clear hL hp hB1 hb1 hm
  go_enter Tryz.func38, Tryz.ntmps38
  go_wp2_with fail
  go_loopw [7, 6] (fun v vo wr => ∃ i : Nat, v = .int .i64 (i : Nat) ∧ i ≤ m ∧ Hid (WI w M p i vo wr)) (fun v _ _ => m - (intOf v).toNat)
  case atStart => exact ⟨0, rfl, Nat.zero_le _, HI0⟩
  case round =>
    clear HI0 hw1
    obtain ⟨wq, rfl⟩ : ∃ x, x = wr := ⟨_, rfl⟩
    obtain ⟨i, rfl, hi, HI⟩ := hrel
    by_cases him : i < m
    · have hiM : i < M.length := by rw [HM.out]; exact him
      have hz0 : (0 : Int) ≤ (i : Int) := by omega
      have hz1 : (i : Int) < (m : Int) := by omega
      have hwi : IntKind.i64.wrap ((i : Int) + 1) = (i : Int) + 1 := IntWalk.i64_in _ (by omega)
      obtain ⟨b, off, rfl, hb, c0, c1⟩ := HL.out.at HI.out.below hiM
      have hbq : b < wq.heap.size := Nat.lt_of_lt_of_le hb HI.out.below.size
      have p0 := HI.out.box.cell0
      have p1 := HI.out.box.cell1
      have hlb := HI.out.box.lt
      have hD1 := Lib.hid (hC1.out i hiM)
      have hD2 := Lib.hid (hC2.out i hiM)
      obtain ⟨q, hq⟩ : ∃ q, M[i] = q := ⟨_, rfl⟩
      obtain ⟨r1, hr1⟩ : ∃ r, decide (Cov M[i] p) = r := ⟨_, rfl⟩
      obtain ⟨r2, hr2⟩ : ∃ r, decide (Cov p M[i]) = r := ⟨_, rfl⟩
      rw [hr1] at hD1
      rw [hr2] at hD2
      rw [hq] at c0 c1 hD1 hD2
      have HQ := Lib.hid hq
      have HR := Lib.hid (And.intro hr1 hr2)
      clear hq hr1 hr2
      go_wp2_with fail
      refine wp_region_held_drew (S := fun W' => W'.cell? ⟨b, off + i * 2, none⟩ = some (.int .u32 (q.1 : Int)) ∧ W'.cell? ⟨b, off + i * 2 + 1, none⟩ = some (.int .i64 (q.2 : Int)) ∧ W'.cell? ⟨w.heap.size, 0, none⟩ = some (.int .u32 (p.1 : Int)) ∧ W'.cell? ⟨w.heap.size, 1, none⟩ = some (.int .i64 (p.2 : Int))) (by kernel_rfl) ⟨c0, c1, p0, p1⟩ (fun hHeld => ?_)
      obtain ⟨wd, hwd⟩ : ∃ wd, wq.drew = wd := ⟨_, rfl⟩
      have H7 := Lib.hid (HI.out.step (Below.refl _ wq).drew)
      have hbd : b < wd.heap.size ∧ w.heap.size < wd.heap.size := by rw [← hwd]; exact ⟨hbq, hlb⟩
      rw [hwd] at hHeld H7 ⊢
      clear hwd HI c0 c1 p0 p1 hbq hlb
      refine wpAnyH_takeD 0 (v := ?_) rfl rfl (by kernel_rfl) (by kernel_rfl) (by kernel_rfl) (fun _ _ _ h => h) (Or.inl ⟨by rfl, ?_⟩) hHeld ?_
      rotate_left
      focus (intro w hSw; (try dsimp only at hSw); go_simp; try with_reducible rfl)
      simp only [List.setIfInBounds_toArray, List.set_cons_zero, List.set_cons_succ]
      refine wpAnyH_takeD 1 (v := ?_) rfl rfl (by kernel_rfl) (by kernel_rfl) (by kernel_rfl) (fun _ _ _ h => h) (Or.inl ⟨by rfl, ?_⟩) hHeld ?_
      rotate_left
      focus (intro w hSw; (try dsimp only at hSw); go_simp; try with_reducible rfl)
      simp only [List.setIfInBounds_toArray, List.set_cons_zero, List.set_cons_succ]
      refine wpAnyH_takeD 2 (v := ?_) rfl rfl (by kernel_rfl) (by kernel_rfl) (by kernel_rfl) (fun _ _ _ h => h) (Or.inl ⟨by rfl, ?_⟩) hHeld ?_
      rotate_left
      focus (intro w hSw; (try dsimp only at hSw); go_simp; try with_reducible rfl)
      simp only [List.setIfInBounds_toArray, List.set_cons_zero, List.set_cons_succ]
      refine wpAnyH_takeD 3 (v := ?_) rfl rfl (by kernel_rfl) (by kernel_rfl) (by kernel_rfl) (fun _ _ _ h => h) (Or.inl ⟨by rfl, ?_⟩) hHeld ?_
      rotate_left
      focus (intro w hSw; (try dsimp only at hSw); go_simp; try with_reducible rfl)
      simp only [List.setIfInBounds_toArray, List.set_cons_zero, List.set_cons_succ]
      refine wpAnyH_takeD 4 (v := ?_) rfl rfl (by kernel_rfl) (by kernel_rfl) (by kernel_rfl) (fun _ _ _ h => h) (Or.inl ⟨by rfl, ?_⟩) hHeld ?_
      rotate_left
      focus (intro w hSw; (try dsimp only at hSw); go_simp; try with_reducible rfl)
      simp only [List.setIfInBounds_toArray, List.set_cons_zero, List.set_cons_succ]
      refine wpAnyH_ready (rs := [5]) (by kernel_rfl) (by simp) ?_
      refine AllReadyH.cons rfl (fun K hK => ?_) AllReadyH.nil
      go_simp
      refine (hD1.out _).mono ?_
      rintro e w8 ⟨rfl, hb8⟩
      have H8 := Lib.hid (H7.out.step hb8)
      have c0 : w8.cell? ⟨b, off + i * 2, none⟩ = some (.int .u32 (q.1 : Int)) := (hb8.cell (p := ⟨b, off + i * 2, none⟩) hbd.1).trans hHeld.1
      have c1 : w8.cell? ⟨b, off + i * 2 + 1, none⟩ = some (.int .i64 (q.2 : Int)) := (hb8.cell (p := ⟨b, off + i * 2 + 1, none⟩) hbd.1).trans hHeld.2.1
      have p0 := H8.out.box.cell0
      have p1 := H8.out.box.cell1
      have hbe : b < w8.heap.size ∧ w.heap.size < w8.heap.size := ⟨Nat.lt_of_lt_of_le hbd.1 hb8.size, H8.out.box.lt⟩
      refine hK.out _ _ ⟨c0, c1, p0, p1⟩ (fun hHeld => ?_)
      clear hK K
      refine wpAnyH_done (by kernel_rfl) ?_ _
      clear hHeld hb8 H7 hbd
      cases r1 with
      | true =>
        have HF : Hid (WithinPost w M p (.returned (.tuple #[.slice none 0 0, .bool true])) w8) := by
          have e : anyC M p = true := List.any_eq_true.2 ⟨M[i], List.getElem_mem hiM, HR.out.1⟩
          refine Lib.hid ⟨_, by rw [e], ?_, H8.out.below⟩
          rw [e]
          exact OwnP.nil _ _
        go_wp2_with fail
        exact bodyPost_ret (v := .tuple #[.slice none 0 0, .bool true]) (by simp [results, Tryz.results38, go_sem]) rfl HF.out
      | false =>
        have hnc1 := Lib.hid (of_decide_eq_false HR.out.1)
        go_wp2_with fail
        refine wp_region_held_drew (S := fun W' => W'.cell? ⟨b, off + i * 2, none⟩ = some (.int .u32 (q.1 : Int)) ∧ W'.cell? ⟨b, off + i * 2 + 1, none⟩ = some (.int .i64 (q.2 : Int)) ∧ W'.cell? ⟨w.heap.size, 0, none⟩ = some (.int .u32 (p.1 : Int)) ∧ W'.cell? ⟨w.heap.size, 1, none⟩ = some (.int .i64 (p.2 : Int))) (by kernel_rfl) ⟨c0, c1, p0, p1⟩ (fun hHeld => ?_)
        obtain ⟨we, hwe⟩ : ∃ we, w8.drew = we := ⟨_, rfl⟩
        have H9 := Lib.hid (H8.out.step (Below.refl _ w8).drew)
        have hbf : b < we.heap.size ∧ w.heap.size < we.heap.size := by rw [← hwe]; exact hbe
        rw [hwe] at hHeld H9 ⊢
        clear hwe H8 c0 c1 p0 p1 hbe
        refine wpAnyH_takeD 0 (v := ?_) rfl rfl (by kernel_rfl) (by kernel_rfl) (by kernel_rfl) (fun _ _ _ h => h) (Or.inl ⟨by rfl, ?_⟩) hHeld ?_
        rotate_left
        focus (intro w hSw; (try dsimp only at hSw); go_simp; try with_reducible rfl)
        simp only [List.setIfInBounds_toArray, List.set_cons_zero, List.set_cons_succ]
        refine wpAnyH_takeD 1 (v := ?_) rfl rfl (by kernel_rfl) (by kernel_rfl) (by kernel_rfl) (fun _ _ _ h => h) (Or.inl ⟨by rfl, ?_⟩) hHeld ?_
        rotate_left
        focus (intro w hSw; (try dsimp only at hSw); go_simp; try with_reducible rfl)
        simp only [List.setIfInBounds_toArray, List.set_cons_zero, List.set_cons_succ]
        refine wpAnyH_takeD 2 (v := ?_) rfl rfl (by kernel_rfl) (by kernel_rfl) (by kernel_rfl) (fun _ _ _ h => h) (Or.inl ⟨by rfl, ?_⟩) hHeld ?_
        rotate_left
        focus (intro w hSw; (try dsimp only at hSw); go_simp; try with_reducible rfl)
        simp only [List.setIfInBounds_toArray, List.set_cons_zero, List.set_cons_succ]
        refine wpAnyH_takeD 3 (v := ?_) rfl rfl (by kernel_rfl) (by kernel_rfl) (by kernel_rfl) (fun _ _ _ h => h) (Or.inl ⟨by rfl, ?_⟩) hHeld ?_
        rotate_left
        focus (intro w hSw; (try dsimp only at hSw); go_simp; try with_reducible rfl)
        simp only [List.setIfInBounds_toArray, List.set_cons_zero, List.set_cons_succ]
        refine wpAnyH_takeD 4 (v := ?_) rfl rfl (by kernel_rfl) (by kernel_rfl) (by kernel_rfl) (fun _ _ _ h => h) (Or.inl ⟨by rfl, ?_⟩) hHeld ?_
        rotate_left
        focus (intro w hSw; (try dsimp only at hSw); go_simp; try with_reducible rfl)
        simp only [List.setIfInBounds_toArray, List.set_cons_zero, List.set_cons_succ]
        refine wpAnyH_ready (rs := [5]) (by kernel_rfl) (by simp) ?_
        refine AllReadyH.cons rfl (fun K hK => ?_) AllReadyH.nil
        go_simp
        refine (hD2.out _).mono ?_
        rintro e w9 ⟨rfl, hb9⟩
        have HA := Lib.hid (H9.out.step hb9)
        have c0 : w9.cell? ⟨b, off + i * 2, none⟩ = some (.int .u32 (q.1 : Int)) := (hb9.cell (p := ⟨b, off + i * 2, none⟩) hbf.1).trans hHeld.1
        have c1 : w9.cell? ⟨b, off + i * 2 + 1, none⟩ = some (.int .i64 (q.2 : Int)) := (hb9.cell (p := ⟨b, off + i * 2 + 1, none⟩) hbf.1).trans hHeld.2.1
        have p0 := HA.out.box.cell0
        have p1 := HA.out.box.cell1
        refine hK.out _ _ ⟨c0, c1, p0, p1⟩ (fun hHeld => ?_)
        clear hK K
        refine wpAnyH_done (by kernel_rfl) ?_ _
        clear hHeld hb9 H9 hbf p0 p1
        cases r2 with
        | false =>
          have HN := Lib.hid (HA.out.skip hiM hnc1.out (of_decide_eq_false HR.out.2))
          go_wp2_with fail
          go_roundw
          case rel => exact ⟨i + 1, by go_num, by omega, HN⟩
          case measure => simp [intOf]; omega
        | true =>
          obtain ⟨A6, c6, rfl, -, -⟩ := HA.out.own.form
          obtain ⟨y, hy⟩ : ∃ y, (filC (M.take i) p).length = y := ⟨_, rfl⟩
          have hy30 : y ≤ 1000 := by
            have h1 := List.length_filter_le (fun q => decide (Cov p q)) (M.take i)
            have h2 : (M.take i).length ≤ i := by simp; omega
            unfold filC at hy
            omega
          have HX := Lib.hid (HA.out.own.alloc (.cells #[.int .u32 (q.1 : Int), .int .i64 (q.2 : Int)] 32))
          have hbx := heap_alloc_new w9 (.cells #[.int .u32 (q.1 : Int), .int .i64 (q.2 : Int)] 32)
          have hnews : Hid (∀ (j : Nat) u, (encP q)[j]? = some u → (w9.alloc (.cells #[.int .u32 (q.1 : Int), .int .i64 (q.2 : Int)] 32)).cell? (Addr.add ⟨w9.heap.size, 0, none⟩ j) = some u) := by
            intro j u hu
            rw [row_at, cell_of_row _ _ j _ _ (0, 0) hbx]
            simpa [encP] using hu
          obtain ⟨i0, hi0, hz6, hz9, hz8⟩ := info_parts infoPx
          have hcs : (pv 0 0).cells.size = 2 := by first | rfl | decide | kernel_rfl
          have HD := Lib.hid (fun v' w2 h1 h2 => HA.out.more (w2 := w2) (v' := v') hiM hnc1.out (of_decide_eq_true HR.out.2) (.cells #[.int .u32 (q.1 : Int), .int .i64 (q.2 : Int)] 32) h1 h2)
          rw [HQ.out] at HD
          rw [hy] at HX HD ⊢
          have hbse : w.heap.size + 1 ≤ (w9.alloc (.cells #[.int .u32 (q.1 : Int), .int .i64 (q.2 : Int)] 32)).heap.size := by
            have h1 := HA.out.box.lt
            simp
            omega
          clear hbx HA hy
          go_wp2_with (at_builtin; go_loud (refine wpList_append_own_at _ rfl (.tmp 26) (.tmp 31) _ rfl (w.heap.size + 1) 32 i0 _ 2 16 Tryz.underlying22 hi0 hz6 hz9 hz8 hcs (by decide) (.slice A6 y c6) y (fl (filC (M.take i) p)) rfl HX.out ⟨w9.heap.size, 0, none⟩ 1 1 (encP q) rfl rfl hnews.out (encP_one q) (by unfold maxLen; omega) (by omega) hbse ?_; intro v' w2 hown2 hg2 hnil hb2; have HF := Lib.hid (HD.out _ _ hown2 hg2); clear hown2 hg2 hnil hb2))
          go_roundw
          case rel => exact ⟨i + 1, by go_num, by omega, HF⟩
          case measure => simp [intOf]; omega
    · obtain rfl : i = m := by omega
      have hi1 : ¬ ((i : Int) < (i : Int)) := by omega
      have HF : Hid (WithinPost w M p (.returned (.tuple #[u6, .bool false])) wq) := by
        have ht : M.take i = M := List.take_of_length_le (by rw [HM.out]; exact Nat.le_refl _)
        have h1 := HI.out.none
        have h2 := HI.out.own
        rw [ht] at h1 h2
        have e : anyC M p = false := by
          rw [← Bool.not_eq_true]
          intro h
          obtain ⟨q, hq, hh⟩ := List.any_eq_true.1 h
          exact h1 q hq (of_decide_eq_true hh)
        refine Lib.hid ⟨_, by rw [e], ?_, HI.out.below⟩
        rw [e]
        exact OwnP.base h2 (Nat.le_succ _)
      clear HI
      go_wp2_with fail
      exact bodyPost_ret (v := .tuple #[u6, .bool false]) (by simp [results, Tryz.results38, go_sem]) rfl HF.out
end Go.Proofs.YtgpgoadalnojdaaGreatDoor
