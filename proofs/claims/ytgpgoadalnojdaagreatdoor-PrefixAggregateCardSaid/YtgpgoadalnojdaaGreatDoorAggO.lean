/- Contract of the reference: aggregate, whole; Aggregate. -/
import Derived.Test.YtgpgoadalnojdaaGreatDoorAggN
namespace Go.Proofs.YtgpgoadalnojdaaGreatDoor
open Go.RowKit

set_option maxRecDepth 100000 in
set_option maxHeartbeats 32000000 in
theorem agg_halves {k l : Nat} (ih : ∀ (w : World) (A : Option Addr) (c : Nat) (M : List Px) (a : Nat), VL w A M → M.length ≤ 1000 → a % 2 ^ k = 0 → a + 2 ^ k ≤ 4294967296 → Calls Tryz.prog 23 #[.slice A M.length c, pv a ((32 - k : Nat) : Int)] w (RPost w (aggR k M a)))
    {w : World} {A : Option Addr} {c a : Nat} {M : List Px} (hL : VL w A M) (hn : M.length ≤ 1000) (hk : k + 1 ≤ 32) (hl : l = 32 - (k + 1)) (ha : a % 2 ^ (k + 1) = 0) (hb : a + 2 ^ (k + 1) ≤ 4294967296) (hf : anyC M (a, l) = false) (h0 : filC M (a, l) ≠ []) :
    Calls Tryz.prog 23 #[.slice A M.length c, pv a (l : Int)] w (RPost w (aggR (k + 1) M a)) := by
  have hv : Vld (a, l) := by rw [hl]; exact vld_block hk ha hb
  have hR : aggR (k + 1) M a = if (aggR k (filC M (a, l)) a).2 && (aggR k (filC M (a, l)) (a + 2 ^ k)).2 then ([(a, l)], true) else ((aggR k (filC M (a, l)) a).1 ++ (aggR k (filC M (a, l)) (a + 2 ^ k)).1, false) := by
    subst hl
    exact aggR_both hf h0
  have ha2 := mod_half ha
  have hpk := Nat.two_pow_pos k
  have e2 : 2 ^ (k + 1) = 2 ^ k + 2 ^ k := by rw [Nat.pow_succ]; omega
  have hpw : 2 ^ k ≤ 2147483648 := by
    have h9 := Nat.pow_le_pow_right (n := 2) (by omega) (show k ≤ 31 by omega)
    simpa using h9
  have hl32 : l < 32 := by omega
  have hlk : 31 - l = k := by omega
  have hl1 : ((32 - k : Nat) : Int) = (l : Int) + 1 := by omega
  have hSp := Lib.hid (fun W => refSplit_good a l W (vld_lt hv) hl32 ((vldB_vld (vld_lt hv)).2 hv))
  rw [hlk] at hSp
  have hW := Lib.hid (fun (W : World) (hb : Below w.heap.size w W) => within_any (c := c) (hL.below hb) hv hn)
  have hFV : ∀ q ∈ filC M (a, l), Vld q := fun q hq => hL.2 q (List.mem_filter.1 hq).1
  have hFL : (filC M (a, l)).length ≤ 1000 := Nat.le_trans (List.length_filter_le _ _) hn
  have hLA := aggR_len k (filC M (a, l)) a
  have hLB := aggR_len k (filC M (a, l)) (a + 2 ^ k)
  have hI1 := Lib.hid (fun (W : World) (A2 : Option Addr) (c2 : Nat) (hV : VL W A2 (filC M (a, l))) => ih W A2 c2 _ a hV hFL ha2.1 (by omega))
  have hI2 := Lib.hid (fun (W : World) (A2 : Option Addr) (c2 : Nat) (hV : VL W A2 (filC M (a, l))) => ih W A2 c2 _ (a + 2 ^ k) hV hFL ha2.2 (by omega))
  rw [hl1] at hI1 hI2
  obtain ⟨a2, hA2⟩ : ∃ a2, a + 2 ^ k = a2 := ⟨_, rfl⟩
  rw [hA2] at hSp hI2 hR hLB
  obtain ⟨F, hFM⟩ : ∃ F, filC M (a, l) = F := ⟨_, rfl⟩
  have hW2 : Hid (∀ (W : World), Below w.heap.size w W → Calls Tryz.prog 38 #[.slice A M.length c, pv a l] W fun e w' => ∃ v, e = .returned (.tuple #[v, .bool false]) ∧ OwnP w' W.heap.size v F ∧ Below W.heap.size W w') := Lib.hid (fun W hb => (hW.out W hb).mono (fun e w' ⟨v, h1, h2, h3⟩ => by
    rw [hf] at h1 h2
    simp only [Bool.false_eq_true, if_false] at h2
    rw [hFM] at h2
    exact ⟨v, h1, h2, h3⟩))
  rw [hFM] at hI1 hI2 hR hFV hFL hLA hLB h0
  obtain ⟨m, hm⟩ : ∃ m, F.length = m := ⟨_, rfl⟩
  have hm0 : ¬ m = 0 := fun e => h0 (List.eq_nil_of_length_eq_zero (hm.trans e))
  have hm1 : ((m : Int) == 0) = false := beq_eq_false_iff_ne.2 (by omega)
  have hm2 : (m == 0) = false := beq_eq_false_iff_ne.2 hm0
  have hm3 : ¬ (m : Int) = 0 := by omega
  obtain ⟨X, hX⟩ : ∃ X, (aggR k F a).1 = X := ⟨_, rfl⟩
  obtain ⟨Y, hY⟩ : ∃ Y, (aggR k F a2).1 = Y := ⟨_, rfl⟩
  obtain ⟨r1, hr1⟩ : ∃ r, (aggR k F a).2 = r := ⟨_, rfl⟩
  obtain ⟨r2, hr2⟩ : ∃ r, (aggR k F a2).2 = r := ⟨_, rfl⟩
  rw [hX, hY, hr1, hr2] at hR
  rw [hX] at hLA
  rw [hY] at hLB
  have HFV := Lib.hid hFV
  have HM := Lib.hid hm
  have HX := Lib.hid (And.intro hX (And.intro hY (And.intro hr1 hr2)))
  have HR := Lib.hid hR
  have hXn : X.length ≤ 2147483648 := Nat.le_trans hLA hpw
  have hYn : Y.length ≤ 2147483648 := Nat.le_trans hLB hpw
  obtain ⟨w1, hw1, hB1, hb1⟩ := fresh_box w a (l : Int)
  have H1 := Lib.hid (show Bx w [(w.heap.size, a, (l : Int))] w1 from ⟨hb1, fun x hx => by rw [List.mem_singleton] at hx; subst hx; exact hB1⟩)
  have p0 := hB1.cell0
  have p1 := hB1.cell1
  clear hL hv ha2 hpk e2 hpw hl32 hlk hl1 hFV hFL hLA hLB hB1 hb1 hR hX hY hr1 hr2 h0 hf hA2 hm ha hb hk hl hW hFM ih
  go_enter Tryz.func23, Tryz.ntmps23
  go_wp2_with fail
  refine (hW2.out _ H1.out.1).mono ?_
  rintro e w2 ⟨v, rfl, ho, hb⟩
  obtain ⟨A2, c2, rfl, hpx⟩ := ho.px HFV.out
  have HV2 := Lib.hid (show VL w2 A2 F from ⟨hpx, HFV.out⟩)
  have H2 := Lib.hid (H1.out.step hb)
  rw [HM.out]
  clear ho hb hpx H1 p0 p1 hw1 hW2
  have p0 := (H2.out.get (b := w.heap.size) (a := a) (l := (l : Int)) (by simp)).cell0
  have p1 := (H2.out.get (b := w.heap.size) (a := a) (l := (l : Int)) (by simp)).cell1
  go_wp2_with fail
  refine (hSp.out _).mono ?_
  rintro e w3 ⟨rfl, hb3⟩
  have H3 := Lib.hid (H2.out.step hb3)
  have HB3 := Lib.hid hb3
  clear hb3 p0 p1 H2
  go_upto_region 7 with fail
  have H4 := Lib.hid (H3.out.alloc2 a ((l : Int) + 1) a2 ((l : Int) + 1))
  have HB4 := Lib.hid (HB3.out.trans ((Joins.below_alloc2 w3 (.cells #[.int .u32 (a : Int), .int .i64 ((l : Int) + 1)] 32) (.cells #[.int .u32 (a2 : Int), .int .i64 ((l : Int) + 1)] 32)).mono HB3.out.size))
  generalize (w3.alloc (.cells #[.int .u32 (a : Int), .int .i64 ((l : Int) + 1)] 32)).alloc (.cells #[.int .u32 (a2 : Int), .int .i64 ((l : Int) + 1)] 32) = u3 at H4 HB4 ⊢
  obtain ⟨bz, hby⟩ : ∃ b, w3.heap.size + 1 = b := ⟨_, rfl⟩
  rw [hby] at H4 ⊢
  clear hby
  obtain ⟨bx, hbx⟩ : ∃ b, w3.heap.size = b := ⟨_, rfl⟩
  rw [hbx] at H4 ⊢
  clear hbx H3 HB3 hSp
  have s0 := (H4.out.get (b := bx) (a := a) (l := (l : Int) + 1) (by simp)).cell0
  have s1 := (H4.out.get (b := bx) (a := a) (l := (l : Int) + 1) (by simp)).cell1
  have hI1' := Lib.hid (hI1.out u3 A2 c2 (HV2.out.below HB4.out))
  rw [HM.out] at hI1'
  go_wp2_with fail
  refine hI1'.out.mono ?_
  rintro e w4 ⟨va, rfl, ho4, hb4⟩
  rw [HX.out.1] at ho4
  rw [HX.out.2.2.1]
  have H5 := Lib.hid (H4.out.step hb4)
  have HB5 := Lib.hid (HB4.out.trans (hb4.mono HB4.out.size))
  have HO4 := Lib.hid (OwnP.base ho4 H4.out.1.size)
  clear hb4 ho4 s0 s1 H4 HB4 hI1 hI1'
  have s0 := (H5.out.get (b := bz) (a := a2) (l := (l : Int) + 1) (by simp)).cell0
  have s1 := (H5.out.get (b := bz) (a := a2) (l := (l : Int) + 1) (by simp)).cell1
  have hI2' := Lib.hid (hI2.out w4 A2 c2 (HV2.out.below HB5.out))
  rw [HM.out] at hI2'
  go_wp2_with fail
  refine hI2'.out.mono ?_
  rintro e w5 ⟨vb, rfl, ho5, hb5⟩
  rw [HX.out.2.1] at ho5
  rw [HX.out.2.2.2]
  have H6 := Lib.hid (H5.out.step hb5)
  have HO5 := Lib.hid (HO4.out.below hb5)
  have HP5 := Lib.hid (OwnP.base ho5 H5.out.1.size)
  clear hb5 ho5 s0 s1 H5 HB5 hI2 hI2' HO4 HV2
  have p0 := (H6.out.get (b := w.heap.size) (a := a) (l := (l : Int)) (by simp)).cell0
  have p1 := (H6.out.get (b := w.heap.size) (a := a) (l := (l : Int)) (by simp)).cell1
  cases r1 with
  | true =>
    cases r2 with
    | true =>
      have HF := Lib.hid (show RPost w (aggR (k + 1) M a) (.returned (.tuple #[.slice (some ⟨w5.heap.size, 0, none⟩) 1 1, .bool true])) (w5.alloc (.cells #[.int .u32 (a : Int), .int .i64 (l : Int)] 32)) from by
        rw [HR.out]
        exact ⟨_, rfl, own_lit w5 _ (a, l) H6.out.1.size, H6.out.1.alloc H6.out.1.size _⟩)
      clear H6 HO5 HP5
      go_wp2_with fail
      exact bodyPost_ret (v := .tuple #[.slice (some ⟨w5.heap.size, 0, none⟩) 1 1, .bool true]) (by simp [results, Tryz.results23, go_sem]) rfl HF.out
    | false =>
      have HJ := Lib.hid (fun v' w6 h1 h2 => own_join (w' := w6) (v' := v') (Y := Y) HO5.out H6.out.1 H6.out.1.size h1 h2)
      have HE := Lib.hid (show ∀ v' w6, OwnP w6 w.heap.size v' (X ++ Y) ∧ Below w.heap.size w w6 → RPost w (aggR (k + 1) M a) (.returned (.tuple #[v', .bool false])) w6 from fun v' w6 h => by rw [HR.out]; exact ⟨v', rfl, h.1, h.2⟩)
      have hsz := H6.out.1.size
      obtain ⟨i0, hi, hz0, hz9, hz8⟩ := info_parts infoPx
      have hcs : (pv 0 0).cells.size = 2 := by first | rfl | decide | kernel_rfl
      obtain ⟨A6, c6, rfl, -, -⟩ := HO5.out.form
      obtain ⟨x, hx⟩ : ∃ x, X.length = x := ⟨_, rfl⟩
      obtain ⟨y, hy⟩ : ∃ y, Y.length = y := ⟨_, rfl⟩
      rw [hx, hy] at HJ
      have HOX := HO5.out
      unfold OwnP at HOX
      rw [hx] at HOX hXn ⊢
      have HOX := Lib.hid HOX
      rw [hy] at hYn
      have hp5 := HP5.out
      rcases hp5.2 with ⟨hnil, hy0⟩ | ⟨g, cap, cur, hsome, -, -, -, -, -, -⟩
      · subst hnil
        have HF := Lib.hid (HE.out (.slice A6 x c6) w5 ⟨by have e9 : Y = [] := List.eq_nil_of_length_eq_zero hy0; rw [e9, List.append_nil]; unfold OwnP; rw [hx]; exact HOX.out, H6.out.1⟩)
        clear HP5 hp5 hx hy p0 p1 HO5
        go_wp2_with (at_builtin; go_loud (refine wpList_append_own_none rfl (.tmp 50) (.tmp 51) _ rfl w.heap.size 32 i0 2 Tryz.underlying22 hi (.slice A6 x c6) x (fl X) rfl HOX.out rfl ?_))
        exact bodyPost_ret (v := .tuple #[.slice A6 x c6, .bool false]) (by simp [results, Tryz.results23, go_sem]) rfl HF.out
      · subst hsome
        have hnews : Hid (∀ (j : Nat) u, (fl Y)[j]? = some u → w5.cell? ((⟨g, 0, none⟩ : Addr).add j) = some u) := Lib.hid (World.ownsRow.cells hp5 rfl)
        have hly : (fl Y).length = y * 2 := by rw [fl_length, hy]
        rw [hy]
        clear hp5 hx hy p0 p1 HP5 HO5
        go_wp2_with (at_builtin; go_loud (refine wpList_append_own_at _ rfl (.tmp 50) (.tmp 51) _ rfl w.heap.size 32 i0 _ 2 16 Tryz.underlying22 hi hz0 hz9 hz8 hcs (by decide) (.slice A6 x c6) x (fl X) rfl HOX.out ⟨g, 0, none⟩ y cap (fl Y) rfl hly hnews.out (fl_one Y) (by unfold maxLen; omega) (by omega) hsz ?_; intro v' w6 hown2 hg2 hnil hb2; have HF := Lib.hid (HE.out v' w6 (HJ.out v' w6 hown2 hg2)); clear hown2 hg2 hnil hb2))
        exact bodyPost_ret (v := .tuple #[v', .bool false]) (by simp [results, Tryz.results23, go_sem]) rfl HF.out
  | false =>
    have HJ := Lib.hid (fun v' w6 h1 h2 => own_join (w' := w6) (v' := v') (Y := Y) HO5.out H6.out.1 H6.out.1.size h1 h2)
    have HE := Lib.hid (show ∀ v' w6, OwnP w6 w.heap.size v' (X ++ Y) ∧ Below w.heap.size w w6 → RPost w (aggR (k + 1) M a) (.returned (.tuple #[v', .bool false])) w6 from fun v' w6 h => by rw [HR.out]; exact ⟨v', rfl, h.1, h.2⟩)
    have hsz := H6.out.1.size
    obtain ⟨i0, hi, hz0, hz9, hz8⟩ := info_parts infoPx
    have hcs : (pv 0 0).cells.size = 2 := by first | rfl | decide | kernel_rfl
    obtain ⟨A6, c6, rfl, -, -⟩ := HO5.out.form
    obtain ⟨x, hx⟩ : ∃ x, X.length = x := ⟨_, rfl⟩
    obtain ⟨y, hy⟩ : ∃ y, Y.length = y := ⟨_, rfl⟩
    rw [hx, hy] at HJ
    have HOX := HO5.out
    unfold OwnP at HOX
    rw [hx] at HOX hXn ⊢
    have HOX := Lib.hid HOX
    rw [hy] at hYn
    have hp5 := HP5.out
    rcases hp5.2 with ⟨hnil, hy0⟩ | ⟨g, cap, cur, hsome, -, -, -, -, -, -⟩
    · subst hnil
      have HF := Lib.hid (HE.out (.slice A6 x c6) w5 ⟨by have e9 : Y = [] := List.eq_nil_of_length_eq_zero hy0; rw [e9, List.append_nil]; unfold OwnP; rw [hx]; exact HOX.out, H6.out.1⟩)
      clear HP5 hp5 hx hy p0 p1 HO5
      go_wp2_with (at_builtin; go_loud (refine wpList_append_own_none rfl (.tmp 50) (.tmp 51) _ rfl w.heap.size 32 i0 2 Tryz.underlying22 hi (.slice A6 x c6) x (fl X) rfl HOX.out rfl ?_))
      exact bodyPost_ret (v := .tuple #[.slice A6 x c6, .bool false]) (by simp [results, Tryz.results23, go_sem]) rfl HF.out
    · subst hsome
      have hnews : Hid (∀ (j : Nat) u, (fl Y)[j]? = some u → w5.cell? ((⟨g, 0, none⟩ : Addr).add j) = some u) := Lib.hid (World.ownsRow.cells hp5 rfl)
      have hly : (fl Y).length = y * 2 := by rw [fl_length, hy]
      rw [hy]
      clear hp5 hx hy p0 p1 HP5 HO5
      go_wp2_with (at_builtin; go_loud (refine wpList_append_own_at _ rfl (.tmp 50) (.tmp 51) _ rfl w.heap.size 32 i0 _ 2 16 Tryz.underlying22 hi hz0 hz9 hz8 hcs (by decide) (.slice A6 x c6) x (fl X) rfl HOX.out ⟨g, 0, none⟩ y cap (fl Y) rfl hly hnews.out (fl_one Y) (by unfold maxLen; omega) (by omega) hsz ?_; intro v' w6 hown2 hg2 hnil hb2; have HF := Lib.hid (HE.out v' w6 (HJ.out v' w6 hown2 hg2)); clear hown2 hg2 hnil hb2))
      exact bodyPost_ret (v := .tuple #[v', .bool false]) (by simp [results, Tryz.results23, go_sem]) rfl HF.out

theorem agg_step {k l : Nat} {w : World} {A : Option Addr} {c a : Nat} {M : List Px} (hl : 32 - k = l) (hL : VL w A M) (hn : M.length ≤ 1000) (hv : Vld (a, l))
    (hz : anyC M (a, l) = false → filC M (a, l) ≠ [] → Calls Tryz.prog 23 #[.slice A M.length c, pv a (l : Int)] w (RPost w (aggR k M a))) :
    Calls Tryz.prog 23 #[.slice A M.length c, pv a (l : Int)] w (RPost w (aggR k M a)) := by
  cases hf : anyC M (a, l) with
  | true =>
    have e := aggR_any (k := k) (M := M) (a := a) (by rw [hl]; exact hf)
    rw [hl] at e
    rw [e]
    exact agg_full (p := (a, l)) hL hv hn hf
  | false =>
    by_cases h0 : filC M (a, l) = []
    · have e := aggR_nil (k := k) (M := M) (a := a) (by rw [hl]; exact hf) (by rw [hl]; exact h0)
      rw [e]
      exact agg_empty (p := (a, l)) hL hv hn hf h0
    · exact hz hf h0
theorem refagg_any : ∀ (k : Nat) (w : World) (A : Option Addr) (c : Nat) (M : List Px) (a : Nat), k ≤ 32 → VL w A M → M.length ≤ 1000 → a % 2 ^ k = 0 → a + 2 ^ k ≤ 4294967296 →
    Calls Tryz.prog 23 #[.slice A M.length c, pv a ((32 - k : Nat) : Int)] w (RPost w (aggR k M a)) := by
  intro k
  induction k with
  | zero =>
    intro w A c M a hk hL hn ha hb
    have hv := vld_block hk ha hb
    refine agg_step rfl hL hn hv fun hf h0 => ?_
    rw [Nat.sub_zero] at hv hf h0
    exact absurd (fil_zero hL.2 hv hf) h0
  | succ k ih =>
    intro w A c M a hk hL hn ha hb
    have hv := vld_block hk ha hb
    refine agg_step rfl hL hn hv fun hf h0 => ?_
    exact agg_halves (fun w A c M a h1 h2 h3 h4 => ih w A c M a (by omega) h1 h2 h3 h4) hL hn hk rfl ha hb hf h0
end Go.Proofs.YtgpgoadalnojdaaGreatDoor
