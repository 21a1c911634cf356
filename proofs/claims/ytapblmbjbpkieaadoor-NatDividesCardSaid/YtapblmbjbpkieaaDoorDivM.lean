/- Contract of package nat's DivMod. -/
import Derived.Test.YtapblmbjbpkieaaDoorLong
namespace Go.Proofs.YtapblmbjbpkieaaDoor
open Go.RowKit

theorem dm_boxes (w : World) (A B : Option Addr) (n ca m cb : Nat) : ∃ w4, ((((w.alloc (.cells #[.slice A n ca] 26)).alloc (.cells #[.slice B m cb] 26)).alloc (.cells #[.slice none 0 0] 26)).alloc (.cells #[.slice none 0 0] 26)) = w4 ∧
    Below w.heap.size w w4 ∧ One w4 w.heap.size (.slice A n ca) 26 ∧ One w4 (w.heap.size + 1) (.slice B m cb) 26 ∧ One w4 (w.heap.size + 1 + 1) (.slice none 0 0) 26 ∧ One w4 (w.heap.size + 1 + 1 + 1) (.slice none 0 0) 26 := by
  refine ⟨_, rfl, ?_, ?_, ?_, ?_, ?_⟩
  · exact ((((Below.refl _ w).alloc (Nat.le_refl _) _).alloc (by simp) _).alloc (by simp; omega) _).alloc (by simp; omega) _
  · exact (((One.new w _ _).alloc _).alloc _).alloc _
  · have := ((One.new (w.alloc (.cells #[.slice A n ca] 26)) (.slice B m cb) 26).alloc (.cells #[.slice none 0 0] 26)).alloc (.cells #[.slice none 0 0] 26)
    simpa using this
  · have := (One.new ((w.alloc (.cells #[.slice A n ca] 26)).alloc (.cells #[.slice B m cb] 26)) (.slice none 0 0) 26).alloc (.cells #[.slice none 0 0] 26)
    simpa using this
  · have := One.new (((w.alloc (.cells #[.slice A n ca] 26)).alloc (.cells #[.slice B m cb] 26)).alloc (.cells #[.slice none 0 0] 26)) (.slice none 0 0) 26
    simpa using this
theorem digs_len_le {x y : Nat} (h : y ≤ x) : (digs 4294967296 y).length ≤ (digs 4294967296 x).length := by
  refine digs_len (by omega) (Nat.lt_of_le_of_lt h ?_)
  have := val_lt (b := 4294967296) (digs 4294967296 x) (digs_lt (by omega) x)
  rwa [val_digs (by omega)] at this
theorem digs_big {x : Nat} (h : 18446744073709551616 ≤ x) : 3 ≤ (digs 4294967296 x).length := by
  rcases Nat.lt_or_ge (digs 4294967296 x).length 3 with h3 | h3
  · have h1 := val_lt (b := 4294967296) (digs 4294967296 x) (digs_lt (by omega) x)
    rw [val_digs (by omega)] at h1
    have h2 : (4294967296 : Nat) ^ (digs 4294967296 x).length ≤ 4294967296 ^ 2 := Nat.pow_le_pow_right (by omega) (by omega)
    have h4 : (4294967296 : Nat) ^ 2 = 18446744073709551616 := rfl
    rw [h4] at h2
    exact absurd (Nat.lt_of_lt_of_le h1 h2) (Nat.not_lt.2 h)
  · exact h3
theorem digs_top {y : Nat} (h : 0 < (digs 4294967296 y).length) : (digs 4294967296 y).getD ((digs 4294967296 y).length - 1) 0 ≠ 0 := by
  have hc := (digs_canon (b := 4294967296) (by omega) y).1.2 (List.ne_nil_of_length_pos h)
  rw [List.getLast_eq_getElem] at hc
  rw [List.getD_eq_getElem?_getD, List.getElem?_eq_getElem (by omega)]
  exact hc
theorem digs_single {y : Nat} (h : (digs 4294967296 y).length = 1) : (digs 4294967296 y).getD 0 0 = y ∧ y < 4294967296 := by
  have h1 := val_digs (b := 4294967296) (by omega) y
  have h2 := digs_lt (b := 4294967296) (by omega) y
  obtain ⟨d, hd⟩ := List.length_eq_one_iff.1 h
  rw [hd] at h1 h2 ⊢
  simp [val] at h1
  subst h1
  exact ⟨rfl, h2 d (by simp)⟩

set_option maxRecDepth 100000 in
set_option maxHeartbeats 2000000 in
theorem divMod_less_any {u v : Value} {x y : Nat} {w : World} (hlx : (digs 4294967296 x).length ≤ 400000) (hly : (digs 4294967296 y).length ≤ 400000) (hlt : x < y) (hu : IsNat w u x) (hv : IsNat w v y) :
    Calls Tryd.prog 27 #[u, v] w (DivOk w 0 x) := by
  obtain ⟨s, rfl, A, ca, rfl, hca, hA⟩ := hu
  obtain ⟨t, rfl, B, cb, rfl, hcb, hB⟩ := hv
  obtain ⟨n, hn⟩ : ∃ n, n = (digs 4294967296 x).length := ⟨_, rfl⟩
  obtain ⟨m, hm⟩ : ∃ m, m = (digs 4294967296 y).length := ⟨_, rfl⟩
  obtain ⟨w4, hw4⟩ : ∃ w4, ((((w.alloc (.cells #[.slice A n ca] 26)).alloc (.cells #[.slice B m cb] 26)).alloc (.cells #[.slice none 0 0] 26)).alloc (.cells #[.slice none 0 0] 26)) = w4 := ⟨_, rfl⟩
  have hb4 : Below w.heap.size w w4 := by
    rw [← hw4]
    exact ((((Below.refl _ w).alloc (Nat.le_refl _) _).alloc (by simp) _).alloc (by simp; omega) _).alloc (by simp; omega) _
  have o1 : One w4 w.heap.size (.slice A n ca) 26 := by rw [← hw4]; exact (((One.new w _ _).alloc _).alloc _).alloc _
  have o2 : One w4 (w.heap.size + 1) (.slice B m cb) 26 := by
    have := ((One.new (w.alloc (.cells #[.slice A n ca] 26)) (.slice B m cb) 26).alloc (.cells #[.slice none 0 0] 26)).alloc (.cells #[.slice none 0 0] 26)
    rw [hw4] at this
    simpa using this
  have o3 : One w4 (w.heap.size + 1 + 1) (.slice none 0 0) 26 := by
    have := (One.new ((w.alloc (.cells #[.slice A n ca] 26)).alloc (.cells #[.slice B m cb] 26)) (.slice none 0 0) 26).alloc (.cells #[.slice none 0 0] 26)
    rw [hw4] at this
    simpa using this
  have o4 : One w4 (w.heap.size + 1 + 1 + 1) (.slice none 0 0) 26 := by
    have := One.new (((w.alloc (.cells #[.slice A n ca] 26)).alloc (.cells #[.slice B m cb] 26)).alloc (.cells #[.slice none 0 0] 26)) (.slice none 0 0) 26
    rw [hw4] at this
    simpa using this
  have hxA : IsNat w4 (.agg #[.slice A n ca]) x := ⟨_, rfl, A, ca, by rw [hn], hca, hA.step hb4⟩
  have hyB : IsNat w4 (.agg #[.slice B m cb]) y := ⟨_, rfl, B, cb, by rw [hm], hcb, hB.step hb4⟩
  have hz := isZero_any (w := w4) (by omega) hyB
  rw [decide_eq_false (show ¬ y = 0 by omega)] at hz
  have HCMP := Lib.hid (fun (W : World) (hb : Below w4.heap.size w4 W) => cmp_any (w := W) (by omega) (by omega) (hxA.below hb) (hyB.below hb))
  have hci : cmpI x y = -1 := by unfold cmpI; rw [if_pos hlt]
  rw [hci] at HCMP
  have HX := Lib.hid hxA
  rw [← hn] at hca hA ⊢
  rw [← hm] at hcb hB ⊢
  clear hA hB hci hn hm hxA hyB hlt
  have d1 := o1.cell
  have d2 := o2.cell
  go_enter Tryd.func27, Tryd.ntmps27
  go_wp2_with fail
  clear hw4
  refine hz.mono ?_
  rintro e w5 ⟨rfl, hb5⟩
  have c1 := (o1.step hb5).cell
  have c2 := (o2.step hb5).cell
  clear hz
  go_wp2_with fail
  refine (HCMP.out _ hb5).mono ?_
  rintro e w6 ⟨rfl, hb6⟩
  have hb46 := hb5.trans (hb6.mono hb5.size)
  have c1 := (o1.step hb46).cell
  have c3 := (o3.step hb46).cell
  have c4 := (o4.step hb46).cell
  have f3 := (o3.step hb46).frozen
  have f4 := (o4.step hb46).frozen
  go_wp2_with fail
  go_region
  all_goals (try go_wp2)
  all_goals
    have r3 := ((o3.step hb46).set_ (.slice none 0 0)).far (p := ⟨w.heap.size + 1 + 1 + 1, 0, none⟩) (by show w.heap.size + 1 + 1 ≠ w.heap.size + 1 + 1 + 1; omega) (.slice A n ca)
    have r4 := ((o4.step hb46).far (p := ⟨w.heap.size + 1 + 1, 0, none⟩) (by show w.heap.size + 1 + 1 + 1 ≠ w.heap.size + 1 + 1; omega) (.slice none 0 0)).set_ (.slice A n ca)
    refine bodyPost_ret (v := .tuple #[.agg #[.slice none 0 0], .agg #[.slice A n ca], .int .i64 0]) (by simp [results, Tryd.results27, go_sem, r3.cell, r4.cell]) rfl ?_
    refine ⟨_, _, rfl, isNat_zero _, ?_, ?_⟩
    · exact ((((HX.out.below hb46).far (p := ⟨w.heap.size + 1 + 1, 0, none⟩) (o3.step hb46).row (by decide) _).far (p := ⟨w.heap.size + 1 + 1 + 1, 0, none⟩) ((o4.step hb46).far (p := ⟨w.heap.size + 1 + 1, 0, none⟩) (by show w.heap.size + 1 + 1 + 1 ≠ w.heap.size + 1 + 1; omega) _).row (by decide) _)).drew
    · exact ((((hb4.trans (hb46.mono hb4.size)).setCell (by show w.heap.size ≤ w.heap.size + 1 + 1; omega) _).setCell (by show w.heap.size ≤ w.heap.size + 1 + 1 + 1; omega) _)).drew
set_option maxRecDepth 100000 in
set_option maxHeartbeats 4000000 in
theorem divMod_big {u v : Value} {x y : Nat} {w : World} (hlx : (digs 4294967296 x).length ≤ 400000) (hx : 18446744073709551616 ≤ x) (hlt : y ≤ x) (hy0 : 0 < y) (hu : IsNat w u x) (hv : IsNat w v y) :
    Calls Tryd.prog 27 #[u, v] w (DivOk w (x / y) (x % y)) := by
  obtain ⟨s, rfl, A, ca, rfl, hca, hA⟩ := hu
  obtain ⟨t, rfl, B, cb, rfl, hcb, hB⟩ := hv
  have hly : (digs 4294967296 y).length ≤ (digs 4294967296 x).length := digs_len_le hlt
  have h3 := digs_big hx
  obtain ⟨n, hn⟩ : ∃ n, n = (digs 4294967296 x).length := ⟨_, rfl⟩
  obtain ⟨m, hm⟩ : ∃ m, m = (digs 4294967296 y).length := ⟨_, rfl⟩
  obtain ⟨w4, hw4, hb4, o1, o2, o3, o4⟩ := dm_boxes w A B n ca m cb
  have hm0 : 0 < m := by rw [hm, digs_pos 4294967296 y (by omega) hy0]; simp
  have hxA : IsNat w4 (.agg #[.slice A n ca]) x := ⟨_, rfl, A, ca, by rw [hn], hca, hA.step hb4⟩
  have hyB : IsNat w4 (.agg #[.slice B m cb]) y := ⟨_, rfl, B, cb, by rw [hm], hcb, hB.step hb4⟩
  have hz := isZero_any (w := w4) (by omega) hyB
  rw [decide_eq_false (show ¬ y = 0 by omega)] at hz
  have HCMP := Lib.hid (fun (W : World) (hb : Below w4.heap.size w4 W) => cmp_any (w := W) (by omega) (by omega) (hxA.below hb) (hyB.below hb))
  have hci : (cmpI x y = 0 ∨ cmpI x y = 1) := by unfold cmpI; rw [if_neg (by omega)]; split <;> simp
  have HU := Lib.hid (fun (W : World) (hb : Below w4.heap.size w4 W) => uint64_any (w := W) (by omega) (hxA.below hb))
  have hux : U64Spec x = .returned (.tuple #[.int .u64 0, .bool false]) := by unfold U64Spec; rw [if_neg (by omega)]
  rw [hux] at HU
  obtain ⟨c, hcI⟩ : ∃ c, cmpI x y = c := ⟨_, rfl⟩
  rw [hcI] at HCMP hci
  have hc0 : 0 ≤ c := by omega
  have HA := Lib.hid (hA.step hb4)
  have HBB := Lib.hid (hB.step hb4)
  have HNN := Lib.hid (And.intro hn hm)
  have HX := Lib.hid hx
  have hnb : n ≤ 400000 := by omega
  have hmn : m ≤ n := by omega
  have hn3 : 3 ≤ n := by omega
  rw [← hn] at hca hA ⊢
  rw [← hm] at hcb hB ⊢
  clear hA hB hci hn hm hxA hyB hux hcI hx hlx hly h3
  have d1 := o1.cell
  have d2 := o2.cell
  go_enter Tryd.func27, Tryd.ntmps27
  go_wp2_with fail
  clear hw4
  refine hz.mono ?_
  rintro e w5 ⟨rfl, hb5⟩
  have c1 := (o1.step hb5).cell
  have c2 := (o2.step hb5).cell
  clear hz
  go_wp2_with fail
  refine (HCMP.out _ hb5).mono ?_
  rintro e w6 ⟨rfl, hb6⟩
  have hb46 := hb5.trans (hb6.mono hb5.size)
  have c1 := (o1.step hb46).cell
  go_wp2_with fail
  refine (HU.out _ hb46).mono ?_
  rintro e w7 ⟨rfl, hb7⟩
  have hb47 := hb46.trans (hb7.mono hb46.size)
  have H1 := o1.step hb47
  have H2 := o2.step hb47
  have H3 := o3.step hb47
  have H4 := o4.step hb47
  have hlow : Below w.heap.size w w7 := hb4.trans (hb47.mono hb4.size)
  have GA : Hid (CellsT w7 71 A (digs 4294967296 x).length (u32f (digs 4294967296 x))) := HA.out.step hb47
  have GB : Hid (CellsT w7 71 B (digs 4294967296 y).length (u32f (digs 4294967296 y))) := HBB.out.step hb47
  have e1 := H1.cell
  have e2 := H2.cell
  clear HA HBB hb47 hb46 hb7 hb6 hb5 HU HCMP o1 o2 o3 o4 c1 c2 d1 d2
  by_cases hm1 : m = 1
  · subst hm1
    obtain ⟨hd0, hy1⟩ := digs_single HNN.out.2.symm
    have hlb : (digs 4294967296 x).length ≤ 1000000 := by rw [← HNN.out.1]; omega
    go_wp2_with fail
    refine (clone_any (ds := digs 4294967296 x) HNN.out.1 hlb GA.out).mono ?_
    rintro e w8 ⟨v8, rfl, hown, hb8⟩
    obtain ⟨g, cap, rfl, hg8, hg9⟩ := hown.form (by rw [← HNN.out.1]; omega)
    obtain ⟨N, f, hcap, hN, hrow, hf⟩ := row_of_own hown
    obtain ⟨gB, rfl, -, hcB⟩ := (GB.out.step hb8).2 0 (by rw [← HNN.out.2]; omega)
    have hcB' : w8.cell? ⟨gB, 0, none⟩ = some (.int .u32 (y : Nat)) := by rw [hcB]; unfold u32f; rw [hd0]
    have K2 := H2.step hb8
    have K3 := H3.step hb8
    have K4 := H4.step hb8
    have k2 := K2.cell
    have hlow8 : Below w.heap.size w w8 := hlow.trans (hb8.mono hlow.size)
    have hs7 := hlow.size
    have hs3 := H4.lt
    have HD := Lib.hid (divideByDigit_any (w := w8) (c := cap) y (ds := digs 4294967296 x) hlb ⟨hy0, hy1⟩ (digs_lt (by omega) x) (fun _ => rfl) hN hrow hf)
    rw [← HNN.out.1] at HD ⊢
    clear hcB hown hrow hf c1
    go_wp2_with fail
    refine HD.out.mono ?_
    rintro e w9 ⟨r, qs, f', rfl, hr, hrow9, hf9, hql, hqd, hqv, hgr⟩
    rw [val_digs (by omega)] at hqv
    have hqr : val 4294967296 qs = x / y ∧ r = x % y := by
      constructor
      · rw [← hqv, Nat.mul_comm, Nat.mul_add_div hy0, Nat.div_eq_of_lt hr, Nat.add_zero]
      · rw [← hqv, Nat.mul_comm, Nat.mul_add_mod, Nat.mod_eq_of_lt hr]
    have M3 := K3.grown hgr (by omega)
    have M4 := K4.grown hgr (by omega)
    have hlow9 : Below w.heap.size w w9 := below_of_grown hlow8 hlow8.size hgr (by omega)
    have hLU : LU w9 (.slice (some ⟨g, 0, none⟩) n cap) qs := LU.of_cells hql (by rw [HNN.out.1]; exact hcap) ((Row.cellsT hrow9).less (by rw [HNN.out.1]; exact hN)) (fun j hj => by rw [hf9 j, if_pos (by omega)]; rfl)
    have HF := Lib.hid (fromDigits_new (by rw [hql]; omega) hqd hLU)
    rw [hqr.1] at HF
    have hr1 : r < 4294967296 := by omega
    have HO := Lib.hid (fun W : World => natOf_any (w := W) (r : Int) (by omega) (by omega))
    rw [Int.toNat_natCast] at HO
    have hrm := Lib.hid hqr.2
    have hwr : IntKind.u64.wrap (r : Int) = (r : Int) := IntWalk.u64_in _ ⟨by omega, by omega⟩
    clear hqv hqr hrow9 hf9 hLU hr hgr
    go_wp2_with fail
    refine HF.out.mono ?_
    rintro e w10 ⟨vq, rfl, hvq, hb10⟩
    obtain ⟨Aq, nq, cq, -, rfl⟩ := isNat_digs hvq
    go_wp2_with fail
    refine (HO.out _).mono ?_
    rintro e w11 ⟨vr, rfl, hvr, hb11⟩
    obtain ⟨Ar, nr, cr, -, rfl⟩ := isNat_digs hvr
    have L3 := (M3.step hb10).step hb11
    have L4 := (M4.step hb10).step hb11
    have l3 := L3.frozen
    have l4 := L4.frozen
    have l5 := L3.cell
    have l6 := L4.cell
    have hlow11 : Below w.heap.size w w11 := (hlow9.trans (hb10.mono hlow9.size)).trans (hb11.mono (Nat.le_trans hlow9.size hb10.size))
    have hvq' := hvq.below hb11
    clear M3 M4 hb10 hb11 hvq HF HO
    go_wp2_with fail
    have r3 := (L3.set_ (.slice Aq nq cq)).far (p := ⟨w.heap.size + 1 + 1 + 1, 0, none⟩) (by show w.heap.size + 1 + 1 ≠ w.heap.size + 1 + 1 + 1; omega) (.slice Ar nr cr)
    have r4 := (L4.far (p := ⟨w.heap.size + 1 + 1, 0, none⟩) (by show w.heap.size + 1 + 1 + 1 ≠ w.heap.size + 1 + 1; omega) (.slice Aq nq cq)).set_ (.slice Ar nr cr)
    refine bodyPost_ret (v := .tuple #[.agg #[.slice Aq nq cq], .agg #[.slice Ar nr cr], .int .i64 0]) (by simp [results, Tryd.results27, go_sem, r3.cell, r4.cell]) rfl ?_
    have hfr4 := (L4.far (p := ⟨w.heap.size + 1 + 1, 0, none⟩) (by show w.heap.size + 1 + 1 + 1 ≠ w.heap.size + 1 + 1; omega) (.slice Aq nq cq)).row
    refine ⟨_, _, rfl, IsNat.far (IsNat.far hvq' (p := ⟨w.heap.size + 1 + 1, 0, none⟩) L3.row (by decide) _) (p := ⟨w.heap.size + 1 + 1 + 1, 0, none⟩) hfr4 (by decide) _, ?_, ?_⟩
    · rw [← hrm.out]
      exact IsNat.far (IsNat.far hvr (p := ⟨w.heap.size + 1 + 1, 0, none⟩) L3.row (by decide) _) (p := ⟨w.heap.size + 1 + 1 + 1, 0, none⟩) hfr4 (by decide) _
    · exact ((hlow11.setCell (by show w.heap.size ≤ w.heap.size + 1 + 1; omega) _).setCell (by show w.heap.size ≤ w.heap.size + 1 + 1 + 1; omega) _)
  · have hm1' : ((m : Int) == 1) = false := beq_eq_false_iff_ne.2 (by omega)
    have HL := Lib.hid (divideLong_any (w := w7) (A := A) (B := B) (ca := ca) (cb := cb) (m := n) (n := m) (L := n + 1 - m) (xs := digs 4294967296 x) (ys := digs 4294967296 y) HNN.out.1.symm HNN.out.2.symm (by omega) (by omega) (by omega) hnb (digs_lt (by omega) x) (digs_lt (by omega) y)
      (by rw [HNN.out.2]; exact digs_top (by rw [← HNN.out.2]; omega)) (by rw [HNN.out.1]; exact GA.out.cells) (by rw [HNN.out.2]; exact GB.out.cells))
    rw [val_digs (by omega), val_digs (by omega)] at HL
    have hLn : n + 1 - m ≤ 1000000 := by omega
    generalize n + 1 - m = L at HL hLn
    clear c1 GA GB
    go_wp2_with fail
    refine HL.out.mono ?_
    rintro e w8 ⟨gq, gr, N, q, r, f, rfl, hq, hr, hrf, hN, hqB, hrB, hqv, hrv, hb8⟩
    have hLq : LU w8 (.slice (some ⟨gq, 0, none⟩) L L) (seg q 0 L) := rowP_LU (RowP.of hq (fun j _ => by rw [Nat.zero_add])) (Nat.le_refl _) (Nat.le_refl _)
    have hLr : LU w8 (.slice (some ⟨gr, 0, none⟩) m m) (seg r 0 m) := rowP_LU (RowP.of hr (fun j hj => by rw [Nat.zero_add]; exact hrf j hj)) hN (Nat.le_refl _)
    have HQ := Lib.hid (fun (W : World) (hb : Below w8.heap.size w8 W) => fromDigits_new (w := W) (by rw [seg_len]; omega) (seg_lt hqB 0 L) (hLq.below hb))
    have HR := Lib.hid (fun (W : World) (hb : Below w8.heap.size w8 W) => fromDigits_new (w := W) (by rw [seg_len]; omega) (seg_lt hrB 0 m) (hLr.below hb))
    rw [hqv] at HQ
    rw [hrv] at HR
    have K3 := H3.step hb8
    have K4 := H4.step hb8
    have hlow8 : Below w.heap.size w w8 := hlow.trans (hb8.mono hlow.size)
    clear hq hr hrf hqB hrB hqv hrv hLq hLr HL hb8
    go_wp2_with fail
    refine (HQ.out _ (Below.refl _ _)).mono ?_
    rintro e w10 ⟨vq, rfl, hvq, hb10⟩
    obtain ⟨Aq, nq, cq, -, rfl⟩ := isNat_digs hvq
    go_wp2_with fail
    refine (HR.out _ hb10).mono ?_
    rintro e w11 ⟨vr, rfl, hvr, hb11⟩
    obtain ⟨Ar, nr, cr, -, rfl⟩ := isNat_digs hvr
    have L3 := (K3.step hb10).step hb11
    have L4 := (K4.step hb10).step hb11
    have l3 := L3.frozen
    have l4 := L4.frozen
    have l5 := L3.cell
    have l6 := L4.cell
    have hlow11 : Below w.heap.size w w11 := (hlow8.trans (hb10.mono hlow8.size)).trans (hb11.mono (Nat.le_trans hlow8.size hb10.size))
    have hvq' := hvq.below hb11
    clear K3 K4 hb10 hb11 hvq HQ HR
    go_wp2_with fail
    have r3 := (L3.set_ (.slice Aq nq cq)).far (p := ⟨w.heap.size + 1 + 1 + 1, 0, none⟩) (by show w.heap.size + 1 + 1 ≠ w.heap.size + 1 + 1 + 1; omega) (.slice Ar nr cr)
    have r4 := (L4.far (p := ⟨w.heap.size + 1 + 1, 0, none⟩) (by show w.heap.size + 1 + 1 + 1 ≠ w.heap.size + 1 + 1; omega) (.slice Aq nq cq)).set_ (.slice Ar nr cr)
    refine bodyPost_ret (v := .tuple #[.agg #[.slice Aq nq cq], .agg #[.slice Ar nr cr], .int .i64 0]) (by simp [results, Tryd.results27, go_sem, r3.cell, r4.cell]) rfl ?_
    have hfr4 := (L4.far (p := ⟨w.heap.size + 1 + 1, 0, none⟩) (by show w.heap.size + 1 + 1 + 1 ≠ w.heap.size + 1 + 1; omega) (.slice Aq nq cq)).row
    exact ⟨_, _, rfl, IsNat.far (IsNat.far hvq' (p := ⟨w.heap.size + 1 + 1, 0, none⟩) L3.row (by decide) _) (p := ⟨w.heap.size + 1 + 1 + 1, 0, none⟩) hfr4 (by decide) _, IsNat.far (IsNat.far hvr (p := ⟨w.heap.size + 1 + 1, 0, none⟩) L3.row (by decide) _) (p := ⟨w.heap.size + 1 + 1 + 1, 0, none⟩) hfr4 (by decide) _, ((hlow11.setCell (by show w.heap.size ≤ w.heap.size + 1 + 1; omega) _).setCell (by show w.heap.size ≤ w.heap.size + 1 + 1 + 1; omega) _)⟩
theorem divMod_any {u v : Value} {x y : Nat} {w : World} (hlx : (digs 4294967296 x).length ≤ 400000) (hly : (digs 4294967296 y).length ≤ 400000) (hy0 : 0 < y) (hu : IsNat w u x) (hv : IsNat w v y) :
    Calls Tryd.prog 27 #[u, v] w (DivOk w (x / y) (x % y)) := by
  by_cases h : x < y
  · rw [Nat.div_eq_of_lt h, Nat.mod_eq_of_lt h]
    exact divMod_less_any hlx hly h hu hv
  · by_cases hx : x < 18446744073709551616
    · exact divMod_ge hx (by omega) (by omega) hy0 hu hv
    · exact divMod_big hlx (by omega) (by omega) hy0 hu hv
end Go.Proofs.YtapblmbjbpkieaaDoor
