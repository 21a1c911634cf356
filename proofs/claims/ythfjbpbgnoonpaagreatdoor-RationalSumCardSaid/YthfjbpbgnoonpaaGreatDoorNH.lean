/- Contract of package nat's DivMod. Contract of package nat's GCD. Boxes and numbers together: contracts of nat's operations over them. -/
import Derived.Test.YthfjbpbgnoonpaaGreatDoorNG
import Derived.Deep.LoopGhost
import Derived.Test.YthfjbpbgnoonpaaGreatDoorNF
namespace Go.Proofs.YthfjbpbgnoonpaaGreatDoor
open Go.RowKit

theorem dm_boxes (w : World) (A B : Option Addr) (n ca m cb : Nat) : ∃ w4, ((((w.alloc (.cells #[.slice A n ca] 28)).alloc (.cells #[.slice B m cb] 28)).alloc (.cells #[.slice none 0 0] 28)).alloc (.cells #[.slice none 0 0] 28)) = w4 ∧
    Below w.heap.size w w4 ∧ One w4 w.heap.size (.slice A n ca) 28 ∧ One w4 (w.heap.size + 1) (.slice B m cb) 28 ∧ One w4 (w.heap.size + 1 + 1) (.slice none 0 0) 28 ∧ One w4 (w.heap.size + 1 + 1 + 1) (.slice none 0 0) 28 := by
  refine ⟨_, rfl, ?_, ?_, ?_, ?_, ?_⟩
  · exact ((((Below.refl _ w).alloc (Nat.le_refl _) _).alloc (by simp) _).alloc (by simp; omega) _).alloc (by simp; omega) _
  · exact (((One.new w _ _).alloc _).alloc _).alloc _
  · have := ((One.new (w.alloc (.cells #[.slice A n ca] 28)) (.slice B m cb) 28).alloc (.cells #[.slice none 0 0] 28)).alloc (.cells #[.slice none 0 0] 28)
    simpa using this
  · have := (One.new ((w.alloc (.cells #[.slice A n ca] 28)).alloc (.cells #[.slice B m cb] 28)) (.slice none 0 0) 28).alloc (.cells #[.slice none 0 0] 28)
    simpa using this
  · have := One.new (((w.alloc (.cells #[.slice A n ca] 28)).alloc (.cells #[.slice B m cb] 28)).alloc (.cells #[.slice none 0 0] 28)) (.slice none 0 0) 28
    simpa using this
theorem digs_len_le {x y : Nat} (h : y ≤ x) : (digs 4294967296 y).length ≤ (digs 4294967296 x).length := by
  refine digs_len (by omega) (Nat.lt_of_le_of_lt h ?_)
  have := val_lt (b := 4294967296) (digs 4294967296 x) (digs_lt (by omega) x)
  rwa [val_digs (by omega)] at this
theorem digs_big {x : Nat} (h : 18446744073709551616 ≤ x) : 3 ≤ (digs 4294967296 x).length := by
  rcases Nat.lt_or_ge (digs 4294967296 x).length 3 with h3 | h3
  · have h1 := val_lt (b := 4294967296) (digs 4294967296 x) (digs_lt (by omega) x)
    rw [val_digs (by omega)] at h1
    have h2 : (4294967296 : Nat) ^ (digs 4294967296 x).length ≤ 4294967296 ^ 2 := Nat.pow_le_pow_right (by omega) (by omega)
    have h4 : (4294967296 : Nat) ^ 2 = 18446744073709551616 := rfl
    rw [h4] at h2
    exact absurd (Nat.lt_of_lt_of_le h1 h2) (Nat.not_lt.2 h)
  · exact h3
theorem digs_top {y : Nat} (h : 0 < (digs 4294967296 y).length) : (digs 4294967296 y).getD ((digs 4294967296 y).length - 1) 0 ≠ 0 := by
  have hc := (digs_canon (b := 4294967296) (by omega) y).1.2 (List.ne_nil_of_length_pos h)
  rw [List.getLast_eq_getElem] at hc
  rw [List.getD_eq_getElem?_getD, List.getElem?_eq_getElem (by omega)]
  exact hc
theorem digs_single {y : Nat} (h : (digs 4294967296 y).length = 1) : (digs 4294967296 y).getD 0 0 = y ∧ y < 4294967296 := by
  have h1 := val_digs (b := 4294967296) (by omega) y
  have h2 := digs_lt (b := 4294967296) (by omega) y
  obtain ⟨d, hd⟩ := List.length_eq_one_iff.1 h
  rw [hd] at h1 h2 ⊢
  simp [val] at h1
  subst h1
  exact ⟨rfl, h2 d (by simp)⟩

set_option maxRecDepth 100000 in
set_option maxHeartbeats 2000000 in
theorem divMod_less_any {u v : Value} {x y : Nat} {w : World} (hlx : (digs 4294967296 x).length ≤ 400000) (hly : (digs 4294967296 y).length ≤ 400000) (hlt : x < y) (hu : IsNat w u x) (hv : IsNat w v y) :
    Calls Tryz.prog 83 #[u, v] w (DivOk w 0 x) := by
  obtain ⟨s, rfl, A, ca, rfl, hca, hA⟩ := hu
  obtain ⟨t, rfl, B, cb, rfl, hcb, hB⟩ := hv
  obtain ⟨n, hn⟩ : ∃ n, n = (digs 4294967296 x).length := ⟨_, rfl⟩
  obtain ⟨m, hm⟩ : ∃ m, m = (digs 4294967296 y).length := ⟨_, rfl⟩
  obtain ⟨w4, hw4⟩ : ∃ w4, ((((w.alloc (.cells #[.slice A n ca] 28)).alloc (.cells #[.slice B m cb] 28)).alloc (.cells #[.slice none 0 0] 28)).alloc (.cells #[.slice none 0 0] 28)) = w4 := ⟨_, rfl⟩
  have hb4 : Below w.heap.size w w4 := by
    rw [← hw4]
    exact ((((Below.refl _ w).alloc (Nat.le_refl _) _).alloc (by simp) _).alloc (by simp; omega) _).alloc (by simp; omega) _
  have o1 : One w4 w.heap.size (.slice A n ca) 28 := by rw [← hw4]; exact (((One.new w _ _).alloc _).alloc _).alloc _
  have o2 : One w4 (w.heap.size + 1) (.slice B m cb) 28 := by
    have := ((One.new (w.alloc (.cells #[.slice A n ca] 28)) (.slice B m cb) 28).alloc (.cells #[.slice none 0 0] 28)).alloc (.cells #[.slice none 0 0] 28)
    rw [hw4] at this
    simpa using this
  have o3 : One w4 (w.heap.size + 1 + 1) (.slice none 0 0) 28 := by
    have := (One.new ((w.alloc (.cells #[.slice A n ca] 28)).alloc (.cells #[.slice B m cb] 28)) (.slice none 0 0) 28).alloc (.cells #[.slice none 0 0] 28)
    rw [hw4] at this
    simpa using this
  have o4 : One w4 (w.heap.size + 1 + 1 + 1) (.slice none 0 0) 28 := by
    have := One.new (((w.alloc (.cells #[.slice A n ca] 28)).alloc (.cells #[.slice B m cb] 28)).alloc (.cells #[.slice none 0 0] 28)) (.slice none 0 0) 28
    rw [hw4] at this
    simpa using this
  have hxA : IsNat w4 (.agg #[.slice A n ca]) x := ⟨_, rfl, A, ca, by rw [hn], hca, hA.step hb4⟩
  have hyB : IsNat w4 (.agg #[.slice B m cb]) y := ⟨_, rfl, B, cb, by rw [hm], hcb, hB.step hb4⟩
  have hz := isZero_any (w := w4) (by omega) hyB
  rw [decide_eq_false (show ¬ y = 0 by omega)] at hz
  have HCMP := Lib.hid (fun (W : World) (hb : Below w4.heap.size w4 W) => cmp_any (w := W) (by omega) (by omega) (hxA.below hb) (hyB.below hb))
  have hci : cmpI x y = -1 := by unfold cmpI; rw [if_pos hlt]
  rw [hci] at HCMP
  have HX := Lib.hid hxA
  rw [← hn] at hca hA ⊢
  rw [← hm] at hcb hB ⊢
  clear hA hB hci hn hm hxA hyB hlt
  have d1 := o1.cell
  have d2 := o2.cell
  go_enter Tryz.func83, Tryz.ntmps83
  go_wp2_with fail
  clear hw4
  refine hz.mono ?_
  rintro e w5 ⟨rfl, hb5⟩
  have c1 := (o1.step hb5).cell
  have c2 := (o2.step hb5).cell
  clear hz
  go_wp2_with fail
  refine (HCMP.out _ hb5).mono ?_
  rintro e w6 ⟨rfl, hb6⟩
  have hb46 := hb5.trans (hb6.mono hb5.size)
  have c1 := (o1.step hb46).cell
  have c3 := (o3.step hb46).cell
  have c4 := (o4.step hb46).cell
  have f3 := (o3.step hb46).frozen
  have f4 := (o4.step hb46).frozen
  go_wp2_with fail
  go_region
  all_goals (try go_wp2)
  all_goals
    have r3 := ((o3.step hb46).set_ (.slice none 0 0)).far (p := ⟨w.heap.size + 1 + 1 + 1, 0, none⟩) (by show w.heap.size + 1 + 1 ≠ w.heap.size + 1 + 1 + 1; omega) (.slice A n ca)
    have r4 := ((o4.step hb46).far (p := ⟨w.heap.size + 1 + 1, 0, none⟩) (by show w.heap.size + 1 + 1 + 1 ≠ w.heap.size + 1 + 1; omega) (.slice none 0 0)).set_ (.slice A n ca)
    refine bodyPost_ret (v := .tuple #[.agg #[.slice none 0 0], .agg #[.slice A n ca], .int .i64 0]) (by simp [results, Tryz.results83, go_sem, r3.cell, r4.cell]) rfl ?_
    refine ⟨_, _, rfl, isNat_zero _, ?_, ?_⟩
    · exact ((((HX.out.below hb46).far (p := ⟨w.heap.size + 1 + 1, 0, none⟩) (o3.step hb46).row (by decide) _).far (p := ⟨w.heap.size + 1 + 1 + 1, 0, none⟩) ((o4.step hb46).far (p := ⟨w.heap.size + 1 + 1, 0, none⟩) (by show w.heap.size + 1 + 1 + 1 ≠ w.heap.size + 1 + 1; omega) _).row (by decide) _)).drew
    · exact ((((hb4.trans (hb46.mono hb4.size)).setCell (by show w.heap.size ≤ w.heap.size + 1 + 1; omega) _).setCell (by show w.heap.size ≤ w.heap.size + 1 + 1 + 1; omega) _)).drew
set_option maxRecDepth 100000 in
set_option maxHeartbeats 4000000 in
theorem divMod_big {u v : Value} {x y : Nat} {w : World} (hlx : (digs 4294967296 x).length ≤ 400000) (hx : 18446744073709551616 ≤ x) (hlt : y ≤ x) (hy0 : 0 < y) (hu : IsNat w u x) (hv : IsNat w v y) :
    Calls Tryz.prog 83 #[u, v] w (DivOk w (x / y) (x % y)) := by
  obtain ⟨s, rfl, A, ca, rfl, hca, hA⟩ := hu
  obtain ⟨t, rfl, B, cb, rfl, hcb, hB⟩ := hv
  have hly : (digs 4294967296 y).length ≤ (digs 4294967296 x).length := digs_len_le hlt
  have h3 := digs_big hx
  obtain ⟨n, hn⟩ : ∃ n, n = (digs 4294967296 x).length := ⟨_, rfl⟩
  obtain ⟨m, hm⟩ : ∃ m, m = (digs 4294967296 y).length := ⟨_, rfl⟩
  obtain ⟨w4, hw4, hb4, o1, o2, o3, o4⟩ := dm_boxes w A B n ca m cb
  have hm0 : 0 < m := by rw [hm, digs_pos 4294967296 y (by omega) hy0]; simp
  have hxA : IsNat w4 (.agg #[.slice A n ca]) x := ⟨_, rfl, A, ca, by rw [hn], hca, hA.step hb4⟩
  have hyB : IsNat w4 (.agg #[.slice B m cb]) y := ⟨_, rfl, B, cb, by rw [hm], hcb, hB.step hb4⟩
  have hz := isZero_any (w := w4) (by omega) hyB
  rw [decide_eq_false (show ¬ y = 0 by omega)] at hz
  have HCMP := Lib.hid (fun (W : World) (hb : Below w4.heap.size w4 W) => cmp_any (w := W) (by omega) (by omega) (hxA.below hb) (hyB.below hb))
  have hci : (cmpI x y = 0 ∨ cmpI x y = 1) := by unfold cmpI; rw [if_neg (by omega)]; split <;> simp
  have HU := Lib.hid (fun (W : World) (hb : Below w4.heap.size w4 W) => uint64_any (w := W) (by omega) (hxA.below hb))
  have hux : U64Spec x = .returned (.tuple #[.int .u64 0, .bool false]) := by unfold U64Spec; rw [if_neg (by omega)]
  rw [hux] at HU
  obtain ⟨c, hcI⟩ : ∃ c, cmpI x y = c := ⟨_, rfl⟩
  rw [hcI] at HCMP hci
  have hc0 : 0 ≤ c := by omega
  have HA := Lib.hid (hA.step hb4)
  have HBB := Lib.hid (hB.step hb4)
  have HNN := Lib.hid (And.intro hn hm)
  have HX := Lib.hid hx
  have hnb : n ≤ 400000 := by omega
  have hmn : m ≤ n := by omega
  have hn3 : 3 ≤ n := by omega
  rw [← hn] at hca hA ⊢
  rw [← hm] at hcb hB ⊢
  clear hA hB hci hn hm hxA hyB hux hcI hx hlx hly h3
  have d1 := o1.cell
  have d2 := o2.cell
  go_enter Tryz.func83, Tryz.ntmps83
  go_wp2_with fail
  clear hw4
  refine hz.mono ?_
  rintro e w5 ⟨rfl, hb5⟩
  have c1 := (o1.step hb5).cell
  have c2 := (o2.step hb5).cell
  clear hz
  go_wp2_with fail
  refine (HCMP.out _ hb5).mono ?_
  rintro e w6 ⟨rfl, hb6⟩
  have hb46 := hb5.trans (hb6.mono hb5.size)
  have c1 := (o1.step hb46).cell
  go_wp2_with fail
  refine (HU.out _ hb46).mono ?_
  rintro e w7 ⟨rfl, hb7⟩
  have hb47 := hb46.trans (hb7.mono hb46.size)
  have H1 := o1.step hb47
  have H2 := o2.step hb47
  have H3 := o3.step hb47
  have H4 := o4.step hb47
  have hlow : Below w.heap.size w w7 := hb4.trans (hb47.mono hb4.size)
  have GA : Hid (CellsT w7 90 A (digs 4294967296 x).length (u32f (digs 4294967296 x))) := HA.out.step hb47
  have GB : Hid (CellsT w7 90 B (digs 4294967296 y).length (u32f (digs 4294967296 y))) := HBB.out.step hb47
  have e1 := H1.cell
  have e2 := H2.cell
  clear HA HBB hb47 hb46 hb7 hb6 hb5 HU HCMP o1 o2 o3 o4 c1 c2 d1 d2
  by_cases hm1 : m = 1
  · subst hm1
    obtain ⟨hd0, hy1⟩ := digs_single HNN.out.2.symm
    have hlb : (digs 4294967296 x).length ≤ 1000000 := by rw [← HNN.out.1]; omega
    go_wp2_with fail
    refine (clone_any (ds := digs 4294967296 x) HNN.out.1 hlb GA.out).mono ?_
    rintro e w8 ⟨v8, rfl, hown, hb8⟩
    obtain ⟨g, cap, rfl, hg8, hg9⟩ := hown.form (by rw [← HNN.out.1]; omega)
    obtain ⟨N, f, hcap, hN, hrow, hf⟩ := row_of_own hown
    obtain ⟨gB, rfl, -, hcB⟩ := (GB.out.step hb8).2 0 (by rw [← HNN.out.2]; omega)
    have hcB' : w8.cell? ⟨gB, 0, none⟩ = some (.int .u32 (y : Nat)) := by rw [hcB]; unfold u32f; rw [hd0]
    have K2 := H2.step hb8
    have K3 := H3.step hb8
    have K4 := H4.step hb8
    have k2 := K2.cell
    have hlow8 : Below w.heap.size w w8 := hlow.trans (hb8.mono hlow.size)
    have hs7 := hlow.size
    have hs3 := H4.lt
    have HD := Lib.hid (divideByDigit_any (w := w8) (c := cap) y (ds := digs 4294967296 x) hlb ⟨hy0, hy1⟩ (digs_lt (by omega) x) (fun _ => rfl) hN hrow hf)
    rw [← HNN.out.1] at HD ⊢
    clear hcB hown hrow hf c1
    go_wp2_with fail
    refine HD.out.mono ?_
    rintro e w9 ⟨r, qs, f', rfl, hr, hrow9, hf9, hql, hqd, hqv, hgr⟩
    rw [val_digs (by omega)] at hqv
    have hqr : val 4294967296 qs = x / y ∧ r = x % y := by
      constructor
      · rw [← hqv, Nat.mul_comm, Nat.mul_add_div hy0, Nat.div_eq_of_lt hr, Nat.add_zero]
      · rw [← hqv, Nat.mul_comm, Nat.mul_add_mod, Nat.mod_eq_of_lt hr]
    have M3 := K3.grown hgr (by omega)
    have M4 := K4.grown hgr (by omega)
    have hlow9 : Below w.heap.size w w9 := below_of_grown hlow8 hlow8.size hgr (by omega)
    have hLU : LU w9 (.slice (some ⟨g, 0, none⟩) n cap) qs := LU.of_cells hql (by rw [HNN.out.1]; exact hcap) ((Row.cellsT hrow9).less (by rw [HNN.out.1]; exact hN)) (fun j hj => by rw [hf9 j, if_pos (by omega)]; rfl)
    have HF := Lib.hid (fromDigits_new (by rw [hql]; omega) hqd hLU)
    rw [hqr.1] at HF
    have hr1 : r < 4294967296 := by omega
    have HO := Lib.hid (fun W : World => natOf_any (w := W) (r : Int) (by omega) (by omega))
    rw [Int.toNat_natCast] at HO
    have hrm := Lib.hid hqr.2
    have hwr : IntKind.u64.wrap (r : Int) = (r : Int) := IntWalk.u64_in _ ⟨by omega, by omega⟩
    clear hqv hqr hrow9 hf9 hLU hr hgr
    go_wp2_with fail
    refine HF.out.mono ?_
    rintro e w10 ⟨vq, rfl, hvq, hb10⟩
    obtain ⟨Aq, nq, cq, -, rfl⟩ := isNat_digs hvq
    go_wp2_with fail
    refine (HO.out _).mono ?_
    rintro e w11 ⟨vr, rfl, hvr, hb11⟩
    obtain ⟨Ar, nr, cr, -, rfl⟩ := isNat_digs hvr
    have L3 := (M3.step hb10).step hb11
    have L4 := (M4.step hb10).step hb11
    have l3 := L3.frozen
    have l4 := L4.frozen
    have l5 := L3.cell
    have l6 := L4.cell
    have hlow11 : Below w.heap.size w w11 := (hlow9.trans (hb10.mono hlow9.size)).trans (hb11.mono (Nat.le_trans hlow9.size hb10.size))
    have hvq' := hvq.below hb11
    clear M3 M4 hb10 hb11 hvq HF HO
    go_wp2_with fail
    have r3 := (L3.set_ (.slice Aq nq cq)).far (p := ⟨w.heap.size + 1 + 1 + 1, 0, none⟩) (by show w.heap.size + 1 + 1 ≠ w.heap.size + 1 + 1 + 1; omega) (.slice Ar nr cr)
    have r4 := (L4.far (p := ⟨w.heap.size + 1 + 1, 0, none⟩) (by show w.heap.size + 1 + 1 + 1 ≠ w.heap.size + 1 + 1; omega) (.slice Aq nq cq)).set_ (.slice Ar nr cr)
    refine bodyPost_ret (v := .tuple #[.agg #[.slice Aq nq cq], .agg #[.slice Ar nr cr], .int .i64 0]) (by simp [results, Tryz.results83, go_sem, r3.cell, r4.cell]) rfl ?_
    have hfr4 := (L4.far (p := ⟨w.heap.size + 1 + 1, 0, none⟩) (by show w.heap.size + 1 + 1 + 1 ≠ w.heap.size + 1 + 1; omega) (.slice Aq nq cq)).row
    refine ⟨_, _, rfl, IsNat.far (IsNat.far hvq' (p := ⟨w.heap.size + 1 + 1, 0, none⟩) L3.row (by decide) _) (p := ⟨w.heap.size + 1 + 1 + 1, 0, none⟩) hfr4 (by decide) _, ?_, ?_⟩
    · rw [← hrm.out]
      exact IsNat.far (IsNat.far hvr (p := ⟨w.heap.size + 1 + 1, 0, none⟩) L3.row (by decide) _) (p := ⟨w.heap.size + 1 + 1 + 1, 0, none⟩) hfr4 (by decide) _
    · exact ((hlow11.setCell (by show w.heap.size ≤ w.heap.size + 1 + 1; omega) _).setCell (by show w.heap.size ≤ w.heap.size + 1 + 1 + 1; omega) _)
  · have hm1' : ((m : Int) == 1) = false := beq_eq_false_iff_ne.2 (by omega)
    have HL := Lib.hid (divideLong_any (w := w7) (A := A) (B := B) (ca := ca) (cb := cb) (m := n) (n := m) (L := n + 1 - m) (xs := digs 4294967296 x) (ys := digs 4294967296 y) HNN.out.1.symm HNN.out.2.symm (by omega) (by omega) (by omega) hnb (digs_lt (by omega) x) (digs_lt (by omega) y)
      (by rw [HNN.out.2]; exact digs_top (by rw [← HNN.out.2]; omega)) (by rw [HNN.out.1]; exact GA.out.cells) (by rw [HNN.out.2]; exact GB.out.cells))
    rw [val_digs (by omega), val_digs (by omega)] at HL
    have hLn : n + 1 - m ≤ 1000000 := by omega
    generalize n + 1 - m = L at HL hLn
    clear c1 GA GB
    go_wp2_with fail
    refine HL.out.mono ?_
    rintro e w8 ⟨gq, gr, N, q, r, f, rfl, hq, hr, hrf, hN, hqB, hrB, hqv, hrv, hb8⟩
    have hLq : LU w8 (.slice (some ⟨gq, 0, none⟩) L L) (seg q 0 L) := rowP_LU (RowP.of hq (fun j _ => by rw [Nat.zero_add])) (Nat.le_refl _) (Nat.le_refl _)
    have hLr : LU w8 (.slice (some ⟨gr, 0, none⟩) m m) (seg r 0 m) := rowP_LU (RowP.of hr (fun j hj => by rw [Nat.zero_add]; exact hrf j hj)) hN (Nat.le_refl _)
    have HQ := Lib.hid (fun (W : World) (hb : Below w8.heap.size w8 W) => fromDigits_new (w := W) (by rw [seg_len]; omega) (seg_lt hqB 0 L) (hLq.below hb))
    have HR := Lib.hid (fun (W : World) (hb : Below w8.heap.size w8 W) => fromDigits_new (w := W) (by rw [seg_len]; omega) (seg_lt hrB 0 m) (hLr.below hb))
    rw [hqv] at HQ
    rw [hrv] at HR
    have K3 := H3.step hb8
    have K4 := H4.step hb8
    have hlow8 : Below w.heap.size w w8 := hlow.trans (hb8.mono hlow.size)
    clear hq hr hrf hqB hrB hqv hrv hLq hLr HL hb8
    go_wp2_with fail
    refine (HQ.out _ (Below.refl _ _)).mono ?_
    rintro e w10 ⟨vq, rfl, hvq, hb10⟩
    obtain ⟨Aq, nq, cq, -, rfl⟩ := isNat_digs hvq
    go_wp2_with fail
    refine (HR.out _ hb10).mono ?_
    rintro e w11 ⟨vr, rfl, hvr, hb11⟩
    obtain ⟨Ar, nr, cr, -, rfl⟩ := isNat_digs hvr
    have L3 := (K3.step hb10).step hb11
    have L4 := (K4.step hb10).step hb11
    have l3 := L3.frozen
    have l4 := L4.frozen
    have l5 := L3.cell
    have l6 := L4.cell
    have hlow11 : Below w.heap.size w w11 := (hlow8.trans (hb10.mono hlow8.size)).trans (hb11.mono (Nat.le_trans hlow8.size hb10.size))
    have hvq' := hvq.below hb11
    clear K3 K4 hb10 hb11 hvq HQ HR
    go_wp2_with fail
    have r3 := (L3.set_ (.slice Aq nq cq)).far (p := ⟨w.heap.size + 1 + 1 + 1, 0, none⟩) (by show w.heap.size + 1 + 1 ≠ w.heap.size + 1 + 1 + 1; omega) (.slice Ar nr cr)
    have r4 := (L4.far (p := ⟨w.heap.size + 1 + 1, 0, none⟩) (by show w.heap.size + 1 + 1 + 1 ≠ w.heap.size + 1 + 1; omega) (.slice Aq nq cq)).set_ (.slice Ar nr cr)
    refine bodyPost_ret (v := .tuple #[.agg #[.slice Aq nq cq], .agg #[.slice Ar nr cr], .int .i64 0]) (by simp [results, Tryz.results83, go_sem, r3.cell, r4.cell]) rfl ?_
    have hfr4 := (L4.far (p := ⟨w.heap.size + 1 + 1, 0, none⟩) (by show w.heap.size + 1 + 1 + 1 ≠ w.heap.size + 1 + 1; omega) (.slice Aq nq cq)).row
    exact ⟨_, _, rfl, IsNat.far (IsNat.far hvq' (p := ⟨w.heap.size + 1 + 1, 0, none⟩) L3.row (by decide) _) (p := ⟨w.heap.size + 1 + 1 + 1, 0, none⟩) hfr4 (by decide) _, IsNat.far (IsNat.far hvr (p := ⟨w.heap.size + 1 + 1, 0, none⟩) L3.row (by decide) _) (p := ⟨w.heap.size + 1 + 1 + 1, 0, none⟩) hfr4 (by decide) _, ((hlow11.setCell (by show w.heap.size ≤ w.heap.size + 1 + 1; omega) _).setCell (by show w.heap.size ≤ w.heap.size + 1 + 1 + 1; omega) _)⟩
theorem divMod_any {u v : Value} {x y : Nat} {w : World} (hlx : (digs 4294967296 x).length ≤ 400000) (hly : (digs 4294967296 y).length ≤ 400000) (hy0 : 0 < y) (hu : IsNat w u x) (hv : IsNat w v y) :
    Calls Tryz.prog 83 #[u, v] w (DivOk w (x / y) (x % y)) := by
  by_cases h : x < y
  · rw [Nat.div_eq_of_lt h, Nat.mod_eq_of_lt h]
    exact divMod_less_any hlx hly h hu hv
  · by_cases hx : x < 18446744073709551616
    · exact divMod_ge hx (by omega) (by omega) hy0 hu hv
    · exact divMod_big hlx (by omega) (by omega) hy0 hu hv
end Go.Proofs.YthfjbpbgnoonpaaGreatDoor

namespace Go.Proofs.YthfjbpbgnoonpaaGreatDoor
open Go.RowKit

/-- At the head of GCD's first loop: the boxes of a and b, of numbers X and Y. -/
def GcdI (w : World) (G Y : Nat) (wr : World) : Prop :=
  ∃ (X : Nat) (A : Option Addr) (n ca : Nat) (B : Option Addr) (m cb : Nat), One wr w.heap.size (.slice A n ca) 28 ∧ One wr (w.heap.size + 1) (.slice B m cb) 28 ∧ One wr (w.heap.size + 1 + 1) (.slice none 0 0) 28 ∧
    IsNat wr (.agg #[.slice A n ca]) X ∧ IsNat wr (.agg #[.slice B m cb]) Y ∧ (digs 4294967296 X).length ≤ 400000 ∧ (digs 4294967296 Y).length ≤ 400000 ∧ m = (digs 4294967296 Y).length ∧ Nat.gcd X Y = G ∧ Below w.heap.size w wr
theorem isNat_len {w : World} {A : Option Addr} {n c k : Nat} (h : IsNat w (.agg #[.slice A n c]) k) : n = (digs 4294967296 k).length := by
  obtain ⟨s, e, A', c', rfl, _, _⟩ := h
  injection e with e
  have e2 : Value.slice A n c = Value.slice A' (digs 4294967296 k).length c' := by
    have := congrArg (fun a : Array Value => a[0]?) e
    simpa using this
  exact (Value.slice.inj e2).2.1
theorem digs_below {y : Nat} (h : (digs 4294967296 y).length ≤ 2) : y < 18446744073709551616 := by
  have h1 := val_lt (b := 4294967296) (digs 4294967296 y) (digs_lt (by omega) y)
  rw [val_digs (by omega)] at h1
  have h2 : (4294967296 : Nat) ^ (digs 4294967296 y).length ≤ 4294967296 ^ 2 := Nat.pow_le_pow_right (by omega) h
  have h4 : (4294967296 : Nat) ^ 2 = 18446744073709551616 := rfl
  rw [h4] at h2
  exact Nat.lt_of_lt_of_le h1 h2
theorem gcd_turn {X Y : Nat} : Nat.gcd Y (X % Y) = Nat.gcd X Y := by rw [Nat.gcd_comm Y, ← Nat.gcd_rec, Nat.gcd_comm]

theorem GcdI.drew {w W : World} {G Y : Nat} (h : GcdI w G Y W) : GcdI w G Y W.drew := by
  obtain ⟨X, A, n, ca, B, m, cb, h1, h2, h3, h4, h5, h6, h7, h8, h9, h10⟩ := h
  exact ⟨X, A, n, ca, B, m, cb, h1, h2, h3, h4, h5, h6, h7, h8, h9, h10.drew⟩
theorem gcd_next {w w7 : World} {G X Y : Nat} {A B Ar : Option Addr} {n ca m cb nr cr : Nat} (p1 : One w7 w.heap.size (.slice A n ca) 28) (p2 : One w7 (w.heap.size + 1) (.slice B m cb) 28) (p3 : One w7 (w.heap.size + 1 + 1) (.slice none 0 0) 28)
    (hY : IsNat w7 (.agg #[.slice B m cb]) Y) (hR : IsNat w7 (.agg #[.slice Ar nr cr]) (X % Y)) (hl : (digs 4294967296 Y).length ≤ 400000) (hY0 : 0 < Y) (hG : Nat.gcd X Y = G) (hlow : Below w.heap.size w w7) :
    GcdI w G (X % Y) ((w7.setCell ⟨w.heap.size, 0, none⟩ (.slice B m cb)).setCell ⟨w.heap.size + 1, 0, none⟩ (.slice Ar nr cr)) := by
  have q1 := (p1.set_ (.slice B m cb)).far (p := ⟨w.heap.size + 1, 0, none⟩) (by show w.heap.size ≠ w.heap.size + 1; omega) (.slice Ar nr cr)
  have p2' := p2.far (p := ⟨w.heap.size, 0, none⟩) (by show w.heap.size + 1 ≠ w.heap.size; omega) (.slice B m cb)
  have q2 := p2'.set_ (.slice Ar nr cr)
  have q3 := (p3.far (p := ⟨w.heap.size, 0, none⟩) (by show w.heap.size + 1 + 1 ≠ w.heap.size; omega) (.slice B m cb)).far (p := ⟨w.heap.size + 1, 0, none⟩) (by show w.heap.size + 1 + 1 ≠ w.heap.size + 1; omega) (.slice Ar nr cr)
  have lR : (digs 4294967296 (X % Y)).length ≤ (digs 4294967296 Y).length := digs_len_le (Nat.le_of_lt (Nat.mod_lt _ hY0))
  exact ⟨Y, _, _, _, _, _, _, q1, q2, q3, IsNat.far (IsNat.far hY (p := ⟨w.heap.size, 0, none⟩) p1.row (by decide) _) (p := ⟨w.heap.size + 1, 0, none⟩) p2'.row (by decide) _, IsNat.far (IsNat.far hR (p := ⟨w.heap.size, 0, none⟩) p1.row (by decide) _) (p := ⟨w.heap.size + 1, 0, none⟩) p2'.row (by decide) _, hl, by omega, isNat_len hR, by rw [gcd_turn]; exact hG,
    (hlow.setCell (Nat.le_refl _) _).setCell (by show w.heap.size ≤ w.heap.size + 1; omega) _⟩

set_option maxRecDepth 100000 in
set_option maxHeartbeats 4000000 in
theorem gcd_any {u v : Value} {x y : Nat} {w : World} (hlx : (digs 4294967296 x).length ≤ 400000) (hly : (digs 4294967296 y).length ≤ 400000) (hu : IsNat w u x) (hv : IsNat w v y) :
    Calls Tryz.prog 88 #[u, v] w (NewN w (Nat.gcd x y)) := by
  obtain ⟨s, rfl, A, ca, rfl, hca, hA⟩ := hu
  obtain ⟨t, rfl, B, cb, rfl, hcb, hB⟩ := hv
  obtain ⟨n, hn⟩ : ∃ n, n = (digs 4294967296 x).length := ⟨_, rfl⟩
  obtain ⟨m, hm⟩ : ∃ m, m = (digs 4294967296 y).length := ⟨_, rfl⟩
  obtain ⟨w3, hw3⟩ : ∃ w3, (((w.alloc (.cells #[.slice A n ca] 28)).alloc (.cells #[.slice B m cb] 28)).alloc (.cells #[.slice none 0 0] 28)) = w3 := ⟨_, rfl⟩
  have hI0 : GcdI w (Nat.gcd x y) y w3 := by
    have hb3 : Below w.heap.size w w3 := by
      rw [← hw3]
      exact (((Below.refl _ w).alloc (Nat.le_refl _) _).alloc (by simp) _).alloc (by simp; omega) _
    have o1 : One w3 w.heap.size (.slice A n ca) 28 := by rw [← hw3]; exact ((One.new w _ _).alloc _).alloc _
    have o2 : One w3 (w.heap.size + 1) (.slice B m cb) 28 := by
      have := (One.new (w.alloc (.cells #[.slice A n ca] 28)) (.slice B m cb) 28).alloc (.cells #[.slice none 0 0] 28)
      rw [hw3] at this
      simpa using this
    have o3 : One w3 (w.heap.size + 1 + 1) (.slice none 0 0) 28 := by
      have := One.new ((w.alloc (.cells #[.slice A n ca] 28)).alloc (.cells #[.slice B m cb] 28)) (.slice none 0 0) 28
      rw [hw3] at this
      simpa using this
    exact ⟨x, A, n, ca, B, m, cb, o1, o2, o3, ⟨_, rfl, A, ca, by rw [hn], hca, hA.step hb3⟩, ⟨_, rfl, B, cb, by rw [hm], hcb, hB.step hb3⟩, hlx, hly, hm, rfl, hb3⟩
  rw [← hn] at hca hA ⊢
  rw [← hm] at hcb hB ⊢
  obtain ⟨G, hG⟩ : ∃ G, G = Nat.gcd x y := ⟨_, rfl⟩
  rw [← hG] at hI0 ⊢
  clear hA hB hn hm hca hcb hlx hly hG
  go_enter Tryz.func88, Tryz.ntmps88
  go_wp2_with fail
  clear hw3
  go_loopg [7] y (fun Y _ wr => GcdI w G Y wr)
  case atStart => exact hI0
  case round =>
    clear hI0
    obtain ⟨w0, rfl⟩ : ∃ x, x = wr := ⟨_, rfl⟩
    obtain ⟨X, A, n, ca, B, m, cb, o1, o2, o3, hX, hY, hlX, hlY, hm, hG, hlow⟩ := hrel
    have d1 := o1.cell
    have d2 := o2.cell
    have hlm : m ≤ 400000 := by omega
    by_cases hm2 : 2 < m
    · have hY0 : 0 < gk := by
        rcases Nat.eq_zero_or_pos gk with h | h
        · rw [h, digs_zero] at hm; simp at hm; omega
        · exact h
      have HD := Lib.hid (divMod_any hlX hlY hY0 hX hY)
      have HYY := Lib.hid hY
      have HG := Lib.hid hG
      have HLY := Lib.hid hlY
      clear hX hm hG hlX hlY hY
      go_wp2_with fail
      refine HD.out.mono ?_
      rintro e w6 ⟨vq, vr, rfl, hvq, hvr, hb6⟩
      obtain ⟨Aq, nq, cq, -, rfl⟩ := isNat_digs hvq
      obtain ⟨Ar, nr, cr, -, rfl⟩ := isNat_digs hvr
      obtain ⟨w7, hw7⟩ : ∃ w7, ((w6.alloc (.cells #[.slice Aq nq cq] 28)).alloc (.cells #[.slice Ar nr cr] 28)) = w7 := ⟨_, rfl⟩
      have hb67 : Below w6.heap.size w6 w7 := by
        rw [← hw7]
        exact ((Below.refl _ w6).alloc (Nat.le_refl _) _).alloc (by simp) _
      have o9 : One w7 (w6.heap.size + 1) (.slice Ar nr cr) 28 := by
        have := One.new (w6.alloc (.cells #[.slice Aq nq cq] 28)) (.slice Ar nr cr) 28
        rw [hw7] at this
        simpa using this
      have hs6 := hb6.size
      have hl3 := o3.lt
      have hb07 := hb6.trans (hb67.mono hs6)
      have p1 := o1.step hb07
      have p2 := o2.step hb07
      have p3 := o3.step hb07
      have HY7 := Lib.hid (HYY.out.below hb07)
      have HR7 := Lib.hid (hvr.below hb67)
      have hlow7 : Below w.heap.size w w7 := hlow.trans (hb07.mono hlow.size)
      clear HD HYY hvq hvr hb6 hb67 hb07 d1 d2
      have HNX := Lib.hid (gcd_next p1 p2 p3 HY7.out HR7.out HLY.out hY0 HG.out hlow7)
      have f1 := p1.frozen
      have f2 := p2.frozen
      have c2 := p2.cell
      have c1 := p1.cell
      have c9 := o9.cell
      go_wp2_with fail
      clear hw7
      go_region
      all_goals (try go_wp2)
      all_goals
        go_roundg (X % gk)
        case measure => exact Nat.mod_lt _ hY0
        case rel => exact HNX.out.drew
    · have hY2 : gk < 18446744073709551616 := digs_below (by omega)
      have hz := isZero_any (w := w0) (by omega) hY
      by_cases hY0 : gk = 0
      · subst hY0
        rw [decide_eq_true rfl] at hz
        rw [Nat.gcd_zero_right] at hG
        subst hG
        have HX := Lib.hid hX
        have HZ := Lib.hid hz
        clear hX hY hlX hlY hm hz
        go_wp2_with fail
        refine HZ.out.mono ?_
        rintro e w5 ⟨rfl, hb5⟩
        have p1 := o1.step hb5
        have p3 := o3.step hb5
        have c1 := p1.cell
        have c3 := p3.cell
        have f3 := p3.frozen
        have hX5 := Lib.hid (HX.out.below hb5)
        clear d1 d2 HX HZ
        go_wp2_with fail
        have r3 := p3.set_ (.slice A n ca)
        refine bodyPost_ret (v := .agg #[.slice A n ca]) (by simp [results, Tryz.results88, go_sem, r3.cell]) rfl ?_
        exact ⟨_, rfl, IsNat.far hX5.out (p := ⟨w.heap.size + 1 + 1, 0, none⟩) p3.row (by decide) _, (hlow.trans (hb5.mono hlow.size)).setCell (by show w.heap.size ≤ w.heap.size + 1 + 1; omega) _⟩
      · rw [decide_eq_false hY0] at hz
        have hY1 : 0 < gk := by omega
        have HD := Lib.hid (fun (W : World) (hb : Below w0.heap.size w0 W) => divMod_any (w := W) hlX hlY hY1 (hX.below hb) (hY.below hb))
        have HV := Lib.hid (fun (W : World) (hb : Below w0.heap.size w0 W) => uint64_any (w := W) (by omega) (hY.below hb))
        have huy : U64Spec gk = .returned (.tuple #[.int .u64 (gk : Int), .bool true]) := by unfold U64Spec; rw [if_pos hY2]
        rw [huy] at HV
        obtain ⟨R, hR⟩ : ∃ R : Nat, R = X % gk := ⟨_, rfl⟩
        have hr1 : R < 18446744073709551616 := by rw [hR]; exact Nat.lt_trans (Nat.mod_lt _ hY1) hY2
        have HR := Lib.hid (fun (W : World) (v : Value) (h : IsNat W v R) => uint64_any (w := W) (by have := digs_small hr1; omega) h)
        have hur : U64Spec R = .returned (.tuple #[.int .u64 (R : Int), .bool true]) := by unfold U64Spec; rw [if_pos hr1]
        rw [hur] at HR
        have hG0 : Nat.gcd gk R = G := by rw [hR, gcd_turn]; exact hG
        have HG := Lib.hid hG0
        rw [← hR] at HD
        have Hr1 := Lib.hid hr1
        have HY2 := Lib.hid hY2
        have HZ := Lib.hid hz
        clear hX hY hlX hlY hm hz hG hG0 huy hur hR hr1 hY2
        go_wp2_with fail
        refine HZ.out.mono ?_
        rintro e w5 ⟨rfl, hb5⟩
        have c1 := (o1.step hb5).cell
        have c2 := (o2.step hb5).cell
        clear HZ d1 d2
        go_wp2_with fail
        refine (HD.out _ hb5).mono ?_
        rintro e w6 ⟨vq, vr, rfl, hvq, hvr, hb6⟩
        obtain ⟨Aq, nq, cq, -, rfl⟩ := isNat_digs hvq
        obtain ⟨Ar, nr, cr, -, rfl⟩ := isNat_digs hvr
        obtain ⟨w7, hw7⟩ : ∃ w7, ((w6.alloc (.cells #[.slice Aq nq cq] 28)).alloc (.cells #[.slice Ar nr cr] 28)) = w7 := ⟨_, rfl⟩
        have hb67 : Below w6.heap.size w6 w7 := by
          rw [← hw7]
          exact ((Below.refl _ w6).alloc (Nat.le_refl _) _).alloc (by simp) _
        have o9 : One w7 (w6.heap.size + 1) (.slice Ar nr cr) 28 := by
          have := One.new (w6.alloc (.cells #[.slice Aq nq cq] 28)) (.slice Ar nr cr) 28
          rw [hw7] at this
          simpa using this
        have hb06 := hb5.trans (hb6.mono hb5.size)
        have hb07 := hb06.trans (hb67.mono hb06.size)
        have hNr := hvr.below hb67
        have c2 := (o2.step hb07).cell
        clear hvq hvr hb6 hb5 hb67 hb06 HD c1
        go_wp2_with fail
        clear hw7
        refine (HV.out _ hb07).mono ?_
        rintro e w8 ⟨rfl, hb8⟩
        have hb08 := hb07.trans (hb8.mono hb07.size)
        have c9 := (o9.step hb8).cell
        go_wp2_with fail
        refine (HR.out _ _ (hNr.below hb8)).mono ?_
        rintro e w9 ⟨rfl, hb9⟩
        have hb09 := hb08.trans (hb9.mono hb08.size)
        go_wp2_with fail
        have O3 := o3.step hb09
        have hlow9 : Below w.heap.size w w9 := hlow.trans (hb09.mono hlow.size)
        clear hb09 hb08 hb07 hb9 hb8 hNr o9 c9 c2 HV HR o1 o2 o3 hlow
        go_loopw [11, 13] (fun X Y wr => GcdR G X Y ∧ Below w9.heap.size w9 wr) (fun _ Y _ => (intOf Y).toNat)
        case atStart => exact ⟨⟨gk, R, rfl, rfl, HY2.out, Hr1.out, HG.out⟩, Below.refl _ _⟩
        case round =>
          obtain ⟨⟨X, Y, rfl, rfl, hX, hY, hgc⟩, hbr⟩ := hrel
          by_cases h0 : Y = 0
          · subst h0
            have hO := natOf_any (w := wr) (X : Int) (by omega) (by omega)
            rw [Int.toNat_natCast] at hO
            rw [Nat.gcd_zero_right] at hgc
            subst hgc
            have o3r := O3.step hbr
            have hlr : Below w.heap.size w wr := hlow9.trans (hbr.mono hlow9.size)
            clear hX hY HG
            go_wp2_with fail
            refine hO.mono ?_
            rintro e w10 ⟨v, rfl, hvg, hb10⟩
            obtain ⟨Ag, ng, cg, -, rfl⟩ := isNat_digs hvg
            have c3 := (o3r.step hb10).cell
            have f3 := (o3r.step hb10).frozen
            go_wp2_with fail
            have r3 := (o3r.step hb10).set_ (.slice Ag ng cg)
            refine bodyPost_ret (v := .agg #[.slice Ag ng cg]) (by simp [results, Tryz.results88, go_sem, r3.cell]) rfl ?_
            refine ⟨_, rfl, ?_, ?_⟩
            · exact IsNat.far hvg (p := ⟨w.heap.size + 1 + 1, 0, none⟩) (o3r.step hb10).row (by decide) _
            · exact (hlr.trans (hb10.mono hlr.size)).setCell (by show w.heap.size ≤ w.heap.size + 1 + 1; omega) _
          · have hp : ¬ ((Y : Int) = 0) := by omega
            have ht : (X : Int).tmod (Y : Int) = ((X % Y : Nat) : Int) := by rw [Int.tmod_eq_emod_of_nonneg (by omega), Int.natCast_emod]
            have hlt : X % Y < Y := Nat.mod_lt _ (by omega)
            have hy2 : 0 < (Y : Int) := by omega
            have hy1 : ((Y : Int) == 0) = false := beq_eq_false_iff_ne.2 (by omega)
            go_wp2_with fail
            go_region
            all_goals (try go_wp2)
            all_goals
              rw [← Int.natCast_emod]
              refine ⟨⟨⟨Y, X % Y, rfl, rfl, hY, by omega, ?_⟩, hbr.drew⟩, ?_⟩
              · rw [← hgc, gcd_turn]
              · show (((X % Y : Nat) : Int)).toNat < ((Y : Nat) : Int).toNat
                rw [Int.toNat_natCast, Int.toNat_natCast]; exact hlt
end Go.Proofs.YthfjbpbgnoonpaaGreatDoor

namespace Go.Proofs.YthfjbpbgnoonpaaGreatDoor
open Go.RowKit

/-- In world W, behind w: values that stand for numbers, and boxes that hold values, the youngest first. -/
def St (w : World) (L : List (Value × Nat × Nat)) (B : List (Nat × Value)) (W : World) : Prop :=
  Tab w ∧ Env W L ∧ (∀ b, b ∈ B → One W b.1 b.2 28 ∧ w.heap.size ≤ b.1) ∧ B.Pairwise (fun p q => q.1 < p.1) ∧ Below w.heap.size w W
section
variable {w W W' : World} {L L' : List (Value × Nat × Nat)} {B B' : List (Nat × Value)}
theorem St.low (h : St w L B W) : Below w.heap.size w W := h.2.2.2.2
theorem St.begin (hT : Tab w) (hb : Below w.heap.size w W) : St w [] [] W := ⟨hT, ⟨hT.below hb, fun p hp => by simp at hp⟩, fun b hb => by simp at hb, .nil, hb⟩
theorem St.below (h : St w L B W) (hb : Below W.heap.size W W') : St w L B W' :=
  ⟨h.1, h.2.1.below hb, fun b hm => ⟨(h.2.2.1 b hm).1.step hb, (h.2.2.1 b hm).2⟩, h.2.2.2.1, h.2.2.2.2.trans (hb.mono h.2.2.2.2.size)⟩
theorem St.drew (h : St w L B W) : St w L B W.drew := ⟨h.1, h.2.1.drew, h.2.2.1, h.2.2.2.1, h.2.2.2.2.drew⟩
theorem St.push (h : St w L B W) {v : Value} {k a : Nat} (hv : IsNat W v k) (hk : k < 4294967296 ^ a) : St w ((v, k, a) :: L) B W := ⟨h.1, h.2.1.push hv hk, h.2.2⟩
theorem St.alloc (h : St w L B W) (v : Value) : St w L ((W.heap.size, v) :: B) (W.alloc (.cells #[v] 28)) := by
  have hb := (Below.refl W.heap.size W).alloc (Nat.le_refl _) (.cells #[v] 28)
  obtain ⟨h1, h2, h3, h4, h5⟩ := h.below hb
  refine ⟨h1, h2, fun b hm => ?_, List.pairwise_cons.2 ⟨fun q hq => ((h.2.2.1 q hq).1).lt, h4⟩, h5⟩
  rcases List.mem_cons.1 hm with rfl | hm
  · exact ⟨One.new _ _ _, h.2.2.2.2.size⟩
  · exact h3 b hm
theorem St.allocD (h : St w L B W) (v : Value) : St w L ((W.heap.size, v) :: B) (W.drew.alloc (.cells #[v] 28)) := h.drew.alloc v
theorem St.alloc2 (h : St w L B W) (v v2 : Value) : St w L ((W.heap.size + 1, v2) :: (W.heap.size, v) :: B) ((W.alloc (.cells #[v] 28)).alloc (.cells #[v2] 28)) := by
  have := (h.alloc v).alloc v2
  rwa [show (W.alloc (.cells #[v] 28)).heap.size = W.heap.size + 1 by simp] at this
theorem St.one (h : St w L B W) {b : Nat} {v : Value} (hm : (b, v) ∈ B) : One W b v 28 := (h.2.2.1 _ hm).1
theorem St.cell (h : St w L B W) {b : Nat} {v : Value} (hm : (b, v) ∈ B) : W.cell? ⟨b, 0, none⟩ = some v := (h.one hm).cell
theorem St.frozen (h : St w L B W) {b : Nat} {v : Value} (hm : (b, v) ∈ B) : W.frozen? ⟨b, 0, none⟩ = false := (h.one hm).frozen
theorem St.sub (h : St w L B W) (hL : ∀ p, p ∈ L' → p ∈ L) (hB : B'.Sublist B) : St w L' B' W :=
  ⟨h.1, ⟨h.2.1.1, fun p hp => h.2.1.2 p (hL p hp)⟩, fun b hm => h.2.2.1 b (hB.subset hm), h.2.2.2.1.sublist hB, h.2.2.2.2⟩
theorem St.sub2 (h : St w L B W) (hL : L'.Sublist L) (hB : B'.Sublist B) : St w L' B' W := h.sub (fun _ hp => hL.subset hp) hB
theorem St.store0 {b : Nat} {v0 : Value} (h : St w L ((b, v0) :: B) W) (v : Value) : St w L ((b, v) :: B) (W.setCell ⟨b, 0, none⟩ v) := by
  obtain ⟨h1, h2, h3, h4, h5⟩ := h
  have hb := h3 _ (.head _)
  have h6 := h5.setCell hb.2 v (p := ⟨b, 0, none⟩)
  have h7 := List.pairwise_cons.1 h4
  refine ⟨h1, h2.far (h1.below h6) hb.1.row, fun q hq => ?_, List.pairwise_cons.2 ⟨h7.1, h7.2⟩, h6⟩
  rcases List.mem_cons.1 hq with rfl | hq
  · exact ⟨hb.1.set_ v, hb.2⟩
  · have := h7.1 q hq
    have h8 := h3 q (.tail _ hq)
    simp only at this
    exact ⟨h8.1.far (p := ⟨b, 0, none⟩) (by show q.1 ≠ b; omega) v, h8.2⟩
theorem St.store1 {b : Nat} {p : Nat × Value} {v0 : Value} (h : St w L (p :: (b, v0) :: B) W) (v : Value) : St w L (p :: (b, v) :: B) (W.setCell ⟨b, 0, none⟩ v) := by
  have h0 := St.store0 (h.sub (L' := L) (B' := (b, v0) :: B) (fun _ h => h) (.cons _ (List.Sublist.refl _))) v
  obtain ⟨h1, h2, h3, h4, h5⟩ := h
  have h7 := List.pairwise_cons.1 h4
  have h8 := h7.1 _ (.head _)
  simp only at h8
  have hp := h3 _ (.head _)
  refine ⟨h1, h0.2.1, fun q hq => ?_, List.pairwise_cons.2 ⟨fun q hq => ?_, h0.2.2.2.1⟩, h0.2.2.2.2⟩
  · rcases List.mem_cons.1 hq with rfl | hq
    · exact ⟨hp.1.far (p := ⟨b, 0, none⟩) (by show q.1 ≠ b; omega) v, hp.2⟩
    · exact h0.2.2.1 q hq
  · rcases List.mem_cons.1 hq with rfl | hq
    · exact h8
    · exact h7.1 q (.tail _ hq)

def OpS (w : World) (L : List (Value × Nat × Nat)) (B : List (Nat × Value)) (k a : Nat) (e : Ending) (w' : World) : Prop := ∃ A n c, e = .returned (.agg #[.slice A n c]) ∧ St w ((.agg #[.slice A n c], k, a) :: L) B w'
section
variable {u v : Value} {k j a b : Nat}
theorem opS {e : Ending} {w' : World} (S : St w L B W) (h : OpE W L k a e w') : OpS w L B k a e w' := by
  obtain ⟨A, n, c, rfl, h1, h2⟩ := h
  have h3 := S.below h2
  exact ⟨A, n, c, rfl, h3.1, h1, h3.2.2⟩
theorem addS (S : St w L B W) (hu : (u, k, a) ∈ L) (hv : (v, j, b) ∈ L) (ha : a ≤ 400) (hb : b ≤ 400) : Calls Tryz.prog 84 #[u, v] W (OpS w L B (k + j) (a + b + 1)) :=
  (addE S.2.1 hu hv ha hb).mono fun _ _ h => opS S h
theorem mulS (S : St w L B W) (hu : (u, k, a) ∈ L) (hv : (v, j, b) ∈ L) (ha : a ≤ 400) (hb : b ≤ 400) : Calls Tryz.prog 76 #[u, v] W (OpS w L B (k * j) (a + b)) :=
  (mulE S.2.1 hu hv ha hb).mono fun _ _ h => opS S h
theorem gcdS (S : St w L B W) (hu : (u, k, a) ∈ L) (hv : (v, j, b) ∈ L) (ha : a ≤ 400) (hb : b ≤ 400) (hj : 0 < j) : Calls Tryz.prog 88 #[u, v] W (OpS w L B (Nat.gcd k j) b) := by
  obtain ⟨h1, h2⟩ := S.2.1.2 _ hu
  obtain ⟨h3, h4⟩ := S.2.1.2 _ hv
  simp only at h1 h2 h3 h4
  have l1 := digs_len (b := 4294967296) (by omega) h2
  have l2 := digs_len (b := 4294967296) (by omega) h4
  refine (gcd_any (by omega) (by omega) h1 h3).mono ?_
  rintro e w' ⟨r, rfl, hr, hb⟩
  obtain ⟨A, n, c, -, rfl⟩ := isNat_digs hr
  exact ⟨A, n, c, rfl, (S.below hb).push hr (Nat.lt_of_le_of_lt (Nat.gcd_le_right k hj) h4)⟩
def OpD (w : World) (L : List (Value × Nat × Nat)) (B : List (Nat × Value)) (q a r b : Nat) (e : Ending) (w' : World) : Prop := ∃ A n c A2 n2 c2, e = .returned (.tuple #[.agg #[.slice A n c], .agg #[.slice A2 n2 c2], .int .i64 0]) ∧ St w ((.agg #[.slice A2 n2 c2], r, b) :: (.agg #[.slice A n c], q, a) :: L) B w'
theorem divS (S : St w L B W) (hu : (u, k, a) ∈ L) (hv : (v, j, b) ∈ L) (ha : a ≤ 400) (hb : b ≤ 400) (hj : 0 < j) : Calls Tryz.prog 83 #[u, v] W (OpD w L B (k / j) a (k % j) b) := by
  obtain ⟨h1, h2⟩ := S.2.1.2 _ hu
  obtain ⟨h3, h4⟩ := S.2.1.2 _ hv
  simp only at h1 h2 h3 h4
  have l1 := digs_len (b := 4294967296) (by omega) h2
  have l2 := digs_len (b := 4294967296) (by omega) h4
  refine (divMod_any (by omega) (by omega) hj h1 h3).mono ?_
  rintro e w' ⟨q, r, rfl, hq, hr, hb⟩
  obtain ⟨A, n, c, -, rfl⟩ := isNat_digs hq
  obtain ⟨A2, n2, c2, -, rfl⟩ := isNat_digs hr
  exact ⟨A, n, c, A2, n2, c2, rfl, ((S.below hb).push hq (Nat.lt_of_le_of_lt (Nat.div_le_self k j) h2)).push hr (Nat.lt_trans (Nat.mod_lt k hj) h4)⟩
theorem cmpS_lt (S : St w L B W) (hu : (u, k, a) ∈ L) (hv : (v, j, b) ∈ L) (ha : a ≤ 400) (hb : b ≤ 400) (h : k < j) : Calls Tryz.prog 82 #[u, v] W fun e w' => e = .returned (.int .i64 (-1)) ∧ St w L B w' := by
  obtain ⟨h1, h2⟩ := S.2.1.2 _ hu
  obtain ⟨h3, h4⟩ := S.2.1.2 _ hv
  simp only at h1 h2 h3 h4
  have l1 := digs_len (b := 4294967296) (by omega) h2
  have l2 := digs_len (b := 4294967296) (by omega) h4
  refine (cmp_any (by omega) (by omega) h1 h3).mono ?_
  rintro e w' ⟨rfl, hb⟩
  refine ⟨?_, S.below hb⟩
  unfold cmpI
  rw [if_pos h]
theorem cmpS_eq (S : St w L B W) (hu : (u, k, a) ∈ L) (hv : (v, j, b) ∈ L) (ha : a ≤ 400) (hb : b ≤ 400) (h : k = j) : Calls Tryz.prog 82 #[u, v] W fun e w' => e = .returned (.int .i64 0) ∧ St w L B w' := by
  obtain ⟨h1, h2⟩ := S.2.1.2 _ hu
  obtain ⟨h3, h4⟩ := S.2.1.2 _ hv
  simp only at h1 h2 h3 h4
  have l1 := digs_len (b := 4294967296) (by omega) h2
  have l2 := digs_len (b := 4294967296) (by omega) h4
  refine (cmp_any (by omega) (by omega) h1 h3).mono ?_
  rintro e w' ⟨rfl, hb⟩
  refine ⟨?_, S.below hb⟩
  subst h
  unfold cmpI
  rw [if_neg (Nat.lt_irrefl _), if_neg (Nat.lt_irrefl _)]
theorem zeroS (S : St w L B W) (hu : (u, k, a) ∈ L) (ha : a ≤ 400) : Calls Tryz.prog 55 #[u] W fun e w' => e = .returned (.bool (decide (k = 0))) ∧ St w L B w' := by
  obtain ⟨h1, h2⟩ := S.2.1.2 _ hu
  simp only at h1 h2
  have l1 := digs_len (b := 4294967296) (by omega) h2
  refine (isZero_any (by omega) h1).mono ?_
  rintro e w' ⟨rfl, hb⟩
  exact ⟨rfl, S.below hb⟩
theorem zeroS_yes (S : St w L B W) (hu : (u, k, a) ∈ L) (ha : a ≤ 400) (h : k = 0) : Calls Tryz.prog 55 #[u] W fun e w' => e = .returned (.bool true) ∧ St w L B w' := by
  have := zeroS S hu ha
  rwa [decide_eq_true h] at this
theorem zeroS_no (S : St w L B W) (hu : (u, k, a) ∈ L) (ha : a ≤ 400) (h : 0 < k) : Calls Tryz.prog 55 #[u] W fun e w' => e = .returned (.bool false) ∧ St w L B w' := by
  have := zeroS S hu ha
  rwa [decide_eq_false (Nat.ne_of_gt h)] at this
end
end
/-- What the law rests on. -/
theorem div_whole (k j : Nat) : k / j * j + k % j = k := by rw [Nat.mul_comm]; exact Nat.div_add_mod k j
theorem gcd_scaled (k j i : Nat) : Nat.gcd (k * i) (j * i) % i = 0 := by rw [Nat.gcd_mul_right]; exact Nat.mul_mod_left _ _
theorem left_gcd (x y : Nat) : x % Nat.gcd x y = 0 := Nat.mod_eq_zero_of_dvd (Nat.gcd_dvd_left x y)
theorem right_gcd (x y : Nat) : y % Nat.gcd x y = 0 := Nat.mod_eq_zero_of_dvd (Nat.gcd_dvd_right x y)
theorem gcd_more {x y : Nat} (h : 0 < y) : 0 < Nat.gcd x y := Nat.gcd_pos_of_pos_right _ h
end Go.Proofs.YthfjbpbgnoonpaaGreatDoor
