/- Contracts: sink, settle. -/
import Derived.Test.YtijoaiehnemgnaaHeapC
namespace Go.Proofs.Ytijoaiehnemgnaa
open Go.RowKit

/-- At the head of sink's loop. -/
def SinkI (w : World) (h E P c L n : Nat) (M : Nat → Option Int) (x : En) (p : Nat) (wr : World) : Prop :=
  ∃ (a b : Nat → En) (pl : Nat → Int), p < L ∧ InvD a L p ∧ a p = x ∧ Mid M n L p a b pl ∧ HeapB wr h (some ⟨E, 0, none⟩) L c P n ∧ Arr wr E c L b ∧ Plc wr P n pl ∧ boxE wr w.heap.size x ∧ Only w wr E P
def HeapPost (w : World) (h E P c L n : Nat) (M : Nat → Option Int) (w' : World) : Prop :=
  ∃ (a : Nat → En) (pl : Nat → Int), Ordered a L ∧ Holds a L n M ∧ PlR a L L M pl ∧ HeapB w' h (some ⟨E, 0, none⟩) L c P n ∧ Arr w' E c L a ∧ Plc w' P n pl ∧ Only w w' E P
theorem sink_last {w wr : World} {h E P c L n p : Nat} {M : Nat → Option Int} {a b : Nat → En} {pl : Nat → Int} {x : En} (hS : Sep h E P c L) (hp : p < L) (hD : Ordered a L) (hx : a p = x) (hM : Mid M n L p a b pl) (hB : HeapB wr h (some ⟨E, 0, none⟩) L c P n) (hE : Arr wr E c L b) (hP : Plc wr P n pl) (hO : Only w wr E P) :
    Calls Try.prog 22 #[.pointer (some ⟨h, 0, none⟩), .int .i64 (p : Nat), ent x] wr fun e w' => (∃ v, e = .returned v) ∧ HeapPost w h E P c L n M w' := by
  obtain ⟨n1, n2, n3, hLc, hL1⟩ := hS
  subst hx
  refine (put_arr hB hE hP hp (hM.1.1 p hp).1 hLc n1 n2 n3).mono ?_
  rintro e w' ⟨he, k1, k2, k3, k4⟩
  obtain ⟨m1, m2⟩ := mid_end hp hM
  exact ⟨he, a, _, hD, hM.1, m2, k1, k2.same m1, k3, hO.trans k4⟩
theorem sink_move {w wr : World} {h E P c L n p q : Nat} {M : Nat → Option Int} {a b : Nat → En} {pl : Nat → Int} {x : En} (hS : Sep h E P c L) (hp : p < L) (hq0 : 0 < q) (hqL : q < L) (hqp : par q = p) (hmin : ∀ d, 0 < d → d < L → par d = p → d ≠ q → ¬ Lt (a d) (a q)) (hI : InvD a L p) (hx : a p = x) (hle : ¬ Lt x (b q)) (hM : Mid M n L p a b pl) (hlw : w.heap.size ≠ E) (hlp : w.heap.size ≠ P) (hB : HeapB wr h (some ⟨E, 0, none⟩) L c P n) (hE : Arr wr E c L b) (hP : Plc wr P n pl) (hX : boxE wr w.heap.size x) (hO : Only w wr E P) :
    Calls Try.prog 22 #[.pointer (some ⟨h, 0, none⟩), .int .i64 (p : Nat), ent (b q)] wr fun e w' => (∃ v, e = .returned v) ∧ SinkI w h E P c L n M x q w' := by
  obtain ⟨n1, n2, n3, hLc, hL1⟩ := hS
  have hpq := par_lt hq0
  have hbq : b q = a q := hM.2.1 q (by omega) (by omega)
  refine (put_arr hB hE hP hp (by rw [hbq]; exact (hM.1.1 q (by omega)).1) hLc n1 n2 n3).mono ?_
  rintro e w' ⟨he, k1, k2, k3, k4⟩
  have hm := mid_move hp (q := q) hqL (by omega) hM
  rw [hbq] at hle
  exact ⟨he, swp a p q, _, _, hqL, sink_step hp hq0 hqL hqp hmin hI (by rw [hx]; exact hle), by rw [swp_r]; exact hx, hm, k1, k2, k3, (k4.2.2.2.2 _ hX.lt hlw hlp).trans hX, hO.trans k4⟩

set_option maxRecDepth 100000 in
set_option maxHeartbeats 4000000 in
theorem sink_any {w : World} {h E P c L n p : Nat} {M : Nat → Option Int} {a : Nat → En} {pl : Nat → Int} (hS : Sep h E P c L) (hp : p < L) (hI : InvD a L p) (hH : Holds a L n M) (hPl : PlR a L L M pl)
    (hB : HeapB w h (some ⟨E, 0, none⟩) L c P n) (hE : Arr w E c L a) (hP : Plc w P n pl) :
    Calls Try.prog 26 #[.pointer (some ⟨h, 0, none⟩), .int .i64 (p : Nat)] w fun e w' => (∃ v, e = .returned v) ∧ HeapPost w h E P c L n M w' := by
  have hLc : L ≤ c := hS.2.2.2.1
  have hL1 : L ≤ 100000 := hS.2.2.2.2
  have e0 := hE.cell0 hLc p hp
  have e1 := hE.cell1 hLc p hp
  have c0 := hB.cell0
  have lE := hE.lt
  have lB := hB.lt
  have lP := Row.lt hP
  obtain ⟨x, hx⟩ : ∃ x, a p = x := ⟨_, rfl⟩
  rw [hx] at e0 e1
  obtain ⟨w1, hw1⟩ : ∃ w1, w.alloc (.cells #[.int .i64 (x.1 : Nat), .int .i64 x.2] 54) = w1 := ⟨_, rfl⟩
  have hI0 : SinkI w h E P c L n M x p w1 := by
    rw [← hw1]
    exact ⟨a, a, pl, hp, hI, hx, mid_start hH (fun _ _ => rfl) hPl, hB.alloc _, hE.keep (Below.heap_alloc w _ E lE), hP.keep (Below.heap_alloc w _ P lP), heap_alloc_new w _, (Only.refl w E P).alloc _⟩
  have hz0 : (0 : Int) ≤ (p : Int) := by omega
  have hz1 : (p : Int) < (L : Int) := by omega
  have lE' : w.heap.size ≠ E := by omega
  have lP' : w.heap.size ≠ P := by omega
  clear hI hH hPl hB hE hP hx lE lB lP
  go_enter Try.func26, Try.ntmps26
  go_wp2_with fail
  clear hw1 e0 e1 c0 hz0 hz1
  go_loopw [1] (fun v wr => ∃ p : Nat, v = .int .i64 (p : Nat) ∧ SinkI w h E P c L n M x p wr) (fun v _ => L - (intOf v).toNat)
  case atStart => exact ⟨p, rfl, hI0⟩
  case round =>
    clear hI0
    obtain ⟨p, rfl, a, b, pl, hp, hI, hx, hM, hB, hE, hP, hX, hO⟩ := hrel
    have HFC := Lib.hid (firstChild_any hB hE hLc hL1 hp)
    have HX := Lib.hid hx
    have HALL := Lib.hid (And.intro hI (And.intro hM (And.intro hB (And.intro hE (And.intro hP (And.intro hX hO))))))
    clear hx hI hM hB hE hP hX hO
    go_wp2_with fail
    refine HFC.out.mono ?_
    rintro e w2 ⟨⟨r, rfl, hfc⟩, hb⟩
    have kX : boxE w2 w.heap.size x := (hb.block _ HALL.out.2.2.2.2.2.1.lt).trans HALL.out.2.2.2.2.2.1
    have kB := HALL.out.2.2.1.keep (hb.block h HALL.out.2.2.1.lt)
    have kE := HALL.out.2.2.2.1.keep (hb.block E HALL.out.2.2.2.1.lt)
    have kP : Plc w2 P n pl := Plc.keep HALL.out.2.2.2.2.1 (hb.block P (Row.lt HALL.out.2.2.2.2.1))
    have kO : Only w w2 E P := HALL.out.2.2.2.2.2.2.trans (below_only hb)
    replace hfc := fc_same HALL.out.2.1.2.1 hfc
    have x0 := kX.cell0
    have x1 := kX.cell1
    have c0 := kB.cell0
    clear HFC hb
    have hfc' := hfc
    rcases hfc with ⟨rfl, hle⟩ | ⟨q, rfl, q0, qL, qp, hmin⟩
    · have HL := Lib.hid (sink_last (w := w) (wr := w2.drew) hS hp (sink_end HALL.out.1 (fc_stop hfc' (.inl rfl))) HX.out HALL.out.2.1 kB kE kP kO)
      unfold ent at HL
      have hm1 : ((-1 : Int) == -1) = true := rfl
      clear hfc' kB kE kP kX kO
      go_wp2_with fail
      refine wp_region_held_drew (S := fun W' => W'.cell? ⟨h, 0, none⟩ = some (.slice (some ⟨E, 0, none⟩) L c)) (by kernel_rfl) c0 (fun hHeld => ?_)
      refine wpAnyH_takeD 0 (v := ?_) rfl rfl (by kernel_rfl) (by kernel_rfl) (by kernel_rfl) (fun _ _ _ h => h) (Or.inl ⟨by rfl, ?_⟩) hHeld ?_
      rotate_left
      focus (intro w hSw; (try dsimp only at hSw); go_simp; try with_reducible rfl)
      simp only [List.setIfInBounds_toArray, List.set_cons_zero, List.set_cons_succ]
      refine wpAnyH_takeD 1 (v := ?_) rfl rfl (by kernel_rfl) (by kernel_rfl) (by kernel_rfl) (fun _ _ _ h => h) (Or.inl ⟨by rfl, ?_⟩) hHeld ?_
      rotate_left
      focus (intro w hSw; (try dsimp only at hSw); go_simp; try with_reducible rfl)
      simp only [List.setIfInBounds_toArray, List.set_cons_zero, List.set_cons_succ]
      refine wpAnyH_takeD 2 (v := ?_) rfl rfl (by kernel_rfl) (by kernel_rfl) (by kernel_rfl) (fun _ _ _ h => h) (Or.inl ⟨by rfl, ?_⟩) hHeld ?_
      rotate_left
      focus (intro w hSw; (try dsimp only at hSw); go_simp; try with_reducible rfl)
      simp only [List.setIfInBounds_toArray, List.set_cons_zero, List.set_cons_succ]
      refine wpAnyH_takeD 3 (v := undef) rfl rfl (by kernel_rfl) (by kernel_rfl) (by kernel_rfl) (fun _ _ _ h => h) (Or.inr ⟨by rfl, rfl⟩) hHeld ?_
      simp only [List.setIfInBounds_toArray, List.set_cons_zero, List.set_cons_succ]
      refine wpAnyH_takeD 4 (v := undef) rfl rfl (by kernel_rfl) (by kernel_rfl) (by kernel_rfl) (fun _ _ _ h => h) (Or.inr ⟨by rfl, rfl⟩) hHeld ?_
      simp only [List.setIfInBounds_toArray, List.set_cons_zero, List.set_cons_succ]
      refine wpAnyH_takeD 5 (v := undef) rfl rfl (by kernel_rfl) (by kernel_rfl) (by kernel_rfl) (fun _ _ _ h => h) (Or.inr ⟨by rfl, rfl⟩) hHeld ?_
      simp only [List.setIfInBounds_toArray, List.set_cons_zero, List.set_cons_succ]
      refine wpAnyH_takeD 6 (v := undef) rfl rfl (by kernel_rfl) (by kernel_rfl) (by kernel_rfl) (fun _ _ _ h => h) (Or.inr ⟨by rfl, rfl⟩) hHeld ?_
      simp only [List.setIfInBounds_toArray, List.set_cons_zero, List.set_cons_succ]
      refine wpAnyH_takeD 7 (v := undef) rfl rfl (by kernel_rfl) (by kernel_rfl) (by kernel_rfl) (fun _ _ _ h => h) (Or.inr ⟨by rfl, rfl⟩) hHeld ?_
      simp only [List.setIfInBounds_toArray, List.set_cons_zero, List.set_cons_succ]
      refine wpAnyH_takeD 8 (v := undef) rfl rfl (by kernel_rfl) (by kernel_rfl) (by kernel_rfl) (fun _ _ _ h => h) (Or.inr ⟨by rfl, rfl⟩) hHeld ?_
      simp only [List.setIfInBounds_toArray, List.set_cons_zero, List.set_cons_succ]
      refine wpAnyH_takeD 9 (v := undef) rfl rfl (by kernel_rfl) (by kernel_rfl) (by kernel_rfl) (fun _ _ _ h => h) (Or.inr ⟨by rfl, rfl⟩) hHeld ?_
      simp only [List.setIfInBounds_toArray, List.set_cons_zero, List.set_cons_succ]
      refine wpAnyH_takeD 10 (v := undef) rfl rfl (by kernel_rfl) (by kernel_rfl) (by kernel_rfl) (fun _ _ _ h => h) (Or.inr ⟨by rfl, rfl⟩) hHeld ?_
      simp only [List.setIfInBounds_toArray, List.set_cons_zero, List.set_cons_succ]
      refine wpAnyH_takeD 11 (v := undef) rfl rfl (by kernel_rfl) (by kernel_rfl) (by kernel_rfl) (fun _ _ _ h => h) (Or.inr ⟨by rfl, rfl⟩) hHeld ?_
      simp only [List.setIfInBounds_toArray, List.set_cons_zero, List.set_cons_succ]
      refine wpAnyH_takeD 12 (v := ?_) rfl rfl (by kernel_rfl) (by kernel_rfl) (by kernel_rfl) (fun _ _ _ h => h) (Or.inl ⟨by rfl, ?_⟩) hHeld ?_
      rotate_left
      focus (intro w hSw; (try dsimp only at hSw); go_simp; try with_reducible rfl)
      simp only [List.setIfInBounds_toArray, List.set_cons_zero, List.set_cons_succ]
      refine wpAnyH_done (by kernel_rfl) ?_ _
      go_wp2_with fail
      refine HL.out.mono ?_
      rintro e w' ⟨⟨v, rfl⟩, hR⟩
      have HRR := Lib.hid hR
      clear hR
      go_wp2_with fail
      exact bodyPost_end (results_none rfl _ _ _) rfl ⟨⟨_, rfl⟩, HRR.out⟩
    · have hpq := par_lt q0
      rw [qp] at hpq
      have hqn : ((q : Int) == -1) = false := beq_eq_false_iff_ne.2 (by omega)
      have hz0 : (0 : Int) ≤ (q : Int) := by omega
      have hz1 : (q : Int) < (L : Int) := by omega
      have e0 := kE.cell0 hLc q qL
      have e1 := kE.cell1 hLc q qL
      have HBF := Lib.hid (fun W : World => before_any x (b q) (w := W))
      unfold ent at HBF
      have HKK := Lib.hid (And.intro kB (And.intro kE (And.intro kP (And.intro kX kO))))
      have HFF := Lib.hid (And.intro hfc' (And.intro q0 (And.intro qp hmin)))
      clear kB kE kP kX kO hfc' q0 qp hmin
      go_wp2_with fail
      go_region_held3 (fun W' => W'.cell? ⟨h, 0, none⟩ = some (.slice (some ⟨E, 0, none⟩) L c) ∧ W'.cell? ⟨w.heap.size, 0, none⟩ = some (.int .i64 (x.1 : Nat)) ∧ W'.cell? ⟨w.heap.size, 1, none⟩ = some (.int .i64 x.2) ∧ W'.cell? ⟨E, q * 2, none⟩ = some (.int .i64 ((b q).1 : Nat)) ∧ W'.cell? ⟨E, q * 2 + 1, none⟩ = some (.int .i64 (b q).2))
        (first | exact ⟨c0, x0, x1, e0, e1⟩ | go_keep)
        ((go_at_call 29; refine (HBF.out _).mono ?_; rintro e w3 ⟨rfl, hb⟩; have kX : boxE w3 w.heap.size x := (hb.block _ HKK.out.2.2.2.1.lt).trans HKK.out.2.2.2.1; have kB := HKK.out.1.keep (hb.block h HKK.out.1.lt); have kE := HKK.out.2.1.keep (hb.block E HKK.out.2.1.lt); have kP : Plc w3 P n pl := Plc.keep HKK.out.2.2.1 (hb.block P (Row.lt HKK.out.2.2.1)); have kO : Only w w3 E P := HKK.out.2.2.2.2.trans (below_only (w := w2.drew) hb); replace c0 := kB.cell0; replace x0 := kX.cell0; replace x1 := kX.cell1; replace e0 := kE.cell0 hLc q qL; replace e1 := kE.cell1 hLc q qL; have HK := Lib.hid (And.intro kB (And.intro kE (And.intro kP (And.intro kX kO)))); clear kB kE kP kX kO))
      obtain ⟨bb, hbb⟩ : ∃ bb, ltB x (b q) = bb := ⟨_, rfl⟩
      rw [hbb]
      obtain ⟨kB, kE, kP, kX, kO⟩ := HK.out
      have hbq : b q = a q := HALL.out.2.1.2.1 q qL (by omega)
      cases bb
      · have hn := (ltB_not _ _).1 hbb
        have HL := Lib.hid (sink_move (w := w) hS hp HFF.out.2.1 qL HFF.out.2.2.1 HFF.out.2.2.2 HALL.out.1 HX.out hn HALL.out.2.1 lE' lP' kB kE kP kX kO)
        unfold ent at HL
        clear hbb hn hbq kB kE kP kX kO HK
        go_wp2_with fail
        refine HL.out.mono ?_
        rintro e w' ⟨⟨v, rfl⟩, hR⟩
        have HRR := Lib.hid hR
        clear hR
        go_wp2_with fail
        go_roundw
        case rel => exact ⟨q, rfl, HRR.out⟩
        case measure => show L - ((q : Int)).toNat < L - ((p : Int)).toNat; omega
      · have hlt := (ltB_iff _ _).1 hbb
        rw [hbq] at hlt
        have HL := Lib.hid (sink_last (w := w) hS hp (sink_end HALL.out.1 (fc_stop HFF.out.1 (.inr ⟨q, rfl, by rw [HX.out]; exact hlt⟩))) HX.out HALL.out.2.1 kB kE kP kO)
        unfold ent at HL
        clear hbb hlt hbq kB kE kP kX kO HK
        go_wp2_with fail
        refine HL.out.mono ?_
        rintro e w' ⟨⟨v, rfl⟩, hR⟩
        have HRR := Lib.hid hR
        clear hR
        go_wp2_with fail
        exact bodyPost_end (results_none rfl _ _ _) rfl ⟨⟨_, rfl⟩, HRR.out⟩
theorem HeapPost.before {w w1 w' : World} {h E P c L n : Nat} {M : Nat → Option Int} (hO : Only w w1 E P) (hp : HeapPost w1 h E P c L n M w') : HeapPost w h E P c L n M w' := by
  obtain ⟨a, pl, k1, k2, k3, k4, k5, k6, k7⟩ := hp
  exact ⟨a, pl, k1, k2, k3, k4, k5, k6, hO.trans k7⟩
set_option maxRecDepth 100000 in
theorem settle_any {w : World} {h E P c L n p : Nat} {M : Nat → Option Int} {a : Nat → En} {pl : Nat → Int} (hS : Sep h E P c L) (hp : p < L) (hI : Inv a L p) (hH : Holds a L n M) (hPl : PlR a L L M pl)
    (hB : HeapB w h (some ⟨E, 0, none⟩) L c P n) (hE : Arr w E c L a) (hP : Plc w P n pl) :
    Calls Try.prog 23 #[.pointer (some ⟨h, 0, none⟩), .int .i64 (p : Nat)] w fun e w' => (∃ v, e = .returned v) ∧ HeapPost w h E P c L n M w' := by
  have HR := Lib.hid (rise_any hS hp hI hH hPl hB hE hP)
  clear hI hH hPl hB hE hP
  go_enter Try.func23, Try.ntmps23
  go_wp2_with fail
  refine HR.out.mono ?_
  rintro e w1 ⟨q, a1, pl1, rfl, hq, hI1, hH1, hP1, kB, kE, kP, kO⟩
  have HS2 := Lib.hid (sink_any hS hq hI1 hH1 hP1 kB kE kP)
  clear hI1 hH1 hP1 kB kE kP
  go_wp2_with fail
  refine HS2.out.mono ?_
  rintro e w2 ⟨⟨v, rfl⟩, hR⟩
  have HRR := Lib.hid (hR.before kO)
  clear hR kO
  go_wp2_with fail
  exact bodyPost_end (results_none rfl _ _ _) rfl ⟨⟨_, rfl⟩, HRR.out⟩
end Go.Proofs.Ytijoaiehnemgnaa
