/- Contracts: rise, sink, settle. -/
import Derived.Test.YtijoaiehnemgnaaHeapB
namespace Go.Proofs.Ytijoaiehnemgnaa
open Go.RowKit

/-- The heap in memory: entries a, places pl, the map M; entry p may be in hand (p = L: none is). -/
def HMem (w : World) (h E P c L n : Nat) (M : Nat → Option Int) (a : Nat → En) (pl : Nat → Int) : Prop :=
  HeapB w h (some ⟨E, 0, none⟩) L c P n ∧ Arr w E c L a ∧ Plc w P n pl
/-- Where the blocks lie, and how much there is. -/
def Sep (h E P c L : Nat) : Prop := h ≠ E ∧ h ≠ P ∧ E ≠ P ∧ L ≤ c ∧ L ≤ 100000
theorem below_only {w w' : World} {E P : Nat} (hb : Below w.heap.size w w') : Only w w' E P := ⟨hb.os, hb.tape, hb.output, hb.size, fun k hk _ _ => hb.block k hk⟩
def boxE (w : World) (g : Nat) (x : En) : Prop := w.heap[g]? = some (.cells #[.int .i64 (x.1 : Nat), .int .i64 x.2] 54 (0, 0))
section
variable {w : World} {g : Nat} {x : En}
theorem boxE.cell0 (h : boxE w g x) : w.cell? ⟨g, 0, none⟩ = some (.int .i64 (x.1 : Nat)) := by rw [cell_of_row w g 0 _ _ (0, 0) h]; rfl
theorem boxE.cell1 (h : boxE w g x) : w.cell? ⟨g, 1, none⟩ = some (.int .i64 x.2) := by rw [cell_of_row w g 1 _ _ (0, 0) h]; rfl
theorem boxE.lt (h : boxE w g x) : g < w.heap.size := by
  rcases Nat.lt_or_ge g w.heap.size with hlt | hge
  · exact hlt
  · unfold boxE at h; rw [Array.getElem?_eq_none hge] at h; cases h
end
/-- At the head of rise's loop. -/
def RiseI (w : World) (h E P c L n : Nat) (M : Nat → Option Int) (x : En) (p : Nat) (wr : World) : Prop :=
  ∃ (a b : Nat → En) (pl : Nat → Int), p < L ∧ Inv a L p ∧ a p = x ∧ Mid M n L p a b pl ∧ HeapB wr h (some ⟨E, 0, none⟩) L c P n ∧ Arr wr E c L b ∧ Plc wr P n pl ∧ boxE wr w.heap.size x ∧ Only w wr E P
def RisePost (w : World) (h E P c L n : Nat) (M : Nat → Option Int) (e : Ending) (w' : World) : Prop :=
  ∃ (p : Nat) (a : Nat → En) (pl : Nat → Int), e = .returned (.int .i64 (p : Nat)) ∧ p < L ∧ InvD a L p ∧ Holds a L n M ∧ PlR a L L M pl ∧ HeapB w' h (some ⟨E, 0, none⟩) L c P n ∧ Arr w' E c L a ∧ Plc w' P n pl ∧ Only w w' E P

/-- The last store of rise. -/
theorem rise_last {w wr : World} {h E P c L n p : Nat} {M : Nat → Option Int} {a b : Nat → En} {pl : Nat → Int} {x : En} (hS : Sep h E P c L) (hp : p < L) (hD : InvD a L p) (hx : a p = x) (hM : Mid M n L p a b pl) (hB : HeapB wr h (some ⟨E, 0, none⟩) L c P n) (hE : Arr wr E c L b) (hP : Plc wr P n pl) (hO : Only w wr E P) :
    Calls Try.prog 22 #[.pointer (some ⟨h, 0, none⟩), .int .i64 (p : Nat), ent x] wr fun e w' => (∃ v, e = .returned v) ∧ RisePost w h E P c L n M (.returned (.int .i64 (p : Nat))) w' := by
  obtain ⟨n1, n2, n3, hLc, hL1⟩ := hS
  subst hx
  refine (put_arr hB hE hP hp (hM.1.1 p hp).1 hLc n1 n2 n3).mono ?_
  rintro e w' ⟨he, k1, k2, k3, k4⟩
  obtain ⟨m1, m2⟩ := mid_end hp hM
  exact ⟨he, p, a, _, rfl, hp, hD, hM.1, m2, k1, k2.same m1, k3, hO.trans k4⟩
/-- One step of rise. -/
theorem rise_move {w wr : World} {h E P c L n p q : Nat} {M : Nat → Option Int} {a b : Nat → En} {pl : Nat → Int} {x : En} (hS : Sep h E P c L) (hp : p < L) (hp0 : 0 < p) (hq : q = par p) (hI : Inv a L p) (hx : a p = x) (hlt : Lt x (b q)) (hM : Mid M n L p a b pl) (hlw : w.heap.size ≠ E) (hlp : w.heap.size ≠ P) (hB : HeapB wr h (some ⟨E, 0, none⟩) L c P n) (hE : Arr wr E c L b) (hP : Plc wr P n pl) (hX : boxE wr w.heap.size x) (hO : Only w wr E P) :
    Calls Try.prog 22 #[.pointer (some ⟨h, 0, none⟩), .int .i64 (p : Nat), ent (b q)] wr fun e w' => (∃ v, e = .returned v) ∧ RiseI w h E P c L n M x q w' := by
  obtain ⟨n1, n2, n3, hLc, hL1⟩ := hS
  have hqp : q < p := by rw [hq]; exact par_lt hp0
  have hbq : b q = a q := hM.2.1 q (by omega) (by omega)
  refine (put_arr hB hE hP hp (by rw [hbq]; exact (hM.1.1 q (by omega)).1) hLc n1 n2 n3).mono ?_
  rintro e w' ⟨he, k1, k2, k3, k4⟩
  have hm := mid_move hp (q := q) (by omega) (by omega) hM
  rw [hbq] at hlt
  refine ⟨he, swp a p q, _, _, by omega, ?_, by rw [swp_r]; exact hx, hm, k1, k2, k3, (k4.2.2.2.2 _ hX.lt hlw hlp).trans hX, hO.trans k4⟩
  rw [hq]
  exact rise_step hp0 hp hI (by rw [hx, ← hq]; exact hlt)

set_option maxRecDepth 100000 in
set_option maxHeartbeats 4000000 in
theorem rise_any {w : World} {h E P c L n p : Nat} {M : Nat → Option Int} {a : Nat → En} {pl : Nat → Int} (hS : Sep h E P c L) (hp : p < L) (hI : Inv a L p) (hH : Holds a L n M) (hPl : PlR a L L M pl)
    (hB : HeapB w h (some ⟨E, 0, none⟩) L c P n) (hE : Arr w E c L a) (hP : Plc w P n pl) :
    Calls Try.prog 27 #[.pointer (some ⟨h, 0, none⟩), .int .i64 (p : Nat)] w (RisePost w h E P c L n M) := by
  have hLc : L ≤ c := hS.2.2.2.1
  have hL1 : L ≤ 100000 := hS.2.2.2.2
  have e0 := hE.cell0 hLc p hp
  have e1 := hE.cell1 hLc p hp
  have c0 := hB.cell0
  have lE := hE.lt
  have lB := hB.lt
  have lP := Row.lt hP
  obtain ⟨x, hx⟩ : ∃ x, a p = x := ⟨_, rfl⟩
  rw [hx] at e0 e1
  obtain ⟨w1, hw1⟩ : ∃ w1, w.alloc (.cells #[.int .i64 (x.1 : Nat), .int .i64 x.2] 54) = w1 := ⟨_, rfl⟩
  have hI0 : RiseI w h E P c L n M x p w1 := by
    rw [← hw1]
    exact ⟨a, a, pl, hp, hI, hx, mid_start hH (fun _ _ => rfl) hPl, hB.alloc _, hE.keep (Below.heap_alloc w _ E lE), hP.keep (Below.heap_alloc w _ P lP), heap_alloc_new w _, (Only.refl w E P).alloc _⟩
  have hz0 : (0 : Int) ≤ (p : Int) := by omega
  have hz1 : (p : Int) < (L : Int) := by omega
  have lE' : w.heap.size ≠ E := by omega
  have lP' : w.heap.size ≠ P := by omega
  clear hI hH hPl hB hE hP hx lE lB lP
  go_enter Try.func27, Try.ntmps27
  go_wp2_with fail
  clear hw1 e0 e1 c0 hz0 hz1
  go_loopw [1] (fun v wr => ∃ p : Nat, v = .int .i64 (p : Nat) ∧ RiseI w h E P c L n M x p wr) (fun v _ => (intOf v).toNat)
  case atStart => exact ⟨p, rfl, hI0⟩
  case round =>
    clear hI0
    obtain ⟨p, rfl, a, b, pl, hp, hI, hx, hM, hB, hE, hP, hX, hO⟩ := hrel
    have x0 := hX.cell0
    have x1 := hX.cell1
    by_cases hp0 : p = 0
    · subst hp0
      have HL := Lib.hid (rise_last (w := w) hS hp ⟨hI, fun h => absurd h (by omega)⟩ hx hM hB hE hP hO)
      unfold ent at HL
      clear hI hx hM hB hE hP hX hO
      go_wp2_with fail
      refine HL.out.mono ?_
      rintro e w' ⟨⟨v, rfl⟩, hR⟩
      have HRR := Lib.hid hR
      clear hR
      go_wp2_with fail
      go_ret
      exact HRR.out
    · obtain ⟨q, hq⟩ : ∃ q, q = par p := ⟨_, rfl⟩
      have hqp : q < p := by rw [hq]; exact par_lt (by omega)
      have hqL : q < L := by omega
      have hw1 : IntKind.i64.wrap ((p : Int) - 1) = ((p - 1 : Nat) : Int) := by rw [show (p : Int) - 1 = ((p - 1 : Nat) : Int) by omega]; exact IntWalk.i64_in _ (by omega)
      have hw2 : ((p - 1 : Nat) : Int).tdiv 2 = (q : Int) := by rw [Int.tdiv_eq_ediv_of_nonneg (by omega), hq]; unfold par; omega
      have hw3 : IntKind.i64.wrap (q : Int) = (q : Int) := IntWalk.i64_in _ (by omega)
      have hpp : (0 : Int) < (p : Int) := by omega
      have hz0 : (0 : Int) ≤ (q : Int) := by omega
      have hz1 : (q : Int) < (L : Int) := by omega
      have e0 := hE.cell0 hLc q hqL
      have e1 := hE.cell1 hLc q hqL
      have c0 := hB.cell0
      have HBF := Lib.hid (fun W : World => before_any x (b q) (w := W))
      unfold ent at HBF
      have HQ := Lib.hid hq
      have HX := Lib.hid hx
      have HALL := Lib.hid (And.intro hI (And.intro hM (And.intro hB (And.intro hE (And.intro hP (And.intro hX hO))))))
      have hltw : w.heap.size ≠ E ∧ w.heap.size ≠ P := ⟨lE', lP'⟩
      clear hq hx hI hM hB hE hP hX hO
      go_wp2_with fail
      go_region_held3 (fun W' => W'.cell? ⟨h, 0, none⟩ = some (.slice (some ⟨E, 0, none⟩) L c) ∧ W'.cell? ⟨w.heap.size, 0, none⟩ = some (.int .i64 (x.1 : Nat)) ∧ W'.cell? ⟨w.heap.size, 1, none⟩ = some (.int .i64 x.2) ∧ W'.cell? ⟨E, q * 2, none⟩ = some (.int .i64 ((b q).1 : Nat)) ∧ W'.cell? ⟨E, q * 2 + 1, none⟩ = some (.int .i64 (b q).2))
        (first | exact ⟨c0, x0, x1, e0, e1⟩ | go_keep)
        ((go_at_call 29; refine (HBF.out _).mono ?_; rintro e w2 ⟨rfl, hb⟩; have kX : boxE w2 w.heap.size x := (hb.block _ HALL.out.2.2.2.2.2.1.lt).trans HALL.out.2.2.2.2.2.1; have kB := HALL.out.2.2.1.keep (hb.block h HALL.out.2.2.1.lt); have kE := HALL.out.2.2.2.1.keep (hb.block E HALL.out.2.2.2.1.lt); have kP : Plc w2 P n pl := Plc.keep HALL.out.2.2.2.2.1 (hb.block P (Row.lt HALL.out.2.2.2.2.1)); have kO : Only w w2 E P := HALL.out.2.2.2.2.2.2.trans (below_only (w := wr.drew) hb); replace c0 := kB.cell0; replace x0 := kX.cell0; replace x1 := kX.cell1; replace e0 := kE.cell0 hLc q hqL; replace e1 := kE.cell1 hLc q hqL; have HK := Lib.hid (And.intro kB (And.intro kE (And.intro kP (And.intro kX kO)))); clear kB kE kP kX kO))
      obtain ⟨bb, hbb⟩ : ∃ bb, ltB x (b q) = bb := ⟨_, rfl⟩
      rw [hbb]
      obtain ⟨kB, kE, kP, kX, kO⟩ := HK.out
      cases bb
      · have hn := (ltB_not _ _).1 hbb
        have hbq : b q = a q := HALL.out.2.1.2.1 q hqL (by omega)
        have HL := Lib.hid (rise_last (w := w) hS hp ⟨HALL.out.1, fun _ => by rw [HX.out, ← HQ.out, ← hbq]; exact hn⟩ HX.out HALL.out.2.1 kB kE kP kO)
        unfold ent at HL
        clear hbb hn hbq kB kE kP kX kO HK
        go_wp2_with fail
        refine HL.out.mono ?_
        rintro e w' ⟨⟨v, rfl⟩, hR⟩
        have HRR := Lib.hid hR
        clear hR
        go_wp2_with fail
        go_ret
        exact HRR.out
      · have hlt := (ltB_iff _ _).1 hbb
        have HL := Lib.hid (rise_move (w := w) hS hp (by omega) HQ.out HALL.out.1 HX.out hlt HALL.out.2.1 hltw.1 hltw.2 kB kE kP kX kO)
        unfold ent at HL
        clear hbb hlt kB kE kP kX kO HK
        go_wp2_with fail
        refine HL.out.mono ?_
        rintro e w' ⟨⟨v, rfl⟩, hR⟩
        have HRR := Lib.hid hR
        clear hR
        go_wp2_with fail
        go_roundw
        case rel => exact ⟨q, rfl, HRR.out⟩
        case measure => show ((q : Int)).toNat < ((p : Int)).toNat; omega
end Go.Proofs.Ytijoaiehnemgnaa
