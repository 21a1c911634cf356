/- Boxes of fractions in a region by an invariant; the laws' helpers brief and of. -/
import Derived.Test.YthfjbpbgnoonpaaGreatDoorRT
import Derived.Test.YthfjbpbgnoonpaaGreatDoorRQ
import Derived.Test.YthfjbpbgnoonpaaGreatDoorRZ
namespace Go.Proofs.YthfjbpbgnoonpaaGreatDoor
open Go.RowKit

section
variable {w1 W W' : World} {vals : List (Nat × Nat × (World → Value → Prop))} {bxs : List BF} {L : Nat → Bool} {f : Nat → Value} {i d : Nat} {F : World → Value → Prop} {v : Value} {e : BF}
/-- A store into a box of three cells. -/
theorem Zr.store3 (hok : ZOk vals bxs) (h : Zr w1 vals bxs L f W) (n : Nat) (hn : bxs[n]? = some e) {g : Nat} {x y z u v s : Value} (hg : f e.slot = .pointer (some ⟨g, 0, none⟩)) (hL : L e.al = true) (hs : L e.st = false) (hz : e.zero = [x, y, z]) (hu : ∀ k z, u ≠ .int k z) (hv : ∀ k z, v ≠ .int k z) (hs' : ∀ k z, s ≠ .int k z)
    (hF : e.fact W [u, v, s]) : Zr w1 vals bxs (setL L e.st) f (((W.setCell ⟨g, 0, none⟩ u).setCell ⟨g, 1, none⟩ v).setCell ⟨g, 2, none⟩ s) := by
  have hm := List.mem_of_getElem? hn
  obtain ⟨g2, cs, e1, e2, e3, e4, e5, e6⟩ := h.box n hn hL
  rw [hg] at e1
  obtain rfl : g = g2 := by simpa using e1
  obtain rfl : cs = [x, y, z] := (e5 hs).trans hz
  have ht := (hok.sb e hm).2.1
  have b1 := e3.set_ 0 u
  have b2 := b1.set_ 1 v
  have b3 := b2.set_ 2 s
  have o1 : Okp W ⟨g, 0, none⟩ := ⟨e.ty, x, e3.row, ht, e3.cell rfl, e4 x (by simp)⟩
  have o2 : Okp (W.setCell ⟨g, 0, none⟩ u) ⟨g, 1, none⟩ := ⟨e.ty, y, b1.row, ht, b1.cell rfl, e4 y (by simp)⟩
  have o3 : Okp ((W.setCell ⟨g, 0, none⟩ u).setCell ⟨g, 1, none⟩ v) ⟨g, 2, none⟩ := ⟨e.ty, z, b2.row, ht, b2.cell rfl, e4 z (by simp)⟩
  have far : ∀ P : World → Prop, Stab P → P W → P (((W.setCell ⟨g, 0, none⟩ u).setCell ⟨g, 1, none⟩ v).setCell ⟨g, 2, none⟩ s) := fun P hP hPW => hP.far s o3 (hP.far v o2 (hP.far u o1 hPW))
  refine Zr.store hok h n hn hg hL (((h.1.setCell e2 u (p := ⟨g, 0, none⟩)).setCell e2 v (p := ⟨g, 1, none⟩)).setCell e2 s (p := ⟨g, 2, none⟩)) far
    (fun g' hg' => (Below.heap_setCell _ ⟨g, 2, none⟩ s g' hg').trans ((Below.heap_setCell _ ⟨g, 1, none⟩ v g' hg').trans (Below.heap_setCell W ⟨g, 0, none⟩ u g' hg'))) b3 ?_ (far _ ((hok.sb e hm).1 [u, v, s]) hF)
  intro c hc
  simp only [List.set_cons_zero, List.set_cons_succ, List.mem_cons, List.not_mem_nil, or_false] at hc
  rcases hc with rfl | rfl | rfl
  · exact hu
  · exact hv
  · exact hs'
end
def bxF (al st slot : Nat) (q : Rat) (a : Nat) : BF := ⟨al, st, slot, 34, [.bool false, .slice none 0 0, .slice none 0 0], fun W cs => RatF W (.agg cs.toArray) q a⟩
def bxP (al st slot : Nat) (q : Rat) (a : Nat) : BF := ⟨al, st, slot, 30, [.bool false, .slice none 0 0, .slice none 0 0], fun W cs => RatP W (.agg cs.toArray) q a⟩
theorem bxF_ok (al st slot : Nat) (q : Rat) (a : Nat) : (∀ x, Stab (fun W => (bxF al st slot q a).fact W x)) ∧ 90 ≠ (bxF al st slot q a).ty ∧ ∀ c, c ∈ (bxF al st slot q a).zero → ∀ k z, c ≠ .int k z :=
  ⟨fun x => stab_ratF _ _ _, (by decide : 90 ≠ 34), noint3⟩
theorem bxP_ok (al st slot : Nat) (q : Rat) (a : Nat) : (∀ x, Stab (fun W => (bxP al st slot q a).fact W x)) ∧ 90 ≠ (bxP al st slot q a).ty ∧ ∀ c, c ∈ (bxP al st slot q a).zero → ∀ k z, c ≠ .int k z :=
  ⟨fun x => stab_ratP _ _ _, (by decide : 90 ≠ 30), noint3⟩
theorem Zr.takeF {w w1 W : World} {vals : List (Nat × Nat × (World → Value → Prop))} {bxs : List BF} {L : Nat → Bool} {f : Nat → Value} {Ls : List (World → Prop)} {B : List (Nat × List Value × TypeId)} {ss : List Nat} {al st slot a : Nat} {q : Rat} (hok : ZOk vals bxs) (h : Zr w1 vals bxs L f W) (S : Sr w Ls B W) (hw : w.heap.size ≤ w1.heap.size) (hfr : Fr w1 bxs L f ss B) (n : Nat) (hn : bxs[n]? = some (bxF al st slot q a)) (ha : L al = true) (hs : L st = true) (hss : slot ∉ ss) :
    ∃ g b A m c A2 m2 c2, f slot = .pointer (some ⟨g, 0, none⟩) ∧ RatF W (.agg #[.bool b, .slice A m c, .slice A2 m2 c2]) q a ∧ Sr w Ls ((g, [.bool b, .slice A m c, .slice A2 m2 c2], 34) :: B) W ∧ Fr w1 bxs L f (slot :: ss) ((g, [.bool b, .slice A m c, .slice A2 m2 c2], 34) :: B) := by
  obtain ⟨g, cs, e1, e2, e3, e4⟩ := h.take hok S hw hfr n hn ha hs hss
  obtain ⟨A, m, c, A2, m2, c2, e5⟩ := RatF.shape e2
  have e6 : cs = [.bool (decide (q.num < 0)), .slice A m c, .slice A2 m2 c2] := by
    injection e5 with e5
    simpa using e5
  subst e6
  exact ⟨g, _, A, m, c, A2, m2, c2, e1, e2, e3, e4⟩
theorem Zr.takeP {w w1 W : World} {vals : List (Nat × Nat × (World → Value → Prop))} {bxs : List BF} {L : Nat → Bool} {f : Nat → Value} {Ls : List (World → Prop)} {B : List (Nat × List Value × TypeId)} {ss : List Nat} {al st slot a : Nat} {q : Rat} (hok : ZOk vals bxs) (h : Zr w1 vals bxs L f W) (S : Sr w Ls B W) (hw : w.heap.size ≤ w1.heap.size) (hfr : Fr w1 bxs L f ss B) (n : Nat) (hn : bxs[n]? = some (bxP al st slot q a)) (ha : L al = true) (hs : L st = true) (hss : slot ∉ ss) :
    ∃ g b A m c A2 m2 c2, f slot = .pointer (some ⟨g, 0, none⟩) ∧ RatP W (.agg #[.bool b, .slice A m c, .slice A2 m2 c2]) q a ∧ Sr w Ls ((g, [.bool b, .slice A m c, .slice A2 m2 c2], 30) :: B) W ∧ Fr w1 bxs L f (slot :: ss) ((g, [.bool b, .slice A m c, .slice A2 m2 c2], 30) :: B) := by
  obtain ⟨g, cs, e1, e2, e3, e4⟩ := h.take hok S hw hfr n hn ha hs hss
  obtain ⟨A, m, c, A2, m2, c2, e5⟩ := RatP.shape e2
  have e6 : cs = [.bool (decide (q.num < 0)), .slice A m c, .slice A2 m2 c2] := by
    injection e5 with e5
    simpa using e5
  subst e6
  exact ⟨g, _, A, m, c, A2, m2, c2, e1, e2, e3, e4⟩

/-- The fraction that an argument of the laws stands for. -/
def numQ (b : Bool) (ds es : List Nat) : Rat := mkRat (sg b (val 4294967296 ds)) (if val 4294967296 es = 0 then 1 else val 4294967296 es)
def OpOf (W : World) (q : Rat) (e : Ending) (w' : World) : Prop := ∃ b A n c A2 n2 c2 b' B m d B2 m2 d2, e = .returned (.tuple #[.agg #[.bool b, .slice A n c, .slice A2 n2 c2], .agg #[.bool b', .slice B m d, .slice B2 m2 d2], .bool true]) ∧
  RatP w' (.agg #[.bool b, .slice A n c, .slice A2 n2 c2]) q 8 ∧ RatF w' (.agg #[.bool b', .slice B m d, .slice B2 m2 d2]) q 8 ∧ Below W.heap.size W w'
theorem parse_q {w : World} {q : Rat} {a : Nat} (hV : Vars w) (h1 : q.num.natAbs < 4294967296 ^ a) (h2 : q.den < 4294967296 ^ a) (ha : a ≤ 90) : Calls Tryz.prog 22 #[.string ⟨(txtQ q).toArray⟩] w (OpT w q a) := by
  have l1 := dec_lenB h1
  have l2 := dec_lenB h2
  refine (parse_txt hV (by omega) (by omega)).mono ?_
  rintro e w' (⟨h, _⟩ | ⟨_, h, _⟩ | ⟨_, _, b5, A5, n5, c5, A6, n6, c6, rfl, hq, hb⟩)
  · exact absurd rfl h
  · exact absurd h (Nat.ne_of_gt q.den_pos)
  · rw [sg_num, Rat.mkRat_self] at hq
    exact ⟨b5, A5, n5, c5, A6, n6, c6, rfl, hq.tight h1 h2, hb⟩
theorem make_ref {w : World} {v : Value} {ds : List Nat} (hlen : ds.length ≤ 8) (hd : ∀ d ∈ ds, d < 4294967296) (hv : LA w v ds) : Calls Tryz.prog 51 #[v] w (OpF w (val 4294967296 ds) 8) :=
  (make_any (by omega) hd hv).mono fun _ _ h => opF h (Nat.lt_of_lt_of_le (val_lt ds hd) (Nat.pow_le_pow_right (by omega) hlen))
end Go.Proofs.YthfjbpbgnoonpaaGreatDoor
