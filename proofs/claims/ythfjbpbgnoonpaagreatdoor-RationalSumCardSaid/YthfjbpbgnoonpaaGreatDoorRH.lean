/- Contract of package rational: Add. -/
import Derived.Test.YthfjbpbgnoonpaaGreatDoorRG
import Derived.Test.YthfjbpbgnoonpaaGreatDoorRZ
import Derived.Test.YthfjbpbgnoonpaaGreatDoorRatN
namespace Go.Proofs.YthfjbpbgnoonpaaGreatDoor
open Go.RowKit

/-- The three numbers that reduce returns. -/
def Red (W : World) (x : Value) (k j g a b : Nat) : Prop := ∃ A n c A2 n2 c2 A3 n3 c3, x = .tuple #[.agg #[.slice A n c], .agg #[.slice A2 n2 c2], .agg #[.slice A3 n3 c3]] ∧
  NatB W (.agg #[.slice A n c]) k a ∧ NatB W (.agg #[.slice A2 n2 c2]) j b ∧ NatB W (.agg #[.slice A3 n3 c3]) g b
theorem stab_red (x : Value) (k j g a b : Nat) : Stab (fun W => Red W x k j g a b) :=
  stab_ex fun _ => stab_ex fun _ => stab_ex fun _ => stab_ex fun _ => stab_ex fun _ => stab_ex fun _ => stab_ex fun _ => stab_ex fun _ => stab_ex fun _ => stab_and stab_true (stab_and (stab_natB _ _ _) (stab_and (stab_natB _ _ _) (stab_natB _ _ _)))
def bxN (al st slot k a : Nat) : BF := ⟨al, st, slot, 28, [.slice none 0 0], fun W cs => NatB W (.agg cs.toArray) k a⟩
theorem bxN_ok (al st slot k a : Nat) : (∀ x, Stab (fun W => (bxN al st slot k a).fact W x)) ∧ 90 ≠ (bxN al st slot k a).ty ∧ ∀ c, c ∈ (bxN al st slot k a).zero → ∀ k z, c ≠ .int k z :=
  ⟨fun x => stab_natB _ _ _, (by decide : 90 ≠ 28), noint1⟩
theorem Zr.takeN {w w1 W : World} {vals : List (Nat × Nat × (World → Value → Prop))} {bxs : List BF} {L : Nat → Bool} {f : Nat → Value} {Ls : List (World → Prop)} {B : List (Nat × List Value × TypeId)} {ss : List Nat} {al st slot k a : Nat} (hok : ZOk vals bxs) (h : Zr w1 vals bxs L f W) (S : Sr w Ls B W) (hw : w.heap.size ≤ w1.heap.size) (hfr : Fr w1 bxs L f ss B) (n : Nat) (hn : bxs[n]? = some (bxN al st slot k a)) (ha : L al = true) (hs : L st = true) (hss : slot ∉ ss) :
    ∃ g A m c, f slot = .pointer (some ⟨g, 0, none⟩) ∧ NatB W (.agg #[.slice A m c]) k a ∧ Sr w Ls ((g, [.slice A m c], 28) :: B) W ∧ Fr w1 bxs L f (slot :: ss) ((g, [.slice A m c], 28) :: B) := by
  obtain ⟨g, cs, e1, e2, e3, e4⟩ := h.take hok S hw hfr n hn ha hs hss
  obtain ⟨A, m, c, e5⟩ := NatB.shape e2
  have e6 : cs = [.slice A m c] := by
    injection e5 with e5
    simpa using e5
  subst e6
  exact ⟨g, A, m, c, e1, e2, e3, e4⟩
theorem drew_low {w W : World} {L : List (World → Prop)} {B : List (Nat × List Value × TypeId)} (S : Sr w L B W) : w.heap.size ≤ W.drew.heap.size := S.low.size
def SgT (W : World) (x : Value) (z : Int) (a : Nat) : Prop := ∃ s A n c, x = .tuple #[.bool s, .agg #[.slice A n c]] ∧ sg s z.natAbs = z ∧ NatB W (.agg #[.slice A n c]) z.natAbs a
theorem stab_sgT (x : Value) (z : Int) (a : Nat) : Stab (fun W => SgT W x z a) :=
  stab_ex fun _ => stab_ex fun _ => stab_ex fun _ => stab_ex fun _ => stab_and stab_true (stab_and stab_true (stab_natB _ _ _))
def SgB (x : Value) (z : Int) : Prop := ∃ s, x = .bool s ∧ sg s z.natAbs = z
theorem RatP.tight {W : World} {v : Value} {q : Rat} {a b : Nat} (h : RatP W v q a) (h1 : q.num.natAbs < 4294967296 ^ b) (h2 : q.den < 4294967296 ^ b) : RatP W v q b := by
  obtain ⟨A, n, c, A2, n2, c2, d, rfl, e1, e2, e3, e4⟩ := h
  refine ⟨A, n, c, A2, n2, c2, d, rfl, ⟨e1.1, h1⟩, ⟨e2.1, ?_⟩, e3, h2⟩
  rcases e3 with e3 | e3
  · rw [e3]; exact h2
  · rw [e3.1]; exact Nat.pow_pos (by omega)
theorem RatP.sign {W : World} {q : Rat} {a : Nat} {b : Bool} {A A2 : Option Addr} {n c n2 c2 : Nat} (h : RatP W (.agg #[.bool b, .slice A n c, .slice A2 n2 c2]) q a) : b = decide (q.num < 0) := by
  obtain ⟨A, n, c, A2, n2, c2, d, e, h1, h2, h3, h4⟩ := h
  injection e with e
  simp only [List.toArray_inj, List.cons.injEq, Array.mk.injEq, and_true, Value.bool.injEq] at e
  exact e.1
theorem RatP.bounds {W : World} {v : Value} {q : Rat} {a : Nat} (h : RatP W v q a) : q.num.natAbs < 4294967296 ^ a ∧ q.den < 4294967296 ^ a := by
  obtain ⟨A, n, c, A2, n2, c2, d, rfl, e1, e2, e3, e4⟩ := h
  exact ⟨e1.2, e4⟩
set_option maxRecDepth 100000 in
set_option maxHeartbeats 16000000 in
theorem add_any {w : World} {u v : Value} {q r : Rat} {a b : Nat} (hu : RatP w u q a) (hv : RatP w v r b) (ha : a ≤ 90) (hb : b ≤ 90) : Calls Tryz.prog 31 #[u, v] w (OpQ w (q + r) (a + b + 1)) := by
  have hD1 := Lib.hid (fun W (hw : Below w.heap.size w W) => den_any (hu.below hw) (by omega : a ≤ 400))
  have hD2 := Lib.hid (fun W (hw : Below w.heap.size w W) => den_any (hv.below hw) (by omega : b ≤ 400))
  have HU := Lib.hid hu
  have HV := Lib.hid hv
  obtain ⟨A, n, c, A2, n2, c2, rfl⟩ := hu.shape
  obtain ⟨B, m, d, B2, m2, d2, rfl⟩ := hv.shape
  have g1 := Nat.gcd_pos_of_pos_right q.den r.den_pos
  obtain ⟨w1, hw1, S⟩ := enter3 w [.bool (decide (q.num < 0)), .slice A n c, .slice A2 n2 c2] 30 [.bool (decide (r.num < 0)), .slice B m d, .slice B2 m2 d2] 30 [.bool false, .slice none 0 0, .slice none 0 0] 30 (by decide) noint3 (by decide) noint3 (by decide) noint3
  have hR := Lib.hid (fun W A n c A2 n2 c2 (h1 : NatB W (.agg #[.slice A n c]) q.den a) (h2 : NatB W (.agg #[.slice A2 n2 c2]) r.den b) => reduce_any h1 h2 (by omega) (by omega) r.den_pos)
  clear hu hv g1
  generalize decide (q.num < 0) = x at hD1 HU S hw1 ⊢
  generalize decide (r.num < 0) = y at hD2 HV S hw1 ⊢
  go_enter Tryz.func31, Tryz.ntmps31
  go_wp2_with fail
  clear hw1
  have hok : ZOk [(0, 11, fun _ z => z = .agg #[.bool x, .slice A n c, .slice A2 n2 c2]), (1, 12, fun W z => NatB W z q.den a), (2, 13, fun _ z => z = .agg #[.bool y, .slice B m d, .slice B2 m2 d2]), (3, 14, fun W z => NatB W z r.den b), (4, 15, fun W z => Red W z (q.den / Nat.gcd q.den r.den) (r.den / Nat.gcd q.den r.den) (Nat.gcd q.den r.den) a b), (5, 10, fun W z => Red W z (q.den / Nat.gcd q.den r.den) (r.den / Nat.gcd q.den r.den) (Nat.gcd q.den r.den) a b), (6, 16, fun W z => NatB W z (q.den / Nat.gcd q.den r.den) a), (7, 17, fun W z => NatB W z (r.den / Nat.gcd q.den r.den) b), (8, 18, fun W z => NatB W z (Nat.gcd q.den r.den) b)] [bxN 9 12 5 (q.den / Nat.gcd q.den r.den) a, bxN 10 13 6 (r.den / Nat.gcd q.den r.den) b, bxN 11 14 7 (Nat.gcd q.den r.den) b] := ⟨by simp, by simp [bxN], by simp [bxN], by simp [bxN], List.forall_mem_cons.2 ⟨fun x => stab_true, List.forall_mem_cons.2 ⟨fun x => stab_natB _ _ _, List.forall_mem_cons.2 ⟨fun x => stab_true, List.forall_mem_cons.2 ⟨fun x => stab_natB _ _ _, List.forall_mem_cons.2 ⟨fun x => stab_red _ _ _ _ _ _, List.forall_mem_cons.2 ⟨fun x => stab_red _ _ _ _ _ _, List.forall_mem_cons.2 ⟨fun x => stab_natB _ _ _, List.forall_mem_cons.2 ⟨fun x => stab_natB _ _ _, List.forall_mem_cons.2 ⟨fun x => stab_natB _ _ _, List.forall_mem_nil _⟩⟩⟩⟩⟩⟩⟩⟩⟩, List.forall_mem_cons.2 ⟨bxN_ok _ _ _ _ _, List.forall_mem_cons.2 ⟨bxN_ok _ _ _ _ _, List.forall_mem_cons.2 ⟨bxN_ok _ _ _ _ _, List.forall_mem_nil _⟩⟩⟩⟩
  refine wp_region_Y hok [11, 12, 13, 14, 15, 10, 16, 17, 18, 5, 6, 7] (by kernel_rfl) (by kernel_rfl) ⟨?_, ?_, ?_, ?_, ?_, ?_, ?_, ?_, ?_, ?_, ?_, ?_, ?_, ?_, ?_, trivial⟩ ?_
  · intro L f W hZ hi hd K hK
    have hV := stepV (d := 11) (f := f) hK (by decide) (by decide)
    clear hK
    simp only [fillA, fillT, Act.put, List.foldl_cons, List.foldl_nil, List.setIfInBounds_toArray, List.set_cons_zero, List.set_cons_succ] at hV ⊢
    have S2 := Lib.hid (S.out.drew.below hZ.1)
    have c2x0 := (S2.out.at 2 rfl).cell (i := 0) rfl
    have c2x1 := (S2.out.at 2 rfl).cell (i := 1) rfl
    have c2x2 := (S2.out.at 2 rfl).cell (i := 2) rfl
    go_simp
    exact hV.out _ _ (hZ.val hok 0 rfl (Below.refl _ _) rfl)
  · intro L f W hZ hi hd K hK
    have hV := stepV (d := 12) (f := f) hK (by decide) (by decide)
    clear hK
    simp only [fillA, fillT, Act.put, List.foldl_cons, List.foldl_nil, List.setIfInBounds_toArray, List.set_cons_zero, List.set_cons_succ] at hV ⊢
    have v0 := hZ.get 0 rfl (hd ⟨0, .data⟩ (by simp) rfl)
    replace v0 : f 11 = _ := v0
    rw [v0] at hV ⊢
    clear v0
    go_simp
    refine (hD1.out _ (S.out.drew.below hZ.1).low).mono ?_
    rintro e w' ⟨A9, n9, c9, rfl, hx, hb⟩
    exact hV.out _ _ (hZ.val hok 1 rfl hb hx)
  · intro L f W hZ hi hd K hK
    have hV := stepV (d := 13) (f := f) hK (by decide) (by decide)
    clear hK
    simp only [fillA, fillT, Act.put, List.foldl_cons, List.foldl_nil, List.setIfInBounds_toArray, List.set_cons_zero, List.set_cons_succ] at hV ⊢
    have S2 := Lib.hid (S.out.drew.below hZ.1)
    have c1x0 := (S2.out.at 1 rfl).cell (i := 0) rfl
    have c1x1 := (S2.out.at 1 rfl).cell (i := 1) rfl
    have c1x2 := (S2.out.at 1 rfl).cell (i := 2) rfl
    go_simp
    exact hV.out _ _ (hZ.val hok 2 rfl (Below.refl _ _) rfl)
  · intro L f W hZ hi hd K hK
    have hV := stepV (d := 14) (f := f) hK (by decide) (by decide)
    clear hK
    simp only [fillA, fillT, Act.put, List.foldl_cons, List.foldl_nil, List.setIfInBounds_toArray, List.set_cons_zero, List.set_cons_succ] at hV ⊢
    have v2 := hZ.get 2 rfl (hd ⟨2, .data⟩ (by simp) rfl)
    replace v2 : f 13 = _ := v2
    rw [v2] at hV ⊢
    clear v2
    go_simp
    refine (hD2.out _ (S.out.drew.below hZ.1).low).mono ?_
    rintro e w' ⟨A9, n9, c9, rfl, hx, hb⟩
    exact hV.out _ _ (hZ.val hok 3 rfl hb hx)
  · intro L f W hZ hi hd K hK
    have hV := stepV (d := 15) (f := f) hK (by decide) (by decide)
    clear hK
    simp only [fillA, fillT, Act.put, List.foldl_cons, List.foldl_nil, List.setIfInBounds_toArray, List.set_cons_zero, List.set_cons_succ] at hV ⊢
    have v1 := hZ.get 1 rfl (hd ⟨1, .data⟩ (by simp) rfl)
    obtain ⟨A7, n7, c7, e7⟩ := NatB.shape v1
    replace e7 : f 12 = _ := e7
    replace v1 : NatB W (f 12) _ _ := v1
    rw [e7] at v1 hV ⊢
    clear e7
    have v3 := hZ.get 3 rfl (hd ⟨3, .data⟩ (by simp) rfl)
    obtain ⟨A8, n8, c8, e8⟩ := NatB.shape v3
    replace e8 : f 14 = _ := e8
    replace v3 : NatB W (f 14) _ _ := v3
    rw [e8] at v3 hV ⊢
    clear e8
    go_simp
    refine (hR.out _ _ _ _ _ _ _ v1 v3).mono ?_
    rintro e w' ⟨A9, n9, c9, A10, n10, c10, A11, n11, c11, rfl, hx1, hx2, hx3, hb⟩
    exact hV.out _ _ (hZ.val hok 4 rfl hb ⟨A9, n9, c9, A10, n10, c10, A11, n11, c11, rfl, hx1, hx2, hx3⟩)
  · intro L f W hZ hi hd K hK
    have hV := stepV (d := 10) (f := f) hK (by decide) (by decide)
    clear hK
    simp only [fillA, fillT, Act.put, List.foldl_cons, List.foldl_nil, List.setIfInBounds_toArray, List.set_cons_zero, List.set_cons_succ] at hV ⊢
    have v := hZ.get 4 rfl (hd ⟨4, .data⟩ (by simp) rfl)
    go_simp
    exact hV.out _ _ (hZ.val hok 5 rfl (Below.refl _ _) v)
  · intro L f W hZ hi hd K hK
    have hV := stepV (d := 16) (f := f) hK (by decide) (by decide)
    clear hK
    simp only [fillA, fillT, Act.put, List.foldl_cons, List.foldl_nil, List.setIfInBounds_toArray, List.set_cons_zero, List.set_cons_succ] at hV ⊢
    obtain ⟨A9, n9, c9, A10, n10, c10, A11, n11, c11, e9, h0, h1, h2⟩ := hZ.get 5 rfl (hd ⟨5, .data⟩ (by simp) rfl)
    replace e9 : f 10 = _ := e9
    rw [e9] at hV ⊢
    clear e9
    go_simp
    exact hV.out _ _ (hZ.val hok 6 rfl (Below.refl _ _) h0)
  · intro L f W hZ hi hd K hK
    have hV := stepV (d := 17) (f := f) hK (by decide) (by decide)
    clear hK
    simp only [fillA, fillT, Act.put, List.foldl_cons, List.foldl_nil, List.setIfInBounds_toArray, List.set_cons_zero, List.set_cons_succ] at hV ⊢
    obtain ⟨A9, n9, c9, A10, n10, c10, A11, n11, c11, e9, h0, h1, h2⟩ := hZ.get 5 rfl (hd ⟨5, .data⟩ (by simp) rfl)
    replace e9 : f 10 = _ := e9
    rw [e9] at hV ⊢
    clear e9
    go_simp
    exact hV.out _ _ (hZ.val hok 7 rfl (Below.refl _ _) h1)
  · intro L f W hZ hi hd K hK
    have hV := stepV (d := 18) (f := f) hK (by decide) (by decide)
    clear hK
    simp only [fillA, fillT, Act.put, List.foldl_cons, List.foldl_nil, List.setIfInBounds_toArray, List.set_cons_zero, List.set_cons_succ] at hV ⊢
    obtain ⟨A9, n9, c9, A10, n10, c10, A11, n11, c11, e9, h0, h1, h2⟩ := hZ.get 5 rfl (hd ⟨5, .data⟩ (by simp) rfl)
    replace e9 : f 10 = _ := e9
    rw [e9] at hV ⊢
    clear e9
    go_simp
    exact hV.out _ _ (hZ.val hok 8 rfl (Below.refl _ _) h2)
  · intro L f W hZ hi hd K hK
    have hV := stepV (d := 5) (f := f) hK (by decide) (by decide)
    clear hK
    simp only [fillA, fillT, Act.put, List.foldl_cons, List.foldl_nil, List.setIfInBounds_toArray, List.set_cons_zero, List.set_cons_succ] at hV ⊢
    go_simp
    exact hV.out _ _ (hZ.alloc hok 0 rfl hi)
  · intro L f W hZ hi hd K hK
    have hV := stepV (d := 6) (f := f) hK (by decide) (by decide)
    clear hK
    simp only [fillA, fillT, Act.put, List.foldl_cons, List.foldl_nil, List.setIfInBounds_toArray, List.set_cons_zero, List.set_cons_succ] at hV ⊢
    go_simp
    exact hV.out _ _ (hZ.alloc hok 1 rfl hi)
  · intro L f W hZ hi hd K hK
    have hV := stepV (d := 7) (f := f) hK (by decide) (by decide)
    clear hK
    simp only [fillA, fillT, Act.put, List.foldl_cons, List.foldl_nil, List.setIfInBounds_toArray, List.set_cons_zero, List.set_cons_succ] at hV ⊢
    go_simp
    exact hV.out _ _ (hZ.alloc hok 2 rfl hi)
  · intro L f W hZ hi hd K hK
    have hV := stepS (f := f) hK
    clear hK
    simp only [fillA, fillT, Act.put, List.foldl_cons, List.foldl_nil, List.setIfInBounds_toArray, List.set_cons_zero, List.set_cons_succ] at hV ⊢
    have v := hZ.get 6 rfl (hd ⟨6, .data⟩ (by simp) rfl)
    have hL := hd ⟨9, .data⟩ (by simp) rfl
    obtain ⟨g, cs, e1, -, hbk, -, hz0, -⟩ := hZ.box 0 rfl hL
    obtain rfl := hz0 hi
    replace e1 : f 5 = _ := e1
    obtain ⟨A0, n0, c0, e2⟩ := NatB.shape v
    replace e2 : f 16 = _ := e2
    replace v : NatB W (f 16) _ _ := v
    rw [e2] at v
    rw [e1, e2] at hV ⊢
    have E1 := Lib.hid e1
    clear e1 e2
    have q1 := hbk.cell (i := 0) rfl
    have q2 := hbk.frozen (i := 0)
    go_simp
    exact hV.out _ (hZ.store1 hok 0 rfl E1.out hL hi rfl noint_slice v)
  · intro L f W hZ hi hd K hK
    have hV := stepS (f := f) hK
    clear hK
    simp only [fillA, fillT, Act.put, List.foldl_cons, List.foldl_nil, List.setIfInBounds_toArray, List.set_cons_zero, List.set_cons_succ] at hV ⊢
    have v := hZ.get 7 rfl (hd ⟨7, .data⟩ (by simp) rfl)
    have hL := hd ⟨10, .data⟩ (by simp) rfl
    obtain ⟨g, cs, e1, -, hbk, -, hz0, -⟩ := hZ.box 1 rfl hL
    obtain rfl := hz0 hi
    replace e1 : f 6 = _ := e1
    obtain ⟨A0, n0, c0, e2⟩ := NatB.shape v
    replace e2 : f 17 = _ := e2
    replace v : NatB W (f 17) _ _ := v
    rw [e2] at v
    rw [e1, e2] at hV ⊢
    have E1 := Lib.hid e1
    clear e1 e2
    have q1 := hbk.cell (i := 0) rfl
    have q2 := hbk.frozen (i := 0)
    go_simp
    exact hV.out _ (hZ.store1 hok 1 rfl E1.out hL hi rfl noint_slice v)
  · intro L f W hZ hi hd K hK
    have hV := stepS (f := f) hK
    clear hK
    simp only [fillA, fillT, Act.put, List.foldl_cons, List.foldl_nil, List.setIfInBounds_toArray, List.set_cons_zero, List.set_cons_succ] at hV ⊢
    have v := hZ.get 8 rfl (hd ⟨8, .data⟩ (by simp) rfl)
    have hL := hd ⟨11, .data⟩ (by simp) rfl
    obtain ⟨g, cs, e1, -, hbk, -, hz0, -⟩ := hZ.box 2 rfl hL
    obtain rfl := hz0 hi
    replace e1 : f 7 = _ := e1
    obtain ⟨A0, n0, c0, e2⟩ := NatB.shape v
    replace e2 : f 18 = _ := e2
    replace v : NatB W (f 18) _ _ := v
    rw [e2] at v
    rw [e1, e2] at hV ⊢
    have E1 := Lib.hid e1
    clear e1 e2
    have q1 := hbk.cell (i := 0) rfl
    have q2 := hbk.frozen (i := 0)
    go_simp
    exact hV.out _ (hZ.store1 hok 2 rfl E1.out hL hi rfl noint_slice v)
  intro L f W hZ hL
  obtain ⟨g5, A5, n5, c5, e5, p5, S5, F5⟩ := hZ.takeN hok (S.out.drew.below hZ.1) (drew_low S.out) (Fr.begin S.out) 0 rfl (hL 9 (by decide)) (hL 12 (by decide)) (by simp)
  obtain ⟨g6, A6, n6, c6, e6, p6, S6, F6⟩ := hZ.takeN hok S5 (drew_low S.out) F5 1 rfl (hL 10 (by decide)) (hL 13 (by decide)) (by simp)
  obtain ⟨g7, A7, n7, c7, e7, p7, S7, F7⟩ := hZ.takeN hok S6 (drew_low S.out) F6 2 rfl (hL 11 (by decide)) (hL 14 (by decide)) (by simp)
  simp only [fillA, fillT, List.foldl_cons, List.foldl_nil, List.setIfInBounds_toArray, List.set_cons_zero, List.set_cons_succ]
  rw [e5, e6, e7]
  replace S := Lib.hid (((S7.push (stab_natB _ _ _) p5).push (stab_natB _ _ _) p6).push (stab_natB _ _ _) p7)
  clear e5 e6 e7 p5 p6 p7 S5 S6 S7 F5 F6 F7 hZ hL hok hD1 hD2
  clear hR
  go_wp2_with fail
  obtain ⟨zz, hz⟩ : ∃ zz, zz = sg x (q.num.natAbs * (r.den / Nat.gcd q.den r.den)) + sg y (r.num.natAbs * (q.den / Nat.gcd q.den r.den)) := ⟨_, rfl⟩
  have hA := Lib.hid (fun W A n c A2 n2 c2 (h1 : NatB W (.agg #[.slice A n c]) (q.num.natAbs * (r.den / Nat.gcd q.den r.den)) (a + b)) (h2 : NatB W (.agg #[.slice A2 n2 c2]) (r.num.natAbs * (q.den / Nat.gcd q.den r.den)) (a + b)) => addSigned_any (s := x) (t := y) h1 h2 (by omega))
  rw [← hz] at hA
  have HZ := Lib.hid hz
  clear hz
  have hok : ZOk [(0, 20, fun _ z => z = .pointer (some ⟨w.heap.size, 0, none⟩)), (1, 21, fun _ z => z = .bool x), (2, 22, fun _ z => z = .pointer (some ⟨w.heap.size, 1, none⟩)), (3, 23, fun _ z => z = .agg #[.slice A n c]), (4, 24, fun _ z => z = .agg #[.slice A6 n6 c6]), (5, 25, fun W z => NatB W z (q.num.natAbs * (r.den / Nat.gcd q.den r.den)) (a + b)), (6, 26, fun _ z => z = .pointer (some ⟨w.heap.size + 1, 0, none⟩)), (7, 27, fun _ z => z = .bool y), (8, 28, fun _ z => z = .pointer (some ⟨w.heap.size + 1, 1, none⟩)), (9, 29, fun _ z => z = .agg #[.slice B m d]), (10, 30, fun _ z => z = .agg #[.slice A5 n5 c5]), (11, 31, fun W z => NatB W z (r.num.natAbs * (q.den / Nat.gcd q.den r.den)) (a + b)), (12, 32, fun W x => SgT W x zz (a + b + (a + b) + 1)), (13, 19, fun W x => SgT W x zz (a + b + (a + b) + 1)), (14, 33, fun _ x => SgB x zz), (15, 34, fun W z => NatB W z zz.natAbs (a + b + (a + b) + 1)), (17, 8, fun _ x => SgB x zz)] [bxN 16 18 9 zz.natAbs (a + b + (a + b) + 1)] := ⟨by simp, by simp [bxN], by simp [bxN], by simp [bxN], List.forall_mem_cons.2 ⟨fun x => stab_true, List.forall_mem_cons.2 ⟨fun x => stab_true, List.forall_mem_cons.2 ⟨fun x => stab_true, List.forall_mem_cons.2 ⟨fun x => stab_true, List.forall_mem_cons.2 ⟨fun x => stab_true, List.forall_mem_cons.2 ⟨fun x => stab_natB _ _ _, List.forall_mem_cons.2 ⟨fun x => stab_true, List.forall_mem_cons.2 ⟨fun x => stab_true, List.forall_mem_cons.2 ⟨fun x => stab_true, List.forall_mem_cons.2 ⟨fun x => stab_true, List.forall_mem_cons.2 ⟨fun x => stab_true, List.forall_mem_cons.2 ⟨fun x => stab_natB _ _ _, List.forall_mem_cons.2 ⟨fun x => stab_sgT _ _ _, List.forall_mem_cons.2 ⟨fun x => stab_sgT _ _ _, List.forall_mem_cons.2 ⟨fun x => stab_true, List.forall_mem_cons.2 ⟨fun x => stab_natB _ _ _, List.forall_mem_cons.2 ⟨fun x => stab_true, List.forall_mem_nil _⟩⟩⟩⟩⟩⟩⟩⟩⟩⟩⟩⟩⟩⟩⟩⟩⟩, List.forall_mem_cons.2 ⟨bxN_ok _ _ _ _ _, List.forall_mem_nil _⟩⟩
  refine wp_region_Y hok [20, 21, 22, 23, 24, 25, 26, 27, 28, 29, 30, 31, 32, 19, 33, 34, 8, 9] (by kernel_rfl) (by kernel_rfl) ⟨?_, ?_, ?_, ?_, ?_, ?_, ?_, ?_, ?_, ?_, ?_, ?_, ?_, ?_, ?_, ?_, ?_, ?_, ?_, trivial⟩ ?_
  · intro L f W hZ hi hd K hK
    have hV := stepV (d := 20) (f := f) hK (by decide) (by decide)
    clear hK
    simp only [fillA, fillT, Act.put, List.foldl_cons, List.foldl_nil, List.setIfInBounds_toArray, List.set_cons_zero, List.set_cons_succ] at hV ⊢
    go_simp
    exact hV.out _ _ (hZ.val hok 0 rfl (Below.refl _ _) rfl)
  · intro L f W hZ hi hd K hK
    have hV := stepV (d := 21) (f := f) hK (by decide) (by decide)
    clear hK
    simp only [fillA, fillT, Act.put, List.foldl_cons, List.foldl_nil, List.setIfInBounds_toArray, List.set_cons_zero, List.set_cons_succ] at hV ⊢
    have S2 := Lib.hid (S.out.drew.below hZ.1)
    have c5x0 := (S2.out.at 5 rfl).cell (i := 0) rfl
    have v0 := hZ.get 0 rfl (hd ⟨0, .data⟩ (by simp) rfl)
    replace v0 : f 20 = _ := v0
    rw [v0] at hV ⊢
    clear v0
    go_simp
    exact hV.out _ _ (hZ.val hok 1 rfl (Below.refl _ _) rfl)
  · intro L f W hZ hi hd K hK
    have hV := stepV (d := 22) (f := f) hK (by decide) (by decide)
    clear hK
    simp only [fillA, fillT, Act.put, List.foldl_cons, List.foldl_nil, List.setIfInBounds_toArray, List.set_cons_zero, List.set_cons_succ] at hV ⊢
    go_simp
    exact hV.out _ _ (hZ.val hok 2 rfl (Below.refl _ _) rfl)
  · intro L f W hZ hi hd K hK
    have hV := stepV (d := 23) (f := f) hK (by decide) (by decide)
    clear hK
    simp only [fillA, fillT, Act.put, List.foldl_cons, List.foldl_nil, List.setIfInBounds_toArray, List.set_cons_zero, List.set_cons_succ] at hV ⊢
    have S2 := Lib.hid (S.out.drew.below hZ.1)
    have c5x1 := (S2.out.at 5 rfl).cell (i := 1) rfl
    have v2 := hZ.get 2 rfl (hd ⟨2, .data⟩ (by simp) rfl)
    replace v2 : f 22 = _ := v2
    rw [v2] at hV ⊢
    clear v2
    go_simp
    exact hV.out _ _ (hZ.val hok 3 rfl (Below.refl _ _) rfl)
  · intro L f W hZ hi hd K hK
    have hV := stepV (d := 24) (f := f) hK (by decide) (by decide)
    clear hK
    simp only [fillA, fillT, Act.put, List.foldl_cons, List.foldl_nil, List.setIfInBounds_toArray, List.set_cons_zero, List.set_cons_succ] at hV ⊢
    have S2 := Lib.hid (S.out.drew.below hZ.1)
    have c1x0 := (S2.out.at 1 rfl).cell (i := 0) rfl
    go_simp
    exact hV.out _ _ (hZ.val hok 4 rfl (Below.refl _ _) rfl)
  · intro L f W hZ hi hd K hK
    have hV := stepV (d := 25) (f := f) hK (by decide) (by decide)
    clear hK
    simp only [fillA, fillT, Act.put, List.foldl_cons, List.foldl_nil, List.setIfInBounds_toArray, List.set_cons_zero, List.set_cons_succ] at hV ⊢
    have S2 := Lib.hid (S.out.drew.below hZ.1)
    have v3 := hZ.get 3 rfl (hd ⟨3, .data⟩ (by simp) rfl)
    replace v3 : f 23 = _ := v3
    rw [v3] at hV ⊢
    clear v3
    have v4 := hZ.get 4 rfl (hd ⟨4, .data⟩ (by simp) rfl)
    replace v4 : f 24 = _ := v4
    rw [v4] at hV ⊢
    clear v4
    go_simp
    refine (mulN (HU.out.num.below S2.out.low) (S2.out.fact 1 rfl) (by omega) (by omega)).mono ?_
    rintro e w' ⟨A9, n9, c9, rfl, hx, hb⟩
    exact hV.out _ _ (hZ.val hok 5 rfl hb hx)
  · intro L f W hZ hi hd K hK
    have hV := stepV (d := 26) (f := f) hK (by decide) (by decide)
    clear hK
    simp only [fillA, fillT, Act.put, List.foldl_cons, List.foldl_nil, List.setIfInBounds_toArray, List.set_cons_zero, List.set_cons_succ] at hV ⊢
    go_simp
    exact hV.out _ _ (hZ.val hok 6 rfl (Below.refl _ _) rfl)
  · intro L f W hZ hi hd K hK
    have hV := stepV (d := 27) (f := f) hK (by decide) (by decide)
    clear hK
    simp only [fillA, fillT, Act.put, List.foldl_cons, List.foldl_nil, List.setIfInBounds_toArray, List.set_cons_zero, List.set_cons_succ] at hV ⊢
    have S2 := Lib.hid (S.out.drew.below hZ.1)
    have c4x0 := (S2.out.at 4 rfl).cell (i := 0) rfl
    have v6 := hZ.get 6 rfl (hd ⟨6, .data⟩ (by simp) rfl)
    replace v6 : f 26 = _ := v6
    rw [v6] at hV ⊢
    clear v6
    go_simp
    exact hV.out _ _ (hZ.val hok 7 rfl (Below.refl _ _) rfl)
  · intro L f W hZ hi hd K hK
    have hV := stepV (d := 28) (f := f) hK (by decide) (by decide)
    clear hK
    simp only [fillA, fillT, Act.put, List.foldl_cons, List.foldl_nil, List.setIfInBounds_toArray, List.set_cons_zero, List.set_cons_succ] at hV ⊢
    go_simp
    exact hV.out _ _ (hZ.val hok 8 rfl (Below.refl _ _) rfl)
  · intro L f W hZ hi hd K hK
    have hV := stepV (d := 29) (f := f) hK (by decide) (by decide)
    clear hK
    simp only [fillA, fillT, Act.put, List.foldl_cons, List.foldl_nil, List.setIfInBounds_toArray, List.set_cons_zero, List.set_cons_succ] at hV ⊢
    have S2 := Lib.hid (S.out.drew.below hZ.1)
    have c4x1 := (S2.out.at 4 rfl).cell (i := 1) rfl
    have v8 := hZ.get 8 rfl (hd ⟨8, .data⟩ (by simp) rfl)
    replace v8 : f 28 = _ := v8
    rw [v8] at hV ⊢
    clear v8
    go_simp
    exact hV.out _ _ (hZ.val hok 9 rfl (Below.refl _ _) rfl)
  · intro L f W hZ hi hd K hK
    have hV := stepV (d := 30) (f := f) hK (by decide) (by decide)
    clear hK
    simp only [fillA, fillT, Act.put, List.foldl_cons, List.foldl_nil, List.setIfInBounds_toArray, List.set_cons_zero, List.set_cons_succ] at hV ⊢
    have S2 := Lib.hid (S.out.drew.below hZ.1)
    have c2x0 := (S2.out.at 2 rfl).cell (i := 0) rfl
    go_simp
    exact hV.out _ _ (hZ.val hok 10 rfl (Below.refl _ _) rfl)
  · intro L f W hZ hi hd K hK
    have hV := stepV (d := 31) (f := f) hK (by decide) (by decide)
    clear hK
    simp only [fillA, fillT, Act.put, List.foldl_cons, List.foldl_nil, List.setIfInBounds_toArray, List.set_cons_zero, List.set_cons_succ] at hV ⊢
    have S2 := Lib.hid (S.out.drew.below hZ.1)
    have v9 := hZ.get 9 rfl (hd ⟨9, .data⟩ (by simp) rfl)
    replace v9 : f 29 = _ := v9
    rw [v9] at hV ⊢
    clear v9
    have v10 := hZ.get 10 rfl (hd ⟨10, .data⟩ (by simp) rfl)
    replace v10 : f 30 = _ := v10
    rw [v10] at hV ⊢
    clear v10
    go_simp
    refine (mulN (HV.out.num.below S2.out.low) (S2.out.fact 2 rfl) (by omega) (by omega)).mono ?_
    rintro e w' ⟨A9, n9, c9, rfl, hx, hb⟩
    rw [Nat.add_comm b a] at hx
    exact hV.out _ _ (hZ.val hok 11 rfl hb hx)
  · intro L f W hZ hi hd K hK
    have hV := stepV (d := 32) (f := f) hK (by decide) (by decide)
    clear hK
    simp only [fillA, fillT, Act.put, List.foldl_cons, List.foldl_nil, List.setIfInBounds_toArray, List.set_cons_zero, List.set_cons_succ] at hV ⊢
    have v1 := hZ.get 1 rfl (hd ⟨1, .data⟩ (by simp) rfl)
    replace v1 : f 21 = _ := v1
    rw [v1] at hV ⊢
    clear v1
    have v7 := hZ.get 7 rfl (hd ⟨7, .data⟩ (by simp) rfl)
    replace v7 : f 27 = _ := v7
    rw [v7] at hV ⊢
    clear v7
    have v5 := hZ.get 5 rfl (hd ⟨5, .data⟩ (by simp) rfl)
    obtain ⟨A11, n11, c11, e11⟩ := NatB.shape v5
    replace e11 : f 25 = _ := e11
    replace v5 : NatB W (f 25) _ _ := v5
    rw [e11] at v5 hV ⊢
    clear e11
    have v11 := hZ.get 11 rfl (hd ⟨11, .data⟩ (by simp) rfl)
    obtain ⟨A12, n12, c12, e12⟩ := NatB.shape v11
    replace e12 : f 31 = _ := e12
    replace v11 : NatB W (f 31) _ _ := v11
    rw [e12] at v11 hV ⊢
    clear e12
    go_simp
    refine (hA.out _ _ _ _ _ _ _ v5 v11).mono ?_
    rintro e w' ⟨s9, A9, n9, c9, rfl, hs, hx, hb⟩
    exact hV.out _ _ (hZ.val hok 12 rfl hb ⟨s9, A9, n9, c9, rfl, hs, hx⟩)
  · intro L f W hZ hi hd K hK
    have hV := stepV (d := 19) (f := f) hK (by decide) (by decide)
    clear hK
    simp only [fillA, fillT, Act.put, List.foldl_cons, List.foldl_nil, List.setIfInBounds_toArray, List.set_cons_zero, List.set_cons_succ] at hV ⊢
    have v := hZ.get 12 rfl (hd ⟨12, .data⟩ (by simp) rfl)
    go_simp
    exact hV.out _ _ (hZ.val hok 13 rfl (Below.refl _ _) v)
  · intro L f W hZ hi hd K hK
    have hV := stepV (d := 33) (f := f) hK (by decide) (by decide)
    clear hK
    simp only [fillA, fillT, Act.put, List.foldl_cons, List.foldl_nil, List.setIfInBounds_toArray, List.set_cons_zero, List.set_cons_succ] at hV ⊢
    obtain ⟨s9, A9, n9, c9, e9, h0, h1⟩ := hZ.get 13 rfl (hd ⟨13, .data⟩ (by simp) rfl)
    replace e9 : f 19 = _ := e9
    rw [e9] at hV ⊢
    clear e9
    go_simp
    exact hV.out _ _ (hZ.val hok 14 rfl (Below.refl _ _) ⟨s9, rfl, h0⟩)
  · intro L f W hZ hi hd K hK
    have hV := stepV (d := 34) (f := f) hK (by decide) (by decide)
    clear hK
    simp only [fillA, fillT, Act.put, List.foldl_cons, List.foldl_nil, List.setIfInBounds_toArray, List.set_cons_zero, List.set_cons_succ] at hV ⊢
    obtain ⟨s9, A9, n9, c9, e9, h0, h1⟩ := hZ.get 13 rfl (hd ⟨13, .data⟩ (by simp) rfl)
    replace e9 : f 19 = _ := e9
    rw [e9] at hV ⊢
    clear e9
    go_simp
    exact hV.out _ _ (hZ.val hok 15 rfl (Below.refl _ _) h1)
  · intro L f W hZ hi hd K hK
    have hV := stepV (d := 9) (f := f) hK (by decide) (by decide)
    clear hK
    simp only [fillA, fillT, Act.put, List.foldl_cons, List.foldl_nil, List.setIfInBounds_toArray, List.set_cons_zero, List.set_cons_succ] at hV ⊢
    go_simp
    exact hV.out _ _ (hZ.alloc hok 0 rfl hi)
  · intro L f W hZ hi hd K hK
    have hV := stepV (d := 8) (f := f) hK (by decide) (by decide)
    clear hK
    simp only [fillA, fillT, Act.put, List.foldl_cons, List.foldl_nil, List.setIfInBounds_toArray, List.set_cons_zero, List.set_cons_succ] at hV ⊢
    have v := hZ.get 14 rfl (hd ⟨14, .data⟩ (by simp) rfl)
    go_simp
    exact hV.out _ _ (hZ.val hok 16 rfl (Below.refl _ _) v)
  · intro L f W hZ hi hd K hK
    have hV := stepS (f := f) hK
    clear hK
    simp only [fillA, fillT, Act.put, List.foldl_cons, List.foldl_nil, List.setIfInBounds_toArray, List.set_cons_zero, List.set_cons_succ] at hV ⊢
    have v := hZ.get 15 rfl (hd ⟨15, .data⟩ (by simp) rfl)
    have hL := hd ⟨16, .data⟩ (by simp) rfl
    obtain ⟨g, cs, e1, -, hbk, -, hz0, -⟩ := hZ.box 0 rfl hL
    obtain rfl := hz0 hi
    replace e1 : f 9 = _ := e1
    obtain ⟨A0, n0, c0, e2⟩ := NatB.shape v
    replace e2 : f 34 = _ := e2
    replace v : NatB W (f 34) _ _ := v
    rw [e2] at v
    rw [e1, e2] at hV ⊢
    have E1 := Lib.hid e1
    clear e1 e2
    have q1 := hbk.cell (i := 0) rfl
    have q2 := hbk.frozen (i := 0)
    go_simp
    exact hV.out _ (hZ.store1 hok 0 rfl E1.out hL hi rfl noint_slice v)
  intro L f2 W2 hZ hL
  obtain ⟨g9, A9, n9, c9, e9, p9, S9, F9⟩ := hZ.takeN hok (S.out.drew.below hZ.1) (drew_low S.out) (Fr.begin S.out) 0 rfl (hL 16 (by decide)) (hL 18 (by decide)) (by simp)
  obtain ⟨s8, e8, hs⟩ := hZ.get 16 rfl (hL 17 (by decide))
  replace e8 : f2 8 = _ := e8
  simp only [fillA, fillT, List.foldl_cons, List.foldl_nil, List.setIfInBounds_toArray, List.set_cons_zero, List.set_cons_succ]
  rw [e8, e9]
  replace S := Lib.hid (S9.push (stab_natB _ _ _) p9)
  have HS := Lib.hid hs
  clear e8 e9 p9 S9 F9 hZ hL hok hA hs
  have g0 := Nat.gcd_pos_of_pos_right q.den r.den_pos
  have hR := Lib.hid (fun W A n c A2 n2 c2 (h1 : NatB W (.agg #[.slice A n c]) zz.natAbs (a + b + (a + b) + 1)) (h2 : NatB W (.agg #[.slice A2 n2 c2]) (Nat.gcd q.den r.den) b) => reduce_any h1 h2 (by omega) (by omega) g0)
  clear g0
  have c0x0 := (S.out.at 0 rfl).cell (i := 0) rfl
  have c1x0 := (S.out.at 1 rfl).cell (i := 0) rfl
  go_wp2_with fail
  refine (hR.out _ _ _ _ _ _ _ (S.out.fact 0 rfl) (S.out.fact 1 rfl)).mono ?_
  rintro e w3 ⟨A10, n10, c10, A11, n11, c11, A12, n12, c12, rfl, hx, hy, -, hb⟩
  replace S := Lib.hid (((S.out.below hb).push (stab_natB _ _ _) hx).push (stab_natB _ _ _) hy)
  clear hb hx hy hR c0x0 c1x0
  have c0x0 := (S.out.at 0 rfl).cell (i := 0) rfl
  have f0x0 := (S.out.at 0 rfl).frozen (i := 0)
  have c1x0 := (S.out.at 1 rfl).cell (i := 0) rfl
  have f1x0 := (S.out.at 1 rfl).frozen (i := 0)
  replace S := Lib.hid (S.out.set 0 rfl (i := 0) (u := .slice A10 n10 c10) (by simp) noint_slice rfl)
  simp only [List.set_cons_zero, List.set_cons_succ] at S
  have k1 := (S.out.at 1 rfl).cell (i := 0) rfl
  have k2 := (S.out.at 1 rfl).frozen (i := 0)
  replace S := Lib.hid (S.out.set 1 rfl (i := 0) (u := .slice A11 n11 c11) (by simp) noint_slice rfl)
  simp only [List.set_cons_zero, List.set_cons_succ] at S
  go_wp2_with fail
  clear c0x0 f0x0 c1x0 f1x0 k1 k2
  generalize World.setCell (World.setCell w3 _ _) _ _ = w4 at S ⊢
  refine wp_region_held_drew (S := fun W' => W'.cell? ⟨g9, 0, none⟩ = some (.slice A10 n10 c10) ∧ W'.cell? ⟨g7, 0, none⟩ = some (.slice A11 n11 c11) ∧ W'.cell? ⟨g6, 0, none⟩ = some (.slice A6 n6 c6) ∧ W'.cell? ⟨g5, 0, none⟩ = some (.slice A5 n5 c5)) (by kernel_rfl) ⟨(S.out.drew.at 0 rfl).cell (i := 0) rfl, (S.out.drew.at 1 rfl).cell (i := 0) rfl, (S.out.drew.at 2 rfl).cell (i := 0) rfl, (S.out.drew.at 3 rfl).cell (i := 0) rfl⟩ (fun hHeld => ?_)
  replace S := Lib.hid S.out.drew
  generalize w4.drew = w5 at S hHeld ⊢
  refine wpAnyH_takeD 0 (v := ?_) rfl rfl (by kernel_rfl) (by kernel_rfl) (by kernel_rfl) (fun _ _ _ h => h) (Or.inl ⟨by rfl, ?_⟩) hHeld ?_
  rotate_left
  focus (intro w hSw; (try dsimp only at hSw); go_simp; try with_reducible rfl)
  simp only [List.setIfInBounds_toArray, List.set_cons_zero, List.set_cons_succ]
  refine wpAnyH_takeD 1 (v := ?_) rfl rfl (by kernel_rfl) (by kernel_rfl) (by kernel_rfl) (fun _ _ _ h => h) (Or.inl ⟨by rfl, ?_⟩) hHeld ?_
  rotate_left
  focus (intro w hSw; (try dsimp only at hSw); go_simp; try with_reducible rfl)
  simp only [List.setIfInBounds_toArray, List.set_cons_zero, List.set_cons_succ]
  refine wpAnyH_takeD 2 (v := ?_) rfl rfl (by kernel_rfl) (by kernel_rfl) (by kernel_rfl) (fun _ _ _ h => h) (Or.inl ⟨by rfl, ?_⟩) hHeld ?_
  rotate_left
  focus (intro w hSw; (try dsimp only at hSw); go_simp; try with_reducible rfl)
  simp only [List.setIfInBounds_toArray, List.set_cons_zero, List.set_cons_succ]
  refine wpAnyH_takeD 3 (v := ?_) rfl rfl (by kernel_rfl) (by kernel_rfl) (by kernel_rfl) (fun _ _ _ h => h) (Or.inl ⟨by rfl, ?_⟩) hHeld ?_
  rotate_left
  focus (intro w hSw; (try dsimp only at hSw); go_simp; try with_reducible rfl)
  simp only [List.setIfInBounds_toArray, List.set_cons_zero, List.set_cons_succ]
  refine wpAnyH_takeD 5 (v := ?_) rfl rfl (by kernel_rfl) (by kernel_rfl) (by kernel_rfl) (fun _ _ _ h => h) (Or.inl ⟨by rfl, ?_⟩) hHeld ?_
  rotate_left
  focus (intro w hSw; (try dsimp only at hSw); go_simp; try with_reducible rfl)
  simp only [List.setIfInBounds_toArray, List.set_cons_zero, List.set_cons_succ]
  refine wpAnyH_ready (rs := [4]) (by kernel_rfl) (by simp) ?_
  refine AllReadyH.cons rfl (fun K hK => ?_) AllReadyH.nil
  go_simp
  refine (mulN (S.out.fact 5 rfl) (S.out.fact 4 rfl) (by omega) (by omega)).mono ?_
  rintro e w6 ⟨A13, n13, c13, rfl, hx, hb⟩
  replace S := Lib.hid ((S.out.below hb).push (stab_natB _ _ _) hx)
  clear hx hb
  refine hK.out _ _ ⟨(S.out.at 0 rfl).cell (i := 0) rfl, (S.out.at 1 rfl).cell (i := 0) rfl, (S.out.at 2 rfl).cell (i := 0) rfl, (S.out.at 3 rfl).cell (i := 0) rfl⟩ (fun hHeld => ?_)
  clear hK K
  refine wpAnyH_ready (rs := [6]) (by kernel_rfl) (by simp) ?_
  refine AllReadyH.cons rfl (fun K hK => ?_) AllReadyH.nil
  go_simp
  refine (mulN (S.out.fact 0 rfl) (S.out.fact 1 rfl) (by omega) (by omega)).mono ?_
  rintro e w7 ⟨A14, n14, c14, rfl, hx, hb⟩
  replace S := Lib.hid ((S.out.below hb).push (stab_natB _ _ _) hx)
  clear hx hb
  refine hK.out _ _ ⟨(S.out.at 0 rfl).cell (i := 0) rfl, (S.out.at 1 rfl).cell (i := 0) rfl, (S.out.at 2 rfl).cell (i := 0) rfl, (S.out.at 3 rfl).cell (i := 0) rfl⟩ (fun hHeld => ?_)
  clear hK K
  refine wpAnyH_ready (rs := [7]) (by kernel_rfl) (by simp) ?_
  refine AllReadyH.cons rfl (fun K hK => ?_) AllReadyH.nil
  go_simp
  have hz : zz = q.num * (r.den / Nat.gcd q.den r.den : Nat) + r.num * (q.den / Nat.gcd q.den r.den : Nat) := by
    have h1 := HZ.out
    rwa [HU.out.sign, HV.out.sign, sg_mulr, sg_mulr, sg_num, sg_num] at h1
  obtain ⟨r1, r2, r3⟩ := add_final hz HS.out
  have hQ := Lib.hid (reduced_any (b := s8) (S.out.fact 3 rfl) ((S.out.fact 0 rfl).more (by omega : a + b + b ≤ a + b + (a + b) + 1)) (by omega) r3 r2)
  rw [r1] at hQ
  refine hQ.out.mono ?_
  rintro e w8 ⟨b15, A15, n15, c15, A16, n16, c16, rfl, hq, hb⟩
  replace S := Lib.hid ((S.out.below hb).push (stab_ratP _ _ _) hq)
  clear hq hb hQ r1 r2 r3 hz
  refine hK.out _ _ ⟨(S.out.at 0 rfl).cell (i := 0) rfl, (S.out.at 1 rfl).cell (i := 0) rfl, (S.out.at 2 rfl).cell (i := 0) rfl, (S.out.at 3 rfl).cell (i := 0) rfl⟩ (fun hHeld => ?_)
  clear hK K
  have c4x0 := (S.out.at 4 rfl).cell (i := 0) rfl
  have f4x0 := (S.out.at 4 rfl).frozen (i := 0)
  have c4x1 := (S.out.at 4 rfl).cell (i := 1) rfl
  have f4x1 := (S.out.at 4 rfl).frozen (i := 1)
  have c4x2 := (S.out.at 4 rfl).cell (i := 2) rfl
  have f4x2 := (S.out.at 4 rfl).frozen (i := 2)
  refine wpAnyH_ready (rs := [8]) (by kernel_rfl) (by simp) ?_
  refine AllReadyH.cons rfl (fun K hK => ?_) AllReadyH.nil
  go_simp
  replace S := Lib.hid (S.out.set3 4 rfl (noint_bool (b := b15)) (noint_slice (A := A15) (n := n15) (c := c15)) (noint_slice (A := A16) (n := n16) (c := c16)) rfl)
  refine hK.out _ _ ⟨(S.out.at 0 rfl).cell (i := 0) rfl, (S.out.at 1 rfl).cell (i := 0) rfl, (S.out.at 2 rfl).cell (i := 0) rfl, (S.out.at 3 rfl).cell (i := 0) rfl⟩ (fun hHeld => ?_)
  clear hK K
  refine wpAnyH_done (by kernel_rfl) ?_ _
  have c4x0 := (S.out.at 4 rfl).cell (i := 0) rfl
  have c4x1 := (S.out.at 4 rfl).cell (i := 1) rfl
  have c4x2 := (S.out.at 4 rfl).cell (i := 2) rfl
  go_wp2_with fail
  refine bodyPost_ret (v := .agg #[.bool b15, .slice A15 n15 c15, .slice A16 n16 c16]) (by simp [results, Tryz.results31, go_sem, c4x0, c4x1, c4x2]) rfl ?_
  obtain ⟨b1, b2⟩ := HU.out.bounds
  obtain ⟨b3, b4⟩ := HV.out.bounds
  obtain ⟨b5, b6⟩ := add_bound b1 b2 b3 b4
  exact ⟨b15, A15, n15, c15, A16, n16, c16, rfl, RatP.tight (S.out.fact 0 rfl) b5 b6, S.out.low⟩

set_option maxRecDepth 100000 in
set_option maxHeartbeats 4000000 in
theorem sub_any {w : World} {u v : Value} {q r : Rat} {a b : Nat} (hu : RatP w u q a) (hv : RatP w v r b) (ha : a ≤ 90) (hb : b ≤ 90) : Calls Tryz.prog 33 #[u, v] w (OpQ w (q - r) (a + b + 1)) := by
  have HU := Lib.hid hu
  have HV := Lib.hid hv
  obtain ⟨A, n, c, A2, n2, c2, rfl⟩ := hu.shape
  obtain ⟨B, m, d, B2, m2, d2, rfl⟩ := hv.shape
  obtain ⟨w1, hw1, S⟩ := enter3 w [.bool (decide (q.num < 0)), .slice A n c, .slice A2 n2 c2] 30 [.bool (decide (r.num < 0)), .slice B m d, .slice B2 m2 d2] 30 [.bool false, .slice none 0 0, .slice none 0 0] 30 (by decide) noint3 (by decide) noint3 (by decide) noint3
  clear hu hv
  generalize decide (q.num < 0) = x at HU S hw1 ⊢
  generalize decide (r.num < 0) = y at HV S hw1 ⊢
  go_enter Tryz.func33, Tryz.ntmps33
  go_wp2_with fail
  clear hw1
  refine wp_region_held_drew (S := fun W' => W'.cell? ⟨w.heap.size, 0, none⟩ = some (.bool x) ∧ W'.cell? ⟨w.heap.size, 1, none⟩ = some (.slice A n c) ∧ W'.cell? ⟨w.heap.size, 2, none⟩ = some (.slice A2 n2 c2) ∧ W'.cell? ⟨(w.heap.size + 1), 0, none⟩ = some (.bool y) ∧ W'.cell? ⟨(w.heap.size + 1), 1, none⟩ = some (.slice B m d) ∧ W'.cell? ⟨(w.heap.size + 1), 2, none⟩ = some (.slice B2 m2 d2)) (by kernel_rfl) ⟨(S.out.drew.at 2 rfl).cell (i := 0) rfl, (S.out.drew.at 2 rfl).cell (i := 1) rfl, (S.out.drew.at 2 rfl).cell (i := 2) rfl, (S.out.drew.at 1 rfl).cell (i := 0) rfl, (S.out.drew.at 1 rfl).cell (i := 1) rfl, (S.out.drew.at 1 rfl).cell (i := 2) rfl⟩ (fun hHeld => ?_)
  replace S := Lib.hid S.out.drew
  generalize w1.drew = w2 at S hHeld ⊢
  refine wpAnyH_takeD 0 (v := ?_) rfl rfl (by kernel_rfl) (by kernel_rfl) (by kernel_rfl) (fun _ _ _ h => h) (Or.inl ⟨by rfl, ?_⟩) hHeld ?_
  rotate_left
  focus (intro w hSw; (try dsimp only at hSw); go_simp; try with_reducible rfl)
  simp only [List.setIfInBounds_toArray, List.set_cons_zero, List.set_cons_succ]
  refine wpAnyH_takeD 1 (v := ?_) rfl rfl (by kernel_rfl) (by kernel_rfl) (by kernel_rfl) (fun _ _ _ h => h) (Or.inl ⟨by rfl, ?_⟩) hHeld ?_
  rotate_left
  focus (intro w hSw; (try dsimp only at hSw); go_simp; try with_reducible rfl)
  simp only [List.setIfInBounds_toArray, List.set_cons_zero, List.set_cons_succ]
  refine wpAnyH_ready (rs := [2]) (by kernel_rfl) (by simp) ?_
  refine AllReadyH.cons rfl (fun K hK => ?_) AllReadyH.nil
  go_simp
  refine (neg_any (HV.out.below S.out.low) (by omega)).mono ?_
  rintro e w3 ⟨b5, A5, n5, c5, A6, n6, c6, rfl, hq, hb1⟩
  replace S := Lib.hid ((S.out.below hb1).push (stab_ratP _ _ _) hq)
  clear hq hb1
  refine hK.out _ _ ⟨(S.out.at 2 rfl).cell (i := 0) rfl, (S.out.at 2 rfl).cell (i := 1) rfl, (S.out.at 2 rfl).cell (i := 2) rfl, (S.out.at 1 rfl).cell (i := 0) rfl, (S.out.at 1 rfl).cell (i := 1) rfl, (S.out.at 1 rfl).cell (i := 2) rfl⟩ (fun hHeld => ?_)
  clear hK K
  refine wpAnyH_ready (rs := [3]) (by kernel_rfl) (by simp) ?_
  refine AllReadyH.cons rfl (fun K hK => ?_) AllReadyH.nil
  go_simp
  refine (add_any (HU.out.below S.out.low) (S.out.fact 0 rfl) ha hb).mono ?_
  rintro e w4 ⟨b7, A7, n7, c7, A8, n8, c8, rfl, hq, hb1⟩
  rw [← Rat.sub_eq_add_neg] at hq
  replace S := Lib.hid ((S.out.below hb1).push (stab_ratP _ _ _) hq)
  clear hq hb1
  refine hK.out _ _ ⟨(S.out.at 2 rfl).cell (i := 0) rfl, (S.out.at 2 rfl).cell (i := 1) rfl, (S.out.at 2 rfl).cell (i := 2) rfl, (S.out.at 1 rfl).cell (i := 0) rfl, (S.out.at 1 rfl).cell (i := 1) rfl, (S.out.at 1 rfl).cell (i := 2) rfl⟩ (fun hHeld => ?_)
  clear hK K
  have c0x0 := (S.out.at 0 rfl).cell (i := 0) rfl
  have f0x0 := (S.out.at 0 rfl).frozen (i := 0)
  have c0x1 := (S.out.at 0 rfl).cell (i := 1) rfl
  have f0x1 := (S.out.at 0 rfl).frozen (i := 1)
  have c0x2 := (S.out.at 0 rfl).cell (i := 2) rfl
  have f0x2 := (S.out.at 0 rfl).frozen (i := 2)
  refine wpAnyH_ready (rs := [4]) (by kernel_rfl) (by simp) ?_
  refine AllReadyH.cons rfl (fun K hK => ?_) AllReadyH.nil
  go_simp
  replace S := Lib.hid (S.out.set3 0 rfl (noint_bool (b := b7)) (noint_slice (A := A7) (n := n7) (c := c7)) (noint_slice (A := A8) (n := n8) (c := c8)) rfl)
  refine hK.out _ _ ⟨(S.out.at 2 rfl).cell (i := 0) rfl, (S.out.at 2 rfl).cell (i := 1) rfl, (S.out.at 2 rfl).cell (i := 2) rfl, (S.out.at 1 rfl).cell (i := 0) rfl, (S.out.at 1 rfl).cell (i := 1) rfl, (S.out.at 1 rfl).cell (i := 2) rfl⟩ (fun hHeld => ?_)
  clear hK K
  refine wpAnyH_done (by kernel_rfl) ?_ _
  have c0x0 := (S.out.at 0 rfl).cell (i := 0) rfl
  have c0x1 := (S.out.at 0 rfl).cell (i := 1) rfl
  have c0x2 := (S.out.at 0 rfl).cell (i := 2) rfl
  go_wp2_with fail
  refine bodyPost_ret (v := .agg #[.bool b7, .slice A7 n7 c7, .slice A8 n8 c8]) (by simp [results, Tryz.results33, go_sem, c0x0, c0x1, c0x2]) rfl ?_
  exact ⟨b7, A7, n7, c7, A8, n8, c8, rfl, S.out.fact 0 rfl, S.out.low⟩
end Go.Proofs.YthfjbpbgnoonpaaGreatDoor
