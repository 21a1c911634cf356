/- Contracts of package rational: Mul, Div. -/
import Derived.Test.YthfjbpbgnoonpaaGreatDoorRH
namespace Go.Proofs.YthfjbpbgnoonpaaGreatDoor
open Go.RowKit

set_option maxRecDepth 100000 in
set_option maxHeartbeats 16000000 in
theorem mul_any {w : World} {u v : Value} {q r : Rat} {a b : Nat} (hu : RatP w u q a) (hv : RatP w v r b) (ha : a ≤ 90) (hb : b ≤ 90) : Calls Tryz.prog 42 #[u, v] w (OpQ w (q * r) (a + b)) := by
  have hD1 := Lib.hid (fun W (hw : Below w.heap.size w W) => den_any (hu.below hw) (by omega : a ≤ 400))
  have hD2 := Lib.hid (fun W (hw : Below w.heap.size w W) => den_any (hv.below hw) (by omega : b ≤ 400))
  have HU := Lib.hid hu
  have HV := Lib.hid hv
  obtain ⟨A, n, c, A2, n2, c2, rfl⟩ := hu.shape
  obtain ⟨B, m, d, B2, m2, d2, rfl⟩ := hv.shape
  obtain ⟨w1, hw1, S⟩ := enter3 w [.bool (decide (q.num < 0)), .slice A n c, .slice A2 n2 c2] 30 [.bool (decide (r.num < 0)), .slice B m d, .slice B2 m2 d2] 30 [.bool false, .slice none 0 0, .slice none 0 0] 30 (by decide) noint3 (by decide) noint3 (by decide) noint3
  clear hu hv
  generalize hx : decide (q.num < 0) = x at hD1 HU S hw1 ⊢
  generalize hy : decide (r.num < 0) = y at hD2 HV S hw1 ⊢
  have HX := Lib.hid hx
  have HY := Lib.hid hy
  clear hx hy
  go_enter Tryz.func42, Tryz.ntmps42
  go_wp2_with fail
  clear hw1
  have hok : ZOk [(0, 12, fun _ z => z = .pointer (some ⟨w.heap.size, 1, none⟩)), (1, 13, fun _ z => z = .agg #[.slice A n c]), (2, 14, fun _ z => z = .agg #[.bool y, .slice B m d, .slice B2 m2 d2]), (3, 15, fun W z => NatB W z r.den b), (4, 16, fun W z => Red W z (q.num.natAbs / Nat.gcd q.num.natAbs r.den) (r.den / Nat.gcd q.num.natAbs r.den) (Nat.gcd q.num.natAbs r.den) a b), (5, 11, fun W z => Red W z (q.num.natAbs / Nat.gcd q.num.natAbs r.den) (r.den / Nat.gcd q.num.natAbs r.den) (Nat.gcd q.num.natAbs r.den) a b), (6, 17, fun W z => NatB W z (q.num.natAbs / Nat.gcd q.num.natAbs r.den) a), (7, 18, fun W z => NatB W z (r.den / Nat.gcd q.num.natAbs r.den) b), (8, 19, fun W z => NatB W z (Nat.gcd q.num.natAbs r.den) b)] [bxN 9 12 5 (q.num.natAbs / Nat.gcd q.num.natAbs r.den) a, bxN 10 13 6 (r.den / Nat.gcd q.num.natAbs r.den) b, bxN 11 14 7 (Nat.gcd q.num.natAbs r.den) b] := ⟨by simp, by simp [bxN], by simp [bxN], by simp [bxN], List.forall_mem_cons.2 ⟨fun x => stab_true, List.forall_mem_cons.2 ⟨fun x => stab_true, List.forall_mem_cons.2 ⟨fun x => stab_true, List.forall_mem_cons.2 ⟨fun x => stab_natB _ _ _, List.forall_mem_cons.2 ⟨fun x => stab_red _ _ _ _ _ _, List.forall_mem_cons.2 ⟨fun x => stab_red _ _ _ _ _ _, List.forall_mem_cons.2 ⟨fun x => stab_natB _ _ _, List.forall_mem_cons.2 ⟨fun x => stab_natB _ _ _, List.forall_mem_cons.2 ⟨fun x => stab_natB _ _ _, List.forall_mem_nil _⟩⟩⟩⟩⟩⟩⟩⟩⟩, List.forall_mem_cons.2 ⟨bxN_ok _ _ _ _ _, List.forall_mem_cons.2 ⟨bxN_ok _ _ _ _ _, List.forall_mem_cons.2 ⟨bxN_ok _ _ _ _ _, List.forall_mem_nil _⟩⟩⟩⟩
  refine wp_region_Y hok [12, 13, 14, 15, 16, 11, 17, 18, 19, 5, 6, 7] (by kernel_rfl) (by kernel_rfl) ⟨?_, ?_, ?_, ?_, ?_, ?_, ?_, ?_, ?_, ?_, ?_, ?_, ?_, ?_, ?_, trivial⟩ ?_
  · intro L f W hZ hi hd K hK
    have hV := stepV (d := 12) (f := f) hK (by decide) (by decide)
    clear hK
    simp only [fillA, fillT, Act.put, List.foldl_cons, List.foldl_nil, List.setIfInBounds_toArray, List.set_cons_zero, List.set_cons_succ] at hV ⊢
    go_simp
    exact hV.out _ _ (hZ.val hok 0 rfl (Below.refl _ _) rfl)
  · intro L f W hZ hi hd K hK
    have hV := stepV (d := 13) (f := f) hK (by decide) (by decide)
    clear hK
    simp only [fillA, fillT, Act.put, List.foldl_cons, List.foldl_nil, List.setIfInBounds_toArray, List.set_cons_zero, List.set_cons_succ] at hV ⊢
    have S2 := Lib.hid (S.out.drew.below hZ.1)
    have c2x1 := (S2.out.at 2 rfl).cell (i := 1) rfl
    have v0 := hZ.get 0 rfl (hd ⟨0, .data⟩ (by simp) rfl)
    replace v0 : f 12 = _ := v0
    rw [v0] at hV ⊢
    clear v0
    go_simp
    exact hV.out _ _ (hZ.val hok 1 rfl (Below.refl _ _) rfl)
  · intro L f W hZ hi hd K hK
    have hV := stepV (d := 14) (f := f) hK (by decide) (by decide)
    clear hK
    simp only [fillA, fillT, Act.put, List.foldl_cons, List.foldl_nil, List.setIfInBounds_toArray, List.set_cons_zero, List.set_cons_succ] at hV ⊢
    have S2 := Lib.hid (S.out.drew.below hZ.1)
    have c1x0 := (S2.out.at 1 rfl).cell (i := 0) rfl
    have c1x1 := (S2.out.at 1 rfl).cell (i := 1) rfl
    have c1x2 := (S2.out.at 1 rfl).cell (i := 2) rfl
    go_simp
    exact hV.out _ _ (hZ.val hok 2 rfl (Below.refl _ _) rfl)
  · intro L f W hZ hi hd K hK
    have hV := stepV (d := 15) (f := f) hK (by decide) (by decide)
    clear hK
    simp only [fillA, fillT, Act.put, List.foldl_cons, List.foldl_nil, List.setIfInBounds_toArray, List.set_cons_zero, List.set_cons_succ] at hV ⊢
    have v2 := hZ.get 2 rfl (hd ⟨2, .data⟩ (by simp) rfl)
    replace v2 : f 14 = _ := v2
    rw [v2] at hV ⊢
    clear v2
    go_simp
    refine (hD2.out _ (S.out.drew.below hZ.1).low).mono ?_
    rintro e w' ⟨A9, n9, c9, rfl, hx, hb⟩
    exact hV.out _ _ (hZ.val hok 3 rfl hb hx)
  · intro L f W hZ hi hd K hK
    have hV := stepV (d := 16) (f := f) hK (by decide) (by decide)
    clear hK
    simp only [fillA, fillT, Act.put, List.foldl_cons, List.foldl_nil, List.setIfInBounds_toArray, List.set_cons_zero, List.set_cons_succ] at hV ⊢
    have S2 := Lib.hid (S.out.drew.below hZ.1)
    have v1 := hZ.get 1 rfl (hd ⟨1, .data⟩ (by simp) rfl)
    replace v1 : f 13 = _ := v1
    rw [v1] at hV ⊢
    clear v1
    have v3 := hZ.get 3 rfl (hd ⟨3, .data⟩ (by simp) rfl)
    obtain ⟨A8, n8, c8, e8⟩ := NatB.shape v3
    replace e8 : f 15 = _ := e8
    replace v3 : NatB W (f 15) _ _ := v3
    rw [e8] at v3 hV ⊢
    clear e8
    go_simp
    refine (reduce_any (HU.out.num.below S2.out.low) v3 (by omega) (by omega) r.den_pos).mono ?_
    rintro e w' ⟨A9, n9, c9, A10, n10, c10, A11, n11, c11, rfl, hx1, hx2, hx3, hb⟩
    exact hV.out _ _ (hZ.val hok 4 rfl hb ⟨A9, n9, c9, A10, n10, c10, A11, n11, c11, rfl, hx1, hx2, hx3⟩)
  · intro L f W hZ hi hd K hK
    have hV := stepV (d := 11) (f := f) hK (by decide) (by decide)
    clear hK
    simp only [fillA, fillT, Act.put, List.foldl_cons, List.foldl_nil, List.setIfInBounds_toArray, List.set_cons_zero, List.set_cons_succ] at hV ⊢
    have v := hZ.get 4 rfl (hd ⟨4, .data⟩ (by simp) rfl)
    go_simp
    exact hV.out _ _ (hZ.val hok 5 rfl (Below.refl _ _) v)
  · intro L f W hZ hi hd K hK
    have hV := stepV (d := 17) (f := f) hK (by decide) (by decide)
    clear hK
    simp only [fillA, fillT, Act.put, List.foldl_cons, List.foldl_nil, List.setIfInBounds_toArray, List.set_cons_zero, List.set_cons_succ] at hV ⊢
    obtain ⟨A9, n9, c9, A10, n10, c10, A11, n11, c11, e9, h0, h1, h2⟩ := hZ.get 5 rfl (hd ⟨5, .data⟩ (by simp) rfl)
    replace e9 : f 11 = _ := e9
    rw [e9] at hV ⊢
    clear e9
    go_simp
    exact hV.out _ _ (hZ.val hok 6 rfl (Below.refl _ _) h0)
  · intro L f W hZ hi hd K hK
    have hV := stepV (d := 18) (f := f) hK (by decide) (by decide)
    clear hK
    simp only [fillA, fillT, Act.put, List.foldl_cons, List.foldl_nil, List.setIfInBounds_toArray, List.set_cons_zero, List.set_cons_succ] at hV ⊢
    obtain ⟨A9, n9, c9, A10, n10, c10, A11, n11, c11, e9, h0, h1, h2⟩ := hZ.get 5 rfl (hd ⟨5, .data⟩ (by simp) rfl)
    replace e9 : f 11 = _ := e9
    rw [e9] at hV ⊢
    clear e9
    go_simp
    exact hV.out _ _ (hZ.val hok 7 rfl (Below.refl _ _) h1)
  · intro L f W hZ hi hd K hK
    have hV := stepV (d := 19) (f := f) hK (by decide) (by decide)
    clear hK
    simp only [fillA, fillT, Act.put, List.foldl_cons, List.foldl_nil, List.setIfInBounds_toArray, List.set_cons_zero, List.set_cons_succ] at hV ⊢
    obtain ⟨A9, n9, c9, A10, n10, c10, A11, n11, c11, e9, h0, h1, h2⟩ := hZ.get 5 rfl (hd ⟨5, .data⟩ (by simp) rfl)
    replace e9 : f 11 = _ := e9
    rw [e9] at hV ⊢
    clear e9
    go_simp
    exact hV.out _ _ (hZ.val hok 8 rfl (Below.refl _ _) h2)
  · intro L f W hZ hi hd K hK
    have hV := stepV (d := 5) (f := f) hK (by decide) (by decide)
    clear hK
    simp only [fillA, fillT, Act.put, List.foldl_cons, List.foldl_nil, List.setIfInBounds_toArray, List.set_cons_zero, List.set_cons_succ] at hV ⊢
    go_simp
    exact hV.out _ _ (hZ.alloc hok 0 rfl hi)
  · intro L f W hZ hi hd K hK
    have hV := stepV (d := 6) (f := f) hK (by decide) (by decide)
    clear hK
    simp only [fillA, fillT, Act.put, List.foldl_cons, List.foldl_nil, List.setIfInBounds_toArray, List.set_cons_zero, List.set_cons_succ] at hV ⊢
    go_simp
    exact hV.out _ _ (hZ.alloc hok 1 rfl hi)
  · intro L f W hZ hi hd K hK
    have hV := stepV (d := 7) (f := f) hK (by decide) (by decide)
    clear hK
    simp only [fillA, fillT, Act.put, List.foldl_cons, List.foldl_nil, List.setIfInBounds_toArray, List.set_cons_zero, List.set_cons_succ] at hV ⊢
    go_simp
    exact hV.out _ _ (hZ.alloc hok 2 rfl hi)
  · intro L f W hZ hi hd K hK
    have hV := stepS (f := f) hK
    clear hK
    simp only [fillA, fillT, Act.put, List.foldl_cons, List.foldl_nil, List.setIfInBounds_toArray, List.set_cons_zero, List.set_cons_succ] at hV ⊢
    have v := hZ.get 6 rfl (hd ⟨6, .data⟩ (by simp) rfl)
    have hL := hd ⟨9, .data⟩ (by simp) rfl
    obtain ⟨g, cs, e1, -, hbk, -, hz0, -⟩ := hZ.box 0 rfl hL
    obtain rfl := hz0 hi
    replace e1 : f 5 = _ := e1
    obtain ⟨A0, n0, c0, e2⟩ := NatB.shape v
    replace e2 : f 17 = _ := e2
    replace v : NatB W (f 17) _ _ := v
    rw [e2] at v
    rw [e1, e2] at hV ⊢
    have E1 := Lib.hid e1
    clear e1 e2
    have q1 := hbk.cell (i := 0) rfl
    have q2 := hbk.frozen (i := 0)
    go_simp
    exact hV.out _ (hZ.store1 hok 0 rfl E1.out hL hi rfl noint_slice v)
  · intro L f W hZ hi hd K hK
    have hV := stepS (f := f) hK
    clear hK
    simp only [fillA, fillT, Act.put, List.foldl_cons, List.foldl_nil, List.setIfInBounds_toArray, List.set_cons_zero, List.set_cons_succ] at hV ⊢
    have v := hZ.get 7 rfl (hd ⟨7, .data⟩ (by simp) rfl)
    have hL := hd ⟨10, .data⟩ (by simp) rfl
    obtain ⟨g, cs, e1, -, hbk, -, hz0, -⟩ := hZ.box 1 rfl hL
    obtain rfl := hz0 hi
    replace e1 : f 6 = _ := e1
    obtain ⟨A0, n0, c0, e2⟩ := NatB.shape v
    replace e2 : f 18 = _ := e2
    replace v : NatB W (f 18) _ _ := v
    rw [e2] at v
    rw [e1, e2] at hV ⊢
    have E1 := Lib.hid e1
    clear e1 e2
    have q1 := hbk.cell (i := 0) rfl
    have q2 := hbk.frozen (i := 0)
    go_simp
    exact hV.out _ (hZ.store1 hok 1 rfl E1.out hL hi rfl noint_slice v)
  · intro L f W hZ hi hd K hK
    have hV := stepS (f := f) hK
    clear hK
    simp only [fillA, fillT, Act.put, List.foldl_cons, List.foldl_nil, List.setIfInBounds_toArray, List.set_cons_zero, List.set_cons_succ] at hV ⊢
    have v := hZ.get 8 rfl (hd ⟨8, .data⟩ (by simp) rfl)
    have hL := hd ⟨11, .data⟩ (by simp) rfl
    obtain ⟨g, cs, e1, -, hbk, -, hz0, -⟩ := hZ.box 2 rfl hL
    obtain rfl := hz0 hi
    replace e1 : f 7 = _ := e1
    obtain ⟨A0, n0, c0, e2⟩ := NatB.shape v
    replace e2 : f 19 = _ := e2
    replace v : NatB W (f 19) _ _ := v
    rw [e2] at v
    rw [e1, e2] at hV ⊢
    have E1 := Lib.hid e1
    clear e1 e2
    have q1 := hbk.cell (i := 0) rfl
    have q2 := hbk.frozen (i := 0)
    go_simp
    exact hV.out _ (hZ.store1 hok 2 rfl E1.out hL hi rfl noint_slice v)
  intro L f1 W1 hZ hL
  obtain ⟨g5, A5, n5, c5, e5, p5, S5, F5⟩ := hZ.takeN hok (S.out.drew.below hZ.1) (drew_low S.out) (Fr.begin S.out) 0 rfl (hL 9 (by decide)) (hL 12 (by decide)) (by simp)
  obtain ⟨g6, A6, n6, c6, e6, p6, S6, F6⟩ := hZ.takeN hok S5 (drew_low S.out) F5 1 rfl (hL 10 (by decide)) (hL 13 (by decide)) (by simp)
  obtain ⟨g7, A7, n7, c7, e7, p7, S7, F7⟩ := hZ.takeN hok S6 (drew_low S.out) F6 2 rfl (hL 11 (by decide)) (hL 14 (by decide)) (by simp)
  simp only [fillA, fillT, List.foldl_cons, List.foldl_nil, List.setIfInBounds_toArray, List.set_cons_zero, List.set_cons_succ]
  rw [e5, e6, e7]
  replace S := Lib.hid (((S7.push (stab_natB _ _ _) p5).push (stab_natB _ _ _) p6).push (stab_natB _ _ _) p7)
  clear e5 p5 S5 F5 e6 p6 S6 F6 e7 p7 S7 F7 hZ hL hok
  go_wp2_with fail
  have hok : ZOk [(0, 21, fun _ z => z = .pointer (some ⟨w.heap.size + 1, 1, none⟩)), (1, 22, fun _ z => z = .agg #[.slice B m d]), (2, 23, fun _ z => z = .agg #[.bool x, .slice A n c, .slice A2 n2 c2]), (3, 24, fun W z => NatB W z q.den a), (4, 25, fun W z => Red W z (r.num.natAbs / Nat.gcd r.num.natAbs q.den) (q.den / Nat.gcd r.num.natAbs q.den) (Nat.gcd r.num.natAbs q.den) b a), (5, 20, fun W z => Red W z (r.num.natAbs / Nat.gcd r.num.natAbs q.den) (q.den / Nat.gcd r.num.natAbs q.den) (Nat.gcd r.num.natAbs q.den) b a), (6, 26, fun W z => NatB W z (r.num.natAbs / Nat.gcd r.num.natAbs q.den) b), (7, 27, fun W z => NatB W z (q.den / Nat.gcd r.num.natAbs q.den) a), (8, 28, fun W z => NatB W z (Nat.gcd r.num.natAbs q.den) a)] [bxN 9 12 8 (r.num.natAbs / Nat.gcd r.num.natAbs q.den) b, bxN 10 13 9 (q.den / Nat.gcd r.num.natAbs q.den) a, bxN 11 14 10 (Nat.gcd r.num.natAbs q.den) a] := ⟨by simp, by simp [bxN], by simp [bxN], by simp [bxN], List.forall_mem_cons.2 ⟨fun x => stab_true, List.forall_mem_cons.2 ⟨fun x => stab_true, List.forall_mem_cons.2 ⟨fun x => stab_true, List.forall_mem_cons.2 ⟨fun x => stab_natB _ _ _, List.forall_mem_cons.2 ⟨fun x => stab_red _ _ _ _ _ _, List.forall_mem_cons.2 ⟨fun x => stab_red _ _ _ _ _ _, List.forall_mem_cons.2 ⟨fun x => stab_natB _ _ _, List.forall_mem_cons.2 ⟨fun x => stab_natB _ _ _, List.forall_mem_cons.2 ⟨fun x => stab_natB _ _ _, List.forall_mem_nil _⟩⟩⟩⟩⟩⟩⟩⟩⟩, List.forall_mem_cons.2 ⟨bxN_ok _ _ _ _ _, List.forall_mem_cons.2 ⟨bxN_ok _ _ _ _ _, List.forall_mem_cons.2 ⟨bxN_ok _ _ _ _ _, List.forall_mem_nil _⟩⟩⟩⟩
  refine wp_region_Y hok [21, 22, 23, 24, 25, 20, 26, 27, 28, 8, 9, 10] (by kernel_rfl) (by kernel_rfl) ⟨?_, ?_, ?_, ?_, ?_, ?_, ?_, ?_, ?_, ?_, ?_, ?_, ?_, ?_, ?_, trivial⟩ ?_
  · intro L f W hZ hi hd K hK
    have hV := stepV (d := 21) (f := f) hK (by decide) (by decide)
    clear hK
    simp only [fillA, fillT, Act.put, List.foldl_cons, List.foldl_nil, List.setIfInBounds_toArray, List.set_cons_zero, List.set_cons_succ] at hV ⊢
    go_simp
    exact hV.out _ _ (hZ.val hok 0 rfl (Below.refl _ _) rfl)
  · intro L f W hZ hi hd K hK
    have hV := stepV (d := 22) (f := f) hK (by decide) (by decide)
    clear hK
    simp only [fillA, fillT, Act.put, List.foldl_cons, List.foldl_nil, List.setIfInBounds_toArray, List.set_cons_zero, List.set_cons_succ] at hV ⊢
    have S2 := Lib.hid (S.out.drew.below hZ.1)
    have c4x1 := (S2.out.at 4 rfl).cell (i := 1) rfl
    have v0 := hZ.get 0 rfl (hd ⟨0, .data⟩ (by simp) rfl)
    replace v0 : f 21 = _ := v0
    rw [v0] at hV ⊢
    clear v0
    go_simp
    exact hV.out _ _ (hZ.val hok 1 rfl (Below.refl _ _) rfl)
  · intro L f W hZ hi hd K hK
    have hV := stepV (d := 23) (f := f) hK (by decide) (by decide)
    clear hK
    simp only [fillA, fillT, Act.put, List.foldl_cons, List.foldl_nil, List.setIfInBounds_toArray, List.set_cons_zero, List.set_cons_succ] at hV ⊢
    have S2 := Lib.hid (S.out.drew.below hZ.1)
    have c5x0 := (S2.out.at 5 rfl).cell (i := 0) rfl
    have c5x1 := (S2.out.at 5 rfl).cell (i := 1) rfl
    have c5x2 := (S2.out.at 5 rfl).cell (i := 2) rfl
    go_simp
    exact hV.out _ _ (hZ.val hok 2 rfl (Below.refl _ _) rfl)
  · intro L f W hZ hi hd K hK
    have hV := stepV (d := 24) (f := f) hK (by decide) (by decide)
    clear hK
    simp only [fillA, fillT, Act.put, List.foldl_cons, List.foldl_nil, List.setIfInBounds_toArray, List.set_cons_zero, List.set_cons_succ] at hV ⊢
    have v2 := hZ.get 2 rfl (hd ⟨2, .data⟩ (by simp) rfl)
    replace v2 : f 23 = _ := v2
    rw [v2] at hV ⊢
    clear v2
    go_simp
    refine (hD1.out _ (S.out.drew.below hZ.1).low).mono ?_
    rintro e w' ⟨A9, n9, c9, rfl, hx, hb⟩
    exact hV.out _ _ (hZ.val hok 3 rfl hb hx)
  · intro L f W hZ hi hd K hK
    have hV := stepV (d := 25) (f := f) hK (by decide) (by decide)
    clear hK
    simp only [fillA, fillT, Act.put, List.foldl_cons, List.foldl_nil, List.setIfInBounds_toArray, List.set_cons_zero, List.set_cons_succ] at hV ⊢
    have S2 := Lib.hid (S.out.drew.below hZ.1)
    have v1 := hZ.get 1 rfl (hd ⟨1, .data⟩ (by simp) rfl)
    replace v1 : f 22 = _ := v1
    rw [v1] at hV ⊢
    clear v1
    have v3 := hZ.get 3 rfl (hd ⟨3, .data⟩ (by simp) rfl)
    obtain ⟨A8, n8, c8, e8⟩ := NatB.shape v3
    replace e8 : f 24 = _ := e8
    replace v3 : NatB W (f 24) _ _ := v3
    rw [e8] at v3 hV ⊢
    clear e8
    go_simp
    refine (reduce_any (HV.out.num.below S2.out.low) v3 (by omega) (by omega) q.den_pos).mono ?_
    rintro e w' ⟨A9, n9, c9, A10, n10, c10, A11, n11, c11, rfl, hx1, hx2, hx3, hb⟩
    exact hV.out _ _ (hZ.val hok 4 rfl hb ⟨A9, n9, c9, A10, n10, c10, A11, n11, c11, rfl, hx1, hx2, hx3⟩)
  · intro L f W hZ hi hd K hK
    have hV := stepV (d := 20) (f := f) hK (by decide) (by decide)
    clear hK
    simp only [fillA, fillT, Act.put, List.foldl_cons, List.foldl_nil, List.setIfInBounds_toArray, List.set_cons_zero, List.set_cons_succ] at hV ⊢
    have v := hZ.get 4 rfl (hd ⟨4, .data⟩ (by simp) rfl)
    go_simp
    exact hV.out _ _ (hZ.val hok 5 rfl (Below.refl _ _) v)
  · intro L f W hZ hi hd K hK
    have hV := stepV (d := 26) (f := f) hK (by decide) (by decide)
    clear hK
    simp only [fillA, fillT, Act.put, List.foldl_cons, List.foldl_nil, List.setIfInBounds_toArray, List.set_cons_zero, List.set_cons_succ] at hV ⊢
    obtain ⟨A9, n9, c9, A10, n10, c10, A11, n11, c11, e9, h0, h1, h2⟩ := hZ.get 5 rfl (hd ⟨5, .data⟩ (by simp) rfl)
    replace e9 : f 20 = _ := e9
    rw [e9] at hV ⊢
    clear e9
    go_simp
    exact hV.out _ _ (hZ.val hok 6 rfl (Below.refl _ _) h0)
  · intro L f W hZ hi hd K hK
    have hV := stepV (d := 27) (f := f) hK (by decide) (by decide)
    clear hK
    simp only [fillA, fillT, Act.put, List.foldl_cons, List.foldl_nil, List.setIfInBounds_toArray, List.set_cons_zero, List.set_cons_succ] at hV ⊢
    obtain ⟨A9, n9, c9, A10, n10, c10, A11, n11, c11, e9, h0, h1, h2⟩ := hZ.get 5 rfl (hd ⟨5, .data⟩ (by simp) rfl)
    replace e9 : f 20 = _ := e9
    rw [e9] at hV ⊢
    clear e9
    go_simp
    exact hV.out _ _ (hZ.val hok 7 rfl (Below.refl _ _) h1)
  · intro L f W hZ hi hd K hK
    have hV := stepV (d := 28) (f := f) hK (by decide) (by decide)
    clear hK
    simp only [fillA, fillT, Act.put, List.foldl_cons, List.foldl_nil, List.setIfInBounds_toArray, List.set_cons_zero, List.set_cons_succ] at hV ⊢
    obtain ⟨A9, n9, c9, A10, n10, c10, A11, n11, c11, e9, h0, h1, h2⟩ := hZ.get 5 rfl (hd ⟨5, .data⟩ (by simp) rfl)
    replace e9 : f 20 = _ := e9
    rw [e9] at hV ⊢
    clear e9
    go_simp
    exact hV.out _ _ (hZ.val hok 8 rfl (Below.refl _ _) h2)
  · intro L f W hZ hi hd K hK
    have hV := stepV (d := 8) (f := f) hK (by decide) (by decide)
    clear hK
    simp only [fillA, fillT, Act.put, List.foldl_cons, List.foldl_nil, List.setIfInBounds_toArray, List.set_cons_zero, List.set_cons_succ] at hV ⊢
    go_simp
    exact hV.out _ _ (hZ.alloc hok 0 rfl hi)
  · intro L f W hZ hi hd K hK
    have hV := stepV (d := 9) (f := f) hK (by decide) (by decide)
    clear hK
    simp only [fillA, fillT, Act.put, List.foldl_cons, List.foldl_nil, List.setIfInBounds_toArray, List.set_cons_zero, List.set_cons_succ] at hV ⊢
    go_simp
    exact hV.out _ _ (hZ.alloc hok 1 rfl hi)
  · intro L f W hZ hi hd K hK
    have hV := stepV (d := 10) (f := f) hK (by decide) (by decide)
    clear hK
    simp only [fillA, fillT, Act.put, List.foldl_cons, List.foldl_nil, List.setIfInBounds_toArray, List.set_cons_zero, List.set_cons_succ] at hV ⊢
    go_simp
    exact hV.out _ _ (hZ.alloc hok 2 rfl hi)
  · intro L f W hZ hi hd K hK
    have hV := stepS (f := f) hK
    clear hK
    simp only [fillA, fillT, Act.put, List.foldl_cons, List.foldl_nil, List.setIfInBounds_toArray, List.set_cons_zero, List.set_cons_succ] at hV ⊢
    have v := hZ.get 6 rfl (hd ⟨6, .data⟩ (by simp) rfl)
    have hL := hd ⟨9, .data⟩ (by simp) rfl
    obtain ⟨g, cs, e1, -, hbk, -, hz0, -⟩ := hZ.box 0 rfl hL
    obtain rfl := hz0 hi
    replace e1 : f 8 = _ := e1
    obtain ⟨A0, n0, c0, e2⟩ := NatB.shape v
    replace e2 : f 26 = _ := e2
    replace v : NatB W (f 26) _ _ := v
    rw [e2] at v
    rw [e1, e2] at hV ⊢
    have E1 := Lib.hid e1
    clear e1 e2
    have q1 := hbk.cell (i := 0) rfl
    have q2 := hbk.frozen (i := 0)
    go_simp
    exact hV.out _ (hZ.store1 hok 0 rfl E1.out hL hi rfl noint_slice v)
  · intro L f W hZ hi hd K hK
    have hV := stepS (f := f) hK
    clear hK
    simp only [fillA, fillT, Act.put, List.foldl_cons, List.foldl_nil, List.setIfInBounds_toArray, List.set_cons_zero, List.set_cons_succ] at hV ⊢
    have v := hZ.get 7 rfl (hd ⟨7, .data⟩ (by simp) rfl)
    have hL := hd ⟨10, .data⟩ (by simp) rfl
    obtain ⟨g, cs, e1, -, hbk, -, hz0, -⟩ := hZ.box 1 rfl hL
    obtain rfl := hz0 hi
    replace e1 : f 9 = _ := e1
    obtain ⟨A0, n0, c0, e2⟩ := NatB.shape v
    replace e2 : f 27 = _ := e2
    replace v : NatB W (f 27) _ _ := v
    rw [e2] at v
    rw [e1, e2] at hV ⊢
    have E1 := Lib.hid e1
    clear e1 e2
    have q1 := hbk.cell (i := 0) rfl
    have q2 := hbk.frozen (i := 0)
    go_simp
    exact hV.out _ (hZ.store1 hok 1 rfl E1.out hL hi rfl noint_slice v)
  · intro L f W hZ hi hd K hK
    have hV := stepS (f := f) hK
    clear hK
    simp only [fillA, fillT, Act.put, List.foldl_cons, List.foldl_nil, List.setIfInBounds_toArray, List.set_cons_zero, List.set_cons_succ] at hV ⊢
    have v := hZ.get 8 rfl (hd ⟨8, .data⟩ (by simp) rfl)
    have hL := hd ⟨11, .data⟩ (by simp) rfl
    obtain ⟨g, cs, e1, -, hbk, -, hz0, -⟩ := hZ.box 2 rfl hL
    obtain rfl := hz0 hi
    replace e1 : f 10 = _ := e1
    obtain ⟨A0, n0, c0, e2⟩ := NatB.shape v
    replace e2 : f 28 = _ := e2
    replace v : NatB W (f 28) _ _ := v
    rw [e2] at v
    rw [e1, e2] at hV ⊢
    have E1 := Lib.hid e1
    clear e1 e2
    have q1 := hbk.cell (i := 0) rfl
    have q2 := hbk.frozen (i := 0)
    go_simp
    exact hV.out _ (hZ.store1 hok 2 rfl E1.out hL hi rfl noint_slice v)
  intro L f2 W2 hZ hL
  obtain ⟨g8, A8, n8, c8, e8, p8, S8, F8⟩ := hZ.takeN hok (S.out.drew.below hZ.1) (drew_low S.out) (Fr.begin S.out) 0 rfl (hL 9 (by decide)) (hL 12 (by decide)) (by simp)
  obtain ⟨g9, A9, n9, c9, e9, p9, S9, F9⟩ := hZ.takeN hok S8 (drew_low S.out) F8 1 rfl (hL 10 (by decide)) (hL 13 (by decide)) (by simp)
  obtain ⟨g10, A10, n10, c10, e10, p10, S10, F10⟩ := hZ.takeN hok S9 (drew_low S.out) F9 2 rfl (hL 11 (by decide)) (hL 14 (by decide)) (by simp)
  simp only [fillA, fillT, List.foldl_cons, List.foldl_nil, List.setIfInBounds_toArray, List.set_cons_zero, List.set_cons_succ]
  rw [e8, e9, e10]
  replace S := Lib.hid (((S10.push (stab_natB _ _ _) p8).push (stab_natB _ _ _) p9).push (stab_natB _ _ _) p10)
  clear e8 p8 S8 F8 e9 p9 S9 F9 e10 p10 S10 F10 hZ hL hok
  clear hD1 hD2
  go_wp2_with fail
  refine wp_region_held_drew (S := fun W' => W'.cell? ⟨w.heap.size, 0, none⟩ = some (.bool x) ∧ W'.cell? ⟨(w.heap.size + 1), 0, none⟩ = some (.bool y) ∧ W'.cell? ⟨g5, 0, none⟩ = some (.slice A5 n5 c5) ∧ W'.cell? ⟨g6, 0, none⟩ = some (.slice A6 n6 c6) ∧ W'.cell? ⟨g8, 0, none⟩ = some (.slice A8 n8 c8) ∧ W'.cell? ⟨g9, 0, none⟩ = some (.slice A9 n9 c9)) (by kernel_rfl) ⟨(S.out.drew.at 8 rfl).cell (i := 0) rfl, (S.out.drew.at 7 rfl).cell (i := 0) rfl, (S.out.drew.at 5 rfl).cell (i := 0) rfl, (S.out.drew.at 4 rfl).cell (i := 0) rfl, (S.out.drew.at 2 rfl).cell (i := 0) rfl, (S.out.drew.at 1 rfl).cell (i := 0) rfl⟩ (fun hHeld => ?_)
  replace S := Lib.hid S.out.drew
  generalize W2.drew = w4 at S hHeld ⊢
  refine wpAnyH_takeD 0 (v := ?_) rfl rfl (by kernel_rfl) (by kernel_rfl) (by kernel_rfl) (fun _ _ _ h => h) (Or.inl ⟨by rfl, ?_⟩) hHeld ?_
  rotate_left
  focus (intro w hSw; (try dsimp only at hSw); go_simp; try with_reducible rfl)
  simp only [List.setIfInBounds_toArray, List.set_cons_zero, List.set_cons_succ]
  refine wpAnyH_takeD 1 (v := ?_) rfl rfl (by kernel_rfl) (by kernel_rfl) (by kernel_rfl) (fun _ _ _ h => h) (Or.inl ⟨by rfl, ?_⟩) hHeld ?_
  rotate_left
  focus (intro w hSw; (try dsimp only at hSw); go_simp; try with_reducible rfl)
  simp only [List.setIfInBounds_toArray, List.set_cons_zero, List.set_cons_succ]
  refine wpAnyH_takeD 2 (v := ?_) rfl rfl (by kernel_rfl) (by kernel_rfl) (by kernel_rfl) (fun _ _ _ h => h) (Or.inl ⟨by rfl, ?_⟩) hHeld ?_
  rotate_left
  focus (intro w hSw; (try dsimp only at hSw); go_simp; try with_reducible rfl)
  simp only [List.setIfInBounds_toArray, List.set_cons_zero, List.set_cons_succ]
  refine wpAnyH_takeD 3 (v := ?_) rfl rfl (by kernel_rfl) (by kernel_rfl) (by kernel_rfl) (fun _ _ _ h => h) (Or.inl ⟨by rfl, ?_⟩) hHeld ?_
  rotate_left
  focus (intro w hSw; (try dsimp only at hSw); go_simp; try with_reducible rfl)
  simp only [List.setIfInBounds_toArray, List.set_cons_zero, List.set_cons_succ]
  refine wpAnyH_takeD 4 (v := ?_) rfl rfl (by kernel_rfl) (by kernel_rfl) (by kernel_rfl) (fun _ _ _ h => h) (Or.inl ⟨by rfl, ?_⟩) hHeld ?_
  rotate_left
  focus (intro w hSw; (try dsimp only at hSw); go_simp; try with_reducible rfl)
  simp only [List.setIfInBounds_toArray, List.set_cons_zero, List.set_cons_succ]
  refine wpAnyH_takeD 5 (v := ?_) rfl rfl (by kernel_rfl) (by kernel_rfl) (by kernel_rfl) (fun _ _ _ h => h) (Or.inl ⟨by rfl, ?_⟩) hHeld ?_
  rotate_left
  focus (intro w hSw; (try dsimp only at hSw); go_simp; try with_reducible rfl)
  simp only [List.setIfInBounds_toArray, List.set_cons_zero, List.set_cons_succ]
  refine wpAnyH_takeD 6 (v := ?_) rfl rfl (by kernel_rfl) (by kernel_rfl) (by kernel_rfl) (fun _ _ _ h => h) (Or.inl ⟨by rfl, ?_⟩) hHeld ?_
  rotate_left
  focus (intro w hSw; (try dsimp only at hSw); go_simp; try with_reducible rfl)
  simp only [List.setIfInBounds_toArray, List.set_cons_zero, List.set_cons_succ]
  refine wpAnyH_takeD 8 (v := ?_) rfl rfl (by kernel_rfl) (by kernel_rfl) (by kernel_rfl) (fun _ _ _ h => h) (Or.inl ⟨by rfl, ?_⟩) hHeld ?_
  rotate_left
  focus (intro w hSw; (try dsimp only at hSw); go_simp; try with_reducible rfl)
  simp only [List.setIfInBounds_toArray, List.set_cons_zero, List.set_cons_succ]
  refine wpAnyH_takeD 9 (v := ?_) rfl rfl (by kernel_rfl) (by kernel_rfl) (by kernel_rfl) (fun _ _ _ h => h) (Or.inl ⟨by rfl, ?_⟩) hHeld ?_
  rotate_left
  focus (intro w hSw; (try dsimp only at hSw); go_simp; try with_reducible rfl)
  simp only [List.setIfInBounds_toArray, List.set_cons_zero, List.set_cons_succ]
  refine wpAnyH_ready (rs := [7]) (by kernel_rfl) (by simp) ?_
  refine AllReadyH.cons rfl (fun K hK => ?_) AllReadyH.nil
  go_simp
  refine (mulN (S.out.fact 5 rfl) (S.out.fact 2 rfl) (by omega) (by omega)).mono ?_
  rintro e w6 ⟨A13, n13, c13, rfl, hx, hb1⟩
  replace S := Lib.hid ((S.out.below hb1).push (stab_natB _ _ _) hx)
  clear hx hb1
  refine hK.out _ _ ⟨(S.out.at 8 rfl).cell (i := 0) rfl, (S.out.at 7 rfl).cell (i := 0) rfl, (S.out.at 5 rfl).cell (i := 0) rfl, (S.out.at 4 rfl).cell (i := 0) rfl, (S.out.at 2 rfl).cell (i := 0) rfl, (S.out.at 1 rfl).cell (i := 0) rfl⟩ (fun hHeld => ?_)
  clear hK K
  refine wpAnyH_ready (rs := [10]) (by kernel_rfl) (by simp) ?_
  refine AllReadyH.cons rfl (fun K hK => ?_) AllReadyH.nil
  go_simp
  refine (mulN (S.out.fact 2 rfl) (S.out.fact 5 rfl) (by omega) (by omega)).mono ?_
  rintro e w7 ⟨A14, n14, c14, rfl, hx, hb1⟩
  replace S := Lib.hid ((S.out.below hb1).push (stab_natB _ _ _) hx)
  clear hx hb1
  refine hK.out _ _ ⟨(S.out.at 8 rfl).cell (i := 0) rfl, (S.out.at 7 rfl).cell (i := 0) rfl, (S.out.at 5 rfl).cell (i := 0) rfl, (S.out.at 4 rfl).cell (i := 0) rfl, (S.out.at 2 rfl).cell (i := 0) rfl, (S.out.at 1 rfl).cell (i := 0) rfl⟩ (fun hHeld => ?_)
  clear hK K
  refine wpAnyH_ready (rs := [11]) (by kernel_rfl) (by simp) ?_
  refine AllReadyH.cons rfl (fun K hK => ?_) AllReadyH.nil
  go_simp
  obtain ⟨r1, r2, r3⟩ := mul_final (q := q) (r := r)
  rw [HX.out, HY.out] at r1
  have hQ := Lib.hid (reduced_any (b := x != y) (S.out.fact 1 rfl) ((S.out.fact 0 rfl).more (by omega : a + b ≤ a + b)) (by omega) r3 r2)
  rw [r1] at hQ
  refine hQ.out.mono ?_
  rintro e w8 ⟨b15, A15, n15, c15, A16, n16, c16, rfl, hq, hb1⟩
  replace S := Lib.hid ((S.out.below hb1).push (stab_ratP _ _ _) hq)
  clear hq hb1 hQ r1 r2 r3
  refine hK.out _ _ ⟨(S.out.at 8 rfl).cell (i := 0) rfl, (S.out.at 7 rfl).cell (i := 0) rfl, (S.out.at 5 rfl).cell (i := 0) rfl, (S.out.at 4 rfl).cell (i := 0) rfl, (S.out.at 2 rfl).cell (i := 0) rfl, (S.out.at 1 rfl).cell (i := 0) rfl⟩ (fun hHeld => ?_)
  clear hK K
  have c6x0 := (S.out.at 6 rfl).cell (i := 0) rfl
  have f6x0 := (S.out.at 6 rfl).frozen (i := 0)
  have c6x1 := (S.out.at 6 rfl).cell (i := 1) rfl
  have f6x1 := (S.out.at 6 rfl).frozen (i := 1)
  have c6x2 := (S.out.at 6 rfl).cell (i := 2) rfl
  have f6x2 := (S.out.at 6 rfl).frozen (i := 2)
  refine wpAnyH_ready (rs := [12]) (by kernel_rfl) (by simp) ?_
  refine AllReadyH.cons rfl (fun K hK => ?_) AllReadyH.nil
  go_simp
  replace S := Lib.hid (S.out.set3 6 rfl (noint_bool (b := b15)) (noint_slice (A := A15) (n := n15) (c := c15)) (noint_slice (A := A16) (n := n16) (c := c16)) rfl)
  refine hK.out _ _ ⟨(S.out.at 8 rfl).cell (i := 0) rfl, (S.out.at 7 rfl).cell (i := 0) rfl, (S.out.at 5 rfl).cell (i := 0) rfl, (S.out.at 4 rfl).cell (i := 0) rfl, (S.out.at 2 rfl).cell (i := 0) rfl, (S.out.at 1 rfl).cell (i := 0) rfl⟩ (fun hHeld => ?_)
  clear hK K
  refine wpAnyH_done (by kernel_rfl) ?_ _
  have c6x0 := (S.out.at 6 rfl).cell (i := 0) rfl
  have c6x1 := (S.out.at 6 rfl).cell (i := 1) rfl
  have c6x2 := (S.out.at 6 rfl).cell (i := 2) rfl
  go_wp2_with fail
  refine bodyPost_ret (v := .agg #[.bool b15, .slice A15 n15 c15, .slice A16 n16 c16]) (by simp [results, Tryz.results42, go_sem, c6x0, c6x1, c6x2]) rfl ?_
  exact ⟨b15, A15, n15, c15, A16, n16, c16, rfl, S.out.fact 0 rfl, S.out.low⟩
end Go.Proofs.YthfjbpbgnoonpaaGreatDoor
