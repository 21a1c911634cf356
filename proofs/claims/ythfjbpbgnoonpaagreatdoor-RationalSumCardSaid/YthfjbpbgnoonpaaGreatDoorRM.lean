/- Contracts of package rational: Floor, Ceil. -/
import Derived.Test.YthfjbpbgnoonpaaGreatDoorRH
namespace Go.Proofs.YthfjbpbgnoonpaaGreatDoor
open Go.RowKit

/-- Quotient and remainder as a tuple. -/
def Dm (W : World) (x : Value) (k j a b : Nat) : Prop := ∃ A n c A2 n2 c2, x = .tuple #[.agg #[.slice A n c], .agg #[.slice A2 n2 c2], .int .i64 0] ∧ NatB W (.agg #[.slice A n c]) k a ∧ NatB W (.agg #[.slice A2 n2 c2]) j b
theorem stab_dm (x : Value) (k j a b : Nat) : Stab (fun W => Dm W x k j a b) :=
  stab_ex fun _ => stab_ex fun _ => stab_ex fun _ => stab_ex fun _ => stab_ex fun _ => stab_ex fun _ => stab_and stab_true (stab_and (stab_natB _ _ _) (stab_natB _ _ _))
theorem floor_pos {q : Rat} (h : ¬ q.num < 0) : sg false (q.num.natAbs / q.den) = q.floor := by
  rw [Rat.floor_def]
  show ((q.num.natAbs / q.den : Nat) : Int) = _
  rw [Int.natCast_ediv, Int.natAbs_of_nonneg (by omega)]
theorem floor_neg {q : Rat} (h : q.num < 0) : sg true (if q.num.natAbs % q.den = 0 then q.num.natAbs / q.den else q.num.natAbs / q.den + 1) = q.floor := by
  rw [Rat.floor_def]
  have hd := q.den_pos
  have e := Nat.div_add_mod q.num.natAbs q.den
  have hl := Nat.mod_lt q.num.natAbs hd
  generalize q.num.natAbs / q.den = k at *
  generalize hm : q.num.natAbs % q.den = m at *
  symm
  by_cases h0 : m = 0
  · rw [if_pos h0]
    refine ((Int.ediv_emod_unique (r := 0) (by omega : (0 : Int) < q.den)).2 ⟨?_, by omega, by omega⟩).1
    show 0 + (q.den : Int) * (-(k : Int)) = q.num
    rw [Int.mul_neg, ← Int.natCast_mul]
    omega
  · rw [if_neg h0]
    refine ((Int.ediv_emod_unique (r := ((q.den - m : Nat) : Int)) (by omega : (0 : Int) < q.den)).2 ⟨?_, by omega, by omega⟩).1
    show ((q.den - m : Nat) : Int) + (q.den : Int) * (-((k + 1 : Nat) : Int)) = q.num
    rw [Int.mul_neg, ← Int.natCast_mul, Nat.mul_add]
    omega
set_option maxRecDepth 100000 in
set_option maxHeartbeats 16000000 in
theorem floor_any {w : World} {v : Value} {q : Rat} {a : Nat} (hv : RatP w v q a) (ha : a ≤ 300) : Calls Tryz.prog 45 #[v] w (OpQ w (mkRat q.floor 1) (a + 3)) := by
  have hD := Lib.hid (fun W (hw : Below w.heap.size w W) => den_any (hv.below hw) (by omega : a ≤ 400))
  have HV := Lib.hid hv
  obtain ⟨A, n, c, A2, n2, c2, rfl⟩ := hv.shape
  obtain ⟨w1, hw1, S⟩ := enter2 w [.bool (decide (q.num < 0)), .slice A n c, .slice A2 n2 c2] 30 [.bool false, .slice none 0 0, .slice none 0 0] 30 (by decide) noint3 (by decide) noint3
  clear hv
  obtain ⟨x, hx⟩ : ∃ x, decide (q.num < 0) = x := ⟨_, rfl⟩
  rw [hx] at hD HV S hw1 ⊢
  have hI := Lib.hid (fun W A n c k (h : NatB W (.agg #[.slice A n c]) k (a + 3)) => integer_any (b := x) h (by omega) (by omega))
  have hO := Lib.hid (fun W => ofN (W := W) 1 (k := 1) rfl (by omega))
  have HX := Lib.hid hx
  clear hx
  go_enter Tryz.func45, Tryz.ntmps45
  go_wp2_with fail
  clear hw1
  have hok : ZOk [(0, 7, fun _ z => z = .pointer (some ⟨w.heap.size, 1, none⟩)), (1, 8, fun _ z => z = .agg #[.slice A n c]), (2, 9, fun _ z => z = .agg #[.bool x, .slice A n c, .slice A2 n2 c2]), (3, 10, fun W z => NatB W z q.den a), (4, 11, fun W z => Dm W z (q.num.natAbs / q.den) (q.num.natAbs % q.den) a a), (5, 6, fun W z => Dm W z (q.num.natAbs / q.den) (q.num.natAbs % q.den) a a), (6, 12, fun W z => NatB W z (q.num.natAbs / q.den) a), (7, 13, fun W z => NatB W z (q.num.natAbs % q.den) a), (8, 14, fun _ z => z = .int .i64 0), (13, 5, fun _ z => z = .int .i64 0)] [bxN 9 11 3 (q.num.natAbs / q.den) a, bxN 10 12 4 (q.num.natAbs % q.den) a] := ⟨by simp, by simp [bxN], by simp [bxN], by simp [bxN], List.forall_mem_cons.2 ⟨fun x => stab_true, List.forall_mem_cons.2 ⟨fun x => stab_true, List.forall_mem_cons.2 ⟨fun x => stab_true, List.forall_mem_cons.2 ⟨fun x => stab_natB _ _ _, List.forall_mem_cons.2 ⟨fun x => stab_dm _ _ _ _ _, List.forall_mem_cons.2 ⟨fun x => stab_dm _ _ _ _ _, List.forall_mem_cons.2 ⟨fun x => stab_natB _ _ _, List.forall_mem_cons.2 ⟨fun x => stab_natB _ _ _, List.forall_mem_cons.2 ⟨fun x => stab_true, List.forall_mem_cons.2 ⟨fun x => stab_true, List.forall_mem_nil _⟩⟩⟩⟩⟩⟩⟩⟩⟩⟩, List.forall_mem_cons.2 ⟨bxN_ok _ _ _ _ _, List.forall_mem_cons.2 ⟨bxN_ok _ _ _ _ _, List.forall_mem_nil _⟩⟩⟩
  refine wp_region_Y hok [7, 8, 9, 10, 11, 6, 12, 13, 14, 5, 3, 4] (by kernel_rfl) (by kernel_rfl) ⟨?_, ?_, ?_, ?_, ?_, ?_, ?_, ?_, ?_, ?_, ?_, ?_, ?_, ?_, trivial⟩ ?_
  · intro L f W hZ hi hd K hK
    have hV := stepV (d := 7) (f := f) hK (by decide) (by decide)
    clear hK
    simp only [fillA, fillT, Act.put, List.foldl_cons, List.foldl_nil, List.setIfInBounds_toArray, List.set_cons_zero, List.set_cons_succ] at hV ⊢
    go_simp
    exact hV.out _ _ (hZ.val hok 0 rfl (Below.refl _ _) rfl)
  · intro L f W hZ hi hd K hK
    have hV := stepV (d := 8) (f := f) hK (by decide) (by decide)
    clear hK
    simp only [fillA, fillT, Act.put, List.foldl_cons, List.foldl_nil, List.setIfInBounds_toArray, List.set_cons_zero, List.set_cons_succ] at hV ⊢
    have S2 := Lib.hid (S.out.drew.below hZ.1)
    have c1x1 := (S2.out.at 1 rfl).cell (i := 1) rfl
    have v0 := hZ.get 0 rfl (hd ⟨0, .data⟩ (by simp) rfl)
    replace v0 : f 7 = _ := v0
    rw [v0] at hV ⊢
    clear v0
    go_simp
    exact hV.out _ _ (hZ.val hok 1 rfl (Below.refl _ _) rfl)
  · intro L f W hZ hi hd K hK
    have hV := stepV (d := 9) (f := f) hK (by decide) (by decide)
    clear hK
    simp only [fillA, fillT, Act.put, List.foldl_cons, List.foldl_nil, List.setIfInBounds_toArray, List.set_cons_zero, List.set_cons_succ] at hV ⊢
    have S2 := Lib.hid (S.out.drew.below hZ.1)
    have c1x0 := (S2.out.at 1 rfl).cell (i := 0) rfl
    have c1x1 := (S2.out.at 1 rfl).cell (i := 1) rfl
    have c1x2 := (S2.out.at 1 rfl).cell (i := 2) rfl
    go_simp
    exact hV.out _ _ (hZ.val hok 2 rfl (Below.refl _ _) rfl)
  · intro L f W hZ hi hd K hK
    have hV := stepV (d := 10) (f := f) hK (by decide) (by decide)
    clear hK
    simp only [fillA, fillT, Act.put, List.foldl_cons, List.foldl_nil, List.setIfInBounds_toArray, List.set_cons_zero, List.set_cons_succ] at hV ⊢
    have v2 := hZ.get 2 rfl (hd ⟨2, .data⟩ (by simp) rfl)
    replace v2 : f 9 = _ := v2
    rw [v2] at hV ⊢
    clear v2
    go_simp
    refine (hD.out _ (S.out.drew.below hZ.1).low).mono ?_
    rintro e w' ⟨A9, n9, c9, rfl, hx, hb⟩
    exact hV.out _ _ (hZ.val hok 3 rfl hb hx)
  · intro L f W hZ hi hd K hK
    have hV := stepV (d := 11) (f := f) hK (by decide) (by decide)
    clear hK
    simp only [fillA, fillT, Act.put, List.foldl_cons, List.foldl_nil, List.setIfInBounds_toArray, List.set_cons_zero, List.set_cons_succ] at hV ⊢
    have S2 := Lib.hid (S.out.drew.below hZ.1)
    have v1 := hZ.get 1 rfl (hd ⟨1, .data⟩ (by simp) rfl)
    replace v1 : f 8 = _ := v1
    rw [v1] at hV ⊢
    clear v1
    have v3 := hZ.get 3 rfl (hd ⟨3, .data⟩ (by simp) rfl)
    obtain ⟨A8, n8, c8, e8⟩ := NatB.shape v3
    replace e8 : f 10 = _ := e8
    replace v3 : NatB W (f 10) _ _ := v3
    rw [e8] at v3 hV ⊢
    clear e8
    go_simp
    refine (divN (HV.out.num.below S2.out.low) v3 (by omega) (by omega) q.den_pos).mono ?_
    rintro e w' ⟨A9, n9, c9, A10, n10, c10, rfl, hx1, hx2, hb⟩
    exact hV.out _ _ (hZ.val hok 4 rfl hb ⟨A9, n9, c9, A10, n10, c10, rfl, hx1, hx2⟩)
  · intro L f W hZ hi hd K hK
    have hV := stepV (d := 6) (f := f) hK (by decide) (by decide)
    clear hK
    simp only [fillA, fillT, Act.put, List.foldl_cons, List.foldl_nil, List.setIfInBounds_toArray, List.set_cons_zero, List.set_cons_succ] at hV ⊢
    have v := hZ.get 4 rfl (hd ⟨4, .data⟩ (by simp) rfl)
    go_simp
    exact hV.out _ _ (hZ.val hok 5 rfl (Below.refl _ _) v)
  · intro L f W hZ hi hd K hK
    have hV := stepV (d := 12) (f := f) hK (by decide) (by decide)
    clear hK
    simp only [fillA, fillT, Act.put, List.foldl_cons, List.foldl_nil, List.setIfInBounds_toArray, List.set_cons_zero, List.set_cons_succ] at hV ⊢
    obtain ⟨A9, n9, c9, A10, n10, c10, e9, h1, h2⟩ := hZ.get 5 rfl (hd ⟨5, .data⟩ (by simp) rfl)
    replace e9 : f 6 = _ := e9
    rw [e9] at hV ⊢
    clear e9
    go_simp
    exact hV.out _ _ (hZ.val hok 6 rfl (Below.refl _ _) h1)
  · intro L f W hZ hi hd K hK
    have hV := stepV (d := 13) (f := f) hK (by decide) (by decide)
    clear hK
    simp only [fillA, fillT, Act.put, List.foldl_cons, List.foldl_nil, List.setIfInBounds_toArray, List.set_cons_zero, List.set_cons_succ] at hV ⊢
    obtain ⟨A9, n9, c9, A10, n10, c10, e9, h1, h2⟩ := hZ.get 5 rfl (hd ⟨5, .data⟩ (by simp) rfl)
    replace e9 : f 6 = _ := e9
    rw [e9] at hV ⊢
    clear e9
    go_simp
    exact hV.out _ _ (hZ.val hok 7 rfl (Below.refl _ _) h2)
  · intro L f W hZ hi hd K hK
    have hV := stepV (d := 14) (f := f) hK (by decide) (by decide)
    clear hK
    simp only [fillA, fillT, Act.put, List.foldl_cons, List.foldl_nil, List.setIfInBounds_toArray, List.set_cons_zero, List.set_cons_succ] at hV ⊢
    obtain ⟨A9, n9, c9, A10, n10, c10, e9, h1, h2⟩ := hZ.get 5 rfl (hd ⟨5, .data⟩ (by simp) rfl)
    replace e9 : f 6 = _ := e9
    rw [e9] at hV ⊢
    clear e9
    go_simp
    exact hV.out _ _ (hZ.val hok 8 rfl (Below.refl _ _) rfl)
  · intro L f W hZ hi hd K hK
    have hV := stepV (d := 3) (f := f) hK (by decide) (by decide)
    clear hK
    simp only [fillA, fillT, Act.put, List.foldl_cons, List.foldl_nil, List.setIfInBounds_toArray, List.set_cons_zero, List.set_cons_succ] at hV ⊢
    go_simp
    exact hV.out _ _ (hZ.alloc hok 0 rfl hi)
  · intro L f W hZ hi hd K hK
    have hV := stepV (d := 4) (f := f) hK (by decide) (by decide)
    clear hK
    simp only [fillA, fillT, Act.put, List.foldl_cons, List.foldl_nil, List.setIfInBounds_toArray, List.set_cons_zero, List.set_cons_succ] at hV ⊢
    go_simp
    exact hV.out _ _ (hZ.alloc hok 1 rfl hi)
  · intro L f W hZ hi hd K hK
    have hV := stepS (f := f) hK
    clear hK
    simp only [fillA, fillT, Act.put, List.foldl_cons, List.foldl_nil, List.setIfInBounds_toArray, List.set_cons_zero, List.set_cons_succ] at hV ⊢
    have v := hZ.get 6 rfl (hd ⟨6, .data⟩ (by simp) rfl)
    have hL := hd ⟨9, .data⟩ (by simp) rfl
    obtain ⟨g, cs, e1, -, hbk, -, hz0, -⟩ := hZ.box 0 rfl hL
    obtain rfl := hz0 hi
    replace e1 : f 3 = _ := e1
    obtain ⟨A0, n0, c0, e2⟩ := NatB.shape v
    replace e2 : f 12 = _ := e2
    replace v : NatB W (f 12) _ _ := v
    rw [e2] at v
    rw [e1, e2] at hV ⊢
    have E1 := Lib.hid e1
    clear e1 e2
    have q1 := hbk.cell (i := 0) rfl
    have q2 := hbk.frozen (i := 0)
    go_simp
    exact hV.out _ (hZ.store1 hok 0 rfl E1.out hL hi rfl noint_slice v)
  · intro L f W hZ hi hd K hK
    have hV := stepS (f := f) hK
    clear hK
    simp only [fillA, fillT, Act.put, List.foldl_cons, List.foldl_nil, List.setIfInBounds_toArray, List.set_cons_zero, List.set_cons_succ] at hV ⊢
    have v := hZ.get 7 rfl (hd ⟨7, .data⟩ (by simp) rfl)
    have hL := hd ⟨10, .data⟩ (by simp) rfl
    obtain ⟨g, cs, e1, -, hbk, -, hz0, -⟩ := hZ.box 1 rfl hL
    obtain rfl := hz0 hi
    replace e1 : f 4 = _ := e1
    obtain ⟨A0, n0, c0, e2⟩ := NatB.shape v
    replace e2 : f 13 = _ := e2
    replace v : NatB W (f 13) _ _ := v
    rw [e2] at v
    rw [e1, e2] at hV ⊢
    have E1 := Lib.hid e1
    clear e1 e2
    have q1 := hbk.cell (i := 0) rfl
    have q2 := hbk.frozen (i := 0)
    go_simp
    exact hV.out _ (hZ.store1 hok 1 rfl E1.out hL hi rfl noint_slice v)
  · intro L f W hZ hi hd K hK
    have hV := stepV (d := 5) (f := f) hK (by decide) (by decide)
    clear hK
    simp only [fillA, fillT, Act.put, List.foldl_cons, List.foldl_nil, List.setIfInBounds_toArray, List.set_cons_zero, List.set_cons_succ] at hV ⊢
    have v8 := hZ.get 8 rfl (hd ⟨8, .data⟩ (by simp) rfl)
    replace v8 : f 14 = _ := v8
    rw [v8] at hV ⊢
    clear v8
    go_simp
    exact hV.out _ _ (hZ.val hok 9 rfl (Below.refl _ _) rfl)
  intro L f W hZ hL
  obtain ⟨g3, A3, n3, c3, e3, p3, S3, F3⟩ := hZ.takeN hok (S.out.drew.below hZ.1) (drew_low S.out) (Fr.begin S.out) 0 rfl (hL 9 (by decide)) (hL 11 (by decide)) (by simp)
  obtain ⟨g4, A4, n4, c4, e4, p4, S4, F4⟩ := hZ.takeN hok S3 (drew_low S.out) F3 1 rfl (hL 10 (by decide)) (hL 12 (by decide)) (by simp)
  simp only [fillA, fillT, List.foldl_cons, List.foldl_nil, List.setIfInBounds_toArray, List.set_cons_zero, List.set_cons_succ]
  rw [e3, e4]
  replace S := Lib.hid ((S4.push (stab_natB _ _ _) p3).push (stab_natB _ _ _) p4)
  clear e3 e4 p3 p4 S3 S4 F3 F4 hZ hL hok hD
  have hx := HX.out
  cases x
  · have hfl := Lib.hid (floor_pos (q := q) (by simpa using hx))
    clear hx
    have c3x0 := (S.out.at 3 rfl).cell (i := 0) rfl
    have c1x0 := (S.out.at 1 rfl).cell (i := 0) rfl
    go_wp2_with fail
    refine (hI.out _ _ _ _ _ ((S.out.fact 1 rfl).more (by omega))).mono ?_
    rintro e w8 ⟨b15, A15, n15, c15, A16, n16, c16, rfl, hq, hb1⟩
    rw [hfl.out] at hq
    replace S := Lib.hid ((S.out.below hb1).push (stab_ratP _ _ _) hq)
    clear hq hb1
    have c2x0 := (S.out.at 2 rfl).cell (i := 0) rfl
    have f2x0 := (S.out.at 2 rfl).frozen (i := 0)
    have c2x1 := (S.out.at 2 rfl).cell (i := 1) rfl
    have f2x1 := (S.out.at 2 rfl).frozen (i := 1)
    have c2x2 := (S.out.at 2 rfl).cell (i := 2) rfl
    have f2x2 := (S.out.at 2 rfl).frozen (i := 2)
    go_wp2_with fail
    replace S := Lib.hid (S.out.set3 2 rfl (noint_bool (b := b15)) (noint_slice (A := A15) (n := n15) (c := c15)) (noint_slice (A := A16) (n := n16) (c := c16)) rfl)
    have c2x0 := (S.out.at 2 rfl).cell (i := 0) rfl
    have c2x1 := (S.out.at 2 rfl).cell (i := 1) rfl
    have c2x2 := (S.out.at 2 rfl).cell (i := 2) rfl
    refine bodyPost_ret (v := .agg #[.bool b15, .slice A15 n15 c15, .slice A16 n16 c16]) (by simp [results, Tryz.results45, go_sem, c2x0, c2x1, c2x2]) rfl ?_
    exact ⟨b15, A15, n15, c15, A16, n16, c16, rfl, S.out.fact 0 rfl, S.out.low⟩
  · have hfl := floor_neg (q := q) (by simpa using hx)
    have hz := Lib.hid (zeroN (S.out.fact 0 rfl) (by omega))
    have HR := Lib.hid (S.out.fact 0 rfl)
    clear hx
    have c3x0 := (S.out.at 3 rfl).cell (i := 0) rfl
    have c0x0 := (S.out.at 0 rfl).cell (i := 0) rfl
    by_cases hm : q.num.natAbs % q.den = 0
    · rw [if_pos hm] at hfl
      rw [decide_eq_true hm] at hz
      have HFL := Lib.hid hfl
      clear hfl hm
      go_wp2_with fail
      refine hz.out.mono ?_
      rintro e w5 ⟨rfl, hb1⟩
      replace S := Lib.hid (S.out.below hb1)
      clear hb1 hz c3x0 c0x0
      have c3x0 := (S.out.at 3 rfl).cell (i := 0) rfl
      have c1x0 := (S.out.at 1 rfl).cell (i := 0) rfl
      go_wp2_with fail
      refine (hI.out _ _ _ _ _ ((S.out.fact 1 rfl).more (by omega))).mono ?_
      rintro e w8 ⟨b15, A15, n15, c15, A16, n16, c16, rfl, hq, hb1⟩
      rw [HFL.out] at hq
      replace S := Lib.hid ((S.out.below hb1).push (stab_ratP _ _ _) hq)
      clear hq hb1
      have c2x0 := (S.out.at 2 rfl).cell (i := 0) rfl
      have f2x0 := (S.out.at 2 rfl).frozen (i := 0)
      have c2x1 := (S.out.at 2 rfl).cell (i := 1) rfl
      have f2x1 := (S.out.at 2 rfl).frozen (i := 1)
      have c2x2 := (S.out.at 2 rfl).cell (i := 2) rfl
      have f2x2 := (S.out.at 2 rfl).frozen (i := 2)
      go_wp2_with fail
      replace S := Lib.hid (S.out.set3 2 rfl (noint_bool (b := b15)) (noint_slice (A := A15) (n := n15) (c := c15)) (noint_slice (A := A16) (n := n16) (c := c16)) rfl)
      have c2x0 := (S.out.at 2 rfl).cell (i := 0) rfl
      have c2x1 := (S.out.at 2 rfl).cell (i := 1) rfl
      have c2x2 := (S.out.at 2 rfl).cell (i := 2) rfl
      refine bodyPost_ret (v := .agg #[.bool b15, .slice A15 n15 c15, .slice A16 n16 c16]) (by simp [results, Tryz.results45, go_sem, c2x0, c2x1, c2x2]) rfl ?_
      exact ⟨b15, A15, n15, c15, A16, n16, c16, rfl, S.out.fact 0 rfl, S.out.low⟩
    · rw [if_neg hm] at hfl
      rw [decide_eq_false hm] at hz
      have HFL := Lib.hid hfl
      clear hfl hm
      go_wp2_with fail
      refine hz.out.mono ?_
      rintro e w5 ⟨rfl, hb1⟩
      replace S := Lib.hid (S.out.below hb1)
      clear hb1 hz c3x0 c0x0
      go_wp2_with fail
      refine wp_region_held_drew (S := fun _ => True) (by kernel_rfl) trivial (fun hHeld => ?_)
      replace S := Lib.hid S.out.drew
      generalize w5.drew = w6 at S ⊢
      refine wpAnyH_ready (rs := [0, 1]) (by kernel_rfl) (by simp) ?_
      refine AllReadyH.cons rfl (fun K hK => ?_) ?_
      · have q1 := (S.out.at 1 rfl).cell (i := 0) rfl
        go_simp
        clear q1
        refine hK.out _ _ trivial (fun hHeld => ?_)
        clear hK K
        refine wpAnyH_ready (rs := [1]) (by kernel_rfl) (by simp) ?_
        refine AllReadyH.cons rfl (fun K hK => ?_) AllReadyH.nil
        go_simp
        refine (hO.out _).mono ?_
        rintro e w7 ⟨A5, n5, c5, rfl, hx, hb1⟩
        replace S := Lib.hid ((S.out.below hb1).push (stab_natB _ _ _) hx)
        clear hx hb1
        refine hK.out _ _ trivial (fun hHeld => ?_)
        clear hK K
        refine wpAnyH_ready (rs := [2]) (by kernel_rfl) (by simp) ?_
        refine AllReadyH.cons rfl (fun K hK => ?_) AllReadyH.nil
        go_simp
        refine (addN (S.out.fact 2 rfl) (S.out.fact 0 rfl) (by omega) (by omega)).mono ?_
        rintro e w9 ⟨A6, n6, c6, rfl, hx, hb1⟩
        replace S := Lib.hid ((S.out.below hb1).push (stab_natB _ _ _) hx)
        clear hx hb1
        refine hK.out _ _ trivial (fun hHeld => ?_)
        clear hK K
        have q1 := (S.out.at 1 rfl).cell (i := 0) rfl
        have q2 := (S.out.at 1 rfl).frozen (i := 0)
        refine wpAnyH_ready (rs := [3]) (by kernel_rfl) (by simp) ?_
        refine AllReadyH.cons rfl (fun K hK => ?_) AllReadyH.nil
        go_simp
        clear q1 q2
        replace S := Lib.hid (S.out.set 1 rfl (i := 0) (u := .slice A6 n6 c6) (by simp) noint_slice rfl)
        simp only [List.set_cons_zero, List.set_cons_succ] at S
        refine hK.out _ _ trivial (fun hHeld => ?_)
        clear hK K
        generalize World.setCell w9 _ _ = w10 at S ⊢
        refine wpAnyH_done (by kernel_rfl) ?_ _
        have c3x0 := (S.out.at 3 rfl).cell (i := 0) rfl
        have c1x0 := (S.out.at 1 rfl).cell (i := 0) rfl
        go_wp2_with fail
        refine (hI.out _ _ _ _ _ (S.out.fact 0 rfl)).mono ?_
        rintro e w8 ⟨b15, A15, n15, c15, A16, n16, c16, rfl, hq, hb1⟩
        rw [HFL.out] at hq
        replace S := Lib.hid ((S.out.below hb1).push (stab_ratP _ _ _) hq)
        clear hq hb1
        have c2x0 := (S.out.at 2 rfl).cell (i := 0) rfl
        have f2x0 := (S.out.at 2 rfl).frozen (i := 0)
        have c2x1 := (S.out.at 2 rfl).cell (i := 1) rfl
        have f2x1 := (S.out.at 2 rfl).frozen (i := 1)
        have c2x2 := (S.out.at 2 rfl).cell (i := 2) rfl
        have f2x2 := (S.out.at 2 rfl).frozen (i := 2)
        go_wp2_with fail
        replace S := Lib.hid (S.out.set3 2 rfl (noint_bool (b := b15)) (noint_slice (A := A15) (n := n15) (c := c15)) (noint_slice (A := A16) (n := n16) (c := c16)) rfl)
        have c2x0 := (S.out.at 2 rfl).cell (i := 0) rfl
        have c2x1 := (S.out.at 2 rfl).cell (i := 1) rfl
        have c2x2 := (S.out.at 2 rfl).cell (i := 2) rfl
        refine bodyPost_ret (v := .agg #[.bool b15, .slice A15 n15 c15, .slice A16 n16 c16]) (by simp [results, Tryz.results45, go_sem, c2x0, c2x1, c2x2]) rfl ?_
        exact ⟨b15, A15, n15, c15, A16, n16, c16, rfl, S.out.fact 0 rfl, S.out.low⟩
      · refine AllReadyH.cons rfl (fun K hK => ?_) AllReadyH.nil
        go_simp
        refine (hO.out _).mono ?_
        rintro e w7 ⟨A5, n5, c5, rfl, hx, hb1⟩
        replace S := Lib.hid ((S.out.below hb1).push (stab_natB _ _ _) hx)
        clear hx hb1
        refine hK.out _ _ trivial (fun hHeld => ?_)
        clear hK K
        have q1 := (S.out.at 1 rfl).cell (i := 0) rfl
        refine wpAnyH_ready (rs := [0]) (by kernel_rfl) (by simp) ?_
        refine AllReadyH.cons rfl (fun K hK => ?_) AllReadyH.nil
        go_simp
        clear q1
        refine hK.out _ _ trivial (fun hHeld => ?_)
        clear hK K
        refine wpAnyH_ready (rs := [2]) (by kernel_rfl) (by simp) ?_
        refine AllReadyH.cons rfl (fun K hK => ?_) AllReadyH.nil
        go_simp
        refine (addN (S.out.fact 2 rfl) (S.out.fact 0 rfl) (by omega) (by omega)).mono ?_
        rintro e w9 ⟨A6, n6, c6, rfl, hx, hb1⟩
        replace S := Lib.hid ((S.out.below hb1).push (stab_natB _ _ _) hx)
        clear hx hb1
        refine hK.out _ _ trivial (fun hHeld => ?_)
        clear hK K
        have q1 := (S.out.at 1 rfl).cell (i := 0) rfl
        have q2 := (S.out.at 1 rfl).frozen (i := 0)
        refine wpAnyH_ready (rs := [3]) (by kernel_rfl) (by simp) ?_
        refine AllReadyH.cons rfl (fun K hK => ?_) AllReadyH.nil
        go_simp
        clear q1 q2
        replace S := Lib.hid (S.out.set 1 rfl (i := 0) (u := .slice A6 n6 c6) (by simp) noint_slice rfl)
        simp only [List.set_cons_zero, List.set_cons_succ] at S
        refine hK.out _ _ trivial (fun hHeld => ?_)
        clear hK K
        generalize World.setCell w9 _ _ = w10 at S ⊢
        refine wpAnyH_done (by kernel_rfl) ?_ _
        have c3x0 := (S.out.at 3 rfl).cell (i := 0) rfl
        have c1x0 := (S.out.at 1 rfl).cell (i := 0) rfl
        go_wp2_with fail
        refine (hI.out _ _ _ _ _ (S.out.fact 0 rfl)).mono ?_
        rintro e w8 ⟨b15, A15, n15, c15, A16, n16, c16, rfl, hq, hb1⟩
        rw [HFL.out] at hq
        replace S := Lib.hid ((S.out.below hb1).push (stab_ratP _ _ _) hq)
        clear hq hb1
        have c2x0 := (S.out.at 2 rfl).cell (i := 0) rfl
        have f2x0 := (S.out.at 2 rfl).frozen (i := 0)
        have c2x1 := (S.out.at 2 rfl).cell (i := 1) rfl
        have f2x1 := (S.out.at 2 rfl).frozen (i := 1)
        have c2x2 := (S.out.at 2 rfl).cell (i := 2) rfl
        have f2x2 := (S.out.at 2 rfl).frozen (i := 2)
        go_wp2_with fail
        replace S := Lib.hid (S.out.set3 2 rfl (noint_bool (b := b15)) (noint_slice (A := A15) (n := n15) (c := c15)) (noint_slice (A := A16) (n := n16) (c := c16)) rfl)
        have c2x0 := (S.out.at 2 rfl).cell (i := 0) rfl
        have c2x1 := (S.out.at 2 rfl).cell (i := 1) rfl
        have c2x2 := (S.out.at 2 rfl).cell (i := 2) rfl
        refine bodyPost_ret (v := .agg #[.bool b15, .slice A15 n15 c15, .slice A16 n16 c16]) (by simp [results, Tryz.results45, go_sem, c2x0, c2x1, c2x2]) rfl ?_
        exact ⟨b15, A15, n15, c15, A16, n16, c16, rfl, S.out.fact 0 rfl, S.out.low⟩
set_option maxRecDepth 100000 in
set_option maxHeartbeats 4000000 in
theorem ceil_any {w : World} {v : Value} {q : Rat} {a : Nat} (hv : RatP w v q a) (ha : a ≤ 300) : Calls Tryz.prog 47 #[v] w (OpQ w (mkRat q.ceil 1) (a + 3)) := by
  have hN := Lib.hid (fun W (hw : Below w.heap.size w W) => neg_any (hv.below hw) (by omega : a ≤ 400))
  obtain ⟨A, n, c, A2, n2, c2, rfl⟩ := hv.shape
  obtain ⟨w1, hw1, S⟩ := enter2 w [.bool (decide (q.num < 0)), .slice A n c, .slice A2 n2 c2] 30 [.bool false, .slice none 0 0, .slice none 0 0] 30 (by decide) noint3 (by decide) noint3
  clear hv
  generalize decide (q.num < 0) = x at hN S hw1 ⊢
  have c1x0 := (S.out.at 1 rfl).cell (i := 0) rfl
  have c1x1 := (S.out.at 1 rfl).cell (i := 1) rfl
  have c1x2 := (S.out.at 1 rfl).cell (i := 2) rfl
  go_enter Tryz.func47, Tryz.ntmps47
  go_wp2_with fail
  refine (hN.out _ S.out.low).mono ?_
  rintro e w2 ⟨b5, A5, n5, c5, A6, n6, c6, rfl, hq, hb1⟩
  replace S := Lib.hid ((S.out.below hb1).push (stab_ratP _ _ _) hq)
  clear hq hb1 hN hw1 c1x0 c1x1 c1x2
  go_wp2_with fail
  refine (floor_any (S.out.fact 0 rfl) ha).mono ?_
  rintro e w3 ⟨b7, A7, n7, c7, A8, n8, c8, rfl, hq, hb1⟩
  replace S := Lib.hid ((S.out.below hb1).push (stab_ratP _ _ _) hq)
  clear hq hb1
  go_wp2_with fail
  refine (neg_any (S.out.fact 0 rfl) (by omega)).mono ?_
  rintro e w4 ⟨b9, A9, n9, c9, A10, n10, c10, rfl, hq, hb1⟩
  rw [Rat.neg_mkRat, ← Rat.ceil_eq_neg_floor_neg] at hq
  replace S := Lib.hid ((S.out.below hb1).push (stab_ratP _ _ _) hq)
  clear hq hb1
  have c0x0 := (S.out.at 0 rfl).cell (i := 0) rfl
  have f0x0 := (S.out.at 0 rfl).frozen (i := 0)
  have c0x1 := (S.out.at 0 rfl).cell (i := 1) rfl
  have f0x1 := (S.out.at 0 rfl).frozen (i := 1)
  have c0x2 := (S.out.at 0 rfl).cell (i := 2) rfl
  have f0x2 := (S.out.at 0 rfl).frozen (i := 2)
  go_wp2_with fail
  replace S := Lib.hid (S.out.set3 0 rfl (noint_bool (b := b9)) (noint_slice (A := A9) (n := n9) (c := c9)) (noint_slice (A := A10) (n := n10) (c := c10)) rfl)
  have c0x0 := (S.out.at 0 rfl).cell (i := 0) rfl
  have c0x1 := (S.out.at 0 rfl).cell (i := 1) rfl
  have c0x2 := (S.out.at 0 rfl).cell (i := 2) rfl
  refine bodyPost_ret (v := .agg #[.bool b9, .slice A9 n9 c9, .slice A10 n10 c10]) (by simp [results, Tryz.results47, go_sem, c0x0, c0x1, c0x2]) rfl ?_
  exact ⟨b9, A9, n9, c9, A10, n10, c10, rfl, S.out.fact 0 rfl, S.out.low⟩
end Go.Proofs.YthfjbpbgnoonpaaGreatDoor
