/- The laws' helpers brief and of. -/
import Derived.Test.YthfjbpbgnoonpaaGreatDoorRX
import Derived.LoopTactic
namespace Go.Proofs.YthfjbpbgnoonpaaGreatDoor
open Go.RowKit

set_option maxRecDepth 100000 in
set_option maxHeartbeats 2000000 in
theorem brief_any {w : World} {g n cap : Nat} {ln lm : Nat → Nat} (hn : n ≤ 100) (hl : ∀ i, i < n → ln i ≤ 9223372036854775807 ∧ lm i ≤ 9223372036854775807)
    (h : ∀ i, i < n → ∃ A c B d, w.cell? ⟨g, i * 3 + 1, none⟩ = some (.slice A (ln i) c) ∧ w.cell? ⟨g, i * 3 + 2, none⟩ = some (.slice B (lm i) d)) :
    Calls Tryz.prog 12 #[.slice (some ⟨g, 0, none⟩) n cap] w fun e w' => e = .returned (.bool (decide (∀ i, i < n → ln i ≤ 8 ∧ lm i ≤ 8))) ∧ w' = w := by
  have H := Lib.hid h
  have HL := Lib.hid hl
  clear h hl
  go_enter Tryz.func12, Tryz.ntmps12
  go_wp2
  go_loop [3] (fun i => ∃ k : Nat, k ≤ n ∧ Hid (∀ j, j < k → ln j ≤ 8 ∧ lm j ≤ 8) ∧ i = .int .i64 k) (fun i => n - (intOf i).toNat)
  case atStart => exact ⟨0, Nat.zero_le _, fun j hj => by omega, rfl⟩
  case round =>
    obtain ⟨k, hk, hok, rfl⟩ := hrel
    by_cases hlt : k < n
    · obtain ⟨A, c, B, d, h1, h2⟩ := H.out k hlt
      obtain ⟨b1, b2⟩ := HL.out k hlt
      by_cases g1 : ln k ≤ 8
      · have g1' : ¬ (8 : Int) < (ln k : Int) := by omega
        by_cases g2 : lm k ≤ 8
        · have g2' : ¬ (8 : Int) < (lm k : Int) := by omega
          have hok' := Lib.hid (show ∀ j, j < k + 1 → ln j ≤ 8 ∧ lm j ≤ 8 from fun j hj => by
            rcases Nat.lt_or_ge j k with h | h
            · exact hok.out j h
            · obtain rfl : j = k := by omega
              exact ⟨g1, g2⟩)
          go_wp2
          go_round
          case rel => exact ⟨k + 1, by omega, hok', by go_num⟩
          case measure => simp [intOf]; omega
        · have g2' : (8 : Int) < (lm k : Int) := by omega
          have hno := Lib.hid (show decide (∀ i, i < n → ln i ≤ 8 ∧ lm i ≤ 8) = false from decide_eq_false fun h => g2 (h k hlt).2)
          go_wp2
          go_ret
          exact ⟨by rw [hno.out]; rfl, rfl⟩
      · have g1' : (8 : Int) < (ln k : Int) := by omega
        have hno := Lib.hid (show decide (∀ i, i < n → ln i ≤ 8 ∧ lm i ≤ 8) = false from decide_eq_false fun h => g1 (h k hlt).1)
        go_wp2
        go_ret
        exact ⟨by rw [hno.out]; rfl, rfl⟩
    · have hyes := Lib.hid (show decide (∀ i, i < n → ln i ≤ 8 ∧ lm i ≤ 8) = true from decide_eq_true fun i hi => hok.out i (by omega))
      go_wp2
      go_ret
      exact ⟨by rw [hyes.out]; rfl, rfl⟩
def TupF (W : World) (x : Value) (q : Rat) (a : Nat) : Prop := ∃ b A n c A2 n2 c2, x = .tuple #[.agg #[.bool b, .slice A n c, .slice A2 n2 c2], .int .i64 0] ∧ RatF W (.agg #[.bool b, .slice A n c, .slice A2 n2 c2]) q a
theorem stab_tupF (x : Value) (q : Rat) (a : Nat) : Stab (fun W => TupF W x q a) :=
  stab_ex fun _ => stab_ex fun _ => stab_ex fun _ => stab_ex fun _ => stab_ex fun _ => stab_ex fun _ => stab_ex fun _ => stab_and stab_true (stab_ratF _ _ _)
theorem numQ_low {b : Bool} {ds es : List Nat} (h1 : ds.length ≤ 8) (h2 : es.length ≤ 8) (hd : ∀ d ∈ ds, d < 4294967296) (he : ∀ d ∈ es, d < 4294967296) : (numQ b ds es).num.natAbs < 4294967296 ^ 8 ∧ (numQ b ds es).den < 4294967296 ^ 8 := by
  have k1 : val 4294967296 ds < 4294967296 ^ 8 := Nat.lt_of_lt_of_le (val_lt ds hd) (Nat.pow_le_pow_right (by omega) h1)
  have k2 : val 4294967296 es < 4294967296 ^ 8 := Nat.lt_of_lt_of_le (val_lt es he) (Nat.pow_le_pow_right (by omega) h2)
  unfold numQ
  generalize val 4294967296 ds = k at *
  generalize val 4294967296 es = j at *
  have n1 := num_le (sg b k) (if j = 0 then 1 else j)
  have n2 := den_le (sg b k) (d := if j = 0 then 1 else j) (by split <;> omega)
  rw [sg_abs] at n1
  refine ⟨Nat.lt_of_le_of_lt n1 k1, Nat.lt_of_le_of_lt n2 ?_⟩
  split
  · exact one_lt (by omega)
  · exact k2
set_option maxRecDepth 100000 in
set_option maxHeartbeats 16000000 in
theorem of_any {w : World} {b : Bool} {A A2 : Option Addr} {n c n2 c2 : Nat} {ds es : List Nat} (hV : Vars w) (h1 : LA w (.slice A n c) ds) (h2 : LA w (.slice A2 n2 c2) es) (l1 : ds.length ≤ 8) (l2 : es.length ≤ 8) (hd : ∀ d ∈ ds, d < 4294967296) (he : ∀ d ∈ es, d < 4294967296) :
    Calls Tryz.prog 13 #[.agg #[.bool b, .slice A n c, .slice A2 n2 c2]] w (OpOf w (numQ b ds es)) := by
  have hn : n = ds.length := by obtain ⟨A', c', e, _⟩ := h1; injection e
  have hn2 : n2 = es.length := by obtain ⟨A', c', e, _⟩ := h2; injection e
  have hln : n ≤ 8 := by omega
  have hln2 : n2 ≤ 8 := by omega
  have hM1 := Lib.hid (fun W (hw : Below w.heap.size w W) => make_ref l1 hd (h1.below hw))
  have hM2 := Lib.hid (fun W (hw : Below w.heap.size w W) => make_ref l2 he (h2.below hw))
  obtain ⟨q1, q2⟩ := numQ_low (b := b) l1 l2 hd he
  have hPq := Lib.hid (fun W (hw : Below w.heap.size w W) => parse_q (hV.below hw) q1 q2 (by omega))
  have hO := Lib.hid (fun W => ofF (W := W) 1 (k := 1) rfl (by omega))
  have hRM := Lib.hid (fun W A n c B m d (h1 : RefB W (.slice A n c) (val 4294967296 ds) 8) (h2 : RefB W (.slice B m d) (if val 4294967296 es = 0 then 1 else val 4294967296 es) 8) => refMake_ok (b := b) h1 h2 (by omega) (by split <;> omega))
  have hone := Lib.hid (one_lt (a := 8) (by omega))
  unfold numQ at hPq ⊢
  generalize val 4294967296 ds = K at *
  generalize hJ : val 4294967296 es = J at *
  generalize mkRat (sg b K) (if J = 0 then 1 else J) = q at *
  have hT := Lib.hid (fun W v (h : RatF W v q 8) => refText_q h (by omega))
  unfold str at hT
  obtain ⟨w1, hw1, S⟩ := enter3 w [.bool b, .slice A n c, .slice A2 n2 c2] 24 [.bool false, .slice none 0 0, .slice none 0 0] 30 [.bool false, .slice none 0 0, .slice none 0 0] 34 (by decide) noint3 (by decide) noint3 (by decide) noint3
  clear h1 h2 l1 l2 hd he q1 q2 hV hJ hn hn2
  have c2x0 := (S.out.at 2 rfl).cell (i := 0) rfl
  have c2x1 := (S.out.at 2 rfl).cell (i := 1) rfl
  have c2x2 := (S.out.at 2 rfl).cell (i := 2) rfl
  go_enter Tryz.func13, Tryz.ntmps13
  go_wp2_with fail
  refine (hM2.out _ S.out.low).mono ?_
  rintro e w2 ⟨A3, n3, c3, rfl, hx, hb⟩
  replace S := Lib.hid (S.out.below hb)
  clear hw1 hb c2x0 c2x1 c2x2
  have hz3 := hx.n_zero
  have hl3 := hx.n_le
  by_cases h0 : J = 0
  · obtain rfl : n3 = 0 := hz3.2 h0
    rw [if_pos h0] at hRM
    clear hz3 hl3 h0 hx
    go_wp2_with fail
    refine (hO.out _).mono ?_
    rintro e w3 ⟨A4, n4, c4, rfl, hx, hb⟩
    replace hx : RefB w3 (.slice A4 n4 c4) 1 8 := ⟨hx.1, hx.2.1, hone.out⟩
    replace S := Lib.hid ((S.out.below hb).push (stab_refB _ _ _) hx)
    clear hb hx hM2
    go_wp2_with fail
    have hok : ZOk [(0, 18, fun _ z => z = .pointer (some ⟨w.heap.size, 0, none⟩)), (1, 19, fun _ z => z = .bool b), (2, 20, fun _ z => z = .pointer (some ⟨w.heap.size, 1, none⟩)), (3, 21, fun _ z => z = .slice A n c), (4, 22, fun W z => RefB W z K 8), (5, 23, fun _ z => z = .slice A4 n4 c4), (6, 24, fun W z => TupF W z q 8), (7, 17, fun W z => TupF W z q 8), (8, 25, fun W z => RatF W z q 8), (9, 26, fun _ z => z = .int .i64 0), (12, 7, fun _ z => z = .int .i64 0)] [bxF 10 11 6 q 8] := ⟨by simp, by simp [bxF], by simp [bxF], by simp [bxF], List.forall_mem_cons.2 ⟨fun x => stab_true, List.forall_mem_cons.2 ⟨fun x => stab_true, List.forall_mem_cons.2 ⟨fun x => stab_true, List.forall_mem_cons.2 ⟨fun x => stab_true, List.forall_mem_cons.2 ⟨fun x => stab_refB _ _ _, List.forall_mem_cons.2 ⟨fun x => stab_true, List.forall_mem_cons.2 ⟨fun x => stab_tupF _ _ _, List.forall_mem_cons.2 ⟨fun x => stab_tupF _ _ _, List.forall_mem_cons.2 ⟨fun x => stab_ratF _ _ _, List.forall_mem_cons.2 ⟨fun x => stab_true, List.forall_mem_cons.2 ⟨fun x => stab_true, List.forall_mem_nil _⟩⟩⟩⟩⟩⟩⟩⟩⟩⟩⟩, List.forall_mem_cons.2 ⟨bxF_ok _ _ _ _ _, List.forall_mem_nil _⟩⟩
    refine wp_region_Y hok [18, 19, 20, 21, 22, 23, 24, 17, 25, 26, 7, 6] (by kernel_rfl) (by kernel_rfl) ⟨?_, ?_, ?_, ?_, ?_, ?_, ?_, ?_, ?_, ?_, ?_, ?_, ?_, trivial⟩ ?_
    · intro L f W hZ hi hd K hK
      have hV := stepV (d := 18) (f := f) hK (by decide) (by decide)
      clear hK
      simp only [fillA, fillT, Act.put, List.foldl_cons, List.foldl_nil, List.setIfInBounds_toArray, List.set_cons_zero, List.set_cons_succ] at hV ⊢
      go_simp
      exact hV.out _ _ (hZ.val hok 0 rfl (Below.refl _ _) rfl)
    · intro L f W hZ hi hd K hK
      have hV := stepV (d := 19) (f := f) hK (by decide) (by decide)
      clear hK
      simp only [fillA, fillT, Act.put, List.foldl_cons, List.foldl_nil, List.setIfInBounds_toArray, List.set_cons_zero, List.set_cons_succ] at hV ⊢
      have S2 := Lib.hid (S.out.drew.below hZ.1)
      have c2x0 := (S2.out.at 2 rfl).cell (i := 0) rfl
      have v0 := hZ.get 0 rfl (hd ⟨0, .data⟩ (by simp) rfl)
      replace v0 : f 18 = _ := v0
      rw [v0] at hV ⊢
      clear v0
      go_simp
      exact hV.out _ _ (hZ.val hok 1 rfl (Below.refl _ _) rfl)
    · intro L f W hZ hi hd K hK
      have hV := stepV (d := 20) (f := f) hK (by decide) (by decide)
      clear hK
      simp only [fillA, fillT, Act.put, List.foldl_cons, List.foldl_nil, List.setIfInBounds_toArray, List.set_cons_zero, List.set_cons_succ] at hV ⊢
      go_simp
      exact hV.out _ _ (hZ.val hok 2 rfl (Below.refl _ _) rfl)
    · intro L f W hZ hi hd K hK
      have hV := stepV (d := 21) (f := f) hK (by decide) (by decide)
      clear hK
      simp only [fillA, fillT, Act.put, List.foldl_cons, List.foldl_nil, List.setIfInBounds_toArray, List.set_cons_zero, List.set_cons_succ] at hV ⊢
      have S2 := Lib.hid (S.out.drew.below hZ.1)
      have c2x1 := (S2.out.at 2 rfl).cell (i := 1) rfl
      have v2 := hZ.get 2 rfl (hd ⟨2, .data⟩ (by simp) rfl)
      replace v2 : f 20 = _ := v2
      rw [v2] at hV ⊢
      clear v2
      go_simp
      exact hV.out _ _ (hZ.val hok 3 rfl (Below.refl _ _) rfl)
    · intro L f W hZ hi hd K hK
      have hV := stepV (d := 22) (f := f) hK (by decide) (by decide)
      clear hK
      simp only [fillA, fillT, Act.put, List.foldl_cons, List.foldl_nil, List.setIfInBounds_toArray, List.set_cons_zero, List.set_cons_succ] at hV ⊢
      have v3 := hZ.get 3 rfl (hd ⟨3, .data⟩ (by simp) rfl)
      replace v3 : f 21 = _ := v3
      rw [v3] at hV ⊢
      clear v3
      go_simp
      refine (hM1.out _ (S.out.drew.below hZ.1).low).mono ?_
      rintro e w' ⟨A9, n9, c9, rfl, hx, hb⟩
      exact hV.out _ _ (hZ.val hok 4 rfl hb hx)
    · intro L f W hZ hi hd K hK
      have hV := stepV (d := 23) (f := f) hK (by decide) (by decide)
      clear hK
      simp only [fillA, fillT, Act.put, List.foldl_cons, List.foldl_nil, List.setIfInBounds_toArray, List.set_cons_zero, List.set_cons_succ] at hV ⊢
      go_simp
      exact hV.out _ _ (hZ.val hok 5 rfl (Below.refl _ _) rfl)
    · intro L f W hZ hi hd K hK
      have hV := stepV (d := 24) (f := f) hK (by decide) (by decide)
      clear hK
      simp only [fillA, fillT, Act.put, List.foldl_cons, List.foldl_nil, List.setIfInBounds_toArray, List.set_cons_zero, List.set_cons_succ] at hV ⊢
      have S2 := Lib.hid (S.out.drew.below hZ.1)
      have v1 := hZ.get 1 rfl (hd ⟨1, .data⟩ (by simp) rfl)
      replace v1 : f 19 = _ := v1
      rw [v1] at hV ⊢
      clear v1
      have v5 := hZ.get 5 rfl (hd ⟨5, .data⟩ (by simp) rfl)
      replace v5 : f 23 = _ := v5
      rw [v5] at hV ⊢
      clear v5
      have v4 := hZ.get 4 rfl (hd ⟨4, .data⟩ (by simp) rfl)
      obtain ⟨A8, n8, c8, e8⟩ := v4.1
      replace e8 : f 22 = _ := e8
      replace v4 : RefB W (f 22) _ _ := v4
      rw [e8] at v4 hV ⊢
      clear e8
      go_simp
      refine (hRM.out _ _ _ _ _ _ _ v4 (S2.out.fact 0 rfl)).mono ?_
      rintro e w' ⟨b9, A9, n9, c9, A10, n10, c10, rfl, hx, hb⟩
      exact hV.out _ _ (hZ.val hok 6 rfl hb ⟨b9, A9, n9, c9, A10, n10, c10, rfl, hx⟩)
    · intro L f W hZ hi hd K hK
      have hV := stepV (d := 17) (f := f) hK (by decide) (by decide)
      clear hK
      simp only [fillA, fillT, Act.put, List.foldl_cons, List.foldl_nil, List.setIfInBounds_toArray, List.set_cons_zero, List.set_cons_succ] at hV ⊢
      have v := hZ.get 6 rfl (hd ⟨6, .data⟩ (by simp) rfl)
      go_simp
      exact hV.out _ _ (hZ.val hok 7 rfl (Below.refl _ _) v)
    · intro L f W hZ hi hd K hK
      have hV := stepV (d := 25) (f := f) hK (by decide) (by decide)
      clear hK
      simp only [fillA, fillT, Act.put, List.foldl_cons, List.foldl_nil, List.setIfInBounds_toArray, List.set_cons_zero, List.set_cons_succ] at hV ⊢
      obtain ⟨b9, A9, n9, c9, A10, n10, c10, e9, hx⟩ := hZ.get 7 rfl (hd ⟨7, .data⟩ (by simp) rfl)
      replace e9 : f 17 = _ := e9
      rw [e9] at hV ⊢
      clear e9
      go_simp
      exact hV.out _ _ (hZ.val hok 8 rfl (Below.refl _ _) hx)
    · intro L f W hZ hi hd K hK
      have hV := stepV (d := 26) (f := f) hK (by decide) (by decide)
      clear hK
      simp only [fillA, fillT, Act.put, List.foldl_cons, List.foldl_nil, List.setIfInBounds_toArray, List.set_cons_zero, List.set_cons_succ] at hV ⊢
      obtain ⟨b9, A9, n9, c9, A10, n10, c10, e9, hx⟩ := hZ.get 7 rfl (hd ⟨7, .data⟩ (by simp) rfl)
      replace e9 : f 17 = _ := e9
      rw [e9] at hV ⊢
      clear e9
      go_simp
      exact hV.out _ _ (hZ.val hok 9 rfl (Below.refl _ _) rfl)
    · intro L f W hZ hi hd K hK
      have hV := stepV (d := 6) (f := f) hK (by decide) (by decide)
      clear hK
      simp only [fillA, fillT, Act.put, List.foldl_cons, List.foldl_nil, List.setIfInBounds_toArray, List.set_cons_zero, List.set_cons_succ] at hV ⊢
      go_simp
      exact hV.out _ _ (hZ.alloc hok 0 rfl hi)
    · intro L f W hZ hi hd K hK
      have hV := stepS (f := f) hK
      clear hK
      simp only [fillA, fillT, Act.put, List.foldl_cons, List.foldl_nil, List.setIfInBounds_toArray, List.set_cons_zero, List.set_cons_succ] at hV ⊢
      have v := hZ.get 8 rfl (hd ⟨8, .data⟩ (by simp) rfl)
      have hL := hd ⟨10, .data⟩ (by simp) rfl
      obtain ⟨g, cs, e1, -, hbk, -, hz0, -⟩ := hZ.box 0 rfl hL
      obtain rfl := hz0 hi
      replace e1 : f 6 = _ := e1
      obtain ⟨A7, n7, c7, B7, m7, d7, e2⟩ := RatF.shape v
      replace e2 : f 25 = _ := e2
      replace v : RatF W (f 25) _ _ := v
      rw [e2] at v
      rw [e1, e2] at hV ⊢
      have E1 := Lib.hid e1
      clear e1 e2
      have k1 := hbk.cell (i := 0) rfl
      have k2 := hbk.cell (i := 1) rfl
      have k3 := hbk.cell (i := 2) rfl
      have k4 := hbk.frozen (i := 0)
      have k5 := hbk.frozen (i := 1)
      have k6 := hbk.frozen (i := 2)
      generalize decide (q.num < 0) = sb at v hV ⊢
      go_simp
      exact hV.out _ (hZ.store3 hok 0 rfl E1.out hL hi rfl noint_bool noint_slice noint_slice v)
    · intro L f W hZ hi hd K hK
      have hV := stepV (d := 7) (f := f) hK (by decide) (by decide)
      clear hK
      simp only [fillA, fillT, Act.put, List.foldl_cons, List.foldl_nil, List.setIfInBounds_toArray, List.set_cons_zero, List.set_cons_succ] at hV ⊢
      have v9 := hZ.get 9 rfl (hd ⟨9, .data⟩ (by simp) rfl)
      replace v9 : f 26 = _ := v9
      rw [v9] at hV ⊢
      clear v9
      go_simp
      exact hV.out _ _ (hZ.val hok 10 rfl (Below.refl _ _) rfl)
    intro L f W hZ hL
    obtain ⟨g6, b6, A6, n6, c6, B6, m6, d6, e6, p6, S6, F6⟩ := hZ.takeF hok (S.out.drew.below hZ.1) (drew_low S.out) (Fr.begin S.out) 0 rfl (hL 10 (by decide)) (hL 11 (by decide)) (by simp)
    have e7 := hZ.get 10 rfl (hL 12 (by decide))
    replace e7 : f 7 = _ := e7
    simp only [fillA, fillT, List.foldl_cons, List.foldl_nil, List.setIfInBounds_toArray, List.set_cons_zero, List.set_cons_succ]
    rw [e6, e7]
    replace S := Lib.hid (S6.push (stab_ratF _ _ _) p6)
    clear e6 e7 p6 S6 F6 hZ hL hok hRM hM1
    have c0x0 := (S.out.at 0 rfl).cell (i := 0) rfl
    have c0x1 := (S.out.at 0 rfl).cell (i := 1) rfl
    have c0x2 := (S.out.at 0 rfl).cell (i := 2) rfl
    go_wp2_with fail
    refine (hT.out _ _ (S.out.fact 0 rfl)).mono ?_
    rintro e w5 ⟨rfl, hb⟩
    replace S := Lib.hid (S.out.below hb)
    clear hb c0x0 c0x1 c0x2 hT
    go_wp2_with fail
    refine (hPq.out _ S.out.low).mono ?_
    rintro e w6 ⟨b8, A8, n8, c8, B8, m8, d8, rfl, hq, hb⟩
    replace S := Lib.hid (((S.out.below hb).push (stab_ratP _ _ _) hq).alloc [.bool b8, .slice A8 n8 c8, .slice B8 m8 d8] 30 (by decide) noint3)
    generalize hx8 : w6.heap.size = x8 at S
    obtain ⟨w7, hw7⟩ : ∃ w7, w6.alloc (.cells #[.bool b8, .slice A8 n8 c8, .slice B8 m8 d8] 30) = w7 := ⟨_, rfl⟩
    rw [hw7] at S
    clear hb hq
    go_wp2_with fail
    clear hw7 hx8 hPq
    have i1 : (n : Int) ≤ 8 := by omega
    have i2 : (n2 : Int) ≤ 8 := by omega
    refine wp_region_held_drew (S := fun W' => W'.cell? ⟨x8, 0, none⟩ = some (.bool b8) ∧ W'.cell? ⟨x8, 1, none⟩ = some (.slice A8 n8 c8) ∧ W'.cell? ⟨x8, 2, none⟩ = some (.slice B8 m8 d8) ∧ W'.cell? ⟨g6, 0, none⟩ = some (.bool b6) ∧ W'.cell? ⟨g6, 1, none⟩ = some (.slice A6 n6 c6) ∧ W'.cell? ⟨g6, 2, none⟩ = some (.slice B6 m6 d6) ∧ W'.cell? ⟨w.heap.size, 1, none⟩ = some (.slice A n c) ∧ W'.cell? ⟨w.heap.size, 2, none⟩ = some (.slice A2 n2 c2)) (by kernel_rfl) ⟨(S.out.drew.at 0 rfl).cell (i := 0) rfl, (S.out.drew.at 0 rfl).cell (i := 1) rfl, (S.out.drew.at 0 rfl).cell (i := 2) rfl, (S.out.drew.at 1 rfl).cell (i := 0) rfl, (S.out.drew.at 1 rfl).cell (i := 1) rfl, (S.out.drew.at 1 rfl).cell (i := 2) rfl, (S.out.drew.at 4 rfl).cell (i := 1) rfl, (S.out.drew.at 4 rfl).cell (i := 2) rfl⟩ (fun hHeld => ?_)
    replace S := Lib.hid S.out.drew
    generalize w7.drew = w8 at S hHeld ⊢
    refine wpAnyH_takeD 0 (v := ?_) rfl rfl (by kernel_rfl) (by kernel_rfl) (by kernel_rfl) (fun _ _ _ h => h) (Or.inl ⟨by rfl, ?_⟩) hHeld ?_
    rotate_left
    focus (intro w hSw; (try dsimp only at hSw); go_simp; try with_reducible rfl)
    simp only [List.setIfInBounds_toArray, List.set_cons_zero, List.set_cons_succ]
    refine wpAnyH_takeD 1 (v := ?_) rfl rfl (by kernel_rfl) (by kernel_rfl) (by kernel_rfl) (fun _ _ _ h => h) (Or.inl ⟨by rfl, ?_⟩) hHeld ?_
    rotate_left
    focus (intro w hSw; (try dsimp only at hSw); go_simp; try with_reducible rfl)
    simp only [List.setIfInBounds_toArray, List.set_cons_zero, List.set_cons_succ]
    refine wpAnyH_takeD 2 (v := ?_) rfl rfl (by kernel_rfl) (by kernel_rfl) (by kernel_rfl) (fun _ _ _ h => h) (Or.inl ⟨by rfl, ?_⟩) hHeld ?_
    rotate_left
    focus (intro w hSw; (try dsimp only at hSw); go_simp; try with_reducible rfl)
    simp only [List.setIfInBounds_toArray, List.set_cons_zero, List.set_cons_succ]
    refine wpAnyH_takeD 3 (v := ?_) rfl rfl (by kernel_rfl) (by kernel_rfl) (by kernel_rfl) (fun _ _ _ h => h) (Or.inl ⟨by rfl, ?_⟩) hHeld ?_
    rotate_left
    focus (intro w hSw; (try dsimp only at hSw); go_simp; try with_reducible rfl)
    simp only [List.setIfInBounds_toArray, List.set_cons_zero, List.set_cons_succ]
    refine wpAnyH_takeD 4 (v := ?_) rfl rfl (by kernel_rfl) (by kernel_rfl) (by kernel_rfl) (fun _ _ _ h => h) (Or.inl ⟨by rfl, ?_⟩) hHeld ?_
    rotate_left
    focus (intro w hSw; (try dsimp only at hSw); go_simp; try with_reducible rfl)
    simp only [List.setIfInBounds_toArray, List.set_cons_zero, List.set_cons_succ]
    refine wpAnyH_takeD 5 (v := ?_) rfl rfl (by kernel_rfl) (by kernel_rfl) (by kernel_rfl) (fun _ _ _ h => h) (Or.inl ⟨by rfl, ?_⟩) hHeld ?_
    rotate_left
    focus (intro w hSw; (try dsimp only at hSw); go_simp; try with_reducible rfl)
    simp only [List.setIfInBounds_toArray, List.set_cons_zero, List.set_cons_succ]
    refine wpAnyH_takeD 6 (v := ?_) rfl rfl (by kernel_rfl) (by kernel_rfl) (by kernel_rfl) (fun _ _ _ h => h) (Or.inl ⟨by rfl, ?_⟩) hHeld ?_
    rotate_left
    focus (intro w hSw; (try dsimp only at hSw); go_simp; try with_reducible rfl)
    simp only [List.setIfInBounds_toArray, List.set_cons_zero, List.set_cons_succ]
    refine wpAnyH_takeD 7 (v := ?_) rfl rfl (by kernel_rfl) (by kernel_rfl) (by kernel_rfl) (fun _ _ _ h => h) (Or.inl ⟨by rfl, ?_⟩) hHeld ?_
    rotate_left
    focus (intro w hSw; (try dsimp only at hSw); go_simp; try with_reducible rfl)
    simp only [List.setIfInBounds_toArray, List.set_cons_zero, List.set_cons_succ]
    refine wpAnyH_takeD 8 (v := ?_) rfl rfl (by kernel_rfl) (by kernel_rfl) (by kernel_rfl) (fun _ _ _ h => h) (Or.inl ⟨by rfl, ?_⟩) hHeld ?_
    rotate_left
    focus (intro w hSw; (try dsimp only at hSw); go_simp; try with_reducible rfl)
    simp only [List.setIfInBounds_toArray, List.set_cons_zero, List.set_cons_succ]
    refine wpAnyH_takeD 9 (v := ?_) rfl rfl (by kernel_rfl) (by kernel_rfl) (by kernel_rfl) (fun _ _ _ h => h) (Or.inl ⟨by rfl, ?_⟩) hHeld ?_
    rotate_left
    focus (intro w hSw; (try dsimp only at hSw); go_simp; try with_reducible rfl)
    simp only [List.setIfInBounds_toArray, List.set_cons_zero, List.set_cons_succ]
    refine wpAnyH_takeD 10 (v := ?_) rfl rfl (by kernel_rfl) (by kernel_rfl) (by kernel_rfl) (fun _ _ _ h => h) (Or.inl ⟨by rfl, ?_⟩) hHeld ?_
    rotate_left
    focus (intro w hSw; (try dsimp only at hSw); go_simp; try with_reducible rfl)
    simp only [List.setIfInBounds_toArray, List.set_cons_zero, List.set_cons_succ]
    refine wpAnyH_takeD 11 (v := ?_) rfl rfl (by kernel_rfl) (by kernel_rfl) (by kernel_rfl) (fun _ _ _ h => h) (Or.inl ⟨by rfl, ?_⟩) hHeld ?_
    rotate_left
    focus (intro w hSw; (try dsimp only at hSw); go_simp; try with_reducible rfl)
    simp only [List.setIfInBounds_toArray, List.set_cons_zero, List.set_cons_succ]
    refine wpAnyH_takeD 12 (v := ?_) rfl rfl (by kernel_rfl) (by kernel_rfl) (by kernel_rfl) (fun _ _ _ h => h) (Or.inl ⟨by rfl, ?_⟩) hHeld ?_
    rotate_left
    focus (intro w hSw; (try dsimp only at hSw); go_simp; try with_reducible rfl)
    simp only [List.setIfInBounds_toArray, List.set_cons_zero, List.set_cons_succ]
    refine wpAnyH_takeD 13 (v := ?_) rfl rfl (by kernel_rfl) (by kernel_rfl) (by kernel_rfl) (fun _ _ _ h => h) (Or.inl ⟨by rfl, ?_⟩) hHeld ?_
    rotate_left
    focus (intro w hSw; (try dsimp only at hSw); go_simp; try with_reducible rfl)
    simp only [List.setIfInBounds_toArray, List.set_cons_zero, List.set_cons_succ]
    refine wpAnyH_takeD 14 (v := ?_) rfl rfl (by kernel_rfl) (by kernel_rfl) (by kernel_rfl) (fun _ _ _ h => h) (Or.inl ⟨by rfl, ?_⟩) hHeld ?_
    rotate_left
    focus (intro w hSw; (try dsimp only at hSw); go_simp; try with_reducible rfl)
    simp only [List.setIfInBounds_toArray, List.set_cons_zero, List.set_cons_succ]
    refine wpAnyH_takeD 15 (v := ?_) rfl rfl (by kernel_rfl) (by kernel_rfl) (by kernel_rfl) (fun _ _ _ h => h) (Or.inl ⟨by rfl, ?_⟩) hHeld ?_
    rotate_left
    focus (intro w hSw; (try dsimp only at hSw); go_simp; try with_reducible rfl)
    simp only [List.setIfInBounds_toArray, List.set_cons_zero, List.set_cons_succ]
    have c3x0 := (S.out.at 3 rfl).cell (i := 0) rfl
    have f3x0 := (S.out.at 3 rfl).frozen (i := 0)
    have c3x1 := (S.out.at 3 rfl).cell (i := 1) rfl
    have f3x1 := (S.out.at 3 rfl).frozen (i := 1)
    have c3x2 := (S.out.at 3 rfl).cell (i := 2) rfl
    have f3x2 := (S.out.at 3 rfl).frozen (i := 2)
    refine wpAnyH_ready (rs := [16]) (by kernel_rfl) (by simp) ?_
    refine AllReadyH.cons rfl (fun K hK => ?_) AllReadyH.nil
    go_simp
    replace S := Lib.hid (S.out.set3 3 rfl (noint_bool (b := b8)) (noint_slice (A := A8) (n := n8) (c := c8)) (noint_slice (A := B8) (n := m8) (c := d8)) rfl)
    simp only [List.set_cons_zero, List.set_cons_succ] at S
    refine hK.out _ _ ⟨(S.out.at 0 rfl).cell (i := 0) rfl, (S.out.at 0 rfl).cell (i := 1) rfl, (S.out.at 0 rfl).cell (i := 2) rfl, (S.out.at 1 rfl).cell (i := 0) rfl, (S.out.at 1 rfl).cell (i := 1) rfl, (S.out.at 1 rfl).cell (i := 2) rfl, (S.out.at 4 rfl).cell (i := 1) rfl, (S.out.at 4 rfl).cell (i := 2) rfl⟩ (fun hHeld => ?_)
    clear hK K
    have c2x0 := (S.out.at 2 rfl).cell (i := 0) rfl
    have f2x0 := (S.out.at 2 rfl).frozen (i := 0)
    have c2x1 := (S.out.at 2 rfl).cell (i := 1) rfl
    have f2x1 := (S.out.at 2 rfl).frozen (i := 1)
    have c2x2 := (S.out.at 2 rfl).cell (i := 2) rfl
    have f2x2 := (S.out.at 2 rfl).frozen (i := 2)
    refine wpAnyH_ready (rs := [17]) (by kernel_rfl) (by simp) ?_
    refine AllReadyH.cons rfl (fun K hK => ?_) AllReadyH.nil
    go_simp
    replace S := Lib.hid (S.out.set3 2 rfl (noint_bool (b := b6)) (noint_slice (A := A6) (n := n6) (c := c6)) (noint_slice (A := B6) (n := m6) (c := d6)) rfl)
    simp only [List.set_cons_zero, List.set_cons_succ] at S
    refine hK.out _ _ ⟨(S.out.at 0 rfl).cell (i := 0) rfl, (S.out.at 0 rfl).cell (i := 1) rfl, (S.out.at 0 rfl).cell (i := 2) rfl, (S.out.at 1 rfl).cell (i := 0) rfl, (S.out.at 1 rfl).cell (i := 1) rfl, (S.out.at 1 rfl).cell (i := 2) rfl, (S.out.at 4 rfl).cell (i := 1) rfl, (S.out.at 4 rfl).cell (i := 2) rfl⟩ (fun hHeld => ?_)
    clear hK K
    refine wpAnyH_takeD 18 (v := ?_) rfl rfl (by kernel_rfl) (by kernel_rfl) (by kernel_rfl) (fun _ _ _ h => h) (Or.inl ⟨by rfl, ?_⟩) hHeld ?_
    rotate_left
    focus (intro w hSw; (try dsimp only at hSw); go_simp; try with_reducible rfl)
    simp only [List.setIfInBounds_toArray, List.set_cons_zero, List.set_cons_succ]
    refine wpAnyH_done (by kernel_rfl) ?_ _
    have c3x0 := (S.out.at 3 rfl).cell (i := 0) rfl
    have c3x1 := (S.out.at 3 rfl).cell (i := 1) rfl
    have c3x2 := (S.out.at 3 rfl).cell (i := 2) rfl
    have c2x0 := (S.out.at 2 rfl).cell (i := 0) rfl
    have c2x1 := (S.out.at 2 rfl).cell (i := 1) rfl
    have c2x2 := (S.out.at 2 rfl).cell (i := 2) rfl
    go_wp2_with fail
    refine bodyPost_ret (v := .tuple #[.agg #[.bool b8, .slice A8 n8 c8, .slice B8 m8 d8], .agg #[.bool b6, .slice A6 n6 c6, .slice B6 m6 d6], .bool true]) (by simp [results, Tryz.results13, go_sem, c3x0, c3x1, c3x2, c2x0, c2x1, c2x2]) rfl ?_
    exact ⟨b8, A8, n8, c8, B8, m8, d8, b6, A6, n6, c6, B6, m6, d6, rfl, S.out.fact 0 rfl, S.out.fact 1 rfl, S.out.low⟩
  · have hn3 : 0 < n3 := by rcases Nat.eq_zero_or_pos n3 with h | h; (exact absurd (hz3.1 h) h0); exact h
    rw [if_neg h0] at hRM
    replace S := Lib.hid (S.out.push (stab_refB _ _ _) hx)
    have hn3' : ((n3 : Int) == 0) = false := by simp; omega
    have hn3'' : (n3 == 0) = false := by simp; omega
    clear hz3 h0 hx hM2
    go_wp2_with fail
    clear hn3 hl3 hn3' hn3''
    have hok : ZOk [(0, 18, fun _ z => z = .pointer (some ⟨w.heap.size, 0, none⟩)), (1, 19, fun _ z => z = .bool b), (2, 20, fun _ z => z = .pointer (some ⟨w.heap.size, 1, none⟩)), (3, 21, fun _ z => z = .slice A n c), (4, 22, fun W z => RefB W z K 8), (5, 23, fun _ z => z = .slice A3 n3 c3), (6, 24, fun W z => TupF W z q 8), (7, 17, fun W z => TupF W z q 8), (8, 25, fun W z => RatF W z q 8), (9, 26, fun _ z => z = .int .i64 0), (12, 7, fun _ z => z = .int .i64 0)] [bxF 10 11 6 q 8] := ⟨by simp, by simp [bxF], by simp [bxF], by simp [bxF], List.forall_mem_cons.2 ⟨fun x => stab_true, List.forall_mem_cons.2 ⟨fun x => stab_true, List.forall_mem_cons.2 ⟨fun x => stab_true, List.forall_mem_cons.2 ⟨fun x => stab_true, List.forall_mem_cons.2 ⟨fun x => stab_refB _ _ _, List.forall_mem_cons.2 ⟨fun x => stab_true, List.forall_mem_cons.2 ⟨fun x => stab_tupF _ _ _, List.forall_mem_cons.2 ⟨fun x => stab_tupF _ _ _, List.forall_mem_cons.2 ⟨fun x => stab_ratF _ _ _, List.forall_mem_cons.2 ⟨fun x => stab_true, List.forall_mem_cons.2 ⟨fun x => stab_true, List.forall_mem_nil _⟩⟩⟩⟩⟩⟩⟩⟩⟩⟩⟩, List.forall_mem_cons.2 ⟨bxF_ok _ _ _ _ _, List.forall_mem_nil _⟩⟩
    refine wp_region_Y hok [18, 19, 20, 21, 22, 23, 24, 17, 25, 26, 7, 6] (by kernel_rfl) (by kernel_rfl) ⟨?_, ?_, ?_, ?_, ?_, ?_, ?_, ?_, ?_, ?_, ?_, ?_, ?_, trivial⟩ ?_
    · intro L f W hZ hi hd K hK
      have hV := stepV (d := 18) (f := f) hK (by decide) (by decide)
      clear hK
      simp only [fillA, fillT, Act.put, List.foldl_cons, List.foldl_nil, List.setIfInBounds_toArray, List.set_cons_zero, List.set_cons_succ] at hV ⊢
      go_simp
      exact hV.out _ _ (hZ.val hok 0 rfl (Below.refl _ _) rfl)
    · intro L f W hZ hi hd K hK
      have hV := stepV (d := 19) (f := f) hK (by decide) (by decide)
      clear hK
      simp only [fillA, fillT, Act.put, List.foldl_cons, List.foldl_nil, List.setIfInBounds_toArray, List.set_cons_zero, List.set_cons_succ] at hV ⊢
      have S2 := Lib.hid (S.out.drew.below hZ.1)
      have c2x0 := (S2.out.at 2 rfl).cell (i := 0) rfl
      have v0 := hZ.get 0 rfl (hd ⟨0, .data⟩ (by simp) rfl)
      replace v0 : f 18 = _ := v0
      rw [v0] at hV ⊢
      clear v0
      go_simp
      exact hV.out _ _ (hZ.val hok 1 rfl (Below.refl _ _) rfl)
    · intro L f W hZ hi hd K hK
      have hV := stepV (d := 20) (f := f) hK (by decide) (by decide)
      clear hK
      simp only [fillA, fillT, Act.put, List.foldl_cons, List.foldl_nil, List.setIfInBounds_toArray, List.set_cons_zero, List.set_cons_succ] at hV ⊢
      go_simp
      exact hV.out _ _ (hZ.val hok 2 rfl (Below.refl _ _) rfl)
    · intro L f W hZ hi hd K hK
      have hV := stepV (d := 21) (f := f) hK (by decide) (by decide)
      clear hK
      simp only [fillA, fillT, Act.put, List.foldl_cons, List.foldl_nil, List.setIfInBounds_toArray, List.set_cons_zero, List.set_cons_succ] at hV ⊢
      have S2 := Lib.hid (S.out.drew.below hZ.1)
      have c2x1 := (S2.out.at 2 rfl).cell (i := 1) rfl
      have v2 := hZ.get 2 rfl (hd ⟨2, .data⟩ (by simp) rfl)
      replace v2 : f 20 = _ := v2
      rw [v2] at hV ⊢
      clear v2
      go_simp
      exact hV.out _ _ (hZ.val hok 3 rfl (Below.refl _ _) rfl)
    · intro L f W hZ hi hd K hK
      have hV := stepV (d := 22) (f := f) hK (by decide) (by decide)
      clear hK
      simp only [fillA, fillT, Act.put, List.foldl_cons, List.foldl_nil, List.setIfInBounds_toArray, List.set_cons_zero, List.set_cons_succ] at hV ⊢
      have v3 := hZ.get 3 rfl (hd ⟨3, .data⟩ (by simp) rfl)
      replace v3 : f 21 = _ := v3
      rw [v3] at hV ⊢
      clear v3
      go_simp
      refine (hM1.out _ (S.out.drew.below hZ.1).low).mono ?_
      rintro e w' ⟨A9, n9, c9, rfl, hx, hb⟩
      exact hV.out _ _ (hZ.val hok 4 rfl hb hx)
    · intro L f W hZ hi hd K hK
      have hV := stepV (d := 23) (f := f) hK (by decide) (by decide)
      clear hK
      simp only [fillA, fillT, Act.put, List.foldl_cons, List.foldl_nil, List.setIfInBounds_toArray, List.set_cons_zero, List.set_cons_succ] at hV ⊢
      go_simp
      exact hV.out _ _ (hZ.val hok 5 rfl (Below.refl _ _) rfl)
    · intro L f W hZ hi hd K hK
      have hV := stepV (d := 24) (f := f) hK (by decide) (by decide)
      clear hK
      simp only [fillA, fillT, Act.put, List.foldl_cons, List.foldl_nil, List.setIfInBounds_toArray, List.set_cons_zero, List.set_cons_succ] at hV ⊢
      have S2 := Lib.hid (S.out.drew.below hZ.1)
      have v1 := hZ.get 1 rfl (hd ⟨1, .data⟩ (by simp) rfl)
      replace v1 : f 19 = _ := v1
      rw [v1] at hV ⊢
      clear v1
      have v5 := hZ.get 5 rfl (hd ⟨5, .data⟩ (by simp) rfl)
      replace v5 : f 23 = _ := v5
      rw [v5] at hV ⊢
      clear v5
      have v4 := hZ.get 4 rfl (hd ⟨4, .data⟩ (by simp) rfl)
      obtain ⟨A8, n8, c8, e8⟩ := v4.1
      replace e8 : f 22 = _ := e8
      replace v4 : RefB W (f 22) _ _ := v4
      rw [e8] at v4 hV ⊢
      clear e8
      go_simp
      refine (hRM.out _ _ _ _ _ _ _ v4 (S2.out.fact 0 rfl)).mono ?_
      rintro e w' ⟨b9, A9, n9, c9, A10, n10, c10, rfl, hx, hb⟩
      exact hV.out _ _ (hZ.val hok 6 rfl hb ⟨b9, A9, n9, c9, A10, n10, c10, rfl, hx⟩)
    · intro L f W hZ hi hd K hK
      have hV := stepV (d := 17) (f := f) hK (by decide) (by decide)
      clear hK
      simp only [fillA, fillT, Act.put, List.foldl_cons, List.foldl_nil, List.setIfInBounds_toArray, List.set_cons_zero, List.set_cons_succ] at hV ⊢
      have v := hZ.get 6 rfl (hd ⟨6, .data⟩ (by simp) rfl)
      go_simp
      exact hV.out _ _ (hZ.val hok 7 rfl (Below.refl _ _) v)
    · intro L f W hZ hi hd K hK
      have hV := stepV (d := 25) (f := f) hK (by decide) (by decide)
      clear hK
      simp only [fillA, fillT, Act.put, List.foldl_cons, List.foldl_nil, List.setIfInBounds_toArray, List.set_cons_zero, List.set_cons_succ] at hV ⊢
      obtain ⟨b9, A9, n9, c9, A10, n10, c10, e9, hx⟩ := hZ.get 7 rfl (hd ⟨7, .data⟩ (by simp) rfl)
      replace e9 : f 17 = _ := e9
      rw [e9] at hV ⊢
      clear e9
      go_simp
      exact hV.out _ _ (hZ.val hok 8 rfl (Below.refl _ _) hx)
    · intro L f W hZ hi hd K hK
      have hV := stepV (d := 26) (f := f) hK (by decide) (by decide)
      clear hK
      simp only [fillA, fillT, Act.put, List.foldl_cons, List.foldl_nil, List.setIfInBounds_toArray, List.set_cons_zero, List.set_cons_succ] at hV ⊢
      obtain ⟨b9, A9, n9, c9, A10, n10, c10, e9, hx⟩ := hZ.get 7 rfl (hd ⟨7, .data⟩ (by simp) rfl)
      replace e9 : f 17 = _ := e9
      rw [e9] at hV ⊢
      clear e9
      go_simp
      exact hV.out _ _ (hZ.val hok 9 rfl (Below.refl _ _) rfl)
    · intro L f W hZ hi hd K hK
      have hV := stepV (d := 6) (f := f) hK (by decide) (by decide)
      clear hK
      simp only [fillA, fillT, Act.put, List.foldl_cons, List.foldl_nil, List.setIfInBounds_toArray, List.set_cons_zero, List.set_cons_succ] at hV ⊢
      go_simp
      exact hV.out _ _ (hZ.alloc hok 0 rfl hi)
    · intro L f W hZ hi hd K hK
      have hV := stepS (f := f) hK
      clear hK
      simp only [fillA, fillT, Act.put, List.foldl_cons, List.foldl_nil, List.setIfInBounds_toArray, List.set_cons_zero, List.set_cons_succ] at hV ⊢
      have v := hZ.get 8 rfl (hd ⟨8, .data⟩ (by simp) rfl)
      have hL := hd ⟨10, .data⟩ (by simp) rfl
      obtain ⟨g, cs, e1, -, hbk, -, hz0, -⟩ := hZ.box 0 rfl hL
      obtain rfl := hz0 hi
      replace e1 : f 6 = _ := e1
      obtain ⟨A7, n7, c7, B7, m7, d7, e2⟩ := RatF.shape v
      replace e2 : f 25 = _ := e2
      replace v : RatF W (f 25) _ _ := v
      rw [e2] at v
      rw [e1, e2] at hV ⊢
      have E1 := Lib.hid e1
      clear e1 e2
      have k1 := hbk.cell (i := 0) rfl
      have k2 := hbk.cell (i := 1) rfl
      have k3 := hbk.cell (i := 2) rfl
      have k4 := hbk.frozen (i := 0)
      have k5 := hbk.frozen (i := 1)
      have k6 := hbk.frozen (i := 2)
      generalize decide (q.num < 0) = sb at v hV ⊢
      go_simp
      exact hV.out _ (hZ.store3 hok 0 rfl E1.out hL hi rfl noint_bool noint_slice noint_slice v)
    · intro L f W hZ hi hd K hK
      have hV := stepV (d := 7) (f := f) hK (by decide) (by decide)
      clear hK
      simp only [fillA, fillT, Act.put, List.foldl_cons, List.foldl_nil, List.setIfInBounds_toArray, List.set_cons_zero, List.set_cons_succ] at hV ⊢
      have v9 := hZ.get 9 rfl (hd ⟨9, .data⟩ (by simp) rfl)
      replace v9 : f 26 = _ := v9
      rw [v9] at hV ⊢
      clear v9
      go_simp
      exact hV.out _ _ (hZ.val hok 10 rfl (Below.refl _ _) rfl)
    intro L f W hZ hL
    obtain ⟨g6, b6, A6, n6, c6, B6, m6, d6, e6, p6, S6, F6⟩ := hZ.takeF hok (S.out.drew.below hZ.1) (drew_low S.out) (Fr.begin S.out) 0 rfl (hL 10 (by decide)) (hL 11 (by decide)) (by simp)
    have e7 := hZ.get 10 rfl (hL 12 (by decide))
    replace e7 : f 7 = _ := e7
    simp only [fillA, fillT, List.foldl_cons, List.foldl_nil, List.setIfInBounds_toArray, List.set_cons_zero, List.set_cons_succ]
    rw [e6, e7]
    replace S := Lib.hid (S6.push (stab_ratF _ _ _) p6)
    clear e6 e7 p6 S6 F6 hZ hL hok hRM hM1
    have c0x0 := (S.out.at 0 rfl).cell (i := 0) rfl
    have c0x1 := (S.out.at 0 rfl).cell (i := 1) rfl
    have c0x2 := (S.out.at 0 rfl).cell (i := 2) rfl
    go_wp2_with fail
    refine (hT.out _ _ (S.out.fact 0 rfl)).mono ?_
    rintro e w5 ⟨rfl, hb⟩
    replace S := Lib.hid (S.out.below hb)
    clear hb c0x0 c0x1 c0x2 hT
    go_wp2_with fail
    refine (hPq.out _ S.out.low).mono ?_
    rintro e w6 ⟨b8, A8, n8, c8, B8, m8, d8, rfl, hq, hb⟩
    replace S := Lib.hid (((S.out.below hb).push (stab_ratP _ _ _) hq).alloc [.bool b8, .slice A8 n8 c8, .slice B8 m8 d8] 30 (by decide) noint3)
    generalize hx8 : w6.heap.size = x8 at S
    obtain ⟨w7, hw7⟩ : ∃ w7, w6.alloc (.cells #[.bool b8, .slice A8 n8 c8, .slice B8 m8 d8] 30) = w7 := ⟨_, rfl⟩
    rw [hw7] at S
    clear hb hq
    go_wp2_with fail
    clear hw7 hx8 hPq
    have i1 : (n : Int) ≤ 8 := by omega
    have i2 : (n2 : Int) ≤ 8 := by omega
    refine wp_region_held_drew (S := fun W' => W'.cell? ⟨x8, 0, none⟩ = some (.bool b8) ∧ W'.cell? ⟨x8, 1, none⟩ = some (.slice A8 n8 c8) ∧ W'.cell? ⟨x8, 2, none⟩ = some (.slice B8 m8 d8) ∧ W'.cell? ⟨g6, 0, none⟩ = some (.bool b6) ∧ W'.cell? ⟨g6, 1, none⟩ = some (.slice A6 n6 c6) ∧ W'.cell? ⟨g6, 2, none⟩ = some (.slice B6 m6 d6) ∧ W'.cell? ⟨w.heap.size, 1, none⟩ = some (.slice A n c) ∧ W'.cell? ⟨w.heap.size, 2, none⟩ = some (.slice A2 n2 c2)) (by kernel_rfl) ⟨(S.out.drew.at 0 rfl).cell (i := 0) rfl, (S.out.drew.at 0 rfl).cell (i := 1) rfl, (S.out.drew.at 0 rfl).cell (i := 2) rfl, (S.out.drew.at 1 rfl).cell (i := 0) rfl, (S.out.drew.at 1 rfl).cell (i := 1) rfl, (S.out.drew.at 1 rfl).cell (i := 2) rfl, (S.out.drew.at 4 rfl).cell (i := 1) rfl, (S.out.drew.at 4 rfl).cell (i := 2) rfl⟩ (fun hHeld => ?_)
    replace S := Lib.hid S.out.drew
    generalize w7.drew = w8 at S hHeld ⊢
    refine wpAnyH_takeD 0 (v := ?_) rfl rfl (by kernel_rfl) (by kernel_rfl) (by kernel_rfl) (fun _ _ _ h => h) (Or.inl ⟨by rfl, ?_⟩) hHeld ?_
    rotate_left
    focus (intro w hSw; (try dsimp only at hSw); go_simp; try with_reducible rfl)
    simp only [List.setIfInBounds_toArray, List.set_cons_zero, List.set_cons_succ]
    refine wpAnyH_takeD 1 (v := ?_) rfl rfl (by kernel_rfl) (by kernel_rfl) (by kernel_rfl) (fun _ _ _ h => h) (Or.inl ⟨by rfl, ?_⟩) hHeld ?_
    rotate_left
    focus (intro w hSw; (try dsimp only at hSw); go_simp; try with_reducible rfl)
    simp only [List.setIfInBounds_toArray, List.set_cons_zero, List.set_cons_succ]
    refine wpAnyH_takeD 2 (v := ?_) rfl rfl (by kernel_rfl) (by kernel_rfl) (by kernel_rfl) (fun _ _ _ h => h) (Or.inl ⟨by rfl, ?_⟩) hHeld ?_
    rotate_left
    focus (intro w hSw; (try dsimp only at hSw); go_simp; try with_reducible rfl)
    simp only [List.setIfInBounds_toArray, List.set_cons_zero, List.set_cons_succ]
    refine wpAnyH_takeD 3 (v := ?_) rfl rfl (by kernel_rfl) (by kernel_rfl) (by kernel_rfl) (fun _ _ _ h => h) (Or.inl ⟨by rfl, ?_⟩) hHeld ?_
    rotate_left
    focus (intro w hSw; (try dsimp only at hSw); go_simp; try with_reducible rfl)
    simp only [List.setIfInBounds_toArray, List.set_cons_zero, List.set_cons_succ]
    refine wpAnyH_takeD 4 (v := ?_) rfl rfl (by kernel_rfl) (by kernel_rfl) (by kernel_rfl) (fun _ _ _ h => h) (Or.inl ⟨by rfl, ?_⟩) hHeld ?_
    rotate_left
    focus (intro w hSw; (try dsimp only at hSw); go_simp; try with_reducible rfl)
    simp only [List.setIfInBounds_toArray, List.set_cons_zero, List.set_cons_succ]
    refine wpAnyH_takeD 5 (v := ?_) rfl rfl (by kernel_rfl) (by kernel_rfl) (by kernel_rfl) (fun _ _ _ h => h) (Or.inl ⟨by rfl, ?_⟩) hHeld ?_
    rotate_left
    focus (intro w hSw; (try dsimp only at hSw); go_simp; try with_reducible rfl)
    simp only [List.setIfInBounds_toArray, List.set_cons_zero, List.set_cons_succ]
    refine wpAnyH_takeD 6 (v := ?_) rfl rfl (by kernel_rfl) (by kernel_rfl) (by kernel_rfl) (fun _ _ _ h => h) (Or.inl ⟨by rfl, ?_⟩) hHeld ?_
    rotate_left
    focus (intro w hSw; (try dsimp only at hSw); go_simp; try with_reducible rfl)
    simp only [List.setIfInBounds_toArray, List.set_cons_zero, List.set_cons_succ]
    refine wpAnyH_takeD 7 (v := ?_) rfl rfl (by kernel_rfl) (by kernel_rfl) (by kernel_rfl) (fun _ _ _ h => h) (Or.inl ⟨by rfl, ?_⟩) hHeld ?_
    rotate_left
    focus (intro w hSw; (try dsimp only at hSw); go_simp; try with_reducible rfl)
    simp only [List.setIfInBounds_toArray, List.set_cons_zero, List.set_cons_succ]
    refine wpAnyH_takeD 8 (v := ?_) rfl rfl (by kernel_rfl) (by kernel_rfl) (by kernel_rfl) (fun _ _ _ h => h) (Or.inl ⟨by rfl, ?_⟩) hHeld ?_
    rotate_left
    focus (intro w hSw; (try dsimp only at hSw); go_simp; try with_reducible rfl)
    simp only [List.setIfInBounds_toArray, List.set_cons_zero, List.set_cons_succ]
    refine wpAnyH_takeD 9 (v := ?_) rfl rfl (by kernel_rfl) (by kernel_rfl) (by kernel_rfl) (fun _ _ _ h => h) (Or.inl ⟨by rfl, ?_⟩) hHeld ?_
    rotate_left
    focus (intro w hSw; (try dsimp only at hSw); go_simp; try with_reducible rfl)
    simp only [List.setIfInBounds_toArray, List.set_cons_zero, List.set_cons_succ]
    refine wpAnyH_takeD 10 (v := ?_) rfl rfl (by kernel_rfl) (by kernel_rfl) (by kernel_rfl) (fun _ _ _ h => h) (Or.inl ⟨by rfl, ?_⟩) hHeld ?_
    rotate_left
    focus (intro w hSw; (try dsimp only at hSw); go_simp; try with_reducible rfl)
    simp only [List.setIfInBounds_toArray, List.set_cons_zero, List.set_cons_succ]
    refine wpAnyH_takeD 11 (v := ?_) rfl rfl (by kernel_rfl) (by kernel_rfl) (by kernel_rfl) (fun _ _ _ h => h) (Or.inl ⟨by rfl, ?_⟩) hHeld ?_
    rotate_left
    focus (intro w hSw; (try dsimp only at hSw); go_simp; try with_reducible rfl)
    simp only [List.setIfInBounds_toArray, List.set_cons_zero, List.set_cons_succ]
    refine wpAnyH_takeD 12 (v := ?_) rfl rfl (by kernel_rfl) (by kernel_rfl) (by kernel_rfl) (fun _ _ _ h => h) (Or.inl ⟨by rfl, ?_⟩) hHeld ?_
    rotate_left
    focus (intro w hSw; (try dsimp only at hSw); go_simp; try with_reducible rfl)
    simp only [List.setIfInBounds_toArray, List.set_cons_zero, List.set_cons_succ]
    refine wpAnyH_takeD 13 (v := ?_) rfl rfl (by kernel_rfl) (by kernel_rfl) (by kernel_rfl) (fun _ _ _ h => h) (Or.inl ⟨by rfl, ?_⟩) hHeld ?_
    rotate_left
    focus (intro w hSw; (try dsimp only at hSw); go_simp; try with_reducible rfl)
    simp only [List.setIfInBounds_toArray, List.set_cons_zero, List.set_cons_succ]
    refine wpAnyH_takeD 14 (v := ?_) rfl rfl (by kernel_rfl) (by kernel_rfl) (by kernel_rfl) (fun _ _ _ h => h) (Or.inl ⟨by rfl, ?_⟩) hHeld ?_
    rotate_left
    focus (intro w hSw; (try dsimp only at hSw); go_simp; try with_reducible rfl)
    simp only [List.setIfInBounds_toArray, List.set_cons_zero, List.set_cons_succ]
    refine wpAnyH_takeD 15 (v := ?_) rfl rfl (by kernel_rfl) (by kernel_rfl) (by kernel_rfl) (fun _ _ _ h => h) (Or.inl ⟨by rfl, ?_⟩) hHeld ?_
    rotate_left
    focus (intro w hSw; (try dsimp only at hSw); go_simp; try with_reducible rfl)
    simp only [List.setIfInBounds_toArray, List.set_cons_zero, List.set_cons_succ]
    have c3x0 := (S.out.at 3 rfl).cell (i := 0) rfl
    have f3x0 := (S.out.at 3 rfl).frozen (i := 0)
    have c3x1 := (S.out.at 3 rfl).cell (i := 1) rfl
    have f3x1 := (S.out.at 3 rfl).frozen (i := 1)
    have c3x2 := (S.out.at 3 rfl).cell (i := 2) rfl
    have f3x2 := (S.out.at 3 rfl).frozen (i := 2)
    refine wpAnyH_ready (rs := [16]) (by kernel_rfl) (by simp) ?_
    refine AllReadyH.cons rfl (fun K hK => ?_) AllReadyH.nil
    go_simp
    replace S := Lib.hid (S.out.set3 3 rfl (noint_bool (b := b8)) (noint_slice (A := A8) (n := n8) (c := c8)) (noint_slice (A := B8) (n := m8) (c := d8)) rfl)
    simp only [List.set_cons_zero, List.set_cons_succ] at S
    refine hK.out _ _ ⟨(S.out.at 0 rfl).cell (i := 0) rfl, (S.out.at 0 rfl).cell (i := 1) rfl, (S.out.at 0 rfl).cell (i := 2) rfl, (S.out.at 1 rfl).cell (i := 0) rfl, (S.out.at 1 rfl).cell (i := 1) rfl, (S.out.at 1 rfl).cell (i := 2) rfl, (S.out.at 4 rfl).cell (i := 1) rfl, (S.out.at 4 rfl).cell (i := 2) rfl⟩ (fun hHeld => ?_)
    clear hK K
    have c2x0 := (S.out.at 2 rfl).cell (i := 0) rfl
    have f2x0 := (S.out.at 2 rfl).frozen (i := 0)
    have c2x1 := (S.out.at 2 rfl).cell (i := 1) rfl
    have f2x1 := (S.out.at 2 rfl).frozen (i := 1)
    have c2x2 := (S.out.at 2 rfl).cell (i := 2) rfl
    have f2x2 := (S.out.at 2 rfl).frozen (i := 2)
    refine wpAnyH_ready (rs := [17]) (by kernel_rfl) (by simp) ?_
    refine AllReadyH.cons rfl (fun K hK => ?_) AllReadyH.nil
    go_simp
    replace S := Lib.hid (S.out.set3 2 rfl (noint_bool (b := b6)) (noint_slice (A := A6) (n := n6) (c := c6)) (noint_slice (A := B6) (n := m6) (c := d6)) rfl)
    simp only [List.set_cons_zero, List.set_cons_succ] at S
    refine hK.out _ _ ⟨(S.out.at 0 rfl).cell (i := 0) rfl, (S.out.at 0 rfl).cell (i := 1) rfl, (S.out.at 0 rfl).cell (i := 2) rfl, (S.out.at 1 rfl).cell (i := 0) rfl, (S.out.at 1 rfl).cell (i := 1) rfl, (S.out.at 1 rfl).cell (i := 2) rfl, (S.out.at 4 rfl).cell (i := 1) rfl, (S.out.at 4 rfl).cell (i := 2) rfl⟩ (fun hHeld => ?_)
    clear hK K
    refine wpAnyH_takeD 18 (v := ?_) rfl rfl (by kernel_rfl) (by kernel_rfl) (by kernel_rfl) (fun _ _ _ h => h) (Or.inl ⟨by rfl, ?_⟩) hHeld ?_
    rotate_left
    focus (intro w hSw; (try dsimp only at hSw); go_simp; try with_reducible rfl)
    simp only [List.setIfInBounds_toArray, List.set_cons_zero, List.set_cons_succ]
    refine wpAnyH_done (by kernel_rfl) ?_ _
    have c3x0 := (S.out.at 3 rfl).cell (i := 0) rfl
    have c3x1 := (S.out.at 3 rfl).cell (i := 1) rfl
    have c3x2 := (S.out.at 3 rfl).cell (i := 2) rfl
    have c2x0 := (S.out.at 2 rfl).cell (i := 0) rfl
    have c2x1 := (S.out.at 2 rfl).cell (i := 1) rfl
    have c2x2 := (S.out.at 2 rfl).cell (i := 2) rfl
    go_wp2_with fail
    refine bodyPost_ret (v := .tuple #[.agg #[.bool b8, .slice A8 n8 c8, .slice B8 m8 d8], .agg #[.bool b6, .slice A6 n6 c6, .slice B6 m6 d6], .bool true]) (by simp [results, Tryz.results13, go_sem, c3x0, c3x1, c3x2, c2x0, c2x1, c2x2]) rfl ?_
    exact ⟨b8, A8, n8, c8, B8, m8, d8, b6, A6, n6, c6, B6, m6, d6, rfl, S.out.fact 0 rfl, S.out.fact 1 rfl, S.out.low⟩
end Go.Proofs.YthfjbpbgnoonpaaGreatDoor
