/- What Parse reads out of a fraction's text; the reference's Text; the law's helper is. -/
import Derived.Test.YthfjbpbgnoonpaaGreatDoorRJ
import Derived.Test.YthfjbpbgnoonpaaGreatDoorRP
namespace Go.Proofs.YthfjbpbgnoonpaaGreatDoor
open Go.RowKit

theorem pE_dec {k : Nat} (h : (dec k).length ≤ 1000) : pE ⟨(dec k).toArray⟩ = 0 := by
  unfold pE
  rw [if_pos (dec_isText k), if_pos (by simpa [ByteArray.size] using h)]
theorem pK_dec {k : Nat} (h : (dec k).length ≤ 1000) : pK ⟨(dec k).toArray⟩ = k := by
  unfold pK
  rw [if_pos ⟨dec_isText k, by simpa [ByteArray.size] using h⟩]
  exact numL_dec k
theorem dec_digit (k : Nat) : ∀ c ∈ dec k, c ≠ 47 ∧ c ≠ 45 := by
  have h := (dec_isText k).2.2.digL
  intro c hc
  have := h c hc
  constructor <;> (rintro rfl; revert this; decide)
theorem index_no {l : List UInt8} (h : ∀ c ∈ l, c ≠ 47) : Lib.index l [47] = -1 := by
  induction l with
  | nil => rfl
  | cons b l ih =>
    have hb : (47 == b) = false := beq_eq_false_iff_ne.2 (h b (by simp)).symm
    unfold Lib.index
    rw [ih fun c hc => h c (by simp [hc])]
    simp [List.isPrefixOf, hb]
theorem index_at {l m : List UInt8} (h : ∀ c ∈ l, c ≠ 47) : Lib.index (l ++ 47 :: m) [47] = (l.length : Int) := by
  induction l with
  | nil => unfold Lib.index; simp [List.isPrefixOf]
  | cons b l ih =>
    have hb : (47 == b) = false := beq_eq_false_iff_ne.2 (h b (by simp)).symm
    show Lib.index (b :: (l ++ 47 :: m)) [47] = _
    unfold Lib.index
    rw [ih fun c hc => h c (by simp [hc])]
    simp [List.isPrefixOf, hb]
theorem cut_none {l : List UInt8} (h : ∀ c ∈ l, c ≠ 47) : Lib.cut l [47] = (l, [], false) := by
  unfold Lib.cut
  rw [index_no h]
  rfl
theorem cut_here {l m : List UInt8} (h : ∀ c ∈ l, c ≠ 47) : Lib.cut (l ++ 47 :: m) [47] = (l, m, true) := by
  unfold Lib.cut
  rw [index_at h, if_pos (by omega)]
  simp
theorem body_has {k d : Nat} : Lib.hasPrefix (dec k ++ (if d = 1 then [] else 47 :: dec d)) [45] = false := by
  have h := dec_digit k
  match hm : dec k with
  | [] => have := (dec_isText k).1; simp [ByteArray.size, hm] at this
  | c :: l =>
    rw [hm] at h
    have := (h c (by simp)).2
    have hb : (45 == c) = false := beq_eq_false_iff_ne.2 this.symm
    simp [Lib.hasPrefix, List.isPrefixOf, hb]
theorem txt_has {x : Bool} {k d : Nat} : Lib.hasPrefix (txtB x k d) [45] = x := by
  unfold txtB
  cases x
  · simpa using body_has (k := k) (d := d)
  · simp [Lib.hasPrefix, List.isPrefixOf]
theorem txt_trim {x : Bool} {k d : Nat} : Lib.trimPrefix (txtB x k d) [45] = dec k ++ (if d = 1 then [] else 47 :: dec d) := by
  unfold Lib.trimPrefix
  rw [txt_has]
  unfold txtB
  cases x
  · simp
  · simp
theorem txt_cut {k d : Nat} : (Lib.cut (dec k ++ (if d = 1 then [] else 47 :: dec d)) [47]).1 = dec k ∧ (if (Lib.cut (dec k ++ (if d = 1 then [] else 47 :: dec d)) [47]).2.2 then (Lib.cut (dec k ++ (if d = 1 then [] else 47 :: dec d)) [47]).2.1 else [49]) = dec d := by
  have h : ∀ c ∈ dec k, c ≠ 47 := fun c hc => (dec_digit k c hc).1
  by_cases hd : d = 1
  · rw [if_pos hd, List.append_nil, cut_none h, hd, dec_one]
    exact ⟨rfl, rfl⟩
  · rw [if_neg hd, cut_here h]
    exact ⟨rfl, rfl⟩
theorem parse_txt {w : World} {x : Bool} {k d : Nat} (hV : Vars w) (hk : (dec k).length ≤ 1000) (hd : (dec d).length ≤ 1000) :
    Calls Tryz.prog 22 #[.string ⟨(txtB x k d).toArray⟩] w (ParQ w x 0 k d) := by
  have hl : (txtB x k d).length ≤ 3000 := by
    unfold txtB
    split <;> split <;> simp <;> omega
  have := parse_any (w := w) (s := ⟨(txtB x k d).toArray⟩) (TA := ⟨(dec k).toArray⟩) (TB := ⟨(dec d).toArray⟩) (by simp [ByteArray.size]; omega) hV
    (by simp only; rw [txt_trim]; exact txt_cut.1) (by simp only; rw [txt_trim]; exact txt_cut.2) (by simp [ByteArray.size]; omega) (by simp [ByteArray.size]; omega)
  simp only at this
  rw [txt_has, pE_dec hk, pE_dec hd, pK_dec hk, pK_dec hd] at this
  exact this

set_option maxRecDepth 100000 in
set_option maxHeartbeats 4000000 in
theorem refText_q {w : World} {v : Value} {q : Rat} {a : Nat} (h : RatF w v q a) (ha : a ≤ 400) : Calls Tryz.prog 53 #[v] w fun e w' => e = .returned (str (txtQ q)) ∧ Below w.heap.size w w' := by
  obtain ⟨b1, b2⟩ := h.bounds
  have l1 := dec_lenB b1
  have l2 := dec_lenB b2
  obtain ⟨A, n, c, A2, n2, c2, rfl⟩ := h.shape
  obtain ⟨-, h1, h2⟩ := h.parts
  obtain ⟨w1, hw1, S⟩ := enter1 w [.bool (decide (q.num < 0)), .slice A n c, .slice A2 n2 c2] 34 (by decide) noint3
  have hN := Lib.hid (textF (h1.below S.out.low) ha)
  have hX := Lib.hid (fun W (hw : Below w.heap.size w W) => textF (h2.below hw) ha)
  have hnz := h2.n_zero
  have hnl := h2.n_le
  have hp := q.den_pos
  unfold str txtQ at *
  clear h b1 b2 h1 h2
  generalize decide (q.num < 0) = x at S hw1 ⊢
  generalize q.num.natAbs = k at *
  generalize q.den = d at *
  unfold txtB
  have z1 : ¬ 9223372036854775807 < (1 : Nat) + (⟨(dec k).toArray⟩ : ByteArray).size := by simp [ByteArray.size]; omega
  have z2 : ¬ 9223372036854775807 < (1 : Nat) + (⟨(dec d).toArray⟩ : ByteArray).size := by simp [ByteArray.size]; omega
  have z3 : ¬ 9223372036854775807 < (⟨(dec k).toArray⟩ : ByteArray).size + (1 + (⟨(dec d).toArray⟩ : ByteArray).size) := by simp [ByteArray.size]; omega
  have z4 : ¬ 9223372036854775807 < (1 : Nat) + (⟨(dec k).toArray⟩ : ByteArray).size + (1 + (⟨(dec d).toArray⟩ : ByteArray).size) := by simp [ByteArray.size]; omega
  clear l1 l2
  by_cases hd : d = 1
  · rw [if_pos hd] at hnz
    obtain rfl : n2 = 0 := hnz.2 rfl
    rw [if_pos hd]
    clear hd z2 z3 z4 hX hnz hp hnl
    cases x
    all_goals
      have c0x0 := (S.out.at 0 rfl).cell (i := 0) rfl
      have c0x1 := (S.out.at 0 rfl).cell (i := 1) rfl
      have c0x2 := (S.out.at 0 rfl).cell (i := 2) rfl
      go_enter Tryz.func53, Tryz.ntmps53
      go_wp2_with fail
      refine hN.out.mono ?_
      rintro e w2 ⟨rfl, hb⟩
      replace S := Lib.hid (S.out.below hb)
      clear hb hw1 hN c0x0 c0x1 c0x2
      have c0x0 := (S.out.at 0 rfl).cell (i := 0) rfl
      have c0x1 := (S.out.at 0 rfl).cell (i := 1) rfl
      have c0x2 := (S.out.at 0 rfl).cell (i := 2) rfl
      go_wp2_with fail
      go_ret
      refine ⟨?_, S.out.low⟩
      congr 2
      try exact bytes_ext (by simp)
  · rw [if_neg hd] at hX hnz
    rw [if_neg hd]
    have hn0 : 0 < n2 := by rcases Nat.eq_zero_or_pos n2 with h0 | h0; (have := hnz.1 h0; omega); exact h0
    clear hd hnz hp
    cases x
    all_goals
      have c0x0 := (S.out.at 0 rfl).cell (i := 0) rfl
      have c0x1 := (S.out.at 0 rfl).cell (i := 1) rfl
      have c0x2 := (S.out.at 0 rfl).cell (i := 2) rfl
      go_enter Tryz.func53, Tryz.ntmps53
      go_wp2_with fail
      refine hN.out.mono ?_
      rintro e w2 ⟨rfl, hb⟩
      replace S := Lib.hid (S.out.below hb)
      clear hb hw1 hN c0x0 c0x1 c0x2
      have c0x0 := (S.out.at 0 rfl).cell (i := 0) rfl
      have c0x1 := (S.out.at 0 rfl).cell (i := 1) rfl
      have c0x2 := (S.out.at 0 rfl).cell (i := 2) rfl
      go_wp2_with fail
      refine (hX.out _ S.out.low).mono ?_
      rintro e w3 ⟨rfl, hb⟩
      replace S := Lib.hid (S.out.below hb)
      go_wp2_with fail
      go_ret
      refine ⟨?_, S.out.low⟩
      congr 2
      try exact bytes_ext (by simp)
set_option maxRecDepth 100000 in
set_option maxHeartbeats 4000000 in
/-- The helper is: a number of the program and one of the reference that stand for the same fraction. -/
theorem is_any {w : World} {u v : Value} {q : Rat} {a b : Nat} (hT : Tab w) (hu : RatP w u q a) (hv : RatF w v q b) (ha : a ≤ 400) (hb : b ≤ 400) : Calls Tryz.prog 18 #[u, v] w fun e w' => e = .returned (.bool true) ∧ Below w.heap.size w w' := by
  have hX := Lib.hid (fun W (hw : Below w.heap.size w W) => text_any (hT.below hw) (hu.below hw) ha)
  have hY := Lib.hid (fun W (hw : Below w.heap.size w W) => refText_q (hv.below hw) hb)
  obtain ⟨A, n, c, A2, n2, c2, rfl⟩ := hu.shape
  obtain ⟨B, m, d, B2, m2, d2, rfl⟩ := hv.shape
  obtain ⟨w1, hw1, S⟩ := enter2 w [.bool (decide (q.num < 0)), .slice A n c, .slice A2 n2 c2] 30 [.bool (decide (q.num < 0)), .slice B m d, .slice B2 m2 d2] 34 (by decide) noint3 (by decide) noint3
  clear hu hv hT
  unfold str at hX hY
  generalize txtQ q = t at hX hY
  generalize decide (q.num < 0) = x at hX hY S hw1 ⊢
  go_enter Tryz.func18, Tryz.ntmps18
  go_wp2_with fail
  clear hw1
  refine wp_region_held_drew (S := fun W' => W'.cell? ⟨w.heap.size, 0, none⟩ = some (.bool x) ∧ W'.cell? ⟨w.heap.size, 1, none⟩ = some (.slice A n c) ∧ W'.cell? ⟨w.heap.size, 2, none⟩ = some (.slice A2 n2 c2) ∧ W'.cell? ⟨(w.heap.size + 1), 0, none⟩ = some (.bool x) ∧ W'.cell? ⟨(w.heap.size + 1), 1, none⟩ = some (.slice B m d) ∧ W'.cell? ⟨(w.heap.size + 1), 2, none⟩ = some (.slice B2 m2 d2)) (by kernel_rfl) ⟨(S.out.drew.at 1 rfl).cell (i := 0) rfl, (S.out.drew.at 1 rfl).cell (i := 1) rfl, (S.out.drew.at 1 rfl).cell (i := 2) rfl, (S.out.drew.at 0 rfl).cell (i := 0) rfl, (S.out.drew.at 0 rfl).cell (i := 1) rfl, (S.out.drew.at 0 rfl).cell (i := 2) rfl⟩ (fun hHeld => ?_)
  replace S := Lib.hid S.out.drew
  generalize w1.drew = w2 at S hHeld ⊢
  refine wpAnyH_takeD 0 (v := ?_) rfl rfl (by kernel_rfl) (by kernel_rfl) (by kernel_rfl) (fun _ _ _ h => h) (Or.inl ⟨by rfl, ?_⟩) hHeld ?_
  rotate_left
  focus (intro w hSw; (try dsimp only at hSw); go_simp; try with_reducible rfl)
  simp only [List.setIfInBounds_toArray, List.set_cons_zero, List.set_cons_succ]
  refine wpAnyH_takeD 2 (v := ?_) rfl rfl (by kernel_rfl) (by kernel_rfl) (by kernel_rfl) (fun _ _ _ h => h) (Or.inl ⟨by rfl, ?_⟩) hHeld ?_
  rotate_left
  focus (intro w hSw; (try dsimp only at hSw); go_simp; try with_reducible rfl)
  simp only [List.setIfInBounds_toArray, List.set_cons_zero, List.set_cons_succ]
  refine wpAnyH_ready (rs := [1]) (by kernel_rfl) (by simp) ?_
  refine AllReadyH.cons rfl (fun K hK => ?_) AllReadyH.nil
  go_simp
  refine (hX.out _ S.out.low).mono ?_
  rintro e w3 ⟨rfl, hb1⟩
  replace S := Lib.hid (S.out.below hb1)
  clear hb1
  refine hK.out _ _ ⟨(S.out.at 1 rfl).cell (i := 0) rfl, (S.out.at 1 rfl).cell (i := 1) rfl, (S.out.at 1 rfl).cell (i := 2) rfl, (S.out.at 0 rfl).cell (i := 0) rfl, (S.out.at 0 rfl).cell (i := 1) rfl, (S.out.at 0 rfl).cell (i := 2) rfl⟩ (fun hHeld => ?_)
  clear hK K
  refine wpAnyH_ready (rs := [3]) (by kernel_rfl) (by simp) ?_
  refine AllReadyH.cons rfl (fun K hK => ?_) AllReadyH.nil
  go_simp
  refine (hY.out _ S.out.low).mono ?_
  rintro e w4 ⟨rfl, hb1⟩
  replace S := Lib.hid (S.out.below hb1)
  clear hb1
  refine hK.out _ _ ⟨(S.out.at 1 rfl).cell (i := 0) rfl, (S.out.at 1 rfl).cell (i := 1) rfl, (S.out.at 1 rfl).cell (i := 2) rfl, (S.out.at 0 rfl).cell (i := 0) rfl, (S.out.at 0 rfl).cell (i := 1) rfl, (S.out.at 0 rfl).cell (i := 2) rfl⟩ (fun hHeld => ?_)
  clear hK K
  refine wpAnyH_takeD 4 (v := ?_) rfl rfl (by kernel_rfl) (by kernel_rfl) (by kernel_rfl) (fun _ _ _ h => h) (Or.inl ⟨by rfl, ?_⟩) hHeld ?_
  rotate_left
  focus (intro w hSw; (try dsimp only at hSw); go_simp; try with_reducible rfl)
  simp only [List.setIfInBounds_toArray, List.set_cons_zero, List.set_cons_succ]
  refine wpAnyH_takeD 5 (v := ?_) rfl rfl (by kernel_rfl) (by kernel_rfl) (by kernel_rfl) (fun _ _ _ h => h) (Or.inl ⟨by rfl, ?_⟩) hHeld ?_
  rotate_left
  focus (intro w hSw; (try dsimp only at hSw); go_simp; try with_reducible rfl)
  simp only [List.setIfInBounds_toArray, List.set_cons_zero, List.set_cons_succ]
  refine wpAnyH_done (by kernel_rfl) ?_ _
  go_wp2_with fail
  go_ret
  exact ⟨rfl, S.out.low⟩
end Go.Proofs.YthfjbpbgnoonpaaGreatDoor
