/- Contract: the program's Sum. -/
import Derived.Test.YthfjbpbgnoonpaaGreatDoorSB
namespace Go.Proofs.YthfjbpbgnoonpaaGreatDoor
open Go.RowKit

/-- An argument that is a list of fractions. -/
def AL (W : World) (v : Value) (n : Nat) (f : RQ) : Prop := ∃ A c, ∃ M : List C3, v = .slice A n c ∧ M.length = n ∧ (0 < n → ∃ g, A = some ⟨g, 0, none⟩ ∧ ∀ j u, (fl3 M)[j]? = some u → W.cell? ⟨g, j, none⟩ = some u) ∧
  ∀ i x, M[i]? = some x → RatP W (.agg #[x.1, x.2.1, x.2.2]) (f i).1 (f i).2
theorem infoP : (Tryz.prog.info? 30).map (fun i => (i.zero, i.size, i.bytes)) = some (some (.agg #[.bool false, .slice none 0 0, .slice none 0 0]), 3, 56) := by kernel_rfl
theorem infoF : (Tryz.prog.info? 34).map (fun i => (i.zero, i.size, i.bytes)) = some (some (.agg #[.bool false, .slice none 0 0, .slice none 0 0]), 3, 56) := by kernel_rfl
theorem info_three {o : Option TypeInfo} {z : Value} {s b : Nat} (h : o.map (fun i => (i.zero, i.size, i.bytes)) = some (some z, s, b)) : ∃ i, o = some i ∧ i.zero = some z ∧ i.size = s ∧ i.bytes = b := by
  cases o with
  | none => cases h
  | some i =>
    simp only [Option.map_some, Option.some.injEq, Prod.mk.injEq] at h
    exact ⟨i, rfl, h.1, h.2.1, h.2.2⟩
theorem RatP.one {W : World} {x : C3} {q : Rat} {a : Nat} (h : RatP W (.agg #[x.1, x.2.1, x.2.2]) q a) : ∀ u ∈ enc3 x, (∀ k z, u ≠ .int k z) ∧ u.oneCell' = true := by
  obtain ⟨A, n, c, A2, n2, c2, e⟩ := RatP.shape h
  injection e with e
  simp at e
  obtain ⟨e1, e2, e3⟩ := e
  intro u hu
  simp only [enc3, List.mem_cons, List.not_mem_nil, or_false] at hu
  rcases hu with rfl | rfl | rfl
  · rw [e1]; exact ⟨noint_bool, rfl⟩
  · rw [e2]; exact ⟨noint_slice, rfl⟩
  · rw [e3]; exact ⟨noint_slice, rfl⟩
/-- A row behind an append. -/
theorem PR.start {w W : World} {v : Value} {n : Nat} {f : RQ} {M : List C3} (h : W.ownsRow w.heap.size TP 3 v n (fl3 M)) (hn : M.length = n) (h0 : 0 < n) (hM : ∀ i x, M[i]? = some x → RatP W (.agg #[x.1, x.2.1, x.2.2]) (f i).1 (f i).2) (hl : Below w.heap.size w W) :
    ∃ g c, v = .slice (some ⟨g, 0, none⟩) n c ∧ n ≤ c ∧ c ≤ maxLen ∧ PR w W g n f := by
  rcases h.2 with ⟨rfl, h1⟩ | ⟨g, cap, cur, rfl, hb, hg, hc, hm, -, -⟩
  · omega
  · refine ⟨g, cap, rfl, hc, hm, ⟨⟨cur.toList, by unfold Blk; simpa using hg⟩, fun i hi => ?_, hb, hl⟩⟩
    have hx := hM i M[i] (List.getElem?_eq_getElem (by omega))
    obtain ⟨A, m, c, A2, m2, c2, e⟩ := RatP.shape hx
    have hcell : ∀ k, k < 3 → W.cell? ⟨g, i * 3 + k, none⟩ = (enc3 M[i])[k]? := fun k hk => (h.cellAt (i * 3 + k) (by omega)).trans (fl3_get M (by omega) k hk)
    generalize M[i] = x at hx e hcell
    obtain ⟨x1, x2, x3⟩ := x
    injection e with e
    simp at e
    obtain ⟨rfl, rfl, rfl⟩ := e
    exact ⟨_, A, m, c, A2, m2, c2, hcell 0 (by omega), hcell 1 (by omega), hcell 2 (by omega), hx⟩

theorem PR.drew {w W : World} {g n : Nat} {f : RQ} (h : PR w W g n f) : PR w W.drew g n f := h.below ((Below.refl _ _).drew)
section
variable {f f' : RQ} {n k m i j j1 : Nat}
theorem bnd1 (h : wt f' k = wt f n) (hw : wt f n ≤ 80) (hj : j = 2 * i) (hj1 : j1 = j + 1) (hm : 2 * m ≤ k ∧ k ≤ 2 * m + 1 ∧ 1 ≤ m) (hi : i < m) : (mid f' i j).2 ≤ 90 := by
  have := wt_le f' (show j < k by omega)
  simp only [mid, show ¬ j < i by omega, if_false]
  omega
theorem bnd2 (h : wt f' k = wt f n) (hw : wt f n ≤ 80) (hj : j = 2 * i) (hj1 : j1 = j + 1) (hm : 2 * m ≤ k ∧ k ≤ 2 * m + 1 ∧ 1 ≤ m) (hi : i < m) : (mid f' i j1).2 ≤ 90 := by
  have := wt_le f' (show j1 < k by omega)
  simp only [mid, show ¬ j1 < i by omega, if_false]
  omega
theorem mid_step (f' : RQ) (h : j = 2 * i ∧ j1 = j + 1) : ∀ x, x < k → (if x = i then ((mid f' i j).1 + (mid f' i j1).1, (mid f' i j).2 + (mid f' i j1).2 + 1) else mid f' i x) = mid f' (i + 1) x := by
  obtain ⟨rfl, rfl⟩ := h
  intro x _
  by_cases hx : x = i
  · subst hx
    simp [mid, pr2, show ¬ 2 * x < x by omega, show ¬ 2 * x + 1 < x by omega]
  · rw [if_neg hx]
    simp only [mid]
    by_cases h1 : x < i
    · rw [if_pos h1, if_pos (by omega)]
    · rw [if_neg h1, if_neg (by omega)]
theorem odd_step (f' : RQ) (hj : j = 2 * i) : ∀ x, x < k → (if x = i then ((mid f' i j).1, (mid f' i j).2) else mid f' i x) = odd2 f' i x := by
  subst hj
  intro x _
  by_cases hx : x = i
  · subst hx
    simp [mid, odd2, show ¬ 2 * x < x by omega]
  · simp [odd2, hx]
end

set_option maxRecDepth 100000 in
set_option maxHeartbeats 8000000 in
theorem sum_any {w : World} {v : Value} {n : Nat} {f : RQ} (h : AL w v n f) (h0 : 0 < n) (hn : n ≤ 1000) (hw : wt f n ≤ 80) :
    Calls Tryz.prog 49 #[v] w (OpQ w (tot f n) (wt f n - 1)) := by
  obtain ⟨A, c, M, rfl, hM, hA, hel⟩ := h
  obtain ⟨gA, rfl, hcl⟩ := hA h0
  obtain ⟨w1, hw1, S⟩ := enter1 w [.bool false, .slice none 0 0, .slice none 0 0] 30 (by decide) noint3
  obtain ⟨i0, hi, hz0, hz9, hz8⟩ := info_three infoP
  have hcs : (Value.agg #[.bool false, .slice none 0 0, .slice none 0 0]).cells.size = 3 := by first | rfl | decide | kernel_rfl
  have hn0 : ((n : Int) == 0) = false := by simp; omega
  have hT := Tryz.underlying75
  have hb1 : Below w.heap.size w w1 := S.out.low
  have hlM : (fl3 M).length = n * 3 := by rw [fl3_len, hM]
  have hnews : ∀ j u, (fl3 M)[j]? = some u → w1.cell? ((⟨gA, 0, none⟩ : Addr).add j) = some u := fun j u hu => by
    have h1 := hcl j u hu
    rw [show (⟨gA, 0, none⟩ : Addr).add j = ⟨gA, j, none⟩ by cases j <;> simp [Addr.add]]
    exact (hb1.cell (p := ⟨gA, j, none⟩) (World.block_lt_of_cell? w _ h1)).trans h1
  have hone : ∀ u ∈ fl3 M, u.oneCell' = true := fun u hu => by
    obtain ⟨x, hx, hxu⟩ := List.mem_flatMap.1 hu
    obtain ⟨i, hi, rfl⟩ := List.getElem_of_mem hx
    exact ((hel i _ (List.getElem?_eq_getElem hi)).one u hxu).2
  have hel1 : Hid (∀ W, Below w1.heap.size w1 W → ∀ i x, M[i]? = some x → RatP W (.agg #[x.1, x.2.1, x.2.2]) (f i).1 (f i).2) := Lib.hid fun W hW i x hx => ((hel i x hx).below hb1).below hW
  have HM := Lib.hid hM
  have HN := Lib.hid hnews
  have HL := Lib.hid hlM
  have HO := Lib.hid hone
  have HT := Lib.hid hT
  have HW := Lib.hid hw
  clear hel hcl hA hb1 hM hnews hlM hone hT hw
  go_enter Tryz.func49, Tryz.ntmps49
  go_wp2_with (at_builtin; go_loud (refine wpList_append_own_at _ rfl (.const (.slice none 0 0)) (.tmp 10) _ rfl w1.heap.size TP i0 _ 3 56 HT.out hi hz0 hz9 hz8 hcs (by decide) (.slice none 0 0) 0 [] rfl (World.ownsRow_nil _ _ _ _) ⟨gA, 0, none⟩ n c (fl3 M) rfl HL.out HN.out HO.out (by unfold maxLen; omega) (by omega) (Nat.le_refl _) ?_; intro v' w2 hown2 hg2 _ _))
  have hb2 : Below w1.heap.size w1 w2 := (Below.refl _ w1).grown hg2 (Nat.le_refl _) (fun k hk => by cases hk)
  rw [List.nil_append, Nat.zero_add] at hown2
  obtain ⟨g, cG, e2, hc1, hc2, hPR⟩ := PR.start hown2 HM.out h0 (hel1.out w2 hb2) hb2
  subst e2
  have HP := Lib.hid hPR
  clear hPR hb2 hown2 hg2 hi hz0 hz9 hz8 hcs HT HL HN HO HM hel1
  clear hw1
  go_wp2_with fail
  go_loopw [3] (fun va wr => ∃ (k c' : Nat) (f' : RQ), va = .slice (some ⟨g, 0, none⟩) k c' ∧ 0 < k ∧ k ≤ 1000 ∧ k ≤ c' ∧ c' ≤ maxLen ∧ Hid (PR w1 wr g k f') ∧ Hid (tot f' k = tot f n ∧ wt f' k = wt f n)) (fun va _ => match va with | .slice _ k _ => k | _ => 0)
  case atStart => exact ⟨n, cG, f, rfl, h0, hn, hc1, hc2, HP, Lib.hid ⟨rfl, rfl⟩⟩
  case round =>
    clear HP
    obtain ⟨k, c', f', rfl, hk0, hk, hkc, hcm, HP, HE⟩ := hrel
    by_cases hk1 : 1 < k
    · have hk1' : (1 : Int) < (k : Int) := by omega
      obtain ⟨m, hm⟩ : ∃ m : Nat, m = k / 2 := ⟨_, rfl⟩
      have hq2 : (k : Int) / 2 = (m : Int) := by omega
      have hm1 : 2 * m ≤ k ∧ k ≤ 2 * m + 1 ∧ 1 ≤ m := by omega
      have HMK := Lib.hid hm1
      clear hm hm1
      go_wp2_with fail
      have HP0 := Lib.hid (HP.out.congr (f' := mid f' 0) (fun j _ => by simp [mid]))
      clear HP
      go_loopw [19] (fun vi wq => ∃ i : Nat, vi = .int .i64 (i : Nat) ∧ i ≤ m ∧ Hid (PR w1 wq g k (mid f' i))) (fun vi _ => m - (intOf vi).toNat)
      case atStart => exact ⟨0, rfl, Nat.zero_le _, HP0⟩
      case round =>
        clear HP0
        obtain ⟨wq, rfl⟩ : ∃ x, x = wr := ⟨_, rfl⟩
        obtain ⟨i, rfl, him, HI⟩ := hrel
        by_cases hi : i < m
        · have hi' : (i : Int) < (m : Int) := by omega
          have hz0 : (0 : Int) ≤ (i : Int) := by omega
          have hz1 : (i : Int) < (k : Int) := by have := HMK.out; omega
          obtain ⟨j, hj⟩ : ∃ j : Nat, j = 2 * i := ⟨_, rfl⟩
          have hw1 : IntKind.i64.wrap (2 * (i : Int)) = (j : Int) := (IntWalk.i64_in _ (by omega)).trans (by omega)
          obtain ⟨j1, hj1⟩ : ∃ j1 : Nat, j1 = j + 1 := ⟨_, rfl⟩
          have hw2 : IntKind.i64.wrap ((j : Int) + 1) = (j1 : Int) := (IntWalk.i64_in _ (by omega)).trans (by omega)
          have hw3 : IntKind.i64.wrap ((i : Int) + 1) = (i : Int) + 1 := IntWalk.i64_in _ (by omega)
          have hj2 : j1 < k ∧ j < k ∧ i < k := by have := HMK.out; omega
          have hz2 : (0 : Int) ≤ (j : Int) := by omega
          have hz3 : (j : Int) < (k : Int) := by omega
          have hz4 : (0 : Int) ≤ (j1 : Int) := by omega
          have hz5 : (j1 : Int) < (k : Int) := by omega
          have HIK := Lib.hid hj2.2.2
          replace HI := Lib.hid HI.out.drew
          obtain ⟨b2, A2, m2, c2, B2, n2, d2, c0, c1, c2', hr1⟩ := HI.out.el j hj2.2.1
          obtain ⟨b3, A3, m3, c3, B3, n3, d3, d0, d1, d2', hr2⟩ := HI.out.el j1 hj2.1
          have HAdd := Lib.hid (add_any hr1 hr2 (bnd1 HE.out.2 HW.out hj hj1 HMK.out hi) (bnd2 HE.out.2 HW.out hj hj1 HMK.out hi))
          have hjj := Lib.hid (And.intro hj hj1)
          clear hr1 hr2 hj hj1 hj2
          go_wp2_with fail
          refine wp_region_held_drew (S := fun _ => True) (by kernel_rfl) trivial (fun hHeld => ?_)
          generalize wq.drew = w3 at HI c0 c1 c2' d0 d1 d2' HAdd hHeld ⊢
          refine wpAnyH_takeD 0 (v := ?_) rfl rfl (by kernel_rfl) (by kernel_rfl) (by kernel_rfl) (fun _ _ _ h => h) (Or.inl ⟨by rfl, ?_⟩) hHeld ?_
          rotate_left
          focus (intro w hSw; (try dsimp only at hSw); go_simp; try with_reducible rfl)
          simp only [List.setIfInBounds_toArray, List.set_cons_zero, List.set_cons_succ]
          refine wpAnyH_takeD 1 (v := ?_) rfl rfl (by kernel_rfl) (by kernel_rfl) (by kernel_rfl) (fun _ _ _ h => h) (Or.inl ⟨by rfl, ?_⟩) hHeld ?_
          rotate_left
          focus (intro w hSw; (try dsimp only at hSw); go_simp; try with_reducible rfl)
          simp only [List.setIfInBounds_toArray, List.set_cons_zero, List.set_cons_succ]
          refine wpAnyH_takeD 2 (v := ?_) rfl rfl (by kernel_rfl) (by kernel_rfl) (by kernel_rfl) (fun _ _ _ h => h) (Or.inl ⟨by rfl, ?_⟩) hHeld ?_
          rotate_left
          focus (intro w hSw; (try dsimp only at hSw); go_simp; try with_reducible rfl)
          simp only [List.setIfInBounds_toArray, List.set_cons_zero, List.set_cons_succ]
          refine wpAnyH_takeD 3 (v := ?_) rfl rfl (by kernel_rfl) (by kernel_rfl) (by kernel_rfl) (fun _ _ _ h => h) (Or.inl ⟨by rfl, ?_⟩) hHeld ?_
          rotate_left
          focus (intro w hSw; (try dsimp only at hSw); go_simp; try with_reducible rfl)
          simp only [List.setIfInBounds_toArray, List.set_cons_zero, List.set_cons_succ]
          refine wpAnyH_takeD 4 (v := ?_) rfl rfl (by kernel_rfl) (by kernel_rfl) (by kernel_rfl) (fun _ _ _ h => h) (Or.inl ⟨by rfl, ?_⟩) hHeld ?_
          rotate_left
          focus (intro w hSw; (try dsimp only at hSw); go_simp; try with_reducible rfl)
          simp only [List.setIfInBounds_toArray, List.set_cons_zero, List.set_cons_succ]
          refine wpAnyH_takeD 5 (v := ?_) rfl rfl (by kernel_rfl) (by kernel_rfl) (by kernel_rfl) (fun _ _ _ h => h) (Or.inl ⟨by rfl, ?_⟩) hHeld ?_
          rotate_left
          focus (intro w hSw; (try dsimp only at hSw); go_simp; try with_reducible rfl)
          simp only [List.setIfInBounds_toArray, List.set_cons_zero, List.set_cons_succ]
          refine wpAnyH_takeD 7 (v := ?_) rfl rfl (by kernel_rfl) (by kernel_rfl) (by kernel_rfl) (fun _ _ _ h => h) (Or.inl ⟨by rfl, ?_⟩) hHeld ?_
          rotate_left
          focus (intro w hSw; (try dsimp only at hSw); go_simp; try with_reducible rfl)
          simp only [List.setIfInBounds_toArray, List.set_cons_zero, List.set_cons_succ]
          refine wpAnyH_takeD 8 (v := ?_) rfl rfl (by kernel_rfl) (by kernel_rfl) (by kernel_rfl) (fun _ _ _ h => h) (Or.inl ⟨by rfl, ?_⟩) hHeld ?_
          rotate_left
          focus (intro w hSw; (try dsimp only at hSw); go_simp; try with_reducible rfl)
          simp only [List.setIfInBounds_toArray, List.set_cons_zero, List.set_cons_succ]
          refine wpAnyH_takeD 9 (v := ?_) rfl rfl (by kernel_rfl) (by kernel_rfl) (by kernel_rfl) (fun _ _ _ h => h) (Or.inl ⟨by rfl, ?_⟩) hHeld ?_
          rotate_left
          focus (intro w hSw; (try dsimp only at hSw); go_simp; try with_reducible rfl)
          simp only [List.setIfInBounds_toArray, List.set_cons_zero, List.set_cons_succ]
          refine wpAnyH_takeD 10 (v := ?_) rfl rfl (by kernel_rfl) (by kernel_rfl) (by kernel_rfl) (fun _ _ _ h => h) (Or.inl ⟨by rfl, ?_⟩) hHeld ?_
          rotate_left
          focus (intro w hSw; (try dsimp only at hSw); go_simp; try with_reducible rfl)
          simp only [List.setIfInBounds_toArray, List.set_cons_zero, List.set_cons_succ]
          refine wpAnyH_takeD 11 (v := ?_) rfl rfl (by kernel_rfl) (by kernel_rfl) (by kernel_rfl) (fun _ _ _ h => h) (Or.inl ⟨by rfl, ?_⟩) hHeld ?_
          rotate_left
          focus (intro w hSw; (try dsimp only at hSw); go_simp; try with_reducible rfl)
          simp only [List.setIfInBounds_toArray, List.set_cons_zero, List.set_cons_succ]
          refine wpAnyH_ready (rs := [6, 12]) (by kernel_rfl) (by simp) ?_
          refine AllReadyH.cons rfl (fun K hK => ?_) (AllReadyH.cons rfl (fun K hK => ?_) AllReadyH.nil)
          · go_simp
            refine hK.out _ _ trivial (fun hHeld => ?_)
            clear hK K
            refine wpAnyH_ready (rs := [12]) (by kernel_rfl) (by simp) ?_
            refine AllReadyH.cons rfl (fun K hK => ?_) AllReadyH.nil
            go_simp
            clear c0 c1 c2' d0 d1 d2'
            refine hK.out _ _ trivial (fun hHeld => ?_)
            clear hK K
            refine wpAnyH_ready (rs := [13]) (by kernel_rfl) (by simp) ?_
            refine AllReadyH.cons rfl (fun K hK => ?_) AllReadyH.nil
            go_simp
            refine HAdd.out.mono ?_
            rintro e w4 ⟨b9, A9, m9, c9, A8, m8, c8, rfl, hq, hb⟩
            replace HI := Lib.hid (HI.out.below hb)
            have HQ := Lib.hid hq
            clear hq hb HAdd
            refine hK.out _ _ trivial (fun hHeld => ?_)
            clear hK K
            refine wpAnyH_takeD 14 (v := ?_) rfl rfl (by kernel_rfl) (by kernel_rfl) (by kernel_rfl) (fun _ _ _ h => h) (Or.inl ⟨by rfl, ?_⟩) hHeld ?_
            rotate_left
            focus (intro w hSw; (try dsimp only at hSw); go_simp; try with_reducible rfl)
            simp only [List.setIfInBounds_toArray, List.set_cons_zero, List.set_cons_succ]
            obtain ⟨b7, A7, m7, c7, A6, m6, c6, e0, e1, e2, -⟩ := HI.out.el i (by omega)
            have f0 := HI.out.frozen (i * 3)
            have f1 := HI.out.frozen (i * 3 + 1)
            have f2 := HI.out.frozen (i * 3 + 2)
            refine wpAnyH_ready (rs := [15]) (by kernel_rfl) (by simp) ?_
            refine AllReadyH.cons rfl (fun K hK => ?_) AllReadyH.nil
            go_simp
            clear e0 e1 e2 f0 f1 f2
            have HZ := Lib.hid ((HI.out.set (i := i) (by omega) HQ.out).congr (f' := mid f' (i + 1)) (mid_step f' hjj))
            refine hK.out _ _ trivial (fun hHeld => ?_)
            clear hK K hHeld
            refine wpAnyH_done (by kernel_rfl) ?_ _
            generalize World.setCell _ _ _ = w5 at HZ ⊢
            clear HI HQ
            go_wp2_with fail
            go_roundw
            case rel => exact ⟨i + 1, by go_num, by omega, HZ⟩
            case measure => simp [intOf]; omega
          · go_simp
            refine hK.out _ _ trivial (fun hHeld => ?_)
            clear hK K
            refine wpAnyH_ready (rs := [6]) (by kernel_rfl) (by simp) ?_
            refine AllReadyH.cons rfl (fun K hK => ?_) AllReadyH.nil
            go_simp
            clear c0 c1 c2' d0 d1 d2'
            refine hK.out _ _ trivial (fun hHeld => ?_)
            clear hK K
            refine wpAnyH_ready (rs := [13]) (by kernel_rfl) (by simp) ?_
            refine AllReadyH.cons rfl (fun K hK => ?_) AllReadyH.nil
            go_simp
            refine HAdd.out.mono ?_
            rintro e w4 ⟨b9, A9, m9, c9, A8, m8, c8, rfl, hq, hb⟩
            replace HI := Lib.hid (HI.out.below hb)
            have HQ := Lib.hid hq
            clear hq hb HAdd
            refine hK.out _ _ trivial (fun hHeld => ?_)
            clear hK K
            refine wpAnyH_takeD 14 (v := ?_) rfl rfl (by kernel_rfl) (by kernel_rfl) (by kernel_rfl) (fun _ _ _ h => h) (Or.inl ⟨by rfl, ?_⟩) hHeld ?_
            rotate_left
            focus (intro w hSw; (try dsimp only at hSw); go_simp; try with_reducible rfl)
            simp only [List.setIfInBounds_toArray, List.set_cons_zero, List.set_cons_succ]
            obtain ⟨b7, A7, m7, c7, A6, m6, c6, e0, e1, e2, -⟩ := HI.out.el i (by omega)
            have f0 := HI.out.frozen (i * 3)
            have f1 := HI.out.frozen (i * 3 + 1)
            have f2 := HI.out.frozen (i * 3 + 2)
            refine wpAnyH_ready (rs := [15]) (by kernel_rfl) (by simp) ?_
            refine AllReadyH.cons rfl (fun K hK => ?_) AllReadyH.nil
            go_simp
            clear e0 e1 e2 f0 f1 f2
            have HZ := Lib.hid ((HI.out.set (i := i) (by omega) HQ.out).congr (f' := mid f' (i + 1)) (mid_step f' hjj))
            refine hK.out _ _ trivial (fun hHeld => ?_)
            clear hK K hHeld
            refine wpAnyH_done (by kernel_rfl) ?_ _
            generalize World.setCell _ _ _ = w5 at HZ ⊢
            clear HI HQ
            go_wp2_with fail
            go_roundw
            case rel => exact ⟨i + 1, by go_num, by omega, HZ⟩
            case measure => simp [intOf]; omega
        · obtain rfl : i = m := by omega
          have hi' : ¬ (i : Int) < (i : Int) := by omega
          have hz0 : (0 : Int) ≤ (i : Int) := by omega
          have hz1 : (i : Int) < (k : Int) := by have := HMK.out; omega
          by_cases hev : k = 2 * i
          · have hr : (k : Int) % 2 = 0 := by omega
            have hz6 : (i : Int) ≤ (c' : Int) := by omega
            have hz7 : i ≤ c' := by omega
            have HEV := Lib.hid hev
            clear hev
            go_wp2_with fail
            go_roundw
            case rel => exact ⟨i, c', mid f' i, rfl, by have := HMK.out; omega, by have := HMK.out; omega, hz7, hcm, Lib.hid (HI.out.less (by have := HMK.out; omega)), Lib.hid ⟨by rw [tot_even, ← HEV.out]; exact HE.out.1, by rw [wt_even, ← HEV.out]; exact HE.out.2⟩⟩
            case measure => show i < k; have := HMK.out; omega
          · have hod : k = 2 * i + 1 := by have := HMK.out; omega
            have hr : (k : Int) % 2 = 1 := by omega
            obtain ⟨j, hj⟩ : ∃ j : Nat, j = 2 * i := ⟨_, rfl⟩
            obtain ⟨m1, hm1⟩ : ∃ m1 : Nat, m1 = i + 1 := ⟨_, rfl⟩
            have hw4 : IntKind.i64.wrap ((k : Int) - 1) = (j : Int) := (IntWalk.i64_in _ (by omega)).trans (by omega)
            have hw5 : IntKind.i64.wrap ((i : Int) + 1) = (m1 : Int) := (IntWalk.i64_in _ (by omega)).trans (by omega)
            have hz2 : (0 : Int) ≤ (j : Int) := by omega
            have hz3 : (j : Int) < (k : Int) := by omega
            have hz6 : (m1 : Int) ≤ (c' : Int) := by have := HMK.out; omega
            have hz8 : (0 : Int) ≤ (m1 : Int) := by omega
            have hz7 : m1 ≤ c' := by omega
            have HOD := Lib.hid (And.intro hod (And.intro hj hm1))
            obtain ⟨b2, A2, m2, c2, B2, n2, d2, c0, c1, c2', hr1⟩ := HI.out.el j (by omega)
            obtain ⟨b7, A7, m7, c7, A6, m6, c6, e0, e1, e2, -⟩ := HI.out.el i (by omega)
            have f0 := HI.out.frozen (i * 3)
            have f1 := HI.out.frozen (i * 3 + 1)
            have f2 := HI.out.frozen (i * 3 + 2)
            have HZ := Lib.hid (((HI.out.set (i := i) (by omega) hr1).congr (f' := odd2 f' i) (odd_step f' hj)).less (m := m1) (by omega))
            clear hr1 hod hj hm1 hev
            go_wp2_with fail
            go_roundw
            case rel => exact ⟨m1, c', odd2 f' i, rfl, by have := HOD.out; omega, by have := HOD.out; omega, hz7, hcm, HZ, Lib.hid ⟨by rw [HOD.out.2.2, tot_odd, ← HOD.out.1]; exact HE.out.1, by rw [HOD.out.2.2, wt_odd, ← HOD.out.1]; exact HE.out.2⟩⟩
            case measure => show m1 < k; have := HMK.out; have := HOD.out; omega
    · have hk1' : ¬ (1 : Int) < (k : Int) := by omega
      obtain rfl : k = 1 := by omega
      obtain ⟨b2, A2, m2, c2, B2, n2, d2, c0, c1, c2', hr1⟩ := HP.out.el 0 (by omega)
      simp only [Nat.zero_mul, Nat.zero_add] at c0 c1 c2'
      have hfe : (f' 0).1 = tot f n ∧ (f' 0).2 = wt f n - 1 := by
        have h1 := HE.out.1
        have h2 := HE.out.2
        simp only [tot, wt, Rat.zero_add] at h1 h2
        exact ⟨h1, by omega⟩
      rw [hfe.1, hfe.2] at hr1
      replace S := Lib.hid ((S.out.below HP.out.low).push (stab_ratP _ _ _) hr1)
      clear hfe hr1 HP HE hk0 hk hkc hcm hk1 hn0 hc1 hc2
      have c0x0 := (S.out.at 0 rfl).cell (i := 0) rfl
      have f0x0 := (S.out.at 0 rfl).frozen (i := 0)
      have c0x1 := (S.out.at 0 rfl).cell (i := 1) rfl
      have f0x1 := (S.out.at 0 rfl).frozen (i := 1)
      have c0x2 := (S.out.at 0 rfl).cell (i := 2) rfl
      have f0x2 := (S.out.at 0 rfl).frozen (i := 2)
      go_wp2_with fail
      clear c0x0 c0x1 c0x2 f0x0 f0x1 f0x2 c0 c1 c2'
      replace S := Lib.hid (S.out.set3 0 rfl (noint_bool (b := b2)) (noint_slice (A := A2) (n := m2) (c := c2)) (noint_slice (A := B2) (n := n2) (c := d2)) rfl)
      have c0x0 := (S.out.at 0 rfl).cell (i := 0) rfl
      have c0x1 := (S.out.at 0 rfl).cell (i := 1) rfl
      have c0x2 := (S.out.at 0 rfl).cell (i := 2) rfl
      refine bodyPost_ret (v := .agg #[.bool b2, .slice A2 m2 c2, .slice B2 n2 d2]) (by simp [results, Tryz.results49, go_sem, c0x0, c0x1, c0x2]) rfl ?_
      exact ⟨b2, A2, m2, c2, B2, n2, d2, rfl, S.out.fact 0 rfl, S.out.low⟩
end Go.Proofs.YthfjbpbgnoonpaaGreatDoor
