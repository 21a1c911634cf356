/- The reference's cut and Parse over the same description as the program's; a string of zeros. -/
import Derived.Test.YthfjbpbgnoonpaaGreatDoorRU
namespace Go.Proofs.YthfjbpbgnoonpaaGreatDoor
open Go.RowKit

theorem nat_data (s : ByteArray) (k : Nat) (h : k < s.size) : s.data.toList[k]'h = s[k] := rfl
theorem take_no {s : ByteArray} {k : Nat} (h : ∀ c ∈ s.data.toList.take k, c ≠ 47) (hk : k < s.size) (hne : (s[k].toNat : Int) ≠ 47) : ∀ c ∈ s.data.toList.take (k + 1), c ≠ 47 := by
  have hl : k < s.data.toList.length := hk
  rw [List.take_succ_eq_append_getElem hl]
  intro c hc
  rcases List.mem_append.1 hc with hc | hc
  · exact h c hc
  · rw [List.mem_singleton.1 hc]
    intro e
    exact hne (by rw [← nat_data s k hk, e]; rfl)
theorem cut_found {s : ByteArray} {k : Nat} (h : ∀ c ∈ s.data.toList.take k, c ≠ 47) (hk : k < s.size) (he : (s[k].toNat : Int) = 47) : Lib.cut s.data.toList [47] = (s.data.toList.take k, s.data.toList.drop (k + 1), true) := by
  have hl : k < s.data.toList.length := hk
  have e47 : s.data.toList[k] = 47 := by
    rw [nat_data s k hk]
    exact UInt8.toNat_inj.1 (by have : (s[k].toNat : Int) = 47 := he; show s[k].toNat = 47; omega)
  have e : s.data.toList = s.data.toList.take k ++ 47 :: s.data.toList.drop (k + 1) := by
    rw [← e47, ← List.drop_eq_getElem_cons hl, List.take_append_drop]
  have := cut_here (m := s.data.toList.drop (k + 1)) h
  rw [← e] at this
  exact this
theorem cut_none' {s : ByteArray} (h : ∀ c ∈ s.data.toList.take s.size, c ≠ 47) : Lib.cut s.data.toList [47] = (s.data.toList, [], false) := by
  have ht : s.data.toList.take s.size = s.data.toList := List.take_of_length_le (Nat.le_refl s.size)
  rw [ht] at h
  exact cut_none h
theorem ex_pre (s : ByteArray) (k : Nat) : s.extract 0 k = ⟨(s.data.toList.take k).toArray⟩ := bytes_ext (by rw [Lib.extract_data]; simp)
theorem ex_suf (s : ByteArray) (k : Nat) : s.extract k s.size = ⟨(s.data.toList.drop k).toArray⟩ := bytes_ext (by
  rw [Lib.extract_data]
  have : (s.data.toList.drop k).length = s.size - k := by rw [List.length_drop]; rfl
  rw [← this, List.take_length])
/-- What cut returns. -/
def CutP (s : ByteArray) (w : World) (e : Ending) (w' : World) : Prop := e = .returned (.tuple #[.string ⟨(Lib.cut s.data.toList [47]).1.toArray⟩, .string ⟨(Lib.cut s.data.toList [47]).2.1.toArray⟩, .bool (Lib.cut s.data.toList [47]).2.2]) ∧ Below w.heap.size w w'
theorem cutP_found {s : ByteArray} {k : Nat} {w w' : World} (h : ∀ c ∈ s.data.toList.take k, c ≠ 47) (hk : k < s.size) (he : (s[k].toNat : Int) = 47) (hb : Below w.heap.size w w') : CutP s w (.returned (.tuple #[.string (s.extract 0 k), .string (s.extract (k + 1) s.size), .bool true])) w' := by
  refine ⟨?_, hb⟩
  rw [cut_found h hk he, ex_pre, ex_suf]
theorem cutP_none {s : ByteArray} {w : World} (h : ∀ c ∈ s.data.toList.take s.size, c ≠ 47) : CutP s w (.returned (.tuple #[.string s, .string ⟨#[]⟩, .bool false])) w := by
  refine ⟨?_, Below.refl _ _⟩
  rw [cut_none' h]
set_option maxRecDepth 100000 in
set_option maxHeartbeats 1600000 in
theorem refCut_any (s : ByteArray) (w : World) (hlen : s.size ≤ 9223372036854775806) : Calls Tryz.prog 69 #[.string s] w (CutP s w) := by
  go_enter Tryz.func69, Tryz.ntmps69
  go_wp2_with fail
  go_loop [5] (fun i => ∃ k : Nat, i = .int .i64 k ∧ k ≤ s.size ∧ Hid (∀ c ∈ s.data.toList.take k, c ≠ 47)) (fun i => s.size - (intOf i).toNat)
  case atStart => exact ⟨0, rfl, by omega, Lib.hid (by simp)⟩
  case round =>
    obtain ⟨k, rfl, hk, hd⟩ := hrel
    by_cases hlt : k < s.size
    · by_cases h1 : (s[k].toNat : Int) = 47
      · have hq := Lib.hid (cutP_found (w := w) hd.out hlt h1 ((Below.refl _ w).drew))
        have h2 : ((s[k].toNat : Int) == 47) = true := by simpa using h1
        clear hd h1
        go_wp2_with fail
        go_region
        go_wp2_with fail
        go_ret3
        exact hq.out
      · have hn := Lib.hid (take_no hd.out hlt h1)
        have h2 : ((s[k].toNat : Int) == 47) = false := by simpa using h1
        clear hd h1
        go_wp2_with fail
        go_round
        case rel => exact ⟨k + 1, by go_num, by omega, hn⟩
        case measure => simp [intOf]; omega
    · obtain rfl : k = s.size := by omega
      have hq := Lib.hid (cutP_none (w := w) hd.out)
      clear hd
      go_wp2_with fail
      go_ret3
      exact hq.out
/-- A part of a short string. -/
theorem refPart (s : ByteArray) (hl : s.size ≤ 100) (W : World) : Calls Tryz.prog 70 #[.string s] W fun e w' => ∃ A n c, e = .returned (.tuple #[.slice A n c, .int .i64 (pE s)]) ∧ RefB w' (.slice A n c) (pK s) 104 ∧ Below W.heap.size W w' := by
  have hlt := pK_lt s
  by_cases ht : isTextB s
  · have e1 : pE s = 0 := by unfold pE; rw [if_pos ht, if_pos (by omega)]
    have e2 : pK s = numL s.data.toList := by unfold pK; rw [if_pos ⟨ht, by omega⟩]
    rw [e2] at hlt
    rw [e1, e2]
    refine (refParse_ok (w := W) ht hl).mono ?_
    rintro e w' ⟨v, rfl, hv, hb⟩
    have hv2 := hv
    obtain ⟨A, c, rfl, _⟩ := hv
    exact ⟨A, _, c, rfl, ⟨⟨_, _, _, rfl⟩, hv2, hlt⟩, hb⟩
  · have e1 : pE s = 3 := by unfold pE; rw [if_neg ht]
    have e2 : pK s = 0 := by unfold pK; rw [if_neg (fun h => ht h.1)]
    rw [e1, e2]
    refine (refParse_bad (w := W) (by omega) ht).mono ?_
    rintro e w' ⟨rfl, rfl⟩
    exact ⟨_, _, _, rfl, RefB.zero _ _, Below.refl _ _⟩
def RefQ (w : World) (neg : Bool) (E : Int) (k d : Nat) (e : Ending) (w' : World) : Prop := (E ≠ 0 ∧ ErrT w E e w') ∨ (E = 0 ∧ d = 0 ∧ ErrT w 10 e w') ∨ (E = 0 ∧ 0 < d ∧ OpGT w (mkRat (sg neg k) d) 104 e w')
theorem pE_short {s : ByteArray} (h : s.size ≤ 100) : pE s = 0 ∨ pE s = 3 := by unfold pE; split; (split; exact .inl rfl; omega); exact .inr rfl
theorem pK_one : pK ⟨#[49]⟩ = 1 ∧ pE ⟨#[49]⟩ = 0 := by
  have h : (⟨#[49]⟩ : ByteArray) = ⟨(dec 1).toArray⟩ := by rw [dec_one]
  rw [h]
  exact ⟨pK_dec (by rw [dec_one]; simp), pE_dec (by rw [dec_one]; simp)⟩
set_option maxRecDepth 100000 in
set_option maxHeartbeats 8000000 in
theorem refParse_walk {w : World} {s T TA T0 : ByteArray} {neg fnd : Bool} (hs : s.size ≤ 100) (hAs : TA.size ≤ 100) (hBs : T0.size ≤ 100)
    (hcase : (neg = true ∧ T = s.extract 1 s.size ∧ 0 < s.size ∧ ∀ h : 0 < s.size, ((s[0].toNat : Int) == 45) = true) ∨ (neg = false ∧ T = s ∧ 0 < s.size ∧ ∀ h : 0 < s.size, ((s[0].toNat : Int) == 45) = false) ∨ (neg = false ∧ T = s ∧ s.size = 0))
    (h2 : ∀ W, Calls Tryz.prog 69 #[.string T] W fun e w' => e = .returned (.tuple #[.string TA, .string T0, .bool fnd]) ∧ Below W.heap.size W w') :
    Calls Tryz.prog 23 #[.string s] w (RefQ w neg (ferr (pE TA) (if fnd then pE T0 else 0)) (pK TA) (if fnd then pK T0 else 1)) := by
  obtain ⟨w1, hw1, S⟩ := enter1 w [.bool false, .slice none 0 0, .slice none 0 0] 34 (by decide) noint3
  have hP1 := Lib.hid (refPart TA hAs)
  have hP2 := Lib.hid (refPart T0 hBs)
  have hO := Lib.hid (fun W : World => ofF (W := W) 1 (k := 1) rfl (by omega))
  have E1 := pE_short hAs
  have E2 := pE_short hBs
  have H2 := Lib.hid h2
  have hMz := Lib.hid (fun W A n c A2 n2 c2 (h2 : RefB W (.slice A2 n2 c2) 0 104) => refMake_zero (b := neg) (A := A) (n := n) (c := c) h2)
  have hMk := Lib.hid (fun W A n c A2 n2 c2 k d (hd : 0 < d) (h1 : RefB W (.slice A n c) k 104) (h2 : RefB W (.slice A2 n2 c2) d 104) => refMake_ok (b := neg) h1 h2 (by omega) hd)
  clear h2
  generalize pK TA = KA at hP1 ⊢
  generalize pK T0 = KB at hP2 ⊢
  generalize pE TA = EA at hP1 E1 ⊢
  generalize pE T0 = EB at hP2 E2 ⊢
  have HE : Hid (∀ (W : World) A n c, RefB W (.slice A n c) KB 104 → 0 < KB ∨ (KB = 0 ∧ RefB W (.slice A n c) 0 104)) := by
    intro W A n c h
    rcases Nat.eq_zero_or_pos KB with h0 | h0
    · exact .inr ⟨h0, h0 ▸ h⟩
    · exact .inl h0
  rcases hcase with ⟨rfl, rfl, hp, hq⟩ | ⟨rfl, rfl, hp, hq⟩ | ⟨rfl, rfl, hp⟩
  rotate_left 2
  · have hp' : ¬ (0 : Int) < (T.size : Int) := by omega
    have hp3 : T.size = 0 := hp
    clear hp
    cases fnd
    · rcases E1 with rfl | rfl
      · go_enter Tryz.func23, Tryz.ntmps23
        go_wp2_with fail
        refine (H2.out _).mono ?_
        rintro e w2 ⟨rfl, hb⟩
        replace S := Lib.hid (S.out.below hb)
        clear hb H2 hw1
        go_wp2_with fail
        refine (hP1.out _).mono ?_
        rintro e w3 ⟨A, n, c, rfl, hx, hb⟩
        replace S := Lib.hid ((S.out.below hb).push (stab_refB _ _ _) hx)
        clear hb hx hP1
        go_wp2_with fail
        refine (hO.out _).mono ?_
        rintro e w4 ⟨A3, n3, c3, rfl, hx, hb⟩
        replace S := Lib.hid ((S.out.below hb).push (stab_refB _ _ 104) (hx.more (by omega)))
        clear hb hx hO
        go_wp2_with fail
        have HD : 0 < 1 := by omega
        refine (hMk.out _ _ _ _ _ _ _ _ _ HD (S.out.fact 1 rfl) (S.out.fact 0 rfl)).mono ?_
        rintro e w7 ⟨b5, A5, n5, c5, A6, n6, c6, rfl, hq, hb⟩
        replace S := Lib.hid ((S.out.below hb).push (stab_ratF _ _ _) hq)
        clear hb hq hMk hMz HE
        have HD2 := Lib.hid HD
        clear HD
        have c0x0 := (S.out.at 0 rfl).cell (i := 0) rfl
        have f0x0 := (S.out.at 0 rfl).frozen (i := 0)
        have c0x1 := (S.out.at 0 rfl).cell (i := 1) rfl
        have f0x1 := (S.out.at 0 rfl).frozen (i := 1)
        have c0x2 := (S.out.at 0 rfl).cell (i := 2) rfl
        have f0x2 := (S.out.at 0 rfl).frozen (i := 2)
        go_wp2_with fail
        replace S := Lib.hid (S.out.set3 0 rfl (noint_bool (b := b5)) (noint_slice (A := A5) (n := n5) (c := c5)) (noint_slice (A := A6) (n := n6) (c := c6)) rfl)
        have c0x0 := (S.out.at 0 rfl).cell (i := 0) rfl
        have c0x1 := (S.out.at 0 rfl).cell (i := 1) rfl
        have c0x2 := (S.out.at 0 rfl).cell (i := 2) rfl
        refine bodyPost_ret (v := .tuple #[.agg #[.bool b5, .slice A5 n5 c5, .slice A6 n6 c6], .int .i64 0]) (by simp [results, Tryz.results23, go_sem, c0x0, c0x1, c0x2]) rfl ?_
        exact Or.inr (Or.inr ⟨rfl, HD2.out, b5, A5, n5, c5, A6, n6, c6, rfl, S.out.fact 0 rfl, S.out.low⟩)
      · go_enter Tryz.func23, Tryz.ntmps23
        go_wp2_with fail
        refine (H2.out _).mono ?_
        rintro e w2 ⟨rfl, hb⟩
        replace S := Lib.hid (S.out.below hb)
        clear hb H2 hw1
        go_wp2_with fail
        refine (hP1.out _).mono ?_
        rintro e w3 ⟨A, n, c, rfl, hx, hb⟩
        replace S := Lib.hid ((S.out.below hb).push (stab_refB _ _ _) hx)
        clear hb hx hP1
        go_wp2_with fail
        refine (hO.out _).mono ?_
        rintro e w4 ⟨A3, n3, c3, rfl, hx, hb⟩
        replace S := Lib.hid ((S.out.below hb).push (stab_refB _ _ 104) (hx.more (by omega)))
        clear hb hx hO
        clear hMk hMz HE
        have c0x0 := (S.out.at 0 rfl).cell (i := 0) rfl
        have f0x0 := (S.out.at 0 rfl).frozen (i := 0)
        have c0x1 := (S.out.at 0 rfl).cell (i := 1) rfl
        have f0x1 := (S.out.at 0 rfl).frozen (i := 1)
        have c0x2 := (S.out.at 0 rfl).cell (i := 2) rfl
        have f0x2 := (S.out.at 0 rfl).frozen (i := 2)
        go_wp2_with fail
        replace S := Lib.hid (S.out.set3 0 rfl (noint_bool (b := false)) (noint_slice (A := none) (n := 0) (c := 0)) (noint_slice (A := none) (n := 0) (c := 0)) rfl)
        have c0x0 := (S.out.at 0 rfl).cell (i := 0) rfl
        have c0x1 := (S.out.at 0 rfl).cell (i := 1) rfl
        have c0x2 := (S.out.at 0 rfl).cell (i := 2) rfl
        refine bodyPost_ret (v := .tuple #[.agg #[.bool false, .slice none 0 0, .slice none 0 0], .int .i64 3]) (by simp [results, Tryz.results23, go_sem, c0x0, c0x1, c0x2]) rfl ?_
        exact Or.inl ⟨by decide, rfl, S.out.low⟩
    · rcases E1 with rfl | rfl
      · rcases E2 with rfl | rfl
        · go_enter Tryz.func23, Tryz.ntmps23
          go_wp2_with fail
          refine (H2.out _).mono ?_
          rintro e w2 ⟨rfl, hb⟩
          replace S := Lib.hid (S.out.below hb)
          clear hb H2 hw1
          go_wp2_with fail
          refine (hP1.out _).mono ?_
          rintro e w3 ⟨A, n, c, rfl, hx, hb⟩
          replace S := Lib.hid ((S.out.below hb).push (stab_refB _ _ _) hx)
          clear hb hx hP1
          go_wp2_with fail
          refine (hO.out _).mono ?_
          rintro e w4 ⟨A3, n3, c3, rfl, hx, hb⟩
          replace S := Lib.hid ((S.out.below hb).push (stab_refB _ _ 104) (hx.more (by omega)))
          clear hb hx hO
  
          go_wp2_with fail
          refine (hP2.out _).mono ?_
          rintro e w5 ⟨A4, n4, c4, rfl, hx, hb⟩
          replace S := Lib.hid ((S.out.below hb).push (stab_refB _ _ _) hx)
          clear hb hx hP2
          go_wp2_with fail
          rcases HE.out _ _ _ _ (S.out.fact 0 rfl) with HD | ⟨HD, HZ⟩
          · refine (hMk.out _ _ _ _ _ _ _ _ _ HD (S.out.fact 2 rfl) (S.out.fact 0 rfl)).mono ?_
            rintro e w7 ⟨b5, A5, n5, c5, A6, n6, c6, rfl, hq, hb⟩
            replace S := Lib.hid ((S.out.below hb).push (stab_ratF _ _ _) hq)
            clear hb hq hMk hMz HE
            have HD2 := Lib.hid HD
            clear HD
            have c0x0 := (S.out.at 0 rfl).cell (i := 0) rfl
            have f0x0 := (S.out.at 0 rfl).frozen (i := 0)
            have c0x1 := (S.out.at 0 rfl).cell (i := 1) rfl
            have f0x1 := (S.out.at 0 rfl).frozen (i := 1)
            have c0x2 := (S.out.at 0 rfl).cell (i := 2) rfl
            have f0x2 := (S.out.at 0 rfl).frozen (i := 2)
            go_wp2_with fail
            replace S := Lib.hid (S.out.set3 0 rfl (noint_bool (b := b5)) (noint_slice (A := A5) (n := n5) (c := c5)) (noint_slice (A := A6) (n := n6) (c := c6)) rfl)
            have c0x0 := (S.out.at 0 rfl).cell (i := 0) rfl
            have c0x1 := (S.out.at 0 rfl).cell (i := 1) rfl
            have c0x2 := (S.out.at 0 rfl).cell (i := 2) rfl
            refine bodyPost_ret (v := .tuple #[.agg #[.bool b5, .slice A5 n5 c5, .slice A6 n6 c6], .int .i64 0]) (by simp [results, Tryz.results23, go_sem, c0x0, c0x1, c0x2]) rfl ?_
            exact Or.inr (Or.inr ⟨rfl, HD2.out, b5, A5, n5, c5, A6, n6, c6, rfl, S.out.fact 0 rfl, S.out.low⟩)
          · refine (hMz.out _ _ _ _ _ _ _ HZ).mono ?_
            rintro e w7 ⟨rfl, hb⟩
            replace S := Lib.hid (S.out.below hb)
            clear hb hMk hMz HE HZ
            have HD2 := Lib.hid HD
            clear HD
            have c0x0 := (S.out.at 0 rfl).cell (i := 0) rfl
            have f0x0 := (S.out.at 0 rfl).frozen (i := 0)
            have c0x1 := (S.out.at 0 rfl).cell (i := 1) rfl
            have f0x1 := (S.out.at 0 rfl).frozen (i := 1)
            have c0x2 := (S.out.at 0 rfl).cell (i := 2) rfl
            have f0x2 := (S.out.at 0 rfl).frozen (i := 2)
            go_wp2_with fail
            replace S := Lib.hid (S.out.set3 0 rfl (noint_bool (b := false)) (noint_slice (A := none) (n := 0) (c := 0)) (noint_slice (A := none) (n := 0) (c := 0)) rfl)
            have c0x0 := (S.out.at 0 rfl).cell (i := 0) rfl
            have c0x1 := (S.out.at 0 rfl).cell (i := 1) rfl
            have c0x2 := (S.out.at 0 rfl).cell (i := 2) rfl
            refine bodyPost_ret (v := .tuple #[.agg #[.bool false, .slice none 0 0, .slice none 0 0], .int .i64 10]) (by simp [results, Tryz.results23, go_sem, c0x0, c0x1, c0x2]) rfl ?_
            exact Or.inr (Or.inl ⟨rfl, HD2.out, rfl, S.out.low⟩)
        · go_enter Tryz.func23, Tryz.ntmps23
          go_wp2_with fail
          refine (H2.out _).mono ?_
          rintro e w2 ⟨rfl, hb⟩
          replace S := Lib.hid (S.out.below hb)
          clear hb H2 hw1
          go_wp2_with fail
          refine (hP1.out _).mono ?_
          rintro e w3 ⟨A, n, c, rfl, hx, hb⟩
          replace S := Lib.hid ((S.out.below hb).push (stab_refB _ _ _) hx)
          clear hb hx hP1
          go_wp2_with fail
          refine (hO.out _).mono ?_
          rintro e w4 ⟨A3, n3, c3, rfl, hx, hb⟩
          replace S := Lib.hid ((S.out.below hb).push (stab_refB _ _ 104) (hx.more (by omega)))
          clear hb hx hO
  
          go_wp2_with fail
          refine (hP2.out _).mono ?_
          rintro e w5 ⟨A4, n4, c4, rfl, hx, hb⟩
          replace S := Lib.hid ((S.out.below hb).push (stab_refB _ _ _) hx)
          clear hb hx hP2
          clear hMk hMz HE
          have c0x0 := (S.out.at 0 rfl).cell (i := 0) rfl
          have f0x0 := (S.out.at 0 rfl).frozen (i := 0)
          have c0x1 := (S.out.at 0 rfl).cell (i := 1) rfl
          have f0x1 := (S.out.at 0 rfl).frozen (i := 1)
          have c0x2 := (S.out.at 0 rfl).cell (i := 2) rfl
          have f0x2 := (S.out.at 0 rfl).frozen (i := 2)
          go_wp2_with fail
          replace S := Lib.hid (S.out.set3 0 rfl (noint_bool (b := false)) (noint_slice (A := none) (n := 0) (c := 0)) (noint_slice (A := none) (n := 0) (c := 0)) rfl)
          have c0x0 := (S.out.at 0 rfl).cell (i := 0) rfl
          have c0x1 := (S.out.at 0 rfl).cell (i := 1) rfl
          have c0x2 := (S.out.at 0 rfl).cell (i := 2) rfl
          refine bodyPost_ret (v := .tuple #[.agg #[.bool false, .slice none 0 0, .slice none 0 0], .int .i64 3]) (by simp [results, Tryz.results23, go_sem, c0x0, c0x1, c0x2]) rfl ?_
          exact Or.inl ⟨by decide, rfl, S.out.low⟩
      · rcases E2 with rfl | rfl
        · go_enter Tryz.func23, Tryz.ntmps23
          go_wp2_with fail
          refine (H2.out _).mono ?_
          rintro e w2 ⟨rfl, hb⟩
          replace S := Lib.hid (S.out.below hb)
          clear hb H2 hw1
          go_wp2_with fail
          refine (hP1.out _).mono ?_
          rintro e w3 ⟨A, n, c, rfl, hx, hb⟩
          replace S := Lib.hid ((S.out.below hb).push (stab_refB _ _ _) hx)
          clear hb hx hP1
          go_wp2_with fail
          refine (hO.out _).mono ?_
          rintro e w4 ⟨A3, n3, c3, rfl, hx, hb⟩
          replace S := Lib.hid ((S.out.below hb).push (stab_refB _ _ 104) (hx.more (by omega)))
          clear hb hx hO
  
          go_wp2_with fail
          refine (hP2.out _).mono ?_
          rintro e w5 ⟨A4, n4, c4, rfl, hx, hb⟩
          replace S := Lib.hid ((S.out.below hb).push (stab_refB _ _ _) hx)
          clear hb hx hP2
          clear hMk hMz HE
          have c0x0 := (S.out.at 0 rfl).cell (i := 0) rfl
          have f0x0 := (S.out.at 0 rfl).frozen (i := 0)
          have c0x1 := (S.out.at 0 rfl).cell (i := 1) rfl
          have f0x1 := (S.out.at 0 rfl).frozen (i := 1)
          have c0x2 := (S.out.at 0 rfl).cell (i := 2) rfl
          have f0x2 := (S.out.at 0 rfl).frozen (i := 2)
          go_wp2_with fail
          replace S := Lib.hid (S.out.set3 0 rfl (noint_bool (b := false)) (noint_slice (A := none) (n := 0) (c := 0)) (noint_slice (A := none) (n := 0) (c := 0)) rfl)
          have c0x0 := (S.out.at 0 rfl).cell (i := 0) rfl
          have c0x1 := (S.out.at 0 rfl).cell (i := 1) rfl
          have c0x2 := (S.out.at 0 rfl).cell (i := 2) rfl
          refine bodyPost_ret (v := .tuple #[.agg #[.bool false, .slice none 0 0, .slice none 0 0], .int .i64 3]) (by simp [results, Tryz.results23, go_sem, c0x0, c0x1, c0x2]) rfl ?_
          exact Or.inl ⟨by decide, rfl, S.out.low⟩
        · go_enter Tryz.func23, Tryz.ntmps23
          go_wp2_with fail
          refine (H2.out _).mono ?_
          rintro e w2 ⟨rfl, hb⟩
          replace S := Lib.hid (S.out.below hb)
          clear hb H2 hw1
          go_wp2_with fail
          refine (hP1.out _).mono ?_
          rintro e w3 ⟨A, n, c, rfl, hx, hb⟩
          replace S := Lib.hid ((S.out.below hb).push (stab_refB _ _ _) hx)
          clear hb hx hP1
          go_wp2_with fail
          refine (hO.out _).mono ?_
          rintro e w4 ⟨A3, n3, c3, rfl, hx, hb⟩
          replace S := Lib.hid ((S.out.below hb).push (stab_refB _ _ 104) (hx.more (by omega)))
          clear hb hx hO
  
          go_wp2_with fail
          refine (hP2.out _).mono ?_
          rintro e w5 ⟨A4, n4, c4, rfl, hx, hb⟩
          replace S := Lib.hid ((S.out.below hb).push (stab_refB _ _ _) hx)
          clear hb hx hP2
          clear hMk hMz HE
          have c0x0 := (S.out.at 0 rfl).cell (i := 0) rfl
          have f0x0 := (S.out.at 0 rfl).frozen (i := 0)
          have c0x1 := (S.out.at 0 rfl).cell (i := 1) rfl
          have f0x1 := (S.out.at 0 rfl).frozen (i := 1)
          have c0x2 := (S.out.at 0 rfl).cell (i := 2) rfl
          have f0x2 := (S.out.at 0 rfl).frozen (i := 2)
          go_wp2_with fail
          replace S := Lib.hid (S.out.set3 0 rfl (noint_bool (b := false)) (noint_slice (A := none) (n := 0) (c := 0)) (noint_slice (A := none) (n := 0) (c := 0)) rfl)
          have c0x0 := (S.out.at 0 rfl).cell (i := 0) rfl
          have c0x1 := (S.out.at 0 rfl).cell (i := 1) rfl
          have c0x2 := (S.out.at 0 rfl).cell (i := 2) rfl
          refine bodyPost_ret (v := .tuple #[.agg #[.bool false, .slice none 0 0, .slice none 0 0], .int .i64 3]) (by simp [results, Tryz.results23, go_sem, c0x0, c0x1, c0x2]) rfl ?_
          exact Or.inl ⟨by decide, rfl, S.out.low⟩
  all_goals
    have hq' := hq hp
    clear hq
    cases fnd
    · rcases E1 with rfl | rfl
      · go_enter Tryz.func23, Tryz.ntmps23
        go_wp2_with fail
        refine (H2.out _).mono ?_
        rintro e w2 ⟨rfl, hb⟩
        replace S := Lib.hid (S.out.below hb)
        clear hb H2 hw1
        go_wp2_with fail
        refine (hP1.out _).mono ?_
        rintro e w3 ⟨A, n, c, rfl, hx, hb⟩
        replace S := Lib.hid ((S.out.below hb).push (stab_refB _ _ _) hx)
        clear hb hx hP1
        go_wp2_with fail
        refine (hO.out _).mono ?_
        rintro e w4 ⟨A3, n3, c3, rfl, hx, hb⟩
        replace S := Lib.hid ((S.out.below hb).push (stab_refB _ _ 104) (hx.more (by omega)))
        clear hb hx hO
        go_wp2_with fail
        have HD : 0 < 1 := by omega
        refine (hMk.out _ _ _ _ _ _ _ _ _ HD (S.out.fact 1 rfl) (S.out.fact 0 rfl)).mono ?_
        rintro e w7 ⟨b5, A5, n5, c5, A6, n6, c6, rfl, hq, hb⟩
        replace S := Lib.hid ((S.out.below hb).push (stab_ratF _ _ _) hq)
        clear hb hq hMk hMz HE
        have HD2 := Lib.hid HD
        clear HD
        have c0x0 := (S.out.at 0 rfl).cell (i := 0) rfl
        have f0x0 := (S.out.at 0 rfl).frozen (i := 0)
        have c0x1 := (S.out.at 0 rfl).cell (i := 1) rfl
        have f0x1 := (S.out.at 0 rfl).frozen (i := 1)
        have c0x2 := (S.out.at 0 rfl).cell (i := 2) rfl
        have f0x2 := (S.out.at 0 rfl).frozen (i := 2)
        go_wp2_with fail
        replace S := Lib.hid (S.out.set3 0 rfl (noint_bool (b := b5)) (noint_slice (A := A5) (n := n5) (c := c5)) (noint_slice (A := A6) (n := n6) (c := c6)) rfl)
        have c0x0 := (S.out.at 0 rfl).cell (i := 0) rfl
        have c0x1 := (S.out.at 0 rfl).cell (i := 1) rfl
        have c0x2 := (S.out.at 0 rfl).cell (i := 2) rfl
        refine bodyPost_ret (v := .tuple #[.agg #[.bool b5, .slice A5 n5 c5, .slice A6 n6 c6], .int .i64 0]) (by simp [results, Tryz.results23, go_sem, c0x0, c0x1, c0x2]) rfl ?_
        exact Or.inr (Or.inr ⟨rfl, HD2.out, b5, A5, n5, c5, A6, n6, c6, rfl, S.out.fact 0 rfl, S.out.low⟩)
      · go_enter Tryz.func23, Tryz.ntmps23
        go_wp2_with fail
        refine (H2.out _).mono ?_
        rintro e w2 ⟨rfl, hb⟩
        replace S := Lib.hid (S.out.below hb)
        clear hb H2 hw1
        go_wp2_with fail
        refine (hP1.out _).mono ?_
        rintro e w3 ⟨A, n, c, rfl, hx, hb⟩
        replace S := Lib.hid ((S.out.below hb).push (stab_refB _ _ _) hx)
        clear hb hx hP1
        go_wp2_with fail
        refine (hO.out _).mono ?_
        rintro e w4 ⟨A3, n3, c3, rfl, hx, hb⟩
        replace S := Lib.hid ((S.out.below hb).push (stab_refB _ _ 104) (hx.more (by omega)))
        clear hb hx hO
        clear hMk hMz HE
        have c0x0 := (S.out.at 0 rfl).cell (i := 0) rfl
        have f0x0 := (S.out.at 0 rfl).frozen (i := 0)
        have c0x1 := (S.out.at 0 rfl).cell (i := 1) rfl
        have f0x1 := (S.out.at 0 rfl).frozen (i := 1)
        have c0x2 := (S.out.at 0 rfl).cell (i := 2) rfl
        have f0x2 := (S.out.at 0 rfl).frozen (i := 2)
        go_wp2_with fail
        replace S := Lib.hid (S.out.set3 0 rfl (noint_bool (b := false)) (noint_slice (A := none) (n := 0) (c := 0)) (noint_slice (A := none) (n := 0) (c := 0)) rfl)
        have c0x0 := (S.out.at 0 rfl).cell (i := 0) rfl
        have c0x1 := (S.out.at 0 rfl).cell (i := 1) rfl
        have c0x2 := (S.out.at 0 rfl).cell (i := 2) rfl
        refine bodyPost_ret (v := .tuple #[.agg #[.bool false, .slice none 0 0, .slice none 0 0], .int .i64 3]) (by simp [results, Tryz.results23, go_sem, c0x0, c0x1, c0x2]) rfl ?_
        exact Or.inl ⟨by decide, rfl, S.out.low⟩
    · rcases E1 with rfl | rfl
      · rcases E2 with rfl | rfl
        · go_enter Tryz.func23, Tryz.ntmps23
          go_wp2_with fail
          refine (H2.out _).mono ?_
          rintro e w2 ⟨rfl, hb⟩
          replace S := Lib.hid (S.out.below hb)
          clear hb H2 hw1
          go_wp2_with fail
          refine (hP1.out _).mono ?_
          rintro e w3 ⟨A, n, c, rfl, hx, hb⟩
          replace S := Lib.hid ((S.out.below hb).push (stab_refB _ _ _) hx)
          clear hb hx hP1
          go_wp2_with fail
          refine (hO.out _).mono ?_
          rintro e w4 ⟨A3, n3, c3, rfl, hx, hb⟩
          replace S := Lib.hid ((S.out.below hb).push (stab_refB _ _ 104) (hx.more (by omega)))
          clear hb hx hO
  
          go_wp2_with fail
          refine (hP2.out _).mono ?_
          rintro e w5 ⟨A4, n4, c4, rfl, hx, hb⟩
          replace S := Lib.hid ((S.out.below hb).push (stab_refB _ _ _) hx)
          clear hb hx hP2
          go_wp2_with fail
          rcases HE.out _ _ _ _ (S.out.fact 0 rfl) with HD | ⟨HD, HZ⟩
          · refine (hMk.out _ _ _ _ _ _ _ _ _ HD (S.out.fact 2 rfl) (S.out.fact 0 rfl)).mono ?_
            rintro e w7 ⟨b5, A5, n5, c5, A6, n6, c6, rfl, hq, hb⟩
            replace S := Lib.hid ((S.out.below hb).push (stab_ratF _ _ _) hq)
            clear hb hq hMk hMz HE
            have HD2 := Lib.hid HD
            clear HD
            have c0x0 := (S.out.at 0 rfl).cell (i := 0) rfl
            have f0x0 := (S.out.at 0 rfl).frozen (i := 0)
            have c0x1 := (S.out.at 0 rfl).cell (i := 1) rfl
            have f0x1 := (S.out.at 0 rfl).frozen (i := 1)
            have c0x2 := (S.out.at 0 rfl).cell (i := 2) rfl
            have f0x2 := (S.out.at 0 rfl).frozen (i := 2)
            go_wp2_with fail
            replace S := Lib.hid (S.out.set3 0 rfl (noint_bool (b := b5)) (noint_slice (A := A5) (n := n5) (c := c5)) (noint_slice (A := A6) (n := n6) (c := c6)) rfl)
            have c0x0 := (S.out.at 0 rfl).cell (i := 0) rfl
            have c0x1 := (S.out.at 0 rfl).cell (i := 1) rfl
            have c0x2 := (S.out.at 0 rfl).cell (i := 2) rfl
            refine bodyPost_ret (v := .tuple #[.agg #[.bool b5, .slice A5 n5 c5, .slice A6 n6 c6], .int .i64 0]) (by simp [results, Tryz.results23, go_sem, c0x0, c0x1, c0x2]) rfl ?_
            exact Or.inr (Or.inr ⟨rfl, HD2.out, b5, A5, n5, c5, A6, n6, c6, rfl, S.out.fact 0 rfl, S.out.low⟩)
          · refine (hMz.out _ _ _ _ _ _ _ HZ).mono ?_
            rintro e w7 ⟨rfl, hb⟩
            replace S := Lib.hid (S.out.below hb)
            clear hb hMk hMz HE HZ
            have HD2 := Lib.hid HD
            clear HD
            have c0x0 := (S.out.at 0 rfl).cell (i := 0) rfl
            have f0x0 := (S.out.at 0 rfl).frozen (i := 0)
            have c0x1 := (S.out.at 0 rfl).cell (i := 1) rfl
            have f0x1 := (S.out.at 0 rfl).frozen (i := 1)
            have c0x2 := (S.out.at 0 rfl).cell (i := 2) rfl
            have f0x2 := (S.out.at 0 rfl).frozen (i := 2)
            go_wp2_with fail
            replace S := Lib.hid (S.out.set3 0 rfl (noint_bool (b := false)) (noint_slice (A := none) (n := 0) (c := 0)) (noint_slice (A := none) (n := 0) (c := 0)) rfl)
            have c0x0 := (S.out.at 0 rfl).cell (i := 0) rfl
            have c0x1 := (S.out.at 0 rfl).cell (i := 1) rfl
            have c0x2 := (S.out.at 0 rfl).cell (i := 2) rfl
            refine bodyPost_ret (v := .tuple #[.agg #[.bool false, .slice none 0 0, .slice none 0 0], .int .i64 10]) (by simp [results, Tryz.results23, go_sem, c0x0, c0x1, c0x2]) rfl ?_
            exact Or.inr (Or.inl ⟨rfl, HD2.out, rfl, S.out.low⟩)
        · go_enter Tryz.func23, Tryz.ntmps23
          go_wp2_with fail
          refine (H2.out _).mono ?_
          rintro e w2 ⟨rfl, hb⟩
          replace S := Lib.hid (S.out.below hb)
          clear hb H2 hw1
          go_wp2_with fail
          refine (hP1.out _).mono ?_
          rintro e w3 ⟨A, n, c, rfl, hx, hb⟩
          replace S := Lib.hid ((S.out.below hb).push (stab_refB _ _ _) hx)
          clear hb hx hP1
          go_wp2_with fail
          refine (hO.out _).mono ?_
          rintro e w4 ⟨A3, n3, c3, rfl, hx, hb⟩
          replace S := Lib.hid ((S.out.below hb).push (stab_refB _ _ 104) (hx.more (by omega)))
          clear hb hx hO
  
          go_wp2_with fail
          refine (hP2.out _).mono ?_
          rintro e w5 ⟨A4, n4, c4, rfl, hx, hb⟩
          replace S := Lib.hid ((S.out.below hb).push (stab_refB _ _ _) hx)
          clear hb hx hP2
          clear hMk hMz HE
          have c0x0 := (S.out.at 0 rfl).cell (i := 0) rfl
          have f0x0 := (S.out.at 0 rfl).frozen (i := 0)
          have c0x1 := (S.out.at 0 rfl).cell (i := 1) rfl
          have f0x1 := (S.out.at 0 rfl).frozen (i := 1)
          have c0x2 := (S.out.at 0 rfl).cell (i := 2) rfl
          have f0x2 := (S.out.at 0 rfl).frozen (i := 2)
          go_wp2_with fail
          replace S := Lib.hid (S.out.set3 0 rfl (noint_bool (b := false)) (noint_slice (A := none) (n := 0) (c := 0)) (noint_slice (A := none) (n := 0) (c := 0)) rfl)
          have c0x0 := (S.out.at 0 rfl).cell (i := 0) rfl
          have c0x1 := (S.out.at 0 rfl).cell (i := 1) rfl
          have c0x2 := (S.out.at 0 rfl).cell (i := 2) rfl
          refine bodyPost_ret (v := .tuple #[.agg #[.bool false, .slice none 0 0, .slice none 0 0], .int .i64 3]) (by simp [results, Tryz.results23, go_sem, c0x0, c0x1, c0x2]) rfl ?_
          exact Or.inl ⟨by decide, rfl, S.out.low⟩
      · rcases E2 with rfl | rfl
        · go_enter Tryz.func23, Tryz.ntmps23
          go_wp2_with fail
          refine (H2.out _).mono ?_
          rintro e w2 ⟨rfl, hb⟩
          replace S := Lib.hid (S.out.below hb)
          clear hb H2 hw1
          go_wp2_with fail
          refine (hP1.out _).mono ?_
          rintro e w3 ⟨A, n, c, rfl, hx, hb⟩
          replace S := Lib.hid ((S.out.below hb).push (stab_refB _ _ _) hx)
          clear hb hx hP1
          go_wp2_with fail
          refine (hO.out _).mono ?_
          rintro e w4 ⟨A3, n3, c3, rfl, hx, hb⟩
          replace S := Lib.hid ((S.out.below hb).push (stab_refB _ _ 104) (hx.more (by omega)))
          clear hb hx hO
  
          go_wp2_with fail
          refine (hP2.out _).mono ?_
          rintro e w5 ⟨A4, n4, c4, rfl, hx, hb⟩
          replace S := Lib.hid ((S.out.below hb).push (stab_refB _ _ _) hx)
          clear hb hx hP2
          clear hMk hMz HE
          have c0x0 := (S.out.at 0 rfl).cell (i := 0) rfl
          have f0x0 := (S.out.at 0 rfl).frozen (i := 0)
          have c0x1 := (S.out.at 0 rfl).cell (i := 1) rfl
          have f0x1 := (S.out.at 0 rfl).frozen (i := 1)
          have c0x2 := (S.out.at 0 rfl).cell (i := 2) rfl
          have f0x2 := (S.out.at 0 rfl).frozen (i := 2)
          go_wp2_with fail
          replace S := Lib.hid (S.out.set3 0 rfl (noint_bool (b := false)) (noint_slice (A := none) (n := 0) (c := 0)) (noint_slice (A := none) (n := 0) (c := 0)) rfl)
          have c0x0 := (S.out.at 0 rfl).cell (i := 0) rfl
          have c0x1 := (S.out.at 0 rfl).cell (i := 1) rfl
          have c0x2 := (S.out.at 0 rfl).cell (i := 2) rfl
          refine bodyPost_ret (v := .tuple #[.agg #[.bool false, .slice none 0 0, .slice none 0 0], .int .i64 3]) (by simp [results, Tryz.results23, go_sem, c0x0, c0x1, c0x2]) rfl ?_
          exact Or.inl ⟨by decide, rfl, S.out.low⟩
        · go_enter Tryz.func23, Tryz.ntmps23
          go_wp2_with fail
          refine (H2.out _).mono ?_
          rintro e w2 ⟨rfl, hb⟩
          replace S := Lib.hid (S.out.below hb)
          clear hb H2 hw1
          go_wp2_with fail
          refine (hP1.out _).mono ?_
          rintro e w3 ⟨A, n, c, rfl, hx, hb⟩
          replace S := Lib.hid ((S.out.below hb).push (stab_refB _ _ _) hx)
          clear hb hx hP1
          go_wp2_with fail
          refine (hO.out _).mono ?_
          rintro e w4 ⟨A3, n3, c3, rfl, hx, hb⟩
          replace S := Lib.hid ((S.out.below hb).push (stab_refB _ _ 104) (hx.more (by omega)))
          clear hb hx hO
  
          go_wp2_with fail
          refine (hP2.out _).mono ?_
          rintro e w5 ⟨A4, n4, c4, rfl, hx, hb⟩
          replace S := Lib.hid ((S.out.below hb).push (stab_refB _ _ _) hx)
          clear hb hx hP2
          clear hMk hMz HE
          have c0x0 := (S.out.at 0 rfl).cell (i := 0) rfl
          have f0x0 := (S.out.at 0 rfl).frozen (i := 0)
          have c0x1 := (S.out.at 0 rfl).cell (i := 1) rfl
          have f0x1 := (S.out.at 0 rfl).frozen (i := 1)
          have c0x2 := (S.out.at 0 rfl).cell (i := 2) rfl
          have f0x2 := (S.out.at 0 rfl).frozen (i := 2)
          go_wp2_with fail
          replace S := Lib.hid (S.out.set3 0 rfl (noint_bool (b := false)) (noint_slice (A := none) (n := 0) (c := 0)) (noint_slice (A := none) (n := 0) (c := 0)) rfl)
          have c0x0 := (S.out.at 0 rfl).cell (i := 0) rfl
          have c0x1 := (S.out.at 0 rfl).cell (i := 1) rfl
          have c0x2 := (S.out.at 0 rfl).cell (i := 2) rfl
          refine bodyPost_ret (v := .tuple #[.agg #[.bool false, .slice none 0 0, .slice none 0 0], .int .i64 3]) (by simp [results, Tryz.results23, go_sem, c0x0, c0x1, c0x2]) rfl ?_
          exact Or.inl ⟨by decide, rfl, S.out.low⟩
end Go.Proofs.YthfjbpbgnoonpaaGreatDoor
