/- Contracts of package rational: firstError, Parse. -/
import Derived.Test.YthfjbpbgnoonpaaGreatDoorRI
namespace Go.Proofs.YthfjbpbgnoonpaaGreatDoor
open Go.RowKit

open Classical in
noncomputable def pE (s : ByteArray) : Int := if isTextB s then (if s.size ≤ 1000 then 0 else 6) else 3
open Classical in
noncomputable def pK (s : ByteArray) : Nat := if isTextB s ∧ s.size ≤ 1000 then numL s.data.toList else 0
theorem pE_cases (s : ByteArray) : pE s = 0 ∨ pE s = 3 ∨ pE s = 6 := by unfold pE; split; (split; exact .inl rfl; exact .inr (.inr rfl)); exact .inr (.inl rfl)
theorem big_pow (m : Nat) : (10 : Nat) ^ (125 * m) ≤ 4294967296 ^ (13 * m) := by
  rw [Nat.pow_mul, Nat.pow_mul]
  exact Nat.pow_le_pow_left (by decide) m
theorem pK_lt (s : ByteArray) : pK s < 4294967296 ^ 104 := by
  unfold pK
  split
  · rename_i h
    obtain ⟨m, hm⟩ : ∃ m, m = 8 := ⟨_, rfl⟩
    have h1 := numL_bd (n := 125 * m) _ h.1.2.2.digL (show s.data.toList.length ≤ 125 * m by have : s.data.toList.length = s.size := Array.length_toList; omega)
    have h2 := big_pow m
    rw [show 104 = 13 * m by omega]
    exact Nat.lt_of_lt_of_le h1 h2
  · exact Nat.pow_pos (by omega)
def ParB (W : World) (k : Nat) (E : Int) (e : Ending) (w' : World) : Prop := ∃ A n c, e = .returned (.tuple #[.agg #[.slice A n c], .int .i64 E]) ∧ NatB w' (.agg #[.slice A n c]) k 104 ∧ Below W.heap.size W w'
theorem natParse_any (s : ByteArray) (hs : s.size ≤ 9223372036854775807) (W : World) : Calls Tryz.prog 67 #[.string s] W (ParB W (pK s) (pE s)) := by
  have hlt := pK_lt s
  by_cases ht : isTextB s
  · by_cases hl : s.size ≤ 1000
    · have e1 : pE s = 0 := by unfold pE; rw [if_pos ht, if_pos hl]
      have e2 : pK s = numL s.data.toList := by unfold pK; rw [if_pos ⟨ht, hl⟩]
      rw [e2] at hlt
      rw [e1, e2]
      refine (parse_ok (w := W) ht hl).mono ?_
      rintro e w' ⟨v, rfl, hv, hb⟩
      obtain ⟨A, n, c, -, rfl⟩ := isNat_digs hv
      exact ⟨A, n, c, rfl, ⟨hv, hlt⟩, hb⟩
    · have e1 : pE s = 6 := by unfold pE; rw [if_pos ht, if_neg hl]
      have e2 : pK s = 0 := by unfold pK; rw [if_neg (fun h => hl h.2)]
      rw [e2] at hlt
      rw [e1, e2]
      refine (parse_long (w := W) hs ht (by omega)).mono ?_
      rintro e w' ⟨rfl, hb⟩
      exact ⟨_, _, _, rfl, ⟨isNat_zero _, hlt⟩, hb⟩
  · have e1 : pE s = 3 := by unfold pE; rw [if_neg ht]
    have e2 : pK s = 0 := by unfold pK; rw [if_neg (fun h => ht h.1)]
    rw [e2] at hlt
    rw [e1, e2]
    refine (parse_bad (w := W) hs ht).mono ?_
    rintro e w' ⟨rfl, hb⟩
    exact ⟨_, _, _, rfl, ⟨isNat_zero _, hlt⟩, hb⟩
def ferr (x y : Int) : Int := if x = 3 ∨ y = 3 then 3 else if x ≠ 0 then x else y
set_option maxRecDepth 100000 in
theorem firstError_any {x y : Int} (hx : x = 0 ∨ x = 3 ∨ x = 6) (hy : y = 0 ∨ y = 3 ∨ y = 6) (w : World) : Calls Tryz.prog 68 #[.int .i64 x, .int .i64 y] w fun e w' => e = .returned (.int .i64 (ferr x y)) ∧ w' = w := by
  rcases hx with rfl | rfl | rfl <;> rcases hy with rfl | rfl | rfl
  all_goals
    go_enter Tryz.func68, Tryz.ntmps68
    go_wp2
    go_ret
    exact ⟨rfl, rfl⟩
def ParQ (w : World) (neg : Bool) (E : Int) (k d : Nat) (e : Ending) (w' : World) : Prop := (E ≠ 0 ∧ ErrT w E e w') ∨ (E = 0 ∧ d = 0 ∧ ErrT w 10 e w') ∨ (E = 0 ∧ 0 < d ∧ OpT w (mkRat (sg neg k) d) 104 e w')
set_option maxRecDepth 100000 in
set_option maxHeartbeats 8000000 in
theorem parse_walk {w : World} {s T TA T0 TB : ByteArray} {neg fnd : Bool} (hV : Vars w) (hAs : TA.size ≤ 9223372036854775807) (hBs : TB.size ≤ 9223372036854775807)
    (h1 : ∀ W, Calls Tryz.prog 65 #[.string s, .string ⟨#[45]⟩] W fun e w' => e = .returned (.tuple #[.string T, .bool neg]) ∧ w' = W)
    (h2 : ∀ W, Vars W → Calls Tryz.prog 66 #[.string T, .string ⟨#[47]⟩] W fun e w' => e = .returned (.tuple #[.string TA, .string T0, .bool fnd]) ∧ Below W.heap.size W w')
    (hB : TB = if fnd then T0 else ⟨#[49]⟩) :
    Calls Tryz.prog 22 #[.string s] w (ParQ w neg (ferr (pE TA) (pE TB)) (pK TA) (pK TB)) := by
  obtain ⟨w1, hw1, S⟩ := enter1 w [.bool false, .slice none 0 0, .slice none 0 0] 30 (by decide) noint3
  have hP1 := Lib.hid (natParse_any TA hAs)
  have hP2 := Lib.hid (natParse_any TB hBs)
  have hF := Lib.hid (firstError_any (pE_cases TA) (pE_cases TB))
  have H1 := Lib.hid h1
  have H2 := Lib.hid (fun W (hb : Below w.heap.size w W) => h2 W (hV.below hb))
  have hMz := Lib.hid (fun W A n c A2 n2 c2 d (hd : d = 0) (h2 : NatB W (.agg #[.slice A2 n2 c2]) d 104) => make_zero (b := neg) (A := A) (n := n) (c := c) (hd ▸ h2) (by omega))
  have hMk := Lib.hid (fun W A n c A2 n2 c2 (hd : 0 < pK TB) (h1 : NatB W (.agg #[.slice A n c]) (pK TA) 104) (h2 : NatB W (.agg #[.slice A2 n2 c2]) (pK TB) 104) => make_ok (b := neg) h1 h2 (by omega) hd)
  unfold ParQ
  generalize mkRat (sg neg (pK TA)) (pK TB) = q at hMk ⊢
  generalize ferr (pE TA) (pE TB) = E at hF ⊢
  generalize pE TA = EA at hP1 hF
  generalize pE TB = EB at hP2 hF
  generalize pK TA = KA at hP1 hMk
  generalize pK TB = KB at hP2 hMk ⊢
  clear h1 h2 hV hAs hBs
  cases fnd
  all_goals
    obtain rfl := hB
    go_enter Tryz.func22, Tryz.ntmps22
    go_wp2_with fail
    refine (H1.out _).mono ?_
    rintro e w' ⟨rfl, rfl⟩
    go_wp2_with fail
    refine (H2.out _ S.out.low).mono ?_
    rintro e w2 ⟨rfl, hb⟩
    replace S := Lib.hid (S.out.below hb)
    clear hb H1 H2 hw1
    go_wp2_with fail
    refine (hP1.out _).mono ?_
    rintro e w3 ⟨A, n, c, rfl, hx, hb⟩
    replace S := Lib.hid (((S.out.below hb).push (stab_natB _ _ _) hx).alloc [.slice A n c] 28 (by decide) noint1)
    generalize hx9 : w3.heap.size = x9 at S
    obtain ⟨w4, hw4⟩ : ∃ w4, w3.alloc (.cells #[.slice A n c] 28) = w4 := ⟨_, rfl⟩
    rw [hw4] at S
    clear hb hx hP1
    go_wp2_with fail
    clear hw4 hx9
    refine (hP2.out _).mono ?_
    rintro e w5 ⟨A2, n2, c2, rfl, hx, hb⟩
    replace S := Lib.hid (((S.out.below hb).push (stab_natB _ _ _) hx).alloc [.slice A2 n2 c2] 28 (by decide) noint1)
    generalize hx11 : w5.heap.size = x11 at S
    obtain ⟨w6, hw6⟩ : ∃ w6, w5.alloc (.cells #[.slice A2 n2 c2] 28) = w6 := ⟨_, rfl⟩
    rw [hw6] at S
    clear hb hx hP2
    go_wp2_with fail
    clear hw6 hx11
    refine (hF.out _).mono ?_
    rintro e w' ⟨rfl, rfl⟩
    clear hF
    by_cases hE : E = 0
    · have hE1 : (E == 0) = true := by simpa using hE
      have hE2 : (E != 0) = false := by simpa using hE
      have HE := Lib.hid hE
      clear hE
      have c1x0 := (S.out.at 1 rfl).cell (i := 0) rfl
      have c0x0 := (S.out.at 0 rfl).cell (i := 0) rfl
      go_wp2_with fail
      clear hE1 hE2 c1x0 c0x0
      by_cases hd : KB = 0
      · refine (hMz.out _ _ _ _ _ _ _ _ hd (S.out.fact 0 rfl)).mono ?_
        rintro e w7 ⟨rfl, hb⟩
        replace S := Lib.hid (S.out.below hb)
        have HD := Lib.hid hd
        clear hb hMz hMk hd
        have c2x0 := (S.out.at 2 rfl).cell (i := 0) rfl
        have f2x0 := (S.out.at 2 rfl).frozen (i := 0)
        have c2x1 := (S.out.at 2 rfl).cell (i := 1) rfl
        have f2x1 := (S.out.at 2 rfl).frozen (i := 1)
        have c2x2 := (S.out.at 2 rfl).cell (i := 2) rfl
        have f2x2 := (S.out.at 2 rfl).frozen (i := 2)
        go_wp2_with fail
        replace S := Lib.hid (S.out.set3 2 rfl (noint_bool (b := false)) (noint_slice (A := none) (n := 0) (c := 0)) (noint_slice (A := none) (n := 0) (c := 0)) rfl)
        have c2x0 := (S.out.at 2 rfl).cell (i := 0) rfl
        have c2x1 := (S.out.at 2 rfl).cell (i := 1) rfl
        have c2x2 := (S.out.at 2 rfl).cell (i := 2) rfl
        refine bodyPost_ret (v := .tuple #[.agg #[.bool false, .slice none 0 0, .slice none 0 0], .int .i64 10]) (by simp [results, Tryz.results22, go_sem, c2x0, c2x1, c2x2]) rfl ?_
        exact .inr (.inl ⟨HE.out, HD.out, rfl, S.out.low⟩)
      · refine (hMk.out _ _ _ _ _ _ _ (Nat.pos_of_ne_zero hd) (S.out.fact 1 rfl) (S.out.fact 0 rfl)).mono ?_
        rintro e w7 ⟨b5, A5, n5, c5, A6, n6, c6, rfl, hq, hb⟩
        replace S := Lib.hid ((S.out.below hb).push (stab_ratP _ _ _) hq)
        have HD := Lib.hid hd
        clear hb hMz hMk hd hq
        have c2x0 := (S.out.at 2 rfl).cell (i := 0) rfl
        have f2x0 := (S.out.at 2 rfl).frozen (i := 0)
        have c2x1 := (S.out.at 2 rfl).cell (i := 1) rfl
        have f2x1 := (S.out.at 2 rfl).frozen (i := 1)
        have c2x2 := (S.out.at 2 rfl).cell (i := 2) rfl
        have f2x2 := (S.out.at 2 rfl).frozen (i := 2)
        go_wp2_with fail
        replace S := Lib.hid (S.out.set3 2 rfl (noint_bool (b := b5)) (noint_slice (A := A5) (n := n5) (c := c5)) (noint_slice (A := A6) (n := n6) (c := c6)) rfl)
        have c2x0 := (S.out.at 2 rfl).cell (i := 0) rfl
        have c2x1 := (S.out.at 2 rfl).cell (i := 1) rfl
        have c2x2 := (S.out.at 2 rfl).cell (i := 2) rfl
        refine bodyPost_ret (v := .tuple #[.agg #[.bool b5, .slice A5 n5 c5, .slice A6 n6 c6], .int .i64 0]) (by simp [results, Tryz.results22, go_sem, c2x0, c2x1, c2x2]) rfl ?_
        exact .inr (.inr ⟨HE.out, Nat.pos_of_ne_zero HD.out, b5, A5, n5, c5, A6, n6, c6, rfl, S.out.fact 0 rfl, S.out.low⟩)
    · have hE1 : (E == 0) = false := by simpa using hE
      have hE2 : (E != 0) = true := by simpa using hE
      have HE := Lib.hid hE
      clear hE hMz hMk
      have c2x0 := (S.out.at 2 rfl).cell (i := 0) rfl
      have f2x0 := (S.out.at 2 rfl).frozen (i := 0)
      have c2x1 := (S.out.at 2 rfl).cell (i := 1) rfl
      have f2x1 := (S.out.at 2 rfl).frozen (i := 1)
      have c2x2 := (S.out.at 2 rfl).cell (i := 2) rfl
      have f2x2 := (S.out.at 2 rfl).frozen (i := 2)
      go_wp2_with fail
      replace S := Lib.hid (S.out.set3 2 rfl (noint_bool (b := false)) (noint_slice (A := none) (n := 0) (c := 0)) (noint_slice (A := none) (n := 0) (c := 0)) rfl)
      have c2x0 := (S.out.at 2 rfl).cell (i := 0) rfl
      have c2x1 := (S.out.at 2 rfl).cell (i := 1) rfl
      have c2x2 := (S.out.at 2 rfl).cell (i := 2) rfl
      refine bodyPost_ret (v := .tuple #[.agg #[.bool false, .slice none 0 0, .slice none 0 0], .int .i64 E]) (by simp [results, Tryz.results22, go_sem, c2x0, c2x1, c2x2]) rfl ?_
      exact .inl ⟨HE.out, rfl, S.out.low⟩
theorem parse_any {w : World} {s TA TB : ByteArray} (hs : s.size < 4294967281) (hV : Vars w) (hA : (Lib.cut (Lib.trimPrefix s.data.toList [45]) [47]).1 = TA.data.toList)
    (hB : (if (Lib.cut (Lib.trimPrefix s.data.toList [45]) [47]).2.2 then (Lib.cut (Lib.trimPrefix s.data.toList [45]) [47]).2.1 else [49]) = TB.data.toList) (hAs : TA.size ≤ 9223372036854775807) (hBs : TB.size ≤ 9223372036854775807) :
    Calls Tryz.prog 22 #[.string s] w (ParQ w (Lib.hasPrefix s.data.toList [45]) (ferr (pE TA) (pE TB)) (pK TA) (pK TB)) := by
  have ht : (Lib.trimPrefix s.data.toList [45]).length ≤ s.data.toList.length := by unfold Lib.trimPrefix; split <;> simp
  refine parse_walk (T := ⟨(Lib.trimPrefix s.data.toList [45]).toArray⟩) (T0 := ⟨(Lib.cut (Lib.trimPrefix s.data.toList [45]) [47]).2.1.toArray⟩) (fnd := (Lib.cut (Lib.trimPrefix s.data.toList [45]) [47]).2.2) hV hAs hBs (fun W => Tryz.strings_CutPrefix s ⟨#[45]⟩ W) (fun W hW => ?_) ?_
  · have hl : (⟨(Lib.trimPrefix s.data.toList [45]).toArray⟩ : ByteArray).size < 4294967281 := by
      have : s.data.toList.length = s.size := Array.length_toList
      show (Lib.trimPrefix s.data.toList [45]).toArray.size < _
      simp only [List.size_toArray]
      omega
    have := cut_any ⟨(Lib.trimPrefix s.data.toList [45]).toArray⟩ W hl hW
    simp only at this
    rw [hA] at this
    exact this
  · refine bytes_ext ?_
    rw [← hB]
    split <;> rfl
end Go.Proofs.YthfjbpbgnoonpaaGreatDoor
