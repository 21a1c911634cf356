/- Both read a short string alike; a fraction of long parts; a string of zeros. -/
import Derived.Test.YthfjbpbgnoonpaaGreatDoorRPA
namespace Go.Proofs.YthfjbpbgnoonpaaGreatDoor
open Go.RowKit

theorem ratF_nil (W : World) : RatF W (.agg #[.bool false, .slice none 0 0, .slice none 0 0]) 0 1 :=
  ⟨none, 0, 0, none, 0, 0, rfl, RefB.zero W 1, RefB.zero W 1, by simp⟩
theorem head_has (s : ByteArray) : (Lib.hasPrefix s.data.toList [45] = true ∧ Lib.trimPrefix s.data.toList [45] = (s.extract 1 s.size).data.toList ∧ 0 < s.size ∧ ∀ h : 0 < s.size, ((s[0].toNat : Int) == 45) = true) ∨ (Lib.hasPrefix s.data.toList [45] = false ∧ Lib.trimPrefix s.data.toList [45] = s.data.toList ∧ 0 < s.size ∧ ∀ h : 0 < s.size, ((s[0].toNat : Int) == 45) = false) ∨ (Lib.hasPrefix s.data.toList [45] = false ∧ Lib.trimPrefix s.data.toList [45] = s.data.toList ∧ s.size = 0) := by
  by_cases h0 : 0 < s.size
  · have hl : 0 < s.data.toList.length := h0
    have e : s.data.toList = s[0] :: s.data.toList.drop 1 := by
      rw [← nat_data s 0 h0]
      have := List.drop_eq_getElem_cons hl
      rwa [List.drop_zero] at this
    by_cases h45 : s[0].toNat = 45
    · have e45 : s[0] = 45 := UInt8.toNat_inj.1 (by rw [h45]; rfl)
      have hp : Lib.hasPrefix s.data.toList [45] = true := by
        unfold Lib.hasPrefix
        rw [e, e45]
        rfl
      refine .inl ⟨hp, ?_, h0, fun _ => by simp; omega⟩
      unfold Lib.trimPrefix
      rw [if_pos hp, ex_suf]
      rfl
    · have hp : Lib.hasPrefix s.data.toList [45] = false := by
        unfold Lib.hasPrefix
        rw [e]
        have : ((45 : UInt8) == s[0]) = false := beq_eq_false_iff_ne.2 fun h => h45 (by rw [← h]; rfl)
        simp [List.isPrefixOf, this]
      refine .inr (.inl ⟨hp, ?_, h0, fun _ => by simp; omega⟩)
      unfold Lib.trimPrefix
      rw [if_neg (by rw [hp]; simp)]
  · have hz : s.size = 0 := by omega
    have e : s.data.toList = [] := List.eq_nil_of_length_eq_zero hz
    have hp : Lib.hasPrefix s.data.toList [45] = false := by rw [e]; rfl
    refine .inr (.inr ⟨hp, ?_, hz⟩)
    unfold Lib.trimPrefix
    rw [if_neg (by rw [hp]; simp)]
theorem cut_sizes (l : List UInt8) : (Lib.cut l [47]).1.length ≤ l.length ∧ (Lib.cut l [47]).2.1.length ≤ l.length := by
  unfold Lib.cut
  split
  · simp; omega
  · simp
theorem refParse_any {w : World} {s TA TB : ByteArray} (hs : s.size ≤ 100) (hA : (Lib.cut (Lib.trimPrefix s.data.toList [45]) [47]).1 = TA.data.toList)
    (hB : (if (Lib.cut (Lib.trimPrefix s.data.toList [45]) [47]).2.2 then (Lib.cut (Lib.trimPrefix s.data.toList [45]) [47]).2.1 else [49]) = TB.data.toList) :
    Calls Tryz.prog 23 #[.string s] w (RefQ w (Lib.hasPrefix s.data.toList [45]) (ferr (pE TA) (pE TB)) (pK TA) (pK TB)) := by
  have ht : (Lib.trimPrefix s.data.toList [45]).length ≤ s.data.toList.length := by unfold Lib.trimPrefix; split <;> simp
  have hl : s.data.toList.length = s.size := rfl
  obtain ⟨c1, c2⟩ := cut_sizes (Lib.trimPrefix s.data.toList [45])
  have hTA : TA.size ≤ 100 := by
    have : TA.data.toList.length = TA.size := rfl
    rw [← hA] at this; omega
  have key := refParse_walk (w := w) (s := s) (T := ⟨(Lib.trimPrefix s.data.toList [45]).toArray⟩) (TA := TA) (T0 := ⟨(Lib.cut (Lib.trimPrefix s.data.toList [45]) [47]).2.1.toArray⟩) (neg := Lib.hasPrefix s.data.toList [45]) (fnd := (Lib.cut (Lib.trimPrefix s.data.toList [45]) [47]).2.2) hs hTA
    (by show (Lib.cut (Lib.trimPrefix s.data.toList [45]) [47]).2.1.toArray.size ≤ 100; simp only [List.size_toArray]; omega)
    (by
      rcases head_has s with ⟨h1, h2, h3, h4⟩ | ⟨h1, h2, h3, h4⟩ | ⟨h1, h2, h3⟩
      · exact .inl ⟨h1, bytes_ext h2, h3, h4⟩
      · exact .inr (.inl ⟨h1, bytes_ext h2, h3, h4⟩)
      · exact .inr (.inr ⟨h1, bytes_ext h2, h3⟩))
    (fun W => (refCut_any ⟨(Lib.trimPrefix s.data.toList [45]).toArray⟩ W (by show (Lib.trimPrefix s.data.toList [45]).toArray.size ≤ _; simp only [List.size_toArray]; omega)).mono fun e w' h => by
      obtain ⟨h1, h2⟩ := h
      refine ⟨?_, h2⟩
      rw [h1]
      have : (⟨(Lib.cut (Lib.trimPrefix s.data.toList [45]) [47]).1.toArray⟩ : ByteArray) = TA := bytes_ext hA
      show _ = Ending.returned (.tuple #[.string TA, _, _])
      rw [← this])
  have e2 : (if (Lib.cut (Lib.trimPrefix s.data.toList [45]) [47]).2.2 then pE ⟨(Lib.cut (Lib.trimPrefix s.data.toList [45]) [47]).2.1.toArray⟩ else 0) = pE TB ∧ (if (Lib.cut (Lib.trimPrefix s.data.toList [45]) [47]).2.2 then pK ⟨(Lib.cut (Lib.trimPrefix s.data.toList [45]) [47]).2.1.toArray⟩ else 1) = pK TB := by
    by_cases hf : (Lib.cut (Lib.trimPrefix s.data.toList [45]) [47]).2.2 = true
    · rw [if_pos hf] at hB ⊢
      rw [if_pos hf, bytes_ext (a := ⟨(Lib.cut (Lib.trimPrefix s.data.toList [45]) [47]).2.1.toArray⟩) (b := TB) hB]
      exact ⟨rfl, rfl⟩
    · rw [if_neg hf] at hB ⊢
      rw [if_neg hf, ← bytes_ext (a := ⟨#[49]⟩) (b := TB) hB]
      exact ⟨pK_one.2.symm, pK_one.1.symm⟩
  rw [e2.1, e2.2] at key
  exact key
def OpTE (W : World) (q : Rat) (E : Int) (e : Ending) (w' : World) : Prop := ∃ b A n c A2 n2 c2, e = .returned (.tuple #[.agg #[.bool b, .slice A n c, .slice A2 n2 c2], .int .i64 E]) ∧ RatP w' (.agg #[.bool b, .slice A n c, .slice A2 n2 c2]) q 104 ∧ Below W.heap.size W w'
def OpGE (W : World) (q : Rat) (E : Int) (e : Ending) (w' : World) : Prop := ∃ b A n c A2 n2 c2, e = .returned (.tuple #[.agg #[.bool b, .slice A n c, .slice A2 n2 c2], .int .i64 E]) ∧ RatF w' (.agg #[.bool b, .slice A n c, .slice A2 n2 c2]) q 104 ∧ Below W.heap.size W w'
theorem errT {W : World} {E : Int} {e : Ending} {w' : World} (h : ErrT W E e w') : OpTE W 0 E e w' := ⟨_, _, _, _, _, _, _, h.1, (ratP_zero w').more (by omega), h.2⟩
theorem errG {W : World} {E : Int} {e : Ending} {w' : World} (h : ErrT W E e w') : OpGE W 0 E e w' := ⟨_, _, _, _, _, _, _, h.1, (ratF_nil w').more (by omega), h.2⟩
/-- Both read a short string alike. -/
theorem both_parse (s : ByteArray) (hs : s.size ≤ 100) : ∃ (q : Rat) (E : Int), (∀ W, Vars W → Calls Tryz.prog 22 #[.string s] W (OpTE W q E)) ∧ (∀ W, Calls Tryz.prog 23 #[.string s] W (OpGE W q E)) := by
  obtain ⟨TA, hA⟩ : ∃ TA : ByteArray, (Lib.cut (Lib.trimPrefix s.data.toList [45]) [47]).1 = TA.data.toList := ⟨⟨(Lib.cut (Lib.trimPrefix s.data.toList [45]) [47]).1.toArray⟩, rfl⟩
  obtain ⟨TB, hB⟩ : ∃ TB : ByteArray, (if (Lib.cut (Lib.trimPrefix s.data.toList [45]) [47]).2.2 then (Lib.cut (Lib.trimPrefix s.data.toList [45]) [47]).2.1 else [49]) = TB.data.toList := ⟨⟨(if (Lib.cut (Lib.trimPrefix s.data.toList [45]) [47]).2.2 then (Lib.cut (Lib.trimPrefix s.data.toList [45]) [47]).2.1 else [49]).toArray⟩, rfl⟩
  have ht : (Lib.trimPrefix s.data.toList [45]).length ≤ s.data.toList.length := by unfold Lib.trimPrefix; split <;> simp
  have hl : s.data.toList.length = s.size := rfl
  obtain ⟨c1, c2⟩ := cut_sizes (Lib.trimPrefix s.data.toList [45])
  have hTA : TA.size ≤ 100 := by
    have : TA.data.toList.length = TA.size := rfl
    rw [← hA] at this; omega
  have hTB : TB.size ≤ 100 := by
    have : TB.data.toList.length = TB.size := rfl
    rw [← hB] at this
    split at this
    · omega
    · simp at this; omega
  have hP := fun W (hV : Vars W) => parse_any (w := W) (s := s) (by omega) hV hA hB (by omega) (by omega)
  have hR := fun W => refParse_any (w := W) (s := s) hs hA hB
  by_cases hE : ferr (pE TA) (pE TB) = 0
  · by_cases hd : pK TB = 0
    · refine ⟨0, 10, fun W hV => (hP W hV).mono ?_, fun W => (hR W).mono ?_⟩
      · rintro e w' (⟨h, _⟩ | ⟨_, _, h⟩ | ⟨_, h, _⟩)
        · exact absurd hE h
        · exact errT h
        · omega
      · rintro e w' (⟨h, _⟩ | ⟨_, _, h⟩ | ⟨_, h, _⟩)
        · exact absurd hE h
        · exact errG h
        · omega
    · refine ⟨mkRat (sg (Lib.hasPrefix s.data.toList [45]) (pK TA)) (pK TB), 0, fun W hV => (hP W hV).mono ?_, fun W => (hR W).mono ?_⟩
      · rintro e w' (⟨h, _⟩ | ⟨_, h, _⟩ | ⟨_, _, h⟩)
        · exact absurd hE h
        · exact absurd h hd
        · exact h
      · rintro e w' (⟨h, _⟩ | ⟨_, h, _⟩ | ⟨_, _, h⟩)
        · exact absurd hE h
        · exact absurd h hd
        · exact h
  · refine ⟨0, ferr (pE TA) (pE TB), fun W hV => (hP W hV).mono ?_, fun W => (hR W).mono ?_⟩
    · rintro e w' (⟨_, h⟩ | ⟨h, _⟩ | ⟨h, _⟩)
      · exact errT h
      · exact absurd h hE
      · exact absurd h hE
    · rintro e w' (⟨_, h⟩ | ⟨h, _⟩ | ⟨h, _⟩)
      · exact errG h
      · exact absurd h hE
      · exact absurd h hE

/-- n zeros. -/
def zer (n : Nat) : List UInt8 := List.replicate n 48
def zerF (i j : Nat) : Value := if j < i then .int .u8 48 else .int .u8 0
theorem conv_zer {W : World} {g n : Nat} (h : Row W g 5 n (zerF n)) : (convert 96 9 (.slice (some ⟨g, 0, none⟩) n n)).run Tryz.prog W = .ok (.string ⟨(zer n).toArray⟩) W := by
  have hl : (zer n).length = n := List.length_replicate
  have := run_convert_bytes_back (P := Tryz.prog) W 96 9 5 ⟨g, 0, none⟩ n (zer n) Tryz.underlying96 Tryz.underlying5 Tryz.underlying9 (fun j hj => by
    rw [hl] at hj
    rw [row_at, h.cell j hj]
    simp [zerF, zer, hj])
  rw [hl] at this
  exact this
set_option maxRecDepth 100000 in
set_option maxHeartbeats 4000000 in
theorem zeros_any {n : Nat} {w : World} (hn : n ≤ 1100) : Calls Tryz.prog 24 #[.int .i64 (n : Int)] w fun e w' => e = .returned (.string ⟨(zer n).toArray⟩) ∧ Below w.heap.size w w' := by
  obtain ⟨i0, hi, hz0, hz1, hz2⟩ := info_parts infoU8
  have HN := Lib.hid hn
  go_enter Tryz.func24, Tryz.ntmps24
  go_wp2_with (refine wpList_make_row rfl (.tmp 5) (.tmp 5) _ rfl 5 i0 _ Tryz.underlying96 hi hz0 hz1 rfl _ _ _ _ n rfl rfl rfl rfl (by rw [hz2]; omega) (by simp [maxLen]; omega) _ _ (Below.refl _ _) (Nat.le_refl _) ?_; intro w6 hrow hb6 hs6)
  have hr0 : Row w6 w.heap.size 5 n (zerF 0) := hrow.out.same (fun j _ => by simp [zerF])
  have hb6' := hb6.out
  have hg6 := hr0.lt
  clear hrow hb6 hs6 hi hz0 hz1 hz2
  go_loopw [4] (fun i wr => ∃ ni : Nat, i = .int .i64 ni ∧ ni ≤ n ∧ Row wr w.heap.size 5 n (zerF ni) ∧ Below w.heap.size w wr) (fun i _ => n - (intOf i).toNat)
  case atStart => exact ⟨0, rfl, by omega, hr0, hb6'⟩
  case round =>
    obtain ⟨i, rfl, hin, hr, hbw⟩ := hrel
    clear hr0 hb6' hg6
    by_cases hlt : i < n
    · have hc0 := hr.cell i hlt
      have hf0 := hr.frozen i
      have hst : Hid (∀ j, zerF (i + 1) j = if j = i then .int .u8 48 else zerF i j) := by
        intro j
        unfold zerF
        by_cases h1 : j = i
        · rw [if_pos h1, if_pos (by omega)]
        · rw [if_neg h1]
          by_cases h2 : j < i
          · rw [if_pos h2, if_pos (by omega)]
          · rw [if_neg h2, if_neg (by omega)]
      go_wp2
      go_roundw
      case rel => exact ⟨i + 1, by go_num, by omega, hr.set_ i _ (fun j _ => hst.out j), hbw.setCell (Nat.le_refl _) _⟩
      case measure => simp [intOf]; omega
    · obtain rfl : i = n := by omega
      have hcv := conv_zer hr
      clear hr
      go_wp2
      go_ret
      exact ⟨rfl, hbw⟩
end Go.Proofs.YthfjbpbgnoonpaaGreatDoor
