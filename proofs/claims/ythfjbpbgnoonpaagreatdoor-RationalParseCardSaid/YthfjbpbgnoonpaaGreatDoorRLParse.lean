/- The walk of the law RationalParse. -/
import Derived.Test.YthfjbpbgnoonpaaGreatDoorRPB
namespace Go.Proofs.YthfjbpbgnoonpaaGreatDoor
open Go.RowKit

theorem zer_get {n j : Nat} (hj : j < (⟨(49 :: zer n).toArray⟩ : ByteArray).size) : 48 ≤ (⟨(49 :: zer n).toArray⟩ : ByteArray)[j].toNat ∧ (⟨(49 :: zer n).toArray⟩ : ByteArray)[j].toNat ≤ 57 ∧ (j = 0 → (⟨(49 :: zer n).toArray⟩ : ByteArray)[j].toNat = 49) := by
  show 48 ≤ ((49 :: zer n).toArray[j]'hj).toNat ∧ ((49 :: zer n).toArray[j]'hj).toNat ≤ 57 ∧ (j = 0 → ((49 :: zer n).toArray[j]'hj).toNat = 49)
  cases j with
  | zero => simp
  | succ j => simp [zer]
theorem zer_size (n : Nat) : (⟨(49 :: zer n).toArray⟩ : ByteArray).size = n + 1 := by
  show (49 :: zer n).toArray.size = n + 1
  simp [zer]
theorem zer_text (n : Nat) : isTextB (⟨(49 :: zer n).toArray⟩ : ByteArray) := by
  refine ⟨by rw [zer_size]; omega, fun h0 h1 => ?_, fun j hj _ => ?_⟩
  · have := (zer_get h0).2.2 rfl; omega
  · have := zer_get hj; omega
theorem zer_pE (n : Nat) : pE ⟨(49 :: zer n).toArray⟩ = if n < 1000 then 0 else 6 := by
  unfold pE
  rw [if_pos (zer_text n), zer_size]
  by_cases h : n < 1000
  · rw [if_pos h, if_pos (by omega)]
  · rw [if_neg h, if_neg (by omega)]
theorem zer_pK {n : Nat} (h : n < 1000) : 0 < pK ⟨(49 :: zer n).toArray⟩ := by
  unfold pK
  rw [if_pos ⟨zer_text n, by rw [zer_size]; omega⟩]
  show 0 < numL (49 :: zer n)
  have := numL_append [49] (zer n)
  rw [List.singleton_append] at this
  rw [this]
  have h1 : numL [49] = 1 := rfl
  rw [h1]
  have := Nat.pow_pos (n := (zer n).length) (show 0 < 10 by omega)
  omega
theorem long_any {n d : Nat} {s : ByteArray} {w : World} (hn : n ≤ 1100) (hd : d ≤ 1100) (hV : Vars w) (hs : s.data.toList = (49 :: zer n) ++ 47 :: 49 :: zer d) :
    Calls Tryz.prog 22 #[.string s] w fun e w' => ∃ b A m c A2 m2 c2, e = .returned (.tuple #[.agg #[.bool b, .slice A m c, .slice A2 m2 c2], .int .i64 (if n < 1000 ∧ d < 1000 then 0 else 6)]) ∧ Below w.heap.size w w' := by
  have hh : Lib.hasPrefix s.data.toList [45] = false := by rw [hs]; rfl
  have ht : Lib.trimPrefix s.data.toList [45] = (49 :: zer n) ++ 47 :: 49 :: zer d := by
    unfold Lib.trimPrefix
    rw [if_neg (by rw [hh]; simp), hs]
  have hc : Lib.cut (Lib.trimPrefix s.data.toList [45]) [47] = (49 :: zer n, 49 :: zer d, true) := by
    rw [ht]
    refine cut_here fun c hc => ?_
    rcases List.mem_cons.1 hc with rfl | hc
    · decide
    · rw [List.eq_of_mem_replicate hc]; decide
  have hsz : s.size ≤ 3000 := by
    have h1 : s.data.toList.length = s.size := rfl
    rw [hs] at h1
    simp [zer] at h1
    omega
  have key := parse_any (w := w) (s := s) (TA := ⟨(49 :: zer n).toArray⟩) (TB := ⟨(49 :: zer d).toArray⟩) (by omega) hV (by rw [hc]) (by rw [hc]; rfl) (by rw [zer_size]; omega) (by rw [zer_size]; omega)
  rw [hh, zer_pE, zer_pE] at key
  refine key.mono ?_
  by_cases h1 : n < 1000
  · by_cases h2 : d < 1000
    · rw [if_pos h1, if_pos h2, if_pos (show n < 1000 ∧ d < 1000 from ⟨h1, h2⟩)]
      have hp := zer_pK h2
      rintro e w' (⟨h, _⟩ | ⟨_, h, _⟩ | ⟨_, _, b, A, m, c, A2, m2, c2, h, _, hb⟩)
      · exact absurd (by decide) h
      · omega
      · exact ⟨b, A, m, c, A2, m2, c2, h, hb⟩
    · rw [if_pos h1, if_neg h2, if_neg (show ¬ (n < 1000 ∧ d < 1000) from fun h => h2 h.2)]
      rintro e w' (⟨_, h, hb⟩ | ⟨h, _⟩ | ⟨h, _⟩)
      · exact ⟨_, _, _, _, _, _, _, h, hb⟩
      · exact absurd h (by decide)
      · exact absurd h (by decide)
  · rw [if_neg h1, if_neg (show ¬ (n < 1000 ∧ d < 1000) from fun h => h1 h.1)]
    have e6 : ferr 6 (if d < 1000 then 0 else 6) = 6 := by split <;> decide
    rw [e6]
    rintro e w' (⟨_, h, hb⟩ | ⟨h, _⟩ | ⟨h, _⟩)
    · exact ⟨_, _, _, _, _, _, _, h, hb⟩
    · exact absurd h (by decide)
    · exact absurd h (by decide)
theorem stab_ints (g : Nat) (a b : Int) (t : TypeId) : Stab (fun W => Blk W g [.int .u16 a, .int .u16 b] t) where
  low hb h := h.step hb
  far {W p} u hp h := by
    obtain ⟨t', v, h1, h2, h3, h4⟩ := hp
    refine h.far (fun e => ?_) u
    have h' := h
    unfold Blk at h'
    unfold World.cell? at h3
    rw [← e, h'] at h3
    simp only at h3
    split at h3
    · cases h3
    · match ho : p.off, h3 with
      | 0, h3 => simp at h3; exact h4 _ _ h3.symm
      | 1, h3 => simp at h3; exact h4 _ _ h3.symm
      | k + 2, h3 => simp at h3
set_option maxRecDepth 100000 in
set_option maxHeartbeats 16000000 in
theorem lawParse_large {w : World} {s : ByteArray} {D0 D1 : Nat} (hV : Vars w) (hl : 100 < s.size) (hs : s.size ≤ 9223372036854775807) : Calls Tryz.prog 4 #[.string s, .agg #[.int .u16 (D0 : Int), .int .u16 (D1 : Int)]] w fun e w' => e = .returned (.bool true) ∧ Below w.heap.size w w' := by
  obtain ⟨w1, hw1, hb1⟩ : ∃ w1, w.alloc (.cells #[.int .u16 (D0 : Int), .int .u16 (D1 : Int)] 49) = w1 ∧ Below w.heap.size w w1 := ⟨_, rfl, (Below.refl _ w).alloc (Nat.le_refl _) _⟩
  have hAw := Lib.hid (awake_any (hV.below hb1))
  have HB := Lib.hid hb1
  clear hV hb1
  go_enter Tryz.func4, Tryz.ntmps4
  go_wp2_with fail
  refine hAw.out.mono ?_
  rintro e w2 ⟨rfl, hb⟩
  have HB2 := Lib.hid (HB.out.trans (hb.mono HB.out.size))
  clear hb hw1 hAw
  go_wp2_with fail
  go_ret
  exact ⟨rfl, HB2.out⟩
set_option maxRecDepth 100000 in
set_option maxHeartbeats 16000000 in
theorem lawParse_small {w : World} {s : ByteArray} {D0 D1 : Nat} (hV : Vars w) (hl : s.size ≤ 100) (h0 : D0 < 65536) (h1 : D1 < 65536) : Calls Tryz.prog 4 #[.string s, .agg #[.int .u16 (D0 : Int), .int .u16 (D1 : Int)]] w fun e w' => e = .returned (.bool true) ∧ Below w.heap.size w w' := by
  obtain ⟨q, E, hP, hR⟩ := both_parse s hl
  have hP1 := Lib.hid (fun W (hw : Below w.heap.size w W) => hP W (hV.below hw))
  have hR1 := Lib.hid hR
  obtain ⟨N, hN, hNl⟩ : ∃ N : Nat, ((D0 : Int) % 1100) = (N : Int) ∧ N ≤ 1100 := ⟨D0 % 1100, by omega, by omega⟩
  obtain ⟨M, hM, hMl⟩ : ∃ M : Nat, ((D1 : Int) % 1100) = (M : Int) ∧ M ≤ 1100 := ⟨D1 % 1100, by omega, by omega⟩
  have hZ1 := Lib.hid (fun W => zeros_any (n := N) (w := W) hNl)
  have hZ2 := Lib.hid (fun W => zeros_any (n := M) (w := W) hMl)
  have hLg := Lib.hid (fun W (s : ByteArray) (hw : Below w.heap.size w W) (hs : s.data.toList = (49 :: zer N) ++ 47 :: 49 :: zer M) => long_any hNl hMl (hV.below hw) hs)
  have hIs := Lib.hid (fun W u v (hw : Below w.heap.size w W) (hu : RatP W u q 104) (hv : RatF W v q 104) => is_any (hV.tab.below hw) hu hv (by omega) (by omega))
  have hAw := Lib.hid (fun W (hw : Below w.heap.size w W) => awake_any (hV.below hw))
  obtain ⟨w1, hw1, S⟩ : ∃ w1, w.alloc (.cells #[.int .u16 (D0 : Int), .int .u16 (D1 : Int)] 49) = w1 ∧ Hid (Sr w [fun W => Blk W w.heap.size [.int .u16 (D0 : Int), .int .u16 (D1 : Int)] 49] [] w1) :=
    ⟨_, rfl, ((Sr.start w).below ((Below.refl _ w).alloc (Nat.le_refl _) _)).push (stab_ints _ _ _ _) (heap_alloc_new w _)⟩
  clear hP hR hV
  go_enter Tryz.func4, Tryz.ntmps4
  go_wp2_with fail
  refine (hAw.out _ S.out.low).mono ?_
  rintro e w2 ⟨rfl, hb⟩
  replace S := Lib.hid (S.out.below hb)
  clear hb hw1 hAw
  go_wp2_with fail
  refine (hP1.out _ S.out.low).mono ?_
  rintro e w3 ⟨b1, A1, n1, c1, B1, m1, d1, rfl, hq, hb⟩
  replace S := Lib.hid (((S.out.below hb).push (stab_ratP _ _ _) hq).alloc [.bool b1, .slice A1 n1 c1, .slice B1 m1 d1] 30 (by decide) noint3)
  generalize hx3 : w3.heap.size = x3 at S
  obtain ⟨w4, hw4⟩ : ∃ w4, w3.alloc (.cells #[.bool b1, .slice A1 n1 c1, .slice B1 m1 d1] 30) = w4 := ⟨_, rfl⟩
  rw [hw4] at S
  clear hb hq
  clear hP1
  go_wp2_with fail
  clear hw4 hx3
  refine (hR1.out _).mono ?_
  rintro e w5 ⟨b2, A2, n2, c2, B2, m2, d2, rfl, hq, hb⟩
  replace S := Lib.hid (((S.out.below hb).push (stab_ratF _ _ _) hq).alloc [.bool b2, .slice A2 n2 c2, .slice B2 m2 d2] 34 (by decide) noint3)
  generalize hx5 : w5.heap.size = x5 at S
  obtain ⟨w6, hw6⟩ : ∃ w6, w5.alloc (.cells #[.bool b2, .slice A2 n2 c2, .slice B2 m2 d2] 34) = w6 := ⟨_, rfl⟩
  rw [hw6] at S
  clear hb hq
  clear hR1
  have c1x0 := (S.out.at 1 rfl).cell (i := 0) rfl
  have c1x1 := (S.out.at 1 rfl).cell (i := 1) rfl
  have c1x2 := (S.out.at 1 rfl).cell (i := 2) rfl
  have c0x0 := (S.out.at 0 rfl).cell (i := 0) rfl
  have c0x1 := (S.out.at 0 rfl).cell (i := 1) rfl
  have c0x2 := (S.out.at 0 rfl).cell (i := 2) rfl
  go_wp2_with fail
  clear hw6 hx5
  refine (hIs.out _ _ _ S.out.low (S.out.fact 1 rfl) (S.out.fact 0 rfl)).mono ?_
  rintro e w7 ⟨rfl, hb⟩
  replace S := Lib.hid (S.out.below hb)
  clear hb hIs c1x0 c1x1 c1x2 c0x0 c0x1 c0x2
  have c0 := Blk.cell (S.out.fact 2 rfl) (i := 0) rfl
  have c1 := Blk.cell (S.out.fact 2 rfl) (i := 1) rfl
  have p0 : 0 ≤ (D0 : Int) := by omega
  have p1 : 0 ≤ (D1 : Int) := by omega
  go_wp2_with fail
  go_region
  go_wp2_with fail
  replace S := Lib.hid S.out.drew
  generalize w7.drew = w8 at S ⊢
  clear c0 c1 p0 p1 h0 h1 hN hM
  refine (hZ1.out _).mono ?_
  rintro e w9 ⟨rfl, hb⟩
  replace S := Lib.hid (S.out.below hb)
  clear hb hZ1
  have lz1 : (⟨(zer N).toArray⟩ : ByteArray).size = N := by show (zer N).toArray.size = N; simp [zer]
  have lz2 : (⟨(zer M).toArray⟩ : ByteArray).size = M := by show (zer M).toArray.size = M; simp [zer]
  have z1 : ¬ 9223372036854775807 < (1 : Nat) + (⟨(zer N).toArray⟩ : ByteArray).size := by omega
  have z2 : ¬ 9223372036854775807 < (1 : Nat) + (⟨(zer N).toArray⟩ : ByteArray).size + 2 := by omega
  have z3 : ¬ 9223372036854775807 < (1 : Nat) + (⟨(zer N).toArray⟩ : ByteArray).size + 2 + (⟨(zer M).toArray⟩ : ByteArray).size := by omega
  clear lz1 lz2 hNl hMl
  go_wp2_with fail
  refine (hZ2.out _).mono ?_
  rintro e w10 ⟨rfl, hb⟩
  replace S := Lib.hid (S.out.below hb)
  clear hb hZ2
  go_wp2_with fail
  refine (hLg.out _ _ S.out.low (by simp)).mono ?_
  rintro e w11 ⟨b3, A3, n3, c3, B3, m3, d3, rfl, hb⟩
  replace S := Lib.hid ((S.out.below hb).alloc [.bool b3, .slice A3 n3 c3, .slice B3 m3 d3] 30 (by decide) noint3)
  clear hb z1 z2 z3 hLg
  by_cases h1 : N < 1000
  · by_cases h2 : M < 1000
    · rw [if_pos (show N < 1000 ∧ M < 1000 from ⟨h1, h2⟩)]
      have h3 : (N : Int) < 1000 := by omega
      have h4 : (M : Int) < 1000 := by omega
      clear h1 h2
      go_wp2_with fail
      go_ret
      exact ⟨rfl, S.out.low⟩
    · rw [if_neg (show ¬ (N < 1000 ∧ M < 1000) from fun h => h2 h.2)]
      have h3 : (N : Int) < 1000 := by omega
      have h4 : decide ((M : Int) < 1000) = false := decide_eq_false (by omega)
      clear h1 h2
      go_wp2_with fail
      go_ret
      exact ⟨rfl, S.out.low⟩
  · rw [if_neg (show ¬ (N < 1000 ∧ M < 1000) from fun h => h1 h.1)]
    have h3 : decide ((N : Int) < 1000) = false := decide_eq_false (by omega)
    clear h1
    go_wp2_with fail
    go_ret
    exact ⟨rfl, S.out.low⟩
theorem lawParse {w : World} {s : ByteArray} {D0 D1 : Nat} (hV : Vars w) (hs : s.size ≤ 9223372036854775807) (h0 : D0 < 65536) (h1 : D1 < 65536) : Calls Tryz.prog 4 #[.string s, .agg #[.int .u16 (D0 : Int), .int .u16 (D1 : Int)]] w fun e w' => e = .returned (.bool true) ∧ Below w.heap.size w w' := by
  by_cases h : s.size ≤ 100
  · exact lawParse_small hV h h0 h1
  · exact lawParse_large hV (by omega) hs
end Go.Proofs.YthfjbpbgnoonpaaGreatDoor
