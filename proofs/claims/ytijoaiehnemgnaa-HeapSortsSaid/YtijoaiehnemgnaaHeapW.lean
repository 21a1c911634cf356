/- The walk of the law HeapSizes. -/
import Derived.Test.YtijoaiehnemgnaaHeapV
namespace Go.Proofs.Ytijoaiehnemgnaa
open Go.RowKit

theorem cnt_one (n j : Nat) (k : Int) (h : j < n) : cnt (mset (fun _ => none) j (some k)) n = 1 := by
  have := cnt_set (fun _ => none) j (some k) n h
  rw [cnt_nothing] at this
  simpa using this

set_option maxRecDepth 100000 in
set_option maxHeartbeats 2000000 in
theorem lawSizes_bad {w : World} (i n : Int) (hi : n = if 70000 < i then 70000 else i) (hn : n < 0 ∨ 65536 < n) : Calls Try.prog 6 #[.int .i64 i] w fun e w' => e = .returned (.bool true) ∧ Below w.heap.size w w' := by
  have hN := Lib.hid (fun W : World => new_bad (w := W) hn)
  by_cases h7 : 70000 < i
  · rw [if_pos h7] at hi
    subst hi
    clear hn
    go_enter Try.func6, Try.ntmps6
    go_wp2_with fail
    refine awake_any.mono ?_
    rintro e w1 ⟨rfl, hb⟩
    go_wp2_with fail
    refine (hN.out _).mono ?_
    rintro e w2 ⟨rfl, rfl⟩
    go_wp2_with fail
    go_ret
    exact ⟨rfl, hb⟩
  · rw [if_neg h7] at hi
    subst hi
    by_cases h0 : n < 0
    · clear hn
      go_enter Try.func6, Try.ntmps6
      go_wp2_with fail
      refine awake_any.mono ?_
      rintro e w1 ⟨rfl, hb⟩
      go_wp2_with fail
      refine (hN.out _).mono ?_
      rintro e w2 ⟨rfl, rfl⟩
      go_wp2_with fail
      go_ret
      exact ⟨rfl, hb⟩
    · have h1 : 65536 < n := by omega
      clear hn
      go_enter Try.func6, Try.ntmps6
      go_wp2_with fail
      refine awake_any.mono ?_
      rintro e w1 ⟨rfl, hb⟩
      go_wp2_with fail
      refine (hN.out _).mono ?_
      rintro e w2 ⟨rfl, rfl⟩
      go_wp2_with fail
      go_ret
      exact ⟨rfl, hb⟩
theorem setE_end (n : Nat) : setE n (n : Int) = 2 := by unfold setE; rw [if_neg (by omega)]
theorem setE_neg (n : Nat) : setE n (-1) = 2 := by unfold setE; rw [if_neg (by omega)]
theorem setM_end (M : Nat → Option Int) (n : Nat) (k : Int) : setM M n (n : Int) k = M := by unfold setM; rw [if_neg (by omega)]
theorem setM_neg (M : Nat → Option Int) (n : Nat) (k : Int) : setM M n (-1) k = M := by unfold setM; rw [if_neg (by omega)]
theorem remE_end (M : Nat → Option Int) (n : Nat) : remE M n (n : Int) = 2 := by unfold remE; rw [if_neg (by omega)]
theorem remM_end (M : Nat → Option Int) (n : Nat) : remM M n (n : Int) = M := by unfold remM; rw [if_neg (by omega)]

set_option maxRecDepth 100000 in
set_option maxHeartbeats 4000000 in
theorem lawSizes_good {w : World} (n : Nat) (hn : n ≤ 65536) : Calls Try.prog 6 #[.int .i64 (n : Nat)] w fun e w' => e = .returned (.bool true) ∧ Below w.heap.size w w' := by
  have hN := Lib.hid (fun W : World => new_any (w := W) hn)
  have h7 : ¬ (70000 < (n : Int)) := by omega
  have h7' : ¬ (70000 < n) := by omega
  have h0 : ¬ ((n : Int) < 0) := by omega
  have h1 : ¬ (65536 < (n : Int)) := by omega
  have h1' : ¬ (65536 < n) := by omega
  go_enter Try.func6, Try.ntmps6
  go_wp2_with fail
  refine awake_any.mono ?_
  rintro e w1 ⟨rfl, hb⟩
  go_wp2_with fail
  refine (hN.out _).mono ?_
  rintro e w2 hnew
  obtain ⟨h, P, rfl, hw, -, hH, -⟩ := new_hs hb hnew [] (fun k hk => by simp at hk)
  have HW := Lib.hid hw
  have H2 := Lib.hid hH
  clear hnew hw hH hN hb
  have HL := Lib.hid (len_hs H2.out)
  rw [cnt_nothing] at HL
  go_wp2_with fail
  refine HL.out.mono ?_
  rintro e w3 ⟨rfl, rfl⟩
  have HS1 := Lib.hid (set_hs (n : Int) 1 HW.out Oth.nil H2.out)
  rw [setE_end, setM_end] at HS1
  clear HL
  go_wp2_with fail
  refine HS1.out.mono ?_
  rintro e w4 ⟨rfl, hH, -⟩
  have H4 := Lib.hid hH
  have HS2 := Lib.hid (set_hs (-1) 1 HW.out Oth.nil hH)
  rw [setE_neg, setM_neg] at HS2
  clear hH HS1 H2
  go_wp2_with fail
  refine HS2.out.mono ?_
  rintro e w5 ⟨rfl, hH, -⟩
  have H5 := Lib.hid hH
  have HR1 := Lib.hid (remove_hs (n : Int) HW.out Oth.nil hH)
  rw [remE_end, remM_end] at HR1
  clear hH HS2 H4
  go_wp2_with fail
  refine HR1.out.mono ?_
  rintro e w6 ⟨rfl, hH, -⟩
  have H6 := Lib.hid hH
  clear HR1 H5 hH
  by_cases hz : n = 0
  · subst hz
    go_wp2_with fail
    go_ret
    obtain ⟨_, _, _, _, hb⟩ := H6.out
    exact ⟨rfl, hb⟩
  · have hz' : ((n : Int) == 0) = false := beq_eq_false_iff_ne.2 (by omega)
    have hw1 : IntKind.i64.wrap ((n : Int) - 1) = ((n - 1 : Nat) : Int) := by rw [show (n : Int) - 1 = ((n - 1 : Nat) : Int) by omega]; exact IntWalk.i64_in _ (by omega)
    have HR2 := Lib.hid (remove_hs (((n - 1 : Nat) : Int)) HW.out Oth.nil H6.out)
    have e1 : remE (fun _ => none) n ((n - 1 : Nat) : Int) = 8 := by unfold remE; rw [if_pos ⟨by omega, by omega⟩]; rfl
    have e2 : remM (fun _ => none) n ((n - 1 : Nat) : Int) = fun _ => none := by unfold remM; rw [if_pos ⟨by omega, by omega⟩]; exact mset_same rfl
    rw [e1, e2] at HR2
    clear e1 e2
    go_wp2_with fail
    refine HR2.out.mono ?_
    rintro e w7 ⟨rfl, hH, -⟩
    have HS3 := Lib.hid (set_hs (((n - 1 : Nat) : Int)) 7 HW.out Oth.nil hH)
    have e1 : setE n ((n - 1 : Nat) : Int) = 0 := by unfold setE; rw [if_pos ⟨by omega, by omega⟩]
    have e2 : setM (fun _ => none) n ((n - 1 : Nat) : Int) 7 = mset (fun _ => none) (n - 1) (some 7) := by unfold setM; rw [if_pos ⟨by omega, by omega⟩, Int.toNat_natCast]
    rw [e1, e2] at HS3
    clear e1 e2 hH HR2 H6
    go_wp2_with fail
    refine HS3.out.mono ?_
    rintro e w8 ⟨rfl, hH, -⟩
    have HL := Lib.hid (len_hs hH)
    rw [cnt_one n (n - 1) 7 (by omega)] at HL
    have H8 := Lib.hid hH
    clear hH HS3
    go_wp2_with fail
    refine HL.out.mono ?_
    rintro e w9 ⟨rfl, rfl⟩
    go_wp2_with fail
    go_ret
    obtain ⟨_, _, _, _, hb⟩ := H8.out
    exact ⟨rfl, hb⟩
theorem lawSizes (i : Int) {w : World} : Calls Try.prog 6 #[.int .i64 i] w fun e w' => e = .returned (.bool true) ∧ Below w.heap.size w w' := by
  by_cases h : 0 ≤ i ∧ i ≤ 65536
  · obtain ⟨n, rfl⟩ := Int.eq_ofNat_of_zero_le h.1
    exact lawSizes_good n (by omega)
  · exact lawSizes_bad i _ rfl (by split <;> omega)
end Go.Proofs.Ytijoaiehnemgnaa
