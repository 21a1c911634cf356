/- Contracts of package rational: Num, Den, Sign. -/
import Derived.Test.YthfjbpbgnoonpaaGreatDoorRN
import Derived.Test.YthfjbpbgnoonpaaGreatDoorRatM
import Derived.Deep.RegionHeld3
namespace Go.Proofs.YthfjbpbgnoonpaaGreatDoor
open Go.RowKit

/-- A value of package rational that stands for q, with a bound on its parts. -/
def RatP (W : World) (v : Value) (q : Rat) (a : Nat) : Prop := ∃ A n c A2 n2 c2 d, v = .agg #[.bool (decide (q.num < 0)), .slice A n c, .slice A2 n2 c2] ∧ NatB W (.agg #[.slice A n c]) q.num.natAbs a ∧ NatB W (.agg #[.slice A2 n2 c2]) d a ∧ (d = q.den ∨ (d = 0 ∧ q.den = 1)) ∧ q.den < 4294967296 ^ a
theorem RatP.below {W W' : World} {v : Value} {q : Rat} {a : Nat} (h : RatP W v q a) (hb : Below W.heap.size W W') : RatP W' v q a := by
  obtain ⟨A, n, c, A2, n2, c2, d, rfl, h1, h2, h3⟩ := h
  exact ⟨A, n, c, A2, n2, c2, d, rfl, h1.below hb, h2.below hb, h3⟩
theorem RatP.drew {W : World} {v : Value} {q : Rat} {a : Nat} (h : RatP W v q a) : RatP W.drew v q a := h
theorem stab_ratP (v : Value) (q : Rat) (a : Nat) : Stab (fun W => RatP W v q a) :=
  stab_ex fun _ => stab_ex fun _ => stab_ex fun _ => stab_ex fun _ => stab_ex fun _ => stab_ex fun _ => stab_ex fun _ => stab_and stab_true (stab_and (stab_natB _ _ _) (stab_and (stab_natB _ _ _) stab_true))
theorem RatP.more {W : World} {v : Value} {q : Rat} {a b : Nat} (h : RatP W v q a) (hab : a ≤ b) : RatP W v q b := by
  obtain ⟨A, n, c, A2, n2, c2, d, rfl, h1, h2, h3, h4⟩ := h
  exact ⟨A, n, c, A2, n2, c2, d, rfl, h1.more hab, h2.more hab, h3, Nat.lt_of_lt_of_le h4 (Nat.pow_le_pow_right (by omega) hab)⟩
theorem RatP.shape {W : World} {v : Value} {q : Rat} {a : Nat} (h : RatP W v q a) : ∃ A n c A2 n2 c2, v = .agg #[.bool (decide (q.num < 0)), .slice A n c, .slice A2 n2 c2] := by
  obtain ⟨A, n, c, A2, n2, c2, d, rfl, h1, h2, h3, h4⟩ := h
  exact ⟨A, n, c, A2, n2, c2, rfl⟩
theorem RatP.num {W : World} {q : Rat} {a : Nat} {b : Bool} {A A2 : Option Addr} {n c n2 c2 : Nat} (h : RatP W (.agg #[.bool b, .slice A n c, .slice A2 n2 c2]) q a) : NatB W (.agg #[.slice A n c]) q.num.natAbs a := by
  obtain ⟨A, n, c, A2, n2, c2, d, e, h1, h2, h3, h4⟩ := h
  injection e with e
  simp only [List.toArray_inj, List.cons.injEq, Array.mk.injEq, and_true, Value.slice.injEq] at e
  obtain ⟨-, ⟨rfl, rfl, rfl⟩, -⟩ := e
  exact h1
theorem a_pos {q : Rat} {a : Nat} (h : q.den < 4294967296 ^ a) : 1 ≤ a := by
  rcases Nat.eq_zero_or_pos a with rfl | h0
  · have := q.den_pos; simp at h; omega
  · exact h0
theorem one_lt {a : Nat} (h : 1 ≤ a) : 1 < 4294967296 ^ a := Nat.lt_of_lt_of_le (by omega : 1 < 4294967296 ^ 1) (Nat.pow_le_pow_right (by omega) h)

set_option maxRecDepth 100000 in
set_option maxHeartbeats 2000000 in
theorem num_any {w : World} {v : Value} {q : Rat} {a : Nat} (h : RatP w v q a) : Calls Tryz.prog 16 #[v] w (OpN w q.num.natAbs a) := by
  obtain ⟨A, n, c, A2, n2, c2, d, rfl, h1, h2, h3, h4⟩ := h
  clear h3 h4
  go_enter Tryz.func16, Tryz.ntmps16
  go_wp2_with fail
  refine bodyPost_ret (v := .agg #[.slice A n c]) (by simp [results, Tryz.results16, go_sem]) rfl ?_
  have hb : Below w.heap.size w ((w.alloc (Obj.cells #[Value.bool (decide (q.num < 0)), Value.slice A n c, Value.slice A2 n2 c2] 30)).alloc (Obj.cells #[Value.slice A n c] 28)) := ((Below.refl _ _).alloc (Nat.le_refl _) _).alloc (by simp) _
  exact ⟨A, n, c, rfl, h1.below hb, hb⟩
set_option maxRecDepth 100000 in
set_option maxHeartbeats 2000000 in
theorem den_any {w : World} {v : Value} {q : Rat} {a : Nat} (h : RatP w v q a) (ha : a ≤ 400) : Calls Tryz.prog 17 #[v] w (OpN w q.den a) := by
  obtain ⟨A, n, c, A2, n2, c2, d, rfl, h1, h2, h3, h4⟩ := h
  obtain ⟨w1, hw1, S⟩ := enter2 w [.bool (decide (q.num < 0)), .slice A n c, .slice A2 n2 c2] 30 [.slice none 0 0] 28 (by decide) noint3 (by decide) noint1
  have hd := h2.below S.out.low
  have ha1 := a_pos h4
  rcases Nat.eq_zero_or_pos d with h0 | h0
  · have e1 : q.den = 1 := by rcases h3 with h3 | h3; (exact absurd q.den_pos (by omega)); exact h3.2
    have hz := Lib.hid (zeroN_yes hd ha h0)
    have h1 := Lib.hid (fun W => ofN (W := W) 1 (k := 1) rfl (by omega))
    rw [e1]
    have hlt := Lib.hid (one_lt ha1)
    have c0 := (S.out.at 1 rfl).cell (i := 2) rfl
    clear e1 h0 h4 h3 h2 hd
    go_enter Tryz.func17, Tryz.ntmps17
    go_wp2_with fail
    refine hz.out.mono ?_
    rintro e w2 ⟨rfl, hb⟩
    replace S := Lib.hid (S.out.below hb)
    clear hw1 hb
    go_wp2_with fail
    refine (h1.out _).mono ?_
    rintro e w3 ⟨A3, n3, c3, rfl, hn, hb⟩
    replace S := Lib.hid ((S.out.below hb).push (stab_natB _ _ _) hn)
    have c1 := (S.out.at 0 rfl).cell (i := 0) rfl
    have f1 := (S.out.at 0 rfl).frozen (i := 0)
    clear hn hb
    go_wp2_with fail
    replace S := S.out.set 0 rfl (i := 0) (u := .slice A3 n3 c3) (by simp) noint_slice rfl
    have c2 := (S.at 0 rfl).cell (i := 0) rfl
    refine bodyPost_ret (v := .agg #[.slice A3 n3 c3]) (by simp [results, Tryz.results17, go_sem, c2]) rfl ?_
    exact ⟨A3, n3, c3, rfl, ⟨(S.fact 0 rfl).1, hlt.out⟩, S.low⟩
  · obtain rfl : d = q.den := by rcases h3 with h3 | h3; exact h3; omega
    have hz := Lib.hid (zeroN_no hd ha h0)
    have c0 := (S.out.at 1 rfl).cell (i := 2) rfl
    clear h0 h4 h3 ha1 hd
    go_enter Tryz.func17, Tryz.ntmps17
    go_wp2_with fail
    refine hz.out.mono ?_
    rintro e w2 ⟨rfl, hb⟩
    replace S := Lib.hid (S.out.below hb)
    have c0 := (S.out.at 1 rfl).cell (i := 2) rfl
    have c1 := (S.out.at 0 rfl).cell (i := 0) rfl
    have f1 := (S.out.at 0 rfl).frozen (i := 0)
    clear hw1 hb
    go_wp2_with fail
    replace S := S.out.set 0 rfl (i := 0) (u := .slice A2 n2 c2) (by simp) noint_slice rfl
    have c2' := (S.at 0 rfl).cell (i := 0) rfl
    refine bodyPost_ret (v := .agg #[.slice A2 n2 c2]) (by simp [results, Tryz.results17, go_sem, c2']) rfl ?_
    exact ⟨A2, n2, c2, rfl, h2.below S.low, S.low⟩
end Go.Proofs.YthfjbpbgnoonpaaGreatDoor
