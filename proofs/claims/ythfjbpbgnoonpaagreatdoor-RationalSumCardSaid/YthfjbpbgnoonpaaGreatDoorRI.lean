/- Contracts of package rational: Text, firstError, Parse. -/
import Derived.Test.YthfjbpbgnoonpaaGreatDoorRH
import Derived.Lib.SmallJoins
namespace Go.Proofs.YthfjbpbgnoonpaaGreatDoor
open Go.RowKit

/-- What the library's variables hold. -/
structure Vars (w : World) : Prop where
  tab : Tab w
  len : ∃ m, w.cell? ⟨1, 0, none⟩ = some (.int .i64 m)
theorem cell_lt {w : World} {p : Addr} {v : Value} (h : w.cell? p = some v) : p.block < w.heap.size := by
  rcases Nat.lt_or_ge p.block w.heap.size with hlt | hge
  · exact hlt
  · unfold World.cell? at h
    simp [Array.getElem?_eq_none hge] at h
theorem Vars.below {w w' : World} (h : Vars w) (hb : Below w.heap.size w w') : Vars w' := by
  obtain ⟨h1, ⟨m, h2⟩⟩ := h
  exact ⟨h1.below hb, ⟨m, (hb.cell (cell_lt h2)).trans h2⟩⟩
theorem cut_any (s : ByteArray) (w : World) (hs : s.size < 4294967281) (hV : Vars w) : Calls Tryz.prog 66 #[.string s, .string ⟨#[47]⟩] w fun e w' =>
    e = .returned (.tuple #[.string ⟨(Lib.cut s.data.toList [47]).1.toArray⟩, .string ⟨(Lib.cut s.data.toList [47]).2.1.toArray⟩, .bool (Lib.cut s.data.toList [47]).2.2]) ∧ Below w.heap.size w w' := by
  obtain ⟨m, hm⟩ := hV.len
  refine (Tryz.strings_Cut s ⟨#[47]⟩ m w hs hm).mono ?_
  rintro e w' ⟨rfl, n, rfl⟩
  exact ⟨rfl, Joins.below_draws _ _ _⟩
theorem dec_lenB {k a : Nat} (h : k < 4294967296 ^ a) : (dec k).length ≤ 10 * a + 1 := by
  have h1 : (4294967296 : Nat) ^ a ≤ (10 ^ 10) ^ a := Nat.pow_le_pow_left (by decide) a
  rw [← Nat.pow_mul] at h1
  have h2 : (10 : Nat) ^ (10 * a) ≤ 10 ^ (10 * a + 1) := Nat.pow_le_pow_right (by omega) (by omega)
  exact (dec_len k (10 * a + 1) (by omega) (by omega)).1
theorem dec_one : dec 1 = [49] := dec_small 1 (by omega)
theorem dec_is_one {k : Nat} (h : dec k = [49]) : k = 1 := by
  have := numL_dec k
  rw [h] at this
  exact this.symm
/-- The text of a fraction. -/
def txtB (x : Bool) (k d : Nat) : List UInt8 := (if x then [45] else []) ++ dec k ++ (if d = 1 then [] else 47 :: dec d)
def txtQ (q : Rat) : List UInt8 := txtB (decide (q.num < 0)) q.num.natAbs q.den
theorem bytes_ext {a b : ByteArray} (h : a.data.toList = b.data.toList) : a = b := by
  cases a; cases b; simp only [ByteArray.mk.injEq]; exact Array.ext' h

set_option maxRecDepth 100000 in
set_option maxHeartbeats 4000000 in
theorem text_any {w : World} {v : Value} {q : Rat} {a : Nat} (hT : Tab w) (h : RatP w v q a) (ha : a ≤ 400) : Calls Tryz.prog 21 #[v] w fun e w' => e = .returned (str (txtQ q)) ∧ Below w.heap.size w w' := by
  obtain ⟨b1, b2⟩ := h.bounds
  have l1 := dec_lenB b1
  have l2 := dec_lenB b2
  obtain ⟨A, n, c, A2, n2, c2, rfl⟩ := h.shape
  obtain ⟨w1, hw1, S⟩ := enter1 w [.bool (decide (q.num < 0)), .slice A n c, .slice A2 n2 c2] 30 (by decide) noint3
  have hN := Lib.hid (textN (hT.below S.out.low) (h.num.below S.out.low) ha)
  have hD := Lib.hid (fun W (hw : Below w.heap.size w W) => den_any (h.below hw) ha)
  have hX := Lib.hid (fun W v (hw : Below w.heap.size w W) (h : NatB W v q.den a) => textN (hT.below hw) h ha)
  have hd1 : q.den = 1 → dec q.den = [49] := fun h => by rw [h]; exact dec_one
  have hd2 : q.den ≠ 1 → dec q.den ≠ [49] := fun h h2 => h (dec_is_one h2)
  unfold str txtQ at *
  clear h hT b1 b2
  generalize decide (q.num < 0) = x at S hw1 hD ⊢
  generalize q.num.natAbs = k at *
  generalize q.den = d at *
  unfold txtB
  have z1 : ¬ 9223372036854775807 < (1 : Nat) + (⟨(dec k).toArray⟩ : ByteArray).size := by simp [ByteArray.size]; omega
  have z2 : ¬ 9223372036854775807 < (1 : Nat) + (⟨(dec d).toArray⟩ : ByteArray).size := by simp [ByteArray.size]; omega
  have z3 : ¬ 9223372036854775807 < (⟨(dec k).toArray⟩ : ByteArray).size + (1 + (⟨(dec d).toArray⟩ : ByteArray).size) := by simp [ByteArray.size]; omega
  have z4 : ¬ 9223372036854775807 < (1 : Nat) + (⟨(dec k).toArray⟩ : ByteArray).size + (1 + (⟨(dec d).toArray⟩ : ByteArray).size) := by simp [ByteArray.size]; omega
  clear l1 l2
  by_cases hd : d = 1
  · have hs := hd1 hd
    rw [if_pos hd]
    clear hd1 hd2 hd
    rw [hs] at hX
    clear hs z2 z3 z4
    cases x
    all_goals
      have c0x0 := (S.out.at 0 rfl).cell (i := 0) rfl
      have c0x1 := (S.out.at 0 rfl).cell (i := 1) rfl
      have c0x2 := (S.out.at 0 rfl).cell (i := 2) rfl
      go_enter Tryz.func21, Tryz.ntmps21
      go_wp2_with fail
      refine hN.out.mono ?_
      rintro e w2 ⟨rfl, hb⟩
      replace S := Lib.hid (S.out.below hb)
      clear hb hw1 hN c0x0 c0x1 c0x2
      have c0x0 := (S.out.at 0 rfl).cell (i := 0) rfl
      have c0x1 := (S.out.at 0 rfl).cell (i := 1) rfl
      have c0x2 := (S.out.at 0 rfl).cell (i := 2) rfl
      go_wp2_with fail
      refine (hD.out _ S.out.low).mono ?_
      rintro e w3 ⟨A3, n3, c3, rfl, hx, hb⟩
      replace S := Lib.hid (S.out.below hb)
      go_wp2_with fail
      refine (hX.out _ _ S.out.low hx).mono ?_
      rintro e w4 ⟨rfl, hb⟩
      replace S := Lib.hid (S.out.below hb)
      go_wp2_with fail
      go_ret
      refine ⟨?_, S.out.low⟩
      congr 2
      try exact bytes_ext (by simp)
  · have hs := hd2 hd
    rw [if_neg hd]
    clear hd1 hd2 hd
    have hq : ((dec d) == [49]) = false := by simpa using hs
    clear hs
    cases x
    all_goals
      have c0x0 := (S.out.at 0 rfl).cell (i := 0) rfl
      have c0x1 := (S.out.at 0 rfl).cell (i := 1) rfl
      have c0x2 := (S.out.at 0 rfl).cell (i := 2) rfl
      go_enter Tryz.func21, Tryz.ntmps21
      go_wp2_with fail
      refine hN.out.mono ?_
      rintro e w2 ⟨rfl, hb⟩
      replace S := Lib.hid (S.out.below hb)
      clear hb hw1 hN c0x0 c0x1 c0x2
      have c0x0 := (S.out.at 0 rfl).cell (i := 0) rfl
      have c0x1 := (S.out.at 0 rfl).cell (i := 1) rfl
      have c0x2 := (S.out.at 0 rfl).cell (i := 2) rfl
      go_wp2_with fail
      refine (hD.out _ S.out.low).mono ?_
      rintro e w3 ⟨A3, n3, c3, rfl, hx, hb⟩
      replace S := Lib.hid (S.out.below hb)
      go_wp2_with fail
      refine (hX.out _ _ S.out.low hx).mono ?_
      rintro e w4 ⟨rfl, hb⟩
      replace S := Lib.hid (S.out.below hb)
      go_wp2_with fail
      go_ret
      refine ⟨?_, S.out.low⟩
      congr 2
      try exact bytes_ext (by simp)
end Go.Proofs.YthfjbpbgnoonpaaGreatDoor
