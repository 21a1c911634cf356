/- Contracts of package heap: Len, Key, Pop, Remove, Set, New. -/
import Derived.Test.YtijoaiehnemgnaaHeapE
namespace Go.Proofs.Ytijoaiehnemgnaa
open Go.RowKit

section
variable {w : World} {h E P n : Nat} {M : Nat → Option Int}
set_option maxRecDepth 100000 in
theorem has_any (i : Int) (hH : IsH w h E P n M) :
    Calls Try.prog 21 #[.pointer (some ⟨h, 0, none⟩), .int .i64 i] w fun e w' => e = .returned (.bool (decide (0 ≤ i) && decide (i < (n : Int)))) ∧ w' = w := by
  obtain ⟨A, c, L, a, pl, hB, -⟩ := hH
  have c1 := hB.cell1
  clear hB
  by_cases h0 : 0 ≤ i
  · have h0' : decide (0 ≤ i) = true := decide_eq_true h0
    rw [h0', Bool.true_and]
    go_enter Try.func21, Try.ntmps21
    go_wp2
    try go_ret
    exact ⟨rfl, rfl⟩
  · have h0' : decide (0 ≤ i) = false := decide_eq_false h0
    rw [h0', Bool.false_and]
    go_enter Try.func21, Try.ntmps21
    go_wp2
    try go_ret
    exact ⟨rfl, rfl⟩
set_option maxRecDepth 100000 in
theorem len_any (hH : IsH w h E P n M) :
    Calls Try.prog 19 #[.pointer (some ⟨h, 0, none⟩)] w fun e w' => e = .returned (.int .i64 (cnt M n : Nat)) ∧ w' = w := by
  obtain ⟨A, c, L, a, pl, hB, -, -, -, -, -, hL, -⟩ := hH
  rw [← hL]
  have c0 := hB.cell0
  clear hB hL
  go_enter Try.func19, Try.ntmps19
  go_wp2
  try go_ret
  exact ⟨rfl, rfl⟩
end

/-- What Key returns. -/
def keyOf (M : Nat → Option Int) (n : Nat) (i : Int) : Option Int := if 0 ≤ i ∧ i < (n : Int) then M i.toNat else none
def keyEnd (o : Option Int) : Ending := match o with
  | some k => .returned (.tuple #[.int .i64 k, .bool true])
  | none => .returned (.tuple #[.int .i64 0, .bool false])

set_option maxRecDepth 100000 in
set_option maxHeartbeats 4000000 in
theorem key_any {w : World} {h E P n : Nat} {M : Nat → Option Int} (i : Int) (hH : IsH w h E P n M) :
    Calls Try.prog 17 #[.pointer (some ⟨h, 0, none⟩), .int .i64 i] w fun e w' => e = keyEnd (keyOf M n i) ∧ Below w.heap.size w w' := by
  have hHas := Lib.hid (has_any i hH)
  obtain ⟨A, c, L, a, pl, hB, hP, hne, hO, hHo, hPl, hL, hn, hA⟩ := hH
  have c0 := hB.cell0
  have c1 := hB.cell1
  unfold keyOf
  by_cases hi : 0 ≤ i ∧ i < (n : Int)
  · rw [if_pos hi]
    obtain ⟨j, rfl⟩ := Int.eq_ofNat_of_zero_le hi.1
    have hj : j < n := by omega
    rw [Int.toNat_natCast]
    have hd : (decide (0 ≤ (j : Int)) && decide ((j : Int) < (n : Int))) = true := by simp; omega
    rw [hd] at hHas
    have p0 := hP.cell j hj
    have hz0 : (0 : Int) ≤ (j : Int) := by omega
    have hz1 : (j : Int) < (n : Int) := by omega
    cases hM : M j with
    | none =>
      have hpj : pl j = -1 := hPl.2 j hM
      rw [hpj] at p0
      unfold keyEnd
      clear hi hd hM hpj hB hP hO hHo hPl hL hA
      go_enter Try.func17, Try.ntmps17
      go_wp2_with fail
      refine hHas.out.mono ?_
      rintro e w1 ⟨rfl, rfl⟩
      go_wp2_with fail
      exact bodyPost_ret (v := .tuple #[.int .i64 0, .bool false]) (by simp [results, Try.results17, go_sem]) rfl ⟨rfl, Below.refl _ _⟩
    | some k =>
      obtain ⟨p, hp, hap⟩ := hHo.2.1 j k hM
      have hpj : pl j = (p : Int) := by have := hPl.1 p hp (by omega); rwa [hap] at this
      rw [hpj] at p0
      rcases hA with ⟨-, h0, -⟩ | ⟨rfl, hE, -, -, hLc, -⟩
      · omega
      have e1 := hE.cell1 hLc p hp
      rw [hap] at e1
      have hz2 : (0 : Int) ≤ (p : Int) := by omega
      have hz3 : (p : Int) < (L : Int) := by omega
      have hpn : ((p : Int) == -1) = false := beq_eq_false_iff_ne.2 (by omega)
      unfold keyEnd
      clear hi hd hM hpj hB hP hO hHo hPl hL hap hE
      go_enter Try.func17, Try.ntmps17
      go_wp2_with fail
      refine hHas.out.mono ?_
      rintro e w1 ⟨rfl, rfl⟩
      go_wp2_with fail
      go_region_held3 (fun W' => W'.cell? ⟨h, 0, none⟩ = some (.slice (some ⟨E, 0, none⟩) L c) ∧ W'.cell? ⟨h, 1, none⟩ = some (.slice (some ⟨P, 0, none⟩) n n) ∧ W'.cell? ⟨P, j, none⟩ = some (.int .i64 (p : Nat)) ∧ W'.cell? ⟨E, p * 2 + 1, none⟩ = some (.int .i64 k))
        (first | exact ⟨c0, c1, p0, e1⟩ | go_keep) (fail)
      go_wp2
      exact bodyPost_ret (v := .tuple #[.int .i64 k, .bool true]) (by simp [results, Try.results17, go_sem]) rfl ⟨rfl, (Below.refl _ _).drew⟩
  · rw [if_neg hi]
    have hd : (decide (0 ≤ i) && decide (i < (n : Int))) = false := by
      by_cases h0 : 0 ≤ i
      · rw [decide_eq_true h0, decide_eq_false (fun h => hi ⟨h0, h⟩)]; rfl
      · rw [decide_eq_false h0]; rfl
    rw [hd] at hHas
    unfold keyEnd
    clear hi hd hB hP hO hHo hPl hL hA
    go_enter Try.func17, Try.ntmps17
    go_wp2_with fail
    refine hHas.out.mono ?_
    rintro e w1 ⟨rfl, rfl⟩
    go_wp2_with fail
    exact bodyPost_ret (v := .tuple #[.int .i64 0, .bool false]) (by simp [results, Try.results17, go_sem]) rfl ⟨rfl, Below.refl _ _⟩
end Go.Proofs.Ytijoaiehnemgnaa
