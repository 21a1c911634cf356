/- Contracts of package heap: Pop, Remove, Set, New. -/
import Derived.Test.YtijoaiehnemgnaaHeapF
namespace Go.Proofs.Ytijoaiehnemgnaa
open Go.RowKit

/-- Item i with key k is the first one. -/
def First (M : Nat → Option Int) (i : Nat) (k : Int) : Prop := M i = some k ∧ ∀ j l, M j = some l → k < l ∨ (k = l ∧ i ≤ j)
theorem first_of {a : Nat → En} {L n : Nat} {M : Nat → Option Int} (hL : 0 < L) (hO : Ordered a L) (hH : Holds a L n M) : First M (a 0).1 (a 0).2 := by
  refine ⟨(hH.1 0 hL).2, fun j l hM => ?_⟩
  obtain ⟨p, hp, he⟩ := hH.2.1 j l hM
  have h1 := ordered_first hO p hp
  rw [he] at h1
  unfold Lt at h1
  omega
def PopPost (w : World) (h E P n : Nat) (M : Nat → Option Int) (e : Ending) (w' : World) : Prop :=
  (cnt M n = 0 ∧ e = .returned (.tuple #[.int .i64 0, .int .i64 0, .bool false]) ∧ HOut w h E P n M w') ∨
  ∃ (i : Nat) (k : Int), i < n ∧ First M i k ∧ e = .returned (.tuple #[.int .i64 (i : Nat), .int .i64 k, .bool true]) ∧ HOut w h E P n (mset M i none) w'
theorem hout_below {w w' : World} {h E P n : Nat} {M : Nat → Option Int} (hH : IsH w h E P n M) (hb : Below w.heap.size w w') : HOut w h E P n M w' := ⟨E, hH.below hb, .inl rfl, fr_below hb⟩
theorem HOut.after {w w1 w' : World} {h E P n : Nat} {M' : Nat → Option Int} (hb : Below w.heap.size w w1) (ho : HOut w1 h E P n M' w') : HOut w h E P n M' w' := by
  obtain ⟨E', k1, k2, k3⟩ := ho
  exact ⟨E', k1, k2.imp id (fun h => Nat.le_trans hb.size h), (fr_below hb).trans k3⟩
theorem HOut.drew {w w' : World} {h E P n : Nat} {M' : Nat → Option Int} (ho : HOut w h E P n M' w') : HOut w h E P n M' w'.drew := ho

set_option maxRecDepth 100000 in
set_option maxHeartbeats 4000000 in
theorem pop_any {w : World} {h E P n : Nat} {M : Nat → Option Int} (hH : IsH w h E P n M) :
    Calls Try.prog 13 #[.pointer (some ⟨h, 0, none⟩)] w (PopPost w h E P n M) := by
  have hLen := Lib.hid (len_any hH)
  by_cases h0 : cnt M n = 0
  · rw [h0] at hLen
    have HH := Lib.hid hH
    clear hH
    go_enter Try.func13, Try.ntmps13
    go_wp2_with fail
    refine hLen.out.mono ?_
    rintro e w1 ⟨rfl, rfl⟩
    go_wp2_with fail
    exact bodyPost_ret (v := .tuple #[.int .i64 0, .int .i64 0, .bool false]) (by simp [results, Try.results13, go_sem]) rfl (.inl ⟨h0, rfl, hout_below HH.out (Below.refl _ _)⟩)
  · have h0' : ((cnt M n : Int) == 0) = false := beq_eq_false_iff_ne.2 (by omega)
    have HH := Lib.hid hH
    obtain ⟨A, c, L, a, pl, hB, hP, hne, hO, hHo, hPl, hL, hn, hA⟩ := hH
    rcases hA with ⟨-, h1, -⟩ | ⟨rfl, hE, n1, n3, hLc, hcm⟩
    · omega
    obtain ⟨K, rfl⟩ : ∃ K, L = K + 1 := ⟨L - 1, by omega⟩
    have hcl := cnt_le M n
    have e0 := hE.cell0 hLc 0 (by omega)
    have e1 := hE.cell1 hLc 0 (by omega)
    have c0 := hB.cell0
    have hF := first_of (by omega) hO hHo
    have hi0 := (hHo.1 0 (by omega)).1
    rw [Nat.zero_mul] at e0 e1
    obtain ⟨w1, hw1⟩ : ∃ w1, w.alloc (.cells #[.int .i64 ((a 0).1 : Nat), .int .i64 (a 0).2] 54) = w1 := ⟨_, rfl⟩
    have b1 : Below w.heap.size w w1 := by rw [← hw1]; exact (Below.refl _ w).alloc (Nat.le_refl _) _
    have kX : boxE w1 w.heap.size (a 0) := by rw [← hw1]; exact heap_alloc_new w _
    have HT := Lib.hid (take_any (w := w1) (p := 0) ⟨n1, hne, n3, hLc, by omega⟩ hcm (by omega) hO hHo hPl hn hL (hB.keep (b1.block h hB.lt)) (hE.keep (b1.block E hE.lt)) (Plc.keep hP (b1.block P (Row.lt hP))))
    have hlh := hB.lt
    have hlE := hE.lt
    have hlP := Row.lt hP
    have hz : (0 : Int) < (K : Int) + 1 := by omega
    have hz1 : (0 : Int) < ((K + 1 : Nat) : Int) := by omega
    generalize a 0 = x at *
    obtain ⟨i, k⟩ := x
    dsimp only at *
    clear hB hP hO hHo hPl hL hE hn
    go_enter Try.func13, Try.ntmps13
    go_wp2_with fail
    refine hLen.out.mono ?_
    rintro e w1' ⟨rfl, rfl⟩
    go_wp2_with fail
    refine HT.out.mono ?_
    rintro e w2 ⟨⟨v, rfl⟩, ho⟩
    have kX2 : boxE w2 w1'.heap.size (i, k) := by
      obtain ⟨E', _, _, hf⟩ := ho
      exact (hf.2.2.2.2 _ kX.lt (by omega) (by omega) (by omega)).trans kX
    have x0 := kX2.cell0
    have x1 := kX2.cell1
    have HO := Lib.hid (ho.after b1)
    clear ho kX2
    go_wp2_with fail
    go_region_held3 (fun W' => W'.cell? ⟨w1'.heap.size, 0, none⟩ = some (.int .i64 (i : Nat)) ∧ W'.cell? ⟨w1'.heap.size, 1, none⟩ = some (.int .i64 k))
      (first | exact ⟨x0, x1⟩ | go_keep) (fail)
    go_wp2_with fail
    exact bodyPost_ret (v := .tuple #[.int .i64 (i : Nat), .int .i64 k, .bool true]) (by simp [results, Try.results13, go_sem]) rfl (.inr ⟨i, k, hi0, hF, rfl, HO.out.drew⟩)

set_option maxRecDepth 100000 in
set_option maxHeartbeats 4000000 in
theorem remove_any {w : World} {h E P n : Nat} {M : Nat → Option Int} (i : Int) (hH : IsH w h E P n M) :
    Calls Try.prog 15 #[.pointer (some ⟨h, 0, none⟩), .int .i64 i] w fun e w' =>
      (¬ (0 ≤ i ∧ i < (n : Int)) ∧ e = .returned (.int .i64 2) ∧ HOut w h E P n M w') ∨ (∃ j : Nat, i = (j : Int) ∧ j < n ∧ ((M j = none ∧ e = .returned (.int .i64 8) ∧ HOut w h E P n M w') ∨ (∃ k, M j = some k ∧ e = .returned (.int .i64 0) ∧ HOut w h E P n (mset M j none) w'))) := by
  have hHas := Lib.hid (has_any i hH)
  have HH := Lib.hid hH
  obtain ⟨A, c, L, a, pl, hB, hP, hne, hO, hHo, hPl, hL, hn, hA⟩ := hH
  have c0 := hB.cell0
  have c1 := hB.cell1
  by_cases hi : 0 ≤ i ∧ i < (n : Int)
  · obtain ⟨j, rfl⟩ := Int.eq_ofNat_of_zero_le hi.1
    have hj : j < n := by omega
    have hd : (decide (0 ≤ (j : Int)) && decide ((j : Int) < (n : Int))) = true := by simp; omega
    rw [hd] at hHas
    have p0 := hP.cell j hj
    have hz0 : (0 : Int) ≤ (j : Int) := by omega
    have hz1 : (j : Int) < (n : Int) := by omega
    cases hM : M j with
    | none =>
      have hpj : pl j = -1 := hPl.2 j hM
      rw [hpj] at p0
      have hM' := Lib.hid hM
      clear hi hd hM hpj hB hP hO hHo hPl hL hA
      go_enter Try.func15, Try.ntmps15
      go_wp2_with fail
      refine hHas.out.mono ?_
      rintro e w1 ⟨rfl, rfl⟩
      go_wp2_with fail
      go_ret
      exact .inr ⟨j, rfl, hj, .inl ⟨hM'.out, rfl, hout_below HH.out (Below.refl _ _)⟩⟩
    | some k =>
      obtain ⟨p, hp, hap⟩ := hHo.2.1 j k hM
      have hpj : pl j = (p : Int) := by have := hPl.1 p hp (by omega); rwa [hap] at this
      rw [hpj] at p0
      rcases hA with ⟨-, h0, -⟩ | ⟨rfl, hE, n1, n3, hLc, hcm⟩
      · omega
      obtain ⟨K, rfl⟩ : ∃ K, L = K + 1 := ⟨L - 1, by omega⟩
      have hcl := cnt_le M n
      have HT := Lib.hid (take_any (p := p) ⟨n1, hne, n3, hLc, by omega⟩ hcm hp hO hHo hPl hn hL hB hE hP)
      rw [hap] at HT
      have hz2 : (0 : Int) ≤ (p : Int) := by omega
      have hpn : ((p : Int) == -1) = false := beq_eq_false_iff_ne.2 (by omega)
      have hM' := Lib.hid hM
      clear hi hd hM hpj hB hP hO hHo hPl hL hap hE hcl
      go_enter Try.func15, Try.ntmps15
      go_wp2_with fail
      refine hHas.out.mono ?_
      rintro e w1 ⟨rfl, rfl⟩
      go_wp2_with fail
      refine HT.out.mono ?_
      rintro e w2 ⟨⟨v, rfl⟩, ho⟩
      have HO := Lib.hid ho
      clear ho
      go_wp2_with fail
      go_ret
      exact .inr ⟨j, rfl, hj, .inr ⟨k, hM'.out, rfl, HO.out⟩⟩
  · have hd : (decide (0 ≤ i) && decide (i < (n : Int))) = false := by
      by_cases h0 : 0 ≤ i
      · rw [decide_eq_true h0, decide_eq_false (fun h => hi ⟨h0, h⟩)]; rfl
      · rw [decide_eq_false h0]; rfl
    rw [hd] at hHas
    have HI := Lib.hid hi
    clear hi hd hB hP hO hHo hPl hL hA
    go_enter Try.func15, Try.ntmps15
    go_wp2_with fail
    refine hHas.out.mono ?_
    rintro e w1 ⟨rfl, rfl⟩
    go_wp2_with fail
    go_ret
    exact .inl ⟨HI.out, rfl, hout_below HH.out (Below.refl _ _)⟩
end Go.Proofs.Ytijoaiehnemgnaa
