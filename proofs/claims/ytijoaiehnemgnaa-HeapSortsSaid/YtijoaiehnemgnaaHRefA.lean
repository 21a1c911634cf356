/- The reference's heap: contracts of in, Set, Key, Remove, Len, Pop, New. -/
import Derived.Test.YtijoaiehnemgnaaHeapW
namespace Go.Proofs.Ytijoaiehnemgnaa
open Go.RowKit

theorem row_of_make {w w' : World} {base n : Nat} {e : TypeId} {z : Value} (hz : z.cells = #[z]) (hown : w'.ownsRow base e 1 (.slice (some ⟨w.heap.size, 0, none⟩) n n) n (madeCells z.cells (n * 1)).toList) : Row w' w.heap.size e n (fun _ => z) := by
  rcases hown.2 with ⟨h0, _⟩ | ⟨g, cap, cur, h0, _, hh, hcap, _, hcs, htake⟩
  · cases h0
  · obtain ⟨h5, _, rfl⟩ := Value.slice.inj h0
    injection h5 with h5
    injection h5 with h5
    subst h5
    unfold Row
    rw [hh]
    have hcur : cur = (vals (fun _ => z) n).toArray := by
      apply Array.ext'
      have h6 : cur.toList.take (n * 1) = cur.toList := List.take_of_length_le (by rw [Array.length_toList, hcs]; exact Nat.le_refl _)
      rw [← h6, htake]
      rw [hz]
      simp only [madeCells, Nat.mul_one, Array.toList_map, Array.toList_range, vals]
      exact List.map_congr_left fun j _ => by simp [Nat.mod_one]
    rw [hcur]

/-- The block of the reference's heap. -/
def RefB (w : World) (r hB kB n : Nat) : Prop := w.heap[r]? = some (.cells #[.slice (some ⟨hB, 0, none⟩) n n, .slice (some ⟨kB, 0, none⟩) n n] 52 (0, 0))
def RefI (w : World) (r hB kB n : Nat) (M : Nat → Option Int) : Prop :=
  RefB w r hB kB n ∧ r ≠ hB ∧ r ≠ kB ∧ hB ≠ kB ∧ ∃ K : Nat → Int, Row w hB 4 n (fun i => .bool (M i).isSome) ∧ Row w kB 3 n (fun i => .int .i64 (K i)) ∧ ∀ i k, M i = some k → K i = k
section
variable {w w' : World} {r hB kB n : Nat} {M : Nat → Option Int}
theorem RefB.lt (hR : RefB w r hB kB n) : r < w.heap.size := by
  rcases Nat.lt_or_ge r w.heap.size with hlt | hge
  · exact hlt
  · unfold RefB at hR; rw [Array.getElem?_eq_none hge] at hR; cases hR
theorem RefB.cell0 (hR : RefB w r hB kB n) : w.cell? ⟨r, 0, none⟩ = some (.slice (some ⟨hB, 0, none⟩) n n) := by rw [cell_of_row w r 0 _ _ (0, 0) hR]; rfl
theorem RefB.cell1 (hR : RefB w r hB kB n) : w.cell? ⟨r, 1, none⟩ = some (.slice (some ⟨kB, 0, none⟩) n n) := by rw [cell_of_row w r 1 _ _ (0, 0) hR]; rfl
theorem RefB.far (hR : RefB w r hB kB n) {p : Addr} (hp : r ≠ p.block) (u : Value) : RefB (w.setCell p u) r hB kB n := (Below.heap_setCell w p u r hp).trans hR
theorem RefI.lt (hR : RefI w r hB kB n M) : r < w.heap.size ∧ hB < w.heap.size ∧ kB < w.heap.size := by
  obtain ⟨h1, -, -, -, K, h2, h3, -⟩ := hR
  exact ⟨h1.lt, h2.lt, h3.lt⟩
theorem RefI.keep (hR : RefI w r hB kB n M) (k1 : w'.heap[r]? = w.heap[r]?) (k2 : w'.heap[hB]? = w.heap[hB]?) (k3 : w'.heap[kB]? = w.heap[kB]?) : RefI w' r hB kB n M := by
  obtain ⟨h1, n1, n2, n3, K, h2, h3, h4⟩ := hR
  exact ⟨k1.trans h1, n1, n2, n3, K, k2.trans h2, k3.trans h3, h4⟩
theorem RefI.drew (hR : RefI w r hB kB n M) : RefI w.drew r hB kB n M := hR

set_option maxRecDepth 100000 in
theorem in_any (i : Int) (hR : RefI w r hB kB n M) :
    Calls Try.prog 24 #[.pointer (some ⟨r, 0, none⟩), .int .i64 i] w fun e w' => e = .returned (.bool (decide (0 ≤ i) && decide (i < (n : Int)))) ∧ w' = w := by
  have c0 := hR.1.cell0
  clear hR
  by_cases h0 : 0 ≤ i
  · have h0' : decide (0 ≤ i) = true := decide_eq_true h0
    rw [h0', Bool.true_and]
    go_enter Try.func24, Try.ntmps24
    go_wp2
    try go_ret
    exact ⟨rfl, rfl⟩
  · have h0' : decide (0 ≤ i) = false := decide_eq_false h0
    rw [h0', Bool.false_and]
    go_enter Try.func24, Try.ntmps24
    go_wp2
    try go_ret
    exact ⟨rfl, rfl⟩
end
theorem has_yes {j n : Nat} (h : j < n) : (decide (0 ≤ (j : Int)) && decide ((j : Int) < (n : Int))) = true := by simp; omega
def RSet (w : World) (r hB kB n : Nat) (M : Nat → Option Int) (x : Int) (e : Ending) (w' : World) : Prop := e = .returned (.int .i64 x) ∧ RefI w' r hB kB n M ∧ Only w w' hB kB

set_option maxRecDepth 100000 in
set_option maxHeartbeats 4000000 in
theorem rset_any {w : World} {r hB kB n : Nat} {M : Nat → Option Int} (i key : Int) (hR : RefI w r hB kB n M) :
    Calls Try.prog 12 #[.pointer (some ⟨r, 0, none⟩), .int .i64 i, .int .i64 key] w (RSet w r hB kB n (setM M n i key) (setE n i)) := by
  have hIn := Lib.hid (in_any i hR)
  unfold setM setE
  by_cases hi : 0 ≤ i ∧ i < (n : Int)
  · rw [if_pos hi, if_pos hi]
    obtain ⟨j, rfl⟩ := Int.eq_ofNat_of_zero_le hi.1
    have hj : j < n := by omega
    rw [Int.toNat_natCast]
    rw [has_yes hj] at hIn
    obtain ⟨h1, n1, n2, n3, K, h2, h3, h4⟩ := hR
    have c0 := h1.cell0
    have c1 := h1.cell1
    have b0 := h2.cell j hj
    have b1 := h2.frozen j
    have k0 := h3.cell j hj
    have k1 := h3.frozen j
    have g1 := h1.far (p := ⟨hB, j, none⟩) (by show r ≠ hB; exact n1) (.bool true)
    have g2 := g1.far (p := ⟨kB, j, none⟩) (by show r ≠ kB; exact n2) (.int .i64 key)
    have k2 := (h3.far (p := ⟨hB, j, none⟩) (by show kB ≠ hB; exact Ne.symm n3) (.bool true)).cell j hj
    have k3 := (h3.far (p := ⟨hB, j, none⟩) (by show kB ≠ hB; exact Ne.symm n3) (.bool true)).frozen j
    have hb2 := (h2.set_ (f' := fun i => .bool (mset M j (some key) i).isSome) j (.bool true) (fun t _ => by unfold mset; by_cases e : t = j <;> simp [e])).far (p := ⟨kB, j, none⟩) (by show hB ≠ kB; exact n3) (.int .i64 key)
    have hk2 := (h3.far (p := ⟨hB, j, none⟩) (by show kB ≠ hB; exact Ne.symm n3) (.bool true)).set_ (f' := fun i => .int .i64 (if i = j then key else K i)) j (.int .i64 key) (fun t _ => by by_cases e : t = j <;> simp [e])
    have ho2 := ((Only.refl w hB kB).set_ (p := ⟨hB, j, none⟩) (.inl rfl) (.bool true)).set_ (p := ⟨kB, j, none⟩) (.inr (.inl rfl)) (.int .i64 key)
    have HF : Hid (RefI ((w.setCell ⟨hB, j, none⟩ (.bool true)).setCell ⟨kB, j, none⟩ (.int .i64 key)) r hB kB n (mset M j (some key)) ∧ Only w ((w.setCell ⟨hB, j, none⟩ (.bool true)).setCell ⟨kB, j, none⟩ (.int .i64 key)) hB kB) := by
      refine ⟨⟨g2, n1, n2, n3, _, hb2, hk2, fun t k ht => ?_⟩, ho2⟩
      unfold mset at ht
      by_cases e : t = j
      · rw [if_pos e] at ht ⊢; injection ht
      · rw [if_neg e] at ht ⊢; exact h4 t k ht
    have d0 := g1.cell0
    have d1 := g1.cell1
    have x0 := g2.cell0
    have x1 := g2.cell1
    have hz0 : (0 : Int) ≤ (j : Int) := by omega
    have hz1 : (j : Int) < (n : Int) := by omega
    clear hi h1 h2 h3 h4 g1 g2 hb2 hk2 ho2 n1 n2 n3
    go_enter Try.func12, Try.ntmps12
    go_wp2_with fail
    refine hIn.out.mono ?_
    rintro e w1 ⟨rfl, rfl⟩
    go_wp2_with fail
    go_region_held3 (fun W' => W'.cell? ⟨r, 0, none⟩ = some (.slice (some ⟨hB, 0, none⟩) n n) ∧ W'.cell? ⟨r, 1, none⟩ = some (.slice (some ⟨kB, 0, none⟩) n n))
      (first | exact ⟨c0, c1⟩ | exact ⟨d0, d1⟩ | exact ⟨x0, x1⟩ | go_keep) (fail)
    go_wp2_with fail
    go_ret
    exact ⟨rfl, HF.out⟩
  · rw [if_neg hi, if_neg hi]
    rw [has_none hi] at hIn
    have HR := Lib.hid hR
    clear hi hR
    go_enter Try.func12, Try.ntmps12
    go_wp2_with fail
    refine hIn.out.mono ?_
    rintro e w1 ⟨rfl, rfl⟩
    go_wp2_with fail
    go_ret
    exact ⟨rfl, HR.out, Only.refl _ _ _⟩

set_option maxRecDepth 100000 in
set_option maxHeartbeats 4000000 in
theorem rkey_any {w : World} {r hB kB n : Nat} {M : Nat → Option Int} (i : Int) (hR : RefI w r hB kB n M) :
    Calls Try.prog 18 #[.pointer (some ⟨r, 0, none⟩), .int .i64 i] w fun e w' => e = keyEnd (keyOf M n i) ∧ w' = w := by
  have hIn := Lib.hid (in_any i hR)
  unfold keyOf
  by_cases hi : 0 ≤ i ∧ i < (n : Int)
  · rw [if_pos hi]
    obtain ⟨j, rfl⟩ := Int.eq_ofNat_of_zero_le hi.1
    have hj : j < n := by omega
    rw [Int.toNat_natCast]
    rw [has_yes hj] at hIn
    obtain ⟨h1, n1, n2, n3, K, h2, h3, h4⟩ := hR
    have c0 := h1.cell0
    have c1 := h1.cell1
    have b0 := h2.cell j hj
    have k0 := h3.cell j hj
    have hz0 : (0 : Int) ≤ (j : Int) := by omega
    have hz1 : (j : Int) < (n : Int) := by omega
    cases hM : M j with
    | none =>
      rw [hM] at b0
      unfold keyEnd
      clear hi h1 h2 h3 h4 hM
      go_enter Try.func18, Try.ntmps18
      go_wp2_with fail
      refine hIn.out.mono ?_
      rintro e w1 ⟨rfl, rfl⟩
      go_wp2_with fail
      exact bodyPost_ret (v := .tuple #[.int .i64 0, .bool false]) (by simp [results, Try.results18, go_sem]) rfl ⟨rfl, rfl⟩
    | some k =>
      rw [hM] at b0
      rw [h4 j k hM] at k0
      unfold keyEnd
      clear hi h1 h2 h3 h4 hM
      go_enter Try.func18, Try.ntmps18
      go_wp2_with fail
      refine hIn.out.mono ?_
      rintro e w1 ⟨rfl, rfl⟩
      go_wp2_with fail
      exact bodyPost_ret (v := .tuple #[.int .i64 k, .bool true]) (by simp [results, Try.results18, go_sem]) rfl ⟨rfl, rfl⟩
  · rw [if_neg hi]
    rw [has_none hi] at hIn
    unfold keyEnd
    clear hi hR
    go_enter Try.func18, Try.ntmps18
    go_wp2_with fail
    refine hIn.out.mono ?_
    rintro e w1 ⟨rfl, rfl⟩
    go_wp2_with fail
    exact bodyPost_ret (v := .tuple #[.int .i64 0, .bool false]) (by simp [results, Try.results18, go_sem]) rfl ⟨rfl, rfl⟩

set_option maxRecDepth 100000 in
set_option maxHeartbeats 4000000 in
theorem rremove_any {w : World} {r hB kB n : Nat} {M : Nat → Option Int} (i : Int) (hR : RefI w r hB kB n M) :
    Calls Try.prog 16 #[.pointer (some ⟨r, 0, none⟩), .int .i64 i] w (RSet w r hB kB n (remM M n i) (remE M n i)) := by
  have hIn := Lib.hid (in_any i hR)
  have HR := Lib.hid hR
  unfold remM remE
  by_cases hi : 0 ≤ i ∧ i < (n : Int)
  · rw [if_pos hi, if_pos hi]
    obtain ⟨j, rfl⟩ := Int.eq_ofNat_of_zero_le hi.1
    have hj : j < n := by omega
    rw [Int.toNat_natCast]
    rw [has_yes hj] at hIn
    obtain ⟨h1, n1, n2, n3, K, h2, h3, h4⟩ := hR
    have c0 := h1.cell0
    have b0 := h2.cell j hj
    have b1 := h2.frozen j
    have hz0 : (0 : Int) ≤ (j : Int) := by omega
    have hz1 : (j : Int) < (n : Int) := by omega
    cases hM : M j with
    | none =>
      rw [hM] at b0
      rw [mset_same hM]
      clear hi h1 h2 h3 h4 hM
      go_enter Try.func16, Try.ntmps16
      go_wp2_with fail
      refine hIn.out.mono ?_
      rintro e w1 ⟨rfl, rfl⟩
      go_wp2_with fail
      go_ret
      exact ⟨rfl, HR.out, Only.refl _ _ _⟩
    | some k =>
      rw [hM] at b0
      have g1 := h1.far (p := ⟨hB, j, none⟩) (by show r ≠ hB; exact n1) (.bool false)
      have hb2 := h2.set_ (f' := fun i => .bool (mset M j none i).isSome) j (.bool false) (fun t _ => by unfold mset; by_cases e : t = j <;> simp [e])
      have hk2 := h3.far (p := ⟨hB, j, none⟩) (by show kB ≠ hB; exact Ne.symm n3) (.bool false)
      have HF : Hid (RefI (w.setCell ⟨hB, j, none⟩ (.bool false)) r hB kB n (mset M j none) ∧ Only w (w.setCell ⟨hB, j, none⟩ (.bool false)) hB kB) := by
        refine ⟨⟨g1, n1, n2, n3, K, hb2, hk2, fun t k ht => ?_⟩, (Only.refl w hB kB).set_ (p := ⟨hB, j, none⟩) (.inl rfl) _⟩
        unfold mset at ht
        by_cases e : t = j
        · rw [if_pos e] at ht; cases ht
        · rw [if_neg e] at ht; exact h4 t k ht
      clear hi h1 h2 h3 h4 hM g1 hb2 hk2
      go_enter Try.func16, Try.ntmps16
      go_wp2_with fail
      refine hIn.out.mono ?_
      rintro e w1 ⟨rfl, rfl⟩
      go_wp2_with fail
      go_ret
      exact ⟨rfl, HF.out⟩
  · rw [if_neg hi, if_neg hi]
    rw [has_none hi] at hIn
    clear hi hR
    go_enter Try.func16, Try.ntmps16
    go_wp2_with fail
    refine hIn.out.mono ?_
    rintro e w1 ⟨rfl, rfl⟩
    go_wp2_with fail
    go_ret
    exact ⟨rfl, HR.out, Only.refl _ _ _⟩

set_option maxRecDepth 100000 in
set_option maxHeartbeats 4000000 in
theorem rlen_any {w : World} {r hB kB n : Nat} {M : Nat → Option Int} (hn : n ≤ 65536) (hR : RefI w r hB kB n M) :
    Calls Try.prog 20 #[.pointer (some ⟨r, 0, none⟩)] w fun e w' => e = .returned (.int .i64 (cnt M n : Nat)) ∧ w' = w := by
  obtain ⟨h1, n1, n2, n3, K, h2, h3, h4⟩ := hR
  have c0 := h1.cell0
  have HB := Lib.hid h2
  clear h1 h2 h3 h4
  go_enter Try.func20, Try.ntmps20
  go_wp2_with fail
  go_loop [3, 4] (fun vc vi => ∃ i : Nat, vi = .int .i64 (i : Nat) ∧ i ≤ n ∧ vc = .int .i64 (cnt M i : Nat)) (fun _ vi => n - (intOf vi).toNat)
  case atStart => exact ⟨0, rfl, Nat.zero_le _, rfl⟩
  case round =>
    obtain ⟨i, rfl, hi, rfl⟩ := hrel
    by_cases hin : i < n
    · have b0 := HB.out.cell i hin
      have hz0 : (0 : Int) ≤ (i : Int) := by omega
      have hz1 : (i : Int) < (n : Int) := by omega
      have hw1 : IntKind.i64.wrap ((i : Int) + 1) = (i : Int) + 1 := IntWalk.i64_in _ (by omega)
      have hc := cnt_le M i
      have hw2 : IntKind.i64.wrap ((cnt M i : Int) + 1) = (cnt M i : Int) + 1 := IntWalk.i64_in _ (by omega)
      have hs : cnt M (i + 1) = cnt M i + (if (M i).isSome then 1 else 0) := rfl
      cases hM : (M i).isSome
      · rw [hM] at b0 hs
        go_wp2
        go_round
        case rel => exact ⟨i + 1, by go_num, by omega, by rw [hs]; go_num⟩
        case measure => simp [intOf]; omega
      · rw [hM] at b0 hs
        go_wp2
        go_round
        case rel => exact ⟨i + 1, by go_num, by omega, by rw [hs]; go_num⟩
        case measure => simp [intOf]; omega
    · obtain rfl : i = n := by omega
      go_wp2
      go_ret
      exact ⟨rfl, rfl⟩
end Go.Proofs.Ytijoaiehnemgnaa
