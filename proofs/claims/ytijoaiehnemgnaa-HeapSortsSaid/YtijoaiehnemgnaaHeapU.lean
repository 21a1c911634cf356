/- Contracts of package heap: New; the functions of a nil heap. -/
import Derived.Test.YtijoaiehnemgnaaHeapT
namespace Go.Proofs.Ytijoaiehnemgnaa
open Go.RowKit

theorem infoInt : (Try.prog.info? 3).map (fun i => (i.zero, i.size, i.bytes)) = some (some (.int .i64 0), 1, 8) := by kernel_rfl
theorem cnt_nothing : ∀ n, cnt (fun _ => none) n = 0
  | 0 => rfl
  | n + 1 => by unfold cnt; rw [cnt_nothing n]; rfl
def NewH (w : World) (n : Nat) (e : Ending) (w' : World) : Prop := ∃ h P, e = .returned (.tuple #[.pointer (some ⟨h, 0, none⟩), .int .i64 0]) ∧ IsH w' h h P n (fun _ => none) ∧ w.heap.size ≤ h ∧ w.heap.size ≤ P ∧ Below w.heap.size w w'
theorem isH_new {w w' : World} {h P n : Nat} (hB : HeapB w' h none 0 0 P n) (hP : Row w' P 3 n (fun _ => .int .i64 (-1))) (hne : h ≠ P) (hn : n ≤ 65536) : IsH w' h h P n (fun _ => none) :=
  ⟨none, 0, 0, fun _ => (0, 0), fun _ => -1, hB, hP, hne, fun j _ hj => by omega, ⟨fun j hj => by omega, fun i k h => (by cases h), fun j _ hj => by omega⟩, ⟨fun j hj => by omega, fun _ _ => rfl⟩, (cnt_nothing n).symm, hn, .inl ⟨rfl, rfl, rfl, rfl⟩⟩

set_option maxRecDepth 100000 in
theorem new_bad {w : World} {n : Int} (hn : n < 0 ∨ 65536 < n) :
    Calls Try.prog 9 #[.int .i64 n] w fun e w' => e = .returned (.tuple #[.pointer none, .int .i64 1]) ∧ w' = w := by
  by_cases h0 : n < 0
  · clear hn
    go_enter Try.func9, Try.ntmps9
    go_wp2
    exact bodyPost_ret (v := .tuple #[.pointer none, .int .i64 1]) (by simp [results, Try.results9, go_sem]) rfl ⟨rfl, rfl⟩
  · have h1 : 65536 < n := by omega
    clear hn
    go_enter Try.func9, Try.ntmps9
    go_wp2
    exact bodyPost_ret (v := .tuple #[.pointer none, .int .i64 1]) (by simp [results, Try.results9, go_sem]) rfl ⟨rfl, rfl⟩
set_option maxRecDepth 100000 in
set_option maxHeartbeats 4000000 in
theorem new_any {w : World} {n : Nat} (hn : n ≤ 65536) :
    Calls Try.prog 9 #[.int .i64 (n : Nat)] w (NewH w n) := by
  obtain ⟨i0, hi, hz0, hz1, hz2⟩ := info_parts infoInt
  have h0 : ¬ ((n : Int) < 0) := by omega
  have h1 : ¬ (65536 < (n : Int)) := by omega
  have h1' : ¬ (65536 < n) := by omega
  go_enter Try.func9, Try.ntmps9
  go_wp2_with (at_make; refine wpList_make_row rfl (.tmp 12) (.tmp 12) _ rfl 3 i0 _ Try.underlying40 hi hz0 hz1 rfl _ _ _ _ n rfl rfl rfl rfl (by rw [hz2]; omega) (by simp [maxLen]; omega) w w.heap.size (Below.refl _ _) (Nat.le_refl _) ?_; intro w1 hrow hb1 hs1)
  have hI0 : Hid (Row w1 w.heap.size 3 n (fun j => if j < 0 then .int .i64 (-1) else .int .i64 0) ∧ Below w.heap.size w w1) := ⟨Row.same hrow.out (fun j _ => by simp), hb1.out⟩
  clear hrow hb1 hs1 hi hz0 hz1 hz2
  go_loopw [16] (fun v wr => ∃ k : Nat, v = .int .i64 (k : Nat) ∧ k ≤ n ∧ Hid (Row wr w.heap.size 3 n (fun j => if j < k then .int .i64 (-1) else .int .i64 0) ∧ Below w.heap.size w wr)) (fun v _ => n - (intOf v).toNat)
  case atStart => exact ⟨0, rfl, Nat.zero_le _, hI0⟩
  case round =>
    clear hI0
    obtain ⟨k, rfl, hk, hI⟩ := hrel
    by_cases hkn : k < n
    · have c0 := hI.out.1.cell k hkn
      have f0 := hI.out.1.frozen k
      have hk0 : (0 : Int) ≤ (k : Int) := by omega
      have hk1 : (k : Int) < (n : Int) := by omega
      have hw1 : IntKind.i64.wrap ((k : Int) + 1) = (k : Int) + 1 := IntWalk.i64_in _ (by omega)
      have HN : Hid (Row (wr.setCell ⟨w.heap.size, k, none⟩ (.int .i64 (-1))) w.heap.size 3 n (fun j => if j < k + 1 then .int .i64 (-1) else .int .i64 0) ∧ Below w.heap.size w (wr.setCell ⟨w.heap.size, k, none⟩ (.int .i64 (-1)))) := by
        refine ⟨hI.out.1.set_ k _ (fun j _ => ?_), hI.out.2.setCell (Nat.le_refl _) _⟩
        by_cases e : j = k
        · rw [if_pos e, if_pos (by omega)]
        · rw [if_neg e]
          by_cases e2 : j < k
          · rw [if_pos e2, if_pos (by omega)]
          · rw [if_neg e2, if_neg (by omega)]
      clear hI
      go_wp2
      go_roundw
      case rel => exact ⟨k + 1, by go_num, by omega, HN⟩
      case measure => simp [intOf]; omega
    · obtain rfl : k = n := by omega
      have hk1 : ¬ ((k : Int) < (k : Int)) := by omega
      obtain ⟨w2, hw2⟩ : ∃ w2, wr.alloc (.cells #[.slice none 0 0, .slice (some ⟨w.heap.size, 0, none⟩) k k] 50) = w2 := ⟨_, rfl⟩
      have hl := hI.out.1.lt
      have hfin : Hid (IsH w2 wr.heap.size wr.heap.size w.heap.size k (fun _ => none) ∧ w.heap.size ≤ wr.heap.size ∧ Below w.heap.size w w2) := by
        have hb := hI.out.2
        refine ⟨isH_new (w := w) ?_ ?_ (by omega) hn, by omega, ?_⟩
        · rw [← hw2]; exact heap_alloc_new wr _
        · rw [← hw2]
          exact Row.same ((Below.heap_alloc wr _ w.heap.size hl).trans hI.out.1) (fun j hj => by rw [if_pos hj])
        · rw [← hw2]; exact hb.alloc hb.size _
      clear hI hl
      go_wp2
      clear hw2
      exact bodyPost_ret (v := .tuple #[.pointer (some ⟨wr.heap.size, 0, none⟩), .int .i64 0]) (by simp [results, Try.results9, go_sem]) rfl ⟨_, _, rfl, hfin.out.1, hfin.out.2.1, Nat.le_refl _, hfin.out.2.2⟩
section
variable {w : World}
set_option maxRecDepth 100000 in
theorem nil_set (i k : Int) : Calls Try.prog 11 #[.pointer none, .int .i64 i, .int .i64 k] w fun e w' => e = .returned (.int .i64 7) ∧ w' = w := by
  go_enter Try.func11, Try.ntmps11
  go_wp2
  go_ret
  exact ⟨rfl, rfl⟩
set_option maxRecDepth 100000 in
theorem nil_remove (i : Int) : Calls Try.prog 15 #[.pointer none, .int .i64 i] w fun e w' => e = .returned (.int .i64 7) ∧ w' = w := by
  go_enter Try.func15, Try.ntmps15
  go_wp2
  go_ret
  exact ⟨rfl, rfl⟩
set_option maxRecDepth 100000 in
theorem nil_key (i : Int) : Calls Try.prog 17 #[.pointer none, .int .i64 i] w fun e w' => e = .returned (.tuple #[.int .i64 0, .bool false]) ∧ w' = w := by
  go_enter Try.func17, Try.ntmps17
  go_wp2
  exact bodyPost_ret (v := .tuple #[.int .i64 0, .bool false]) (by simp [results, Try.results17, go_sem]) rfl ⟨rfl, rfl⟩
set_option maxRecDepth 100000 in
theorem nil_len : Calls Try.prog 19 #[.pointer none] w fun e w' => e = .returned (.int .i64 0) ∧ w' = w := by
  go_enter Try.func19, Try.ntmps19
  go_wp2
  go_ret
  exact ⟨rfl, rfl⟩
set_option maxRecDepth 100000 in
theorem nil_pop : Calls Try.prog 13 #[.pointer none] w fun e w' => e = .returned (.tuple #[.int .i64 0, .int .i64 0, .bool false]) ∧ w' = w := by
  go_enter Try.func13, Try.ntmps13
  go_wp2_with fail
  refine nil_len.mono ?_
  rintro e w1 ⟨rfl, rfl⟩
  go_wp2
  exact bodyPost_ret (v := .tuple #[.int .i64 0, .int .i64 0, .bool false]) (by simp [results, Try.results13, go_sem]) rfl ⟨rfl, rfl⟩
end
end Go.Proofs.Ytijoaiehnemgnaa
