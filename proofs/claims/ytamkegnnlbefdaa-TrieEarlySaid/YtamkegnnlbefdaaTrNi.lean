/- The methods of no trie. -/
import Derived.Test.YtamkegnnlbefdaaTrL
namespace Go.Proofs.Ytamkegnnlbefdaa
open Go.RowKit
attribute [local go_sem] Oper.semAt_some

/-- The state of the loop over no trie. -/
def NilI (w : World) (pre : List Rt) (W : World) : Prop := pre = [] ∧ Blk W w.heap.size [.slice none 0 0] 25 ∧ Blk W (w.heap.size + 1) [.pointer none] 24 ∧ Below w.heap.size w W
theorem nilI_own {w : World} {B : Nat} (hB : w.heap.size ≤ B) : OwnFrom B (NilI w) := by
  refine ownFrom_of ?_
  rintro s W W' ⟨h1, h2, h3, h4⟩ hc hb hsz ho ht hp
  refine ⟨h1, hc _ _ h2 rfl, hc _ _ h3 rfl, ho.trans h4.os, ht.trans h4.tape, hp.trans h4.output, Nat.le_trans h4.size hsz, fun k hk => ?_⟩
  exact (hb k (by omega) (by have := h4.size; omega)).trans (h4.block k hk)
set_option maxRecDepth 100000 in
set_option maxHeartbeats 2000000 in
theorem routes_nil_any (w : World) : Calls Try.prog 13 #[.pointer none] w fun e W => e = .returned (.slice none 0 0) ∧ Below w.heap.size w W := by
  refine (callsIn_wide (n := 5)).1 ?_
  refine callsIn_of_wp_marks Try.func13 rfl trivial ?_ rfl
  simp only [Try.ntmps13, List.size_toArray, List.length_cons, List.length_nil, Nat.reduceAdd, Nat.reduceSub, Array.replicate_succ, Array.replicate_zero, List.push_toArray, List.append_toArray, List.nil_append, List.cons_append]
  have h50 : Fence.wide.fn 25 := trivial
  gi_wp2_with (gi_at_call 25; refine (all_in _ none _).mono ?_; rintro e w' ⟨rfl, rfl⟩)
  obtain ⟨w0, hw0⟩ : ∃ w0, (w.alloc (.cells #[.slice none 0 0] 25)).alloc (.cells #[.pointer none] 24) = w0 := ⟨_, rfl⟩
  have hs0 : w0.heap.size = w.heap.size + 1 + 1 := by subst hw0; simp
  have hI0 : NilI w [] w0 := by
    subst hw0
    have S := ((Sr.start w).alloc [.slice none 0 0] 25).alloc [.pointer none] 24
    simp only [size_alloc'] at S
    exact ⟨rfl, S.at 1 rfl, S.at 0 rfl, S.low⟩
  rw [hw0]
  clear hw0
  refine wpIn_iterateC rfl (by omega) (gf := 46) (lb := #[.pointer (some ⟨w.heap.size + 1, 0, none⟩)]) (by simp [go_sem]) trivial (enters_of Try.func46 (by kernel_rfl) rfl)
    (nil_iter _ (w.heap.size + 1) _) (fun _ => rfl) (NilI w) (fun _ _ _ => False) (nilI_own (by omega)) (fun c => by intro s W W' row hs; exact hs.elim) ?IR hI0 (fun _ _ _ _ => False) (fun x a' => by intro s W W' row hs; exact hs.elim) ?assign ?body ?done ?stop

  case assign =>
    intro l pre x W K _ h
    omega
  case IR =>
    rintro pre W ⟨h1, h2, h3, h4⟩
    exact h3.cell rfl
  case body =>
    intro l pre x a' W h
    exact h.elim
  case done =>
    rintro D xs W hD rfl hN hK
    have hE := (nilI_own (w := w) (B := w0.heap.size) (by omega)).putObj (.deferred none) hN hD hK rfl
    have c0 := hN.2.1.cell (i := 0) rfl
    have HE := Lib.hid hE
    clear hE hN
    gi_wp2
    refine ⟨by simp, .inl ⟨_, _, rfl, run_takeDeferred hK, ?_⟩⟩
    refine ⟨_, results_tmp rfl _ _ _, ?_⟩
    exact ⟨rfl, HE.out.2.2.2⟩
  case stop =>
    rintro D c pre W _ h
    exact h.elim
set_option maxRecDepth 100000 in
theorem nil_get (w : World) (pa pl : Int) : Calls Try.prog 19 #[.pointer none, .agg #[.int .u32 pa, .int .i64 pl]] w fun e W => e = .returned (.tuple #[.int .i64 0, .bool false]) ∧ Below w.heap.size w W := by
  have hb : Below w.heap.size w (w.alloc (.cells #[.int .u32 pa, .int .i64 pl] 35)) := (Below.refl _ w).alloc (Nat.le_refl _) _
  have HB := Lib.hid hb
  clear hb
  go_enter Try.func19, Try.ntmps19
  go_wp2_with fail
  go_ret2
  exact ⟨rfl, HB.out⟩
set_option maxRecDepth 100000 in
theorem nil_put (w : World) (pa pl z : Int) : Calls Try.prog 24 #[.pointer none, .agg #[.int .u32 pa, .int .i64 pl, .int .i64 z]] w fun e W => e = .returned (.int .i64 7) ∧ Below w.heap.size w W := by
  have hb : Below w.heap.size w (w.alloc (.cells #[.int .u32 pa, .int .i64 pl, .int .i64 z] 37)) := (Below.refl _ w).alloc (Nat.le_refl _) _
  have HB := Lib.hid hb
  clear hb
  go_enter Try.func24, Try.ntmps24
  go_wp2_with fail
  go_ret
  exact ⟨rfl, HB.out⟩
set_option maxRecDepth 100000 in
theorem nil_remove (w : World) (pa pl : Int) : Calls Try.prog 26 #[.pointer none, .agg #[.int .u32 pa, .int .i64 pl]] w fun e W => e = .returned (.int .i64 7) ∧ Below w.heap.size w W := by
  have hb : Below w.heap.size w (w.alloc (.cells #[.int .u32 pa, .int .i64 pl] 35)) := (Below.refl _ w).alloc (Nat.le_refl _) _
  have HB := Lib.hid hb
  clear hb
  go_enter Try.func26, Try.ntmps26
  go_wp2_with fail
  go_ret
  exact ⟨rfl, HB.out⟩
set_option maxRecDepth 100000 in
theorem nil_under (w : World) (pa pl : Int) : Calls Try.prog 21 #[.pointer none, .agg #[.int .u32 pa, .int .i64 pl]] w fun e W => e = .returned (.slice none 0 0) ∧ Below w.heap.size w W := by
  have hb : Below w.heap.size w (w.alloc (.cells #[.int .u32 pa, .int .i64 pl] 35)) := (Below.refl _ w).alloc (Nat.le_refl _) _
  have HB := Lib.hid hb
  clear hb
  go_enter Try.func21, Try.ntmps21
  go_wp2_with fail
  go_ret
  exact ⟨rfl, HB.out⟩
set_option maxRecDepth 100000 in
theorem nil_len (w : World) : Calls Try.prog 14 #[.pointer none] w fun e W => e = .returned (.int .i64 0) ∧ Below w.heap.size w W := by
  go_enter Try.func14, Try.ntmps14
  go_wp2_with fail
  go_ret
  exact ⟨rfl, Below.refl _ _⟩
set_option maxRecDepth 100000 in
theorem nil_nodes (w : World) : Calls Try.prog 15 #[.pointer none] w fun e W => e = .returned (.int .i64 0) ∧ Below w.heap.size w W := by
  go_enter Try.func15, Try.ntmps15
  go_wp2_with fail
  go_ret
  exact ⟨rfl, Below.refl _ _⟩
set_option maxRecDepth 100000 in
set_option maxHeartbeats 2000000 in
theorem nil_lookup (w : World) (a : Int) : Calls Try.prog 17 #[.pointer none, .int .u32 a] w fun e W => e = .returned (.tuple #[.agg #[.int .u32 0, .int .i64 0, .int .i64 0], .bool false]) ∧ Below w.heap.size w W := by
  obtain ⟨w1, hw1, S⟩ : ∃ w1, w.alloc (.cells #[.int .u32 0, .int .i64 0, .int .i64 0] 37) = w1 ∧ Hid (Sr w [] [(w.heap.size, [.int .u32 0, .int .i64 0, .int .i64 0], 37)] w1) :=
    ⟨_, rfl, (Sr.start w).alloc [.int .u32 0, .int .i64 0, .int .i64 0] 37⟩
  have c0x0 := (S.out.at 0 rfl).cell (i := 0) rfl
  have f0x0 := (S.out.at 0 rfl).frozen (i := 0)
  have c0x1 := (S.out.at 0 rfl).cell (i := 1) rfl
  have f0x1 := (S.out.at 0 rfl).frozen (i := 1)
  have c0x2 := (S.out.at 0 rfl).cell (i := 2) rfl
  have f0x2 := (S.out.at 0 rfl).frozen (i := 2)
  go_enter Try.func17, Try.ntmps17
  go_wp2_with fail
  have S1 := ((S.out.set 0 rfl (Nat.le_refl _) 0 (.int .u32 0) rfl).set 0 rfl (Nat.le_refl _) 1 (.int .i64 0) rfl).set 0 rfl (Nat.le_refl _) 2 (.int .i64 0) rfl
  simp only [List.set_cons_zero, List.set_cons_succ] at S1
  have T := Lib.hid S1
  clear S1 hw1
  have c0x0 := (T.out.at 0 rfl).cell (i := 0) rfl
  have c0x1 := (T.out.at 0 rfl).cell (i := 1) rfl
  have c0x2 := (T.out.at 0 rfl).cell (i := 2) rfl
  refine bodyPost_ret (v := .tuple #[.agg #[.int .u32 0, .int .i64 0, .int .i64 0], .bool false]) (by simp [results, Try.results17, go_sem, c0x0, c0x1, c0x2]) rfl ?_
  exact ⟨rfl, T.out.low⟩
end Go.Proofs.Ytamkegnnlbefdaa
