/- A trie of the call's own; the helper awake of layer 5's laws. -/
import Derived.Test.YtamkegnnlbefdaaTrJ
namespace Go.Proofs.Ytamkegnnlbefdaa
open Go.RowKit

/-- A trie that was made behind the world w. -/
def Own (w : World) (gt : Nat) (T : Tr) (W : World) : Prop := ∃ S0, TrieP W gt T S0 ∧ (∀ g, S0 g → w.heap.size ≤ g) ∧ w.heap.size ≤ gt ∧ Below w.heap.size w W
theorem Own.below {w W W' : World} {gt : Nat} {T : Tr} (h : Own w gt T W) (hb : Below W.heap.size W W') : Own w gt T W' := by
  obtain ⟨S0, h1, h2, h3, h4⟩ := h
  exact ⟨S0, h1.below hb, h2, h3, h4.trans (hb.mono h4.size)⟩
theorem Own.low {w W : World} {gt : Nat} {T : Tr} (h : Own w gt T W) : Below w.heap.size w W := by
  obtain ⟨S0, h1, h2, h3, h4⟩ := h
  exact h4
theorem Own.wf {w W : World} {gt : Nat} {T : Tr} (h : Own w gt T W) : WF T := by
  obtain ⟨S0, h1, h2, h3, h4⟩ := h
  exact h1.1
theorem own_new {w W : World} (hw : Below w.heap.size w W) : Calls Try.prog 23 #[] W fun e W' => ∃ gt, e = .returned (ptr gt) ∧ Own w gt .nil W' :=
  (new_any W).mono fun _e _W' ⟨gt, h1, h2, h3, h4⟩ => ⟨gt, h1, _, h2, fun _ h => h.elim, Nat.le_trans hw.size h3, hw.trans (h4.mono hw.size)⟩
theorem own_put {w W : World} {gt : Nat} {T : Tr} {p : Px} {z : Int} (h : Own w gt T W) (hp : Vld p) (hN : cnt T < 4611686018427387900) :
    Calls Try.prog 24 #[ptr gt, rtV p z] W fun e W' => e = .returned (.int .i64 0) ∧ Own w gt (put comF p z T) W' := by
  obtain ⟨S0, h1, h2, h3, h4⟩ := h
  refine (put_any hp h1 hN).mono ?_
  rintro e W' ⟨S0', rfl, h5, h6, h7⟩
  have hs := h4.size
  exact ⟨rfl, S0', h5, fun g hg => (h7 g hg).elim (h2 g) (fun h8 => by omega), h3, h4.trans (h6.low hs (fun g hg => hg.elim (h2 g) (fun e => by omega)))⟩
theorem own_lookup {w W : World} {gt a : Nat} {T : Tr} (h : Own w gt T W) (ha : a < 4294967296) : Calls Try.prog 17 #[ptr gt, .int .u32 (a : Int)] W fun e W' => e = .returned (lkV (lkp a none T)) ∧ Below W.heap.size W W' := by
  obtain ⟨S0, h1, h2, h3, h4⟩ := h
  exact lookup_any ha h1
theorem own_len {w W : World} {gt : Nat} {T : Tr} (h : Own w gt T W) : Calls Try.prog 14 #[ptr gt] W fun e W' => e = .returned (.int .i64 ((routes T).length : Nat)) ∧ W' = W := by
  obtain ⟨S0, h1, h2, h3, h4⟩ := h
  exact len_any h1
theorem own_nodes {w W : World} {gt : Nat} {T : Tr} (h : Own w gt T W) : Calls Try.prog 15 #[ptr gt] W fun e W' => e = .returned (.int .i64 (cnt T : Nat)) ∧ W' = W := by
  obtain ⟨S0, h1, h2, h3, h4⟩ := h
  exact nodes_any h1
theorem stb_own (w : World) (gt : Nat) (T : Tr) : Stb (fun W => Own w gt T W) := fun _ _ hb h => h.below hb

theorem run_shl24 (x : Nat) (h : x < 256) : Op.shift .shl .u32 (x : Int) .u64 24 = pure (.int .u32 ((x * 16777216 : Nat) : Int)) := by
  refine (shift_shl .u32 .u64 (x : Int) 24 (by omega) (by decide)).trans ?_
  congr 2
  simp only [IntKind.wrap, IntKind.bits, IntKind.signed]
  simp
  omega
theorem run_shl16 (x : Nat) (h : x < 256) : Op.shift .shl .u32 (x : Int) .u64 16 = pure (.int .u32 ((x * 65536 : Nat) : Int)) := by
  refine (shift_shl .u32 .u64 (x : Int) 16 (by omega) (by decide)).trans ?_
  congr 2
  simp only [IntKind.wrap, IntKind.bits, IntKind.signed]
  simp
  omega
set_option maxRecDepth 100000 in
set_option maxHeartbeats 2000000 in
theorem mkroute {w : World} (a b A : Nat) (n v : Int) (ha : a < 256) (hb : b < 256) (hA : a * 16777216 ||| b * 65536 = A) :
    Calls Try.prog 28 #[.int .i64 (a : Int), .int .i64 (b : Int), .int .i64 n, .int .i64 v] w fun e W => e = .returned (.agg #[.int .u32 (A : Int), .int .i64 n, .int .i64 v]) ∧ Below w.heap.size w W := by
  have e1 := run_shl24 a ha
  have e2 := run_shl16 b hb
  have e3 := run_or_nat (a * 16777216) (b * 65536) (by omega) (by omega) hA
  have w1 : IntKind.u32.wrap (a : Int) = (a : Int) := IntWalk.u32_in _ ⟨by omega, by omega⟩
  have w2 : IntKind.u32.wrap (b : Int) = (b : Int) := IntWalk.u32_in _ ⟨by omega, by omega⟩
  obtain ⟨w9, hw9, S⟩ : ∃ w1, w.alloc (.cells #[.int .u32 0, .int .i64 0, .int .i64 0] 37) = w1 ∧ Hid (Sr w [] [(w.heap.size, [.int .u32 0, .int .i64 0, .int .i64 0], 37)] w1) :=
    ⟨_, rfl, (Sr.start w).alloc [.int .u32 0, .int .i64 0, .int .i64 0] 37⟩
  obtain ⟨x, hx⟩ : ∃ x, a * 16777216 = x := ⟨_, rfl⟩
  obtain ⟨y, hy⟩ : ∃ y, b * 65536 = y := ⟨_, rfl⟩
  rw [hx] at e1 e3
  rw [hy] at e2 e3
  clear ha hb hA hx hy
  have c0x0 := (S.out.at 0 rfl).cell (i := 0) rfl
  have f0x0 := (S.out.at 0 rfl).frozen (i := 0)
  have c0x1 := (S.out.at 0 rfl).cell (i := 1) rfl
  have f0x1 := (S.out.at 0 rfl).frozen (i := 1)
  have c0x2 := (S.out.at 0 rfl).cell (i := 2) rfl
  have f0x2 := (S.out.at 0 rfl).frozen (i := 2)
  go_enter Try.func28, Try.ntmps28
  go_wp2_with fail
  have S1 := ((S.out.set 0 rfl (Nat.le_refl _) 0 (.int .u32 (A : Int)) rfl).set 0 rfl (Nat.le_refl _) 1 (.int .i64 n) rfl).set 0 rfl (Nat.le_refl _) 2 (.int .i64 v) rfl
  simp only [List.set_cons_zero, List.set_cons_succ] at S1
  have T := Lib.hid S1
  clear S1 hw9
  have c0x0 := (T.out.at 0 rfl).cell (i := 0) rfl
  have c0x1 := (T.out.at 0 rfl).cell (i := 1) rfl
  have c0x2 := (T.out.at 0 rfl).cell (i := 2) rfl
  refine bodyPost_ret (v := .agg #[.int .u32 (A : Int), .int .i64 n, .int .i64 v]) (by simp [results, Try.results28, go_sem, c0x0, c0x1, c0x2]) rfl ?_
  exact ⟨rfl, T.out.low⟩
def T1 : Tr := put comF (167772160, 8) 1 .nil
def T2 : Tr := put comF (167837696, 16) 2 T1
def T3 : Tr := put comF (167903232, 16) 3 T2
theorem t3_facts : Vld (167772160, 8) ∧ Vld (167837696, 16) ∧ Vld (167903232, 16) ∧ cnt T1 = 1 ∧ cnt T2 = 2 ∧ cnt T3 = 4 ∧ (routes T3).length = 3 ∧ lkp 167837701 none T3 = some ((167837696, 16), 2) ∧ lkp 168361984 none T3 = some ((167772160, 8), 1) := by decide +kernel
set_option maxRecDepth 100000 in
set_option maxHeartbeats 8000000 in
theorem awake_any (w : World) : Calls Try.prog 10 #[] w fun e W => e = .returned (.bool true) ∧ Below w.heap.size w W := by
  obtain ⟨v1, v2, v3, n1, n2, n3, l3, k1, k2⟩ := t3_facts
  have hN := Lib.hid (own_new (Below.refl w.heap.size w))
  have r1 := Lib.hid (fun W => mkroute (w := W) 10 0 167772160 8 1 (by omega) (by omega) (by decide))
  have r2 := Lib.hid (fun W => mkroute (w := W) 10 1 167837696 16 2 (by omega) (by omega) (by decide))
  have r3 := Lib.hid (fun W => mkroute (w := W) 10 2 167903232 16 3 (by omega) (by omega) (by decide))
  have p1 := Lib.hid (fun W gt (h : Own w gt .nil W) => own_put (z := 1) h v1 (by decide))
  have p2 := Lib.hid (fun W gt (h : Own w gt T1 W) => own_put (z := 2) h v2 (by rw [n1]; omega))
  have p3 := Lib.hid (fun W gt (h : Own w gt T2 W) => own_put (z := 3) h v3 (by rw [n2]; omega))
  have q1 := Lib.hid (fun W gt (h : Own w gt T3 W) => own_lookup (a := 167837701) h (by omega))
  have q2 := Lib.hid (fun W gt (h : Own w gt T3 W) => own_lookup (a := 168361984) h (by omega))
  have q3 := Lib.hid (fun W gt (h : Own w gt T3 W) => own_len h)
  have q4 := Lib.hid (fun W gt (h : Own w gt T3 W) => own_nodes h)
  rw [k1] at q1
  rw [k2] at q2
  rw [l3] at q3
  rw [n3] at q4
  change Hid (∀ W gt, Own w gt .nil W → Calls Try.prog 24 #[.pointer (some ⟨gt, 0, none⟩), .agg #[.int .u32 167772160, .int .i64 8, .int .i64 1]] W fun e W' => e = .returned (.int .i64 0) ∧ Own w gt T1 W') at p1
  change Hid (∀ W gt, Own w gt T1 W → Calls Try.prog 24 #[.pointer (some ⟨gt, 0, none⟩), .agg #[.int .u32 167837696, .int .i64 16, .int .i64 2]] W fun e W' => e = .returned (.int .i64 0) ∧ Own w gt T2 W') at p2
  change Hid (∀ W gt, Own w gt T2 W → Calls Try.prog 24 #[.pointer (some ⟨gt, 0, none⟩), .agg #[.int .u32 167903232, .int .i64 16, .int .i64 3]] W fun e W' => e = .returned (.int .i64 0) ∧ Own w gt T3 W') at p3
  unfold ptr at q1 q2 q3 q4
  clear v1 v2 v3 n1 n2 n3 l3 k1 k2
  go_enter Try.func10, Try.ntmps10
  go_wp2_with fail
  refine hN.out.mono ?_
  rintro e w1 ⟨gt, rfl, ho⟩
  have H := Lib.hid ho
  clear ho hN
  unfold ptr
  go_wp2_with fail
  refine (r1.out _).mono ?_
  rintro e w2 ⟨rfl, hb⟩
  replace H := Lib.hid (H.out.below hb)
  clear hb r1
  go_wp2_with fail
  refine (p1.out _ _ H.out).mono ?_
  rintro e w3 ⟨rfl, ho⟩
  replace H := Lib.hid ho
  clear ho p1
  go_wp2_with fail
  refine (r2.out _).mono ?_
  rintro e w4 ⟨rfl, hb⟩
  replace H := Lib.hid (H.out.below hb)
  clear hb r2
  go_wp2_with fail
  refine (p2.out _ _ H.out).mono ?_
  rintro e w5 ⟨rfl, ho⟩
  replace H := Lib.hid ho
  clear ho p2
  go_wp2_with fail
  refine (r3.out _).mono ?_
  rintro e w6 ⟨rfl, hb⟩
  replace H := Lib.hid (H.out.below hb)
  clear hb r3
  go_wp2_with fail
  refine (p3.out _ _ H.out).mono ?_
  rintro e w7 ⟨rfl, ho⟩
  have S := Lib.hid ((Sr.start w7).push (stb_own _ _ _) ho)
  clear ho p3 H
  go_wp2_with fail
  refine (q1.out _ _ (S.out.fact 0 rfl)).mono ?_
  rintro e w8 ⟨rfl, hb⟩
  replace S := Lib.hid ((S.out.below hb).alloc [.int .u32 167837696, .int .i64 16, .int .i64 2] 37)
  generalize hx8 : w8.heap.size = x8 at S
  obtain ⟨w9, hw9⟩ : ∃ w9, w8.alloc (.cells #[.int .u32 167837696, .int .i64 16, .int .i64 2] 37) = w9 := ⟨_, rfl⟩
  rw [hw9] at S
  clear hb q1
  unfold lkV
  go_wp2_with fail
  clear hw9 hx8
  refine (q2.out _ _ (S.out.fact 0 rfl)).mono ?_
  rintro e w10 ⟨rfl, hb⟩
  replace S := Lib.hid ((S.out.below hb).alloc [.int .u32 167772160, .int .i64 8, .int .i64 1] 37)
  generalize hx10 : w10.heap.size = x10 at S
  obtain ⟨w11, hw11⟩ : ∃ w11, w10.alloc (.cells #[.int .u32 167772160, .int .i64 8, .int .i64 1] 37) = w11 := ⟨_, rfl⟩
  rw [hw11] at S
  clear hb q2
  have c1x2 := (S.out.at 1 rfl).cell (i := 2) rfl
  have c0x2 := (S.out.at 0 rfl).cell (i := 2) rfl
  have q3' := q3.out w11 gt (S.out.fact 0 rfl)
  have q4' := q4.out w11 gt (S.out.fact 0 rfl)
  have HL := Lib.hid (Own.low (S.out.fact 0 rfl))
  clear q3 q4 S
  unfold lkV
  go_wp2_with fail
  refine q3'.mono ?_
  rintro e w' ⟨rfl, rfl⟩
  go_wp2_with fail
  refine q4'.mono ?_
  rintro e w' ⟨rfl, rfl⟩
  go_wp2_with fail
  go_ret
  exact ⟨rfl, HL.out⟩
end Go.Proofs.Ytamkegnnlbefdaa
