/- Contract: cut. -/
import Derived.Test.YtamkegnnlbefdabCoE
import Derived.RegionTactic
namespace Go.Proofs.Ytamkegnnlbefdab
open Go.RowKit

set_option maxRecDepth 100000 in
set_option maxHeartbeats 8000000 in
theorem cut_short {w : World} {A : Option Addr} {n c : Nat} {t : List UInt8} (h : By w (.slice A n c) t) (h3 : t.length < 3) :
    Calls Try.prog 32 #[.slice A n c] w fun e w' => e = .returned (.tuple #[.agg #[.int .i64 0, .slice none 0 0], .slice none 0 0, .int .i64 4]) ∧ Below w.heap.size w w' := by
  obtain ⟨e, hc, hc2⟩ := h.len
  have g1 : ((n : Int) < 3) := by omega
  obtain ⟨w1, hw1, S⟩ : ∃ w1, w.alloc (.cells #[.int .i64 0, .slice none 0 0] prT) = w1 ∧ Hid (Sr w [] [(w.heap.size, [.int .i64 0, .slice none 0 0], prT)] w1) := ⟨_, rfl, (Sr.start w).alloc [.int .i64 0, .slice none 0 0] prT⟩
  clear h h3 e
  go_enter Try.func32, Try.ntmps32
  have c0x0 := (S.out.at 0 rfl).cell (i := 0) rfl
  have f0x0 := (S.out.at 0 rfl).frozen (i := 0)
  have c0x1 := (S.out.at 0 rfl).cell (i := 1) rfl
  have f0x1 := (S.out.at 0 rfl).frozen (i := 1)
  go_wp2_with fail
  clear c0x0 c0x1 f0x0 f0x1
  have S1 := (S.out.set 0 rfl (Nat.le_refl _) (by decide) 0 (.int .i64 0) rfl).set 0 rfl (Nat.le_refl _) (by decide) 1 (.slice none 0 0) rfl
  simp only [List.set_cons_zero, List.set_cons_succ] at S1
  have T := Lib.hid S1
  clear S1
  have c0x0 := (T.out.at 0 rfl).cell (i := 0) rfl
  have c0x1 := (T.out.at 0 rfl).cell (i := 1) rfl
  refine bodyPost_ret (v := .tuple #[.agg #[.int .i64 0, .slice none 0 0], .slice none 0 0, .int .i64 4]) (by simp [results, Try.results32, go_sem, c0x0, c0x1]) rfl ?_
  exact ⟨rfl, T.out.low⟩
set_option maxRecDepth 100000 in
set_option maxHeartbeats 8000000 in
theorem cut_zero {w : World} {A : Option Addr} {n c : Nat} {t : List UInt8} (h : By w (.slice A n c) t) (h3 : 3 ≤ t.length) (h0 : t[0].toNat = 0) :
    Calls Try.prog 32 #[.slice A n c] w fun e w' => e = .returned (.tuple #[.agg #[.int .i64 0, .slice none 0 0], .slice none 0 0, .int .i64 4]) ∧ Below w.heap.size w w' := by
  obtain ⟨e, hc, hc2⟩ := h.len
  obtain ⟨a, rfl, hab, q0⟩ := h.at_ (i := 0) (by omega)
  have g1 : ¬ ((n : Int) < 3) := by omega
  have gc : (3 : Int) ≤ (c : Int) := by omega
  have gn0 : 0 < n := by omega
  have gn1 : ¬ n = 0 := by omega
  obtain ⟨w1, hw1, S⟩ : ∃ w1, w.alloc (.cells #[.int .i64 0, .slice none 0 0] prT) = w1 ∧ Hid (Sr w [] [(w.heap.size, [.int .i64 0, .slice none 0 0], prT)] w1) := ⟨_, rfl, (Sr.start w).alloc [.int .i64 0, .slice none 0 0] prT⟩
  have c0 := ((S.out.low.cell (p := a.add 0) (by rw [add_block]; exact hab)).trans q0)
  have c0' := c0
  rw [show a.add 0 = a by cases a; simp [Addr.add]] at c0'
  clear q0
  rw [h0] at c0 c0'
  clear h h3 e h0
  go_enter Try.func32, Try.ntmps32
  have c0x0 := (S.out.at 0 rfl).cell (i := 0) rfl
  have f0x0 := (S.out.at 0 rfl).frozen (i := 0)
  have c0x1 := (S.out.at 0 rfl).cell (i := 1) rfl
  have f0x1 := (S.out.at 0 rfl).frozen (i := 1)
  go_wp2_with fail
  clear c0x0 c0x1 f0x0 f0x1
  have S1 := (S.out.set 0 rfl (Nat.le_refl _) (by decide) 0 (.int .i64 0) rfl).set 0 rfl (Nat.le_refl _) (by decide) 1 (.slice none 0 0) rfl
  simp only [List.set_cons_zero, List.set_cons_succ] at S1
  have T := Lib.hid S1
  clear S1
  have c0x0 := (T.out.at 0 rfl).cell (i := 0) rfl
  have c0x1 := (T.out.at 0 rfl).cell (i := 1) rfl
  refine bodyPost_ret (v := .tuple #[.agg #[.int .i64 0, .slice none 0 0], .slice none 0 0, .int .i64 4]) (by simp [results, Try.results32, go_sem, c0x0, c0x1]) rfl ?_
  exact ⟨rfl, T.out.low⟩
set_option maxRecDepth 100000 in
set_option maxHeartbeats 8000000 in
theorem cut_long {w : World} {A : Option Addr} {n c N : Nat} {t : List UInt8} (h : By w (.slice A n c) t) (h3 : 3 ≤ t.length) (h0 : t[0].toNat ≠ 0) (hN : N = t[1].toNat * 256 + t[2].toNat) (hl : t.length < N + 3) :
    Calls Try.prog 32 #[.slice A n c] w fun e w' => e = .returned (.tuple #[.agg #[.int .i64 0, .slice none 0 0], .slice none 0 0, .int .i64 4]) ∧ Below w.heap.size w w' := by
  have hT1 := Lib.hid (fun W (hw : Below w.heap.size w W) => number_any (w := W) (((h.tl (k := 1) (by omega)).hd (k := 2) (by rw [List.length_drop]; omega)).below hw) (by rw [List.length_take]; omega))
  have hnum : numB ((t.drop 1).take 2) = N := by
    rw [hN]
    obtain ⟨x0, x1, x2, r, rfl⟩ : ∃ x0 x1 x2 r, t = x0 :: x1 :: x2 :: r := by
      match t, h3 with
      | x0 :: x1 :: x2 :: r, _ => exact ⟨x0, x1, x2, r, rfl⟩
    simp [numB]
  obtain ⟨e, hc, hc2⟩ := h.len
  obtain ⟨a, rfl, hab, q0⟩ := h.at_ (i := 0) (by omega)
  have g1 : ¬ ((n : Int) < 3) := by omega
  have gc : (3 : Int) ≤ (c : Int) := by omega
  have gn0 : 0 < n := by omega
  have gn1 : ¬ n = 0 := by omega
  obtain ⟨w1, hw1, S⟩ : ∃ w1, w.alloc (.cells #[.int .i64 0, .slice none 0 0] prT) = w1 ∧ Hid (Sr w [] [(w.heap.size, [.int .i64 0, .slice none 0 0], prT)] w1) := ⟨_, rfl, (Sr.start w).alloc [.int .i64 0, .slice none 0 0] prT⟩
  have c0 := ((S.out.low.cell (p := a.add 0) (by rw [add_block]; exact hab)).trans q0)
  have c0' := c0
  rw [show a.add 0 = a by cases a; simp [Addr.add]] at c0'
  clear q0
  have hx : t[0].toNat < 256 := t[0].toNat_lt
  obtain ⟨b0, hb0⟩ : ∃ b0 : Nat, t[0].toNat = b0 := ⟨_, rfl⟩
  rw [hb0] at c0 c0' h0 hx
  have z0 : ((b0 : Int) == 0) = false := by simp; omega
  have HN := Lib.hid hnum
  have HE := Lib.hid e
  have HH := Lib.hid h
  have glt : n - 3 < N := by omega
  clear h h3 e h0 hnum hN hb0 hl
  go_enter Try.func32, Try.ntmps32
  go_wp2_with fail
  refine wp_region_held_drew (S := fun W' => True) (by kernel_rfl) (trivial) (fun hHeld => ?_)
  replace S := Lib.hid S.out.drew
  generalize w1.drew = w2 at S hHeld ⊢
  refine wpAnyH_takeD 0 (v := ?_) rfl rfl (by kernel_rfl) (by kernel_rfl) (by kernel_rfl) (fun _ _ _ h => h) (Or.inl ⟨by rfl, ?_⟩) hHeld ?_
  rotate_left
  focus (intro w hSw; (try dsimp only at hSw); go_simp; try with_reducible rfl)
  try simp only [List.setIfInBounds_toArray, List.set_cons_zero, List.set_cons_succ]
  refine wpAnyH_takeD 1 (v := .slice (tlA (some a) c 1) 2 (c - 1)) rfl rfl (by kernel_rfl) (by kernel_rfl) (by kernel_rfl) (fun _ _ _ h => h) (Or.inl ⟨by rfl, ?_⟩) hHeld ?_
  · intro w hSw
    go_simp
    rfl
  simp only [List.setIfInBounds_toArray, List.set_cons_zero, List.set_cons_succ]
  refine wpAnyH_takeD 3 (v := ?_) rfl rfl (by kernel_rfl) (by kernel_rfl) (by kernel_rfl) (fun _ _ _ h => h) (Or.inl ⟨by rfl, ?_⟩) hHeld ?_
  rotate_left
  focus (intro w hSw; (try dsimp only at hSw); go_simp; try with_reducible rfl)
  try simp only [List.setIfInBounds_toArray, List.set_cons_zero, List.set_cons_succ]
  refine wpAnyH_takeD 4 (v := .slice (tlA (some a) c 3) (n - 3) (c - 3)) rfl rfl (by kernel_rfl) (by kernel_rfl) (by kernel_rfl) (fun _ _ _ h => h) (Or.inl ⟨by rfl, ?_⟩) hHeld ?_
  · intro w hSw
    go_simp
    rfl
  simp only [List.setIfInBounds_toArray, List.set_cons_zero, List.set_cons_succ]
  refine wpAnyH_ready (rs := [2]) (by kernel_rfl) (by simp) ?_
  refine AllReadyH.cons rfl (fun K hK => ?_) AllReadyH.nil
  go_simp
  refine (hT1.out _ S.out.low).mono ?_
  rintro e w3 ⟨rfl, rfl⟩
  rw [HN.out]
  refine hK.out _ _ (trivial) (fun hHeld => ?_)
  clear hK K
  refine wpAnyH_takeD 5 (v := ?_) rfl rfl (by kernel_rfl) (by kernel_rfl) (by kernel_rfl) (fun _ _ _ h => h) (Or.inl ⟨by rfl, ?_⟩) hHeld ?_
  rotate_left
  focus (intro w hSw; (try dsimp only at hSw); go_simp; try with_reducible rfl)
  try simp only [List.setIfInBounds_toArray, List.set_cons_zero, List.set_cons_succ]
  refine wpAnyH_takeD 6 (v := ?_) rfl rfl (by kernel_rfl) (by kernel_rfl) (by kernel_rfl) (fun _ _ _ h => h) (Or.inl ⟨by rfl, ?_⟩) hHeld ?_
  rotate_left
  focus (intro w hSw; (try dsimp only at hSw); go_simp; try with_reducible rfl)
  try simp only [List.setIfInBounds_toArray, List.set_cons_zero, List.set_cons_succ]
  refine wpAnyH_done (by kernel_rfl) ?_ _
  have c0x0 := (S.out.at 0 rfl).cell (i := 0) rfl
  have f0x0 := (S.out.at 0 rfl).frozen (i := 0)
  have c0x1 := (S.out.at 0 rfl).cell (i := 1) rfl
  have f0x1 := (S.out.at 0 rfl).frozen (i := 1)
  go_wp2_with fail
  clear c0x0 c0x1 f0x0 f0x1
  have S1 := (S.out.set 0 rfl (Nat.le_refl _) (by decide) 0 (.int .i64 0) rfl).set 0 rfl (Nat.le_refl _) (by decide) 1 (.slice none 0 0) rfl
  simp only [List.set_cons_zero, List.set_cons_succ] at S1
  have T := Lib.hid S1
  clear S1
  have c0x0 := (T.out.at 0 rfl).cell (i := 0) rfl
  have c0x1 := (T.out.at 0 rfl).cell (i := 1) rfl
  refine bodyPost_ret (v := .tuple #[.agg #[.int .i64 0, .slice none 0 0], .slice none 0 0, .int .i64 4]) (by simp [results, Try.results32, go_sem, c0x0, c0x1]) rfl ?_
  exact ⟨rfl, T.out.low⟩
def CutP (w : World) (A : Option Addr) (n c : Nat) (b : List UInt8) (x : Int) (v t : List UInt8) (e : Ending) (w' : World) : Prop := ∃ A1 n1 c1 A2 n2 c2, e = .returned (.tuple #[.agg #[.int .i64 x, .slice A1 n1 c1], .slice A2 n2 c2, .int .i64 0]) ∧ ByT w' (.slice A1 n1 c1) v ∧ (∀ V, By V (.slice A n c) b → By V (.slice A2 n2 c2) t) ∧ Below w.heap.size w w'
set_option maxRecDepth 100000 in
set_option maxHeartbeats 8000000 in
theorem cut_good {w : World} {A : Option Addr} {n c N : Nat} {t : List UInt8} (h : By w (.slice A n c) t) (h3 : 3 ≤ t.length) (h0 : t[0].toNat ≠ 0) (hN : N = t[1].toNat * 256 + t[2].toNat) (hl : N + 3 ≤ t.length) :
    Calls Try.prog 32 #[.slice A n c] w fun e w' => CutP w A n c t (t[0].toNat : Int) ((t.drop 3).take N) (t.drop (3 + N)) e w' := by
  have hT1 := Lib.hid (fun W (hw : Below w.heap.size w W) => number_any (w := W) (((h.tl (k := 1) (by omega)).hd (k := 2) (by rw [List.length_drop]; omega)).below hw) (by rw [List.length_take]; omega))
  have hnum : numB ((t.drop 1).take 2) = N := by
    rw [hN]
    obtain ⟨x0, x1, x2, r, rfl⟩ : ∃ x0 x1 x2 r, t = x0 :: x1 :: x2 :: r := by
      match t, h3 with
      | x0 :: x1 :: x2 :: r, _ => exact ⟨x0, x1, x2, r, rfl⟩
    simp [numB]
  obtain ⟨e, hc, hc2⟩ := h.len
  obtain ⟨a, rfl, hab, q0⟩ := h.at_ (i := 0) (by omega)
  have g1 : ¬ ((n : Int) < 3) := by omega
  have gc : (3 : Int) ≤ (c : Int) := by omega
  have gn0 : 0 < n := by omega
  have gn1 : ¬ n = 0 := by omega
  obtain ⟨w1, hw1, S⟩ : ∃ w1, w.alloc (.cells #[.int .i64 0, .slice none 0 0] prT) = w1 ∧ Hid (Sr w [] [(w.heap.size, [.int .i64 0, .slice none 0 0], prT)] w1) := ⟨_, rfl, (Sr.start w).alloc [.int .i64 0, .slice none 0 0] prT⟩
  have c0 := ((S.out.low.cell (p := a.add 0) (by rw [add_block]; exact hab)).trans q0)
  have c0' := c0
  rw [show a.add 0 = a by cases a; simp [Addr.add]] at c0'
  have hx : t[0].toNat < 256 := t[0].toNat_lt
  obtain ⟨b0, hb0⟩ : ∃ b0 : Nat, t[0].toNat = b0 := ⟨_, rfl⟩
  rw [hb0] at c0 c0' h0 hx
  have z0 : ((b0 : Int) == 0) = false := by simp; omega
  have HN := Lib.hid hnum
  have HE := Lib.hid e
  have HH := Lib.hid h
  have glt : ¬ (n - 3 < N) := by omega
  have gN1 : N ≤ n - 3 := by omega
  have gN2 : N ≤ c - 3 := by omega
  have gN3 : c - 3 ≤ 9223372036854775807 := by omega
  have gN4 : N ≤ 70000 := by
    have h1 := t[1].toNat_lt
    have h2 := t[2].toNat_lt
    omega
  obtain ⟨a3, ha3⟩ : ∃ a3, tlA (some a) c 3 = some a3 := by
    unfold tlA
    split
    · exact ⟨_, rfl⟩
    · exact ⟨_, rfl⟩
  have h5 := h.tl (k := 3) (by omega)
  rw [ha3] at h5
  have hT2 := Lib.hid (fun W (hw : Below w.heap.size w W) => clone_any (w := W) ((h5.hd (k := N) (by rw [List.length_drop]; omega)).below hw) (by omega))
  have hT3 := Lib.hid (fun V (hv : By V (.slice (some a) n c) t) => by
    have h6 := hv.tl (k := 3) (by omega)
    rw [ha3] at h6
    have h7 := h6.tl (k := N) (by rw [List.length_drop]; omega)
    rw [List.drop_drop] at h7
    exact h7)
  have HA := Lib.hid ha3
  have HQ := Lib.hid q0
  rw [hb0] at HQ ⊢
  clear h h3 e h0 hnum hN hb0 hl h5 ha3 q0
  go_enter Try.func32, Try.ntmps32
  go_wp2_with fail
  refine wp_region_held_drew (S := fun W' => True) (by kernel_rfl) (trivial) (fun hHeld => ?_)
  replace S := Lib.hid S.out.drew
  generalize w1.drew = w2 at S hHeld ⊢
  refine wpAnyH_takeD 0 (v := ?_) rfl rfl (by kernel_rfl) (by kernel_rfl) (by kernel_rfl) (fun _ _ _ h => h) (Or.inl ⟨by rfl, ?_⟩) hHeld ?_
  rotate_left
  focus (intro w hSw; (try dsimp only at hSw); go_simp; try with_reducible rfl)
  try simp only [List.setIfInBounds_toArray, List.set_cons_zero, List.set_cons_succ]
  refine wpAnyH_takeD 1 (v := .slice (tlA (some a) c 1) 2 (c - 1)) rfl rfl (by kernel_rfl) (by kernel_rfl) (by kernel_rfl) (fun _ _ _ h => h) (Or.inl ⟨by rfl, ?_⟩) hHeld ?_
  · intro w hSw
    go_simp
    rfl
  simp only [List.setIfInBounds_toArray, List.set_cons_zero, List.set_cons_succ]
  refine wpAnyH_takeD 3 (v := ?_) rfl rfl (by kernel_rfl) (by kernel_rfl) (by kernel_rfl) (fun _ _ _ h => h) (Or.inl ⟨by rfl, ?_⟩) hHeld ?_
  rotate_left
  focus (intro w hSw; (try dsimp only at hSw); go_simp; try with_reducible rfl)
  try simp only [List.setIfInBounds_toArray, List.set_cons_zero, List.set_cons_succ]
  refine wpAnyH_takeD 4 (v := .slice (some a3) (n - 3) (c - 3)) rfl rfl (by kernel_rfl) (by kernel_rfl) (by kernel_rfl) (fun _ _ _ h => h) (Or.inl ⟨by rfl, ?_⟩) hHeld ?_
  · intro w hSw
    rw [← HA.out]
    go_simp
    rfl
  simp only [List.setIfInBounds_toArray, List.set_cons_zero, List.set_cons_succ]
  refine wpAnyH_ready (rs := [2]) (by kernel_rfl) (by simp) ?_
  refine AllReadyH.cons rfl (fun K hK => ?_) AllReadyH.nil
  go_simp
  refine (hT1.out _ S.out.low).mono ?_
  rintro e w3 ⟨rfl, rfl⟩
  rw [HN.out]
  refine hK.out _ _ (trivial) (fun hHeld => ?_)
  clear hK K
  refine wpAnyH_takeD 5 (v := ?_) rfl rfl (by kernel_rfl) (by kernel_rfl) (by kernel_rfl) (fun _ _ _ h => h) (Or.inl ⟨by rfl, ?_⟩) hHeld ?_
  rotate_left
  focus (intro w hSw; (try dsimp only at hSw); go_simp; try with_reducible rfl)
  try simp only [List.setIfInBounds_toArray, List.set_cons_zero, List.set_cons_succ]
  refine wpAnyH_takeD 6 (v := ?_) rfl rfl (by kernel_rfl) (by kernel_rfl) (by kernel_rfl) (fun _ _ _ h => h) (Or.inl ⟨by rfl, ?_⟩) hHeld ?_
  rotate_left
  focus (intro w hSw; (try dsimp only at hSw); go_simp; try with_reducible rfl)
  try simp only [List.setIfInBounds_toArray, List.set_cons_zero, List.set_cons_succ]
  refine wpAnyH_done (by kernel_rfl) ?_ _
  go_wp2_with fail
  have hwb : IntKind.i64.wrap (b0 : Int) = (b0 : Int) := IntWalk.i64_in _ (by omega)
  have q1 := (S.out.low.cell (p := a.add 0) (by rw [add_block]; exact hab)).trans HQ.out
  have q2 := q1
  rw [show a.add 0 = a by cases a; simp [Addr.add]] at q2
  refine wp_region_held_drew (S := fun W' => W'.cell? (a.add 0) = some (.int .u8 (b0 : Int)) ∧ W'.cell? a = some (.int .u8 (b0 : Int))) (by kernel_rfl) ⟨q1, q2⟩ (fun hHeld => ?_)
  replace S := Lib.hid S.out.drew
  clear q1 q2
  generalize w2.drew = w4 at S hHeld ⊢
  refine wpAnyH_takeD 0 (v := ?_) rfl rfl (by kernel_rfl) (by kernel_rfl) (by kernel_rfl) (fun _ _ _ h => h) (Or.inl ⟨by rfl, ?_⟩) hHeld ?_
  rotate_left
  focus (intro w hSw; (try dsimp only at hSw); go_simp; try with_reducible rfl)
  try simp only [List.setIfInBounds_toArray, List.set_cons_zero, List.set_cons_succ]
  refine wpAnyH_takeD 1 (v := ?_) rfl rfl (by kernel_rfl) (by kernel_rfl) (by kernel_rfl) (fun _ _ _ h => h) (Or.inl ⟨by rfl, ?_⟩) hHeld ?_
  rotate_left
  focus (intro w hSw; (try dsimp only at hSw); go_simp; try with_reducible rfl)
  try simp only [List.setIfInBounds_toArray, List.set_cons_zero, List.set_cons_succ]
  refine wpAnyH_takeD 2 (v := ?_) rfl rfl (by kernel_rfl) (by kernel_rfl) (by kernel_rfl) (fun _ _ _ h => h) (Or.inl ⟨by rfl, ?_⟩) hHeld ?_
  rotate_left
  focus (intro w hSw; (try dsimp only at hSw); go_simp; try with_reducible rfl)
  try simp only [List.setIfInBounds_toArray, List.set_cons_zero, List.set_cons_succ]
  refine wpAnyH_takeD 3 (v := ?_) rfl rfl (by kernel_rfl) (by kernel_rfl) (by kernel_rfl) (fun _ _ _ h => h) (Or.inl ⟨by rfl, ?_⟩) hHeld ?_
  rotate_left
  focus (intro w hSw; (try dsimp only at hSw); go_simp; try with_reducible rfl)
  try simp only [List.setIfInBounds_toArray, List.set_cons_zero, List.set_cons_succ]
  refine wpAnyH_takeD 4 (v := ?_) rfl rfl (by kernel_rfl) (by kernel_rfl) (by kernel_rfl) (fun _ _ _ h => h) (Or.inl ⟨by rfl, ?_⟩) hHeld ?_
  rotate_left
  focus (intro w hSw; (try dsimp only at hSw); go_simp; try with_reducible rfl)
  try simp only [List.setIfInBounds_toArray, List.set_cons_zero, List.set_cons_succ]
  refine wpAnyH_takeD 5 (v := ?_) rfl rfl (by kernel_rfl) (by kernel_rfl) (by kernel_rfl) (fun _ _ _ h => h) (Or.inl ⟨by rfl, ?_⟩) hHeld ?_
  rotate_left
  focus (intro w hSw; (try dsimp only at hSw); go_simp; try with_reducible rfl)
  try simp only [List.setIfInBounds_toArray, List.set_cons_zero, List.set_cons_succ]
  refine wpAnyH_takeD 6 (v := .slice (some a3) N (c - 3)) rfl rfl (by kernel_rfl) (by kernel_rfl) (by kernel_rfl) (fun _ _ _ h => h) (Or.inl ⟨by rfl, ?_⟩) hHeld ?_
  · intro w hSw
    go_simp
  simp only [List.setIfInBounds_toArray, List.set_cons_zero, List.set_cons_succ]
  refine wpAnyH_takeD 9 (v := ?_) rfl rfl (by kernel_rfl) (by kernel_rfl) (by kernel_rfl) (fun _ _ _ h => h) (Or.inl ⟨by rfl, ?_⟩) hHeld ?_
  rotate_left
  focus (intro w hSw; (try dsimp only at hSw); go_simp; try with_reducible rfl)
  try simp only [List.setIfInBounds_toArray, List.set_cons_zero, List.set_cons_succ]
  refine wpAnyH_takeD 10 (v := ?_) rfl rfl (by kernel_rfl) (by kernel_rfl) (by kernel_rfl) (fun _ _ _ h => h) (Or.inl ⟨by rfl, ?_⟩) hHeld ?_
  rotate_left
  focus (intro w hSw; (try dsimp only at hSw); go_simp; try with_reducible rfl)
  try simp only [List.setIfInBounds_toArray, List.set_cons_zero, List.set_cons_succ]
  refine wpAnyH_takeD 11 (v := .slice (tlA (some a3) (c - 3) N) (n - 3 - N) (c - 3 - N)) rfl rfl (by kernel_rfl) (by kernel_rfl) (by kernel_rfl) (fun _ _ _ h => h) (Or.inl ⟨by rfl, ?_⟩) hHeld ?_
  · intro w hSw
    go_simp
    rfl
  simp only [List.setIfInBounds_toArray, List.set_cons_zero, List.set_cons_succ]
  refine wpAnyH_ready (rs := [7]) (by kernel_rfl) (by simp) ?_
  refine AllReadyH.cons rfl (fun K hK => ?_) AllReadyH.nil
  go_simp
  refine (hT2.out _ S.out.low).mono ?_
  rintro e w5 ⟨A', c', rfl, hT, hb⟩
  replace S := Lib.hid ((S.out.below hb).push (stb_byT _ _) hT)
  clear hT hb
  refine hK.out _ _ ⟨(S.out.low.cell (p := a.add 0) (by rw [add_block]; exact hab)).trans HQ.out, (by have q1 := (S.out.low.cell (p := a.add 0) (by rw [add_block]; exact hab)).trans HQ.out; rw [show a.add 0 = a by cases a; simp [Addr.add]] at q1; exact q1)⟩ (fun hHeld => ?_)
  clear hK K
  refine wpAnyH_takeD 8 (v := ?_) rfl rfl (by kernel_rfl) (by kernel_rfl) (by kernel_rfl) (fun _ _ _ h => h) (Or.inl ⟨by rfl, ?_⟩) hHeld ?_
  rotate_left
  focus (intro w hSw; (try dsimp only at hSw); go_simp; try with_reducible rfl)
  try simp only [List.setIfInBounds_toArray, List.set_cons_zero, List.set_cons_succ]
  have c0x0 := (S.out.at 0 rfl).cell (i := 0) rfl
  have f0x0 := (S.out.at 0 rfl).frozen (i := 0)
  have c0x1 := (S.out.at 0 rfl).cell (i := 1) rfl
  have f0x1 := (S.out.at 0 rfl).frozen (i := 1)
  refine wpAnyH_ready (rs := [12]) (by kernel_rfl) (by simp) ?_
  refine AllReadyH.cons rfl (fun K hK => ?_) AllReadyH.nil
  go_simp
  clear c0x0 c0x1 f0x0 f0x1
  have S1 := (S.out.set 0 rfl (Nat.le_refl _) (by decide) 0 (.int .i64 (b0 : Int)) rfl).set 0 rfl (Nat.le_refl _) (by decide) 1 (.slice A' N c') rfl
  simp only [List.set_cons_zero, List.set_cons_succ] at S1
  replace S := Lib.hid S1
  clear S1
  refine hK.out _ _ ⟨(S.out.low.cell (p := a.add 0) (by rw [add_block]; exact hab)).trans HQ.out, (by have q1 := (S.out.low.cell (p := a.add 0) (by rw [add_block]; exact hab)).trans HQ.out; rw [show a.add 0 = a by cases a; simp [Addr.add]] at q1; exact q1)⟩ (fun hHeld => ?_)
  clear hK K hwb
  generalize (w5.setCell _ _).setCell _ _ = w6 at S hHeld ⊢
  refine wpAnyH_takeD 13 (v := ?_) rfl rfl (by kernel_rfl) (by kernel_rfl) (by kernel_rfl) (fun _ _ _ h => h) (Or.inl ⟨by rfl, ?_⟩) hHeld ?_
  rotate_left
  focus (intro w hSw; (try dsimp only at hSw); go_simp; try with_reducible rfl)
  try simp only [List.setIfInBounds_toArray, List.set_cons_zero, List.set_cons_succ]
  refine wpAnyH_takeD 14 (v := ?_) rfl rfl (by kernel_rfl) (by kernel_rfl) (by kernel_rfl) (fun _ _ _ h => h) (Or.inl ⟨by rfl, ?_⟩) hHeld ?_
  rotate_left
  focus (intro w hSw; (try dsimp only at hSw); go_simp; try with_reducible rfl)
  try simp only [List.setIfInBounds_toArray, List.set_cons_zero, List.set_cons_succ]
  refine wpAnyH_done (by kernel_rfl) ?_ _
  clear hHeld
  go_wp2_with fail
  have c0x0 := (S.out.at 0 rfl).cell (i := 0) rfl
  have c0x1 := (S.out.at 0 rfl).cell (i := 1) rfl
  refine bodyPost_ret (v := .tuple #[.agg #[.int .i64 (b0 : Int), .slice A' N c'], .slice (tlA (some a3) (c - 3) N) (n - 3 - N) (c - 3 - N), .int .i64 0]) (by simp [results, Try.results32, go_sem, c0x0, c0x1]) rfl ?_
  exact ⟨_, _, _, _, _, _, rfl, S.out.fact 0 rfl, fun V hv => hT3.out V hv, S.out.low⟩
/-- cut, by what the bytes begin with. -/
theorem cut_none {w : World} {A : Option Addr} {n c : Nat} {t : List UInt8} (h : By w (.slice A n c) t) (hd : dec1 t = none) :
    Calls Try.prog 32 #[.slice A n c] w fun e w' => e = .returned (.tuple #[.agg #[.int .i64 0, .slice none 0 0], .slice none 0 0, .int .i64 4]) ∧ Below w.heap.size w w' := by
  rcases Nat.lt_or_ge t.length 3 with h3 | h3
  · exact cut_short h h3
  · rw [dec1_eq h3] at hd
    split at hd
    · rename_i h0
      by_cases hz : t[0].toNat = 0
      · exact cut_zero h h3 hz
      · exact cut_long h h3 hz rfl (by rcases h0 with h0 | h0 <;> omega)
    · cases hd
theorem cut_some {w : World} {A : Option Addr} {n c : Nat} {t rest : List UInt8} {r : Rc} (h : By w (.slice A n c) t) (hd : dec1 t = some (r, rest)) :
    Calls Try.prog 32 #[.slice A n c] w (CutP w A n c t r.1 r.2 rest) := by
  rcases Nat.lt_or_ge t.length 3 with h3 | h3
  · rw [dec1_short h3] at hd; cases hd
  · rw [dec1_eq h3] at hd
    split at hd
    · cases hd
    · rename_i h0
      injection hd with hd
      injection hd with h1 h2
      subst h1 h2
      exact cut_good h h3 (by omega) rfl (by omega)
end Go.Proofs.Ytamkegnnlbefdab
