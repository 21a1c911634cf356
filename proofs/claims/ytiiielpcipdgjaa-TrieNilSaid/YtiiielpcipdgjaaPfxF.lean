/- Contracts of package prefix and of its reference: Compare; of cmp's Compare and Or. -/
import Derived.Test.YtiiielpcipdgjaaPfxE
import Derived.LoopTactic
namespace Go.Proofs.Ytiiielpcipdgjaa
open Go.RowKit

def cmpI (x y : Int) : Int := if x < y then -1 else if y < x then 1 else 0
def cmpS (a : Nat) (l : Int) (b : Nat) (m : Int) : Int := if cmpI a b ≠ 0 then cmpI a b else cmpI l m
theorem cmpU_any (x y : Nat) (w : World) : Calls Try.prog 100 #[.int .u32 (x : Int), .int .u32 (y : Int)] w fun e w' => e = .returned (.int .i64 (cmpI x y)) ∧ w' = w := by
  obtain ⟨r, hr⟩ : ∃ r, cmpI x y = r := ⟨_, rfl⟩
  rw [hr]
  have HR := Lib.hid hr
  rcases Nat.lt_trichotomy x y with h | h | h
  · obtain rfl : r = -1 := by rw [← hr]; unfold cmpI; rw [if_pos (by omega)]
    have h1 : decide (x < y) = true := decide_eq_true h
    clear hr h
    go_enter Try.func100, Try.ntmps100
    go_wp2
    go_ret
    exact ⟨rfl, rfl⟩
  · subst h
    obtain rfl : r = 0 := by rw [← hr]; unfold cmpI; rw [if_neg (by omega), if_neg (by omega)]
    clear hr
    go_enter Try.func100, Try.ntmps100
    go_wp2
    go_ret
    exact ⟨rfl, rfl⟩
  · obtain rfl : r = 1 := by rw [← hr]; unfold cmpI; rw [if_neg (by omega), if_pos (by omega)]
    have h1 : decide (x < y) = false := decide_eq_false (by omega)
    have h2 : decide (y < x) = true := decide_eq_true h
    clear hr h
    go_enter Try.func100, Try.ntmps100
    go_wp2
    go_ret
    exact ⟨rfl, rfl⟩
theorem cmpI_any (x y : Int) (w : World) : Calls Try.prog 101 #[.int .i64 x, .int .i64 y] w fun e w' => e = .returned (.int .i64 (cmpI x y)) ∧ w' = w := by
  obtain ⟨r, hr⟩ : ∃ r, cmpI x y = r := ⟨_, rfl⟩
  rw [hr]
  have HR := Lib.hid hr
  by_cases h1 : x < y
  · obtain rfl : r = -1 := by rw [← hr]; unfold cmpI; rw [if_pos (by omega)]
    have h3 : decide (x < y) = true := decide_eq_true h1
    clear hr h1
    go_enter Try.func101, Try.ntmps101
    go_wp2
    go_ret
    exact ⟨rfl, rfl⟩
  · by_cases h2 : y < x
    · obtain rfl : r = 1 := by rw [← hr]; unfold cmpI; rw [if_neg (by omega), if_pos (by omega)]
      have h3 : decide (x < y) = false := decide_eq_false h1
      have h4 : decide (y < x) = true := decide_eq_true h2
      clear hr h1 h2
      go_enter Try.func101, Try.ntmps101
      go_wp2
      go_ret
      exact ⟨rfl, rfl⟩
    · obtain rfl : x = y := by omega
      obtain rfl : r = 0 := by rw [← hr]; unfold cmpI; rw [if_neg (by omega), if_neg (by omega)]
      clear hr h1 h2
      go_enter Try.func101, Try.ntmps101
      go_wp2
      go_ret
      exact ⟨rfl, rfl⟩
theorem or_any (x y : Int) (g : Nat) (w : World) (h0 : w.cell? ⟨g, 0, none⟩ = some (.int .i64 x)) (h1 : w.cell? ⟨g, 1, none⟩ = some (.int .i64 y)) :
    Calls Try.prog 99 #[.slice (some ⟨g, 0, none⟩) 2 2] w fun e w' => e = .returned (.int .i64 (if x ≠ 0 then x else y)) ∧ w' = w := by
  obtain ⟨r, hr⟩ : ∃ r, (if x ≠ 0 then x else y) = r := ⟨_, rfl⟩
  rw [hr]
  go_enter Try.func99, Try.ntmps99
  go_wp2
  go_loop [8] (fun i => ∃ k : Nat, k ≤ 2 ∧ i = .int .i64 k ∧ (0 < k → x = 0) ∧ (1 < k → y = 0)) (fun i => 2 - (intOf i).toNat)
  case atStart => exact ⟨0, by omega, rfl, by omega, by omega⟩
  case round =>
    obtain ⟨k, hk, rfl, hx, hy⟩ := hrel
    rcases (by omega : k = 0 ∨ k = 1 ∨ k = 2) with rfl | rfl | rfl
    · by_cases hx0 : x = 0
      · subst hx0
        go_wp2
        go_round
        case rel => exact ⟨1, by omega, rfl, by simp, by simp⟩
        case measure => simp [intOf]
      · have hb : (x == 0) = false := by simp [hx0]
        have hb2 : (x != 0) = true := by simp [hx0]
        have HR := Lib.hid (show r = x by rw [← hr, if_pos hx0])
        clear hr hx hy
        go_wp2
        go_ret
        exact ⟨by rw [HR.out]; rfl, rfl⟩
    · have hx0 := hx (by omega)
      subst hx0
      by_cases hy0 : y = 0
      · subst hy0
        clear hx
        go_wp2
        go_round
        case rel => exact ⟨2, by omega, rfl, by simp, by simp⟩
        case measure => simp [intOf]
      · have hb : (y == 0) = false := by simp [hy0]
        have hb2 : (y != 0) = true := by simp [hy0]
        have HR := Lib.hid (show r = y by rw [← hr]; simp)
        clear hr hx hy
        go_wp2
        go_ret
        exact ⟨by rw [HR.out]; rfl, rfl⟩
    · have hx0 := hx (by omega)
      have hy0 := hy (by omega)
      subst hx0 hy0
      have HR := Lib.hid (show r = 0 by rw [← hr]; simp)
      clear hr hx hy
      go_wp2
      go_ret
      exact ⟨by rw [HR.out]; rfl, rfl⟩

/-- A row of two numbers. -/
def PrX (w : World) (g : Nat) (x y : Int) : Prop := w.heap[g]? = some (.cells #[.int .i64 x, .int .i64 y] 3 (0, 0))
theorem PrX.cell0 {w : World} {g : Nat} {x y : Int} (h : PrX w g x y) : w.cell? ⟨g, 0, none⟩ = some (.int .i64 x) := by rw [cell_of_row w g 0 _ _ (0, 0) h]; rfl
theorem PrX.cell1 {w : World} {g : Nat} {x y : Int} (h : PrX w g x y) : w.cell? ⟨g, 1, none⟩ = some (.int .i64 y) := by rw [cell_of_row w g 1 _ _ (0, 0) h]; rfl
/-- The worlds in which a function of two prefixes begins. -/
theorem start_pq (w : World) (a : Nat) (l : Int) (b : Nat) (m : Int) : ∃ b1 w2, b1 = w.heap.size + 1 ∧ (w.alloc (.cells #[.int .u32 (a : Int), .int .i64 l] 35)).alloc (.cells #[.int .u32 (b : Int), .int .i64 m] 35) = w2 ∧
    PB w2 w.heap.size a l ∧ PB w2 b1 b m ∧ Below w.heap.size w w2 := by
  have hP1 := PB.new w a l
  have hb1 : Below w.heap.size w (w.alloc (.cells #[.int .u32 (a : Int), .int .i64 l] 35)) := (Below.refl _ _).alloc (Nat.le_refl _) _
  refine ⟨_, _, rfl, rfl, hP1.alloc _, ?_, ?_⟩
  · have := PB.new (w.alloc (.cells #[.int .u32 (a : Int), .int .i64 l] 35)) b m
    simpa using this
  · exact hb1.alloc hb1.size _

set_option maxHeartbeats 4000000 in
theorem compare_any (a : Nat) (l : Int) (b : Nat) (m : Int) (w : World) : Calls Try.prog 95 #[pv a l, pv b m] w fun e w' => e = .returned (.int .i64 (cmpS a l b m)) ∧ Below w.heap.size w w' := by
  have hU := Lib.hid (fun W => cmpU_any a b W)
  have hI := Lib.hid (fun W => cmpI_any l m W)
  have hS : cmpS a l b m = if cmpI a b ≠ 0 then cmpI a b else cmpI l m := rfl
  obtain ⟨x, hx⟩ : ∃ x, cmpI a b = x := ⟨_, rfl⟩
  obtain ⟨y, hy⟩ : ∃ y, cmpI l m = y := ⟨_, rfl⟩
  rw [hx, hy] at hS
  rw [hx] at hU
  rw [hy] at hI
  rw [hS]
  have hO := Lib.hid (fun W g h0 h1 => or_any x y g W h0 h1)
  obtain ⟨r, hr⟩ : ∃ r, (if x ≠ 0 then x else y) = r := ⟨_, rfl⟩
  rw [hr] at hO ⊢
  obtain ⟨b1, w2, e1, hw2, hP, hQ, hb⟩ := start_pq w a l b m
  have H2 := Lib.hid (And.intro hP (And.intro hQ hb))
  have p0 := hP.cell0
  have p1 := hP.cell1
  have q0 := hQ.cell0
  have q1 := hQ.cell1
  have E1 := Lib.hid e1.symm
  clear hS hx hy hr hP hQ hb e1
  go_enter Try.func95, Try.ntmps95
  go_wp2_with fail
  try simp only [E1.out]
  refine wp_region_held_drew (S := fun W' => W'.cell? ⟨w.heap.size, 0, none⟩ = some (.int .u32 (a : Int)) ∧ W'.cell? ⟨w.heap.size, 1, none⟩ = some (.int .i64 l) ∧ W'.cell? ⟨b1, 0, none⟩ = some (.int .u32 (b : Int)) ∧ W'.cell? ⟨b1, 1, none⟩ = some (.int .i64 m)) (by kernel_rfl) ⟨p0, p1, q0, q1⟩ (fun hHeld => ?_)
  obtain ⟨w3, hw3⟩ : ∃ w3, w2.drew = w3 := ⟨_, rfl⟩
  have H3 := Lib.hid (And.intro H2.out.1.drew (And.intro H2.out.2.1.drew H2.out.2.2.drew))
  rw [hw3] at hHeld H3 ⊢
  clear hw3 hw2 H2 p0 p1 q0 q1
  refine wpAnyH_takeD 0 (v := ?_) rfl rfl (by kernel_rfl) (by kernel_rfl) (by kernel_rfl) (fun _ _ _ h => h) (Or.inl ⟨by rfl, ?_⟩) hHeld ?_
  rotate_left
  focus (intro w hSw; (try dsimp only at hSw); go_simp; try with_reducible rfl)
  simp only [List.setIfInBounds_toArray, List.set_cons_zero, List.set_cons_succ]
  refine wpAnyH_takeD 1 (v := ?_) rfl rfl (by kernel_rfl) (by kernel_rfl) (by kernel_rfl) (fun _ _ _ h => h) (Or.inl ⟨by rfl, ?_⟩) hHeld ?_
  rotate_left
  focus (intro w hSw; (try dsimp only at hSw); go_simp; try with_reducible rfl)
  simp only [List.setIfInBounds_toArray, List.set_cons_zero, List.set_cons_succ]
  refine wpAnyH_takeD 2 (v := ?_) rfl rfl (by kernel_rfl) (by kernel_rfl) (by kernel_rfl) (fun _ _ _ h => h) (Or.inl ⟨by rfl, ?_⟩) hHeld ?_
  rotate_left
  focus (intro w hSw; (try dsimp only at hSw); go_simp; try with_reducible rfl)
  simp only [List.setIfInBounds_toArray, List.set_cons_zero, List.set_cons_succ]
  refine wpAnyH_takeD 3 (v := ?_) rfl rfl (by kernel_rfl) (by kernel_rfl) (by kernel_rfl) (fun _ _ _ h => h) (Or.inl ⟨by rfl, ?_⟩) hHeld ?_
  rotate_left
  focus (intro w hSw; (try dsimp only at hSw); go_simp; try with_reducible rfl)
  simp only [List.setIfInBounds_toArray, List.set_cons_zero, List.set_cons_succ]
  refine wpAnyH_takeD 5 (v := ?_) rfl rfl (by kernel_rfl) (by kernel_rfl) (by kernel_rfl) (fun _ _ _ h => h) (Or.inl ⟨by rfl, ?_⟩) hHeld ?_
  rotate_left
  focus (intro w hSw; (try dsimp only at hSw); go_simp; try with_reducible rfl)
  simp only [List.setIfInBounds_toArray, List.set_cons_zero, List.set_cons_succ]
  refine wpAnyH_takeD 6 (v := ?_) rfl rfl (by kernel_rfl) (by kernel_rfl) (by kernel_rfl) (fun _ _ _ h => h) (Or.inl ⟨by rfl, ?_⟩) hHeld ?_
  rotate_left
  focus (intro w hSw; (try dsimp only at hSw); go_simp; try with_reducible rfl)
  simp only [List.setIfInBounds_toArray, List.set_cons_zero, List.set_cons_succ]
  refine wpAnyH_takeD 7 (v := ?_) rfl rfl (by kernel_rfl) (by kernel_rfl) (by kernel_rfl) (fun _ _ _ h => h) (Or.inl ⟨by rfl, ?_⟩) hHeld ?_
  rotate_left
  focus (intro w hSw; (try dsimp only at hSw); go_simp; try with_reducible rfl)
  simp only [List.setIfInBounds_toArray, List.set_cons_zero, List.set_cons_succ]
  refine wpAnyH_takeD 8 (v := ?_) rfl rfl (by kernel_rfl) (by kernel_rfl) (by kernel_rfl) (fun _ _ _ h => h) (Or.inl ⟨by rfl, ?_⟩) hHeld ?_
  rotate_left
  focus (intro w hSw; (try dsimp only at hSw); go_simp; try with_reducible rfl)
  simp only [List.setIfInBounds_toArray, List.set_cons_zero, List.set_cons_succ]
  refine wpAnyH_ready (rs := [4]) (by kernel_rfl) (by simp) ?_
  refine AllReadyH.cons rfl (fun K hK => ?_) AllReadyH.nil
  go_simp
  refine (hU.out _).mono ?_
  rintro e w5 ⟨rfl, rfl⟩
  refine hK.out _ _ hHeld (fun hHeld => ?_)
  clear hK K
  refine wpAnyH_ready (rs := [9]) (by kernel_rfl) (by simp) ?_
  refine AllReadyH.cons rfl (fun K hK => ?_) AllReadyH.nil
  go_simp
  refine (hI.out _).mono ?_
  rintro e w5 ⟨rfl, rfl⟩
  refine hK.out _ _ hHeld (fun hHeld => ?_)
  clear hK K
  refine wpAnyH_ready (rs := [10]) (by kernel_rfl) (by simp) ?_
  refine AllReadyH.cons rfl (fun K hK => ?_) AllReadyH.nil
  go_simp
  have hN : PrX (w5.alloc (.cells #[.int .i64 x, .int .i64 y] 3)) w5.heap.size x y := heap_alloc_new _ _
  have H6 := Lib.hid (And.intro (H3.out.1.alloc (.cells #[.int .i64 x, .int .i64 y] 3)) (And.intro (H3.out.2.1.alloc (.cells #[.int .i64 x, .int .i64 y] 3)) (H3.out.2.2.alloc H3.out.2.2.size (.cells #[.int .i64 x, .int .i64 y] 3))))
  refine hK.out _ _ ⟨H6.out.1.cell0, H6.out.1.cell1, H6.out.2.1.cell0, H6.out.2.1.cell1⟩ (fun hHeld => ?_)
  clear hK K
  refine wpAnyH_ready (rs := [11]) (by kernel_rfl) (by simp) ?_
  refine AllReadyH.cons rfl (fun K hK => ?_) AllReadyH.nil
  go_simp
  refine (hO.out _ _ hN.cell0 hN.cell1).mono ?_
  rintro e w6 ⟨rfl, rfl⟩
  refine hK.out _ _ hHeld (fun hHeld => ?_)
  clear hK K
  refine wpAnyH_takeD 12 (v := ?_) rfl rfl (by kernel_rfl) (by kernel_rfl) (by kernel_rfl) (fun _ _ _ h => h) (Or.inl ⟨by rfl, ?_⟩) hHeld ?_
  rotate_left
  focus (intro w hSw; (try dsimp only at hSw); go_simp; try with_reducible rfl)
  simp only [List.setIfInBounds_toArray, List.set_cons_zero, List.set_cons_succ]
  refine wpAnyH_done (by kernel_rfl) ?_ _
  go_wp2_with fail
  go_ret
  exact ⟨rfl, H6.out.2.2⟩

theorem cmpS_lt {a b : Nat} {l m : Int} (h : a < b) : cmpS a l b m = -1 := by unfold cmpS cmpI; rw [if_pos (show (a : Int) < b by omega)]; simp
theorem cmpS_gt {a b : Nat} {l m : Int} (h : b < a) : cmpS a l b m = 1 := by unfold cmpS cmpI; rw [if_neg (show ¬ (a : Int) < b by omega), if_pos (show (b : Int) < a by omega)]; simp
theorem cmpS_eq {a : Nat} {l m : Int} : cmpS a l a m = cmpI l m := by unfold cmpS; simp [cmpI]
def refCmpQ (w : World) (r : Int) (e : Ending) (w' : World) : Prop := e = .returned (.int .i64 r) ∧ Below w.heap.size w w'

set_option maxHeartbeats 2000000 in
theorem refCmp_lt (a : Nat) (l : Int) (b : Nat) (m : Int) (w : World) (h : a < b) : Calls Try.prog 43 #[pv a l, pv b m] w (refCmpQ w (-1)) := by
  have h1 : decide (a < b) = true := decide_eq_true h
  obtain ⟨b1, w2, e1, hw2, hP, hQ, hb⟩ := start_pq w a l b m
  subst e1
  have HB := Lib.hid hb
  have p0 := hP.cell0
  have p1 := hP.cell1
  have q0 := hQ.cell0
  have q1 := hQ.cell1
  clear hP hQ hb h
  go_enter Try.func43, Try.ntmps43
  go_wp2_with fail
  go_ret
  exact ⟨rfl, HB.out⟩

set_option maxHeartbeats 2000000 in
theorem refCmp_gt (a : Nat) (l : Int) (b : Nat) (m : Int) (w : World) (h : b < a) : Calls Try.prog 43 #[pv a l, pv b m] w (refCmpQ w 1) := by
  have h1 : decide (a < b) = false := decide_eq_false (by omega)
  have h2 : decide (a = b) = false := decide_eq_false (by omega)
  have h3 : (a == b) = false := by simp; omega
  have h4 : ¬ a = b := by omega
  obtain ⟨b1, w2, e1, hw2, hP, hQ, hb⟩ := start_pq w a l b m
  subst e1
  have HB := Lib.hid hb
  have p0 := hP.cell0
  have p1 := hP.cell1
  have q0 := hQ.cell0
  have q1 := hQ.cell1
  clear hP hQ hb h
  go_enter Try.func43, Try.ntmps43
  go_wp2_with fail
  go_ret
  exact ⟨rfl, HB.out⟩

set_option maxHeartbeats 2000000 in
theorem refCmp_el (a : Nat) (l m : Int) (w : World) (h : l < m) : Calls Try.prog 43 #[pv a l, pv a m] w (refCmpQ w (-1)) := by
  have h1 : decide (l < m) = true := decide_eq_true h
  obtain ⟨b1, w2, e1, hw2, hP, hQ, hb⟩ := start_pq w a l a m
  subst e1
  have HB := Lib.hid hb
  have p0 := hP.cell0
  have p1 := hP.cell1
  have q0 := hQ.cell0
  have q1 := hQ.cell1
  clear hP hQ hb h
  go_enter Try.func43, Try.ntmps43
  go_wp2_with fail
  go_ret
  exact ⟨rfl, HB.out⟩

set_option maxHeartbeats 2000000 in
theorem refCmp_ee (a : Nat) (l : Int) (w : World)  : Calls Try.prog 43 #[pv a l, pv a l] w (refCmpQ w 0) := by
  obtain ⟨b1, w2, e1, hw2, hP, hQ, hb⟩ := start_pq w a l a l
  subst e1
  have HB := Lib.hid hb
  have p0 := hP.cell0
  have p1 := hP.cell1
  have q0 := hQ.cell0
  have q1 := hQ.cell1
  clear hP hQ hb
  go_enter Try.func43, Try.ntmps43
  go_wp2_with fail
  go_ret
  exact ⟨rfl, HB.out⟩

set_option maxHeartbeats 2000000 in
theorem refCmp_eg (a : Nat) (l m : Int) (w : World) (h : m < l) : Calls Try.prog 43 #[pv a l, pv a m] w (refCmpQ w 1) := by
  have h1 : decide (l < m) = false := decide_eq_false (by omega)
  have h2 : decide (l = m) = false := decide_eq_false (by omega)
  have h3 : (l == m) = false := by simp; omega
  have h4 : ¬ l = m := by omega
  obtain ⟨b1, w2, e1, hw2, hP, hQ, hb⟩ := start_pq w a l a m
  subst e1
  have HB := Lib.hid hb
  have p0 := hP.cell0
  have p1 := hP.cell1
  have q0 := hQ.cell0
  have q1 := hQ.cell1
  clear hP hQ hb h
  go_enter Try.func43, Try.ntmps43
  go_wp2_with fail
  go_ret
  exact ⟨rfl, HB.out⟩

theorem refCompare_any (a : Nat) (l : Int) (b : Nat) (m : Int) (w : World) : Calls Try.prog 43 #[pv a l, pv b m] w fun e w' => e = .returned (.int .i64 (cmpS a l b m)) ∧ Below w.heap.size w w' := by
  rcases Nat.lt_trichotomy a b with h | h | h
  · rw [cmpS_lt h]; exact refCmp_lt a l b m w h
  · subst h
    rw [cmpS_eq]
    unfold cmpI
    by_cases h1 : l < m
    · rw [if_pos h1]; exact refCmp_el a l m w h1
    · rw [if_neg h1]
      by_cases h2 : m < l
      · rw [if_pos h2]; exact refCmp_eg a l m w h2
      · rw [if_neg h2]
        obtain rfl : l = m := by omega
        exact refCmp_ee a l w
  · rw [cmpS_gt h]; exact refCmp_gt a l b m w h
end Go.Proofs.Ytiiielpcipdgjaa
