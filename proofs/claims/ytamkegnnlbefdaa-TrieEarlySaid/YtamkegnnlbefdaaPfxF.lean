/- Contracts of package prefix and of its reference: Compare; of cmp's Compare and Or. -/
import Derived.Test.YtamkegnnlbefdaaPfxE
import Derived.LoopTactic
namespace Go.Proofs.Ytamkegnnlbefdaa
open Go.RowKit

def cmpI (x y : Int) : Int := if x < y then -1 else if y < x then 1 else 0
def cmpS (a : Nat) (l : Int) (b : Nat) (m : Int) : Int := if cmpI a b ≠ 0 then cmpI a b else cmpI l m
/-- A row of two numbers. -/
def PrX (w : World) (g : Nat) (x y : Int) : Prop := w.heap[g]? = some (.cells #[.int .i64 x, .int .i64 y] 3 (0, 0))
theorem PrX.cell0 {w : World} {g : Nat} {x y : Int} (h : PrX w g x y) : w.cell? ⟨g, 0, none⟩ = some (.int .i64 x) := by rw [cell_of_row w g 0 _ _ (0, 0) h]; rfl
theorem PrX.cell1 {w : World} {g : Nat} {x y : Int} (h : PrX w g x y) : w.cell? ⟨g, 1, none⟩ = some (.int .i64 y) := by rw [cell_of_row w g 1 _ _ (0, 0) h]; rfl
/-- The worlds in which a function of two prefixes begins. -/
theorem start_pq (w : World) (a : Nat) (l : Int) (b : Nat) (m : Int) : ∃ b1 w2, b1 = w.heap.size + 1 ∧ (w.alloc (.cells #[.int .u32 (a : Int), .int .i64 l] 35)).alloc (.cells #[.int .u32 (b : Int), .int .i64 m] 35) = w2 ∧
    PB w2 w.heap.size a l ∧ PB w2 b1 b m ∧ Below w.heap.size w w2 := by
  have hP1 := PB.new w a l
  have hb1 : Below w.heap.size w (w.alloc (.cells #[.int .u32 (a : Int), .int .i64 l] 35)) := (Below.refl _ _).alloc (Nat.le_refl _) _
  refine ⟨_, _, rfl, rfl, hP1.alloc _, ?_, ?_⟩
  · have := PB.new (w.alloc (.cells #[.int .u32 (a : Int), .int .i64 l] 35)) b m
    simpa using this
  · exact hb1.alloc hb1.size _

theorem cmpS_lt {a b : Nat} {l m : Int} (h : a < b) : cmpS a l b m = -1 := by unfold cmpS cmpI; rw [if_pos (show (a : Int) < b by omega)]; simp
theorem cmpS_gt {a b : Nat} {l m : Int} (h : b < a) : cmpS a l b m = 1 := by unfold cmpS cmpI; rw [if_neg (show ¬ (a : Int) < b by omega), if_pos (show (b : Int) < a by omega)]; simp
theorem cmpS_eq {a : Nat} {l m : Int} : cmpS a l a m = cmpI l m := by unfold cmpS; simp [cmpI]
def refCmpQ (w : World) (r : Int) (e : Ending) (w' : World) : Prop := e = .returned (.int .i64 r) ∧ Below w.heap.size w w'

set_option maxHeartbeats 2000000 in
theorem refCmp_lt (a : Nat) (l : Int) (b : Nat) (m : Int) (w : World) (h : a < b) : Calls Try.prog 58 #[pv a l, pv b m] w (refCmpQ w (-1)) := by
  have h1 : decide (a < b) = true := decide_eq_true h
  obtain ⟨b1, w2, e1, hw2, hP, hQ, hb⟩ := start_pq w a l b m
  subst e1
  have HB := Lib.hid hb
  have p0 := hP.cell0
  have p1 := hP.cell1
  have q0 := hQ.cell0
  have q1 := hQ.cell1
  clear hP hQ hb h
  go_enter Try.func58, Try.ntmps58
  go_wp2_with fail
  go_ret
  exact ⟨rfl, HB.out⟩

set_option maxHeartbeats 2000000 in
theorem refCmp_gt (a : Nat) (l : Int) (b : Nat) (m : Int) (w : World) (h : b < a) : Calls Try.prog 58 #[pv a l, pv b m] w (refCmpQ w 1) := by
  have h1 : decide (a < b) = false := decide_eq_false (by omega)
  have h2 : decide (a = b) = false := decide_eq_false (by omega)
  have h3 : (a == b) = false := by simp; omega
  have h4 : ¬ a = b := by omega
  obtain ⟨b1, w2, e1, hw2, hP, hQ, hb⟩ := start_pq w a l b m
  subst e1
  have HB := Lib.hid hb
  have p0 := hP.cell0
  have p1 := hP.cell1
  have q0 := hQ.cell0
  have q1 := hQ.cell1
  clear hP hQ hb h
  go_enter Try.func58, Try.ntmps58
  go_wp2_with fail
  go_ret
  exact ⟨rfl, HB.out⟩

set_option maxHeartbeats 2000000 in
theorem refCmp_el (a : Nat) (l m : Int) (w : World) (h : l < m) : Calls Try.prog 58 #[pv a l, pv a m] w (refCmpQ w (-1)) := by
  have h1 : decide (l < m) = true := decide_eq_true h
  obtain ⟨b1, w2, e1, hw2, hP, hQ, hb⟩ := start_pq w a l a m
  subst e1
  have HB := Lib.hid hb
  have p0 := hP.cell0
  have p1 := hP.cell1
  have q0 := hQ.cell0
  have q1 := hQ.cell1
  clear hP hQ hb h
  go_enter Try.func58, Try.ntmps58
  go_wp2_with fail
  go_ret
  exact ⟨rfl, HB.out⟩

set_option maxHeartbeats 2000000 in
theorem refCmp_ee (a : Nat) (l : Int) (w : World)  : Calls Try.prog 58 #[pv a l, pv a l] w (refCmpQ w 0) := by
  obtain ⟨b1, w2, e1, hw2, hP, hQ, hb⟩ := start_pq w a l a l
  subst e1
  have HB := Lib.hid hb
  have p0 := hP.cell0
  have p1 := hP.cell1
  have q0 := hQ.cell0
  have q1 := hQ.cell1
  clear hP hQ hb
  go_enter Try.func58, Try.ntmps58
  go_wp2_with fail
  go_ret
  exact ⟨rfl, HB.out⟩

set_option maxHeartbeats 2000000 in
theorem refCmp_eg (a : Nat) (l m : Int) (w : World) (h : m < l) : Calls Try.prog 58 #[pv a l, pv a m] w (refCmpQ w 1) := by
  have h1 : decide (l < m) = false := decide_eq_false (by omega)
  have h2 : decide (l = m) = false := decide_eq_false (by omega)
  have h3 : (l == m) = false := by simp; omega
  have h4 : ¬ l = m := by omega
  obtain ⟨b1, w2, e1, hw2, hP, hQ, hb⟩ := start_pq w a l a m
  subst e1
  have HB := Lib.hid hb
  have p0 := hP.cell0
  have p1 := hP.cell1
  have q0 := hQ.cell0
  have q1 := hQ.cell1
  clear hP hQ hb h
  go_enter Try.func58, Try.ntmps58
  go_wp2_with fail
  go_ret
  exact ⟨rfl, HB.out⟩

theorem refCompare_any (a : Nat) (l : Int) (b : Nat) (m : Int) (w : World) : Calls Try.prog 58 #[pv a l, pv b m] w fun e w' => e = .returned (.int .i64 (cmpS a l b m)) ∧ Below w.heap.size w w' := by
  rcases Nat.lt_trichotomy a b with h | h | h
  · rw [cmpS_lt h]; exact refCmp_lt a l b m w h
  · subst h
    rw [cmpS_eq]
    unfold cmpI
    by_cases h1 : l < m
    · rw [if_pos h1]; exact refCmp_el a l m w h1
    · rw [if_neg h1]
      by_cases h2 : m < l
      · rw [if_pos h2]; exact refCmp_eg a l m w h2
      · rw [if_neg h2]
        obtain rfl : l = m := by omega
        exact refCmp_ee a l w
  · rw [cmpS_gt h]; exact refCmp_gt a l b m w h
end Go.Proofs.Ytamkegnnlbefdaa
