/- Contract: the program's Sum, at any list: rounds of pairs. -/
import Derived.Test.YthfjbpbgnoonpaaGreatDoorSA
import Derived.Test.YthfjbpbgnoonpaaGreatDoorRH
import Derived.LoopTactic
namespace Go.Proofs.YthfjbpbgnoonpaaGreatDoor
open Go.RowKit

/-- Numbers with the bounds of their words. -/
abbrev RQ := Nat → Rat × Nat
def tot (f : RQ) : Nat → Rat
  | 0 => 0
  | k + 1 => tot f k + (f k).1
def wt (f : RQ) : Nat → Nat
  | 0 => 0
  | k + 1 => wt f k + ((f k).2 + 1)
theorem tot_congr {f g : RQ} : ∀ {n : Nat}, (∀ j, j < n → f j = g j) → tot f n = tot g n
  | 0, _ => rfl
  | n + 1, h => by simp only [tot]; rw [tot_congr (fun j hj => h j (by omega)), h n (by omega)]
theorem wt_congr {f g : RQ} : ∀ {n : Nat}, (∀ j, j < n → f j = g j) → wt f n = wt g n
  | 0, _ => rfl
  | n + 1, h => by simp only [wt]; rw [wt_congr (fun j hj => h j (by omega)), h n (by omega)]
theorem wt_le (f : RQ) : ∀ {n i : Nat}, i < n → (f i).2 + 1 ≤ wt f n
  | n + 1, i, h => by
    simp only [wt]
    rcases Nat.lt_or_ge i n with h1 | h1
    · have := wt_le f h1; omega
    · obtain rfl : i = n := by omega
      omega
theorem wt_two (f : RQ) : ∀ {n i : Nat}, i + 1 < n → (f i).2 + (f (i + 1)).2 + 2 ≤ wt f n
  | n + 1, i, h => by
    simp only [wt]
    rcases Nat.lt_or_ge (i + 1) n with h1 | h1
    · have := wt_two f h1; omega
    · obtain rfl : n = i + 1 := by omega
      have := wt_le f (show i < i + 1 by omega)
      omega
/-- The sum of a pair. -/
def pr2 (f : RQ) : RQ := fun j => ((f (2 * j)).1 + (f (2 * j + 1)).1, (f (2 * j)).2 + (f (2 * j + 1)).2 + 1)
theorem tot_pr (f : RQ) : ∀ m, tot (pr2 f) m = tot f (2 * m)
  | 0 => rfl
  | m + 1 => by
    rw [show 2 * (m + 1) = 2 * m + 1 + 1 by omega]
    simp only [tot]
    rw [tot_pr f m]
    simp only [pr2]
    rw [Rat.add_assoc]
theorem wt_pr (f : RQ) : ∀ m, wt (pr2 f) m = wt f (2 * m)
  | 0 => rfl
  | m + 1 => by
    rw [show 2 * (m + 1) = 2 * m + 1 + 1 by omega]
    simp only [wt]
    rw [wt_pr f m]
    simp only [pr2]
    omega
/-- i pairs are added up. -/
def mid (f : RQ) (i : Nat) : RQ := fun j => if j < i then pr2 f j else f j
/-- A round: m pairs; the odd one. -/
def odd2 (f : RQ) (m : Nat) : RQ := fun j => if j = m then f (2 * m) else mid f m j
theorem tot_even (f : RQ) (m : Nat) : tot (mid f m) m = tot f (2 * m) := (tot_congr fun j hj => by simp [mid, hj]).trans (tot_pr f m)
theorem wt_even (f : RQ) (m : Nat) : wt (mid f m) m = wt f (2 * m) := (wt_congr fun j hj => by simp [mid, hj]).trans (wt_pr f m)
theorem tot_odd (f : RQ) (m : Nat) : tot (odd2 f m) (m + 1) = tot f (2 * m + 1) := by
  simp only [tot]
  rw [← tot_pr, tot_congr (f := odd2 f m) (g := pr2 f) (fun j hj => by simp [odd2, mid, hj]; omega)]
  simp [odd2]
theorem wt_odd (f : RQ) (m : Nat) : wt (odd2 f m) (m + 1) = wt f (2 * m + 1) := by
  simp only [wt]
  rw [← wt_pr, wt_congr (f := odd2 f m) (g := pr2 f) (fun j hj => by simp [odd2, mid, hj]; omega)]
  simp [odd2]

abbrev TP : TypeId := 30
/-- A row of the call's own at block g: n fractions. -/
structure PR (w W : World) (g n : Nat) (f : RQ) : Prop where
  blk : ∃ cs, Blk W g cs TP
  el : ∀ i, i < n → ∃ b A m c A2 m2 c2, W.cell? ⟨g, i * 3, none⟩ = some (.bool b) ∧ W.cell? ⟨g, i * 3 + 1, none⟩ = some (.slice A m c) ∧ W.cell? ⟨g, i * 3 + 2, none⟩ = some (.slice A2 m2 c2) ∧ RatP W (.agg #[.bool b, .slice A m c, .slice A2 m2 c2]) (f i).1 (f i).2
  base : w.heap.size ≤ g
  low : Below w.heap.size w W
section
variable {w W W' : World} {g n : Nat} {f f' : RQ}
theorem PR.lt (h : PR w W g n f) : g < W.heap.size := by obtain ⟨cs, hb⟩ := h.blk; exact hb.lt
theorem PR.below (h : PR w W g n f) (hb : Below W.heap.size W W') : PR w W' g n f := by
  have hlt := h.lt
  refine ⟨?_, fun i hi => ?_, h.base, h.low.trans (hb.mono h.low.size)⟩
  · obtain ⟨cs, hc⟩ := h.blk; exact ⟨cs, hc.step hb⟩
  · obtain ⟨b, A, m, c, A2, m2, c2, h1, h2, h3, h4⟩ := h.el i hi
    exact ⟨b, A, m, c, A2, m2, c2, (hb.cell (p := ⟨g, i * 3, none⟩) hlt).trans h1, (hb.cell (p := ⟨g, i * 3 + 1, none⟩) hlt).trans h2, (hb.cell (p := ⟨g, i * 3 + 2, none⟩) hlt).trans h3, h4.below hb⟩
theorem PR.congr (h : PR w W g n f) (he : ∀ j, j < n → f j = f' j) : PR w W g n f' := ⟨h.blk, fun i hi => by rw [← he i hi]; exact h.el i hi, h.base, h.low⟩
theorem PR.less (h : PR w W g n f) {m : Nat} (hm : m ≤ n) : PR w W g m f := ⟨h.blk, fun i hi => h.el i (by omega), h.base, h.low⟩
theorem PR.frozen (h : PR w W g n f) (i : Nat) : W.frozen? ⟨g, i, none⟩ = false := by obtain ⟨cs, hb⟩ := h.blk; exact hb.frozen
theorem PR.set (h : PR w W g n f) {i : Nat} (hi : i < n) {b : Bool} {A A2 : Option Addr} {m c m2 c2 : Nat} {q : Rat} {a : Nat} (hq : RatP W (.agg #[.bool b, .slice A m c, .slice A2 m2 c2]) q a) :
    PR w (((W.setCell ⟨g, i * 3, none⟩ (.bool b)).setCell ⟨g, i * 3 + 1, none⟩ (.slice A m c)).setCell ⟨g, i * 3 + 2, none⟩ (.slice A2 m2 c2)) g n (fun j => if j = i then (q, a) else f j) := by
  obtain ⟨cs, hb⟩ := h.blk
  obtain ⟨b', A', m', c', A2', m2', c2', h1, h2, h3, -⟩ := h.el i hi
  have hT : 90 ≠ TP := by decide
  have x1 := hb.set_ (i * 3) (.bool b)
  have x2 := x1.set_ (i * 3 + 1) (.slice A m c)
  have x3 := x2.set_ (i * 3 + 2) (.slice A2 m2 c2)
  have o1 : Okp W ⟨g, i * 3, none⟩ := ⟨TP, _, hb.row, hT, h1, noint_bool⟩
  have o2 : Okp (W.setCell ⟨g, i * 3, none⟩ (.bool b)) ⟨g, i * 3 + 1, none⟩ := ⟨TP, _, x1.row, hT, (World.cell?_setCell_other _ _ _ _ (by simp)).trans h2, noint_slice⟩
  have o3 : Okp ((W.setCell ⟨g, i * 3, none⟩ (.bool b)).setCell ⟨g, i * 3 + 1, none⟩ (.slice A m c)) ⟨g, i * 3 + 2, none⟩ := ⟨TP, _, x2.row, hT, (World.cell?_setCell_other _ _ _ _ (by simp)).trans ((World.cell?_setCell_other _ _ _ _ (by simp)).trans h3), noint_slice⟩
  have far : ∀ (P : World → Prop), Stab P → P W → P (((W.setCell ⟨g, i * 3, none⟩ (.bool b)).setCell ⟨g, i * 3 + 1, none⟩ (.slice A m c)).setCell ⟨g, i * 3 + 2, none⟩ (.slice A2 m2 c2)) := fun P hP hW => hP.far _ o3 (hP.far _ o2 (hP.far _ o1 hW))
  have len : ∀ {k : Nat} {v : Value}, W.cell? ⟨g, k, none⟩ = some v → k < cs.length := fun {k v} hk => by
    unfold Blk at hb
    simp [World.cell?, hb] at hk
    exact (List.getElem?_eq_some_iff.1 hk).1
  have l3 := len h3
  refine ⟨⟨_, x3⟩, fun j hj => ?_, h.base, ((h.low.setCell h.base _ (p := ⟨g, i * 3, none⟩)).setCell h.base _ (p := ⟨g, i * 3 + 1, none⟩)).setCell h.base _ (p := ⟨g, i * 3 + 2, none⟩)⟩
  by_cases hji : j = i
  · subst hji
    rw [if_pos rfl]
    refine ⟨b, A, m, c, A2, m2, c2, x3.cell ?_, x3.cell ?_, x3.cell ?_, far _ (stab_ratP _ _ _) hq⟩
    · rw [List.getElem?_set_ne (by omega), List.getElem?_set_ne (by omega), List.getElem?_set_self (by omega)]
    · rw [List.getElem?_set_ne (by omega), List.getElem?_set_self (by simp; omega)]
    · rw [List.getElem?_set_self (by simp; omega)]
  · rw [if_neg hji]
    obtain ⟨b4, A4, m4, c4, A5, m5, c5, k1, k2, k3, k4⟩ := h.el j hj
    have oth : ∀ (k : Nat), k ≠ i * 3 → k ≠ i * 3 + 1 → k ≠ i * 3 + 2 → (((W.setCell ⟨g, i * 3, none⟩ (.bool b)).setCell ⟨g, i * 3 + 1, none⟩ (.slice A m c)).setCell ⟨g, i * 3 + 2, none⟩ (.slice A2 m2 c2)).cell? ⟨g, k, none⟩ = W.cell? ⟨g, k, none⟩ := fun k n1 n2 n3 =>
      (World.cell?_setCell_other _ _ _ _ (by intro e; injection e with e1 e2; omega)).trans ((World.cell?_setCell_other _ _ _ _ (by intro e; injection e with e1 e2; omega)).trans (World.cell?_setCell_other _ _ _ _ (by intro e; injection e with e1 e2; omega)))
    exact ⟨b4, A4, m4, c4, A5, m5, c5, (oth _ (by omega) (by omega) (by omega)).trans k1, (oth _ (by omega) (by omega) (by omega)).trans k2, (oth _ (by omega) (by omega) (by omega)).trans k3, far _ (stab_ratP _ _ _) k4⟩
end
end Go.Proofs.YthfjbpbgnoonpaaGreatDoor
