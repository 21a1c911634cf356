/- Raw cells of lists; a list turned round. -/
import Derived.Test.YtgpgoadalnojdaaGreatDoorAggI
namespace Go.Proofs.YtgpgoadalnojdaaGreatDoor
open Go.RowKit

def encR (x : Nat × Int) : List Value := [.int .u32 (x.1 : Int), .int .i64 x.2]
def flr (m : Nat) (ys : Nat → Nat × Int) : List Value := (List.range m).flatMap fun i => encR (ys i)
theorem flr_succ (m : Nat) (ys : Nat → Nat × Int) : flr (m + 1) ys = flr m ys ++ encR (ys m) := by
  simp [flr, List.range_succ]
theorem flr_length (m : Nat) (ys : Nat → Nat × Int) : (flr m ys).length = m * 2 := by
  induction m with
  | zero => rfl
  | succ m ih => rw [flr_succ, List.length_append, ih]; simp [encR]; omega
theorem flr_get (m : Nat) (ys : Nat → Nat × Int) {i : Nat} (hi : i < m) (c : Nat) (hc : c < 2) : (flr m ys)[i * 2 + c]? = (encR (ys i))[c]? := by
  induction m with
  | zero => omega
  | succ m ih =>
    rw [flr_succ]
    rcases Nat.lt_succ_iff_lt_or_eq.1 hi with h | h
    · rw [List.getElem?_append_left (by rw [flr_length]; omega)]
      exact ih h
    · subst h
      rw [List.getElem?_append_right (by rw [flr_length]; omega), flr_length, show i * 2 + c - i * 2 = c by omega]
theorem flr_same {m : Nat} {ys zs : Nat → Nat × Int} (h : ∀ i, i < m → ys i = zs i) : flr m ys = flr m zs := by
  induction m with
  | zero => rfl
  | succ m ih => rw [flr_succ, flr_succ, ih (fun i hi => h i (by omega)), h m (by omega)]
theorem flr_add (m k : Nat) (ys : Nat → Nat × Int) : flr (m + k) ys = flr m ys ++ flr k (fun i => ys (m + i)) := by
  induction k with
  | zero => simp [flr]
  | succ k ih => rw [← Nat.add_assoc, flr_succ, ih, flr_succ, List.append_assoc]
theorem flr_one (m : Nat) (ys : Nat → Nat × Int) : ∀ u ∈ flr m ys, u.oneCell' = true := fun u hu => by
  obtain ⟨i, -, hx⟩ := List.mem_flatMap.1 hu
  simp [encR] at hx
  rcases hx with rfl | rfl <;> rfl
/-- A row of the call's own, of any prefixes. -/
abbrev OwnR (w : World) (base : Nat) (v : Value) (m : Nat) (ys : Nat → Nat × Int) : Prop := w.ownsRow base 32 2 v m (flr m ys)
theorem OwnR.px {w : World} {base : Nat} {v : Value} {m : Nat} {ys : Nat → Nat × Int} (h : OwnR w base v m ys) (hy : ∀ i, i < m → (ys i).1 < 4294967296) : ∃ A c, v = .slice A m c ∧ PxL w A m ys := by
  rcases h.2 with ⟨rfl, h0⟩ | ⟨g, cap, cur, rfl, hb, hg, hc, hm, -, -⟩
  · exact ⟨none, 0, by rw [h0], fun i hi => by omega⟩
  · refine ⟨_, cap, rfl, fun i hi => ?_⟩
    have h0 := flr_get m ys hi 0 (by omega)
    have h1 := flr_get m ys hi 1 (by omega)
    rw [Nat.add_zero] at h0
    refine ⟨g, 0, rfl, (h.lt g rfl).2, ?_, ?_, hy i hi⟩
    · rw [Nat.zero_add]; exact (h.cellAt (i * 2) (by omega)).trans h0
    · rw [Nat.zero_add]; exact (h.cellAt (i * 2 + 1) (by omega)).trans h1
/-- The cells of an argument, from element f on. -/
theorem px_cells {w : World} {a : Addr} {n : Nat} {xs : Nat → Nat × Int} (h : PxL w (some a) n xs) {f m : Nat} (hf : f + m ≤ n) :
    ∀ (j : Nat) u, (flr m (fun i => xs (f + i)))[j]? = some u → w.cell? ((a.add (f * 2)).add j) = some u := by
  intro j u hu
  have hj : j < m * 2 := by
    have h1 := (List.getElem?_eq_some_iff.1 hu).1
    rwa [flr_length] at h1
  have hi : j / 2 < m := by omega
  have h2 := flr_get m (fun i => xs (f + i)) hi (j % 2) (by omega)
  rw [show j / 2 * 2 + j % 2 = j by omega, hu] at h2
  obtain ⟨b, off, e, h3, h4, h5, h6⟩ := h (f + j / 2) (by omega)
  injection e with e
  subst e
  have el : ∀ (off i : Nat), (⟨b, off, none⟩ : Addr).add i = ⟨b, off + i, none⟩ := fun off i => by
    unfold Addr.add
    split
    · rename_i h0; subst h0; rfl
    · rfl
  rw [el, el]
  rcases (show j % 2 = 0 ∨ j % 2 = 1 by omega) with h0 | h0
  · rw [h0] at h2
    rw [show off + f * 2 + j = off + (f + j / 2) * 2 by omega, h4, h2]
    simp [encR]
  · rw [h0] at h2
    rw [show off + f * 2 + j = off + (f + j / 2) * 2 + 1 by omega, h5, h2]
    simp [encR]
/-- The list turned round at f. -/
def rot (n f : Nat) (xs : Nat → Nat × Int) (i : Nat) : Nat × Int := if i < n - f then xs (f + i) else xs (i - (n - f))
theorem flr_rot {n f : Nat} (xs : Nat → Nat × Int) (hf : f ≤ n) : flr (n - f) (fun i => xs (f + i)) ++ flr f xs = flr n (rot n f xs) := by
  have e : n = (n - f) + f := by omega
  have h1 : flr n (rot n f xs) = flr ((n - f) + f) (rot n f xs) := by rw [← e]
  rw [h1, flr_add]
  congr 1
  · exact flr_same fun i hi => by unfold rot; rw [if_pos hi]
  · exact flr_same fun i hi => by unfold rot; rw [if_neg (by omega)]; congr 1; omega
theorem rot_all {n f : Nat} {xs : Nat → Nat × Int} (hf : f ≤ n) (Q : Nat × Int → Prop) : (∀ i, i < n → Q (rot n f xs i)) ↔ ∀ i, i < n → Q (xs i) := by
  constructor
  · intro h i hi
    by_cases hif : i < f
    · have := h (n - f + i) (by omega)
      unfold rot at this
      rwa [if_neg (by omega), show n - f + i - (n - f) = i by omega] at this
    · have := h (i - f) (by omega)
      unfold rot at this
      rwa [if_pos (by omega), show f + (i - f) = i by omega] at this
  · intro h i hi
    unfold rot
    split
    · exact h _ (by omega)
    · exact h _ (by omega)
theorem rot_u {n f : Nat} {xs : Nat → Nat × Int} (hf : f ≤ n) (x : Nat) : U (pl n (rot n f xs)) x ↔ U (pl n xs) x := by
  have key : ∀ ys : Nat → Nat × Int, U (pl n ys) x ↔ ¬ ∀ i, i < n → ¬ Has (up (ys i)) x := fun ys => by
    constructor
    · rintro ⟨p, hp, hh⟩ h
      obtain ⟨j, hj, rfl⟩ := List.mem_map.1 hp
      exact h j (List.mem_range.1 hj) hh
    · intro h
      apply Classical.byContradiction
      intro h2
      exact h fun i hi hh => h2 ⟨_, List.mem_map.2 ⟨i, List.mem_range.2 hi, rfl⟩, hh⟩
  rw [key, key, rot_all hf (fun y => ¬ Has (up y) x)]
end Go.Proofs.YtgpgoadalnojdaaGreatDoor
