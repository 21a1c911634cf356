/- Plain facts: how many items there are; the places behind a removal. -/
import Derived.Test.YtijoaiehnemgnaaHeapN
namespace Go.Proofs.Ytijoaiehnemgnaa

/-- How many of the first n items the map holds. -/
def cnt (M : Nat → Option Int) : Nat → Nat
  | 0 => 0
  | n + 1 => cnt M n + (if (M n).isSome then 1 else 0)
theorem cnt_le (M : Nat → Option Int) : ∀ n, cnt M n ≤ n
  | 0 => Nat.le_refl _
  | n + 1 => by have := cnt_le M n; unfold cnt; split <;> omega
theorem cnt_far (M : Nat → Option Int) (i : Nat) (k : Option Int) : ∀ n, n ≤ i → cnt (mset M i k) n = cnt M n
  | 0, _ => rfl
  | n + 1, h => by
                   have e : mset M i k n = M n := by unfold mset; rw [if_neg (by omega)]
                   unfold cnt; rw [cnt_far M i k n (by omega), e]
theorem cnt_set (M : Nat → Option Int) (i : Nat) (k : Option Int) : ∀ n, i < n → cnt (mset M i k) n + (if (M i).isSome then 1 else 0) = cnt M n + (if k.isSome then 1 else 0)
  | 0, h => by omega
  | n + 1, h => by
    unfold cnt
    by_cases e : i = n
    · subst e
      rw [cnt_far M i k i (Nat.le_refl _)]
      have : mset M i k i = k := by simp [mset]
      rw [this]; omega
    · have := cnt_set M i k n (by omega)
      have e2 : mset M i k n = M n := by unfold mset; rw [if_neg (Ne.symm e)]
      rw [e2]; omega
theorem cnt_zero {M : Nat → Option Int} : ∀ {n}, cnt M n = 0 → ∀ i, i < n → M i = none
  | 0, _, i, h => by omega
  | n + 1, h, i, hi => by
    unfold cnt at h
    by_cases e : i = n
    · subst e
      cases hM : M i with
      | none => rfl
      | some k => rw [hM] at h; simp at h
    · exact cnt_zero (n := n) (by omega) i (by omega)
/-- The places behind the removal of the last entry. -/
theorem take_last {a : Nat → En} {L n : Nat} {M : Nat → Option Int} {pl : Nat → Int} (hH : Holds a (L + 1) n M) (hP : PlR a (L + 1) (L + 1) M pl) :
    PlR a L L (mset M (a L).1 none) (fun i => if i = (a L).1 then -1 else pl i) := by
  refine ⟨fun j hj _ => ?_, fun i hi => ?_⟩
  · dsimp only
    rw [if_neg (fun e => by have := hH.2.2 j L (by omega) (by omega) e; omega)]
    exact hP.1 j (by omega) (by omega)
  · dsimp only
    unfold mset at hi
    by_cases e : i = (a L).1
    · rw [if_pos e]
    · rw [if_neg e] at hi ⊢
      exact hP.2 i hi
/-- The places behind the removal of another entry, whose gap the last one fills. -/
theorem take_fill {a : Nat → En} {L n p : Nat} {M : Nat → Option Int} {pl : Nat → Int} (hp : p < L) (hH : Holds a (L + 1) n M) (hP : PlR a (L + 1) (L + 1) M pl) :
    PlR (upd a p (a L)) L L (mset M (a p).1 none) (fun i => if i = (a L).1 then (p : Int) else if i = (a p).1 then -1 else pl i) := by
  refine ⟨fun j hj _ => ?_, fun i hi => ?_⟩
  · dsimp only
    unfold upd
    by_cases e : j = p
    · rw [if_pos e, if_pos rfl, e]
    · rw [if_neg e, if_neg (fun e2 => by have := hH.2.2 j L (by omega) (by omega) e2; omega), if_neg (fun e2 => e (hH.2.2 j p (by omega) (by omega) e2))]
      exact hP.1 j (by omega) (by omega)
  · dsimp only
    unfold mset at hi
    by_cases e : i = (a p).1
    · rw [if_neg (fun e2 => by have := hH.2.2 p L (by omega) (by omega) (by rw [← e, e2]); omega), if_pos e]
    · rw [if_neg e] at hi
      rw [if_neg (fun e2 => by have := (hH.1 L (by omega)).2; rw [← e2, hi] at this; cases this), if_neg e]
      exact hP.2 i hi
/-- The places behind a new entry, and behind a changed one. -/
theorem new_places {a : Nat → En} {L n i : Nat} {k : Int} {M : Nat → Option Int} {pl : Nat → Int} (hH : Holds a L n M) (hM : M i = none) (hP : PlR a L L M pl) :
    PlR (upd a L (i, k)) (L + 1) (L + 1) (mset M i (some k)) (fun j => if j = i then (L : Int) else pl j) := by
  refine ⟨fun j hj _ => ?_, fun j hj => ?_⟩
  · dsimp only
    unfold upd
    by_cases e : j = L
    · rw [if_pos e, if_pos rfl, e]
    · rw [if_neg e, if_neg (fun e2 => by have := (hH.1 j (by omega)).2; rw [e2, hM] at this; cases this)]
      exact hP.1 j (by omega) (by omega)
  · dsimp only
    unfold mset at hj
    by_cases e : j = i
    · rw [if_pos e] at hj; cases hj
    · rw [if_neg e] at hj ⊢; exact hP.2 j hj
theorem upd_places {a : Nat → En} {L n i p : Nat} {k : Int} {M : Nat → Option Int} {pl : Nat → Int} (hH : Holds a L n M) (hp : p < L) (hi : (a p).1 = i) (hP : PlR a L L M pl) :
    PlR (upd a p (i, k)) L L (mset M i (some k)) (fun j => if j = i then (p : Int) else pl j) := by
  refine ⟨fun j hj _ => ?_, fun j hj => ?_⟩
  · dsimp only
    unfold upd
    by_cases e : j = p
    · rw [if_pos e, if_pos rfl, e]
    · rw [if_neg e, if_neg (fun e2 => e (hH.2.2 j p hj hp (by rw [e2, hi])))]
      exact hP.1 j hj (by omega)
  · dsimp only
    unfold mset at hj
    by_cases e : j = i
    · rw [if_pos e] at hj; cases hj
    · rw [if_neg e] at hj ⊢; exact hP.2 j hj
end Go.Proofs.Ytijoaiehnemgnaa
