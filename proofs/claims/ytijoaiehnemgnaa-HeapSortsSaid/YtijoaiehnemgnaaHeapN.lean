/- Plain facts: the heap's entries while one of them is in hand. -/
import Derived.Test.YtijoaiehnemgnaaHeapM
namespace Go.Proofs.Ytijoaiehnemgnaa

/-- The places of all items but that at place p. -/
def PlR (a : Nat → En) (L p : Nat) (M : Nat → Option Int) (pl : Nat → Int) : Prop := (∀ j, j < L → j ≠ p → pl (a j).1 = (j : Int)) ∧ ∀ i, M i = none → pl i = -1
/-- The entry at place p is in hand: a, the entries as they are meant; b, as they lie. -/
def Mid (M : Nat → Option Int) (n L p : Nat) (a b : Nat → En) (pl : Nat → Int) : Prop := Holds a L n M ∧ (∀ j, j < L → j ≠ p → b j = a j) ∧ PlR a L p M pl
theorem mid_start {M : Nat → Option Int} {n L p : Nat} {a b : Nat → En} {pl : Nat → Int} (h : Holds a L n M) (hb : ∀ j, j < L → b j = a j) (hp : PlR a L L M pl) : Mid M n L p a b pl :=
  ⟨h, fun j hj _ => hb j hj, fun j hj _ => hp.1 j hj (by omega), hp.2⟩
theorem mid_move {M : Nat → Option Int} {n L p q : Nat} {a b : Nat → En} {pl : Nat → Int} (hp : p < L) (hq : q < L) (hpq : p ≠ q) (h : Mid M n L p a b pl) :
    Mid M n L q (swp a p q) (upd b p (b q)) (fun i => if i = (b q).1 then (p : Int) else pl i) := by
  obtain ⟨h1, h2, h3, h4⟩ := h
  have hbq : b q = a q := h2 q hq (Ne.symm hpq)
  refine ⟨holds_swp hp hq h1, fun j hj hjq => ?_, fun j hj hjq => ?_, fun i hM => ?_⟩
  · unfold upd swp
    by_cases e : j = p
    · rw [if_pos e, if_pos e, hbq]
    · rw [if_neg e, if_neg e, if_neg hjq]; exact h2 j hj e
  · dsimp only
    rw [hbq]
    by_cases e : j = p
    · subst e; rw [swp_l, if_pos rfl]
    · rw [swp_o e hjq, if_neg (fun e2 => hjq (h1.2.2 j q hj hq e2))]
      exact h3 j hj e
  · dsimp only
    rw [hbq, if_neg (fun e => by have := (h1.1 q hq).2; rw [← e, hM] at this; cases this)]
    exact h4 i hM
theorem mid_end {M : Nat → Option Int} {n L p : Nat} {a b : Nat → En} {pl : Nat → Int} (hp : p < L) (h : Mid M n L p a b pl) :
    (∀ j, j < L → upd b p (a p) j = a j) ∧ PlR a L L M (fun i => if i = (a p).1 then (p : Int) else pl i) := by
  obtain ⟨h1, h2, h3, h4⟩ := h
  refine ⟨fun j hj => ?_, fun j hj _ => ?_, fun i hM => ?_⟩
  · unfold upd
    by_cases e : j = p
    · rw [if_pos e, e]
    · rw [if_neg e]; exact h2 j hj e
  · dsimp only
    by_cases e : j = p
    · subst e; rw [if_pos rfl]
    · rw [if_neg (fun e2 => e (h1.2.2 j p hj hp e2))]; exact h3 j hj e
  · dsimp only
    rw [if_neg (fun e => by have := (h1.1 p hp).2; rw [← e, hM] at this; cases this)]
    exact h4 i hM
def ltB (x y : En) : Bool := if x.2 = y.2 then decide (x.1 < y.1) else decide (x.2 < y.2)
theorem ltB_iff (x y : En) : ltB x y = true ↔ Lt x y := by
  unfold ltB Lt
  by_cases h : x.2 = y.2
  · rw [if_pos h]; simp; omega
  · rw [if_neg h]; simp; omega
theorem ltB_not (x y : En) : ltB x y = false ↔ ¬ Lt x y := by
  rw [← ltB_iff]; simp
/-- What firstChild returns. -/
def FC (a : Nat → En) (L p : Nat) (r : Int) : Prop := (r = -1 ∧ L ≤ 2 * p + 1) ∨ ∃ c : Nat, r = (c : Int) ∧ 0 < c ∧ c < L ∧ par c = p ∧ ∀ d, 0 < d → d < L → par d = p → d ≠ c → ¬ Lt (a d) (a c)
theorem par_two {d p : Nat} (h0 : 0 < d) (h : par d = p) : d = 2 * p + 1 ∨ d = 2 * p + 2 := by unfold par at h; omega
theorem fc_none {a : Nat → En} {L p : Nat} (h : L ≤ 2 * p + 1) : FC a L p (-1) := .inl ⟨rfl, h⟩
theorem fc_left {a : Nat → En} {L p : Nat} (h : 2 * p + 1 < L) (h2 : 2 * p + 2 < L → ¬ Lt (a (2 * p + 2)) (a (2 * p + 1))) : FC a L p ((2 * p + 1 : Nat) : Int) :=
  .inr ⟨_, rfl, by omega, h, by unfold par; omega, fun d d0 dL dp dc => by
    rcases par_two d0 dp with e | e
    · omega
    · subst e; exact h2 dL⟩
theorem fc_right {a : Nat → En} {L p : Nat} (h : 2 * p + 2 < L) (h2 : Lt (a (2 * p + 2)) (a (2 * p + 1))) : FC a L p ((2 * p + 2 : Nat) : Int) :=
  .inr ⟨_, rfl, by omega, h, by unfold par; omega, fun d d0 dL dp dc => by
    rcases par_two d0 dp with e | e
    · subst e; exact h2.not
    · omega⟩
theorem fc_same {a b : Nat → En} {L p : Nat} {r : Int} (hb : ∀ j, j < L → j ≠ p → b j = a j) (h : FC b L p r) : FC a L p r := by
  rcases h with h | ⟨c, h1, c0, cL, cp, hc⟩
  · exact .inl h
  · have hcp := par_lt c0
    refine .inr ⟨c, h1, c0, cL, cp, fun d d0 dL dp dc => ?_⟩
    have hdp := par_lt d0
    rw [← hb d dL (by omega), ← hb c cL (by omega)]
    exact hc d d0 dL dp dc
/-- Without a smaller child the entry stands right. -/
theorem fc_stop {a : Nat → En} {L p : Nat} {r : Int} (h : FC a L p r) (hs : r = -1 ∨ ∃ c : Nat, r = (c : Int) ∧ Lt (a p) (a c)) : ∀ d, 0 < d → d < L → par d = p → ¬ Lt (a d) (a p) := by
  intro d d0 dL dp
  rcases h with ⟨_, h⟩ | ⟨c, rfl, c0, cL, cp, hc⟩
  · rcases par_two d0 dp with e | e <;> omega
  · rcases hs with hs | ⟨c', hs, hlt⟩
    · omega
    · obtain rfl : c = c' := by omega
      by_cases e : d = c
      · subst e; exact hlt.not
      · intro h
        exact hc d d0 dL dp e (h.trans hlt)
theorem mid_of {M : Nat → Option Int} {n L p : Nat} {a : Nat → En} (h : Holds a L n M) (hp : p < L) : (a p).1 < n := (h.1 p hp).1
end Go.Proofs.Ytijoaiehnemgnaa
