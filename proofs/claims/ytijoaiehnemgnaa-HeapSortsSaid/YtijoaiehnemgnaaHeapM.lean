/- Plain facts: a binary heap of items and keys, and the map that it stands for. -/
namespace Go.Proofs.Ytijoaiehnemgnaa
abbrev En := Nat × Int
def Lt (a b : En) : Prop := a.2 < b.2 ∨ (a.2 = b.2 ∧ a.1 < b.1)
theorem Lt.trans {a b c : En} (h : Lt a b) (g : Lt b c) : Lt a c := by unfold Lt at *; omega
theorem Lt.not {a b : En} (h : Lt a b) : ¬ Lt b a := by unfold Lt at *; omega
theorem le_trans {a b c : En} (h : ¬ Lt b a) (g : ¬ Lt c b) : ¬ Lt c a := by unfold Lt at *; omega
def par (j : Nat) : Nat := (j - 1) / 2
/-- Exchange of the entries at two places. -/
def swp (a : Nat → En) (p q : Nat) : Nat → En := fun j => if j = p then a q else if j = q then a p else a j
def upd (a : Nat → En) (p : Nat) (x : En) : Nat → En := fun j => if j = p then x else a j
/-- All edges are in order but those at place p; what lies above p is in order with what lies below it. -/
def Inv (a : Nat → En) (L p : Nat) : Prop :=
  (∀ j, 0 < j → j < L → j ≠ p → par j ≠ p → ¬ Lt (a j) (a (par j))) ∧ (0 < p → ∀ c, 0 < c → c < L → par c = p → ¬ Lt (a c) (a (par p)))
/-- And the edge above p is in order, too. -/
def InvD (a : Nat → En) (L p : Nat) : Prop := Inv a L p ∧ (0 < p → ¬ Lt (a p) (a (par p)))
def Ordered (a : Nat → En) (L : Nat) : Prop := ∀ j, 0 < j → j < L → ¬ Lt (a j) (a (par j))
theorem par_lt {j : Nat} (h : 0 < j) : par j < j := by unfold par; omega

theorem swp_l (a : Nat → En) (p q : Nat) : swp a p q p = a q := by simp [swp]
theorem swp_r (a : Nat → En) (p q : Nat) : swp a p q q = a p := by unfold swp; split <;> simp_all
theorem swp_o {a : Nat → En} {p q j : Nat} (h1 : j ≠ p) (h2 : j ≠ q) : swp a p q j = a j := by simp [swp, h1, h2]

theorem rise_step {a : Nat → En} {L p : Nat} (hp : 0 < p) (hpL : p < L) (h : Inv a L p) (hlt : Lt (a p) (a (par p))) : Inv (swp a p (par p)) L (par p) := by
  obtain ⟨h1, h2⟩ := h
  have hq := par_lt hp
  refine ⟨fun j j0 jL jq jq2 => ?_, fun q0 c c0 cL cq => ?_⟩
  · have jp : j ≠ p := by rintro rfl; exact jq2 rfl
    rw [swp_o jp jq]
    by_cases hj : par j = p
    · rw [hj, swp_l]
      exact h2 hp j j0 jL hj
    · rw [swp_o hj jq2]
      exact h1 j j0 jL jp hj
  · have hqq := par_lt q0
    rw [swp_o (show par (par p) ≠ p by omega) (show par (par p) ≠ par p by omega)]
    have hqe := h1 (par p) q0 (by omega) (by omega) (by omega)
    by_cases hc : c = p
    · subst hc
      rw [swp_l]
      exact hqe
    · have hcq : c ≠ par p := by rintro rfl; omega
      rw [swp_o hc hcq]
      have := h1 c c0 cL hc (by omega)
      rw [cq] at this
      exact le_trans hqe this

theorem sink_step {a : Nat → En} {L p c : Nat} (hpL : p < L) (hc0 : 0 < c) (hcL : c < L) (hcp : par c = p) (hmin : ∀ d, 0 < d → d < L → par d = p → d ≠ c → ¬ Lt (a d) (a c)) (h : InvD a L p) (hle : ¬ Lt (a p) (a c)) : InvD (swp a p c) L c := by
  obtain ⟨⟨h1, h2⟩, h3⟩ := h
  have hpc : p < c := by have := par_lt hc0; omega
  refine ⟨⟨fun j j0 jL jc jc2 => ?_, fun _ d d0 dL dc => ?_⟩, fun _ => ?_⟩
  · by_cases hjp : j = p
    · subst hjp
      have hpj := par_lt j0
      rw [swp_l, swp_o (by omega) (by omega)]
      exact h2 j0 c hc0 hcL hcp
    · rw [swp_o hjp jc]
      by_cases hj : par j = p
      · rw [hj, swp_l]
        exact hmin j j0 jL hj jc
      · rw [swp_o hj jc2]
        exact h1 j j0 jL hjp hj
  · have := par_lt d0
    rw [hcp, swp_l, swp_o (by omega) (by omega)]
    have := h1 d d0 dL (by omega) (by omega)
    rwa [dc] at this
  · rw [hcp, swp_l, swp_r]
    exact hle
theorem sink_end {a : Nat → En} {L p : Nat} (h : InvD a L p) (hmin : ∀ d, 0 < d → d < L → par d = p → ¬ Lt (a d) (a p)) : Ordered a L := by
  obtain ⟨⟨h1, h2⟩, h3⟩ := h
  intro j j0 jL
  by_cases hj : j = p
  · subst hj; exact h3 j0
  · by_cases hj2 : par j = p
    · rw [hj2]; exact hmin j j0 jL hj2
    · exact h1 j j0 jL hj hj2
theorem ordered_first {a : Nat → En} {L : Nat} (h : Ordered a L) : ∀ j, j < L → ¬ Lt (a j) (a 0) := by
  intro j
  induction j using Nat.strongRecOn with
  | _ j ih =>
    intro hj
    by_cases j0 : 0 < j
    · have hp := par_lt j0
      exact le_trans (ih (par j) hp (by omega)) (h j j0 hj)
    · obtain rfl : j = 0 := by omega
      unfold Lt; omega

/-- The entries stand for the map M from items to keys; pl has their places; at place p an entry may not have been noted yet. -/
def Holds (a : Nat → En) (L n : Nat) (M : Nat → Option Int) : Prop :=
  (∀ j, j < L → (a j).1 < n ∧ M (a j).1 = some (a j).2) ∧ (∀ i k, M i = some k → ∃ j, j < L ∧ a j = (i, k)) ∧ (∀ j k, j < L → k < L → (a j).1 = (a k).1 → j = k)
theorem holds_swp {a : Nat → En} {L n p q : Nat} {M : Nat → Option Int} (hp : p < L) (hq : q < L) (h : Holds a L n M) : Holds (swp a p q) L n M := by
  obtain ⟨h1, h2, h3⟩ := h
  -- the exchange of two places
  have ex : ∀ j, j < L → ∃ k, k < L ∧ swp a p q j = a k ∧ swp a p q k = a j ∧ (k = if j = p then q else if j = q then p else j) := by
    intro j hj
    by_cases e1 : j = p
    · subst e1; exact ⟨q, hq, swp_l _ _ _, swp_r _ _ _, by simp⟩
    · by_cases e2 : j = q
      · subst e2; exact ⟨p, hp, swp_r _ _ _, swp_l _ _ _, by simp [e1]⟩
      · exact ⟨j, hj, swp_o e1 e2, swp_o e1 e2, by simp [e1, e2]⟩
  refine ⟨fun j hj => ?_, fun i k hM => ?_, fun j k hj hk e => ?_⟩
  · obtain ⟨k, hk, e, _⟩ := ex j hj
    rw [e]; exact h1 k hk
  · obtain ⟨j, hj, e⟩ := h2 i k hM
    obtain ⟨k', hk, _, e2, _⟩ := ex j hj
    exact ⟨k', hk, e2.trans e⟩
  · obtain ⟨j', hj', e1, _, f1⟩ := ex j hj
    obtain ⟨k', hk', e2, _, f2⟩ := ex k hk
    rw [e1, e2] at e
    have := h3 j' k' hj' hk' e
    rw [f1, f2] at this
    by_cases a1 : j = p <;> by_cases a2 : j = q <;> by_cases b1 : k = p <;> by_cases b2 : k = q <;> simp_all
/-- The heap as a whole. -/
def IsHeap (a : Nat → En) (L n : Nat) (M : Nat → Option Int) : Prop := Ordered a L ∧ Holds a L n M
def mset (M : Nat → Option Int) (i : Nat) (k : Option Int) : Nat → Option Int := fun j => if j = i then k else M j

theorem new_inv {a : Nat → En} {L : Nat} (x : En) (h : Ordered a L) : Inv (upd a L x) (L + 1) L := by
  refine ⟨fun j j0 jL jp jp2 => ?_, fun _ c c0 cL cp => ?_⟩
  · unfold upd; rw [if_neg jp, if_neg jp2]; exact h j j0 (by omega)
  · have := par_lt c0; omega
theorem new_holds {a : Nat → En} {L n i : Nat} {k : Int} {M : Nat → Option Int} (h : Holds a L n M) (hi : i < n) (hM : M i = none) : Holds (upd a L (i, k)) (L + 1) n (mset M i (some k)) := by
  obtain ⟨h1, h2, h3⟩ := h
  have hne : ∀ j, j < L → (a j).1 ≠ i := fun j hj e => by have := (h1 j hj).2; rw [e, hM] at this; cases this
  refine ⟨fun j hj => ?_, fun i' k' hM' => ?_, fun j k hj hk e => ?_⟩
  · unfold upd mset
    by_cases e : j = L
    · rw [if_pos e]; exact ⟨hi, by simp⟩
    · rw [if_neg e, if_neg (hne j (by omega))]; exact h1 j (by omega)
  · unfold mset at hM'
    by_cases e : i' = i
    · rw [if_pos e] at hM'; injection hM' with hM'
      exact ⟨L, by omega, by simp [upd, e, hM']⟩
    · rw [if_neg e] at hM'
      obtain ⟨j, hj, e2⟩ := h2 i' k' hM'
      exact ⟨j, by omega, by unfold upd; rw [if_neg (by omega)]; exact e2⟩
  · unfold upd at e
    by_cases e1 : j = L <;> by_cases e2 : k = L
    · omega
    · rw [if_pos e1, if_neg e2] at e; exact absurd e.symm (hne k (by omega))
    · rw [if_neg e1, if_pos e2] at e; exact absurd e (hne j (by omega))
    · rw [if_neg e1, if_neg e2] at e; exact h3 j k (by omega) (by omega) e
theorem upd_inv {a : Nat → En} {L p : Nat} (x : En) (h : Ordered a L) (hp : p < L) : Inv (upd a p x) L p := by
  refine ⟨fun j j0 jL jp jp2 => ?_, fun p0 c c0 cL cp => ?_⟩
  · unfold upd; rw [if_neg jp, if_neg jp2]; exact h j j0 jL
  · have h1 := par_lt c0
    have h2 := par_lt p0
    unfold upd
    rw [if_neg (by omega), if_neg (by omega)]
    have e1 := h c c0 cL
    have e2 := h p p0 (by omega)
    rw [cp] at e1
    exact le_trans e2 e1
theorem upd_holds {a : Nat → En} {L n i p : Nat} {k : Int} {M : Nat → Option Int} (h : Holds a L n M) (hp : p < L) (hi : (a p).1 = i) : Holds (upd a p (i, k)) L n (mset M i (some k)) := by
  obtain ⟨h1, h2, h3⟩ := h
  refine ⟨fun j hj => ?_, fun i' k' hM' => ?_, fun j k hj hk e => ?_⟩
  · unfold upd mset
    by_cases e : j = p
    · rw [if_pos e]; exact ⟨by rw [← hi]; exact (h1 p hp).1, by simp⟩
    · rw [if_neg e, if_neg (fun e2 => e (h3 j p hj hp (by rw [e2, hi])))]; exact h1 j hj
  · unfold mset at hM'
    by_cases e : i' = i
    · rw [if_pos e] at hM'; injection hM' with hM'
      exact ⟨p, hp, by simp [upd, e, hM']⟩
    · rw [if_neg e] at hM'
      obtain ⟨j, hj, e2⟩ := h2 i' k' hM'
      refine ⟨j, hj, ?_⟩
      unfold upd
      rw [if_neg (fun e3 => e (by rw [← hi, ← e3, e2]))]
      exact e2
  · unfold upd at e
    by_cases e1 : j = p <;> by_cases e2 : k = p
    · omega
    · rw [if_pos e1, if_neg e2] at e; rw [e1]; exact h3 p k hp hk (by rw [hi]; exact e)
    · rw [if_neg e1, if_pos e2] at e; rw [e2]; exact h3 j p hj hp (by rw [hi]; exact e)
    · rw [if_neg e1, if_neg e2] at e; exact h3 j k hj hk e
/-- The last entry is taken away, or fills the gap at place p. -/
theorem cut_ordered {a : Nat → En} {L : Nat} (h : Ordered a (L + 1)) : Ordered a L := fun j j0 jL => h j j0 (by omega)
theorem cut_holds {a : Nat → En} {L n : Nat} {M : Nat → Option Int} (h : Holds a (L + 1) n M) : Holds a L n (mset M (a L).1 none) := by
  obtain ⟨h1, h2, h3⟩ := h
  refine ⟨fun j hj => ?_, fun i k hM => ?_, fun j k hj hk e => h3 j k (by omega) (by omega) e⟩
  · unfold mset
    rw [if_neg (fun e => by have := h3 j L (by omega) (by omega) e; omega)]
    exact h1 j (by omega)
  · unfold mset at hM
    by_cases e : i = (a L).1
    · rw [if_pos e] at hM; cases hM
    · rw [if_neg e] at hM
      obtain ⟨j, hj, e2⟩ := h2 i k hM
      have : j ≠ L := by rintro rfl; rw [e2] at e; exact e rfl
      exact ⟨j, by omega, e2⟩
theorem fill_holds {a : Nat → En} {L n p : Nat} {M : Nat → Option Int} (hp : p < L) (h : Holds a (L + 1) n M) : Holds (upd a p (a L)) L n (mset M (a p).1 none) := by
  have h' := cut_holds (holds_swp (p := p) (q := L) (by omega) (by omega) h)
  rw [swp_r] at h'
  have e : ∀ j, j < L → swp a p L j = upd a p (a L) j := fun j hj => by
    unfold swp upd
    by_cases e : j = p
    · rw [if_pos e, if_pos e]
    · rw [if_neg e, if_neg e, if_neg (by omega)]
  obtain ⟨h1, h2, h3⟩ := h'
  refine ⟨fun j hj => by rw [← e j hj]; exact h1 j hj, fun i k hM => ?_, fun j k hj hk ee => h3 j k hj hk (by rw [e j hj, e k hk]; exact ee)⟩
  obtain ⟨j, hj, e2⟩ := h2 i k hM
  exact ⟨j, hj, by rw [← e j hj]; exact e2⟩
end Go.Proofs.Ytijoaiehnemgnaa
