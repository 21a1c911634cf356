/- The reference's number of nodes. -/
import Derived.Test.YtamkegnnlbefdaaTrQ
namespace Go.Proofs.Ytamkegnnlbefdaa

def at0 (L : List Rt) (i : Nat) : Rt := L.getD i ((0, 0), 0)
theorem at0_get {L : List Rt} {i : Nat} (h : i < L.length) : at0 L i = L[i] := by simp [at0, List.getD, h]
def withL (l : List Px) (p : Px) : List Px := if p ∈ l then l else l ++ [p]
theorem with_mem {l : List Px} {p m : Px} : m ∈ withL l p ↔ m ∈ l ∨ m = p := by
  unfold withL
  split
  · rename_i h
    exact ⟨.inl, fun h1 => h1.elim id (fun e => e ▸ h)⟩
  · simp
theorem with_nodup {l : List Px} {p : Px} (h : l.Nodup) : (withL l p).Nodup := by
  unfold withL
  split
  · exact h
  · rename_i hn
    exact List.nodup_append.2 ⟨h, by simp, fun a ha b hb e => by simp at hb; exact hn (hb ▸ e ▸ ha)⟩
theorem with_len {l : List Px} {p : Px} : (withL l p).length ≤ l.length + 1 := by unfold withL; split <;> simp
def nodesI (L : List Rt) : Nat → List Px
  | 0 => []
  | i + 1 => if 0 < i then withL (withL (nodesI L i) (at0 L i).1) (meet (at0 L (i - 1)).1 (at0 L i).1) else withL (nodesI L i) (at0 L i).1
theorem nodesI_nodup (L : List Rt) : ∀ i, (nodesI L i).Nodup
  | 0 => List.nodup_nil
  | i + 1 => by
    unfold nodesI
    split
    · exact with_nodup (with_nodup (nodesI_nodup L i))
    · exact with_nodup (nodesI_nodup L i)
theorem nodesI_len (L : List Rt) : ∀ i, (nodesI L i).length ≤ 2 * i
  | 0 => Nat.le_refl _
  | i + 1 => by
    have ih := nodesI_len L i
    unfold nodesI
    split
    · have h1 := with_len (l := withL (nodesI L i) (at0 L i).1) (p := meet (at0 L (i - 1)).1 (at0 L i).1)
      have h2 := with_len (l := nodesI L i) (p := (at0 L i).1)
      omega
    · have h2 := with_len (l := nodesI L i) (p := (at0 L i).1)
      omega
theorem nodesI_mem (L : List Rt) (m : Px) : ∀ i, m ∈ nodesI L i ↔ (∃ j, j < i ∧ m = (at0 L j).1) ∨ ∃ j, j + 1 < i ∧ m = meet (at0 L j).1 (at0 L (j + 1)).1
  | 0 => by simp [nodesI]
  | i + 1 => by
    have ih := nodesI_mem L m i
    have s1 : (∃ j, j < i + 1 ∧ m = (at0 L j).1) ↔ (∃ j, j < i ∧ m = (at0 L j).1) ∨ m = (at0 L i).1 := by
      constructor
      · rintro ⟨j, hj, e⟩
        rcases Nat.lt_or_ge j i with h | h
        · exact .inl ⟨j, h, e⟩
        · obtain rfl : j = i := by omega
          exact .inr e
      · rintro (⟨j, hj, e⟩ | e)
        · exact ⟨j, by omega, e⟩
        · exact ⟨i, by omega, e⟩
    unfold nodesI
    split
    · rename_i h0
      have s2 : (∃ j, j + 1 < i + 1 ∧ m = meet (at0 L j).1 (at0 L (j + 1)).1) ↔ (∃ j, j + 1 < i ∧ m = meet (at0 L j).1 (at0 L (j + 1)).1) ∨ m = meet (at0 L (i - 1)).1 (at0 L i).1 := by
        constructor
        · rintro ⟨j, hj, e⟩
          rcases Nat.lt_or_ge (j + 1) i with h | h
          · exact .inl ⟨j, h, e⟩
          · obtain rfl : i = j + 1 := by omega
            exact .inr (by simpa using e)
        · rintro (⟨j, hj, e⟩ | e)
          · exact ⟨j, by omega, e⟩
          · exact ⟨i - 1, by omega, by rw [show i - 1 + 1 = i by omega]; exact e⟩
      rw [with_mem, with_mem, ih, s1, s2]
      exact ⟨fun h => h.elim (fun h => h.elim (fun h => h.elim (fun h => .inl (.inl h)) (fun h => .inr (.inl h))) (fun h => .inl (.inr h))) (fun h => .inr (.inr h)),
        fun h => h.elim (fun h => h.elim (fun h => .inl (.inl (.inl h))) (fun h => .inl (.inr h))) (fun h => h.elim (fun h => .inl (.inl (.inr h))) .inr)⟩
    · rename_i h0
      obtain rfl : i = 0 := by omega
      rw [with_mem, ih, s1]
      constructor
      · rintro ((h | ⟨j, hj, _⟩) | h)
        · exact .inl (.inl h)
        · omega
        · exact .inl (.inr h)
      · rintro ((h | h) | ⟨j, hj, _⟩)
        · exact .inl (.inl h)
        · exact .inr h
        · omega
theorem adj_at {L : List Rt} {y x : Rt} : Adj L y x ↔ ∃ j, j + 1 < L.length ∧ y = at0 L j ∧ x = at0 L (j + 1) := by
  constructor
  · rintro ⟨A, B, rfl⟩
    refine ⟨A.length, by simp, ?_, ?_⟩
    · rw [at0_get (by simp)]; simp
    · rw [at0_get (by simp)]; simp
  · rintro ⟨j, hj, rfl, rfl⟩
    rw [at0_get (by omega), at0_get hj]
    refine ⟨L.take j, L.drop (j + 2), ?_⟩
    rw [← List.drop_eq_getElem_cons hj, ← List.drop_eq_getElem_cons (by omega), List.take_append_drop]
/-- The reference counts the nodes of the trie. -/
theorem nodes_cnt {t : Tr} (hw : WF t) : (nodesI (routes t) (routes t).length).length = cnt t := by
  have h1 : ∀ m, m ∈ nodesI (routes t) (routes t).length ↔ m ∈ prefs t := by
    intro m
    rw [nodesI_mem, prefs_meet hw]
    constructor
    · rintro (⟨j, hj, e⟩ | ⟨j, hj, e⟩)
      · exact .inl ⟨at0 (routes t) j, by rw [at0_get hj]; exact List.getElem_mem hj, e⟩
      · exact .inr ⟨_, _, adj_at.2 ⟨j, hj, rfl, rfl⟩, e⟩
    · rintro (⟨x, hx, e⟩ | ⟨y, x, ha, e⟩)
      · obtain ⟨j, hj, rfl⟩ := List.getElem_of_mem hx
        exact .inl ⟨j, hj, by rw [at0_get hj]; exact e⟩
      · obtain ⟨j, hj, rfl, rfl⟩ := adj_at.1 ha
        exact .inr ⟨j, hj, e⟩
  have h2 : (prefs t).Nodup := (prefs_sorted hw).imp fun {a b} h e => by rw [e] at h; exact Lt.irrefl h
  have h3 : (nodesI (routes t) (routes t).length).Perm (prefs t) := by
    refine (List.perm_ext_iff_of_nodup (nodesI_nodup _ _) h2).2 h1
  exact h3.length_eq
end Go.Proofs.Ytamkegnnlbefdaa
