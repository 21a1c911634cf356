/- Plain facts about tries: routes in order, insertion, removal, lookup, the number of nodes. -/
import Derived.Test.YtamkegnnlbefdaaPfxT
namespace Go.Proofs.Ytamkegnnlbefdaa

/-- The order of prefixes, strictly. -/
def Lt (p q : Px) : Prop := p.1 < q.1 ∨ (p.1 = q.1 ∧ p.2 < q.2)
theorem Lt.irrefl {p : Px} : ¬ Lt p p := by unfold Lt; omega
theorem Lt.trans {p q r : Px} (h1 : Lt p q) (h2 : Lt q r) : Lt p r := by unfold Lt at *; omega
theorem Lt.tri (p q : Px) : Lt p q ∨ p = q ∨ Lt q p := by
  obtain ⟨a, l⟩ := p; obtain ⟨b, m⟩ := q
  unfold Lt
  simp only [Prod.mk.injEq]
  omega
abbrev Rt := Px × Int
abbrev Srt (L : List Rt) : Prop := L.Pairwise (fun a b => Lt a.1 b.1)
/-- Two sorted lists with the same members are equal. -/
theorem srt_ext : ∀ {L M : List Rt}, Srt L → Srt M → (∀ x, x ∈ L ↔ x ∈ M) → L = M
  | [], M, _, _, h => by
    cases M with
    | nil => rfl
    | cons b M => exact absurd ((h b).2 (by simp)) (by simp)
  | a :: L, [], _, _, h => absurd ((h a).1 (by simp)) (by simp)
  | a :: L, b :: M, hL, hM, h => by
    obtain ⟨ha, hL'⟩ := List.pairwise_cons.1 hL
    obtain ⟨hb, hM'⟩ := List.pairwise_cons.1 hM
    have hab : a = b := by
      rcases List.mem_cons.1 ((h a).1 (by simp)) with e | h1
      · exact e
      · rcases List.mem_cons.1 ((h b).2 (by simp)) with e | h2
        · exact e.symm
        · exact absurd (Lt.trans (hb a h1) (ha b h2)) Lt.irrefl
    subst hab
    congr 1
    refine srt_ext hL' hM' fun x => ⟨fun hx => ?_, fun hx => ?_⟩
    · rcases List.mem_cons.1 ((h x).1 (List.mem_cons_of_mem _ hx)) with e | h1
      · exact absurd (e ▸ ha x hx) Lt.irrefl
      · exact h1
    · rcases List.mem_cons.1 ((h x).2 (List.mem_cons_of_mem _ hx)) with e | h1
      · exact absurd (e ▸ hb x hx) Lt.irrefl
      · exact h1
theorem srt_key {L : List Rt} (h : Srt L) {a b : Rt} (ha : a ∈ L) (hb : b ∈ L) (e : a.1 = b.1) : a = b := by
  obtain ⟨i, hi, rfl⟩ := List.getElem_of_mem ha
  obtain ⟨j, hj, rfl⟩ := List.getElem_of_mem hb
  have hp := List.pairwise_iff_getElem.1 h
  rcases Nat.lt_trichotomy i j with hij | rfl | hij
  · have := hp i j hi hj hij; rw [e] at this; exact absurd this Lt.irrefl
  · rfl
  · have := hp j i hj hi hij; rw [e] at this; exact absurd this Lt.irrefl

/-- The bit behind the first n ones. -/
def dir (a n : Nat) : Bool := decide (a / 2 ^ (31 - n) % 2 = 1) && decide (n < 32)
def lo (p : Px) : Px := (p.1, p.2 + 1)
def hi (p : Px) : Px := (p.1 + sz (p.2 + 1), p.2 + 1)
theorem sz_succ {n : Nat} (h : n < 32) : sz n = 2 * sz (n + 1) := by
  unfold sz
  rw [show 32 - n = (32 - (n + 1)) + 1 by omega, Nat.pow_succ]
  omega
theorem vld_lo {p : Px} (h : Vld p) (hn : p.2 < 32) : Vld (lo p) := by
  have hs := sz_succ hn
  obtain ⟨h1, h2, h3⟩ := h
  refine ⟨by simp only [lo]; omega, ?_, by simp only [lo]; omega⟩
  simp only [lo]
  rw [hs] at h2
  rw [← Nat.mod_mul_left_mod p.1 2, h2]
  exact Nat.zero_mod _
theorem vld_hi {p : Px} (h : Vld p) (hn : p.2 < 32) : Vld (hi p) := by
  have hs := sz_succ hn
  have hl := (vld_lo h hn).2.1
  obtain ⟨h1, h2, h3⟩ := h
  refine ⟨by simp only [hi]; omega, ?_, by simp only [hi]; omega⟩
  simp only [hi, lo] at *
  rw [Nat.add_mod_right]
  exact hl
theorem Cov.refl {p : Px} : Cov p p := ⟨Nat.le_refl _, Nat.le_refl _, by have := sz_pos p.2; omega⟩
theorem cov_in {p q : Px} (hp : Vld p) (hq : Vld q) (h : Cov p q) : p.1 ≤ q.1 ∧ q.1 + sz q.2 ≤ p.1 + sz p.2 := by
  rcases nest hp hq h.1 with h1 | h1 | h1
  · exact ⟨h.2.1, h1.2⟩
  · have := h.2.2; omega
  · have := h.2.1; have := sz_pos q.2; omega
theorem Cov.trans {p q r : Px} (hp : Vld p) (hq : Vld q) (h1 : Cov p q) (h2 : Cov q r) : Cov p r := by
  have := cov_in hp hq h1
  have := h2.2
  unfold Has at this
  exact ⟨Nat.le_trans h1.1 h2.1, by omega, by omega⟩
theorem cov_anti {p q : Px} (h1 : Cov p q) (h2 : Cov q p) : p = q := by
  have e : p.2 = q.2 := Nat.le_antisymm h1.1 h2.1
  have := h1.2.1
  have := h2.2.1
  exact Prod.ext (by omega) e
/-- The bit tells the half. -/
theorem dir_half {p : Px} (hp : Vld p) (hn : p.2 < 32) {x : Nat} (hx : Has p x) : dir x p.2 = decide (p.1 + sz (p.2 + 1) ≤ x) := by
  have hs := sz_succ hn
  obtain ⟨m, hm⟩ := of_mod hp.2.1
  have e : sz (p.2 + 1) = 2 ^ (31 - p.2) := by unfold sz; congr 1; omega
  unfold Has at hx
  unfold dir
  rw [← e, decide_eq_true hn, Bool.and_true]
  have hz := sz_pos (p.2 + 1)
  generalize sz (p.2 + 1) = z at *
  rw [hs] at hm hx
  have hx1 : p.1 = (2 * m) * z := by rw [hm, Nat.mul_left_comm, ← Nat.mul_assoc]
  by_cases hc : p.1 + z ≤ x
  · have hq : x / z = 2 * m + 1 := by
      apply Nat.div_eq_of_lt_le
      · rw [Nat.add_mul, Nat.one_mul, ← hx1]; exact hc
      · rw [Nat.add_mul, Nat.add_mul, Nat.one_mul, ← hx1]; omega
    rw [hq, decide_eq_true hc]
    simp
  · have hq : x / z = 2 * m := by
      apply Nat.div_eq_of_lt_le
      · rw [← hx1]; exact hx.1
      · rw [Nat.add_mul, Nat.one_mul, ← hx1]; omega
    rw [hq, decide_eq_false hc]
    simp
def half (p : Px) (b : Bool) : Px := if b then hi p else lo p
theorem vld_half {p : Px} (h : Vld p) (hn : p.2 < 32) (b : Bool) : Vld (half p b) := by
  unfold half; split
  · exact vld_hi h hn
  · exact vld_lo h hn
theorem half_len (p : Px) (b : Bool) : (half p b).2 = p.2 + 1 := by unfold half; split <;> rfl
theorem cov_half {p : Px} (hn : p.2 < 32) (b : Bool) : Cov p (half p b) := by
  have hs := sz_succ hn
  have := sz_pos (p.2 + 1)
  refine ⟨by rw [half_len]; omega, ?_⟩
  unfold half Has; split <;> simp only [hi, lo] <;> omega
/-- A prefix that another one covers properly lies in the half that its bit names. -/
theorem cov_dir {p q : Px} (hp : Vld p) (hq : Vld q) (hc : Cov p q) (hne : p ≠ q) : p.2 < 32 ∧ Cov (half p (dir q.1 p.2)) q := by
  have hlt : p.2 < q.2 := by
    rcases Nat.lt_or_ge p.2 q.2 with h | h
    · exact h
    · exfalso
      have e : p.2 = q.2 := Nat.le_antisymm hc.1 h
      have := cov_in hp hq hc
      rw [e] at this
      exact hne (Prod.ext (by omega) e)
  have hn : p.2 < 32 := Nat.lt_of_lt_of_le hlt hq.1
  refine ⟨hn, ?_⟩
  rw [dir_half hp hn hc.2]
  have hs := sz_succ hn
  have hin := cov_in hp hq hc
  have hz := sz_pos q.2
  refine ⟨by rw [half_len]; omega, ?_⟩
  unfold half Has
  by_cases h : p.1 + sz (p.2 + 1) ≤ q.1
  · rw [if_pos (decide_eq_true h)]
    simp only [hi]; omega
  · rw [if_neg (by simpa using h)]
    simp only [lo]; omega
theorem dir_of_half {p q : Px} (hp : Vld p) (hn : p.2 < 32) (hq : Vld q) {b : Bool} (h : Cov (half p b) q) : dir q.1 p.2 = b := by
  have hin := cov_in (vld_half hp hn b) hq h
  have hs := sz_succ hn
  have hz := sz_pos q.2
  have hz2 := sz_pos (p.2 + 1)
  rw [half_len] at hin
  have hx : Has p q.1 := by
    unfold half at hin
    unfold Has
    cases b <;> simp [hi, lo] at hin <;> omega
  rw [dir_half hp hn hx]
  unfold half at hin
  cases b <;> simp [hi, lo] at hin ⊢ <;> omega
end Go.Proofs.Ytamkegnnlbefdaa
