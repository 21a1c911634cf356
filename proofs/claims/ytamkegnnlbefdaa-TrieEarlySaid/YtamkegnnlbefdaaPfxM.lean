/- Plain facts about prefixes: nested or apart; the least list is determined by its addresses; what the reference computes; a stack of halves. -/
namespace Go.Proofs.Ytamkegnnlbefdaa
/-- A prefix: its address and its length. -/
abbrev Px := Nat × Nat
def sz (l : Nat) : Nat := 2 ^ (32 - l)
theorem sz_pos (l : Nat) : 0 < sz l := Nat.two_pow_pos _
def Vld (p : Px) : Prop := p.2 ≤ 32 ∧ p.1 % sz p.2 = 0 ∧ p.1 + sz p.2 ≤ 4294967296
def Has (p : Px) (x : Nat) : Prop := p.1 ≤ x ∧ x < p.1 + sz p.2
def Cov (p q : Px) : Prop := p.2 ≤ q.2 ∧ Has p q.1
instance (p : Px) (x : Nat) : Decidable (Has p x) := inferInstanceAs (Decidable (_ ∧ _))
instance (p q : Px) : Decidable (Cov p q) := inferInstanceAs (Decidable (_ ∧ _))
instance (p : Px) : Decidable (Vld p) := inferInstanceAs (Decidable (_ ∧ _ ∧ _))
theorem mul_nest {m d n s : Nat} (h2 : n * s < m * (d * s) + d * s) : n * s + s ≤ m * (d * s) + d * s := by
  have e1 : m * (d * s) + d * s = ((m + 1) * d) * s := by rw [Nat.mul_assoc, Nat.add_mul, Nat.one_mul]
  rw [e1] at h2 ⊢
  have h3 : n < (m + 1) * d := Nat.lt_of_mul_lt_mul_right h2
  have : (n + 1) * s ≤ ((m + 1) * d) * s := Nat.mul_le_mul_right s h3
  rw [Nat.add_mul, Nat.one_mul] at this
  exact this
theorem mul_before {m d n s : Nat} (h1 : n * s < m * (d * s)) : n * s + s ≤ m * (d * s) := by
  rw [← Nat.mul_assoc] at h1 ⊢
  have h3 : n < m * d := Nat.lt_of_mul_lt_mul_right h1
  have : (n + 1) * s ≤ (m * d) * s := Nat.mul_le_mul_right s h3
  rw [Nat.add_mul, Nat.one_mul] at this
  exact this
theorem sz_dvd {l m : Nat} (h : l ≤ m) : ∃ d, sz l = d * sz m := ⟨2 ^ ((32 - l) - (32 - m)), by unfold sz; rw [← Nat.pow_add]; congr 1; omega⟩
theorem of_mod {a s : Nat} (h : a % s = 0) : ∃ n, a = n * s := ⟨a / s, by have := Nat.div_add_mod a s; rw [h, Nat.mul_comm] at this; omega⟩
/-- Of two prefixes the shorter one covers the other one, or they lie apart. -/
theorem nest {p q : Px} (hp : Vld p) (hq : Vld q) (h : p.2 ≤ q.2) : (Has p q.1 ∧ q.1 + sz q.2 ≤ p.1 + sz p.2) ∨ p.1 + sz p.2 ≤ q.1 ∨ q.1 + sz q.2 ≤ p.1 := by
  obtain ⟨d, hd⟩ := sz_dvd h
  obtain ⟨m, hm⟩ := of_mod hp.2.1
  obtain ⟨n, hn⟩ := of_mod hq.2.1
  have hs := sz_pos q.2
  unfold Has
  by_cases h1 : q.1 < p.1
  · right; right
    rw [hm, hn, hd] at h1
    rw [hm, hn, hd]
    exact mul_before h1
  · by_cases h2 : q.1 < p.1 + sz p.2
    · left
      refine ⟨⟨by omega, h2⟩, ?_⟩
      rw [hm, hn, hd] at h1 h2
      rw [hm, hn, hd]
      exact mul_nest h2
    · omega
/-- The addresses of a list. -/
def U (X : List Px) (x : Nat) : Prop := ∃ p ∈ X, Has p x
def Sib (p q : Px) : Prop := p.2 = q.2 ∧ 0 < p.2 ∧ q.1 = p.1 + sz p.2 ∧ p.1 % (2 * sz p.2) = 0
/-- Sorted, apart, and no two are the halves of one. -/
def Canon (X : List Px) : Prop := (∀ p ∈ X, Vld p) ∧ X.Pairwise (fun p q => p.1 + sz p.2 ≤ q.1) ∧ ∀ p ∈ X, ∀ q ∈ X, ¬ Sib p q
def Full (S : Nat → Prop) (k a : Nat) : Prop := ∀ x, a ≤ x → x < a + 2 ^ k → S x
open Classical in
/-- The least list for the addresses of S in the block of 2^k addresses at a. -/
noncomputable def canon (S : Nat → Prop) : Nat → Nat → List Px
  | 0, a => if Full S 0 a then [(a, 32)] else []
  | k + 1, a => if Full S (k + 1) a then [(a, 32 - (k + 1))] else canon S k a ++ canon S k (a + 2 ^ k)
theorem canon_full {S : Nat → Prop} {k a : Nat} (h : Full S k a) : canon S k a = [(a, 32 - k)] := by
  cases k <;> simp [canon, h]
theorem canon_split {S : Nat → Prop} {k a : Nat} (h : ¬ Full S (k + 1) a) : canon S (k + 1) a = canon S k a ++ canon S k (a + 2 ^ k) := by
  simp [canon, h]
theorem full_same {S T : Nat → Prop} {k a : Nat} (h : ∀ x, a ≤ x → x < a + 2 ^ k → (S x ↔ T x)) : Full S k a ↔ Full T k a :=
  ⟨fun hf x h1 h2 => (h x h1 h2).1 (hf x h1 h2), fun hf x h1 h2 => (h x h1 h2).2 (hf x h1 h2)⟩
theorem canon_same {S T : Nat → Prop} {k : Nat} : ∀ {a : Nat}, (∀ x, a ≤ x → x < a + 2 ^ k → (S x ↔ T x)) → canon S k a = canon T k a := by
  induction k with
  | zero =>
    intro a h
    by_cases hf : Full T 0 a
    · rw [canon_full hf, canon_full ((full_same h).2 hf)]
    · have hg : ¬ Full S 0 a := fun hg => hf ((full_same h).1 hg)
      simp [canon, hf, hg]
  | succ k ih =>
    intro a h
    have e : 2 ^ (k + 1) = 2 ^ k + 2 ^ k := by rw [Nat.pow_succ]; omega
    rw [e] at h
    by_cases hf : Full T (k + 1) a
    · rw [canon_full hf, canon_full ((full_same (by rw [e]; exact h)).2 hf)]
    · rw [canon_split hf, canon_split (fun hg => hf ((full_same (by rw [e]; exact h)).1 hg)), ih (fun x h1 h2 => h x h1 (by omega)), ih (fun x h1 h2 => h x (by omega) (by omega))]
theorem full_halves {S : Nat → Prop} {k a : Nat} : Full S (k + 1) a ↔ Full S k a ∧ Full S k (a + 2 ^ k) := by
  have e : 2 ^ (k + 1) = 2 ^ k + 2 ^ k := by rw [Nat.pow_succ]; omega
  unfold Full
  rw [e]
  constructor
  · intro h; exact ⟨fun x h1 h2 => h x h1 (by omega), fun x h1 h2 => h x (by omega) (by omega)⟩
  · rintro ⟨h1, h2⟩ x h3 h4
    by_cases hx : x < a + 2 ^ k
    · exact h1 x h3 hx
    · exact h2 x (by omega) (by omega)
theorem canon_none {S : Nat → Prop} {k : Nat} : ∀ {a : Nat}, (∀ x, a ≤ x → x < a + 2 ^ k → ¬ S x) → canon S k a = [] := by
  induction k with
  | zero =>
    intro a h
    have : ¬ Full S 0 a := fun hf => h a (by omega) (by simp) (hf a (by omega) (by simp))
    simp [canon, this]
  | succ k ih =>
    intro a h
    have e : 2 ^ (k + 1) = 2 ^ k + 2 ^ k := by rw [Nat.pow_succ]; omega
    have hp : 0 < 2 ^ k := Nat.two_pow_pos k
    rw [e] at h
    have : ¬ Full S (k + 1) a := fun hf => h a (by omega) (by omega) (hf a (by omega) (by rw [e]; omega))
    rw [canon_split this, ih (fun x h1 h2 => h x h1 (by omega)), ih (fun x h1 h2 => h x (by omega) (by omega))]
    rfl
theorem split_at (b : Nat) : ∀ {X : List Px}, X.Pairwise (fun p q => p.1 + sz p.2 ≤ q.1) → X = X.filter (fun p => decide (p.1 < b)) ++ X.filter (fun p => decide (b ≤ p.1))
  | [], _ => rfl
  | p :: X, h => by
    obtain ⟨h1, h2⟩ := List.pairwise_cons.1 h
    by_cases hb : p.1 < b
    · rw [List.filter_cons_of_pos (by simpa using hb), List.filter_cons_of_neg (by simpa using hb), List.cons_append, ← split_at b h2]
    · have e : ∀ q ∈ X, ¬ q.1 < b := fun q hq => by have := h1 q hq; omega
      have e1 : X.filter (fun p => decide (p.1 < b)) = [] := List.filter_eq_nil_iff.2 fun q hq => by simpa using e q hq
      have e2 : X.filter (fun p => decide (b ≤ p.1)) = X := List.filter_eq_self.2 fun q hq => by have := e q hq; simp; omega
      rw [List.filter_cons_of_neg (by simpa using hb), List.filter_cons_of_pos (by simp; omega), e1, e2]
      rfl
theorem alone {X : List Px} {p : Px} {a e : Nat} (hX : X.Pairwise (fun p q => p.1 + sz p.2 ≤ q.1)) (hin : ∀ q ∈ X, a ≤ q.1 ∧ q.1 + sz q.2 ≤ e) (hp : p ∈ X) (h1 : p.1 = a) (h2 : p.1 + sz p.2 = e) : X = [p] := by
  obtain ⟨A, B, rfl⟩ := List.append_of_mem hp
  rw [List.pairwise_append] at hX
  obtain ⟨_, hB, hAB⟩ := hX
  have : A = [] := by
    cases A with
    | nil => rfl
    | cons q A =>
      have := hAB q (by simp) p (by simp)
      have := hin q (by simp)
      have := sz_pos q.2
      omega
  subst this
  have : B = [] := by
    cases B with
    | nil => rfl
    | cons q B =>
      have := (List.pairwise_cons.1 hB).1 q (by simp)
      have := hin q (by simp)
      have := sz_pos q.2
      omega
  subst this
  rfl
theorem mod_half {a k : Nat} (h : a % 2 ^ (k + 1) = 0) : a % 2 ^ k = 0 ∧ (a + 2 ^ k) % 2 ^ k = 0 := by
  obtain ⟨n, rfl⟩ := of_mod h
  refine ⟨?_, ?_⟩
  · rw [Nat.pow_succ, show n * (2 ^ k * 2) = (n * 2) * 2 ^ k by rw [Nat.mul_assoc, Nat.mul_comm 2 (2 ^ k)]]; exact Nat.mul_mod_left _ _
  · rw [Nat.pow_succ, show n * (2 ^ k * 2) + 2 ^ k = (n * 2 + 1) * 2 ^ k by rw [Nat.add_mul, Nat.one_mul, Nat.mul_assoc, Nat.mul_comm 2 (2 ^ k)]]; exact Nat.mul_mod_left _ _
theorem canon_sub {X Y : List Px} (h : Canon X) (hs : Y.Sublist X) : Canon Y :=
  ⟨fun p hp => h.1 p (hs.subset hp), h.2.1.sublist hs, fun p hp q hq => h.2.2 p (hs.subset hp) q (hs.subset hq)⟩
theorem u_filter {X : List Px} {b : Px → Bool} {x : Nat} (h : ∀ p ∈ X, Has p x → b p = true) : U X x ↔ U (X.filter b) x := by
  constructor
  · rintro ⟨p, hp, hx⟩; exact ⟨p, List.mem_filter.2 ⟨hp, h p hp hx⟩, hx⟩
  · rintro ⟨p, hp, hx⟩; exact ⟨p, (List.mem_filter.1 hp).1, hx⟩
/-- A canonical list is determined by its addresses. -/
theorem uniq : ∀ (k : Nat) {X : List Px} {a : Nat}, k ≤ 32 → a % 2 ^ k = 0 → a + 2 ^ k ≤ 4294967296 → Canon X → (∀ p ∈ X, a ≤ p.1 ∧ p.1 + sz p.2 ≤ a + 2 ^ k) → X = canon (U X) k a := by
  intro k
  induction k with
  | zero =>
    intro X a hk ha hb hX hin
    by_cases hx : X = []
    · subst hx; exact (canon_none (fun x _ _ ⟨p, hp, _⟩ => by cases hp)).symm
    · obtain ⟨p, hp⟩ := List.exists_mem_of_ne_nil X hx
      have h1 := hin p hp
      have h2 := sz_pos p.2
      have h3 := (hX.1 p hp).1
      have hpe : p = (a, 32) := by
        obtain ⟨p1, p2⟩ := p
        simp only at h1 h2 h3
        have : sz p2 = 1 := by omega
        have h4 : p2 = 32 := by
          unfold sz at this
          by_cases h : p2 = 32
          · exact h
          · exact absurd (Nat.pow_le_pow_right (show 0 < 2 by omega) (show 1 ≤ 32 - p2 by omega)) (by rw [this]; decide)
        subst h4
        simp; omega
      subst hpe
      have := alone (e := a + 1) hX.2.1 (by simpa using hin) hp rfl rfl
      rw [this]
      exact (canon_full (S := U [(a, 32)]) (k := 0) (fun x h5 h6 => ⟨(a, 32), by simp, h5, by simpa [sz] using h6⟩)).symm
  | succ k ih =>
    intro X a hk ha hb hX hin
    have e : 2 ^ (k + 1) = 2 ^ k + 2 ^ k := by rw [Nat.pow_succ]; omega
    have hpk := Nat.two_pow_pos k
    have ha2 := mod_half ha
    by_cases hw : (a, 32 - (k + 1)) ∈ X
    · have es : sz (32 - (k + 1)) = 2 ^ (k + 1) := by unfold sz; congr 1; omega
      have := alone hX.2.1 hin hw rfl (by rw [es])
      rw [this]
      exact (canon_full fun x h5 h6 => ⟨(a, 32 - (k + 1)), by simp, h5, by show x < a + sz (32 - (k + 1)); rw [es]; exact h6⟩).symm
    · have small : ∀ p ∈ X, 32 - k ≤ p.2 := fun p hp => by
        have h1 := hin p hp
        have h3 := (hX.1 p hp).1
        rcases Nat.lt_or_ge p.2 (32 - k) with h | h
        · exfalso
          have h4 : 2 ^ (k + 1) ≤ sz p.2 := Nat.pow_le_pow_right (by omega) (by omega)
          have h5 : p.2 = 32 - (k + 1) := by
            rcases Nat.lt_or_ge p.2 (32 - (k + 1)) with h6 | h6
            · have h7 : 2 ^ (k + 1 + 1) ≤ sz p.2 := Nat.pow_le_pow_right (by omega) (by omega)
              rw [Nat.pow_succ] at h7
              omega
            · omega
          apply hw
          have : p = (a, 32 - (k + 1)) := by
            obtain ⟨p1, p2⟩ := p
            simp only at h1 h4 h5
            subst h5
            simp; omega
          rw [← this]; exact hp
        · exact h
      have half : ∀ p ∈ X, p.1 < a + 2 ^ k → p.1 + sz p.2 ≤ a + 2 ^ k := fun p hp hlt => by
        have hm : Vld (a + 2 ^ k, 32 - k) := ⟨by simp, by
          have : sz (32 - k) = 2 ^ k := by unfold sz; congr 1; omega
          simp only [this]; exact ha2.2, by
          have : sz (32 - k) = 2 ^ k := by unfold sz; congr 1; omega
          simp only [this]; omega⟩
        rcases nest hm (hX.1 p hp) (small p hp) with ⟨h1, _⟩ | h1 | h1
        · have := h1.1; simp only at this; omega
        · simp only at h1; omega
        · simpa using h1
      have hs := split_at (a + 2 ^ k) hX.2.1
      have c1 := canon_sub hX (List.filter_sublist (p := fun p : Px => decide (p.1 < a + 2 ^ k)) (l := X))
      have c2 := canon_sub hX (List.filter_sublist (p := fun p : Px => decide (a + 2 ^ k ≤ p.1)) (l := X))
      have i1 := ih (by omega) ha2.1 (by omega) c1 (fun p hp => by
        obtain ⟨hp, hb⟩ := List.mem_filter.1 hp
        exact ⟨(hin p hp).1, half p hp (by simpa using hb)⟩)
      have i2 := ih (a := a + 2 ^ k) (by omega) ha2.2 (by omega) c2 (fun p hp => by
        obtain ⟨hp, hb⟩ := List.mem_filter.1 hp
        exact ⟨by simpa using hb, by have := (hin p hp).2; omega⟩)
      have s1 : ∀ x, a ≤ x → x < a + 2 ^ k → (U X x ↔ U (X.filter fun p => decide (p.1 < a + 2 ^ k)) x) := fun x _ h2 => u_filter fun p hp hx => by
        have := hx.1; simp; omega
      have s2 : ∀ x, a + 2 ^ k ≤ x → x < a + 2 ^ k + 2 ^ k → (U X x ↔ U (X.filter fun p => decide (a + 2 ^ k ≤ p.1)) x) := fun x h1 _ => u_filter fun p hp hx => by
        rcases Nat.lt_or_ge p.1 (a + 2 ^ k) with h | h
        · have := half p hp h; have := hx.2; omega
        · simpa using h
      rw [← canon_same s1] at i1
      rw [← canon_same s2] at i2
      have hnf : ¬ Full (U X) (k + 1) a := fun hf => by
        obtain ⟨f1, f2⟩ := full_halves.1 hf
        rw [canon_full f1] at i1
        rw [canon_full f2] at i2
        have es : sz (32 - k) = 2 ^ k := by unfold sz; congr 1; omega
        refine hX.2.2 (a, 32 - k) (List.mem_filter.1 (i1 ▸ List.mem_singleton.2 rfl : (a, 32 - k) ∈ X.filter _)).1 (a + 2 ^ k, 32 - k) (List.mem_filter.1 (i2 ▸ List.mem_singleton.2 rfl : (a + 2 ^ k, 32 - k) ∈ X.filter _)).1 ⟨rfl, by simp; omega, by simp [es], ?_⟩
        simp only [es]
        rw [show 2 * 2 ^ k = 2 ^ (k + 1) by rw [Nat.pow_succ]; omega]
        exact ha
      rw [canon_split hnf, ← i1, ← i2]
      exact hs
/-- What the reference computes. -/
def aggR : Nat → List Px → Nat → List Px × Bool
  | 0, l, a => if l.any (fun q => decide (Cov q (a, 32))) then ([(a, 32)], true) else ([], false)
  | k + 1, l, a =>
    if l.any (fun q => decide (Cov q (a, 32 - (k + 1)))) then ([(a, 32 - (k + 1))], true)
    else
      let l' := l.filter (fun q => decide (Cov (a, 32 - (k + 1)) q))
      if l' = [] then ([], false)
      else if (aggR k l' a).2 && (aggR k l' (a + 2 ^ k)).2 then ([(a, 32 - (k + 1))], true)
      else ((aggR k l' a).1 ++ (aggR k l' (a + 2 ^ k)).1, false)
theorem sz_of {k : Nat} (h : k ≤ 32) : sz (32 - k) = 2 ^ k := by unfold sz; congr 1; omega
theorem vld_block {k a : Nat} (hk : k ≤ 32) (ha : a % 2 ^ k = 0) (hb : a + 2 ^ k ≤ 4294967296) : Vld (a, 32 - k) := by
  refine ⟨by simp, ?_, ?_⟩
  · simp only [sz_of hk]; exact ha
  · simp only [sz_of hk]; exact hb
theorem cov_full {l : List Px} {k a : Nat} (hl : ∀ q ∈ l, Vld q) (hk : k ≤ 32) (ha : a % 2 ^ k = 0) (hb : a + 2 ^ k ≤ 4294967296) {q : Px} (hq : q ∈ l) (hc : Cov q (a, 32 - k)) : Full (U l) k a := by
  rcases nest (hl q hq) (vld_block hk ha hb) hc.1 with ⟨h1, h2⟩ | h1 | h1
  · simp only [sz_of hk] at h2
    intro x hx1 hx2
    refine ⟨q, hq, ?_, by omega⟩
    have := h1.1
    simp only at this
    omega
  · have := hc.2.2
    simp only at this h1
    omega
  · have := hc.2.1
    have := sz_pos (32 - k)
    simp only at this h1
    omega
theorem cov_filter {l : List Px} {k a : Nat} (hl : ∀ q ∈ l, Vld q) (hk : k ≤ 32) (ha : a % 2 ^ k = 0) (hb : a + 2 ^ k ≤ 4294967296) (hc : ∀ q ∈ l, ¬ Cov q (a, 32 - k)) (x : Nat) (h1 : a ≤ x) (h2 : x < a + 2 ^ k) :
    U l x ↔ U (l.filter (fun q => decide (Cov (a, 32 - k) q))) x := by
  have hv := vld_block hk ha hb
  have es := sz_of hk
  refine u_filter fun q hq hx => ?_
  rcases Nat.le_total q.2 (32 - k) with h | h
  · rcases nest (hl q hq) hv h with ⟨h3, _⟩ | h3 | h3
    · exact absurd ⟨h, h3⟩ (hc q hq)
    · have := hx.2; simp only at h3; omega
    · have := hx.1; simp only at h3; rw [es] at h3; omega
  · rcases nest hv (hl q hq) h with ⟨h3, _⟩ | h3 | h3
    · exact decide_eq_true ⟨h, h3⟩
    · have := hx.1; simp only at h3; rw [es] at h3; omega
    · have := hx.2; simp only at h3; omega
theorem not_full_none {S : Nat → Prop} {k a : Nat} (h : ∀ x, a ≤ x → x < a + 2 ^ k → ¬ S x) : ¬ Full S k a := fun hf => by
  have := Nat.two_pow_pos k
  exact h a (by omega) (by omega) (hf a (by omega) (by omega))
theorem aggR_zero {l : List Px} {a : Nat} (hl : ∀ q ∈ l, Vld q) (hc : ∀ q ∈ l, ¬ Cov q (a, 32)) : ∀ x, a ≤ x → x < a + 2 ^ 0 → ¬ U l x := by
  rintro x h1 h2 ⟨q, hq, hx⟩
  have hv := hl q hq
  have : x = a := by simp at h2; omega
  subst this
  exact hc q hq ⟨hv.1, hx⟩
open Classical in
theorem aggR_eq : ∀ (k : Nat) {l : List Px} {a : Nat}, k ≤ 32 → a % 2 ^ k = 0 → a + 2 ^ k ≤ 4294967296 → (∀ q ∈ l, Vld q) → aggR k l a = (canon (U l) k a, decide (Full (U l) k a)) := by
  intro k
  induction k with
  | zero =>
    intro l a hk ha hb hl
    unfold aggR
    by_cases hc : ∃ q ∈ l, Cov q (a, 32)
    · obtain ⟨q, hq, hc⟩ := hc
      have hf : Full (U l) 0 a := cov_full hl (k := 0) (by omega) ha hb hq hc
      rw [if_pos (List.any_eq_true.2 ⟨q, hq, by simpa using hc⟩), canon_full hf]
      simp [hf]
    · have hc2 : ∀ q ∈ l, ¬ Cov q (a, 32) := fun q hq h => hc ⟨q, hq, h⟩
      have hn := aggR_zero hl hc2
      have hnf := not_full_none (k := 0) hn
      rw [if_neg (by simpa using hc2), canon_none hn]
      simp [hnf]
  | succ k ih =>
    intro l a hk ha hb hl
    have e : 2 ^ (k + 1) = 2 ^ k + 2 ^ k := by rw [Nat.pow_succ]; omega
    unfold aggR
    by_cases hc : ∃ q ∈ l, Cov q (a, 32 - (k + 1))
    · obtain ⟨q, hq, hc⟩ := hc
      have hf : Full (U l) (k + 1) a := cov_full hl hk ha hb hq hc
      rw [if_pos (List.any_eq_true.2 ⟨q, hq, by simpa using hc⟩), canon_full hf]
      simp [hf]
    · have hc2 : ∀ q ∈ l, ¬ Cov q (a, 32 - (k + 1)) := fun q hq h => hc ⟨q, hq, h⟩
      have hs := cov_filter hl hk ha hb hc2
      rw [if_neg (by simpa using hc2)]
      generalize hl' : l.filter (fun q => decide (Cov (a, 32 - (k + 1)) q)) = l' at hs ⊢
      have hv' : ∀ q ∈ l', Vld q := fun q hq => hl q (by rw [← hl'] at hq; exact (List.mem_filter.1 hq).1)
      rw [canon_same hs, full_same hs]
      by_cases h0 : l' = []
      · subst h0
        have hn : ∀ x, a ≤ x → x < a + 2 ^ (k + 1) → ¬ U [] x := fun x _ _ ⟨p, hp, _⟩ => by cases hp
        have hnf := not_full_none hn
        simp only
        rw [canon_none hn]
        simp [hnf]
      · simp only [if_neg h0]
        have ha2 := mod_half ha
        rw [ih (by omega) ha2.1 (by omega) hv', ih (by omega) ha2.2 (by omega) hv']
        by_cases hf : Full (U l') (k + 1) a
        · obtain ⟨f1, f2⟩ := full_halves.1 hf
          rw [canon_full hf]
          simp [f1, f2, hf]
        · rw [canon_split hf]
          have : ¬ (Full (U l') k a ∧ Full (U l') k (a + 2 ^ k)) := fun h => hf (full_halves.2 h)
          simp only [hf, decide_false]
          rw [if_neg (by simpa using this)]

/-- The order of prefixes. -/
def Le (p q : Px) : Prop := p.1 < q.1 ∨ (p.1 = q.1 ∧ p.2 ≤ q.2)
abbrev Apart (X : List Px) : Prop := X.Pairwise (fun p q => p.1 + sz p.2 ≤ q.1)
/-- A stack and what is to be put on it. -/
structure Stk (X : List Px) (p : Px) : Prop where
  canon : Canon X
  vld : Vld p
  apart : ∀ x ∈ X, x.1 + sz x.2 ≤ p.1
theorem u_snoc {X : List Px} {p : Px} {x : Nat} : U (X ++ [p]) x ↔ U X x ∨ Has p x := by
  unfold U
  constructor
  · rintro ⟨q, hq, hx⟩
    rcases List.mem_append.1 hq with h | h
    · exact .inl ⟨q, h, hx⟩
    · rw [List.mem_singleton] at h; subst h; exact .inr hx
  · rintro (⟨q, hq, hx⟩ | hx)
    · exact ⟨q, List.mem_append_left _ hq, hx⟩
    · exact ⟨p, by simp, hx⟩
theorem top_last {Y : List Px} {t : Px} (h : Canon (Y ++ [t])) : ∀ x ∈ Y, x.1 + sz x.2 ≤ t.1 := fun x hx => by
  have := h.2.1
  rw [List.pairwise_append] at this
  exact this.2.2 x hx t (by simp)
/-- The last prefix covers the new one: nothing is new. -/
theorem cov_same {X : List Px} {t p : Px} (ht : t ∈ X) (h1 : Vld t) (h2 : Vld p) (hc : Cov t p) (x : Nat) : (U X x ∨ Has p x) ↔ U X x := by
  constructor
  · rintro (h | h)
    · exact h
    · refine ⟨t, ht, ?_⟩
      rcases nest h1 h2 hc.1 with ⟨h3, h4⟩ | h3 | h3
      · have := h.1; have := h.2; have := h3.1; unfold Has; omega
      · have := hc.2.2; omega
      · have := hc.2.1; have := sz_pos p.2; omega
  · exact .inl
/-- Else it lies behind all. -/
theorem stk_start {X : List Px} {p : Px} (hX : Canon X) (hp : Vld p) (hle : ∀ x ∈ X, Le x p) (hnc : ∀ Y t, X = Y ++ [t] → ¬ Cov t p) : Stk X p := by
  refine ⟨hX, hp, ?_⟩
  rcases List.eq_nil_or_concat X with rfl | ⟨Y, t, rfl⟩
  · intro x hx; cases hx
  · rw [List.concat_eq_append] at *
    have htv := hX.1 t (by simp)
    have hlt := hle t (by simp)
    have hn := hnc Y t rfl
    have key : t.1 + sz t.2 ≤ p.1 := by
      rcases Nat.le_total t.2 p.2 with h | h
      · rcases nest htv hp h with ⟨h3, _⟩ | h3 | h3
        · exact absurd ⟨h, h3⟩ hn
        · exact h3
        · have := sz_pos p.2; rcases hlt with h4 | h4 <;> omega
      · rcases nest hp htv h with ⟨h3, _⟩ | h3 | h3
        · rcases hlt with h4 | ⟨h4, h5⟩
          · have := h3.1; omega
          · have e : t.2 = p.2 := by omega
            exfalso; apply hn
            refine ⟨by omega, by omega, ?_⟩
            have := sz_pos t.2; omega
        · have := sz_pos p.2; rcases hlt with h4 | h4 <;> omega
        · exact h3
    intro x hx
    rcases List.mem_append.1 hx with h | h
    · have := top_last hX x h
      have := sz_pos t.2
      omega
    · rw [List.mem_singleton] at h; subst h; exact key
theorem sz_up {l : Nat} (h0 : 0 < l) (h : l ≤ 32) : sz (l - 1) = 2 * sz l := by
  unfold sz
  rw [show 32 - (l - 1) = (32 - l) + 1 by omega, Nat.pow_succ]; omega
/-- Two halves become one. -/
theorem stk_join {Y : List Px} {t p : Px} (h : Stk (Y ++ [t]) p) (hs : Sib t p) :
    Stk Y (t.1, t.2 - 1) ∧ (∀ x, (U Y x ∨ Has (t.1, t.2 - 1) x) ↔ (U (Y ++ [t]) x ∨ Has p x)) ∧ Le (t.1, t.2 - 1) p := by
  have hv := h.canon.1 t (by simp)
  obtain ⟨e1, e2, e3, e4⟩ := hs
  have hu := sz_up e2 hv.1
  have hp := h.vld
  have hps := sz_pos t.2
  refine ⟨⟨canon_sub h.canon (List.sublist_append_left _ _), ⟨?_, ?_, ?_⟩, fun x hx => top_last h.canon x hx⟩, fun x => ?_, .inl ?_⟩
  · show t.2 - 1 ≤ 32
    have := hv.1; omega
  · show t.1 % sz (t.2 - 1) = 0
    rw [hu]; exact e4
  · show t.1 + sz (t.2 - 1) ≤ _
    rw [hu]
    have := hp.2.2
    rw [← e1] at this
    omega
  · rw [u_snoc]
    have : Has (t.1, t.2 - 1) x ↔ Has t x ∨ Has p x := by
      unfold Has
      simp only [hu]
      rw [← e1]
      omega
    rw [this, or_assoc]
  · show t.1 < p.1
    omega
theorem stk_end {X : List Px} {p : Px} (h : Stk X p) (hn : ∀ Y t, X = Y ++ [t] → ¬ Sib t p) : Canon (X ++ [p]) := by
  obtain ⟨hc, hv, ha⟩ := h
  refine ⟨fun q hq => ?_, ?_, fun q hq r hr hs => ?_⟩
  · rcases List.mem_append.1 hq with h | h
    · exact hc.1 q h
    · rw [List.mem_singleton] at h; subst h; exact hv
  · rw [List.pairwise_append]
    exact ⟨hc.2.1, List.pairwise_singleton _ _, fun x hx q hq => by rw [List.mem_singleton] at hq; subst hq; exact ha x hx⟩
  · have p1 := sz_pos q.2
    have p2 := sz_pos r.2
    obtain ⟨e1, e2, e3, e4⟩ := hs
    rcases List.mem_append.1 hq with h | h
    · rcases List.mem_append.1 hr with g | g
      · exact hc.2.2 q h r g ⟨e1, e2, e3, e4⟩
      · rw [List.mem_singleton] at g; subst g
        rcases List.eq_nil_or_concat X with rfl | ⟨Y, t, rfl⟩
        · cases h
        · rw [List.concat_eq_append] at *
          rcases List.mem_append.1 h with h | h
          · have h5 := top_last hc q h
            have h6 := ha t (by simp)
            have := sz_pos t.2
            omega
          · rw [List.mem_singleton] at h; subst h
            exact hn Y q rfl ⟨e1, e2, e3, e4⟩
    · rw [List.mem_singleton] at h; subst h
      rcases List.mem_append.1 hr with g | g
      · have := ha r g; omega
      · rw [List.mem_singleton] at g; subst g; omega
end Go.Proofs.Ytamkegnnlbefdaa
