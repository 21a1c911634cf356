/- Tries as plain trees: form, routes in order, insertion, removal. -/
import Derived.Test.YtamkegnnlbefdaaTrM
namespace Go.Proofs.Ytamkegnnlbefdaa

inductive Tr where
  | nil : Tr
  | node (p : Px) (v : Int) (h : Bool) (l r : Tr) : Tr
def Tr.isNil : Tr → Bool
  | .nil => true
  | .node .. => false
/-- All that is in t lies in q: its root's prefix does. -/
def Top (q : Px) : Tr → Prop
  | .nil => True
  | .node p _ _ _ _ => Cov q p
def Kid (p : Px) (b : Bool) (t : Tr) : Prop := t = .nil ∨ (p.2 < 32 ∧ Top (half p b) t)
def WF : Tr → Prop
  | .nil => True
  | .node p v h l r => Vld p ∧ Kid p false l ∧ Kid p true r ∧ (h = false → v = 0 ∧ l.isNil = false ∧ r.isNil = false) ∧ WF l ∧ WF r
def routes : Tr → List Rt
  | .nil => []
  | .node p v h l r => (if h then [(p, v)] else []) ++ (routes l ++ routes r)
def prefs : Tr → List Px
  | .nil => []
  | .node p _ _ l r => p :: (prefs l ++ prefs r)
def cnt (t : Tr) : Nat := (prefs t).length
theorem isNil_iff {t : Tr} : t.isNil = true ↔ t = .nil := by cases t <;> simp [Tr.isNil]
theorem not_isNil {t : Tr} : t.isNil = false ↔ t ≠ .nil := by cases t <;> simp [Tr.isNil]
theorem routes_prefs {t : Tr} : ∀ x, x ∈ routes t → x.1 ∈ prefs t := by
  induction t with
  | nil => intro x hx; simp [routes] at hx
  | node p v h l r ihl ihr =>
    intro x hx
    simp only [routes, List.mem_append] at hx
    simp only [prefs, List.mem_cons, List.mem_append]
    rcases hx with hx | hx | hx
    · left; cases h <;> simp at hx; rw [hx]
    · right; left; exact ihl x hx
    · right; right; exact ihr x hx
theorem top_prefs {t : Tr} : ∀ {q : Px}, Vld q → WF t → Top q t → ∀ x, x ∈ prefs t → Vld x ∧ Cov q x := by
  induction t with
  | nil => intro q _ _ _ x hx; simp [prefs] at hx
  | node p v h l r ihl ihr =>
    intro q hq hw ht x hx
    obtain ⟨hp, kl, kr, -, wl, wr⟩ := hw
    have hc : Cov q p := ht
    simp only [prefs, List.mem_cons, List.mem_append] at hx
    rcases hx with rfl | hx | hx
    · exact ⟨hp, hc⟩
    · rcases kl with rfl | ⟨hn, kt⟩
      · simp [prefs] at hx
      · obtain ⟨h1, h2⟩ := ihl (vld_half hp hn false) wl kt x hx
        exact ⟨h1, Cov.trans hq hp hc (Cov.trans hp (vld_half hp hn false) (cov_half hn false) h2)⟩
    · rcases kr with rfl | ⟨hn, kt⟩
      · simp [prefs] at hx
      · obtain ⟨h1, h2⟩ := ihr (vld_half hp hn true) wr kt x hx
        exact ⟨h1, Cov.trans hq hp hc (Cov.trans hp (vld_half hp hn true) (cov_half hn true) h2)⟩
theorem kid_prefs {p : Px} {b : Bool} {t : Tr} (hp : Vld p) (hw : WF t) (hk : Kid p b t) : ∀ x, x ∈ prefs t → p.2 < 32 ∧ Vld x ∧ Cov (half p b) x := fun x hx => by
  rcases hk with rfl | ⟨hn, kt⟩
  · simp [prefs] at hx
  · obtain ⟨h1, h2⟩ := top_prefs (vld_half hp hn b) hw kt x hx
    exact ⟨hn, h1, h2⟩
/-- A prefix comes before those in its halves; those of the lower half before those of the upper one. -/
theorem lt_half {p x : Px} (hp : Vld p) (hn : p.2 < 32) {b : Bool} (hx : Vld x) (h : Cov (half p b) x) : Lt p x := by
  have hin := cov_in (vld_half hp hn b) hx h
  have h2 := h.1
  rw [half_len] at h2
  have : p.1 ≤ (half p b).1 := by unfold half; split <;> simp [hi, lo]
  unfold Lt
  omega
theorem lt_halves {p x y : Px} (hp : Vld p) (hn : p.2 < 32) (hx : Vld x) (hy : Vld y) (h1 : Cov (half p false) x) (h2 : Cov (half p true) y) : Lt x y := by
  have a1 := cov_in (vld_half hp hn false) hx h1
  have a2 := cov_in (vld_half hp hn true) hy h2
  have := sz_pos x.2
  simp only [half, hi, lo] at a1 a2
  simp at a1 a2
  unfold Lt
  omega
theorem prefs_sorted {t : Tr} (hw : WF t) : (prefs t).Pairwise Lt := by
  induction t with
  | nil => exact List.Pairwise.nil
  | node p v h l r ihl ihr =>
    obtain ⟨hp, kl, kr, -, wl, wr⟩ := hw
    refine List.pairwise_cons.2 ⟨fun x hx => ?_, List.pairwise_append.2 ⟨ihl wl, ihr wr, fun x hx y hy => ?_⟩⟩
    · rcases List.mem_append.1 hx with hx | hx
      · obtain ⟨hn, h1, h2⟩ := kid_prefs hp wl kl x hx
        exact lt_half hp hn h1 h2
      · obtain ⟨hn, h1, h2⟩ := kid_prefs hp wr kr x hx
        exact lt_half hp hn h1 h2
    · obtain ⟨hn, h1, h2⟩ := kid_prefs hp wl kl x hx
      obtain ⟨_, h3, h4⟩ := kid_prefs hp wr kr y hy
      exact lt_halves hp hn h1 h3 h2 h4
theorem routes_sub (t : Tr) : ((routes t).map (·.1)).Sublist (prefs t) := by
  induction t with
  | nil => exact List.Sublist.refl _
  | node p v h l r ihl ihr =>
    simp only [routes, prefs, List.map_append]
    cases h
    · simpa using List.Sublist.cons p (ihl.append ihr)
    · simpa using List.Sublist.cons_cons p (ihl.append ihr)
theorem routes_sorted {t : Tr} (hw : WF t) : Srt (routes t) := List.pairwise_map.1 ((prefs_sorted hw).sublist (routes_sub t))
theorem wf_vld {t : Tr} (hw : WF t) : ∀ x, x ∈ prefs t → Vld x := by
  induction t with
  | nil => intro x hx; simp [prefs] at hx
  | node p v h l r ihl ihr =>
    obtain ⟨hp, kl, kr, -, wl, wr⟩ := hw
    intro x hx
    simp only [prefs, List.mem_cons, List.mem_append] at hx
    rcases hx with rfl | hx | hx
    · exact hp
    · exact ihl wl x hx
    · exact ihr wr x hx

/-- The longest prefix that covers both of two that lie apart. -/
structure IsCom (p q c : Px) : Prop where
  vld : Vld c
  lt : c.2 < 32
  left : ∀ b, dir p.1 c.2 = b → Cov (half c b) p
  right : ∀ b, dir q.1 c.2 = b → Cov (half c b) q
  ne : dir p.1 c.2 ≠ dir q.1 c.2
def kids (b : Bool) (s t : Tr) : Tr × Tr := if b then (t, s) else (s, t)
/-- Insertion; c gives the common prefix. -/
def put (c : Px → Px → Px) (p : Px) (v : Int) : Tr → Tr
  | .nil => .node p v true .nil .nil
  | .node q x h l r =>
    if q = p then .node q v true l r
    else if Cov q p then (if dir p.1 q.2 then .node q x h l (put c p v r) else .node q x h (put c p v l) r)
    else if Cov p q then .node p v true (kids (dir q.1 p.2) (.node q x h l r) .nil).1 (kids (dir q.1 p.2) (.node q x h l r) .nil).2
    else .node (c p q) 0 false (kids (dir q.1 (c p q).2) (.node q x h l r) (.node p v true .nil .nil)).1 (kids (dir q.1 (c p q).2) (.node q x h l r) (.node p v true .nil .nil)).2
/-- Of two prefixes that cover a third one, the shorter one covers the other. -/
theorem cov_comp {b c p : Px} (hb : Vld b) (hc : Vld c) (h1 : Cov b p) (h2 : Cov c p) (hle : b.2 ≤ c.2) : Cov b c := by
  have a1 := h1.2; have a2 := h2.2
  unfold Has at a1 a2
  rcases nest hb hc hle with h | h | h
  · exact ⟨hle, h.1⟩
  · omega
  · omega
theorem com_cov {p q c : Px} (h : IsCom p q c) : Cov c p ∧ Cov c q :=
  ⟨Cov.trans h.vld (vld_half h.vld h.lt _) (cov_half h.lt _) (h.left _ rfl), Cov.trans h.vld (vld_half h.vld h.lt _) (cov_half h.lt _) (h.right _ rfl)⟩
theorem com_top {b p q c : Px} (hb : Vld b) (hp : Vld p) (hq : Vld q) (h : IsCom p q c) (h1 : Cov b p) (h2 : Cov b q) : Cov b c := by
  obtain ⟨c1, c2⟩ := com_cov h
  rcases Nat.lt_or_ge c.2 b.2 with hlt | hge
  · exfalso
    have hcb := cov_comp h.vld hb c1 h1 (Nat.le_of_lt hlt)
    have hne : c ≠ b := fun e => by rw [e] at hlt; omega
    obtain ⟨_, hh⟩ := cov_dir h.vld hb hcb hne
    have hv := vld_half h.vld h.lt (dir b.1 c.2)
    have e1 := dir_of_half h.vld h.lt hp (Cov.trans hv hb hh h1)
    have e2 := dir_of_half h.vld h.lt hq (Cov.trans hv hb hh h2)
    exact h.ne (e1.trans e2.symm)
  · exact cov_comp hb h.vld h1 c1 hge
abbrev Com (c : Px → Px → Px) : Prop := ∀ p q, Vld p → Vld q → ¬ Cov p q → ¬ Cov q p → IsCom p q (c p q)
theorem put_top {c : Px → Px → Px} (hc : Com c) {p : Px} {v : Int} (hp : Vld p) {t : Tr} {b : Px} (hb : Vld b) (hw : WF t) (ht : Top b t) (hbp : Cov b p) : Top b (put c p v t) := by
  cases t with
  | nil => exact hbp
  | node q x h l r =>
    have hq : Cov b q := ht
    unfold put
    split
    · exact hq
    · split
      · split
        · exact hq
        · exact hq
      · split
        · exact hbp
        · exact com_top hb hp hw.1 (hc p q hp hw.1 (by assumption) (by assumption)) hbp hq
theorem put_notnil (c : Px → Px → Px) (p : Px) (v : Int) (t : Tr) : (put c p v t).isNil = false := by
  cases t with
  | nil => rfl
  | node q x h l r => 
    unfold put
    split
    · rfl
    · split
      · split <;> rfl
      · split <;> rfl
theorem wf_leaf {p : Px} {v : Int} (hp : Vld p) : WF (.node p v true .nil .nil) := ⟨hp, .inl rfl, .inl rfl, (by intro h; cases h), trivial, trivial⟩
theorem kid_put {c : Px → Px → Px} (hc : Com c) {p q : Px} {v : Int} {b : Bool} {t : Tr} (hp : Vld p) (hq : Vld q) (hw : WF t) (hk : Kid q b t) (hcov : Cov q p) (hne : q ≠ p) (hd : dir p.1 q.2 = b) : Kid q b (put c p v t) := by
  obtain ⟨hn, hh⟩ := cov_dir hq hp hcov hne
  rw [hd] at hh
  right
  refine ⟨hn, put_top hc hp (vld_half hq hn b) hw ?_ hh⟩
  rcases hk with rfl | ⟨_, hk⟩
  · exact trivial
  · exact hk
theorem put_wf {c : Px → Px → Px} (hc : Com c) {p : Px} {v : Int} (hp : Vld p) : ∀ {t : Tr}, WF t → WF (put c p v t) := by
  intro t
  induction t with
  | nil => intro _; exact wf_leaf hp
  | node q x h l r ihl ihr =>
    intro hw
    obtain ⟨hq, kl, kr, hh, wl, wr⟩ := hw
    unfold put
    split
    · exact ⟨hq, kl, kr, (by intro h; cases h), wl, wr⟩
    · rename_i hne
      split
      · rename_i hcov
        split
        · rename_i hd
          exact ⟨hq, kl, kid_put hc hp hq wr kr hcov hne hd, fun h0 => ⟨(hh h0).1, (hh h0).2.1, put_notnil c p v r⟩, wl, ihr wr⟩
        · rename_i hd
          exact ⟨hq, kid_put hc hp hq wl kl hcov hne (by simpa using hd), kr, fun h0 => ⟨(hh h0).1, put_notnil c p v l, (hh h0).2.2⟩, ihl wl, wr⟩
      · rename_i hnc
        split
        · rename_i hcov
          have ⟨hn, hk⟩ := cov_dir hp hq hcov (fun e => hne e.symm)
          have hwq : WF (.node q x h l r) := ⟨hq, kl, kr, hh, wl, wr⟩
          have hkid : Kid p (dir q.1 p.2) (.node q x h l r) := .inr ⟨hn, hk⟩
          generalize hd : dir q.1 p.2 = d at hkid hk ⊢
          cases d
          · exact ⟨hp, hkid, .inl rfl, (by intro h; cases h), hwq, trivial⟩
          · exact ⟨hp, .inl rfl, hkid, (by intro h; cases h), trivial, hwq⟩
        · rename_i hnp
          have hC := hc p q hp hq hnp hnc
          have hwq : WF (.node q x h l r) := ⟨hq, kl, kr, hh, wl, wr⟩
          have k1 : Kid (c p q) (dir q.1 (c p q).2) (.node q x h l r) := .inr ⟨hC.lt, hC.right _ rfl⟩
          have k2 : Kid (c p q) (dir p.1 (c p q).2) (.node p v true .nil .nil) := .inr ⟨hC.lt, hC.left _ rfl⟩
          have hd : dir p.1 (c p q).2 = !dir q.1 (c p q).2 := by
            have := hC.ne
            revert this
            cases dir p.1 (c p q).2 <;> cases dir q.1 (c p q).2 <;> simp
          rw [hd] at k2
          generalize dir q.1 (c p q).2 = d at k1 k2 ⊢
          cases d
          · exact ⟨hC.vld, k1, k2, fun _ => ⟨rfl, rfl, rfl⟩, hwq, wf_leaf hp⟩
          · exact ⟨hC.vld, k2, k1, fun _ => ⟨rfl, rfl, rfl⟩, wf_leaf hp, hwq⟩
theorem mem_kids (b : Bool) (s t : Tr) (x : Rt) : (x ∈ routes (kids b s t).1 ∨ x ∈ routes (kids b s t).2) ↔ (x ∈ routes s ∨ x ∈ routes t) := by
  cases b <;> simp [kids] <;> exact Or.comm
theorem mem_node {p : Px} {v : Int} {h : Bool} {l r : Tr} (x : Rt) : x ∈ routes (.node p v h l r) ↔ (h = true ∧ x = (p, v)) ∨ (x ∈ routes l ∨ x ∈ routes r) := by
  simp only [routes, List.mem_append]
  cases h <;> simp
/-- The routes in a kid are not that of the node, nor of a prefix that it does not cover. -/
theorem route_kid {p : Px} {b : Bool} {t : Tr} (hp : Vld p) (hw : WF t) (hk : Kid p b t) {x : Rt} (hx : x ∈ routes t) : p.2 < 32 ∧ Vld x.1 ∧ Cov (half p b) x.1 ∧ Cov p x.1 ∧ x.1 ≠ p := by
  obtain ⟨hn, h1, h2⟩ := kid_prefs hp hw hk x.1 (routes_prefs x hx)
  refine ⟨hn, h1, h2, Cov.trans hp (vld_half hp hn b) (cov_half hn b) h2, fun e => ?_⟩
  have := h2.1
  rw [half_len, e] at this
  omega
theorem put_mem {c : Px → Px → Px} (_hc : Com c) {p : Px} {v : Int} (hp : Vld p) : ∀ {t : Tr}, WF t → ∀ x, x ∈ routes (put c p v t) ↔ x = (p, v) ∨ (x ∈ routes t ∧ x.1 ≠ p) := by
  intro t
  induction t with
  | nil => intro _ x; simp [put, routes]
  | node q y h l r ihl ihr =>
    intro hw x
    obtain ⟨hq, kl, kr, hh, wl, wr⟩ := hw
    unfold put
    have nl : ∀ x, x ∈ routes l → x.1 ≠ q := fun x hx => (route_kid hq wl kl hx).2.2.2.2
    have nr : ∀ x, x ∈ routes r → x.1 ≠ q := fun x hx => (route_kid hq wr kr hx).2.2.2.2
    by_cases he : q = p
    · subst he
      rw [if_pos rfl, mem_node, mem_node]
      constructor
      · rintro (⟨_, h1⟩ | h1 | h1)
        · exact .inl h1
        · exact .inr ⟨.inr (.inl h1), nl x h1⟩
        · exact .inr ⟨.inr (.inr h1), nr x h1⟩
      · rintro (h1 | ⟨⟨_, h1⟩ | h1, h2⟩)
        · exact .inl ⟨rfl, h1⟩
        · exact absurd (by rw [h1]) h2
        · exact .inr h1
    · rw [if_neg he]
      by_cases hcv : Cov q p
      · rw [if_pos hcv]
        obtain ⟨hn, hhf⟩ := cov_dir hq hp hcv he
        by_cases hd : dir p.1 q.2 = true
        · rw [if_pos hd, mem_node, mem_node, ihr wr]
          have ol : x ∈ routes l → x.1 ≠ p := fun hx e => by
            have := dir_of_half hq hn hp (e ▸ (route_kid hq wl kl hx).2.2.1)
            rw [hd] at this; cases this
          constructor
          · rintro (⟨h1, h2⟩ | h1 | h1 | ⟨h1, h2⟩)
            · exact .inr ⟨.inl ⟨h1, h2⟩, by rw [h2]; exact he⟩
            · exact .inr ⟨.inr (.inl h1), ol h1⟩
            · exact .inl h1
            · exact .inr ⟨.inr (.inr h1), h2⟩
          · rintro (h1 | ⟨h1 | h1 | h1, h2⟩)
            · exact .inr (.inr (.inl h1))
            · exact .inl h1
            · exact .inr (.inl h1)
            · exact .inr (.inr (.inr ⟨h1, h2⟩))
        · have hd' : dir p.1 q.2 = false := by simpa using hd
          rw [if_neg hd, mem_node, mem_node, ihl wl]
          have orr : x ∈ routes r → x.1 ≠ p := fun hx e => by
            have := dir_of_half hq hn hp (e ▸ (route_kid hq wr kr hx).2.2.1)
            rw [hd'] at this; cases this
          constructor
          · rintro (⟨h1, h2⟩ | (h1 | ⟨h1, h2⟩) | h1)
            · exact .inr ⟨.inl ⟨h1, h2⟩, by rw [h2]; exact he⟩
            · exact .inl h1
            · exact .inr ⟨.inr (.inl h1), h2⟩
            · exact .inr ⟨.inr (.inr h1), orr h1⟩
          · rintro (h1 | ⟨h1 | h1 | h1, h2⟩)
            · exact .inr (.inl (.inl h1))
            · exact .inl h1
            · exact .inr (.inl (.inr ⟨h1, h2⟩))
            · exact .inr (.inr h1)
      · rw [if_neg hcv]
        have hwq : WF (.node q y h l r) := ⟨hq, kl, kr, hh, wl, wr⟩
        have no : ∀ x, x ∈ routes (.node q y h l r) → x.1 ≠ p := fun x hx e => by
          have := (top_prefs (t := .node q y h l r) hq hwq (Cov.refl : Cov q q) x.1 (routes_prefs x hx)).2
          rw [e] at this
          exact hcv this
        by_cases hpc : Cov p q
        · rw [if_pos hpc, mem_node, mem_kids]
          constructor
          · rintro (⟨_, h1⟩ | h1 | h1)
            · exact .inl h1
            · exact .inr ⟨h1, no x h1⟩
            · simp [routes] at h1
          · rintro (h1 | ⟨h1, _⟩)
            · exact .inl ⟨rfl, h1⟩
            · exact .inr (.inl h1)
        · rw [if_neg hpc, mem_node, mem_kids]
          constructor
          · rintro (⟨h1, _⟩ | h1 | h1)
            · cases h1
            · exact .inr ⟨h1, no x h1⟩
            · exact .inl (by simpa [routes] using h1)
          · rintro (h1 | ⟨h1, _⟩)
            · exact .inr (.inr (by rw [h1]; simp [routes]))
            · exact .inr (.inl h1)
end Go.Proofs.Ytamkegnnlbefdaa
