/- Tries as plain trees: removal, what is found, what lies under a prefix, the number of nodes. -/
import Derived.Test.YtamkegnnlbefdaaTrN
namespace Go.Proofs.Ytamkegnnlbefdaa

/-- A node whose route or kid may have gone. -/
def tidyN (q : Px) (x : Int) (h : Bool) (l r : Tr) : Tr := if h = true ∨ (l.isNil = false ∧ r.isNil = false) then .node q x h l r else if l.isNil = true then r else l
def del (p : Px) : Tr → Tr
  | .nil => .nil
  | .node q x h l r => if q = p then tidyN q 0 false l r else if dir p.1 q.2 then tidyN q x h l (del p r) else tidyN q x h (del p l) r
theorem routes_nil {t : Tr} (h : t.isNil = true) : routes t = [] := by rw [isNil_iff.1 h]; rfl
theorem routes_tidy (q : Px) (x : Int) (h : Bool) (l r : Tr) : routes (tidyN q x h l r) = routes (.node q x h l r) := by
  unfold tidyN
  split
  · rfl
  · rename_i hn
    have hh : h = false := by cases h; rfl; exact absurd (.inl rfl) hn
    subst hh
    split
    · rename_i h1; simp [routes, routes_nil h1]
    · rename_i h1
      have h2 : r.isNil = true := by
        cases h3 : r.isNil
        · exact absurd (.inr ⟨by simpa using h1, h3⟩) hn
        · rfl
      simp [routes, routes_nil h2]
theorem top_kid {b q : Px} {d : Bool} {t : Tr} (hb : Vld b) (hq : Vld q) (hw : WF t) (hc : Cov b q) (hk : Kid q d t) : Top b t := by
  cases t with
  | nil => exact trivial
  | node p v h l r =>
    rcases hk with hk | ⟨hn, hk⟩
    · cases hk
    · exact Cov.trans hb hq hc (Cov.trans hq (vld_half hq hn d) (cov_half hn d) hk)
theorem top_tidy {b q : Px} {x : Int} {h : Bool} {l r : Tr} (hb : Vld b) (hq : Vld q) (wl : WF l) (wr : WF r) (hc : Cov b q) (kl : Kid q false l) (kr : Kid q true r) : Top b (tidyN q x h l r) := by
  unfold tidyN
  split
  · exact hc
  · split
    · exact top_kid hb hq wr hc kr
    · exact top_kid hb hq wl hc kl
theorem wf_tidy {q : Px} {x : Int} {h : Bool} {l r : Tr} (hq : Vld q) (wl : WF l) (wr : WF r) (kl : Kid q false l) (kr : Kid q true r) (hx : h = false → x = 0) : WF (tidyN q x h l r) := by
  unfold tidyN
  split
  · rename_i hc
    refine ⟨hq, kl, kr, fun h0 => ⟨hx h0, ?_⟩, wl, wr⟩
    rcases hc with hc | hc
    · rw [h0] at hc; cases hc
    · exact hc
  · split
    · exact wr
    · exact wl
theorem del_wf {p : Px} {t : Tr} : WF t → WF (del p t) ∧ ∀ b, Vld b → Top b t → Top b (del p t) := by
  induction t with
  | nil => intro _; exact ⟨trivial, fun _ _ _ => trivial⟩
  | node q x h l r ihl ihr =>
    rintro ⟨hq, kl, kr, hh, wl, wr⟩
    unfold del
    have kk : ∀ {d : Bool} {t : Tr}, WF t → Kid q d t → (WF t → WF (del p t) ∧ ∀ b, Vld b → Top b t → Top b (del p t)) → Kid q d (del p t) := by
      intro d t wt hk ih
      rcases hk with rfl | ⟨hn, hk⟩
      · exact .inl rfl
      · exact .inr ⟨hn, (ih wt).2 _ (vld_half hq hn d) hk⟩
    split
    · exact ⟨wf_tidy hq wl wr kl kr fun _ => rfl, fun b hb ht => top_tidy hb hq wl wr ht kl kr⟩
    · split
      · exact ⟨wf_tidy hq wl (ihr wr).1 kl (kk wr kr ihr) fun h0 => (hh h0).1, fun b hb ht => top_tidy hb hq wl (ihr wr).1 ht kl (kk wr kr ihr)⟩
      · exact ⟨wf_tidy hq (ihl wl).1 wr (kk wl kl ihl) kr fun h0 => (hh h0).1, fun b hb ht => top_tidy hb hq (ihl wl).1 wr ht (kk wl kl ihl) kr⟩
theorem del_mem {p : Px} (hp : Vld p) {t : Tr} : WF t → ∀ x, x ∈ routes (del p t) ↔ x ∈ routes t ∧ x.1 ≠ p := by
  induction t with
  | nil => intro _ x; simp [del, routes]
  | node q y h l r ihl ihr =>
    rintro ⟨hq, kl, kr, hh, wl, wr⟩ x
    have nl : ∀ x, x ∈ routes l → x.1 ≠ q := fun x hx => (route_kid hq wl kl hx).2.2.2.2
    have nr : ∀ x, x ∈ routes r → x.1 ≠ q := fun x hx => (route_kid hq wr kr hx).2.2.2.2
    unfold del
    by_cases he : q = p
    · subst he
      rw [if_pos rfl, routes_tidy, mem_node, mem_node]
      constructor
      · rintro (⟨h1, _⟩ | h1 | h1)
        · cases h1
        · exact ⟨.inr (.inl h1), nl x h1⟩
        · exact ⟨.inr (.inr h1), nr x h1⟩
      · rintro ⟨⟨_, h1⟩ | h1, h2⟩
        · exact absurd (by rw [h1]) h2
        · exact .inr h1
    · rw [if_neg he]
      by_cases hd : dir p.1 q.2 = true
      · rw [if_pos hd, routes_tidy, mem_node, mem_node, ihr wr]
        have ol : x ∈ routes l → x.1 ≠ p := fun hx e => by
          obtain ⟨hn, _, h2, _⟩ := route_kid hq wl kl hx
          have := dir_of_half hq hn hp (e ▸ h2)
          rw [hd] at this; cases this
        constructor
        · rintro (⟨h1, h2⟩ | h1 | ⟨h1, h2⟩)
          · exact ⟨.inl ⟨h1, h2⟩, by rw [h2]; exact he⟩
          · exact ⟨.inr (.inl h1), ol h1⟩
          · exact ⟨.inr (.inr h1), h2⟩
        · rintro ⟨h1 | h1 | h1, h2⟩
          · exact .inl h1
          · exact .inr (.inl h1)
          · exact .inr (.inr ⟨h1, h2⟩)
      · have hd' : dir p.1 q.2 = false := by simpa using hd
        rw [if_neg hd, routes_tidy, mem_node, mem_node, ihl wl]
        have orr : x ∈ routes r → x.1 ≠ p := fun hx e => by
          obtain ⟨hn, _, h2, _⟩ := route_kid hq wr kr hx
          have := dir_of_half hq hn hp (e ▸ h2)
          rw [hd'] at this; cases this
        constructor
        · rintro (⟨h1, h2⟩ | ⟨h1, h2⟩ | h1)
          · exact ⟨.inl ⟨h1, h2⟩, by rw [h2]; exact he⟩
          · exact ⟨.inr (.inl h1), h2⟩
          · exact ⟨.inr (.inr h1), orr h1⟩
        · rintro ⟨h1 | h1 | h1, h2⟩
          · exact .inl h1
          · exact .inr (.inl ⟨h1, h2⟩)
          · exact .inr (.inr h1)
/-- The part of the trie where a prefix is or would be. -/
def reachT (p : Px) : Tr → Tr
  | .nil => .nil
  | .node q x h l r => if q ≠ p ∧ Cov q p then (if dir p.1 q.2 then reachT p r else reachT p l) else .node q x h l r
def valT (p : Px) : Tr → Option Int
  | .nil => none
  | .node q x h _ _ => if q = p ∧ h = true then some x else none
theorem reach_wf {p : Px} {t : Tr} : WF t → WF (reachT p t) := by
  induction t with
  | nil => exact id
  | node q x h l r ihl ihr =>
    intro hw
    unfold reachT
    split
    · split
      · exact ihr hw.2.2.2.2.2
      · exact ihl hw.2.2.2.2.1
    · exact hw
/-- What is covered by a prefix lies in the part. -/
theorem reach_mem {p : Px} {t : Tr} : WF t → ∀ x, x ∈ routes (reachT p t) → x ∈ routes t := by
  induction t with
  | nil => exact fun _ _ => id
  | node q y h l r ihl ihr =>
    rintro hw x hx
    unfold reachT at hx
    rw [mem_node]
    split at hx
    · split at hx
      · exact .inr (.inr (ihr hw.2.2.2.2.2 x hx))
      · exact .inr (.inl (ihl hw.2.2.2.2.1 x hx))
    · rwa [mem_node] at hx
theorem reach_cov {p : Px} (hp : Vld p) {t : Tr} : WF t → ∀ x, x ∈ routes t → Cov p x.1 → x ∈ routes (reachT p t) := by
  induction t with
  | nil => exact fun _ _ h _ => h
  | node q y h l r ihl ihr =>
    intro hw x hx hc
    have hw0 := hw
    obtain ⟨hq, kl, kr, hh, wl, wr⟩ := hw
    unfold reachT
    split
    · rename_i hne
      obtain ⟨hn, hhf⟩ := cov_dir hq hp hne.2 hne.1
      have hxv := (top_prefs (t := .node q y h l r) hq hw0 (Cov.refl : Cov q q) x.1 (routes_prefs x hx)).1
      have hhx := Cov.trans (vld_half hq hn _) hp hhf hc
      rw [mem_node] at hx
      have hq' : x ≠ (q, y) := fun e => by
        have := hhx.1
        rw [half_len, e] at this
        simp only at this
        omega
      rcases hx with ⟨_, hx⟩ | hx | hx
      · exact absurd hx hq'
      · have h2 := (route_kid hq wl kl hx).2.2.1
        have e1 := dir_of_half hq hn hxv h2
        have e2 := dir_of_half hq hn hxv hhx
        rw [if_neg (by rw [← e2, e1]; simp)]
        exact ihl wl x hx hc
      · have h2 := (route_kid hq wr kr hx).2.2.1
        have e1 := dir_of_half hq hn hxv h2
        have e2 := dir_of_half hq hn hxv hhx
        rw [if_pos (by rw [← e2, e1])]
        exact ihr wr x hx hc
    · exact hx
theorem get_iff {p : Px} (hp : Vld p) {t : Tr} (hw : WF t) (v : Int) : valT p (reachT p t) = some v ↔ (p, v) ∈ routes t := by
  have hw' := reach_wf (p := p) hw
  constructor
  · intro h
    refine reach_mem (p := p) hw _ ?_
    match hr : reachT p t with
    | .nil => rw [hr] at h; simp [valT] at h
    | .node q x hh l r =>
      rw [hr] at h
      simp only [valT] at h
      split at h
      · rename_i hc
        obtain rfl : x = v := by simpa using h
        rw [mem_node]
        exact .inl ⟨hc.2, by rw [hc.1]⟩
      · cases h
  · intro h
    have h1 := reach_cov hp hw _ h Cov.refl
    match hr : reachT p t with
    | .nil => rw [hr] at h1; simp [routes] at h1
    | .node q x hh l r =>
      rw [hr] at h1 hw'
      have hw2 := hw'
      obtain ⟨hq, kl, kr, _, wl, wr⟩ := hw'
      rw [mem_node] at h1
      have stop : ¬ (q ≠ p ∧ Cov q p) := by
        intro hc
        have : ∀ {t : Tr}, reachT p t = .node q x hh l r → False := by
          intro t
          induction t with
          | nil => intro h; cases h
          | node q2 x2 h2 l2 r2 ihl ihr =>
            intro h
            unfold reachT at h
            split at h
            · split at h
              · exact ihr h
              · exact ihl h
            · rename_i hn
              injection h with e1
              rw [e1] at hn
              exact hn hc
        exact this hr
      have hin := (top_prefs (t := .node q x hh l r) hq hw2 (Cov.refl : Cov q q) p (by
        rcases h1 with ⟨_, h1⟩ | h1 | h1
        · have e := (Prod.ext_iff.1 h1).1; simp only at e; simp [prefs, e]
        · have := routes_prefs _ h1; simp [prefs, this]
        · have := routes_prefs _ h1; simp [prefs, this])).2
      have hqp : q = p := Classical.byContradiction fun hne => stop ⟨hne, hin⟩
      rcases h1 with ⟨h1, h2⟩ | h1 | h1
      · have e := (Prod.ext_iff.1 h2).2
        simp only at e
        simp [valT, hqp, h1, e]
      · exact absurd hqp.symm (route_kid hq wl kl h1).2.2.2.2
      · exact absurd hqp.symm (route_kid hq wr kr h1).2.2.2.2
end Go.Proofs.Ytamkegnnlbefdaa
