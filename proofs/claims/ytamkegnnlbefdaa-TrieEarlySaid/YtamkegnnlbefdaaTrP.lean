/- Tries as plain trees: the longest match, the routes under a prefix, how many nodes there are. -/
import Derived.Test.YtamkegnnlbefdaaTrO
namespace Go.Proofs.Ytamkegnnlbefdaa

/-- What Lookup finds, last is the best one so far. -/
def lkp (a : Nat) (last : Option Rt) : Tr → Option Rt
  | .nil => last
  | .node q x h l r => if Has q a then (if dir a q.2 then lkp a (if h then some (q, x) else last) r else lkp a (if h then some (q, x) else last) l) else last
def Best (L : List Rt) (a : Nat) : Option Rt → Prop
  | none => ∀ x ∈ L, ¬ Has x.1 a
  | some x => x ∈ L ∧ Has x.1 a ∧ ∀ y ∈ L, Has y.1 a → y.1.2 ≤ x.1.2
theorem has_same {p q : Px} (hp : Vld p) (hq : Vld q) {a : Nat} (h1 : Has p a) (h2 : Has q a) (e : p.2 = q.2) : p = q := by
  have a1 := (has_fst hp.2.1 a).2 h1
  have a2 := (has_fst hq.2.1 a).2 h2
  rw [e] at a1
  exact Prod.ext (a1.symm.trans a2) e
theorem best_uniq {L : List Rt} (hL : Srt L) (hv : ∀ x ∈ L, Vld x.1) {a : Nat} {o o' : Option Rt} (h : Best L a o) (h' : Best L a o') : o = o' := by
  cases o with
  | none => cases o' with
    | none => rfl
    | some y => exact absurd h'.2.1 (h y h'.1)
  | some x => cases o' with
    | none => exact absurd h.2.1 (h' x h.1)
    | some y =>
      have e : x.1.2 = y.1.2 := Nat.le_antisymm (h'.2.2 x h.1 h.2.1) (h.2.2 y h'.1 h'.2.1)
      exact congrArg some (srt_key hL h.1 h'.1 (has_same (hv x h.1) (hv y h'.1) h.2.1 h'.2.1 e))
theorem has_cov {p q : Px} (hp : Vld p) (hq : Vld q) (h : Cov p q) {a : Nat} (ha : Has q a) : Has p a := by
  have := cov_in hp hq h
  unfold Has at *
  omega
theorem has_half {p x : Px} (hp : Vld p) (hn : p.2 < 32) (hx : Vld x) {b : Bool} (h : Cov (half p b) x) {a : Nat} (ha : Has x a) : dir a p.2 = b := by
  have hin := cov_in (vld_half hp hn b) hx h
  have hs := sz_succ hn
  have hpa := has_cov hp hx (Cov.trans hp (vld_half hp hn b) (cov_half hn b) h) ha
  rw [dir_half hp hn hpa]
  unfold half at hin
  unfold Has at ha
  rw [show (if b = true then hi p else lo p).2 = p.2 + 1 by split <;> rfl] at hin
  cases b <;> simp [hi, lo] at hin ⊢ <;> omega
theorem lkp_best {a : Nat} {t : Tr} : WF t → ∀ last, (∃ x, lkp a last t = some x ∧ Best (routes t) a (some x)) ∨ (lkp a last t = last ∧ Best (routes t) a none) := by
  induction t with
  | nil => intro _ last; exact .inr ⟨rfl, fun x hx => by simp [routes] at hx⟩
  | node q y h l r ihl ihr =>
    intro hw last
    have hw0 := hw
    obtain ⟨hq, kl, kr, hh, wl, wr⟩ := hw
    unfold lkp
    by_cases hc : Has q a
    · rw [if_pos hc]
      have side : ∀ {b : Bool} {t : Tr}, WF t → Kid q b t → b ≠ dir a q.2 → ∀ x ∈ routes t, ¬ Has x.1 a := fun {b} {t} wt kt hne x hx ha => by
        obtain ⟨hn, hv, h2, _⟩ := route_kid hq wt kt hx
        exact hne (has_half hq hn hv h2 ha).symm
      have deep : ∀ {b : Bool} {t : Tr}, WF t → Kid q b t → ∀ x ∈ routes t, q.2 ≤ x.1.2 := fun {b} {t} wt kt x hx => (route_kid hq wt kt hx).2.2.2.1.1
      by_cases hd : dir a q.2 = true
      · rw [if_pos hd]
        rcases ihr wr (if h = true then some (q, y) else last) with ⟨x, e, hb⟩ | ⟨e, hb⟩
        · refine .inl ⟨x, e, (mem_node x).2 (.inr (.inr hb.1)), hb.2.1, fun z hz hza => ?_⟩
          rcases (mem_node z).1 hz with ⟨_, h1⟩ | h1 | h1
          · rw [h1]; exact deep wr kr x hb.1
          · exact absurd hza (side wl kl (by rw [hd]; simp) z h1)
          · exact hb.2.2 z h1 hza
        · cases h with
          | true =>
            refine .inl ⟨(q, y), e, (mem_node _).2 (.inl ⟨rfl, rfl⟩), hc, fun z hz hza => ?_⟩
            rcases (mem_node z).1 hz with ⟨_, h1⟩ | h1 | h1
            · rw [h1]; exact Nat.le_refl _
            · exact absurd hza (side wl kl (by rw [hd]; simp) z h1)
            · exact absurd hza (hb z h1)
          | false =>
            refine .inr ⟨e, fun z hz hza => ?_⟩
            rcases (mem_node z).1 hz with ⟨h0, _⟩ | h1 | h1
            · cases h0
            · exact absurd hza (side wl kl (by rw [hd]; simp) z h1)
            · exact absurd hza (hb z h1)
      · have hd' : dir a q.2 = false := by simpa using hd
        rw [if_neg hd]
        rcases ihl wl (if h = true then some (q, y) else last) with ⟨x, e, hb⟩ | ⟨e, hb⟩
        · refine .inl ⟨x, e, (mem_node x).2 (.inr (.inl hb.1)), hb.2.1, fun z hz hza => ?_⟩
          rcases (mem_node z).1 hz with ⟨_, h1⟩ | h1 | h1
          · rw [h1]; exact deep wl kl x hb.1
          · exact hb.2.2 z h1 hza
          · exact absurd hza (side wr kr (by rw [hd']; simp) z h1)
        · cases h with
          | true =>
            refine .inl ⟨(q, y), e, (mem_node _).2 (.inl ⟨rfl, rfl⟩), hc, fun z hz hza => ?_⟩
            rcases (mem_node z).1 hz with ⟨_, h1⟩ | h1 | h1
            · rw [h1]; exact Nat.le_refl _
            · exact absurd hza (hb z h1)
            · exact absurd hza (side wr kr (by rw [hd']; simp) z h1)
          | false =>
            refine .inr ⟨e, fun z hz hza => ?_⟩
            rcases (mem_node z).1 hz with ⟨h0, _⟩ | h1 | h1
            · cases h0
            · exact absurd hza (hb z h1)
            · exact absurd hza (side wr kr (by rw [hd']; simp) z h1)
    · rw [if_neg hc]
      refine .inr ⟨rfl, fun x hx ha => ?_⟩
      obtain ⟨hv, hcv⟩ := top_prefs (t := .node q y h l r) hq hw0 (Cov.refl : Cov q q) x.1 (routes_prefs x hx)
      exact hc (has_cov hq hv hcv ha)
theorem lkp_none {a : Nat} {t : Tr} (hw : WF t) : Best (routes t) a (lkp a none t) := by
  rcases lkp_best hw (a := a) none with ⟨x, e, h⟩ | ⟨e, h⟩
  · rw [e]; exact h
  · rw [e]; exact h
/-- The routes under a prefix. -/
def underT (p : Px) (t : Tr) : List Rt := match reachT p t with
  | .nil => []
  | .node q x h l r => if Cov p q then routes (.node q x h l r) else []
theorem reach_top {p q : Px} {x : Int} {h : Bool} {l r : Tr} {t : Tr} (e : reachT p t = .node q x h l r) : ¬ (q ≠ p ∧ Cov q p) := by
  induction t with
  | nil => cases e
  | node q2 x2 h2 l2 r2 ihl ihr =>
    unfold reachT at e
    split at e
    · split at e
      · exact ihr e
      · exact ihl e
    · rename_i hn
      injection e with e1
      rw [e1] at hn
      exact hn
theorem under_eq {p : Px} (hp : Vld p) {t : Tr} (hw : WF t) : underT p t = (routes t).filter (fun x => decide (Cov p x.1)) := by
  have hw' := reach_wf (p := p) hw
  refine srt_ext ?_ ((routes_sorted hw).sublist List.filter_sublist) fun x => ?_
  · unfold underT
    split
    · exact List.Pairwise.nil
    · rename_i e
      split
      · rw [← e]; exact routes_sorted hw'
      · exact List.Pairwise.nil
  · rw [List.mem_filter, decide_eq_true_iff]
    constructor
    · intro hx
      unfold underT at hx
      split at hx
      · cases hx
      · rename_i q y h l r e
        split at hx
        · rename_i hc
          rw [e] at hw'
          obtain ⟨hv, hcv⟩ := top_prefs (t := .node q y h l r) hw'.1 hw' (Cov.refl : Cov q q) x.1 (routes_prefs x hx)
          exact ⟨reach_mem hw x (by rw [e]; exact hx), Cov.trans hp hw'.1 hc hcv⟩
        · cases hx
    · rintro ⟨hx, hc⟩
      have h1 := reach_cov hp hw x hx hc
      unfold underT
      split
      · rename_i e; rw [e] at h1; exact h1
      · rename_i q y h l r e
        rw [e] at h1 hw'
        obtain ⟨hv, hcv⟩ := top_prefs (t := .node q y h l r) hw'.1 hw' (Cov.refl : Cov q q) x.1 (routes_prefs x h1)
        split
        · exact h1
        · rename_i hn
          exfalso
          have hst := reach_top e
          rcases Nat.le_total p.2 q.2 with hle | hle
          · exact hn (cov_comp hp hw'.1 hc hcv hle)
          · have := cov_comp hw'.1 hp hcv hc hle
            by_cases hqp : q = p
            · exact hn (hqp ▸ Cov.refl)
            · exact hst ⟨hqp, this⟩
/-- How many nodes an insertion adds; how many a removal takes away. -/
def grow (p : Px) : Tr → Nat
  | .nil => 1
  | .node q _ _ l r => if q = p then 0 else if Cov q p then (if dir p.1 q.2 then grow p r else grow p l) else if Cov p q then 1 else 2
theorem cnt_kids (b : Bool) (s t : Tr) : cnt (kids b s t).1 + cnt (kids b s t).2 = cnt s + cnt t := by cases b <;> simp [kids, Nat.add_comm]
theorem cnt_node (p : Px) (v : Int) (h : Bool) (l r : Tr) : cnt (.node p v h l r) = 1 + (cnt l + cnt r) := by simp [cnt, prefs]; omega
theorem cnt_put (c : Px → Px → Px) (p : Px) (v : Int) : ∀ t : Tr, cnt (put c p v t) = cnt t + grow p t := by
  intro t
  induction t with
  | nil => rfl
  | node q x h l r ihl ihr =>
    unfold put grow
    split
    · rw [cnt_node, cnt_node]; omega
    · split
      · split
        · rw [cnt_node, cnt_node, ihr]; omega
        · rw [cnt_node, cnt_node, ihl]; omega
      · split
        · rw [cnt_node, cnt_kids]; show _ = _ + 1; simp [cnt, prefs]; omega
        · rw [cnt_node, cnt_kids]; simp [cnt, prefs]; omega
/-- Every trie has at least as many nodes as routes, and less than twice as many. -/
theorem cnt_bounds {t : Tr} : WF t → (routes t).length ≤ cnt t ∧ (t.isNil = false → cnt t + 1 ≤ 2 * (routes t).length) ∧ (t.isNil = true → cnt t = 0) := by
  intro hw
  refine ⟨by have := (routes_sub t).length_le; simpa [cnt] using this, ?_, fun h => by rw [isNil_iff.1 h]; rfl⟩
  induction t with
  | nil => intro h; cases h
  | node q x h l r ihl ihr =>
    intro _
    obtain ⟨hq, kl, kr, hh, wl, wr⟩ := hw
    rw [cnt_node]
    have e : (routes (.node q x h l r)).length = (if h then 1 else 0) + ((routes l).length + (routes r).length) := by cases h <;> simp [routes]; omega
    rw [e]
    have hl : cnt l ≤ 2 * (routes l).length := by
      cases hn : l.isNil
      · have := ihl wl hn; omega
      · rw [isNil_iff.1 hn]; exact Nat.le_refl _
    have hr : cnt r ≤ 2 * (routes r).length := by
      cases hn : r.isNil
      · have := ihr wr hn; omega
      · rw [isNil_iff.1 hn]; exact Nat.le_refl _
    cases h with
    | true => simp; omega
    | false =>
      obtain ⟨_, h1, h2⟩ := hh rfl
      have := ihl wl h1
      have := ihr wr h2
      simp; omega
end Go.Proofs.Ytamkegnnlbefdaa
