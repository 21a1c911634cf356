/- A trie in memory: its nodes' blocks, a place that holds a part of it, what a new part at a place makes of the whole. -/
import Derived.Test.YtamkegnnlbefdaaPfxF
import Derived.Test.YtamkegnnlbefdaaTrS
namespace Go.Proofs.Ytamkegnnlbefdaa
open Go.RowKit

/-- A block known whole. -/
def Blk (W : World) (g : Nat) (cs : List Value) (t : TypeId) : Prop := W.heap[g]? = some (.cells cs.toArray t (0, 0))
section
variable {w w' W W' W'' : World} {g i : Nat} {cs : List Value} {t : TypeId} {u v : Value}
theorem Blk.lt (h : Blk W g cs t) : g < W.heap.size := by
  rcases Nat.lt_or_ge g W.heap.size with hlt | hge
  · exact hlt
  · unfold Blk at h; rw [Array.getElem?_eq_none hge] at h; cases h
theorem Blk.step (h : Blk W g cs t) (hb : Below W.heap.size W W') : Blk W' g cs t := (hb.block g h.lt).trans h
theorem Blk.cell (h : Blk W g cs t) (hi : cs[i]? = some v) : W.cell? ⟨g, i, none⟩ = some v := by
  rw [cell_of_row W g i _ t (0, 0) h]; simpa using hi
theorem Blk.frozen (h : Blk W g cs t) : W.frozen? ⟨g, i, none⟩ = false := by unfold Blk at h; simp [World.frozen?, h]
theorem Blk.far (h : Blk W g cs t) {p : Addr} (hp : g ≠ p.block) (u : Value) : Blk (W.setCell p u) g cs t := (Below.heap_setCell W p u g hp).trans h
theorem Blk.set_ (h : Blk W g cs t) (i : Nat) (u : Value) : Blk (W.setCell ⟨g, i, none⟩ u) g (cs.set i u) t := by
  unfold Blk at h ⊢
  simp [World.setCell, Array.getElem?_modify, h]
theorem Blk.same (h : Blk W g cs t) (e : W'.heap[g]? = W.heap[g]?) : Blk W' g cs t := e.trans h
theorem Blk.new (W : World) (cs : List Value) (t : TypeId) : Blk (W.alloc (.cells cs.toArray t)) W.heap.size cs t := heap_alloc_new W _
theorem Blk.uniq (h : Blk W g cs t) {cs' : List Value} {t' : TypeId} (h' : Blk W g cs' t') : cs = cs' ∧ t = t' := by
  unfold Blk at h h'
  rw [h] at h'
  simp only [Option.some.injEq, Obj.cells.injEq] at h'
  obtain ⟨h1, h2, _⟩ := h'
  exact ⟨by simpa using h1, h2⟩
end
abbrev ndT : TypeId := 71
def ndC (p : Px) (x : Int) (h : Bool) (a b : Value) : List Value := [.int .u32 (p.1 : Int), .int .i64 (p.2 : Int), .int .i64 x, .bool h, a, b]
def ptr (g : Nat) : Value := .pointer (some ⟨g, 0, none⟩)
/-- The value v is the trie t, whose nodes lie in blocks of S. -/
def At : Tr → World → Value → (Nat → Prop) → Prop
  | .nil, _, v, _ => v = .pointer none
  | .node p x h l r, W, v, S => ∃ (g : Nat) (a b : Value) (Sl Sr : Nat → Prop), v = ptr g ∧ S g ∧ Blk W g (ndC p x h a b) ndT ∧ At l W a Sl ∧ At r W b Sr ∧ (∀ k, Sl k → S k ∧ k ≠ g) ∧ (∀ k, Sr k → S k ∧ k ≠ g ∧ ¬ Sl k)
theorem At.keep {t : Tr} : ∀ {W W' : World} {v : Value} {S : Nat → Prop}, At t W v S → (∀ k, S k → k < W.heap.size → W'.heap[k]? = W.heap[k]?) → At t W' v S := by
  induction t with
  | nil => intro W W' v S h _; exact h
  | node p x h l r ihl ihr =>
    rintro W W' v S ⟨g, a, b, Sl, Sr, e, hg, hb, hl, hr, d1, d2⟩ hk
    exact ⟨g, a, b, Sl, Sr, e, hg, hb.same (hk g hg hb.lt), ihl hl fun k h1 h2 => hk k (d1 k h1).1 h2, ihr hr fun k h1 h2 => hk k (d2 k h1).1 h2, d1, d2⟩
theorem At.more {t : Tr} {W : World} {v : Value} {S S' : Nat → Prop} (h : At t W v S) (hs : ∀ k, S k → S' k) : At t W v S' := by
  cases t with
  | nil => exact h
  | node p x hh l r =>
    obtain ⟨g, a, b, Sl, Sr, e, hg, hb, hl, hr, d1, d2⟩ := h
    exact ⟨g, a, b, Sl, Sr, e, hs g hg, hb, hl, hr, fun k h1 => ⟨hs k (d1 k h1).1, (d1 k h1).2⟩, fun k h1 => ⟨hs k (d2 k h1).1, (d2 k h1).2⟩⟩
theorem At.below {t : Tr} {W W' : World} {v : Value} {S : Nat → Prop} (h : At t W v S) (hb : Below W.heap.size W W') : At t W' v S := h.keep fun k _ h2 => hb.block k h2
/-- The cell at a holds the trie t. -/
structure Pl (W : World) (a : Addr) (t : Tr) (S : Nat → Prop) : Prop where
  val : ∃ v, At t W v S ∧ ∃ cs ty, Blk W a.block cs ty ∧ cs[a.off]? = some v
  spot : a.spot = none
  out : ¬ S a.block
theorem Pl.below {t : Tr} {W W' : World} {a : Addr} {S : Nat → Prop} (h : Pl W a t S) (hb : Below W.heap.size W W') : Pl W' a t S := by
  obtain ⟨⟨v, h1, cs, ty, h2, h3⟩, h4, h5⟩ := h
  exact ⟨⟨v, h1.below hb, cs, ty, h2.step hb, h3⟩, h4, h5⟩
theorem Pl.more {t : Tr} {W : World} {a : Addr} {S S' : Nat → Prop} (h : Pl W a t S) (hs : ∀ k, S k → S' k) (ho : ¬ S' a.block) : Pl W a t S' := by
  obtain ⟨⟨v, h1, h2⟩, h4, h5⟩ := h
  exact ⟨⟨v, h1.more hs, h2⟩, h4, ho⟩
/-- The block g is as it was, but for the cell at a. -/
def Kp (W W' : World) (a : Addr) (g : Nat) : Prop := (g ≠ a.block → W'.heap[g]? = W.heap[g]?) ∧ (g = a.block → ∀ cs t, Blk W g cs t → ∃ u, Blk W' g (cs.set a.off u) t)
theorem Kp.trans {W W' W'' : World} {a : Addr} {g : Nat} (h : Kp W W' a g) (h' : Kp W' W'' a g) : Kp W W'' a g :=
  ⟨fun hg => (h'.1 hg).trans (h.1 hg), fun hg cs t hc => by
    obtain ⟨u, hu⟩ := h.2 hg cs t hc
    obtain ⟨u', hu'⟩ := h'.2 hg _ t hu
    exact ⟨u', by rwa [List.set_set] at hu'⟩⟩
theorem kp_same {W W' : World} {a : Addr} {g : Nat} {cs : List Value} {t : TypeId} {v : Value} (h : W'.heap[g]? = W.heap[g]?) (hb : Blk W a.block cs t) (hv : cs[a.off]? = some v) : Kp W W' a g :=
  ⟨fun _ => h, fun hg cs' t' hc => by
    subst hg
    obtain ⟨rfl, rfl⟩ := hb.uniq hc
    refine ⟨v, ?_⟩
    obtain ⟨hi, rfl⟩ := List.getElem?_eq_some_iff.1 hv
    rw [List.set_getElem_self]
    exact hc.same h⟩
/-- The cell at a holds v. -/
def Cel (W : World) (a : Addr) (v : Value) : Prop := ∃ cs ty, Blk W a.block cs ty ∧ cs[a.off]? = some v
theorem Cel.same {W W' : World} {a : Addr} {v : Value} (h : Cel W a v) (e : W'.heap[a.block]? = W.heap[a.block]?) : Cel W' a v := by
  obtain ⟨cs, ty, h1, h2⟩ := h
  exact ⟨cs, ty, h1.same e, h2⟩
theorem Cel.uniq {W : World} {a : Addr} {v u : Value} (h : Cel W a v) (h' : Cel W a u) : v = u := by
  obtain ⟨cs, ty, h1, h2⟩ := h
  obtain ⟨cs', ty', h3, h4⟩ := h'
  obtain ⟨rfl, rfl⟩ := h1.uniq h3
  rw [h2] at h4
  exact Option.some.inj h4
theorem Cel.lt {W : World} {a : Addr} {v : Value} (h : Cel W a v) : a.block < W.heap.size := by
  obtain ⟨cs, ty, h1, h2⟩ := h
  exact h1.lt
theorem Cel.cell {W : World} {a : Addr} {v : Value} (h : Cel W a v) (hs : a.spot = none) : W.cell? a = some v := by
  obtain ⟨cs, ty, h1, h2⟩ := h
  obtain ⟨b, o, s⟩ := a
  obtain rfl : s = none := hs
  exact h1.cell h2
theorem Cel.frozen {W : World} {a : Addr} {v : Value} (h : Cel W a v) (hs : a.spot = none) : W.frozen? a = false := by
  obtain ⟨cs, ty, h1, h2⟩ := h
  obtain ⟨b, o, s⟩ := a
  obtain rfl : s = none := hs
  exact h1.frozen
/-- What a new part t' at the place a makes of the trie at a0 (whose nodes lie in S0; those of the old part in S). -/
def Rep (k : Tr → Tr) (W : World) (a0 a : Addr) (S0 S : Nat → Prop) : Prop :=
  ∀ (W' : World) (t' : Tr) (S' : Nat → Prop), (∀ g, S0 g → ¬ S g → Kp W W' a g) → (a ≠ a0 → ∀ v, Cel W a0 v → Cel W' a0 v) → Pl W' a t' S' → (∀ g, S' g → S g ∨ ¬ (S0 g ∨ g = a0.block)) → Pl W' a0 (k t') (fun g => S0 g ∨ S' g)
/-- A place in a trie: what is there, and what becomes of the whole. -/
structure Spot (k : Tr → Tr) (W : World) (a0 a : Addr) (S0 S : Nat → Prop) (t : Tr) : Prop where
  pl : Pl W a t S
  rep : Rep k W a0 a S0 S
  sub : ∀ g, S g → S0 g
  inn : S0 a.block ∨ a = a0
  out : ¬ S0 a0.block
  lt : ∀ g, S0 g → g < W.heap.size
  root : ∃ v, Cel W a0 v
theorem Pl.lt {W : World} {a : Addr} {t : Tr} {S : Nat → Prop} (h : Pl W a t S) : a.block < W.heap.size := by
  obtain ⟨v, _, cs, ty, hc, _⟩ := h.val
  exact hc.lt
theorem Spot.start {W : World} {a0 : Addr} {S0 : Nat → Prop} {t : Tr} (h : Pl W a0 t S0) (hlt : ∀ g, S0 g → g < W.heap.size) : Spot id W a0 a0 S0 S0 t :=
  ⟨h, fun W' t' S' _ _ hp hs => hp.more (fun g hg => .inr hg) (fun hc => hc.elim h.out hp.out), fun _ => id, .inr rfl, h.out, hlt, by obtain ⟨v, _, hc⟩ := h.val; exact ⟨v, hc⟩⟩
theorem Spot.below {k : Tr → Tr} {W W' : World} {a0 a : Addr} {S0 S : Nat → Prop} {t : Tr} (h : Spot k W a0 a S0 S t) (hb : Below W.heap.size W W') : Spot k W' a0 a S0 S t := by
  obtain ⟨h1, h2, h3, h4, h5, h6, ⟨v0, h7⟩⟩ := h
  obtain ⟨v, hv, cs, ty, hc, hcv⟩ := h1.val
  have h7' : Cel W' a0 v0 := h7.same (hb.block _ h7.lt)
  exact ⟨h1.below hb, fun W'' t' S' hk hr hp hs => h2 W'' t' S' (fun g hg hn => (kp_same (hb.block g (h6 g hg)) hc hcv).trans (hk g hg hn)) (fun hne u hu => hr hne u (hu.same (hb.block _ hu.lt))) hp hs, h3, h4, h5, fun g hg => Nat.lt_of_lt_of_le (h6 g hg) hb.size, v0, h7'⟩
def setKid (d : Bool) (p : Px) (x : Int) (h : Bool) (l r z : Tr) : Tr := if d then .node p x h l z else .node p x h z r
def kidOf (d : Bool) (l r : Tr) : Tr := if d then r else l
def kidAt (g : Nat) (d : Bool) : Addr := ⟨g, if d then 5 else 4, none⟩
/-- A step down: into the kid on the side d. -/
theorem Spot.down {k : Tr → Tr} {W : World} {a0 a : Addr} {S0 S : Nat → Prop} {p : Px} {x : Int} {h : Bool} {l r : Tr} (H : Spot k W a0 a S0 S (.node p x h l r)) (d : Bool) :
    ∃ (g : Nat) (u v : Value) (Sd : Nat → Prop), Cel W a (ptr g) ∧ S g ∧ Blk W g (ndC p x h u v) ndT ∧ Spot (fun z => k (setKid d p x h l r z)) W a0 (kidAt g d) S0 Sd (kidOf d l r) := by
  obtain ⟨⟨⟨w, ⟨g, u, v, Sl, Sr, rfl, hg, hb, hl, hr, d1, d2⟩, cs, ty, hc, hcv⟩, hs, ho⟩, h2, h3, h4, h5, h6, h7⟩ := H
  refine ⟨g, u, v, if d then Sr else Sl, ⟨cs, ty, hc, hcv⟩, hg, hb, ?_⟩
  have hSd : ∀ j, (if d then Sr else Sl) j → S j ∧ j ≠ g := fun j hj => by
    cases d
    · exact d1 j hj
    · exact ⟨(d2 j hj).1, (d2 j hj).2.1⟩
  have hag : a.block ≠ g := fun e => ho (e ▸ hg)
  have hkne : kidAt g d ≠ a0 := fun e => h5 (by rw [← e]; exact h3 g hg)
  refine ⟨?_, ?_, fun j hj => h3 j (hSd j hj).1, .inl (h3 g hg), h5, h6, h7⟩
  · refine ⟨?_, rfl, fun hj => (hSd _ hj).2 rfl⟩
    cases d
    · exact ⟨u, hl, _, _, hb, rfl⟩
    · exact ⟨v, hr, _, _, hb, rfl⟩
  · intro W' t' S' hk hroot hp hs'
    obtain ⟨⟨v', ht', cs', ty', hc', hv'⟩, -, ho'⟩ := hp
    obtain ⟨z, hz⟩ := (hk g (h3 g hg) (fun hj => (hSd g hj).2 rfl)).2 rfl _ _ hb
    obtain ⟨rfl, rfl⟩ := hc'.uniq hz
    have hoff : (kidAt g d).off < (ndC p x h u v).length := by cases d <;> simp [kidAt, ndC]
    obtain rfl : z = v' := by
      rw [List.getElem?_set_self hoff] at hv'
      exact Option.some.inj hv'
    -- what was outside the kid is as it was
    have keep : ∀ j, S0 j → ¬ (if d then Sr else Sl) j → j ≠ g → W'.heap[j]? = W.heap[j]? := fun j h0 hn hne => (hk j h0 hn).1 hne
    have hag' : Cel W' a (ptr g) := by
      rcases h4 with h4 | rfl
      · exact Cel.same ⟨cs, ty, hc, hcv⟩ ((hk a.block h4 (fun hj => ho (hSd _ hj).1)).1 hag)
      · exact hroot hkne _ ⟨cs, ty, hc, hcv⟩
    have disj : ∀ j, S' j → j ≠ g := fun j hj e => ho' (e ▸ hj)
    have newS : ∀ j, S' j → (if d then Sr else Sl) j ∨ ¬ S0 j := fun j hj => (hs' j hj).imp id fun hn h0 => hn (.inl h0)
    have top : ∀ (Sx : Nat → Prop), (∀ j, Sx j → j = g ∨ S j ∨ S' j) → At (setKid d p x h l r t') W' (ptr g) Sx → Pl W' a0 (k (setKid d p x h l r t')) (fun j => S0 j ∨ S' j) := by
      intro Sx hx hat
      have hout : ¬ Sx a.block := fun hj => by
        rcases hx _ hj with e | hj | hj
        · exact hag e
        · exact ho hj
        · rcases hs' _ hj with h8 | h8
          · exact ho (hSd _ h8).1
          · rcases h4 with h4 | h4
            · exact h8 (.inl h4)
            · exact h8 (.inr (by rw [h4]))
      obtain ⟨cs2, ty2, hc2, hcv2⟩ := hag'
      have := h2 W' (setKid d p x h l r t') Sx (fun j hj hn => kp_same ((hk j hj (fun h8 => hn (hSd j h8).1)).1 (fun e => hn (e ▸ hg))) hc hcv) (fun _ u hu => hroot hkne u hu) ⟨⟨ptr g, hat, cs2, ty2, hc2, hcv2⟩, hs, hout⟩ (fun j hj => by
        rcases hx j hj with rfl | hj | hj
        · exact .inl hg
        · exact .inl hj
        · exact (hs' j hj).imp (fun h8 => (hSd j h8).1) id)
      refine this.more (fun j hj => ?_) (fun hj => ?_)
      · rcases hj with hj | hj
        · exact .inl hj
        · rcases hx j hj with rfl | hj | hj
          · exact .inl (h3 _ hg)
          · exact .inl (h3 _ hj)
          · exact .inr hj
      · rcases hj with hj | hj
        · exact h5 hj
        · rcases hs' _ hj with h8 | h8
          · exact h5 (h3 _ (hSd _ h8).1)
          · exact h8 (.inr rfl)
    cases d
    · refine top (fun j => j = g ∨ Sr j ∨ S' j) (fun j hj => by
        rcases hj with hj | hj | hj
        · exact .inl hj
        · exact .inr (.inl (d2 j hj).1)
        · exact .inr (.inr hj)) ⟨g, z, v, S', Sr, rfl, .inl rfl, hz, ht', hr.keep fun j hj _ => keep j (h3 j (d2 j hj).1) (fun h8 => (d2 j hj).2.2 h8) (d2 j hj).2.1, fun j hj => ⟨.inr (.inr hj), disj j hj⟩, fun j hj => ⟨.inr (.inl hj), (d2 j hj).2.1, fun h8 => ?_⟩⟩
      rcases newS j h8 with h9 | h9
      · exact (d2 j hj).2.2 h9
      · exact h9 (h3 j (d2 j hj).1)
    · refine top (fun j => j = g ∨ Sl j ∨ S' j) (fun j hj => by
        rcases hj with hj | hj | hj
        · exact .inl hj
        · exact .inr (.inl (d1 j hj).1)
        · exact .inr (.inr hj)) ⟨g, u, z, Sl, S', rfl, .inl rfl, hz, hl.keep fun j hj _ => keep j (h3 j (d1 j hj).1) (fun h8 => (d2 j h8).2.2 hj) (d1 j hj).2, ht', fun j hj => ⟨.inr (.inl hj), (d1 j hj).2⟩, fun j hj => ⟨.inr (.inr hj), disj j hj, fun h8 => ?_⟩⟩
      rcases newS j hj with h9 | h9
      · exact (d2 j h9).2.2 h8
      · exact h9 (h3 j (d1 j h8).1)
/-- Another part at the place, in another world. -/
theorem Spot.upd {k : Tr → Tr} {W W' : World} {a0 a : Addr} {S0 S S0' S' : Nat → Prop} {t t' : Tr} (H : Spot k W a0 a S0 S t) (hk : ∀ g, S0 g → ¬ S g → Kp W W' a g) (hr : a ≠ a0 → ∀ v, Cel W a0 v → Cel W' a0 v) (hp : Pl W' a t' S')
    (hs : ∀ g, S' g → S g ∨ ¬ (S0 g ∨ g = a0.block)) (h1 : ∀ g, S0 g → S0' g) (h2 : ∀ g, S' g → S0' g) (h3 : ¬ S0' a0.block) (h4 : ∀ g, S0' g → g < W'.heap.size) : Spot k W' a0 a S0' S' t' := by
  obtain ⟨v0, h7⟩ := H.root
  have hroot : ∃ v, Cel W' a0 v := by
    by_cases ha : a = a0
    · obtain ⟨v, _, hc⟩ := hp.val
      exact ⟨v, ha ▸ hc⟩
    · exact ⟨v0, hr ha v0 h7⟩
  refine ⟨hp, fun W'' t'' S'' hk' hr' hp'' hs'' => ?_, h2, H.inn.imp (h1 _) id, h3, h4, hroot⟩
  have := H.rep W'' t'' S'' (fun g hg hn => (hk g hg hn).trans (hk' g (h1 g hg) (fun h5 => (hs g h5).elim hn (fun h6 => h6 (.inl hg))))) (fun hne u hu => hr' hne u (hr hne u hu)) hp'' (fun g hg => by
    rcases hs'' g hg with h5 | h5
    · exact hs g h5
    · exact .inr fun h6 => h5 (h6.imp (h1 g) id))
  refine this.more (fun g hg => hg.imp (h1 g) id) (fun hg => ?_)
  rcases hg with hg | hg
  · exact h3 hg
  · rcases hs'' _ hg with h5 | h5
    · exact h3 (h2 _ h5)
    · exact h5 (.inr rfl)
/-- The whole, with the part at the place. -/
theorem Spot.whole {k : Tr → Tr} {W : World} {a0 a : Addr} {S0 S : Nat → Prop} {t : Tr} (H : Spot k W a0 a S0 S t) : Pl W a0 (k t) S0 := by
  obtain ⟨v, hv, cs, ty, hc, hcv⟩ := H.pl.val
  exact (H.rep W t S (fun g _ _ => kp_same rfl hc hcv) (fun _ _ h => h) H.pl (fun g hg => .inl hg)).more (fun g hg => hg.elim id (H.sub g)) H.out
/-- What changes nothing but blocks of S, and adds others. -/
structure Fr (S : Nat → Prop) (W W' : World) : Prop where
  os : W'.os = W.os
  tape : W'.tape = W.tape
  output : W'.output = W.output
  size : W.heap.size ≤ W'.heap.size
  block : ∀ g, g < W.heap.size → ¬ S g → W'.heap[g]? = W.heap[g]?
theorem Fr.of_below {S : Nat → Prop} {W W' : World} (h : Below W.heap.size W W') : Fr S W W' := ⟨h.os, h.tape, h.output, h.size, fun g hg _ => h.block g hg⟩
theorem Fr.trans {S S' S'' : Nat → Prop} {W W' W'' : World} (h : Fr S W W') (h' : Fr S' W' W'') (h1 : ∀ g, S g → S'' g) (h2 : ∀ g, S' g → S'' g ∨ W.heap.size ≤ g) : Fr S'' W W'' :=
  ⟨h'.os.trans h.os, h'.tape.trans h.tape, h'.output.trans h.output, Nat.le_trans h.size h'.size, fun g hg hn => (h'.block g (Nat.lt_of_lt_of_le hg h.size) (fun h3 => (h2 g h3).elim hn (fun h4 => by omega))).trans (h.block g hg (fun h3 => hn (h1 g h3)))⟩
theorem Fr.low {S : Nat → Prop} {B : Nat} {W W' : World} (h : Fr S W W') (hB : B ≤ W.heap.size) (hS : ∀ g, S g → B ≤ g) : Below B W W' := ⟨h.os, h.tape, h.output, h.size, fun g hg => h.block g (by omega) (fun h1 => by have := hS g h1; omega)⟩
theorem Fr.set {S : Nat → Prop} (W : World) (p : Addr) (u : Value) (h : S p.block) : Fr S W (W.setCell p u) := ⟨rfl, rfl, rfl, by simp [World.setCell], fun g _ hn => Below.heap_setCell W p u g (fun e => hn (e ▸ h))⟩
end Go.Proofs.Ytamkegnnlbefdaa
