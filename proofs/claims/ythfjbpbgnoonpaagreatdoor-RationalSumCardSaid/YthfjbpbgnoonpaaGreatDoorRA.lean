/- Boxes of any type beside facts that stay: the state of a walk of package rational. -/
import Derived.Test.YthfjbpbgnoonpaaGreatDoorNE
namespace Go.Proofs.YthfjbpbgnoonpaaGreatDoor
open Go.RowKit

/-- A cell that holds no number, in a block that is no row of digits. -/
def Okp (W : World) (p : Addr) : Prop := ∃ t v, IsRow W t p.block ∧ 90 ≠ t ∧ W.cell? p = some v ∧ (∀ k z, v ≠ .int k z)
/-- What neither new blocks nor stores into such cells disturb. -/
structure Stab (P : World → Prop) : Prop where
  low : ∀ {W W' : World}, Below W.heap.size W W' → P W → P W'
  far : ∀ {W : World} {p : Addr} (u : Value), Okp W p → P W → P (W.setCell p u)
theorem stab_nat (v : Value) (k : Nat) : Stab (fun W => IsNat W v k) where
  low hb h := h.below hb
  far u hp h := by
    obtain ⟨t, _, h1, h2, _⟩ := hp
    exact h.far h1 h2 u
theorem stab_li (v : Value) (ds : List Nat) : Stab (fun W => LI W v ds) where
  low hb h := h.below hb
  far {W p} u hp h := by
    obtain ⟨t, x, h1, h2, h3, h4⟩ := hp
    obtain ⟨A, c, e1, e2, e3⟩ := h
    refine ⟨A, c, e1, e2, fun i hi => ?_⟩
    obtain ⟨a, ha, hlt, hcell⟩ := e3 i hi
    refine ⟨a, ha, by simpa using hlt, (World.cell?_setCell_other W p _ u ?_).trans hcell⟩
    intro e
    rw [← e, h3] at hcell
    simp [i64f] at hcell
    exact h4 _ _ hcell
theorem stab_and {P Q : World → Prop} (hP : Stab P) (hQ : Stab Q) : Stab (fun W => P W ∧ Q W) where
  low hb h := ⟨hP.low hb h.1, hQ.low hb h.2⟩
  far u hp h := ⟨hP.far u hp h.1, hQ.far u hp h.2⟩
theorem stab_true {p : Prop} : Stab (fun _ => p) where
  low _ h := h
  far _ _ h := h
theorem stab_ex {α : Sort _} {P : α → World → Prop} (h : ∀ x, Stab (P x)) : Stab (fun W => ∃ x, P x W) where
  low hb := fun ⟨x, hx⟩ => ⟨x, (h x).low hb hx⟩
  far u hp := fun ⟨x, hx⟩ => ⟨x, (h x).far u hp hx⟩

/-- A block known whole. -/
def Blk (W : World) (g : Nat) (cs : List Value) (t : TypeId) : Prop := W.heap[g]? = some (.cells cs.toArray t (0, 0))
/-- The walk's state behind w: facts that stay; boxes of the call's own, the youngest first. -/
def Sr (w : World) (L : List (World → Prop)) (B : List (Nat × List Value × TypeId)) (W : World) : Prop :=
  (∀ P, P ∈ L → Stab P ∧ P W) ∧ (∀ b, b ∈ B → Blk W b.1 b.2.1 b.2.2 ∧ w.heap.size ≤ b.1 ∧ 90 ≠ b.2.2 ∧ ∀ c, c ∈ b.2.1 → ∀ k z, c ≠ .int k z) ∧ B.Pairwise (fun p q => p.1 ≠ q.1) ∧ Below w.heap.size w W
section
variable {w W W' : World} {L L' : List (World → Prop)} {B B' : List (Nat × List Value × TypeId)} {P : World → Prop} {g i : Nat} {cs : List Value} {t : TypeId} {v u : Value}
theorem Blk.lt (h : Blk W g cs t) : g < W.heap.size := by
  rcases Nat.lt_or_ge g W.heap.size with hlt | hge
  · exact hlt
  · unfold Blk at h; rw [Array.getElem?_eq_none hge] at h; cases h
theorem Blk.step (h : Blk W g cs t) (hb : Below W.heap.size W W') : Blk W' g cs t := (hb.block g h.lt).trans h
theorem Blk.cell (h : Blk W g cs t) (hi : cs[i]? = some v) : W.cell? ⟨g, i, none⟩ = some v := by
  rw [cell_of_row W g i _ t (0, 0) h]; simpa using hi
theorem Blk.frozen (h : Blk W g cs t) : W.frozen? ⟨g, i, none⟩ = false := by unfold Blk at h; simp [World.frozen?, h]
theorem Blk.row (h : Blk W g cs t) : IsRow W t g := ⟨_, _, h⟩
theorem Blk.far (h : Blk W g cs t) {p : Addr} (hp : g ≠ p.block) (u : Value) : Blk (W.setCell p u) g cs t := (Below.heap_setCell W p u g hp).trans h
theorem Blk.set_ (h : Blk W g cs t) (i : Nat) (u : Value) : Blk (W.setCell ⟨g, i, none⟩ u) g (cs.set i u) t := by
  unfold Blk at h ⊢
  simp [World.setCell, Array.getElem?_modify, h]
theorem Sr.low (h : Sr w L B W) : Below w.heap.size w W := h.2.2.2
theorem Sr.begin (hb : Below w.heap.size w W) : Sr w [] [] W := ⟨fun P hp => by simp at hp, fun b hb => by simp at hb, .nil, hb⟩
theorem Sr.start (w : World) : Sr w [] [] w := Sr.begin (Below.refl _ _)
theorem Sr.get (h : Sr w L B W) (hm : P ∈ L) : P W := (h.1 P hm).2
theorem Sr.push (h : Sr w L B W) (hs : Stab P) (hP : P W) : Sr w (P :: L) B W := ⟨fun Q hq => by
  rcases List.mem_cons.1 hq with rfl | hq
  · exact ⟨hs, hP⟩
  · exact h.1 Q hq, h.2⟩
theorem Sr.below (h : Sr w L B W) (hb : Below W.heap.size W W') : Sr w L B W' :=
  ⟨fun Q hq => ⟨(h.1 Q hq).1, (h.1 Q hq).1.low hb (h.1 Q hq).2⟩, fun b hm => ⟨(h.2.1 b hm).1.step hb, (h.2.1 b hm).2⟩, h.2.2.1, h.2.2.2.trans (hb.mono h.2.2.2.size)⟩
theorem Sr.drew (h : Sr w L B W) : Sr w L B W.drew := h.below ((Below.refl W.heap.size W).drew)
theorem Sr.alloc (h : Sr w L B W) (cs : List Value) (t : TypeId) (h1 : 90 ≠ t) (h2 : ∀ c, c ∈ cs → ∀ k z, c ≠ .int k z) : Sr w L ((W.heap.size, cs, t) :: B) (W.alloc (.cells cs.toArray t)) := by
  have hb := (Below.refl W.heap.size W).alloc (Nat.le_refl _) (.cells cs.toArray t)
  obtain ⟨e1, e2, e3, e4⟩ := h.below hb
  refine ⟨e1, fun b hm => ?_, List.pairwise_cons.2 ⟨fun q hq => Nat.ne_of_gt ((h.2.1 q hq).1).lt, e3⟩, e4⟩
  rcases List.mem_cons.1 hm with rfl | hm
  · exact ⟨heap_alloc_new W _, h.low.size, h1, h2⟩
  · exact e2 b hm
theorem Sr.blk (h : Sr w L B W) (hm : (g, cs, t) ∈ B) : Blk W g cs t := (h.2.1 _ hm).1
theorem Sr.cell (h : Sr w L B W) (hm : (g, cs, t) ∈ B) (hi : cs[i]? = some v) : W.cell? ⟨g, i, none⟩ = some v := (h.blk hm).cell hi
theorem Sr.frozen (h : Sr w L B W) (hm : (g, cs, t) ∈ B) : W.frozen? ⟨g, i, none⟩ = false := (h.blk hm).frozen
theorem Sr.sub (h : Sr w L B W) (hL : ∀ p, p ∈ L' → p ∈ L) (hB : B'.Sublist B) : Sr w L' B' W :=
  ⟨fun P hp => h.1 P (hL P hp), fun b hm => h.2.1 b (hB.subset hm), h.2.2.1.sublist hB, h.2.2.2⟩
theorem Sr.sub2 (h : Sr w L B W) (hL : L'.Sublist L) (hB : B'.Sublist B) : Sr w L' B' W := h.sub (fun _ hp => hL.subset hp) hB
/-- A store into box number n. -/
theorem Sr.set (h : Sr w L B W) (n : Nat) (hn : B[n]? = some (g, cs, t)) (hi : i < cs.length) (hu : ∀ k z, u ≠ .int k z) (hB : B' = B.set n (g, cs.set i u, t)) : Sr w L B' (W.setCell ⟨g, i, none⟩ u) := by
  obtain ⟨e1, e2, e3, e4⟩ := h
  obtain ⟨hn1, hn2⟩ := List.getElem?_eq_some_iff.1 hn
  have hm : (g, cs, t) ∈ B := hn2 ▸ List.getElem_mem hn1
  have hb := e2 _ hm
  have hok : Okp W ⟨g, i, none⟩ := ⟨t, cs[i], hb.1.row, hb.2.2.1, hb.1.cell (by simp [hi]), hb.2.2.2 _ (List.getElem_mem hi)⟩
  have hpw := List.pairwise_iff_getElem.1 e3
  subst hB
  refine ⟨fun Q hq => ⟨(e1 Q hq).1, (e1 Q hq).1.far u hok (e1 Q hq).2⟩, fun b hm2 => ?_, ?_, e4.setCell hb.2.1 u (p := ⟨g, i, none⟩)⟩
  · obtain ⟨j, hj, rfl⟩ := List.getElem_of_mem hm2
    simp only [List.length_set] at hj
    rw [List.getElem_set]
    by_cases hnj : n = j
    · rw [if_pos hnj]
      refine ⟨hb.1.set_ i u, hb.2.1, hb.2.2.1, fun c hc => ?_⟩
      rcases List.mem_or_eq_of_mem_set hc with hc | rfl
      · exact hb.2.2.2 c hc
      · exact hu
    · rw [if_neg hnj]
      have h3 := e2 _ (List.getElem_mem hj)
      refine ⟨h3.1.far (p := ⟨g, i, none⟩) ?_ u, h3.2⟩
      intro he
      simp only at he
      rcases Nat.lt_or_gt_of_ne hnj with hlt | hlt
      · have := hpw n j hn1 hj hlt; rw [hn2] at this; exact this he.symm
      · have := hpw j n hj hn1 hlt; rw [hn2] at this; exact this he
  · refine List.pairwise_iff_getElem.2 fun a b ha hb' hab => ?_
    simp only [List.length_set] at ha hb'
    have key : ∀ j (hj : j < B.length), ((B.set n (g, cs.set i u, t))[j]'(by simpa using hj)).1 = (B[j]).1 := by
      intro j hj
      rw [List.getElem_set]
      split
      · rename_i he; subst he; rw [hn2]
      · rfl
    rw [key a ha, key b hb']
    exact hpw a b ha hb' hab
end
theorem noint_slice {A : Option Addr} {n c : Nat} : ∀ k z, Value.slice A n c ≠ .int k z := fun _ _ h => by cases h
theorem noint_bool {b : Bool} : ∀ k z, Value.bool b ≠ .int k z := fun _ _ h => by cases h
theorem noint3 {b : Bool} {A A2 : Option Addr} {n c n2 c2 : Nat} : ∀ x, x ∈ [Value.bool b, .slice A n c, .slice A2 n2 c2] → ∀ k z, x ≠ .int k z := by
  intro x hx k z
  simp only [List.mem_cons, List.mem_nil_iff, or_false] at hx
  rcases hx with rfl | rfl | rfl <;> intro h <;> cases h
theorem noint1 {A : Option Addr} {n c : Nat} : ∀ x, x ∈ [Value.slice A n c] → ∀ k z, x ≠ .int k z := by
  intro x hx k z
  simp only [List.mem_cons, List.mem_nil_iff, or_false] at hx
  rcases hx with rfl; intro h; cases h
section
variable (w : World)
theorem enter1 (cs : List Value) (t : TypeId) (h1 : 90 ≠ t) (h2 : ∀ c, c ∈ cs → ∀ k z, c ≠ .int k z) :
    ∃ w1, w.alloc (.cells cs.toArray t) = w1 ∧ Hid (Sr w [] [(w.heap.size, cs, t)] w1) := ⟨_, rfl, (Sr.start w).alloc cs t h1 h2⟩
theorem enter2 (cs : List Value) (t : TypeId) (cs2 : List Value) (t2 : TypeId) (h1 : 90 ≠ t) (h2 : ∀ c, c ∈ cs → ∀ k z, c ≠ .int k z) (h3 : 90 ≠ t2) (h4 : ∀ c, c ∈ cs2 → ∀ k z, c ≠ .int k z) :
    ∃ w1, (w.alloc (.cells cs.toArray t)).alloc (.cells cs2.toArray t2) = w1 ∧ Hid (Sr w [] [(w.heap.size + 1, cs2, t2), (w.heap.size, cs, t)] w1) := by
  refine ⟨_, rfl, ?_⟩
  have := ((Sr.start w).alloc cs t h1 h2).alloc cs2 t2 h3 h4
  rwa [show (w.alloc (.cells cs.toArray t)).heap.size = w.heap.size + 1 by simp] at this
theorem enter3 (cs : List Value) (t : TypeId) (cs2 : List Value) (t2 : TypeId) (cs3 : List Value) (t3 : TypeId) (h1 : 90 ≠ t) (h2 : ∀ c, c ∈ cs → ∀ k z, c ≠ .int k z) (h3 : 90 ≠ t2) (h4 : ∀ c, c ∈ cs2 → ∀ k z, c ≠ .int k z) (h5 : 90 ≠ t3) (h6 : ∀ c, c ∈ cs3 → ∀ k z, c ≠ .int k z) :
    ∃ w1, ((w.alloc (.cells cs.toArray t)).alloc (.cells cs2.toArray t2)).alloc (.cells cs3.toArray t3) = w1 ∧ Hid (Sr w [] [(w.heap.size + 1 + 1, cs3, t3), (w.heap.size + 1, cs2, t2), (w.heap.size, cs, t)] w1) := by
  refine ⟨_, rfl, ?_⟩
  have := (((Sr.start w).alloc cs t h1 h2).alloc cs2 t2 h3 h4).alloc cs3 t3 h5 h6
  rwa [show ((w.alloc (.cells cs.toArray t)).alloc (.cells cs2.toArray t2)).heap.size = w.heap.size + 1 + 1 by simp, show (w.alloc (.cells cs.toArray t)).heap.size = w.heap.size + 1 by simp] at this
theorem enter4 (cs : List Value) (t : TypeId) (cs2 : List Value) (t2 : TypeId) (cs3 : List Value) (t3 : TypeId) (cs4 : List Value) (t4 : TypeId) (h1 : 90 ≠ t) (h2 : ∀ c, c ∈ cs → ∀ k z, c ≠ .int k z) (h3 : 90 ≠ t2) (h4 : ∀ c, c ∈ cs2 → ∀ k z, c ≠ .int k z) (h5 : 90 ≠ t3) (h6 : ∀ c, c ∈ cs3 → ∀ k z, c ≠ .int k z) (h7 : 90 ≠ t4) (h8 : ∀ c, c ∈ cs4 → ∀ k z, c ≠ .int k z) :
    ∃ w1, (((w.alloc (.cells cs.toArray t)).alloc (.cells cs2.toArray t2)).alloc (.cells cs3.toArray t3)).alloc (.cells cs4.toArray t4) = w1 ∧ Hid (Sr w [] [(w.heap.size + 1 + 1 + 1, cs4, t4), (w.heap.size + 1 + 1, cs3, t3), (w.heap.size + 1, cs2, t2), (w.heap.size, cs, t)] w1) := by
  obtain ⟨w1, rfl, S⟩ := enter3 w cs t cs2 t2 cs3 t3 h1 h2 h3 h4 h5 h6
  refine ⟨_, rfl, ?_⟩
  have := S.out.alloc cs4 t4 h7 h8
  rwa [show (((w.alloc (.cells cs.toArray t)).alloc (.cells cs2.toArray t2)).alloc (.cells cs3.toArray t3)).heap.size = w.heap.size + 1 + 1 + 1 by simp] at this
theorem enter5 (cs : List Value) (t : TypeId) (cs2 : List Value) (t2 : TypeId) (cs3 : List Value) (t3 : TypeId) (cs4 : List Value) (t4 : TypeId) (cs5 : List Value) (t5 : TypeId) (h1 : 90 ≠ t) (h2 : ∀ c, c ∈ cs → ∀ k z, c ≠ .int k z) (h3 : 90 ≠ t2) (h4 : ∀ c, c ∈ cs2 → ∀ k z, c ≠ .int k z) (h5 : 90 ≠ t3) (h6 : ∀ c, c ∈ cs3 → ∀ k z, c ≠ .int k z) (h7 : 90 ≠ t4) (h8 : ∀ c, c ∈ cs4 → ∀ k z, c ≠ .int k z) (h9 : 90 ≠ t5) (h10 : ∀ c, c ∈ cs5 → ∀ k z, c ≠ .int k z) :
    ∃ w1, ((((w.alloc (.cells cs.toArray t)).alloc (.cells cs2.toArray t2)).alloc (.cells cs3.toArray t3)).alloc (.cells cs4.toArray t4)).alloc (.cells cs5.toArray t5) = w1 ∧ Hid (Sr w [] [(w.heap.size + 1 + 1 + 1 + 1, cs5, t5), (w.heap.size + 1 + 1 + 1, cs4, t4), (w.heap.size + 1 + 1, cs3, t3), (w.heap.size + 1, cs2, t2), (w.heap.size, cs, t)] w1) := by
  obtain ⟨w1, rfl, S⟩ := enter4 w cs t cs2 t2 cs3 t3 cs4 t4 h1 h2 h3 h4 h5 h6 h7 h8
  refine ⟨_, rfl, ?_⟩
  have := S.out.alloc cs5 t5 h9 h10
  rwa [show ((((w.alloc (.cells cs.toArray t)).alloc (.cells cs2.toArray t2)).alloc (.cells cs3.toArray t3)).alloc (.cells cs4.toArray t4)).heap.size = w.heap.size + 1 + 1 + 1 + 1 by simp] at this
end
theorem Sr.at {w W : World} {L : List (World → Prop)} {B : List (Nat × List Value × TypeId)} (h : Sr w L B W) (n : Nat) {g : Nat} {cs : List Value} {t : TypeId} (hn : B[n]? = some (g, cs, t)) : Blk W g cs t := (h.2.1 _ (List.mem_of_getElem? hn)).1
/-- A box more, that somebody else made. -/
theorem Sr.add {w W : World} {L : List (World → Prop)} {B : List (Nat × List Value × TypeId)} {g : Nat} {cs : List Value} {t : TypeId} (h : Sr w L B W) (h1 : Blk W g cs t) (h2 : w.heap.size ≤ g) (h3 : 90 ≠ t) (h4 : ∀ c, c ∈ cs → ∀ k z, c ≠ .int k z) (h5 : ∀ q, q ∈ B → q.1 ≠ g) : Sr w L ((g, cs, t) :: B) W :=
  ⟨h.1, fun b hb => by
    rcases List.mem_cons.1 hb with rfl | hb
    · exact ⟨h1, h2, h3, h4⟩
    · exact h.2.1 b hb, List.pairwise_cons.2 ⟨fun q hq => (h5 q hq).symm, h.2.2.1⟩, h.2.2.2⟩
/-- A store into a box of three cells. -/
theorem Sr.set3 {w W : World} {L : List (World → Prop)} {B B' : List (Nat × List Value × TypeId)} {g : Nat} {x y z u v s : Value} {t : TypeId} (h : Sr w L B W) (n : Nat) (hn : B[n]? = some (g, [x, y, z], t)) (hu : ∀ k z, u ≠ .int k z) (hv : ∀ k z, v ≠ .int k z) (hs : ∀ k z, s ≠ .int k z) (hB : B' = B.set n (g, [u, v, s], t)) :
    Sr w L B' (((W.setCell ⟨g, 0, none⟩ u).setCell ⟨g, 1, none⟩ v).setCell ⟨g, 2, none⟩ s) := by
  have hl := (List.getElem?_eq_some_iff.1 hn).1
  have h1 := h.set n hn (i := 0) (u := u) (by simp) hu rfl
  have h2 := h1.set n (by rw [List.getElem?_set_self hl]) (i := 1) (u := v) (by simp) hv rfl
  have h3 := h2.set n (by rw [List.getElem?_set_self (by simpa using hl)]) (i := 2) (u := s) (by simp) hs rfl
  simp only [List.set_set, List.set_cons_zero, List.set_cons_succ] at h3
  rw [hB]
  exact h3
theorem Sr.fact {w W : World} {L : List (World → Prop)} {B : List (Nat × List Value × TypeId)} (h : Sr w L B W) (n : Nat) {P : World → Prop} (hn : L[n]? = some P) : P W := h.get (List.mem_of_getElem? hn)
end Go.Proofs.YthfjbpbgnoonpaaGreatDoor
