/- The state of a walk of layer 7: facts about new bytes, blocks known whole. cut. -/
import Derived.Test.YtamkegnnlbefdabCoD
import Derived.Test.YtamkegnnlbefdabShelf
namespace Go.Proofs.Ytamkegnnlbefdab
open Go.RowKit

/-- Blocks of bytes are as they were. -/
def K8 (W W' : World) : Prop := W.heap.size ≤ W'.heap.size ∧ ∀ (k : Nat) (cs : Array Value) (fz : Nat × Nat), W.heap[k]? = some (Obj.cells cs u8T fz) → W'.heap[k]? = some (Obj.cells cs u8T fz)
theorem heap_lt {W : World} {k : Nat} {o : Obj} (h : W.heap[k]? = some o) : k < W.heap.size := (Array.getElem?_eq_some_iff.1 h).1
theorem K8.refl (W : World) : K8 W W := ⟨Nat.le_refl _, fun _ _ _ h => h⟩
theorem K8.trans {W W' W'' : World} (h : K8 W W') (h' : K8 W' W'') : K8 W W'' := ⟨Nat.le_trans h.1 h'.1, fun k cs fz e => h'.2 k cs fz (h.2 k cs fz e)⟩
theorem K8.below {W W' : World} (h : Below W.heap.size W W') : K8 W W' := ⟨h.size, fun k _cs _fz e => (h.block k (heap_lt e)).trans e⟩
theorem K8.set {W : World} {g : Nat} {cs : List Value} {t : TypeId} (h : Blk W g cs t) (ht : u8T ≠ t) {p : Addr} (hp : p.block = g) (u : Value) : K8 W (W.setCell p u) := by
  refine ⟨by simp [World.setCell], fun k cs' fz e => (Below.heap_setCell W p u k ?_).trans e⟩
  rintro rfl
  unfold Blk at h
  rw [hp, h] at e
  injection e with e
  injection e with _ e
  exact ht e.symm
theorem K8.grown {W W' : World} {v : Value} {base size n : Nat} {t : TypeId} {xs : List Value} (h : W.ownsRow base t size v n xs) (ht : u8T ≠ t) (hg : W.grownBy W' v.ownBlock) : K8 W W' := by
  refine ⟨hg.size, fun k cs fz e => (hg.block k (heap_lt e) ?_).trans e⟩
  intro hk
  obtain ⟨cur, h2⟩ := own_blk h hk.symm
  rw [h2] at e
  injection e with e
  injection e with _ e
  exact ht e.symm
/-- Bytes in a block of bytes. -/
def ByT (W : World) (v : Value) (l : List UInt8) : Prop := ∃ A c, v = .slice A l.length c ∧ l.length ≤ c ∧ c ≤ 9223372036854775807 ∧ (l = [] ∨ ∃ g cs fz, A = some ⟨g, 0, none⟩ ∧ W.heap[g]? = some (.cells cs u8T fz) ∧ ∀ i, i < l.length → cs[i]? = some (bf l i))
theorem ByT.by_ {W : World} {v : Value} {l : List UInt8} (h : ByT W v l) : By W v l := by
  obtain ⟨A, c, h1, h2, h3, h4⟩ := h
  refine ⟨A, c, h1, h2, h3, fun i hi => ?_⟩
  rcases h4 with rfl | ⟨g, cs, fz, rfl, hg, hc⟩
  · simp at hi
  · refine ⟨_, rfl, heap_lt hg, ?_⟩
    rw [row_at, cell_of_row W g i _ _ _ hg, hc i hi]
theorem ByT.keep {W W' : World} {v : Value} {l : List UInt8} (h : ByT W v l) (hk : K8 W W') : ByT W' v l := by
  obtain ⟨A, c, h1, h2, h3, h4⟩ := h
  exact ⟨A, c, h1, h2, h3, h4.imp id fun ⟨g, cs, fz, e, hg, hc⟩ => ⟨g, cs, fz, e, hk.2 _ _ _ hg, hc⟩⟩
theorem OwnB.byT {base : Nat} {W : World} {v : Value} {l : List UInt8} (h : OwnB base W v l) : ByT W v l := by
  have hb := h.by_
  obtain ⟨A, c, e, h2, h3, -⟩ := hb
  refine ⟨A, c, e, h2, h3, ?_⟩
  rcases h.2 with ⟨_, h0⟩ | ⟨g, cap, cur, h0, _, hg, _, _, _, ht⟩
  · exact .inl (List.eq_nil_of_length_eq_zero h0)
  · rw [e] at h0
    obtain ⟨rfl, _, _⟩ := Value.slice.inj h0
    refine .inr ⟨g, cur, _, rfl, hg, fun i hi => ?_⟩
    have := congrArg (fun x => x[i]?) ht
    simp only [Nat.mul_one] at this
    rw [List.getElem?_take_of_lt hi] at this
    rw [← Array.getElem?_toList, this, map_bf, vals_get _ _ _ hi]
theorem ByT.nil (W : World) : ByT W (.slice none 0 0) [] := ⟨none, 0, rfl, by simp, by omega, .inl rfl⟩
def Stb (P : World → Prop) : Prop := ∀ W W' : World, K8 W W' → P W → P W'
def Sr (w : World) (L : List (World → Prop)) (B : List (Nat × List Value × TypeId)) (W : World) : Prop :=
  (∀ P, P ∈ L → Stb P ∧ P W) ∧ (∀ b, b ∈ B → Blk W b.1 b.2.1 b.2.2) ∧ B.Pairwise (fun p q => p.1 ≠ q.1) ∧ Below w.heap.size w W
section
variable {w W W' : World} {L : List (World → Prop)} {B B' : List (Nat × List Value × TypeId)} {P : World → Prop} {g i : Nat} {cs : List Value} {t : TypeId} {u v : Value}
theorem stb_byT (v : Value) (l : List UInt8) : Stb (fun W => ByT W v l) := fun _ _ hk h => h.keep hk
theorem Sr.low (h : Sr w L B W) : Below w.heap.size w W := h.2.2.2
theorem Sr.begin (hb : Below w.heap.size w W) : Sr w [] [] W := ⟨fun P hp => by simp at hp, fun b hb => by simp at hb, .nil, hb⟩
theorem Sr.start (w : World) : Sr w [] [] w := Sr.begin (Below.refl _ _)
theorem Sr.fact (h : Sr w L B W) (n : Nat) (hn : L[n]? = some P) : P W := (h.1 P (List.mem_of_getElem? hn)).2
theorem Sr.at (h : Sr w L B W) (n : Nat) (hn : B[n]? = some (g, cs, t)) : Blk W g cs t := h.2.1 _ (List.mem_of_getElem? hn)
theorem Sr.push (h : Sr w L B W) (hs : Stb P) (hP : P W) : Sr w (P :: L) B W := ⟨fun Q hq => by
  rcases List.mem_cons.1 hq with rfl | hq
  · exact ⟨hs, hP⟩
  · exact h.1 Q hq, h.2⟩
theorem Sr.below (h : Sr w L B W) (hb : Below W.heap.size W W') : Sr w L B W' :=
  ⟨fun Q hq => ⟨(h.1 Q hq).1, (h.1 Q hq).1 _ _ (K8.below hb) (h.1 Q hq).2⟩, fun b hm => (h.2.1 b hm).step hb, h.2.2.1, h.2.2.2.trans (hb.mono h.2.2.2.size)⟩
theorem Sr.drew (h : Sr w L B W) : Sr w L B W.drew := h.below ((Below.refl W.heap.size W).drew)
theorem Sr.alloc (h : Sr w L B W) (cs : List Value) (t : TypeId) : Sr w L ((W.heap.size, cs, t) :: B) (W.alloc (.cells cs.toArray t)) := by
  obtain ⟨e1, e2, e3, e4⟩ := h.below ((Below.refl W.heap.size W).alloc (Nat.le_refl _) (.cells cs.toArray t))
  refine ⟨e1, fun b hm => ?_, List.pairwise_cons.2 ⟨fun q hq => Nat.ne_of_gt (h.2.1 q hq).lt, e3⟩, e4⟩
  rcases List.mem_cons.1 hm with rfl | hm
  · exact Blk.new W cs t
  · exact e2 b hm
theorem Sr.add (h : Sr w L B W) (hb : Blk W g cs t) (hd : ∀ q, q ∈ B → q.1 ≠ g) : Sr w L ((g, cs, t) :: B) W :=
  ⟨h.1, fun b hm => by
    rcases List.mem_cons.1 hm with rfl | hm
    · exact hb
    · exact h.2.1 b hm, List.pairwise_cons.2 ⟨fun q hq => (hd q hq).symm, h.2.2.1⟩, h.2.2.2⟩
theorem Sr.sub2 {L' : List (World → Prop)} (h : Sr w L B W) (hL : L'.Sublist L) (hB : B'.Sublist B) : Sr w L' B' W :=
  ⟨fun P hp => h.1 P (hL.subset hp), fun b hm => h.2.1 b (hB.subset hm), h.2.2.1.sublist hB, h.2.2.2⟩
/-- A store into block number n, which the call made itself and which is no block of bytes. -/
theorem Sr.set (h : Sr w L B W) (n : Nat) (hn : B[n]? = some (g, cs, t)) (hg : w.heap.size ≤ g) (ht : u8T ≠ t) (i : Nat) (u : Value) (hB : B' = B.set n (g, cs.set i u, t)) : Sr w L B' (W.setCell ⟨g, i, none⟩ u) := by
  have hk := K8.set (h.at n hn) ht (p := ⟨g, i, none⟩) rfl u
  obtain ⟨e1, e2, e3, e4⟩ := h
  obtain ⟨hn1, hn2⟩ := List.getElem?_eq_some_iff.1 hn
  have hpw := List.pairwise_iff_getElem.1 e3
  subst hB
  refine ⟨fun P hp => ⟨(e1 P hp).1, (e1 P hp).1 _ _ hk (e1 P hp).2⟩, fun b hm2 => ?_, ?_, e4.setCell hg u (p := ⟨g, i, none⟩)⟩
  · obtain ⟨j, hj, rfl⟩ := List.getElem_of_mem hm2
    simp only [List.length_set] at hj
    rw [List.getElem_set]
    by_cases hnj : n = j
    · rw [if_pos hnj]
      have := e2 _ (List.getElem_mem hn1)
      rw [hn2] at this
      exact this.set_ i u
    · rw [if_neg hnj]
      have h3 := e2 _ (List.getElem_mem hj)
      refine h3.far (p := ⟨g, i, none⟩) ?_ u
      intro he
      simp only at he
      rcases Nat.lt_or_gt_of_ne hnj with hlt | hlt
      · have := hpw n j hn1 hj hlt; rw [hn2] at this; exact this he.symm
      · have := hpw j n hj hn1 hlt; rw [hn2] at this; exact this he
  · refine List.pairwise_iff_getElem.2 fun a b ha hb' hab => ?_
    simp only [List.length_set] at ha hb'
    have key : ∀ j (hj : j < B.length), ((B.set n (g, cs.set i u, t))[j]'(by simpa using hj)).1 = (B[j]).1 := by
      intro j hj
      rw [List.getElem_set]
      split
      · rename_i he; subst he; rw [hn2]
      · rfl
    rw [key a ha, key b hb']
    exact hpw a b ha hb' hab
end
abbrev prT : TypeId := 56
abbrev rrT : TypeId := 43
/-- bytes.Clone. -/
theorem clone_any {w : World} {A : Option Addr} {n c : Nat} {l : List UInt8} (h : By w (.slice A n c) l) (hl : n ≤ 140737488355328) :
    Calls Try.prog 28 #[.slice A n c] w fun e w' => ∃ A' c', e = .returned (.slice A' n c') ∧ ByT w' (.slice A' n c') l ∧ Below w.heap.size w w' := by
  obtain ⟨e, hc, hc2⟩ := h.len
  cases A with
  | none =>
    have hn : l = [] := by
      cases l with
      | nil => rfl
      | cons y l => obtain ⟨a, e, _⟩ := h.at_ (i := 0) (by simp); cases e
    subst hn
    obtain rfl : n = 0 := e
    refine (Try.bytes_Clone_nil 0 c w).mono ?_
    rintro e w' ⟨rfl, rfl⟩
    exact ⟨none, 0, rfl, ByT.nil _, Below.refl _ _⟩
  | some a =>
    refine (Try.bytes_Clone_at a n c (l.map (fun x => (x.toNat : Int))) w (by simp [e]) hl (fun i hi => ?_)).mono ?_
    · obtain ⟨a', e1, _, e2⟩ := h.at_ (i := i) (by omega)
      injection e1 with e1
      subst e1
      rw [e2]
      simp [List.getD, show i < l.length by omega]
    · rintro e' w' ⟨v', rfl, ho, -, hb⟩
      have ho' : OwnB w.heap.size w' v' l := by
        unfold OwnB
        rw [← e]
        have e5 : (l.map (fun x => (x.toNat : Int))).map (Value.int .u8) = l.map encB := by simp [encB, Function.comp_def]
        rw [e5] at ho
        exact ho
      obtain ⟨A', c', rfl, -⟩ := ho'.form
      rw [← e] at ho' ⊢
      exact ⟨A', c', rfl, ho'.byT, hb⟩
end Go.Proofs.Ytamkegnnlbefdab
