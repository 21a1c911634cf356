/- A range over an iterator that makes memory of its own and reads, between two rounds, memory that the rounds themselves write: the iterator may lean on what the loop's own invariant says of that memory (R). After the library's laws for iterators whose memory the rounds keep. -/
import Derived.RangeFuncKeeps
import Derived.RangeFuncFrom
import Derived.RangeFuncBox
import Derived.RangeFuncNested
import Derived.WalkKit
import Derived.OwnWalkIn
import Derived.TacticsInMore
import Derived.LoopNIn
import Derived.LoopIn
namespace Go.Proofs.Ytamkegnnlbefdaa
open Go.RowKit

/-- The iterator's contract: for every invariant J that implies R and that new memory does not disturb. -/
def IteratesB {α : Type} (F : Fence) (n : Nat) (P : Program) (g : Nat) (lb : Array Value) (encs : α → Array Value) (R : List α → World → Prop) (Nx : List α → α → Prop) (S Sp : List α → Prop) (N : Nat) (w : World) : Prop :=
  ∀ (l : Nat) (J Jx : List α → World → Prop) (W : World), Below w.heap.size w W → (∀ pre W1, J pre W1 → R pre W1) → (∀ pre W1 W2, J pre W1 → Below W1.heap.size W1 W2 → J pre W2) →
    (∀ pre x W1, J pre W1 → pre.length < N → Nx pre x → YieldAt F (n - 1) P l (encs x) W1 fun e W' => (e = .returned (.bool true) ∧ J (pre ++ [x]) W') ∨ (e = .returned (.bool false) ∧ Jx (pre ++ [x]) W')) →
    J [] W →
    CallsIn F n P g (#[.func (.yield l) #[] #[]] ++ lb) W fun e W' => (∃ v, e = .returned v) ∧ ((∃ xs, S xs ∧ J xs W') ∨ (∃ pre, Sp pre ∧ Jx pre W'))

variable {F : Fence} {n : Nat} {P : Program}

theorem wpIn_iterateB {α : Type} {g : Operand} {ps : Array Tmp} {assign body : Code} {Q : Exit → Act → World → Prop} {a : Act} {w : World}
    (hro : F.round = none) (h1 : 1 ≤ n) {gf : Nat} {lb : Array Value} (hg : a.eval g = .func (.func gf) #[] lb) (hFg : F.fn gf) (eg : ∀ args w, (callFunc gf args).run P w = .ok (.enter gf args) w)
    {encs : α → Array Value} {R : List α → World → Prop} {Nx : List α → α → Prop} {S Sp : List α → Prop} {N : Nat} (hseq : IteratesB F (n - 1) P gf lb encs R Nx S Sp N w) (hps : ∀ x, (encs x).size = ps.size)
    (I : List α → World → Prop) (Ix : Code → List α → World → Prop) (hI : OwnFrom w.heap.size I) (hIx : ∀ c, OwnFrom w.heap.size (Ix c)) (hIR : ∀ pre W, I pre W → R pre W) (h0 : I [] w) (a₁ : α → Act)
    (hassign : ∀ (l : Nat) (x : α) (W : World) (K : Act → World → Prop), K (a₁ x) W →
      assign.wpIn (F.inRound l) (n - 1 - 1) P (Exit.then K (fun _ _ _ => False)) { tmps := (ps.zip (encs x)).foldl (fun t (p, v) => t.setIfInBounds p v) a.tmps, defers := [] } W)
    (hbody : ∀ (l : Nat) (pre : List α) (x : α) (W : World), I pre W → pre.length < N → Nx pre x → body.wpIn (F.inRound l) (n - 1 - 1) P (ownPost I Ix (pre ++ [x]) W) (a₁ x) W)
    (hdone : ∀ (D : Nat) (xs : List α) (W : World), w.heap.size ≤ D → S xs → I xs W → W.heap[D]? = some (.deferred (some [])) → Q .normal { a with defers := { target := .collected D, args := #[] } :: a.defers } W)
    (hstop : ∀ (D : Nat) (c : Code) (pre : List α) (W : World), w.heap.size ≤ D → Sp pre → Ix c pre W → W.heap[D]? = some (.deferred (some [])) → c.wpIn F n P Q { a with defers := { target := .collected D, args := #[] } :: a.defers } W) :
    (Code.rangeFunc g ps assign body).wpIn F n P Q a w := by
  refine wpIn_rangeFunc fun fn hfn => ?_
  rw [hro]
  -- the loop's record, by its state
  let L : LoopState → Option Code → Loop := fun st pe => { state := st, pending := pe, fn, tmps := a.tmps, params := ps, assign, body, defers := w.heap.size }
  obtain ⟨L, hL⟩ : ∃ L', L' = L := ⟨_, rfl⟩
  obtain ⟨V, hV⟩ : ∃ V, (w.alloc (.deferred (some []))).alloc (.loop (L .ready none)) = V := ⟨_, rfl⟩
  have vl : V.heap[w.heap.size + 1]? = some (.loop (L .ready none)) := by
    subst hV
    simpa using World.alloc_heap_new (w.alloc (.deferred (some []))) (.loop (L .ready none))
  have vd : V.heap[w.heap.size]? = some (.deferred (some [])) := by
    subst hV
    exact (Below.heap_alloc _ _ _ (by simp)).trans (World.alloc_heap_new w _)
  have vi : I [] V := by
    subst hV
    exact hI.alloc _ (hI.alloc _ h0)
  have vb : Below w.heap.size w V := by
    subst hV
    exact ((Below.refl _ w).alloc (Nat.le_refl _) _).alloc (by simp) _
  refine ⟨w.heap.size + 1, [{ target := .collected w.heap.size, args := #[] }], V, { target := .fn (.func gf) lb, args := #[.func (.yield (w.heap.size + 1)) #[] #[]] }, V, gf,
    #[.func (.yield (w.heap.size + 1)) #[] #[]] ++ lb, V, ?_, ?_, ?_, ?_, fun _ => h1, ?_⟩
  · rw [← hV, hL]; exact run_enterLoop_outer _ _ _ _ _
  · simp only [resolve, hg]; simp [go_sem]
  · intro f' hf'
    simp [Target.leads] at hf'
    subst hf'
    exact hFg
  · simp [invoke, go_sem, eg]
  refine (hseq (w.heap.size + 1) (fun pre W => I pre W ∧ W.heap[w.heap.size + 1]? = some (.loop (L .ready none)) ∧ W.heap[w.heap.size]? = some (.deferred (some [])))
    (fun pre W => ∃ c, Ix c pre W ∧ W.heap[w.heap.size + 1]? = some (.loop (L .done (some c))) ∧ W.heap[w.heap.size]? = some (.deferred (some [])))
    V vb (fun pre W h => hIR pre W h.1) (fun pre W1 W2 h hb => ⟨hI _ _ _ none h.1 ⟨hb.os, hb.tape, hb.output, hb.size, fun k hk _ => hb.block k hk⟩ (fun r e => by cases e), (hb.block _ (Array.getElem?_eq_some_iff.1 h.2.1).1).trans h.2.1, (hb.block _ (Array.getElem?_eq_some_iff.1 h.2.2).1).trans h.2.2⟩) ?_ ⟨vi, vl, vd⟩).mono ?_
  · rintro pre x W ⟨wi, wl, wd⟩ hlen hnx
    have hlt : w.heap.size + 1 < W.heap.size := (Array.getElem?_eq_some_iff.1 wl).1
    have hy := run_yield (P := P) (args := encs x) wl (by rw [hL]; exact hps x)
    rw [hL] at hy
    refine ⟨fn, _, assign, body, hy, roundIn_of_wpIn hfn (hassign _ x W _ ⟨_, run_beginRound wl (by rw [hL]), ?_⟩)⟩
    obtain ⟨U, hU⟩ : ∃ U, W.putObj (w.heap.size + 1) (.loop { L .ready none with state := .busy }) = U := ⟨_, rfl⟩
    rw [hU]
    have ul : U.heap[w.heap.size + 1]? = some (.loop { L .ready none with state := .busy }) := by subst hU; exact World.putObj_heap_same hlt
    have ud : U.heap[w.heap.size]? = some (.deferred (some [])) := by subst hU; exact (World.putObj_heap_other (by omega)).trans wd
    have ui : I pre U := by subst hU; exact hI.putObj _ wi (by omega) wl rfl
    refine wpIn_mono (hbody _ pre x U ui hlen hnx) ?_
    -- the round's end: the record says whether the loop goes on
    have close : ∀ (jump : Option Code) (X : World), KeepsOthers U X →
        (Instr.endRound (w.heap.size + 1) jump).run P X = .ok (.bool jump.isNone) (X.putObj (w.heap.size + 1) (.loop (L (if jump.isNone then .ready else .done) jump))) ∧
        X.heap[w.heap.size + 1]? = some (.loop { L .ready none with state := .busy }) ∧
        (X.putObj (w.heap.size + 1) (.loop (L (if jump.isNone then .ready else .done) jump))).heap[w.heap.size + 1]? = some (.loop (L (if jump.isNone then .ready else .done) jump)) ∧
        (X.putObj (w.heap.size + 1) (.loop (L (if jump.isNone then .ready else .done) jump))).heap[w.heap.size]? = some (.deferred (some [])) := by
      intro jump X hk
      have xl := hk.same _ _ ul rfl
      have hr := run_endRound (P := P) jump xl
      rw [hL] at hr xl ⊢
      exact ⟨hr, xl, World.putObj_heap_same (Array.getElem?_eq_some_iff.1 xl).1, (World.putObj_heap_other (by omega)).trans (hk.same _ _ ud rfl)⟩
    rintro e a3 X hp
    cases e with
    | normal =>
      obtain ⟨hk, hi⟩ := hp
      obtain ⟨hr, xl, yl, yd⟩ := close none X hk
      exact ⟨_, _, hr, .inl ⟨rfl, hI.putObj _ hi (by omega) xl rfl, yl, yd⟩⟩
    | ret =>
      obtain ⟨hk, hi⟩ := hp
      obtain ⟨hr, xl, yl, yd⟩ := close (some .ret) X hk
      exact ⟨_, _, hr, .inr ⟨rfl, .ret, (hIx _).putObj _ hi (by omega) xl rfl, yl, yd⟩⟩
    | exit id =>
      obtain ⟨hk, hi⟩ := hp
      obtain ⟨hr, xl, yl, yd⟩ := close (some (.exit id)) X hk
      exact ⟨_, _, hr, .inr ⟨rfl, .exit id, (hIx _).putObj _ hi (by omega) xl rfl, yl, yd⟩⟩
    | goto t =>
      obtain ⟨hk, hi⟩ := hp
      obtain ⟨hr, xl, yl, yd⟩ := close (some (.goto t)) X hk
      exact ⟨_, _, hr, .inr ⟨rfl, .goto t, (hIx _).putObj _ hi (by omega) xl rfl, yl, yd⟩⟩
    | panic ch => exact hp.elim
    | outgrown => exact hp.elim
  · rintro e X ⟨⟨v, rfl⟩, (⟨xs, hS, hi, xl, xd⟩ | ⟨pre, hSp, c, hi, xl, xd⟩)⟩
    · have hr := run_endLoop (P := P) xl (by rw [hL]; simp)
      rw [hL] at hr
      exact ⟨none, _, hr, hdone _ xs _ (Nat.le_refl _) hS (hI.putObj _ hi (by omega) xl rfl) ((World.putObj_heap_other (by omega)).trans xd)⟩
    · have hr := run_endLoop (P := P) xl (by rw [hL]; simp)
      rw [hL] at hr
      exact ⟨some c, _, hr, hstop _ c pre _ (Nat.le_refl _) hSp ((hIx c).putObj _ hi (by omega) xl rfl) ((World.putObj_heap_other (by omega)).trans xd)⟩

/-- The same where the loop's variable lies in a box that each round makes. -/
theorem wpIn_iterateC {α : Type} {g : Operand} {ps : Array Tmp} {assign body : Code} {Q : Exit → Act → World → Prop} {a : Act} {w : World}
    (hro : F.round = none) (h1 : 1 ≤ n) {gf : Nat} {lb : Array Value} (hg : a.eval g = .func (.func gf) #[] lb) (hFg : F.fn gf) (eg : ∀ args w, (callFunc gf args).run P w = .ok (.enter gf args) w)
    {encs : α → Array Value} {R : List α → World → Prop} {Nx : List α → α → Prop} {S Sp : List α → Prop} {N : Nat} (hseq : IteratesB F (n - 1) P gf lb encs R Nx S Sp N w) (hps : ∀ x, (encs x).size = ps.size)
    (I : List α → World → Prop) (Ix : Code → List α → World → Prop) (hI : OwnFrom w.heap.size I) (hIx : ∀ c, OwnFrom w.heap.size (Ix c)) (hIR : ∀ pre W, I pre W → R pre W) (h0 : I [] w) (J2 : List α → α → Act → World → Prop) (hJ2 : ∀ x a', OwnFrom w.heap.size (fun pre => J2 pre x a'))
    (hassign : ∀ (l : Nat) (pre : List α) (x : α) (W : World) (K : Act → World → Prop), I pre W → pre.length < N → Nx pre x → (∀ a' W', J2 pre x a' W' → Below W.heap.size W W' → K a' W') →
      assign.wpIn (F.inRound l) (n - 1 - 1) P (Exit.then K (fun _ _ _ => False)) { tmps := (ps.zip (encs x)).foldl (fun t (p, v) => t.setIfInBounds p v) a.tmps, defers := [] } W)
    (hbody : ∀ (l : Nat) (pre : List α) (x : α) (a' : Act) (W : World), J2 pre x a' W → pre.length < N → Nx pre x → body.wpIn (F.inRound l) (n - 1 - 1) P (ownPost I Ix (pre ++ [x]) W) a' W)
    (hdone : ∀ (D : Nat) (xs : List α) (W : World), w.heap.size ≤ D → S xs → I xs W → W.heap[D]? = some (.deferred (some [])) → Q .normal { a with defers := { target := .collected D, args := #[] } :: a.defers } W)
    (hstop : ∀ (D : Nat) (c : Code) (pre : List α) (W : World), w.heap.size ≤ D → Sp pre → Ix c pre W → W.heap[D]? = some (.deferred (some [])) → c.wpIn F n P Q { a with defers := { target := .collected D, args := #[] } :: a.defers } W) :
    (Code.rangeFunc g ps assign body).wpIn F n P Q a w := by
  refine wpIn_rangeFunc fun fn hfn => ?_
  rw [hro]
  -- the loop's record, by its state
  let L : LoopState → Option Code → Loop := fun st pe => { state := st, pending := pe, fn, tmps := a.tmps, params := ps, assign, body, defers := w.heap.size }
  obtain ⟨L, hL⟩ : ∃ L', L' = L := ⟨_, rfl⟩
  obtain ⟨V, hV⟩ : ∃ V, (w.alloc (.deferred (some []))).alloc (.loop (L .ready none)) = V := ⟨_, rfl⟩
  have vl : V.heap[w.heap.size + 1]? = some (.loop (L .ready none)) := by
    subst hV
    simpa using World.alloc_heap_new (w.alloc (.deferred (some []))) (.loop (L .ready none))
  have vd : V.heap[w.heap.size]? = some (.deferred (some [])) := by
    subst hV
    exact (Below.heap_alloc _ _ _ (by simp)).trans (World.alloc_heap_new w _)
  have vi : I [] V := by
    subst hV
    exact hI.alloc _ (hI.alloc _ h0)
  have vb : Below w.heap.size w V := by
    subst hV
    exact ((Below.refl _ w).alloc (Nat.le_refl _) _).alloc (by simp) _
  refine ⟨w.heap.size + 1, [{ target := .collected w.heap.size, args := #[] }], V, { target := .fn (.func gf) lb, args := #[.func (.yield (w.heap.size + 1)) #[] #[]] }, V, gf,
    #[.func (.yield (w.heap.size + 1)) #[] #[]] ++ lb, V, ?_, ?_, ?_, ?_, fun _ => h1, ?_⟩
  · rw [← hV, hL]; exact run_enterLoop_outer _ _ _ _ _
  · simp only [resolve, hg]; simp [go_sem]
  · intro f' hf'
    simp [Target.leads] at hf'
    subst hf'
    exact hFg
  · simp [invoke, go_sem, eg]
  refine (hseq (w.heap.size + 1) (fun pre W => I pre W ∧ W.heap[w.heap.size + 1]? = some (.loop (L .ready none)) ∧ W.heap[w.heap.size]? = some (.deferred (some [])))
    (fun pre W => ∃ c, Ix c pre W ∧ W.heap[w.heap.size + 1]? = some (.loop (L .done (some c))) ∧ W.heap[w.heap.size]? = some (.deferred (some [])))
    V vb (fun pre W h => hIR pre W h.1) (fun pre W1 W2 h hb => ⟨hI _ _ _ none h.1 ⟨hb.os, hb.tape, hb.output, hb.size, fun k hk _ => hb.block k hk⟩ (fun r e => by cases e), (hb.block _ (Array.getElem?_eq_some_iff.1 h.2.1).1).trans h.2.1, (hb.block _ (Array.getElem?_eq_some_iff.1 h.2.2).1).trans h.2.2⟩) ?_ ⟨vi, vl, vd⟩).mono ?_
  · rintro pre x W ⟨wi, wl, wd⟩ hlen hnx
    have hlt : w.heap.size + 1 < W.heap.size := (Array.getElem?_eq_some_iff.1 wl).1
    have hy := run_yield (P := P) (args := encs x) wl (by rw [hL]; exact hps x)
    rw [hL] at hy
    refine ⟨fn, _, assign, body, hy, roundIn_of_wpIn hfn (hassign _ pre x W _ wi hlen hnx fun a' W9 hj9 hb9 => ?_)⟩
    replace wl := (hb9.block _ (by omega)).trans wl
    replace wd := (hb9.block _ (by omega)).trans wd
    replace hlt := Nat.lt_of_lt_of_le hlt hb9.size
    clear wi hy hb9
    generalize W9 = W at *
    refine ⟨_, run_beginRound wl (by rw [hL]), ?_⟩
    obtain ⟨U, hU⟩ : ∃ U, W.putObj (w.heap.size + 1) (.loop { L .ready none with state := .busy }) = U := ⟨_, rfl⟩
    rw [hU]
    have ul : U.heap[w.heap.size + 1]? = some (.loop { L .ready none with state := .busy }) := by subst hU; exact World.putObj_heap_same hlt
    have ud : U.heap[w.heap.size]? = some (.deferred (some [])) := by subst hU; exact (World.putObj_heap_other (by omega)).trans wd
    have ui : J2 pre x a' U := by subst hU; exact (hJ2 x a').putObj _ hj9 (by omega) wl rfl
    refine wpIn_mono (hbody _ pre x a' U ui hlen hnx) ?_
    -- the round's end: the record says whether the loop goes on
    have close : ∀ (jump : Option Code) (X : World), KeepsOthers U X →
        (Instr.endRound (w.heap.size + 1) jump).run P X = .ok (.bool jump.isNone) (X.putObj (w.heap.size + 1) (.loop (L (if jump.isNone then .ready else .done) jump))) ∧
        X.heap[w.heap.size + 1]? = some (.loop { L .ready none with state := .busy }) ∧
        (X.putObj (w.heap.size + 1) (.loop (L (if jump.isNone then .ready else .done) jump))).heap[w.heap.size + 1]? = some (.loop (L (if jump.isNone then .ready else .done) jump)) ∧
        (X.putObj (w.heap.size + 1) (.loop (L (if jump.isNone then .ready else .done) jump))).heap[w.heap.size]? = some (.deferred (some [])) := by
      intro jump X hk
      have xl := hk.same _ _ ul rfl
      have hr := run_endRound (P := P) jump xl
      rw [hL] at hr xl ⊢
      exact ⟨hr, xl, World.putObj_heap_same (Array.getElem?_eq_some_iff.1 xl).1, (World.putObj_heap_other (by omega)).trans (hk.same _ _ ud rfl)⟩
    rintro e a3 X hp
    cases e with
    | normal =>
      obtain ⟨hk, hi⟩ := hp
      obtain ⟨hr, xl, yl, yd⟩ := close none X hk
      exact ⟨_, _, hr, .inl ⟨rfl, hI.putObj _ hi (by omega) xl rfl, yl, yd⟩⟩
    | ret =>
      obtain ⟨hk, hi⟩ := hp
      obtain ⟨hr, xl, yl, yd⟩ := close (some .ret) X hk
      exact ⟨_, _, hr, .inr ⟨rfl, .ret, (hIx _).putObj _ hi (by omega) xl rfl, yl, yd⟩⟩
    | exit id =>
      obtain ⟨hk, hi⟩ := hp
      obtain ⟨hr, xl, yl, yd⟩ := close (some (.exit id)) X hk
      exact ⟨_, _, hr, .inr ⟨rfl, .exit id, (hIx _).putObj _ hi (by omega) xl rfl, yl, yd⟩⟩
    | goto t =>
      obtain ⟨hk, hi⟩ := hp
      obtain ⟨hr, xl, yl, yd⟩ := close (some (.goto t)) X hk
      exact ⟨_, _, hr, .inr ⟨rfl, .goto t, (hIx _).putObj _ hi (by omega) xl rfl, yl, yd⟩⟩
    | panic ch => exact hp.elim
    | outgrown => exact hp.elim
  · rintro e X ⟨⟨v, rfl⟩, (⟨xs, hS, hi, xl, xd⟩ | ⟨pre, hSp, c, hi, xl, xd⟩)⟩
    · have hr := run_endLoop (P := P) xl (by rw [hL]; simp)
      rw [hL] at hr
      exact ⟨none, _, hr, hdone _ xs _ (Nat.le_refl _) hS (hI.putObj _ hi (by omega) xl rfl) ((World.putObj_heap_other (by omega)).trans xd)⟩
    · have hr := run_endLoop (P := P) xl (by rw [hL]; simp)
      rw [hL] at hr
      exact ⟨some c, _, hr, hstop _ c pre _ (Nat.le_refl _) hSp ((hIx c).putObj _ hi (by omega) xl rfl) ((World.putObj_heap_other (by omega)).trans xd)⟩

/-- What keeps every block of cells, and whatever lies below B, keeps I. -/
theorem ownFrom_of {β : Type} {B : Nat} {I : β → World → Prop}
    (h : ∀ s W W', I s W → (∀ (k : Nat) (o : Obj), W.heap[k]? = some o → o.isCells = true → W'.heap[k]? = some o) → (∀ k, k < B → k < W.heap.size → W'.heap[k]? = W.heap[k]?) → W.heap.size ≤ W'.heap.size → W'.os = W.os → W'.tape = W.tape → W'.output = W.output → I s W') : OwnFrom B I := by
  intro s W W' row hs hg hr
  refine h s W W' hs ?_ ?_ hg.size hg.os hg.tape hg.output
  · intro k o hk ho
    refine (hg.block k (Array.getElem?_eq_some_iff.1 hk).1 ?_).trans hk
    intro e
    obtain ⟨_, o', h1, h2⟩ := hr k e.symm
    rw [hk] at h1
    cases h1
    rw [ho] at h2
    cases h2
  · intro k hk hks
    refine hg.block k hks ?_
    intro e
    have := (hr k e.symm).1
    omega
end Go.Proofs.Ytamkegnnlbefdaa
