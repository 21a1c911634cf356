/- Decimal texts: what strconv.Itoa gives; a number's text out of the texts of its parts of nine digits. A range over an iterator that reads, between two rounds, memory that the rounds themselves write: the iterator may lean on what the loop's own invariant says of that memory (R). After the library's laws for iterators whose memory the rounds keep. slices.Backward over []uint32, as an iterator. Contract of package nat's divideByDigit. -/
import Derived.Test.YthfjbpbgnoonpaaGreatDoorNA
import Derived.Lib.ItoaNum
import Derived.Lib.Repeat
import Derived.RangeFuncKeeps
import Derived.RangeFuncFrom
import Derived.RangeFuncBox
import Derived.RangeFuncNested
import Derived.WalkKit
import Derived.OwnWalkIn
import Derived.TacticsInMore
import Derived.LoopNIn
import Derived.LoopIn
import Derived.Test.YthfjbpbgnoonpaaGreatDoorProg
import Derived.RangeFuncBound
import Derived.RangeFuncCalls
import Derived.RangeFuncLeaves
import Derived.Shelf.Abstract
import Derived.Shelf.RegionOpen
import Derived.RegionTactic
import Derived.Deep.RegionWith
import Derived.Maps.AppendAt
import Derived.Outline
namespace Go.Proofs.YthfjbpbgnoonpaaGreatDoor

theorem txt_cons (d : Nat) (ds : List Nat) : txt (d :: ds) = txt ds ++ [chr d] := by simp [txt]
theorem txt_append (a b : List Nat) : txt (a ++ b) = txt b ++ txt a := by simp [txt]
theorem dec_small (u : Nat) (h : u < 10) : dec u = [chr u] := by
  unfold dec
  by_cases h0 : u = 0
  · subst h0; rfl
  · rw [if_neg h0, digs_pos 10 u (by omega) (by omega), Nat.mod_eq_of_lt h, Nat.div_eq_of_lt h]; rfl
theorem dec_big (u : Nat) (h : ¬ u < 10) : dec u = dec (u / 10) ++ [chr (u % 10)] := by
  unfold dec
  rw [if_neg (by omega), if_neg (by omega), digs_pos 10 u (by omega) (by omega), txt_cons]
theorem dec_lib (u : Nat) : Lib.decDigits u = dec u := by
  induction u using Nat.strongRecOn with
  | ind u ih =>
    rw [Lib.decDigits]
    split
    · rename_i h; rw [dec_small u h]; rfl
    · rename_i h; rw [dec_big u h, ih (u / 10) (by omega)]; rfl
theorem itoa_dec (u : Nat) : Lib.itoa (u : Int) = dec u := by
  unfold Lib.itoa
  rw [if_neg (by omega), Int.toNat_natCast, dec_lib]

/-- The lowest n decimal digits, the lowest one first. -/
def padD : Nat → Nat → List Nat
  | 0, _ => []
  | n + 1, r => r % 10 :: padD n (r / 10)
theorem padD_len (n r : Nat) : (padD n r).length = n := by
  induction n generalizing r with
  | zero => rfl
  | succ n ih => simp [padD, ih]
theorem digs_split (n : Nat) : ∀ (k r : Nat), 0 < k → r < 10 ^ n → digs 10 (k * 10 ^ n + r) = padD n r ++ digs 10 k := by
  induction n with
  | zero => intro k r hk hr; simp at hr; subst hr; simp [padD]
  | succ n ih =>
    intro k r hk hr
    have hp : 0 < k * 10 ^ (n + 1) := Nat.mul_pos hk (Nat.pow_pos (by omega))
    rw [digs_pos 10 _ (by omega) (by omega)]
    have e1 : (k * 10 ^ (n + 1) + r) % 10 = r % 10 := by rw [Nat.pow_succ, ← Nat.mul_assoc]; omega
    have e2 : (k * 10 ^ (n + 1) + r) / 10 = k * 10 ^ n + r / 10 := by rw [Nat.pow_succ, ← Nat.mul_assoc]; omega
    rw [e1, e2, ih k (r / 10) hk (by rw [Nat.pow_succ] at hr; omega)]
    rfl
theorem padD_digs (n : Nat) : ∀ r, r < 10 ^ n → padD n r = digs 10 r ++ List.replicate (n - (digs 10 r).length) 0 := by
  induction n with
  | zero => intro r hr; simp at hr; subst hr; rfl
  | succ n ih =>
    intro r hr
    by_cases h0 : r = 0
    · subst h0
      have := ih 0 (Nat.pow_pos (by omega))
      simp only [padD, digs_zero, List.nil_append, List.length_nil, Nat.sub_zero] at *
      rw [Nat.zero_div, this]
      rfl
    · rw [digs_pos 10 r (by omega) (by omega)]
      simp only [padD, List.cons_append, List.length_cons]
      rw [ih (r / 10) (by rw [Nat.pow_succ] at hr; omega), show n + 1 - ((digs 10 (r / 10)).length + 1) = n - (digs 10 (r / 10)).length by omega]
/-- The text of a part, with zeros ahead up to nine letters. -/
def pad9 (r : Nat) : List UInt8 := List.replicate (9 - (dec r).length) 48 ++ dec r
theorem txt_zeros (n : Nat) : txt (List.replicate n 0) = List.replicate n 48 := by
  simp [txt, List.map_replicate]; exact .inr rfl
theorem dec_len (r : Nat) (n : Nat) (hn : 0 < n) (h : r < 10 ^ n) : (dec r).length ≤ n ∧ 0 < (dec r).length := by
  unfold dec
  split
  · simp; omega
  · rename_i h0
    rw [txt_len]
    refine ⟨digs_len (by omega) h, ?_⟩
    rw [digs_pos 10 r (by omega) (by omega)]; simp
theorem pad9_txt (r : Nat) (h : r < 1000000000) : pad9 r = txt (padD 9 r) := by
  unfold pad9
  by_cases h0 : r = 0
  · subst h0; rfl
  · rw [padD_digs 9 r h, txt_append, txt_zeros]
    unfold dec
    rw [if_neg h0, txt_len]
theorem dec_split (k r : Nat) (hk : 0 < k) (hr : r < 1000000000) : dec (k * 1000000000 + r) = dec k ++ pad9 r := by
  rw [pad9_txt r hr]
  unfold dec
  rw [if_neg (by omega), if_neg (by omega), show (1000000000 : Nat) = 10 ^ 9 from rfl, digs_split 9 k r hk hr, txt_append]
theorem repeat_zero (n : Nat) : Lib.repeatL [48] n = List.replicate n 48 := by
  induction n with
  | zero => rfl
  | succ n ih => simp [Lib.repeatL, ih, List.replicate_succ]

/-- What Parse reads: the text of a number spells it. -/
theorem numL_txt (ds : List Nat) (h : ∀ d ∈ ds, d < 10) : numL (txt ds) = val 10 ds := by
  induction ds with
  | nil => rfl
  | cons d ds ih =>
    have hd : d < 10 := h d (by simp)
    have e : (chr d).toNat = 48 + d := by unfold chr; rw [UInt8.toNat_ofNat']; omega
    rw [txt_cons, numL_snoc, ih fun x hx => h x (by simp [hx]), e]
    simp only [val]
    omega
theorem numL_dec (k : Nat) : numL (dec k) = k := by
  unfold dec
  split
  · rename_i h; subst h; rfl
  · rw [numL_txt _ (digs_lt (by omega) k), val_digs (by omega)]
theorem txt_dig (ds : List Nat) (h : ∀ d ∈ ds, d < 10) : DigL (txt ds) := by
  intro c hc
  simp only [txt, List.mem_reverse, List.mem_map] at hc
  obtain ⟨d, hd, rfl⟩ := hc
  have := h d hd
  have e : (chr d).toNat = 48 + d := by unfold chr; rw [UInt8.toNat_ofNat']; omega
  omega
theorem dec_isText (k : Nat) : isTextB ⟨(dec k).toArray⟩ := by
  have hs : (⟨(dec k).toArray⟩ : ByteArray).size = (dec k).length := by simp [ByteArray.size]
  have hp : 0 < (dec k).length := (dec_len k (k + 1) (by omega) (Nat.lt_of_lt_of_le (Nat.lt_succ_self k) (Nat.le_of_lt (Nat.lt_pow_self (by omega))))).2
  refine ⟨by omega, ?_, ?_⟩
  · intro h h48
    by_cases h0 : k = 0
    · subst h0; exact Nat.le_refl _
    · exfalso
      have hd : dec k = txt (digs 10 k) := by unfold dec; rw [if_neg h0]
      have hne : digs 10 k ≠ [] := by rw [digs_pos 10 k (by omega) (by omega)]; simp
      have hl := (digs_canon (b := 10) (by omega) k).1.2 hne
      have hlt := digs_lt (b := 10) (by omega) k _ (List.getLast_mem hne)
      have e : (dec k)[0]? = some (chr ((digs 10 k).getLast hne)) := by
        rw [hd]
        simp only [txt]
        rw [← List.map_reverse, List.getElem?_map]
        have : (digs 10 k).reverse[0]? = some ((digs 10 k).getLast hne) := by
          rw [List.getElem?_reverse (by rw [hd, txt_len] at hp; exact hp), List.getLast_eq_getElem]
          simp
        rw [this]; rfl
      have e3 : (dec k)[0] = chr ((digs 10 k).getLast hne) := by
        rw [List.getElem?_eq_getElem hp] at e
        exact Option.some.inj e
      have h49 : (dec k)[0].toNat = 48 := h48
      rw [e3] at h49
      unfold chr at h49
      rw [UInt8.toNat_ofNat'] at h49
      omega
  · refine DigL.digB (s := ⟨(dec k).toArray⟩) ?_ _
    show DigL (dec k)
    unfold dec
    split
    · intro c hc; simp at hc; subst hc; decide
    · exact txt_dig _ (digs_lt (by omega) k)
end Go.Proofs.YthfjbpbgnoonpaaGreatDoor

namespace Go.Proofs.YthfjbpbgnoonpaaGreatDoor
open Go.RowKit

/-- The iterator's contract: for every invariant J that implies R. -/
def Iterates {α : Type} (F : Fence) (n : Nat) (P : Program) (g : Nat) (lb : Array Value) (encs : α → Array Value) (R : List α → World → Prop) (Nx : List α → α → Prop) (S Sp : List α → Prop) (N : Nat) (w : World) : Prop :=
  ∀ (l : Nat) (J Jx : List α → World → Prop) (W : World), Below w.heap.size w W → (∀ pre W1, J pre W1 → R pre W1) →
    (∀ pre x W1, J pre W1 → pre.length < N → Nx pre x → YieldAt F (n - 1) P l (encs x) W1 fun e W' => (e = .returned (.bool true) ∧ J (pre ++ [x]) W') ∨ (e = .returned (.bool false) ∧ Jx (pre ++ [x]) W')) →
    J [] W →
    CallsIn F n P g (#[.func (.yield l) #[] #[]] ++ lb) W fun e W' => (∃ v, e = .returned v) ∧ ((∃ xs, S xs ∧ J xs W') ∨ (∃ pre, Sp pre ∧ Jx pre W'))

variable {F : Fence} {n : Nat} {P : Program}

theorem wpIn_iterate {α : Type} {g : Operand} {ps : Array Tmp} {assign body : Code} {Q : Exit → Act → World → Prop} {a : Act} {w : World}
    (hro : F.round = none) (h1 : 1 ≤ n) {gf : Nat} {lb : Array Value} (hg : a.eval g = .func (.func gf) #[] lb) (hFg : F.fn gf) (eg : ∀ args w, (callFunc gf args).run P w = .ok (.enter gf args) w)
    {encs : α → Array Value} {R : List α → World → Prop} {Nx : List α → α → Prop} {S Sp : List α → Prop} {N : Nat} (hseq : Iterates F (n - 1) P gf lb encs R Nx S Sp N w) (hps : ∀ x, (encs x).size = ps.size)
    (I : List α → World → Prop) (Ix : Code → List α → World → Prop) (hI : OwnFrom w.heap.size I) (hIx : ∀ c, OwnFrom w.heap.size (Ix c)) (hIR : ∀ pre W, I pre W → R pre W) (h0 : I [] w) (a₁ : α → Act)
    (hassign : ∀ (l : Nat) (x : α) (W : World) (K : Act → World → Prop), K (a₁ x) W →
      assign.wpIn (F.inRound l) (n - 1 - 1) P (Exit.then K (fun _ _ _ => False)) { tmps := (ps.zip (encs x)).foldl (fun t (p, v) => t.setIfInBounds p v) a.tmps, defers := [] } W)
    (hbody : ∀ (l : Nat) (pre : List α) (x : α) (W : World), I pre W → pre.length < N → Nx pre x → body.wpIn (F.inRound l) (n - 1 - 1) P (ownPost I Ix (pre ++ [x]) W) (a₁ x) W)
    (hdone : ∀ (D : Nat) (xs : List α) (W : World), w.heap.size ≤ D → S xs → I xs W → W.heap[D]? = some (.deferred (some [])) → Q .normal { a with defers := { target := .collected D, args := #[] } :: a.defers } W)
    (hstop : ∀ (D : Nat) (c : Code) (pre : List α) (W : World), w.heap.size ≤ D → Sp pre → Ix c pre W → W.heap[D]? = some (.deferred (some [])) → c.wpIn F n P Q { a with defers := { target := .collected D, args := #[] } :: a.defers } W) :
    (Code.rangeFunc g ps assign body).wpIn F n P Q a w := by
  refine wpIn_rangeFunc fun fn hfn => ?_
  rw [hro]
  -- the loop's record, by its state
  let L : LoopState → Option Code → Loop := fun st pe => { state := st, pending := pe, fn, tmps := a.tmps, params := ps, assign, body, defers := w.heap.size }
  obtain ⟨L, hL⟩ : ∃ L', L' = L := ⟨_, rfl⟩
  obtain ⟨V, hV⟩ : ∃ V, (w.alloc (.deferred (some []))).alloc (.loop (L .ready none)) = V := ⟨_, rfl⟩
  have vl : V.heap[w.heap.size + 1]? = some (.loop (L .ready none)) := by
    subst hV
    simpa using World.alloc_heap_new (w.alloc (.deferred (some []))) (.loop (L .ready none))
  have vd : V.heap[w.heap.size]? = some (.deferred (some [])) := by
    subst hV
    exact (Below.heap_alloc _ _ _ (by simp)).trans (World.alloc_heap_new w _)
  have vi : I [] V := by
    subst hV
    exact hI.alloc _ (hI.alloc _ h0)
  have vb : Below w.heap.size w V := by
    subst hV
    exact ((Below.refl _ w).alloc (Nat.le_refl _) _).alloc (by simp) _
  refine ⟨w.heap.size + 1, [{ target := .collected w.heap.size, args := #[] }], V, { target := .fn (.func gf) lb, args := #[.func (.yield (w.heap.size + 1)) #[] #[]] }, V, gf,
    #[.func (.yield (w.heap.size + 1)) #[] #[]] ++ lb, V, ?_, ?_, ?_, ?_, fun _ => h1, ?_⟩
  · rw [← hV, hL]; exact run_enterLoop_outer _ _ _ _ _
  · simp only [resolve, hg]; simp [go_sem]
  · intro f' hf'
    simp [Target.leads] at hf'
    subst hf'
    exact hFg
  · simp [invoke, go_sem, eg]
  refine (hseq (w.heap.size + 1) (fun pre W => I pre W ∧ W.heap[w.heap.size + 1]? = some (.loop (L .ready none)) ∧ W.heap[w.heap.size]? = some (.deferred (some [])))
    (fun pre W => ∃ c, Ix c pre W ∧ W.heap[w.heap.size + 1]? = some (.loop (L .done (some c))) ∧ W.heap[w.heap.size]? = some (.deferred (some [])))
    V vb (fun pre W h => hIR pre W h.1) ?_ ⟨vi, vl, vd⟩).mono ?_
  · rintro pre x W ⟨wi, wl, wd⟩ hlen hnx
    have hlt : w.heap.size + 1 < W.heap.size := (Array.getElem?_eq_some_iff.1 wl).1
    have hy := run_yield (P := P) (args := encs x) wl (by rw [hL]; exact hps x)
    rw [hL] at hy
    refine ⟨fn, _, assign, body, hy, roundIn_of_wpIn hfn (hassign _ x W _ ⟨_, run_beginRound wl (by rw [hL]), ?_⟩)⟩
    obtain ⟨U, hU⟩ : ∃ U, W.putObj (w.heap.size + 1) (.loop { L .ready none with state := .busy }) = U := ⟨_, rfl⟩
    rw [hU]
    have ul : U.heap[w.heap.size + 1]? = some (.loop { L .ready none with state := .busy }) := by subst hU; exact World.putObj_heap_same hlt
    have ud : U.heap[w.heap.size]? = some (.deferred (some [])) := by subst hU; exact (World.putObj_heap_other (by omega)).trans wd
    have ui : I pre U := by subst hU; exact hI.putObj _ wi (by omega) wl rfl
    refine wpIn_mono (hbody _ pre x U ui hlen hnx) ?_
    -- the round's end: the record says whether the loop goes on
    have close : ∀ (jump : Option Code) (X : World), KeepsOthers U X →
        (Instr.endRound (w.heap.size + 1) jump).run P X = .ok (.bool jump.isNone) (X.putObj (w.heap.size + 1) (.loop (L (if jump.isNone then .ready else .done) jump))) ∧
        X.heap[w.heap.size + 1]? = some (.loop { L .ready none with state := .busy }) ∧
        (X.putObj (w.heap.size + 1) (.loop (L (if jump.isNone then .ready else .done) jump))).heap[w.heap.size + 1]? = some (.loop (L (if jump.isNone then .ready else .done) jump)) ∧
        (X.putObj (w.heap.size + 1) (.loop (L (if jump.isNone then .ready else .done) jump))).heap[w.heap.size]? = some (.deferred (some [])) := by
      intro jump X hk
      have xl := hk.same _ _ ul rfl
      have hr := run_endRound (P := P) jump xl
      rw [hL] at hr xl ⊢
      exact ⟨hr, xl, World.putObj_heap_same (Array.getElem?_eq_some_iff.1 xl).1, (World.putObj_heap_other (by omega)).trans (hk.same _ _ ud rfl)⟩
    rintro e a3 X hp
    cases e with
    | normal =>
      obtain ⟨hk, hi⟩ := hp
      obtain ⟨hr, xl, yl, yd⟩ := close none X hk
      exact ⟨_, _, hr, .inl ⟨rfl, hI.putObj _ hi (by omega) xl rfl, yl, yd⟩⟩
    | ret =>
      obtain ⟨hk, hi⟩ := hp
      obtain ⟨hr, xl, yl, yd⟩ := close (some .ret) X hk
      exact ⟨_, _, hr, .inr ⟨rfl, .ret, (hIx _).putObj _ hi (by omega) xl rfl, yl, yd⟩⟩
    | exit id =>
      obtain ⟨hk, hi⟩ := hp
      obtain ⟨hr, xl, yl, yd⟩ := close (some (.exit id)) X hk
      exact ⟨_, _, hr, .inr ⟨rfl, .exit id, (hIx _).putObj _ hi (by omega) xl rfl, yl, yd⟩⟩
    | goto t =>
      obtain ⟨hk, hi⟩ := hp
      obtain ⟨hr, xl, yl, yd⟩ := close (some (.goto t)) X hk
      exact ⟨_, _, hr, .inr ⟨rfl, .goto t, (hIx _).putObj _ hi (by omega) xl rfl, yl, yd⟩⟩
    | panic ch => exact hp.elim
    | outgrown => exact hp.elim
  · rintro e X ⟨⟨v, rfl⟩, (⟨xs, hS, hi, xl, xd⟩ | ⟨pre, hSp, c, hi, xl, xd⟩)⟩
    · have hr := run_endLoop (P := P) xl (by rw [hL]; simp)
      rw [hL] at hr
      exact ⟨none, _, hr, hdone _ xs _ (Nat.le_refl _) hS (hI.putObj _ hi (by omega) xl rfl) ((World.putObj_heap_other (by omega)).trans xd)⟩
    · have hr := run_endLoop (P := P) xl (by rw [hL]; simp)
      rw [hL] at hr
      exact ⟨some c, _, hr, hstop _ c pre _ (Nat.le_refl _) hSp ((hIx c).putObj _ hi (by omega) xl rfl) ((World.putObj_heap_other (by omega)).trans xd)⟩

/-- What keeps every block of cells, and whatever lies below B, keeps I. -/
theorem ownFrom_of {β : Type} {B : Nat} {I : β → World → Prop}
    (h : ∀ s W W', I s W → (∀ (k : Nat) (o : Obj), W.heap[k]? = some o → o.isCells = true → W'.heap[k]? = some o) → (∀ k, k < B → k < W.heap.size → W'.heap[k]? = W.heap[k]?) → W.heap.size ≤ W'.heap.size → W'.os = W.os → W'.tape = W.tape → W'.output = W.output → I s W') : OwnFrom B I := by
  intro s W W' row hs hg hr
  refine h s W W' hs ?_ ?_ hg.size hg.os hg.tape hg.output
  · intro k o hk ho
    refine (hg.block k (Array.getElem?_eq_some_iff.1 hk).1 ?_).trans hk
    intro e
    obtain ⟨_, o', h1, h2⟩ := hr k e.symm
    rw [hk] at h1
    cases h1
    rw [ho] at h2
    cases h2
  · intro k hk hks
    refine hg.block k hks ?_
    intro e
    have := (hr k e.symm).1
    omega

/-- In a round an operation that is no defer statement is carried out as everywhere. -/
theorem oper_inRound {l : Nat} {o : Oper} {a : Act} {w : World} {K : Act → World → Prop} {Q : Exit → Act → World → Prop} (hro : F.round = none) (hnd : ∀ c, o.op ≠ .defer c) (h : o.wpIn F n P a w K Q) : o.wpIn (F.inRound l) n P a w K Q := by
  unfold Oper.wpIn at h ⊢
  rw [hro, Oper.semAt_none] at h
  rw [Fence.inRound_round, Oper.semAt_some l _ o hnd]
  refine ⟨h.1, ?_⟩
  have h2 := h.2
  generalize (execOp a.eval o).run P w = r at h2 ⊢
  cases r with
  | ok x w' => cases x <;> exact h2
  | halt x w' => cases x <;> exact h2
theorem wpAnyIn_inRound {l : Nat} {md : Region.Mode} {ops : Array Oper} {Q : Exit → Act → World → Prop} (hro : F.round = none) (hnd : ∀ (j : Nat) (o : Oper) c, ops[j]? = some o → o.op ≠ .defer c) :
    ∀ (fuel : Nat) (listed : Array Bool) (a : Act) (w : World), wpAnyIn F n P md ops Q fuel listed a w → wpAnyIn (F.inRound l) n P md ops Q fuel listed a w := by
  intro fuel
  induction fuel with
  | zero => intro listed a w h; exact h
  | succ fuel ih =>
    intro listed a w h
    refine ⟨h.1, fun i hi => ?_⟩
    have h1 := h.2 i hi
    unfold wpOpIn at h1 ⊢
    cases ho : ops[i]? with
    | none => simp only [ho] at h1 ⊢; exact ih _ _ _ h1
    | some o =>
      simp only [ho] at h1 ⊢
      split
      · rename_i hw
        rw [if_pos hw] at h1
        exact oper_inRound hro (fun c => hnd i o c ho) (Oper.wpIn_mono (fun a w h => ih _ _ _ h) h1)
      · rename_i hw
        rw [if_neg hw] at h1
        exact ⟨h1.1, ih _ _ _ h1.2⟩
def noDefer (ops : Array Oper) : Bool := ops.all fun o => match o.op with | .defer _ => false | _ => true
theorem no_defer {ops : Array Oper} (h : noDefer ops = true) (j : Nat) (o : Oper) (c) (ho : ops[j]? = some o) : o.op ≠ .defer c := by
  intro e
  obtain ⟨hj, rfl⟩ := Array.getElem?_eq_some_iff.1 ho
  have := Array.all_eq_true.1 h j hj
  rw [e] at this
  cases this
end Go.Proofs.YthfjbpbgnoonpaaGreatDoor

namespace Go.Proofs.YthfjbpbgnoonpaaGreatDoor
open Go.RowKit
attribute [local go_sem] Oper.semAt_some

/-- The indexes that have come after k rounds. -/
def dn (n k : Nat) : List Nat := (List.range k).map fun j => n - 1 - j
theorem dn_succ (n k : Nat) : dn n (k + 1) = dn n k ++ [n - 1 - k] := by simp [dn, List.range_succ]
theorem dn_len (n k : Nat) : (dn n k).length = k := by simp [dn]

/-- What the loop's invariant must say: the box, and the cell that is read next. -/
def BackR (Bs : Nat) (A : Option Addr) (n c : Nat) (g : Nat → Nat) (pre : List Nat) (W : World) : Prop :=
  W.cell? ⟨Bs, 0, none⟩ = some (.slice A n c) ∧ (pre.length < n → ∃ a, A = some a ∧ W.cell? (a.add (n - 1 - pre.length)) = some (.int .u32 (g (n - 1 - pre.length) : Nat)))

set_option maxRecDepth 100000 in
set_option maxHeartbeats 2000000 in
theorem back_iter (F : Fence) (n' : Nat) (hF : F.fn 113) (hro : F.round = none) (hn : 1 ≤ n') (Bs : Nat) (A : Option Addr) (n c : Nat) (g : Nat → Nat) (hlen : n ≤ 1000000000) (w : World) :
    Iterates F n' Tryz.prog 113 #[.pointer (some ⟨Bs, 0, none⟩)] (fun k : Nat => #[Value.int .i64 k, .int .u32 (g k : Nat)]) (BackR Bs A n c g) (fun pre x => pre = dn n pre.length ∧ x = n - 1 - pre.length) (fun xs => xs = dn n n) (fun pre => ∃ k, k < n ∧ pre = dn n (k + 1)) n w := by
  intro l J Jx W hW hJR hY h0
  have hbox := (hJR _ _ h0).1
  refine callsIn_of_wp Tryz.func113 rfl hF ?_ hro
  simp only [Tryz.ntmps113, List.size_toArray, List.length_cons, List.length_nil, Nat.reduceAdd, Nat.reduceSub, Array.replicate_succ, Array.replicate_zero, List.push_toArray, List.append_toArray, List.nil_append, List.cons_append]
  gi_wp2
  gi_loopw [3] (fun i wr => ∃ r : Nat, r ≤ n ∧ i = .int .i64 ((r : Int) - 1) ∧ J (dn n (n - r)) wr) (fun i _ => (intOf i + 1).toNat)
  case atStart => exact ⟨n, Nat.le_refl _, rfl, by rw [Nat.sub_self]; exact h0⟩
  case round =>
    obtain ⟨r, hr, rfl, hJ⟩ := hrel
    by_cases hlt : 0 < r
    · obtain ⟨m, rfl⟩ : ∃ m, r = m + 1 := ⟨r - 1, by omega⟩
      have hR := hJR _ _ hJ
      obtain ⟨hbox2, hcell0⟩ := hR
      rw [dn_len] at hcell0
      obtain ⟨a, rfl, hcell⟩ := hcell0 (by omega)
      clear hcell0
      have hidx : n - 1 - (n - (m + 1)) = m := by omega
      rw [hidx] at hcell
      obtain ⟨fn, tmps, assign, body, hy, hRd⟩ := hY _ m wr hJ (by rw [dn_len]; omega) ⟨by rw [dn_len], by rw [dn_len]; omega⟩
      try dsimp only at hy
      have hdn : dn n (n - (m + 1)) ++ [m] = dn n (n - (m + 1) + 1) := by rw [dn_succ, hidx]
      rw [hdn] at hRd
      clear hdn
      have hm : (((m + 1 : Nat) : Int) - 1) = (m : Int) := by omega
      rw [hm]
      gi_wp2
      refine hRd.mono ?_
      rintro e W3 (⟨rfl, hJ3⟩ | ⟨rfl, hJx3⟩)
      · gi_wp2
        go_roundw
        case rel => exact ⟨m, by omega, rfl, by rw [show n - m = n - (m + 1) + 1 by omega]; exact hJ3⟩
        case measure => simp [intOf]
      · gi_wp2
        refine bodyPost_ret (results_none rfl _ _ _) rfl ?_
        exact ⟨⟨_, rfl⟩, .inr ⟨_, ⟨n - (m + 1), by omega, rfl⟩, hJx3⟩⟩
    · obtain rfl : r = 0 := by omega
      gi_wp2
      go_end0
      exact ⟨⟨_, rfl⟩, .inl ⟨_, rfl, hJ⟩⟩

set_option maxHeartbeats 1000000 in
theorem backward_in (F : Fence) (n : Nat) (hF : F.fn 91) (hro : F.round = none) (A : Option Addr) (len cap : Nat) (w : World) :
    CallsIn F n Tryz.prog 91 #[.slice A len cap] w fun e w' => e = .returned (.func (.func 113) #[] #[.pointer (some ⟨w.heap.size, 0, none⟩)]) ∧ w' = w.alloc (.cells #[.slice A len cap] 22) := by
  refine callsIn_of_wp Tryz.func91 rfl hF ?_ hro
  simp only [Tryz.ntmps91, List.size_toArray, List.length_cons, List.length_nil, Nat.reduceAdd, Nat.reduceSub, Array.replicate_succ, Array.replicate_zero, List.push_toArray, List.append_toArray, List.nil_append, List.cons_append]
  gi_wp2
  go_ret
  exact ⟨rfl, rfl⟩
end Go.Proofs.YthfjbpbgnoonpaaGreatDoor

namespace Go.Proofs.YthfjbpbgnoonpaaGreatDoor
open Go.RowKit Go.Shelf
attribute [local go_sem] Oper.semAt_some

def digF (ds : List Nat) (i : Nat) : Nat := ds.getD i 0
/-- What holds when all but k digits have been divided: the quotient's digits are qs, the rest is r. -/
def DivI (w : World) (g N n c : Nat) (A : Option Addr) (f : Nat → Value) (ds : List Nat) (dv k : Nat) (W : World) : Prop :=
  ∃ (r : Nat) (qs : List Nat) (f' : Nat → Value), One W (w.heap.size + 1 + 1) (.int .u32 r) 90 ∧ r < dv ∧ Row W g 90 N f' ∧
    (∀ i, f' i = if i < k then f i else if i < n then .int .u32 (qs.getD (i - k) 0 : Nat) else f i) ∧ k + qs.length = n ∧ (∀ q ∈ qs, q < 4294967296) ∧
    val 4294967296 qs * dv + r = val 4294967296 (ds.drop k) ∧
    One W w.heap.size (.slice A n c) 22 ∧ One W (w.heap.size + 1) (.int .u32 dv) 90 ∧ One W (w.heap.size + 1 + 1 + 1) (.slice A n c) 22 ∧ w.grownBy W (some g)

theorem divI_own {w : World} {g N n c : Nat} {A : Option Addr} {f : Nat → Value} {ds : List Nat} {dv B : Nat} (hB : w.heap.size ≤ B) : OwnFrom B (fun (pre : List Nat) W => DivI w g N n c A f ds dv (n - pre.length) W) := by
  refine ownFrom_of ?_
  rintro s W W' ⟨r, qs, f', h1, h2, h3, h4, h5, h6, h7, h8, h9, h10, h11⟩ hc hb hsz ho ht hp
  refine ⟨r, qs, f', hc _ _ h1 rfl, h2, hc _ _ h3 rfl, h4, h5, h6, h7, hc _ _ h8 rfl, hc _ _ h9 rfl, hc _ _ h10 rfl, ho.trans h11.os, ht.trans h11.tape, hp.trans h11.output, Nat.le_trans h11.size hsz, ?_⟩
  intro k hk hne
  exact (hb k (by omega) (by have := h11.size; omega)).trans (h11.block k hk hne)

theorem div_math (b q r d dv v rest : Nat) (h : v * dv + r = rest) (hq : q = (r * b + d) / dv) : (q + b * v) * dv + (r * b + d) % dv = d + b * rest := by
  have := Nat.div_add_mod (r * b + d) dv
  rw [← hq] at this
  rw [← h, Nat.add_mul, Nat.mul_add, ← Nat.mul_assoc]
  have e1 : dv * q = q * dv := Nat.mul_comm _ _
  have e2 : r * b = b * r := Nat.mul_comm _ _
  omega

theorem grown_drewN {a w : World} {row : Option Nat} (h : a.grownBy w row) (k : Nat) : a.grownBy (w.drewN k) row := ⟨h.os, h.tape, h.output, h.size, h.block⟩
theorem grown_setCell {a w : World} {g : Nat} (h : a.grownBy w (some g)) {p : Addr} (hp : p.block = g ∨ a.heap.size ≤ p.block) (u : Value) : a.grownBy (w.setCell p u) (some g) := by
  refine ⟨h.os, h.tape, h.output, Nat.le_trans h.size (by simp), fun k hk hne => ?_⟩
  refine (Below.heap_setCell w p u k ?_).trans (h.block k hk hne)
  intro e
  rcases hp with hp | hp
  · exact hne (by rw [e, hp])
  · omega
theorem divI_leaf {w : World} {g N n c : Nat} {A : Option Addr} {f : Nat → Value} {ds : List Nat} {dv k r d : Nat} {qs : List Nat} {f' : Nat → Value} {pre : List Nat} {W : World} (hg : g < w.heap.size) (_hN : n ≤ N) (hdl : ds.length = n)
    (hK : n - pre.length = k + 1) (H : One W (w.heap.size + 1 + 1) (.int .u32 r) 90 ∧ Row W g 90 N f' ∧ One W w.heap.size (.slice A n c) 22 ∧ One W (w.heap.size + 1) (.int .u32 dv) 90 ∧ One W (w.heap.size + 1 + 1 + 1) (.slice A n c) 22 ∧ w.grownBy W (some g))
    (h2 : r < dv) (h4 : ∀ i, f' i = if i < k + 1 then f i else if i < n then .int .u32 (qs.getD (i - (k + 1)) 0 : Nat) else f i) (h5 : k + 1 + qs.length = n) (h6 : ∀ q ∈ qs, q < 4294967296) (h7 : val 4294967296 qs * dv + r = val 4294967296 (ds.drop (k + 1)))
    (hd : d = digF ds k) (hd1 : d < 4294967296) (m : Nat) :
    KeepsOthers W (((W.drewN m).setCell ⟨g, k, none⟩ (.int .u32 (((r : Int) * 4294967296 + (d : Int)) / (dv : Int)))).setCell ⟨w.heap.size + 1 + 1, 0, none⟩ (.int .u32 (((r : Int) * 4294967296 + (d : Int)) % (dv : Int)))) ∧
    DivI w g N n c A f ds dv (n - (pre ++ [k]).length) (((W.drewN m).setCell ⟨g, k, none⟩ (.int .u32 (((r : Int) * 4294967296 + (d : Int)) / (dv : Int)))).setCell ⟨w.heap.size + 1 + 1, 0, none⟩ (.int .u32 (((r : Int) * 4294967296 + (d : Int)) % (dv : Int)))) := by
  obtain ⟨h1, h3, h8, h9, h10, h11⟩ := H
  have ek : n - (pre ++ [k]).length = k := by simp; omega
  rw [ek]
  have eq : (((r : Int) * 4294967296 + (d : Int)) / (dv : Int)) = (((r * 4294967296 + d) / dv : Nat) : Int) := by rw [Int.natCast_ediv, Int.natCast_add, Int.natCast_mul]; rfl
  have er : (((r : Int) * 4294967296 + (d : Int)) % (dv : Int)) = (((r * 4294967296 + d) % dv : Nat) : Int) := by rw [Int.natCast_emod, Int.natCast_add, Int.natCast_mul]; rfl
  rw [eq, er]
  have hq : (r * 4294967296 + d) / dv < 4294967296 := by
    rw [Nat.div_lt_iff_lt_mul (by omega)]
    have : (r + 1) * 4294967296 ≤ dv * 4294967296 := Nat.mul_le_mul_right _ h2
    rw [Nat.mul_comm 4294967296]
    omega
  refine ⟨(show KeepsOthers W (W.drewN m) from ⟨Nat.le_refl _, fun _ _ h _ => h⟩).trans ((KeepsOthers.setCell (W.drewN m) _ _).trans (KeepsOthers.setCell _ _ _)), (r * 4294967296 + d) % dv, (r * 4294967296 + d) / dv :: qs, fun j => if j = k then .int .u32 ((r * 4294967296 + d) / dv : Nat) else f' j, ?_, Nat.mod_lt _ (by omega), ?_, ?_, by simp; omega, ?_, ?_, ?_, ?_, ?_, ?_⟩
  · exact ((h1.drewN m).far (p := ⟨g, k, none⟩) (by simp; omega) _).set_ _
  · exact (((h3.drewN m).set_ k _ (fun j _ => rfl))).far (p := ⟨w.heap.size + 1 + 1, 0, none⟩) (by simp; omega) _
  · intro i
    by_cases hi : i = k
    · subst hi; simp; omega
    · show (if i = k then _ else f' i) = _
      rw [if_neg hi, h4 i]
      by_cases h : i < k
      · rw [if_pos h, if_pos (by omega)]
      · rw [if_neg h, if_neg (by omega)]
        by_cases hin : i < n
        · rw [if_pos hin, if_pos hin, show i - k = (i - (k + 1)) + 1 by omega]; simp
        · rw [if_neg hin, if_neg hin]
  · intro q hq'
    rcases List.mem_cons.1 hq' with rfl | hq'
    · exact hq
    · exact h6 q hq'
  · rw [drop_cons ds k (by omega)]
    simp only [val]
    have := div_math 4294967296 ((r * 4294967296 + d) / dv) r d dv (val 4294967296 qs) _ h7 rfl
    rw [this, hd]
    rfl
  · exact ((h8.drewN m).far (p := ⟨g, k, none⟩) (by show w.heap.size ≠ g; omega) _).far (p := ⟨w.heap.size + 1 + 1, 0, none⟩) (by show w.heap.size ≠ w.heap.size + 1 + 1; omega) _
  · exact ((h9.drewN m).far (p := ⟨g, k, none⟩) (by show w.heap.size + 1 ≠ g; omega) _).far (p := ⟨w.heap.size + 1 + 1, 0, none⟩) (by show w.heap.size + 1 ≠ w.heap.size + 1 + 1; omega) _
  · exact ((h10.drewN m).far (p := ⟨g, k, none⟩) (by show w.heap.size + 1 + 1 + 1 ≠ g; omega) _).far (p := ⟨w.heap.size + 1 + 1, 0, none⟩) (by show w.heap.size + 1 + 1 + 1 ≠ w.heap.size + 1 + 1; omega) _
  · exact grown_setCell (grown_setCell (grown_drewN h11 m) (.inl rfl) _) (.inr (by show w.heap.size ≤ w.heap.size + 1 + 1; omega)) _
set_option maxRecDepth 100000 in
set_option maxHeartbeats 1000000 in
theorem divideByDigit_any {g N c : Nat} {A : Option Addr} {f : Nat → Value} {ds : List Nat} (dv : Nat) {w : World} (hlen : ds.length ≤ 1000000) (hdv : 0 < dv ∧ dv < 4294967296) (hd : ∀ d ∈ ds, d < 4294967296)
    (hA : 0 < ds.length → A = some ⟨g, 0, none⟩) (hN : ds.length ≤ N) (hrow : Row w g 90 N f) (hf : ∀ i, i < ds.length → f i = u32f ds i) :
    Calls Tryz.prog 60 #[.slice A ds.length c, .int .u32 dv] w fun e w' => ∃ (r : Nat) (qs : List Nat) (f' : Nat → Value), e = .returned (.int .u32 r) ∧ r < dv ∧ Row w' g 90 N f' ∧
      (∀ i, f' i = if i < ds.length then .int .u32 (qs.getD i 0 : Nat) else f i) ∧ qs.length = ds.length ∧ (∀ q ∈ qs, q < 4294967296) ∧ val 4294967296 qs * dv + r = val 4294967296 ds ∧ w.grownBy w' (some g) := by
  have hgl := hrow.lt
  have HF := Lib.hid hf
  have HD := Lib.hid hd
  clear hf hd
  refine (callsIn_wide (n := 5)).1 ?_
  refine callsIn_of_wp_marks Tryz.func60 rfl trivial ?_ rfl
  simp only [Tryz.ntmps60, List.size_toArray, List.length_cons, List.length_nil, Nat.reduceAdd, Nat.reduceSub, Array.replicate_succ, Array.replicate_zero, List.push_toArray, List.append_toArray, List.nil_append, List.cons_append]
  have h50 : Fence.wide.fn 91 := trivial
  gi_wp2_with (gi_at_call 91; refine (backward_in Fence.wide _ trivial rfl _ _ _ _).mono ?_; rintro e w' ⟨rfl, rfl⟩)
  obtain ⟨w0, hw0⟩ : ∃ w0, ((((w.alloc (.cells #[.slice A ds.length c] 22)).alloc (.cells #[.int .u32 dv] 90)).alloc (.cells #[.int .u32 0] 90)).alloc (.cells #[.slice A ds.length c] 22)) = w0 := ⟨_, rfl⟩
  have hs0 : w0.heap.size = w.heap.size + 1 + 1 + 1 + 1 := by subst hw0; simp
  have hI0 : DivI w g N ds.length c A f ds dv ds.length w0 := by
    subst hw0
    have b1 : Below w.heap.size w ((((w.alloc (.cells #[.slice A ds.length c] 22)).alloc (.cells #[.int .u32 dv] 90)).alloc (.cells #[.int .u32 0] 90)).alloc (.cells #[.slice A ds.length c] 22)) :=
      ((((Below.refl _ w).alloc (Nat.le_refl _) _).alloc (by simp) _).alloc (by simp; omega) _).alloc (by simp; omega) _
    refine ⟨0, [], f, ?_, hdv.1, hrow.below b1 hgl, fun i => ?_, by simp, by simp, by simp [val], ?_, ?_, ?_, ⟨b1.os, b1.tape, b1.output, b1.size, fun k hk _ => b1.block k hk⟩⟩
    · have := (One.new ((w.alloc (.cells #[.slice A ds.length c] 22)).alloc (.cells #[.int .u32 dv] 90)) (.int .u32 0) 90).alloc (.cells #[.slice A ds.length c] 22)
      simpa using this
    · split
      · rfl
      · rfl
    · exact (((One.new w (.slice A ds.length c) 22).alloc _).alloc _).alloc _
    · have := ((One.new (w.alloc (.cells #[.slice A ds.length c] 22)) (.int .u32 dv) 90).alloc (.cells #[.int .u32 0] 90)).alloc (.cells #[.slice A ds.length c] 22)
      simpa using this
    · have := One.new (((w.alloc (.cells #[.slice A ds.length c] 22)).alloc (.cells #[.int .u32 dv] 90)).alloc (.cells #[.int .u32 0] 90)) (.slice A ds.length c) 22
      simpa using this
  rw [hw0]
  clear hw0
  refine wpIn_iterate rfl (by omega) (gf := 113) (lb := #[.pointer (some ⟨w.heap.size + 1 + 1 + 1, 0, none⟩)]) (by simp [go_sem]) trivial (enters_of Tryz.func113 (by kernel_rfl) rfl)
    (back_iter Fence.wide _ trivial rfl (by omega) _ A ds.length c (digF ds) (by omega) _) (fun _ => rfl)
    (fun pre W => DivI w g N ds.length c A f ds dv (ds.length - pre.length) W) (fun _ _ _ => False) (divI_own (by omega)) (fun c => by intro s W W' row hs; exact hs.elim) ?IR hI0 ?a1 ?assign ?body ?done ?stop
  case assign =>
    intro l x W K hK
    gi_wp2
    exact hK
  case IR =>
    rintro pre W ⟨r, qs, f', h1, h2, h3, h4, h5, h6, h7, h8, h9, h10, h11⟩
    refine ⟨h10.cell, fun hp => ⟨⟨g, 0, none⟩, hA (by omega), ?_⟩⟩
    have hc := h3.cell (ds.length - 1 - pre.length) (by omega)
    rw [h4, if_pos (by omega), HF.out _ (by omega)] at hc
    rw [row_at]
    exact hc
  case body =>
    rintro l pre x W ⟨r, qs, f', h1, h2, h3, h4, h5, h6, h7, h8, h9, h10, h11⟩ hpl ⟨_, rfl⟩
    have hc1 := h1.cell
    have hf1 := h1.frozen
    have hc8 := h8.cell
    have hc9 := h9.cell
    obtain ⟨k, hk⟩ : ∃ k, k = ds.length - 1 - pre.length := ⟨_, rfl⟩
    have hkn : ds.length - pre.length = k + 1 := by omega
    rw [hkn] at h4 h5 h7
    rw [← hk]
    have hcg := h3.cell k (by omega)
    have hfg := h3.frozen k
    obtain rfl := hA (by omega)
    obtain ⟨d, hd⟩ : ∃ d : Nat, d = digF ds k := ⟨_, rfl⟩
    have hd1 : d < 4294967296 := by rw [hd]; exact getD_lt HD.out k (by omega)
    have hmx : Tryz.prog.follows .mixedOrders = true := by kernel_rfl
    have h31 : 1 ≤ 5 - 1 - 1 := by omega
    have hkl : k < ds.length := by omega
    have H4 := Lib.hid h4
    have H5 := Lib.hid h5
    have H6 := Lib.hid h6
    have H7 := Lib.hid h7
    have HK := Lib.hid hkn
    have HX := Lib.hid hk
    clear h4 h5 h6 h7 hkn hk
    have HALL := Lib.hid (And.intro h1 (And.intro h3 (And.intro h8 (And.intro h9 (And.intro h10 h11)))))
    clear h1 h3 h8 h9 h10 h11 hrow hlen hpl hI0 hA
    have Hd := Lib.hid hd
    gi_wp2
    rw [← hd]
    clear hd
    have h64 : Fence.wide.fn 92 := trivial
    refine wpIn_region_any (by assumption) ?_
    try (change wpAnyIn _ _ _ _ _ _ _ _ _ (World.drew _))
    refine wpAnyIn_inRound rfl (no_defer (by kernel_rfl)) _ _ _ _ ?_
    refine wpAnyIn_take (i := 1) (v := ?_) rfl rfl (by kernel_rfl) (by kernel_rfl) (by kernel_rfl) (fun _ _ _ h => h) ⟨Or.inl ⟨by rfl, ?_⟩, fun _ => rfl⟩ ?_
    rotate_left
    focus (intro w; go_simp; try with_reducible rfl)
    refine wpAnyIn_take (i := 3) (v := ?_) rfl rfl (by kernel_rfl) (by kernel_rfl) (by kernel_rfl) (fun _ _ _ h => h) ⟨Or.inl ⟨by rfl, ?_⟩, fun _ => rfl⟩ ?_
    rotate_left
    focus (intro w; go_simp; try with_reducible rfl)
    refine wpAnyIn_ready (rs := [0, 2, 4]) (by kernel_rfl) (by simp) ?_
    refine AllReadyIn.cons rfl (fun K hK => ?_) ?_
    · go_simp
      refine hK _ _ ?_
      clear hK K
      refine wpAnyIn_ready (rs := [2, 4]) (by kernel_rfl) (by simp) ?_
      refine AllReadyIn.cons rfl (fun K hK => ?_) ?_
      · go_simp
        refine hK _ _ ?_
        clear hK K
        refine wpAnyIn_ready (rs := [4]) (by kernel_rfl) (by simp) ?_
        refine AllReadyIn.cons rfl (fun K hK => ?_) ?_
        · go_simp
          refine hK _ _ ?_
          clear hK K
          refine wpAnyIn_ready (rs := [5]) (by kernel_rfl) (by simp) ?_
          refine AllReadyIn.cons rfl (fun K hK => ?_) ?_
          · go_simp
            refine (callsIn_wide.2 (div32_any _ _ _ _ (by omega) (by omega) (by omega))).mono ?_
            rintro e w1 ⟨rfl, nq, rfl⟩
            refine hK _ _ ?_
            clear hK K
            refine wpAnyIn_take (i := 6) (v := ?_) rfl rfl (by kernel_rfl) (by kernel_rfl) (by kernel_rfl) (fun _ _ _ h => h) ⟨Or.inl ⟨by rfl, ?_⟩, fun _ => rfl⟩ ?_
            rotate_left
            focus (intro w; go_simp; try with_reducible rfl)
            refine wpAnyIn_take (i := 7) (v := ?_) rfl rfl (by kernel_rfl) (by kernel_rfl) (by kernel_rfl) (fun _ _ _ h => h) ⟨Or.inl ⟨by rfl, ?_⟩, fun _ => rfl⟩ ?_
            rotate_left
            focus (intro w; go_simp; try with_reducible rfl)
            refine wpAnyIn_take (i := 8) (v := ?_) rfl rfl (by kernel_rfl) (by kernel_rfl) (by kernel_rfl) (fun _ _ _ h => h) ⟨Or.inl ⟨by rfl, ?_⟩, fun _ => rfl⟩ ?_
            rotate_left
            focus (intro w; go_simp; try with_reducible rfl)
            refine wpAnyIn_take (i := 9) (v := ?_) rfl rfl (by kernel_rfl) (by kernel_rfl) (by kernel_rfl) (fun _ _ _ h => h) ⟨Or.inl ⟨by rfl, ?_⟩, fun _ => rfl⟩ ?_
            rotate_left
            focus (intro w; go_simp; try with_reducible rfl)
            refine wpAnyIn_ready (rs := [10]) (by kernel_rfl) (by simp) ?_
            refine AllReadyIn.cons rfl (fun K hK => ?_) ?_
            · go_simp
              refine hK _ _ ?_
              clear hK K
              refine wpAnyIn_ready (rs := [11]) (by kernel_rfl) (by simp) ?_
              refine AllReadyIn.cons rfl (fun K hK => ?_) ?_
              · go_simp
                refine hK _ _ ?_
                clear hK K
                refine wpAnyIn_done (by kernel_rfl) ?_ _
                gi_wp2
                exact divI_leaf hgl hN rfl HK.out HALL.out h2 H4.out H5.out H6.out H7.out Hd.out hd1 _
              exact AllReadyIn.nil
            exact AllReadyIn.nil
          exact AllReadyIn.nil
        exact AllReadyIn.nil
      refine AllReadyIn.cons rfl (fun K hK => ?_) ?_
      · go_simp
        refine hK _ _ ?_
        clear hK K
        refine wpAnyIn_ready (rs := [2]) (by kernel_rfl) (by simp) ?_
        refine AllReadyIn.cons rfl (fun K hK => ?_) ?_
        · go_simp
          refine hK _ _ ?_
          clear hK K
          refine wpAnyIn_ready (rs := [5]) (by kernel_rfl) (by simp) ?_
          refine AllReadyIn.cons rfl (fun K hK => ?_) ?_
          · go_simp
            refine (callsIn_wide.2 (div32_any _ _ _ _ (by omega) (by omega) (by omega))).mono ?_
            rintro e w1 ⟨rfl, nq, rfl⟩
            refine hK _ _ ?_
            clear hK K
            refine wpAnyIn_take (i := 6) (v := ?_) rfl rfl (by kernel_rfl) (by kernel_rfl) (by kernel_rfl) (fun _ _ _ h => h) ⟨Or.inl ⟨by rfl, ?_⟩, fun _ => rfl⟩ ?_
            rotate_left
            focus (intro w; go_simp; try with_reducible rfl)
            refine wpAnyIn_take (i := 7) (v := ?_) rfl rfl (by kernel_rfl) (by kernel_rfl) (by kernel_rfl) (fun _ _ _ h => h) ⟨Or.inl ⟨by rfl, ?_⟩, fun _ => rfl⟩ ?_
            rotate_left
            focus (intro w; go_simp; try with_reducible rfl)
            refine wpAnyIn_take (i := 8) (v := ?_) rfl rfl (by kernel_rfl) (by kernel_rfl) (by kernel_rfl) (fun _ _ _ h => h) ⟨Or.inl ⟨by rfl, ?_⟩, fun _ => rfl⟩ ?_
            rotate_left
            focus (intro w; go_simp; try with_reducible rfl)
            refine wpAnyIn_take (i := 9) (v := ?_) rfl rfl (by kernel_rfl) (by kernel_rfl) (by kernel_rfl) (fun _ _ _ h => h) ⟨Or.inl ⟨by rfl, ?_⟩, fun _ => rfl⟩ ?_
            rotate_left
            focus (intro w; go_simp; try with_reducible rfl)
            refine wpAnyIn_ready (rs := [10]) (by kernel_rfl) (by simp) ?_
            refine AllReadyIn.cons rfl (fun K hK => ?_) ?_
            · go_simp
              refine hK _ _ ?_
              clear hK K
              refine wpAnyIn_ready (rs := [11]) (by kernel_rfl) (by simp) ?_
              refine AllReadyIn.cons rfl (fun K hK => ?_) ?_
              · go_simp
                refine hK _ _ ?_
                clear hK K
                refine wpAnyIn_done (by kernel_rfl) ?_ _
                gi_wp2
                exact divI_leaf hgl hN rfl HK.out HALL.out h2 H4.out H5.out H6.out H7.out Hd.out hd1 _
              exact AllReadyIn.nil
            exact AllReadyIn.nil
          exact AllReadyIn.nil
        exact AllReadyIn.nil
      exact AllReadyIn.nil
    refine AllReadyIn.cons rfl (fun K hK => ?_) ?_
    · go_simp
      refine hK _ _ ?_
      clear hK K
      refine wpAnyIn_ready (rs := [0, 4]) (by kernel_rfl) (by simp) ?_
      refine AllReadyIn.cons rfl (fun K hK => ?_) ?_
      · go_simp
        refine hK _ _ ?_
        clear hK K
        refine wpAnyIn_ready (rs := [4]) (by kernel_rfl) (by simp) ?_
        refine AllReadyIn.cons rfl (fun K hK => ?_) ?_
        · go_simp
          refine hK _ _ ?_
          clear hK K
          refine wpAnyIn_ready (rs := [5]) (by kernel_rfl) (by simp) ?_
          refine AllReadyIn.cons rfl (fun K hK => ?_) ?_
          · go_simp
            refine (callsIn_wide.2 (div32_any _ _ _ _ (by omega) (by omega) (by omega))).mono ?_
            rintro e w1 ⟨rfl, nq, rfl⟩
            refine hK _ _ ?_
            clear hK K
            refine wpAnyIn_take (i := 6) (v := ?_) rfl rfl (by kernel_rfl) (by kernel_rfl) (by kernel_rfl) (fun _ _ _ h => h) ⟨Or.inl ⟨by rfl, ?_⟩, fun _ => rfl⟩ ?_
            rotate_left
            focus (intro w; go_simp; try with_reducible rfl)
            refine wpAnyIn_take (i := 7) (v := ?_) rfl rfl (by kernel_rfl) (by kernel_rfl) (by kernel_rfl) (fun _ _ _ h => h) ⟨Or.inl ⟨by rfl, ?_⟩, fun _ => rfl⟩ ?_
            rotate_left
            focus (intro w; go_simp; try with_reducible rfl)
            refine wpAnyIn_take (i := 8) (v := ?_) rfl rfl (by kernel_rfl) (by kernel_rfl) (by kernel_rfl) (fun _ _ _ h => h) ⟨Or.inl ⟨by rfl, ?_⟩, fun _ => rfl⟩ ?_
            rotate_left
            focus (intro w; go_simp; try with_reducible rfl)
            refine wpAnyIn_take (i := 9) (v := ?_) rfl rfl (by kernel_rfl) (by kernel_rfl) (by kernel_rfl) (fun _ _ _ h => h) ⟨Or.inl ⟨by rfl, ?_⟩, fun _ => rfl⟩ ?_
            rotate_left
            focus (intro w; go_simp; try with_reducible rfl)
            refine wpAnyIn_ready (rs := [10]) (by kernel_rfl) (by simp) ?_
            refine AllReadyIn.cons rfl (fun K hK => ?_) ?_
            · go_simp
              refine hK _ _ ?_
              clear hK K
              refine wpAnyIn_ready (rs := [11]) (by kernel_rfl) (by simp) ?_
              refine AllReadyIn.cons rfl (fun K hK => ?_) ?_
              · go_simp
                refine hK _ _ ?_
                clear hK K
                refine wpAnyIn_done (by kernel_rfl) ?_ _
                gi_wp2
                exact divI_leaf hgl hN rfl HK.out HALL.out h2 H4.out H5.out H6.out H7.out Hd.out hd1 _
              exact AllReadyIn.nil
            exact AllReadyIn.nil
          exact AllReadyIn.nil
        exact AllReadyIn.nil
      refine AllReadyIn.cons rfl (fun K hK => ?_) ?_
      · go_simp
        refine hK _ _ ?_
        clear hK K
        refine wpAnyIn_ready (rs := [0, 5]) (by kernel_rfl) (by simp) ?_
        refine AllReadyIn.cons rfl (fun K hK => ?_) ?_
        · go_simp
          refine hK _ _ ?_
          clear hK K
          refine wpAnyIn_ready (rs := [5]) (by kernel_rfl) (by simp) ?_
          refine AllReadyIn.cons rfl (fun K hK => ?_) ?_
          · go_simp
            refine (callsIn_wide.2 (div32_any _ _ _ _ (by omega) (by omega) (by omega))).mono ?_
            rintro e w1 ⟨rfl, nq, rfl⟩
            refine hK _ _ ?_
            clear hK K
            refine wpAnyIn_take (i := 6) (v := ?_) rfl rfl (by kernel_rfl) (by kernel_rfl) (by kernel_rfl) (fun _ _ _ h => h) ⟨Or.inl ⟨by rfl, ?_⟩, fun _ => rfl⟩ ?_
            rotate_left
            focus (intro w; go_simp; try with_reducible rfl)
            refine wpAnyIn_take (i := 7) (v := ?_) rfl rfl (by kernel_rfl) (by kernel_rfl) (by kernel_rfl) (fun _ _ _ h => h) ⟨Or.inl ⟨by rfl, ?_⟩, fun _ => rfl⟩ ?_
            rotate_left
            focus (intro w; go_simp; try with_reducible rfl)
            refine wpAnyIn_take (i := 8) (v := ?_) rfl rfl (by kernel_rfl) (by kernel_rfl) (by kernel_rfl) (fun _ _ _ h => h) ⟨Or.inl ⟨by rfl, ?_⟩, fun _ => rfl⟩ ?_
            rotate_left
            focus (intro w; go_simp; try with_reducible rfl)
            refine wpAnyIn_take (i := 9) (v := ?_) rfl rfl (by kernel_rfl) (by kernel_rfl) (by kernel_rfl) (fun _ _ _ h => h) ⟨Or.inl ⟨by rfl, ?_⟩, fun _ => rfl⟩ ?_
            rotate_left
            focus (intro w; go_simp; try with_reducible rfl)
            refine wpAnyIn_ready (rs := [10]) (by kernel_rfl) (by simp) ?_
            refine AllReadyIn.cons rfl (fun K hK => ?_) ?_
            · go_simp
              refine hK _ _ ?_
              clear hK K
              refine wpAnyIn_ready (rs := [11]) (by kernel_rfl) (by simp) ?_
              refine AllReadyIn.cons rfl (fun K hK => ?_) ?_
              · go_simp
                refine hK _ _ ?_
                clear hK K
                refine wpAnyIn_done (by kernel_rfl) ?_ _
                gi_wp2
                exact divI_leaf hgl hN rfl HK.out HALL.out h2 H4.out H5.out H6.out H7.out Hd.out hd1 _
              exact AllReadyIn.nil
            exact AllReadyIn.nil
          exact AllReadyIn.nil
        refine AllReadyIn.cons rfl (fun K hK => ?_) ?_
        · go_simp
          refine (callsIn_wide.2 (div32_any _ _ _ _ (by omega) (by omega) (by omega))).mono ?_
          rintro e w1 ⟨rfl, nq, rfl⟩
          refine hK _ _ ?_
          clear hK K
          refine wpAnyIn_take (i := 6) (v := ?_) rfl rfl (by kernel_rfl) (by kernel_rfl) (by kernel_rfl) (fun _ _ _ h => h) ⟨Or.inl ⟨by rfl, ?_⟩, fun _ => rfl⟩ ?_
          rotate_left
          focus (intro w; go_simp; try with_reducible rfl)
          refine wpAnyIn_take (i := 7) (v := ?_) rfl rfl (by kernel_rfl) (by kernel_rfl) (by kernel_rfl) (fun _ _ _ h => h) ⟨Or.inl ⟨by rfl, ?_⟩, fun _ => rfl⟩ ?_
          rotate_left
          focus (intro w; go_simp; try with_reducible rfl)
          refine wpAnyIn_take (i := 8) (v := ?_) rfl rfl (by kernel_rfl) (by kernel_rfl) (by kernel_rfl) (fun _ _ _ h => h) ⟨Or.inl ⟨by rfl, ?_⟩, fun _ => rfl⟩ ?_
          rotate_left
          focus (intro w; go_simp; try with_reducible rfl)
          refine wpAnyIn_ready (rs := [0]) (by kernel_rfl) (by simp) ?_
          refine AllReadyIn.cons rfl (fun K hK => ?_) ?_
          · go_simp
            refine hK _ _ ?_
            clear hK K
            refine wpAnyIn_take (i := 9) (v := ?_) rfl rfl (by kernel_rfl) (by kernel_rfl) (by kernel_rfl) (fun _ _ _ h => h) ⟨Or.inl ⟨by rfl, ?_⟩, fun _ => rfl⟩ ?_
            rotate_left
            focus (intro w; go_simp; try with_reducible rfl)
            refine wpAnyIn_ready (rs := [10]) (by kernel_rfl) (by simp) ?_
            refine AllReadyIn.cons rfl (fun K hK => ?_) ?_
            · go_simp
              refine hK _ _ ?_
              clear hK K
              refine wpAnyIn_ready (rs := [11]) (by kernel_rfl) (by simp) ?_
              refine AllReadyIn.cons rfl (fun K hK => ?_) ?_
              · go_simp
                refine hK _ _ ?_
                clear hK K
                refine wpAnyIn_done (by kernel_rfl) ?_ _
                gi_wp2
                exact divI_leaf hgl hN rfl HK.out HALL.out h2 H4.out H5.out H6.out H7.out Hd.out hd1 _
              exact AllReadyIn.nil
            exact AllReadyIn.nil
          exact AllReadyIn.nil
        exact AllReadyIn.nil
      exact AllReadyIn.nil
    refine AllReadyIn.cons rfl (fun K hK => ?_) ?_
    · go_simp
      refine hK _ _ ?_
      clear hK K
      refine wpAnyIn_ready (rs := [0, 2]) (by kernel_rfl) (by simp) ?_
      refine AllReadyIn.cons rfl (fun K hK => ?_) ?_
      · go_simp
        refine hK _ _ ?_
        clear hK K
        refine wpAnyIn_ready (rs := [2]) (by kernel_rfl) (by simp) ?_
        refine AllReadyIn.cons rfl (fun K hK => ?_) ?_
        · go_simp
          refine hK _ _ ?_
          clear hK K
          refine wpAnyIn_ready (rs := [5]) (by kernel_rfl) (by simp) ?_
          refine AllReadyIn.cons rfl (fun K hK => ?_) ?_
          · go_simp
            refine (callsIn_wide.2 (div32_any _ _ _ _ (by omega) (by omega) (by omega))).mono ?_
            rintro e w1 ⟨rfl, nq, rfl⟩
            refine hK _ _ ?_
            clear hK K
            refine wpAnyIn_take (i := 6) (v := ?_) rfl rfl (by kernel_rfl) (by kernel_rfl) (by kernel_rfl) (fun _ _ _ h => h) ⟨Or.inl ⟨by rfl, ?_⟩, fun _ => rfl⟩ ?_
            rotate_left
            focus (intro w; go_simp; try with_reducible rfl)
            refine wpAnyIn_take (i := 7) (v := ?_) rfl rfl (by kernel_rfl) (by kernel_rfl) (by kernel_rfl) (fun _ _ _ h => h) ⟨Or.inl ⟨by rfl, ?_⟩, fun _ => rfl⟩ ?_
            rotate_left
            focus (intro w; go_simp; try with_reducible rfl)
            refine wpAnyIn_take (i := 8) (v := ?_) rfl rfl (by kernel_rfl) (by kernel_rfl) (by kernel_rfl) (fun _ _ _ h => h) ⟨Or.inl ⟨by rfl, ?_⟩, fun _ => rfl⟩ ?_
            rotate_left
            focus (intro w; go_simp; try with_reducible rfl)
            refine wpAnyIn_take (i := 9) (v := ?_) rfl rfl (by kernel_rfl) (by kernel_rfl) (by kernel_rfl) (fun _ _ _ h => h) ⟨Or.inl ⟨by rfl, ?_⟩, fun _ => rfl⟩ ?_
            rotate_left
            focus (intro w; go_simp; try with_reducible rfl)
            refine wpAnyIn_ready (rs := [10]) (by kernel_rfl) (by simp) ?_
            refine AllReadyIn.cons rfl (fun K hK => ?_) ?_
            · go_simp
              refine hK _ _ ?_
              clear hK K
              refine wpAnyIn_ready (rs := [11]) (by kernel_rfl) (by simp) ?_
              refine AllReadyIn.cons rfl (fun K hK => ?_) ?_
              · go_simp
                refine hK _ _ ?_
                clear hK K
                refine wpAnyIn_done (by kernel_rfl) ?_ _
                gi_wp2
                exact divI_leaf hgl hN rfl HK.out HALL.out h2 H4.out H5.out H6.out H7.out Hd.out hd1 _
              exact AllReadyIn.nil
            exact AllReadyIn.nil
          exact AllReadyIn.nil
        exact AllReadyIn.nil
      refine AllReadyIn.cons rfl (fun K hK => ?_) ?_
      · go_simp
        refine hK _ _ ?_
        clear hK K
        refine wpAnyIn_ready (rs := [0, 5]) (by kernel_rfl) (by simp) ?_
        refine AllReadyIn.cons rfl (fun K hK => ?_) ?_
        · go_simp
          refine hK _ _ ?_
          clear hK K
          refine wpAnyIn_ready (rs := [5]) (by kernel_rfl) (by simp) ?_
          refine AllReadyIn.cons rfl (fun K hK => ?_) ?_
          · go_simp
            refine (callsIn_wide.2 (div32_any _ _ _ _ (by omega) (by omega) (by omega))).mono ?_
            rintro e w1 ⟨rfl, nq, rfl⟩
            refine hK _ _ ?_
            clear hK K
            refine wpAnyIn_take (i := 6) (v := ?_) rfl rfl (by kernel_rfl) (by kernel_rfl) (by kernel_rfl) (fun _ _ _ h => h) ⟨Or.inl ⟨by rfl, ?_⟩, fun _ => rfl⟩ ?_
            rotate_left
            focus (intro w; go_simp; try with_reducible rfl)
            refine wpAnyIn_take (i := 7) (v := ?_) rfl rfl (by kernel_rfl) (by kernel_rfl) (by kernel_rfl) (fun _ _ _ h => h) ⟨Or.inl ⟨by rfl, ?_⟩, fun _ => rfl⟩ ?_
            rotate_left
            focus (intro w; go_simp; try with_reducible rfl)
            refine wpAnyIn_take (i := 8) (v := ?_) rfl rfl (by kernel_rfl) (by kernel_rfl) (by kernel_rfl) (fun _ _ _ h => h) ⟨Or.inl ⟨by rfl, ?_⟩, fun _ => rfl⟩ ?_
            rotate_left
            focus (intro w; go_simp; try with_reducible rfl)
            refine wpAnyIn_take (i := 9) (v := ?_) rfl rfl (by kernel_rfl) (by kernel_rfl) (by kernel_rfl) (fun _ _ _ h => h) ⟨Or.inl ⟨by rfl, ?_⟩, fun _ => rfl⟩ ?_
            rotate_left
            focus (intro w; go_simp; try with_reducible rfl)
            refine wpAnyIn_ready (rs := [10]) (by kernel_rfl) (by simp) ?_
            refine AllReadyIn.cons rfl (fun K hK => ?_) ?_
            · go_simp
              refine hK _ _ ?_
              clear hK K
              refine wpAnyIn_ready (rs := [11]) (by kernel_rfl) (by simp) ?_
              refine AllReadyIn.cons rfl (fun K hK => ?_) ?_
              · go_simp
                refine hK _ _ ?_
                clear hK K
                refine wpAnyIn_done (by kernel_rfl) ?_ _
                gi_wp2
                exact divI_leaf hgl hN rfl HK.out HALL.out h2 H4.out H5.out H6.out H7.out Hd.out hd1 _
              exact AllReadyIn.nil
            exact AllReadyIn.nil
          exact AllReadyIn.nil
        refine AllReadyIn.cons rfl (fun K hK => ?_) ?_
        · go_simp
          refine (callsIn_wide.2 (div32_any _ _ _ _ (by omega) (by omega) (by omega))).mono ?_
          rintro e w1 ⟨rfl, nq, rfl⟩
          refine hK _ _ ?_
          clear hK K
          refine wpAnyIn_take (i := 6) (v := ?_) rfl rfl (by kernel_rfl) (by kernel_rfl) (by kernel_rfl) (fun _ _ _ h => h) ⟨Or.inl ⟨by rfl, ?_⟩, fun _ => rfl⟩ ?_
          rotate_left
          focus (intro w; go_simp; try with_reducible rfl)
          refine wpAnyIn_take (i := 7) (v := ?_) rfl rfl (by kernel_rfl) (by kernel_rfl) (by kernel_rfl) (fun _ _ _ h => h) ⟨Or.inl ⟨by rfl, ?_⟩, fun _ => rfl⟩ ?_
          rotate_left
          focus (intro w; go_simp; try with_reducible rfl)
          refine wpAnyIn_take (i := 8) (v := ?_) rfl rfl (by kernel_rfl) (by kernel_rfl) (by kernel_rfl) (fun _ _ _ h => h) ⟨Or.inl ⟨by rfl, ?_⟩, fun _ => rfl⟩ ?_
          rotate_left
          focus (intro w; go_simp; try with_reducible rfl)
          refine wpAnyIn_ready (rs := [0]) (by kernel_rfl) (by simp) ?_
          refine AllReadyIn.cons rfl (fun K hK => ?_) ?_
          · go_simp
            refine hK _ _ ?_
            clear hK K
            refine wpAnyIn_take (i := 9) (v := ?_) rfl rfl (by kernel_rfl) (by kernel_rfl) (by kernel_rfl) (fun _ _ _ h => h) ⟨Or.inl ⟨by rfl, ?_⟩, fun _ => rfl⟩ ?_
            rotate_left
            focus (intro w; go_simp; try with_reducible rfl)
            refine wpAnyIn_ready (rs := [10]) (by kernel_rfl) (by simp) ?_
            refine AllReadyIn.cons rfl (fun K hK => ?_) ?_
            · go_simp
              refine hK _ _ ?_
              clear hK K
              refine wpAnyIn_ready (rs := [11]) (by kernel_rfl) (by simp) ?_
              refine AllReadyIn.cons rfl (fun K hK => ?_) ?_
              · go_simp
                refine hK _ _ ?_
                clear hK K
                refine wpAnyIn_done (by kernel_rfl) ?_ _
                gi_wp2
                exact divI_leaf hgl hN rfl HK.out HALL.out h2 H4.out H5.out H6.out H7.out Hd.out hd1 _
              exact AllReadyIn.nil
            exact AllReadyIn.nil
          exact AllReadyIn.nil
        exact AllReadyIn.nil
      exact AllReadyIn.nil
    exact AllReadyIn.nil
  case done =>
    rintro D xs W hD rfl hDI hK
    have hE := (divI_own (w := w) (g := g) (N := N) (n := ds.length) (c := c) (A := A) (f := f) (ds := ds) (dv := dv) (B := w0.heap.size) (by omega)).putObj (.deferred none) hDI hD hK rfl
    obtain ⟨r, qs, f', h1, h2, h3, h4, h5, h6, h7, h8, h9, h10, h11⟩ := hDI
    have hc1 := h1.cell
    have h1' := h1
    clear h1 h2 h3 h4 h5 h6 h7 h8 h9 h10 h11
    have HE := Lib.hid hE
    clear hE
    gi_wp2
    refine ⟨by simp, .inl ⟨_, _, rfl, run_takeDeferred hK, ?_⟩⟩
    refine ⟨_, results_tmp rfl _ _ _, ?_⟩
    obtain ⟨r2, qs, f', h1, h2, h3, h4, h5, h6, h7, h8, h9, h10, h11⟩ := HE.out
    rw [dn_len, Nat.sub_self] at h4 h5 h7
    have hr : r = r2 := by
      have hne : D ≠ w.heap.size + 1 + 1 := by
        intro e
        rw [e] at hK
        unfold One at h1'
        rw [h1'] at hK
        cases hK
      have e1 : (W.putObj D (.deferred none)).heap[w.heap.size + 1 + 1]? = W.heap[w.heap.size + 1 + 1]? := World.putObj_heap_other (by omega)
      unfold One at h1 h1'
      rw [h1', h1] at e1
      simp at e1
      omega
    exact ⟨r2, qs, f', by rw [hr]; rfl, h2, h3, fun i => by rw [h4 i]; simp, by omega, h6, by simpa using h7, h11⟩
  case stop =>
    rintro D c pre W _ _ h _
    exact h.elim
end Go.Proofs.YthfjbpbgnoonpaaGreatDoor
