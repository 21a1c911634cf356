/- A region that draws its order, walked once an operation: an invariant that speaks of what has come up. -/
import Derived.Test.YthfjbpbgnoonpaaGreatDoorRA
import Derived.Deep.RegionHeld3
namespace Go.Proofs.YthfjbpbgnoonpaaGreatDoor
open Go.RowKit

/-- Every edge leads back. -/
def depsUp (md : Region.Mode) (ops : Array Oper) : Bool := (List.range ops.size).all fun i => ((ops[i]?).map fun o => o.after.toList.all fun e => !Region.binds md e || decide (e.on < i)).getD true
theorem all_listed {md : Region.Mode} {ops : Array Oper} {listed : Array Bool} (hs : listed.size = ops.size) (hd : depsUp md ops = true) (h : Region.ready md ops listed = []) : ∀ i, i < ops.size → listed.getD i false = true := by
  intro i
  induction i using Nat.strongRecOn with
  | ind i ih =>
    intro hi
    cases hb : listed.getD i true with
    | false =>
      have : i ∈ Region.ready md ops listed := by
        refine mem_ready.2 ⟨hb, ops[i], by simp [hi], fun e he hbd => ?_⟩
        have h1 := List.all_eq_true.1 hd i (by simpa using hi)
        have h2 : e.on < i := by
          rw [Array.getElem?_eq_getElem hi] at h1
          simp only [Option.map_some, Option.getD_some] at h1
          have h4 := List.all_eq_true.1 h1 e (Array.mem_toList_iff.2 he)
          rw [hbd] at h4
          exact of_decide_eq_true h4
        exact ih e.on h2 (by omega)
      rw [h] at this
      cases this
    | true =>
      have h3 : i < listed.size := by omega
      simp [h3] at hb ⊢
      exact hb
theorem wpAny_inv {P : Program} {md : Region.Mode} {ops : Array Oper} {Q : Exit → Act → World → Prop} (I : (Nat → Bool) → Act → World → Prop) (hd : depsUp md ops = true)
    (hstep : ∀ i o, ops[i]? = some o → ∀ L a W, I L a W → L i = false → (∀ e, e ∈ o.after → Region.binds md e = true → L e.on = true) → wpOp P ops Q i (I (fun j => if j = i then true else L j)) a W)
    (hend : ∀ L a W, I L a W → (∀ i, i < ops.size → L i = true) → Q .normal a W) :
    ∀ (fuel : Nat) (listed : Array Bool) (a : Act) (w : World), listed.size = ops.size → listed.toList.count false ≤ fuel → I (fun j => listed.getD j false) a w → wpAny P md ops Q fuel listed a w
  | 0, listed, a, w, hs, hc, hI => by
    have hnil : Region.ready md ops listed = [] := by
      cases hr : Region.ready md ops listed with
      | nil => rfl
      | cons x xs =>
        have hx : x ∈ Region.ready md ops listed := by rw [hr]; exact .head _
        have h1 := (mem_ready.1 hx).1
        have h2 : x < listed.size := by
          rcases Nat.lt_or_ge x listed.size with h | h
          · exact h
          · simp [h] at h1
        have h3 : false ∈ listed.toList := by
          simp [h2] at h1
          rw [← h1]
          exact (Array.mem_toList_iff).2 (Array.getElem_mem h2)
        have := List.count_pos_iff.2 h3
        omega
    exact ⟨hnil, hend _ _ _ hI (all_listed hs hd hnil)⟩
  | fuel + 1, listed, a, w, hs, hc, hI => by
    refine ⟨fun hnil => hend _ _ _ hI (all_listed hs hd hnil), fun i hi => ?_⟩
    obtain ⟨h0, o, ho, hall⟩ := mem_ready.1 hi
    have hlt : i < ops.size := (Array.getElem?_eq_some_iff.1 ho).1
    have hlt2 : i < listed.size := by omega
    refine wpOp_mono (fun a' w' h' => ?_) (hstep i o ho _ a w hI (by simp [hlt2] at h0 ⊢; exact h0) hall)
    refine wpAny_inv I hd hstep hend fuel _ a' w' (by simpa using hs) ?_ ?_
    · have h1 : listed[i] = false := by simpa [hlt2] using h0
      have h2 : (listed.setIfInBounds i true).toList = listed.toList.set i true := by simp
      rw [h2, List.count_set (by simpa using hlt2)]
      simp only [Array.getElem_toList, h1]
      have hp : 0 < listed.toList.count false := List.count_pos_iff.2 (by rw [← h1]; exact Array.mem_toList_iff.2 (Array.getElem_mem hlt2))
      generalize listed.toList.count false = c at hc hp ⊢
      simp
      omega
    · have : (fun j => (listed.setIfInBounds i true).getD j false) = fun j => if j = i then true else listed.getD j false := by
        funext j
        by_cases hji : j = i
        · subst hji; simp [hlt2]
        · rw [if_neg hji, getD_set_ne false (Ne.symm hji)]
      rw [this]
      exact h'

def fillT (t : Array Value) (ds : List Nat) (f : Nat → Value) : Array Value := ds.foldl (fun t d => t.setIfInBounds d (f d)) t
def fillA (a : Act) (ds : List Nat) (f : Nat → Value) : Act := { tmps := fillT a.tmps ds f, defers := a.defers }
def upd (f : Nat → Value) (d : Nat) (v : Value) : Nat → Value := fun s => if s = d then v else f s
def setL (L : Nat → Bool) (i : Nat) : Nat → Bool := fun j => if j = i then true else L j
theorem fillT_out {d : Nat} {v : Value} {f : Nat → Value} : ∀ {ds : List Nat} {t : Array Value}, d ∉ ds → (fillT t ds f).setIfInBounds d v = fillT (t.setIfInBounds d v) ds f
  | [], _, _ => rfl
  | x :: xs, t, h => by
    have h1 : d ≠ x := fun e => h (e ▸ .head _)
    have h2 : d ∉ xs := fun e => h (.tail _ e)
    show (fillT (t.setIfInBounds x (f x)) xs f).setIfInBounds d v = fillT ((t.setIfInBounds d v).setIfInBounds x (f x)) xs f
    rw [fillT_out h2, Array.setIfInBounds_comm _ _ h1.symm]
theorem fillT_upd {d : Nat} {v : Value} {f : Nat → Value} : ∀ {ds : List Nat} {t : Array Value}, d ∉ ds → fillT t ds (upd f d v) = fillT t ds f
  | [], _, _ => rfl
  | x :: xs, t, h => by
    have h1 : x ≠ d := fun e => h (e ▸ .head _)
    have h2 : d ∉ xs := fun e => h (.tail _ e)
    show fillT (t.setIfInBounds x (upd f d v x)) xs (upd f d v) = fillT (t.setIfInBounds x (f x)) xs f
    rw [fillT_upd h2, show upd f d v x = f x by unfold upd; rw [if_neg h1]]
theorem fillT_put {d : Nat} {v : Value} {f : Nat → Value} : ∀ {ds : List Nat} {t : Array Value}, ds.Nodup → d ∈ ds → (fillT t ds f).setIfInBounds d v = fillT t ds (upd f d v)
  | x :: xs, t, hn, hm => by
    obtain ⟨hx, hn⟩ := List.nodup_cons.1 hn
    show (fillT (t.setIfInBounds x (f x)) xs f).setIfInBounds d v = fillT (t.setIfInBounds x (upd f d v x)) xs (upd f d v)
    by_cases hd : d = x
    · subst hd
      rw [fillT_out hx, fillT_upd hx, Array.setIfInBounds_setIfInBounds]
      unfold upd
      rw [if_pos rfl]
    · have hm : d ∈ xs := by rcases List.mem_cons.1 hm with h | h; (exact absurd h hd); exact h
      rw [fillT_put hn hm, show upd f d v x = f x by unfold upd; rw [if_neg (Ne.symm hd)]]
theorem fillT_same {t : Array Value} : ∀ {ds : List Nat}, fillT t ds (fun s => t.getD s undef) = t
  | [] => rfl
  | x :: xs => by
    have : t.setIfInBounds x (t.getD x undef) = t := by
      apply Array.ext
      · simp
      · intro i h1 h2
        rw [Array.getElem_setIfInBounds (by simpa using h1)]
        split
        · rename_i he; subst he; simp [h2]
        · rfl
    show fillT (t.setIfInBounds x (t.getD x undef)) xs _ = t
    rw [this]
    exact fillT_same
def StepZ (P : Program) (ops : Array Oper) (Q : Exit → Act → World → Prop) (a : Act) (ds : List Nat) (R : (Nat → Bool) → (Nat → Value) → World → Prop) (i : Nat) (o : Oper) : Prop :=
  ∀ L f W, R L f W → L i = false → (∀ e, e ∈ o.after → Region.binds .any e = true → L e.on = true) → ∀ K : Act → World → Prop, Shut (∀ f' W', R (setL L i) f' W' → K (fillA a ds f') W') →
    if Region.wanted o (yielded ops (fillA a ds f).tmps) = true then Oper.wp P o (fillA a ds f) W K Q else K ((fillA a ds f).put o.dst undef) W
def StepsZ (P : Program) (ops : Array Oper) (Q : Exit → Act → World → Prop) (a : Act) (ds : List Nat) (R : (Nat → Bool) → (Nat → Value) → World → Prop) : Nat → List Oper → Prop
  | _, [] => True
  | i, o :: os => StepZ P ops Q a ds R i o ∧ StepsZ P ops Q a ds R (i + 1) os
theorem stepsZ_get {P : Program} {ops : Array Oper} {Q : Exit → Act → World → Prop} {a : Act} {ds : List Nat} {R : (Nat → Bool) → (Nat → Value) → World → Prop} :
    ∀ {os : List Oper} {k : Nat}, StepsZ P ops Q a ds R k os → ∀ (i : Nat) (o : Oper), os[i]? = some o → StepZ P ops Q a ds R (k + i) o
  | [], _, _, i, o, h => by simp at h
  | x :: xs, k, hs, 0, o, h => by
    obtain rfl : x = o := by simpa using h
    exact hs.1
  | x :: xs, k, hs, i + 1, o, h => by
    have := stepsZ_get hs.2 i o (by simpa using h)
    rwa [show k + 1 + i = k + (i + 1) by omega] at this
/-- The region, by an invariant. -/
theorem wp_region_Z {P : Program} {id : Nat} {ops : Array Oper} {Q : Exit → Act → World → Prop} {a : Act} {w : World} (ds : List Nat) (R : (Nat → Bool) → (Nat → Value) → World → Prop) (hm : P.follows .mixedOrders = true) (hd : depsUp .any ops = true)
    (hR : R (fun _ => false) (fun s => a.tmps.getD s undef) w.drew) (hstep : StepsZ P ops Q a ds R 0 ops.toList)
    (hend : ∀ L f W, R L f W → (∀ i, i < ops.size → L i = true) → Q .normal (fillA a ds f) W) : (Code.region id ops true).wp P Q a w := by
  refine wp_region_any hm ?_
  refine wpAny_inv (fun L a' W => ∃ f, a' = fillA a ds f ∧ R L f W) hd ?_ ?_ _ _ _ _ (by simp) (by simp) ?_
  · rintro i o ho L a' W ⟨f, rfl, hf⟩ hi0 hall
    have h1 := stepsZ_get hstep i o (by simpa using ho)
    rw [Nat.zero_add] at h1
    exact wpOp_step ho fun K' hK => h1 L f W hf hi0 hall K' (fun f' W' h' => hK _ _ ⟨f', rfl, h'⟩)
  · rintro L a' W ⟨f, rfl, hf⟩ hall
    exact hend L f W hf hall
  · refine ⟨fun s => a.tmps.getD s undef, ?_, ?_⟩
    · show a = { tmps := fillT a.tmps ds _, defers := a.defers }
      rw [fillT_same]
    · have : (fun j => (Array.replicate ops.size false).getD j false) = fun _ => false := by
        funext j
        by_cases hj : j < ops.size <;> simp [hj]
      rw [this]
      exact hR
theorem fillA_put {a : Act} {ds : List Nat} {f : Nat → Value} {d : Nat} {v : Value} (hn : ds.Nodup) (hm : d ∈ ds) : (fillA a ds f).put (some d) v = fillA a ds (upd f d v) := by
  show { tmps := (fillT a.tmps ds f).setIfInBounds d v, defers := a.defers : Act } = _
  rw [fillT_put hn hm]
  rfl

/-- A box that the region makes: the operation that makes it, the one that stores into it, its slot, type, zero cells; what is known of the cells behind the store. -/
structure BF where
  al : Nat
  st : Nat
  slot : Nat
  ty : TypeId
  zero : List Value
  fact : World → List Value → Prop
structure ZOk (vals : List (Nat × Nat × (World → Value → Prop))) (bxs : List BF) : Prop where
  v : vals.Pairwise (fun e e' => e.1 ≠ e'.1 ∧ e.2.1 ≠ e'.2.1)
  b : bxs.Pairwise (fun e e' => e.al ≠ e'.al ∧ e.st ≠ e'.st ∧ e.slot ≠ e'.slot)
  vb : ∀ e, e ∈ vals → ∀ e', e' ∈ bxs → e.1 ≠ e'.al ∧ e.1 ≠ e'.st ∧ e.2.1 ≠ e'.slot
  als : ∀ e, e ∈ bxs → ∀ e', e' ∈ bxs → e.al ≠ e'.st
  sv : ∀ e, e ∈ vals → ∀ x, Stab (fun W => e.2.2 W x)
  sb : ∀ e, e ∈ bxs → (∀ x, Stab (fun W => e.fact W x)) ∧ 90 ≠ e.ty ∧ ∀ c, c ∈ e.zero → ∀ k z, c ≠ .int k z
theorem pw_eq {α : Type} {R : α → α → Prop} {l : List α} (h : l.Pairwise R) {x y : α} (hx : x ∈ l) (hy : y ∈ l) (h1 : ¬ R x y) (h2 : ¬ R y x) : x = y := by
  obtain ⟨i, hi, rfl⟩ := List.getElem_of_mem hx
  obtain ⟨j, hj, rfl⟩ := List.getElem_of_mem hy
  have hp := List.pairwise_iff_getElem.1 h
  rcases Nat.lt_trichotomy i j with hlt | rfl | hlt
  · exact absurd (hp i j hi hj hlt) h1
  · rfl
  · exact absurd (hp j i hj hi hlt) h2
def Zr (w1 : World) (vals : List (Nat × Nat × (World → Value → Prop))) (bxs : List BF) (L : Nat → Bool) (f : Nat → Value) (W : World) : Prop :=
  Below w1.heap.size w1 W ∧ (∀ e, e ∈ vals → L e.1 = true → e.2.2 W (f e.2.1)) ∧
  (∀ e, e ∈ bxs → L e.al = true → ∃ g cs, f e.slot = .pointer (some ⟨g, 0, none⟩) ∧ w1.heap.size ≤ g ∧ Blk W g cs e.ty ∧ (∀ c, c ∈ cs → ∀ k z, c ≠ .int k z) ∧ (L e.st = false → cs = e.zero) ∧ (L e.st = true → e.fact W cs)) ∧
  (∀ e, e ∈ bxs → ∀ e', e' ∈ bxs → e.slot ≠ e'.slot → L e.al = true → L e'.al = true → f e.slot ≠ f e'.slot) ∧ (∀ e, e ∈ bxs → L e.st = true → L e.al = true)
theorem setL_ne {L : Nat → Bool} {i j : Nat} (h : j ≠ i) : setL L i j = L j := by unfold setL; rw [if_neg h]
theorem upd_ne {f : Nat → Value} {i j : Nat} {v : Value} (h : j ≠ i) : upd f i v j = f j := by unfold upd; rw [if_neg h]
theorem upd_at {f : Nat → Value} {i : Nat} {v : Value} : upd f i v i = v := by unfold upd; rw [if_pos rfl]
theorem stepV {K : Act → World → Prop} {R : (Nat → Bool) → (Nat → Value) → World → Prop} {a : Act} {ds : List Nat} {L : Nat → Bool} {i d : Nat} {f : Nat → Value} (hK : Shut (∀ f' W', R (setL L i) f' W' → K (fillA a ds f') W')) (hn : ds.Nodup) (hm : d ∈ ds) :
    Hid (∀ v W', R (setL L i) (upd f d v) W' → K ((fillA a ds f).put (some d) v) W') := fun v W' h => by
  rw [fillA_put hn hm]
  exact hK.out _ _ h
theorem stepS {K : Act → World → Prop} {R : (Nat → Bool) → (Nat → Value) → World → Prop} {a : Act} {ds : List Nat} {L : Nat → Bool} {i : Nat} {f : Nat → Value} (hK : Shut (∀ f' W', R (setL L i) f' W' → K (fillA a ds f') W')) :
    Hid (∀ W', R (setL L i) f W' → K (fillA a ds f) W') := fun _ h => hK.out _ _ h
section
variable {w1 W W' : World} {vals : List (Nat × Nat × (World → Value → Prop))} {bxs : List BF} {L : Nat → Bool} {f : Nat → Value} {i d : Nat} {F : World → Value → Prop} {v : Value} {e : BF}
theorem Zr.begin (w1 : World) : Zr w1 vals bxs (fun _ => false) f w1 := ⟨Below.refl _ _, fun _ _ h => (by cases h), fun _ _ h => (by cases h), fun _ _ _ _ _ h => (by cases h), fun _ _ h => (by cases h)⟩
theorem Zr.get (h : Zr w1 vals bxs L f W) (n : Nat) (hn : vals[n]? = some (i, d, F)) (hL : L i = true) : F W (f d) := h.2.1 _ (List.mem_of_getElem? hn) hL
theorem Zr.box (h : Zr w1 vals bxs L f W) (n : Nat) (hn : bxs[n]? = some e) (hL : L e.al = true) : ∃ g cs, f e.slot = .pointer (some ⟨g, 0, none⟩) ∧ w1.heap.size ≤ g ∧ Blk W g cs e.ty ∧ (∀ c, c ∈ cs → ∀ k z, c ≠ .int k z) ∧ (L e.st = false → cs = e.zero) ∧ (L e.st = true → e.fact W cs) := h.2.2.1 _ (List.mem_of_getElem? hn) hL
theorem Zr.val (hok : ZOk vals bxs) (h : Zr w1 vals bxs L f W) (n : Nat) (hn : vals[n]? = some (i, d, F)) (hb : Below W.heap.size W W') (hF : F W' v) : Zr w1 vals bxs (setL L i) (upd f d v) W' := by
  have hm := List.mem_of_getElem? hn
  obtain ⟨h1, h2, h3, h4, h5⟩ := h
  have hx := fun e he => hok.vb _ hm e he
  simp only at hx
  have hs : ∀ e, e ∈ bxs → upd f d v e.slot = f e.slot := fun e he => upd_ne (hx e he).2.2.symm
  have ha : ∀ e, e ∈ bxs → setL L i e.al = L e.al := fun e he => setL_ne (hx e he).1.symm
  have ht : ∀ e, e ∈ bxs → setL L i e.st = L e.st := fun e he => setL_ne (hx e he).2.1.symm
  refine ⟨h1.trans (hb.mono h1.size), fun e he hL => ?_, fun e he hL => ?_, fun e he e' he' hne hL hL' => ?_, fun e he hL => ?_⟩
  · by_cases hi : e.1 = i
    · obtain rfl : e = (i, d, F) := pw_eq hok.v he hm (fun h => h.1 hi) (fun h => h.1 hi.symm)
      simp only
      rw [upd_at]
      exact hF
    · rw [setL_ne hi] at hL
      have hd : e.2.1 ≠ d := by
        intro hd
        obtain rfl : e = (i, d, F) := pw_eq hok.v he hm (fun h => h.2 hd) (fun h => h.2 hd.symm)
        exact hi rfl
      rw [upd_ne hd]
      exact (hok.sv e he _).low hb (h2 e he hL)
  · rw [ha e he] at hL
    obtain ⟨g, cs, e1, e2, e3, e4, e5, e6⟩ := h3 e he hL
    rw [hs e he, ht e he]
    exact ⟨g, cs, e1, e2, e3.step hb, e4, e5, fun hh => ((hok.sb e he).1 cs).low hb (e6 hh)⟩
  · rw [ha e he] at hL
    rw [ha e' he'] at hL'
    rw [hs e he, hs e' he']
    exact h4 e he e' he' hne hL hL'
  · rw [ht e he] at hL
    rw [ha e he]
    exact h5 e he hL
theorem Zr.alloc (hok : ZOk vals bxs) (h : Zr w1 vals bxs L f W) (n : Nat) (hn : bxs[n]? = some e) (hi : L e.al = false) : Zr w1 vals bxs (setL L e.al) (upd f e.slot (.pointer (some ⟨W.heap.size, 0, none⟩))) (W.alloc (.cells e.zero.toArray e.ty)) := by
  have hm := List.mem_of_getElem? hn
  have hb := (Below.refl W.heap.size W).alloc (Nat.le_refl _) (.cells e.zero.toArray e.ty)
  obtain ⟨h1, h2, h3, h4, h5⟩ := h
  have hst : L e.st = false := by
    cases hh : L e.st with
    | false => rfl
    | true => rw [h5 e hm hh] at hi; cases hi
  have ht : ∀ e', e' ∈ bxs → setL L e.al e'.st = L e'.st := fun e' he' => setL_ne (hok.als e hm e' he').symm
  have same : ∀ e', e' ∈ bxs → e'.al = e.al → e' = e := fun e' he' ha => pw_eq hok.b he' hm (fun h => h.1 ha) (fun h => h.1 ha.symm)
  have same2 : ∀ e', e' ∈ bxs → e'.slot = e.slot → e' = e := fun e' he' ha => pw_eq hok.b he' hm (fun h => h.2.2 ha) (fun h => h.2.2 ha.symm)
  refine ⟨h1.trans (hb.mono h1.size), fun x hx hL => ?_, fun x hx hL => ?_, fun x hx y hy hne hL hL' => ?_, fun x hx hL => ?_⟩
  · have hv := hok.vb x hx e hm
    rw [setL_ne hv.1] at hL
    rw [upd_ne hv.2.2]
    exact (hok.sv x hx _).low hb (h2 x hx hL)
  · by_cases ha : x.al = e.al
    · obtain rfl := same x hx ha
      rw [upd_at, ht x hx]
      exact ⟨_, _, rfl, h1.size, heap_alloc_new W _, (hok.sb x hx).2.2, fun _ => rfl, fun hh => by rw [hst] at hh; cases hh⟩
    · have hs : x.slot ≠ e.slot := fun hs => ha (by rw [same2 x hx hs])
      rw [setL_ne ha] at hL
      obtain ⟨g, cs, e1, e2, e3, e4, e5, e6⟩ := h3 x hx hL
      rw [upd_ne hs, ht x hx]
      exact ⟨g, cs, e1, e2, e3.step hb, e4, e5, fun hh => ((hok.sb x hx).1 cs).low hb (e6 hh)⟩
  · have old : ∀ z, z ∈ bxs → z.al ≠ e.al → setL L e.al z.al = true → f z.slot ≠ .pointer (some ⟨W.heap.size, 0, none⟩) := by
      intro z hz hza hzL he
      rw [setL_ne hza] at hzL
      obtain ⟨g, cs, e1, e2, e3, -⟩ := h3 z hz hzL
      rw [e1] at he
      have hlt := e3.lt
      simp at he <;> omega
    by_cases ha : x.al = e.al
    · obtain rfl := same x hx ha
      have hb2 : y.al ≠ x.al := fun hh => hne (by rw [same y hy hh])
      rw [upd_at, upd_ne hne.symm]
      exact (old y hy hb2 hL').symm
    · by_cases hb2 : y.al = e.al
      · obtain rfl := same y hy hb2
        rw [upd_at, upd_ne hne]
        exact old x hx ha hL
      · rw [setL_ne ha] at hL
        rw [setL_ne hb2] at hL'
        rw [upd_ne (fun hs => ha (by rw [same2 x hx hs])), upd_ne (fun hs => hb2 (by rw [same2 y hy hs]))]
        exact h4 x hx y hy hne hL hL'
  · rw [ht x hx] at hL
    have := h5 x hx hL
    unfold setL
    split
    · rfl
    · exact this
theorem Zr.store (hok : ZOk vals bxs) (h : Zr w1 vals bxs L f W) (n : Nat) (hn : bxs[n]? = some e) {g : Nat} {cs : List Value} (hg : f e.slot = .pointer (some ⟨g, 0, none⟩)) (hL : L e.al = true) (hb : Below w1.heap.size w1 W') (hfar : ∀ P : World → Prop, Stab P → P W → P W')
    (hot : ∀ g', g' ≠ g → W'.heap[g']? = W.heap[g']?) (hbk : Blk W' g cs e.ty) (hcs : ∀ c, c ∈ cs → ∀ k z, c ≠ .int k z) (hF : e.fact W' cs) : Zr w1 vals bxs (setL L e.st) f W' := by
  have hm := List.mem_of_getElem? hn
  obtain ⟨h1, h2, h3, h4, h5⟩ := h
  have ha : ∀ e', e' ∈ bxs → setL L e.st e'.al = L e'.al := fun e' he' => setL_ne (hok.als e' he' e hm)
  refine ⟨hb, fun x hx hL => ?_, fun x hx hL => ?_, fun x hx y hy hne hL hL' => ?_, fun x hx hL => ?_⟩
  · rw [setL_ne (hok.vb x hx e hm).2.1] at hL
    exact hfar _ (hok.sv x hx _) (h2 x hx hL)
  · rw [ha x hx] at hL
    obtain ⟨g2, cs2, e1, e2, e3, e4, e5, e6⟩ := h3 x hx hL
    by_cases hs : x.st = e.st
    · obtain rfl : x = e := pw_eq hok.b hx hm (fun h => h.2.1 hs) (fun h => h.2.1 hs.symm)
      rw [hg] at e1
      obtain rfl : g = g2 := by simpa using e1
      refine ⟨g, cs, hg, e2, hbk, hcs, fun hh => ?_, fun _ => hF⟩
      simp [setL] at hh
    · have hsl : x.slot ≠ e.slot := by
        intro hsl
        obtain rfl : x = e := pw_eq hok.b hx hm (fun h => h.2.2 hsl) (fun h => h.2.2 hsl.symm)
        exact hs rfl
      have hgg : g2 ≠ g := by
        rintro rfl
        exact h4 x hx e hm hsl hL ‹_› (by rw [e1, hg])
      rw [setL_ne hs]
      exact ⟨g2, cs2, e1, e2, (hot g2 hgg).trans e3, e4, e5, fun hh => hfar _ ((hok.sb x hx).1 cs2) (e6 hh)⟩
  · rw [ha x hx] at hL
    rw [ha y hy] at hL'
    exact h4 x hx y hy hne hL hL'
  · by_cases hs : x.st = e.st
    · obtain rfl : x = e := pw_eq hok.b hx hm (fun h => h.2.1 hs) (fun h => h.2.1 hs.symm)
      rw [ha x hx]; assumption
    · rw [setL_ne hs] at hL
      rw [ha x hx]
      exact h5 x hx hL
theorem wp_region_Y {P : Program} {id : Nat} {ops : Array Oper} {Q : Exit → Act → World → Prop} {a : Act} {w : World} (hok : ZOk vals bxs) (ds : List Nat) (hm : P.follows .mixedOrders = true) (hd : depsUp .any ops = true)
    (hstep : StepsZ P ops Q a ds (Zr w.drew vals bxs) 0 ops.toList) (hend : ∀ L f W, Zr w.drew vals bxs L f W → (∀ i, i < ops.size → L i = true) → Q .normal (fillA a ds f) W) : (Code.region id ops true).wp P Q a w :=
  wp_region_Z ds _ hm hd (Zr.begin _) hstep hend
/-- A store into a box of one cell. -/
theorem Zr.store1 (hok : ZOk vals bxs) (h : Zr w1 vals bxs L f W) (n : Nat) (hn : bxs[n]? = some e) {g : Nat} {x u : Value} (hg : f e.slot = .pointer (some ⟨g, 0, none⟩)) (hL : L e.al = true) (hs : L e.st = false) (hz : e.zero = [x]) (hu : ∀ k z, u ≠ .int k z)
    (hF : e.fact W [u]) : Zr w1 vals bxs (setL L e.st) f (W.setCell ⟨g, 0, none⟩ u) := by
  have hm := List.mem_of_getElem? hn
  obtain ⟨g2, cs, e1, e2, e3, e4, e5, e6⟩ := h.box n hn hL
  rw [hg] at e1
  obtain rfl : g = g2 := by simpa using e1
  obtain rfl : cs = [x] := (e5 hs).trans hz
  have hok2 : Okp W ⟨g, 0, none⟩ := ⟨e.ty, x, e3.row, (hok.sb e hm).2.1, e3.cell rfl, e4 x (.head _)⟩
  exact Zr.store hok h n hn hg hL (h.1.setCell e2 u (p := ⟨g, 0, none⟩)) (fun P hP hPW => hP.far u hok2 hPW) (fun g' hg' => Below.heap_setCell W ⟨g, 0, none⟩ u g' hg') (e3.set_ 0 u)
    (fun c hc => by obtain rfl : c = u := by simpa using hc
                    exact hu) (((hok.sb e hm).1 [u]).far u hok2 hF)
/-- The blocks of B are old ones, or boxes of the slots ss. -/
def Fr (w1 : World) (bxs : List BF) (L : Nat → Bool) (f : Nat → Value) (ss : List Nat) (B : List (Nat × List Value × TypeId)) : Prop :=
  ∀ q, q ∈ B → q.1 < w1.heap.size ∨ ∃ e, e ∈ bxs ∧ e.slot ∈ ss ∧ L e.al = true ∧ f e.slot = .pointer (some ⟨q.1, 0, none⟩)
theorem Fr.begin {w w0 : World} {Ls : List (World → Prop)} {B : List (Nat × List Value × TypeId)} (S : Sr w Ls B w0) : Fr w0.drew bxs L f [] B := fun q hq => .inl (S.2.1 q hq).1.lt
theorem Zr.take {w : World} {Ls : List (World → Prop)} {B : List (Nat × List Value × TypeId)} {ss : List Nat} (hok : ZOk vals bxs) (h : Zr w1 vals bxs L f W) (S : Sr w Ls B W) (hw : w.heap.size ≤ w1.heap.size) (hfr : Fr w1 bxs L f ss B) (n : Nat) (hn : bxs[n]? = some e) (ha : L e.al = true) (hs : L e.st = true) (hss : e.slot ∉ ss) :
    ∃ g cs, f e.slot = .pointer (some ⟨g, 0, none⟩) ∧ e.fact W cs ∧ Sr w Ls ((g, cs, e.ty) :: B) W ∧ Fr w1 bxs L f (e.slot :: ss) ((g, cs, e.ty) :: B) := by
  have hm := List.mem_of_getElem? hn
  obtain ⟨g, cs, e1, e2, e3, e4, e5, e6⟩ := h.box n hn ha
  refine ⟨g, cs, e1, e6 hs, S.add e3 (by omega) (hok.sb e hm).2.1 e4 (fun q hq he => ?_), fun q hq => ?_⟩
  · rcases hfr q hq with hlt | ⟨x, hx, hxs, hxa, hxf⟩
    · omega
    · have hne : x.slot ≠ e.slot := fun hh => hss (hh ▸ hxs)
      exact h.2.2.2.1 x hx e hm hne hxa ha (by rw [hxf, e1, he])
  · rcases List.mem_cons.1 hq with rfl | hq
    · exact .inr ⟨e, hm, .head _, ha, e1⟩
    · rcases hfr q hq with hlt | ⟨x, hx, hxs, hxa, hxf⟩
      · exact .inl hlt
      · exact .inr ⟨x, hx, .tail _ hxs, hxa, hxf⟩
end
end Go.Proofs.YthfjbpbgnoonpaaGreatDoor
