/- A region that draws its order, inside the fence that binds nothing: walked with held cells. -/
import Derived.Test.YtapblmbjbpkieaaDoorIter
import Derived.Test.YtapblmbjbpkieaaDoorRow
import Derived.Deep.RegionHeld3
namespace Go.Proofs.YtapblmbjbpkieaaDoor
open Go.RowKit

theorem oper_wide {n : Nat} {P : Program} {o : Oper} {a : Act} {w : World} {K : Act → World → Prop} {Q : Exit → Act → World → Prop} (h : o.wp P a w K Q) : o.wpIn Fence.wide n P a w K Q := by
  unfold Oper.wp at h
  unfold Oper.wpIn
  refine ⟨fun _ _ => trivial, ?_⟩
  have e : o.semAt Fence.wide.round a.eval = execOp a.eval o := Oper.semAt_none _ _
  rw [e]
  generalize (execOp a.eval o).run P w = r at h ⊢
  cases r with
  | ok x w' =>
    cases x with
    | value v => exact h
    | skip => exact h
    | defer d => exact h
    | enter f args => exact ⟨fun hd => (by cases hd), callsIn_wide.2 h⟩
    | row row args => exact ⟨fun hd => (by cases hd), fun c cs _ => let ⟨v, w', r, s⟩ := h c cs; ⟨v, w', r, stepsIn_wide.2 s⟩⟩
    | _ => exact h.elim
  | halt x w' =>
    cases x with
    | panic v => exact h
    | _ => exact h.elim
theorem wpAnyIn_of_any {n : Nat} {P : Program} {md : Region.Mode} {ops : Array Oper} {Q : Exit → Act → World → Prop} (hQ : ¬ LetsOut Q) :
    ∀ (fuel : Nat) (listed : Array Bool) (a : Act) (w : World), wpAny P md ops Q fuel listed a w → wpAnyIn Fence.wide n P md ops Q fuel listed a w := by
  intro fuel
  induction fuel with
  | zero => intro listed a w h; exact h
  | succ fuel ih =>
    intro listed a w h
    refine ⟨h.1, fun i hi => ?_⟩
    have h1 := h.2 i hi
    unfold wpOp at h1
    unfold wpOpIn
    cases ho : ops[i]? with
    | none => simp only [ho] at h1 ⊢; exact ih _ _ _ h1
    | some o =>
      simp only [ho] at h1 ⊢
      split
      · rename_i hw
        rw [if_pos hw] at h1
        rcases h1 with h1 | h1
        · exact Oper.wpIn_mono (fun a w h => ih _ _ _ h) (oper_wide h1)
        · exact absurd h1.2 hQ
      · rename_i hw
        rw [if_neg hw] at h1
        exact ⟨fun _ _ => trivial, ih _ _ _ h1⟩
theorem wpAnyIn_of_held {n : Nat} {P : Program} {md : Region.Mode} {ops : Array Oper} {Q : Exit → Act → World → Prop} (S : World → Prop) (hQ : ¬ LetsOut Q) {fuel : Nat} {listed : Array Bool} {a : Act} {w : World}
    (hS : S w) (h : S w → wpAnyH P md ops Q S fuel listed a w) : wpAnyIn Fence.wide n P md ops Q fuel listed a w :=
  wpAnyIn_of_any hQ _ _ _ _ (wpAny_of_held _ _ _ _ (h hS))
/-- The code ends normally, whatever the post says of other ends. -/
theorem wpIn_calm {F : Fence} {n : Nat} {P : Program} {c : Code} {Q : Exit → Act → World → Prop} {a : Act} {w : World} (h : c.wpIn F n P (Exit.then (fun a w => Q .normal a w) (fun _ _ _ => False)) a w) : c.wpIn F n P Q a w :=
  wpIn_mono h (by rintro e a w h; cases e <;> first | exact h | exact h.elim)
/-- A region that draws its order, with held cells: inside the fence that binds nothing. -/
theorem wpIn_region_held {id n : Nat} {P : Program} {ops : Array Oper} {Q : Exit → Act → World → Prop} {a : Act} {w : World} (S : World → Prop) (hm : P.follows .mixedOrders = true) (hS : S w.drew)
    (h : S w.drew → wpAnyH P .any ops (Exit.then (fun a w => Q .normal a w) (fun _ _ _ => False)) S ops.size (Array.replicate ops.size false) a w.drew) : (Code.region id ops true).wpIn Fence.wide n P Q a w :=
  wpIn_calm (wpIn_region_any hm (wpAnyIn_of_held S (by rintro ⟨a, w', h⟩; exact h) hS h))
/-- The same in a round of a range over a function. -/
theorem wpIn_region_round {id n l : Nat} {P : Program} {ops : Array Oper} {Q : Exit → Act → World → Prop} {a : Act} {w : World} (S : World → Prop) (hnd : noDefer ops = true) (hm : P.follows .mixedOrders = true) (hS : S w.drew)
    (h : S w.drew → wpAnyH P .any ops (Exit.then (fun a w => Q .normal a w) (fun _ _ _ => False)) S ops.size (Array.replicate ops.size false) a w.drew) : (Code.region id ops true).wpIn (Fence.wide.inRound l) n P Q a w :=
  wpIn_calm (wpIn_region_any hm (wpAnyIn_inRound rfl (no_defer hnd) _ _ _ _ (wpAnyIn_of_held S (by rintro ⟨a, w', h⟩; exact h) hS h)))
/-- wpAnyH_take, with the slot told by itself: the state stays written out. -/
theorem wpAnyH_takeD {P : Program} {ops : Array Oper} {Q : Exit → Act → World → Prop} {md : Region.Mode} {S : World → Prop} (i : Nat) {oi : Oper} {v : Value} {d : Tmp} {fuel : Nat} {listed : Array Bool} {a : Act} {w : World} (hi : ops[i]? = some oi)
    (hd : (ops[i]?.bind fun o => o.dst) = some d)
    (hs : Region.noSelect ops = true) (hf : Region.free md ops listed i = true) (hr : (Region.ready md ops listed).contains i = true)
    (hQ : ∀ c a w, Q (.panic c) (a.put oi.dst v) w → Q (.panic c) a w) (hy : YieldsIf P ops S oi v a) (hS : S w)
    (h : wpAnyH P md ops Q S fuel (listed.setIfInBounds i true) { tmps := a.tmps.setIfInBounds d v, defers := a.defers } w) : wpAnyH P md ops Q S (fuel + 1) listed a w := by
  have e : oi.dst = some d := by
    rw [hi] at hd
    exact hd
  refine wpAnyH_take hi hs hf hr hQ hy hS ?_
  unfold Act.put
  rw [e]
  exact h
theorem row_of_make {w w' : World} {base n : Nat} {e : TypeId} {z : Value} (hz : z.cells = #[z]) (hown : w'.ownsRow base e 1 (.slice (some ⟨w.heap.size, 0, none⟩) n n) n (madeCells z.cells (n * 1)).toList) : Row w' w.heap.size e n (fun _ => z) := by
  rcases hown.2 with ⟨h0, _⟩ | ⟨g, cap, cur, h0, _, hh, hcap, _, hcs, htake⟩
  · cases h0
  · obtain ⟨h5, _, rfl⟩ := Value.slice.inj h0
    injection h5 with h5
    injection h5 with h5
    subst h5
    unfold Row
    rw [hh]
    have hcur : cur = (vals (fun _ => z) n).toArray := by
      apply Array.ext'
      have h6 : cur.toList.take (n * 1) = cur.toList := List.take_of_length_le (by rw [Array.length_toList, hcs]; exact Nat.le_refl _)
      rw [← h6, htake]
      rw [hz]
      simp only [madeCells, Nat.mul_one, Array.toList_map, Array.toList_range, vals]
      exact List.map_congr_left fun j _ => by simp [Nat.mod_one]
    rw [hcur]
/-- make, inside a fence. -/
theorem wpListIn_make_row {F : Fence} {nn : Nat} {P : Program} {w : World} {ops : Array Oper} {rest : List Oper} {o : Oper} {a : Act} {Q : Exit → Act → World → Prop} (hg : o.guard = none) (l c : Operand) (t : TypeId) (hop : o.op = Op.makeSlice t l c)
    (e : TypeId) (i : TypeInfo) (z : Value) (h1 : P.underlying t = some (.slice e)) (h2 : P.info? e = some i) (h3 : i.zero = some z) (h4 : i.size = 1) (hz : z.cells = #[z])
    (kl kc : IntKind) (L C : Int) (n : Nat) (hl : a.eval l = .int kl L) (hc : a.eval c = .int kc C) (hL : L = (n : Int)) (hC : C = (n : Int)) (b2 : i.bytes * n ≤ 281474976710656) (b3 : n ≤ maxLen)
    (w0 : World) (base : Nat) (hb : Below base w0 w) (hbase : base ≤ w.heap.size)
    (hK : ∀ w', Hid (Row w' w.heap.size e n (fun _ => z)) → Hid (Below base w0 w') → Hid (w.heap.size < w'.heap.size) → wpListIn F nn P ops Q rest (a.put o.dst (.slice (some ⟨w.heap.size, 0, none⟩) n n)) w') :
    wpListIn F nn P ops Q (o :: rest) a w := by
  refine wpListIn_plain hg fun K hK' => ?_
  obtain ⟨w', hrun, r1, r2⟩ := run_make_full (P := P) w w.heap.size t e i z 1 h1 h2 h3 h4 kl kc n b2 b3 (Nat.le_refl _)
  subst hL
  subst hC
  unfold Oper.wpIn
  refine ⟨?_, ?_⟩
  · simp [Oper.about, hop]
  · rw [Oper.semAt_plain F _ _ (by rw [hop]; intro c hc'; cases hc')]
    simp [execOp, hop, hl, hc, hrun, Result.andThen]
    have hrow := row_of_make hz r1
    exact hK' _ _ (hK w' hrow (hb.grown r2 hbase (fun k hk => by cases hk)) hrow.lt)
end Go.Proofs.YtapblmbjbpkieaaDoor
