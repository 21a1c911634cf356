/- Rows of fractions in the law RationalSum: the state of its first loop, the lists behind it. -/
import Derived.Test.YthfjbpbgnoonpaaGreatDoorSD
import Derived.Test.YthfjbpbgnoonpaaGreatDoorRU
import Derived.Test.YthfjbpbgnoonpaaGreatDoorRYb
namespace Go.Proofs.YthfjbpbgnoonpaaGreatDoor
open Go.RowKit

abbrev TF : TypeId := 34
/-- What is asked of the fact that an element carries. -/
structure FK (T : TypeId) (F : World → Value → Rat → Nat → Prop) : Prop where
  stab : ∀ v q a, Stab fun W => F W v q a
  one : ∀ {W : World} {x : C3} {q : Rat} {a : Nat}, F W (.agg #[x.1, x.2.1, x.2.2]) q a → ∀ u ∈ enc3 x, (∀ k z, u ≠ .int k z) ∧ u.oneCell' = true
  ne : 90 ≠ T
theorem fkP : FK TP RatP := ⟨stab_ratP, fun h => h.one, by decide⟩
theorem RatF.one {W : World} {x : C3} {q : Rat} {a : Nat} (h : RatF W (.agg #[x.1, x.2.1, x.2.2]) q a) : ∀ u ∈ enc3 x, (∀ k z, u ≠ .int k z) ∧ u.oneCell' = true := by
  obtain ⟨A, n, c, A2, n2, c2, e⟩ := RatF.shape h
  injection e with e
  simp at e
  obtain ⟨e1, e2, e3⟩ := e
  intro u hu
  simp only [enc3, List.mem_cons, List.not_mem_nil, or_false] at hu
  rcases hu with rfl | rfl | rfl
  · rw [e1]; exact ⟨noint_bool, rfl⟩
  · rw [e2]; exact ⟨noint_slice, rfl⟩
  · rw [e3]; exact ⟨noint_slice, rfl⟩
theorem fkF : FK TF RatF := ⟨stab_ratF, fun h => h.one, by decide⟩
/-- A row of the call's own: n fractions. -/
structure RowZ (T : TypeId) (F : World → Value → Rat → Nat → Prop) (W : World) (base : Nat) (v : Value) (n : Nat) (f : RQ) : Prop where
  own : ∃ M : List C3, W.ownsRow base T 3 v M.length (fl3 M) ∧ M.length = n ∧ ∀ i x, M[i]? = some x → F W (.agg #[x.1, x.2.1, x.2.2]) (f i).1 (f i).2
  noi : NoI W v
section
variable {T T2 : TypeId} {F : World → Value → Rat → Nat → Prop} {W W' : World} {base : Nat} {v v2 : Value} {n : Nat} {f : RQ}
theorem RowZ.nil (T : TypeId) (F : World → Value → Rat → Nat → Prop) (W : World) (base : Nat) (f : RQ) : RowZ T F W base (.slice none 0 0) 0 f :=
  ⟨⟨[], World.ownsRow_nil _ _ _ _, rfl, fun i x h => by simp at h⟩, fun g hg => by simp [Value.ownBlock] at hg⟩
theorem RowZ.lt (h : RowZ T F W base v n f) : ∀ k, v.ownBlock = some k → base ≤ k ∧ k < W.heap.size := by obtain ⟨M, h1, -⟩ := h.own; exact h1.lt
theorem RowZ.kind (h : RowZ T F W base v n f) : ∀ g, v.ownBlock = some g → ∃ c fz, W.heap[g]? = some (.cells c T fz) := by obtain ⟨M, h1, -⟩ := h.own; exact Lib.ownsRow_kind h1
/-- Stays, where its block and what its elements say stay. -/
theorem RowZ.kept (hF : FK T F) (h : RowZ T F W base v n f) {row : Option Nat} (hg : W.grownBy W' row) (hne : v.ownBlock = none ∨ v.ownBlock ≠ row) (hs : ∀ P, Stab P → P W → P W') : RowZ T F W' base v n f := by
  obtain ⟨M, h1, h2, h3⟩ := h.own
  refine ⟨⟨M, h1.kept hg hne, h2, fun i x hx => hs _ (hF.stab _ _ _) (h3 i x hx)⟩, fun g hgb c t fz hh => ?_⟩
  have hlt := (h.lt g hgb).2
  rw [hg.block g hlt (by
    rcases hne with h | h
    · rw [hgb] at h; cases h
    · rw [hgb] at h; exact h)] at hh
  exact h.noi g hgb c t fz hh
theorem RowZ.below (hF : FK T F) (h : RowZ T F W base v n f) (hb : Below W.heap.size W W') : RowZ T F W' base v n f :=
  h.kept hF (row := none) ⟨hb.os, hb.tape, hb.output, hb.size, fun i hi _ => hb.block i hi⟩ (by cases v.ownBlock <;> simp) (fun _ hP hW => hP.low hb hW)
/-- Two rows of different types lie apart. -/
theorem rows_apart {G : World → Value → Rat → Nat → Prop} {m : Nat} {f2 : RQ} (h : RowZ T F W base v n f) (h2 : RowZ T2 G W base v2 m f2) (hne : T ≠ T2) : v.ownBlock = none ∨ v.ownBlock ≠ v2.ownBlock := by
  cases hv : v.ownBlock with
  | none => exact .inl rfl
  | some g =>
    right
    intro e
    obtain ⟨c, fz, h3⟩ := h.kind g hv
    obtain ⟨c2, fz2, h4⟩ := h2.kind g e.symm
    rw [h3] at h4
    injection h4 with h4
    injection h4 with _ h5 _
    exact hne h5
theorem blk_apart {g : Nat} {cs : List Value} (hb : Blk W g cs T2) (h : RowZ T F W base v n f) (hne : T ≠ T2) : some g ≠ v.ownBlock := by
  intro e
  obtain ⟨c, fz, h3⟩ := h.kind g e.symm
  rw [hb] at h3
  injection h3 with h3
  injection h3 with _ h5 _
  exact hne h5.symm
/-- append of one element. -/
theorem RowZ.push (hF : FK T F) {t ty : TypeId} (ht : Tryz.prog.underlying t = some (.slice T)) (hi : (Tryz.prog.info? T).map (fun i => (i.zero, i.size, i.bytes)) = some (some (.agg #[.bool false, .slice none 0 0, .slice none 0 0]), 3, 56))
    (h : RowZ T F W base v n f) {x : C3} (hx : F W (.agg #[x.1, x.2.1, x.2.2]) (f n).1 (f n).2) {gb c : Nat} (hb : Blk W gb (enc3 x) T2) (hn : n ≤ 1000) (hbase : base ≤ W.heap.size) :
    ∃ v' W', (Builtin.append_ #[t, t] ty #[v, .slice (some ⟨gb, 0, none⟩) 1 c]).run Tryz.prog W = .ok v' W' ∧ RowZ T F W' base v' (n + 1) f ∧ (∀ P, Stab P → P W → P W') ∧ W.grownBy W' v.ownBlock ∧ (v'.ownBlock = v.ownBlock ∨ v'.ownBlock = some W.heap.size) := by
  obtain ⟨M, h1, h2, h3⟩ := h.own
  subst h2
  obtain ⟨i0, hi0, hz, h4, h5⟩ := info_three hi
  obtain ⟨v', W', k1, k2, k3, k4, k5, k6⟩ := app3 (ty := ty) ht hi0 hz h4 h5 (by omega) rfl hF.ne h1 h.noi x (hF.one hx) hb (c := c) hn hbase
  refine ⟨v', W', k1, ⟨⟨M ++ [x], k2, by simp, fun i y hy => ?_⟩, k3⟩, k4, k5, k6⟩
  rcases Nat.lt_or_ge i M.length with hlt | hge
  · rw [List.getElem?_append_left hlt] at hy
    exact k4 _ (hF.stab _ _ _) (h3 i y hy)
  · rw [List.getElem?_append_right hge] at hy
    have hi1 : i - M.length = 0 := by
      have := (List.getElem?_eq_some_iff.1 hy).1
      simp at this
      omega
    rw [hi1] at hy
    simp at hy
    subst hy
    obtain rfl : i = M.length := by omega
    exact k4 _ (hF.stab _ _ _) hx
/-- Its elements, in memory. -/
theorem RowZ.form (h : RowZ T F W base v n f) : ∃ A c, v = .slice A n c ∧ ∀ i, i < n → ∃ g, ∃ x : C3, A = some ⟨g, 0, none⟩ ∧ g < W.heap.size ∧ W.cell? ⟨g, i * 3, none⟩ = some x.1 ∧ W.cell? ⟨g, i * 3 + 1, none⟩ = some x.2.1 ∧ W.cell? ⟨g, i * 3 + 2, none⟩ = some x.2.2 ∧ F W (.agg #[x.1, x.2.1, x.2.2]) (f i).1 (f i).2 := by
  obtain ⟨M, h1, h2, h3⟩ := h.own
  subst h2
  rcases h1.2 with ⟨rfl, h4⟩ | ⟨g, cap, cur, rfl, hb, hg, hc, hm, hcs, htk⟩
  · exact ⟨none, 0, by rw [h4], fun i hi => by omega⟩
  · refine ⟨_, cap, rfl, fun i hi => ⟨g, M[i], rfl, (h1.lt g rfl).2, ?_, ?_, ?_, h3 i _ (List.getElem?_eq_getElem hi)⟩⟩
    · exact (h1.cellAt (i * 3 + 0) (by omega)).trans (fl3_get M hi 0 (by omega))
    · exact (h1.cellAt (i * 3 + 1) (by omega)).trans (fl3_get M hi 1 (by omega))
    · exact (h1.cellAt (i * 3 + 2) (by omega)).trans (fl3_get M hi 2 (by omega))
theorem RowZ.al (h : RowZ TP RatP W base v n f) : AL W v n f := by
  obtain ⟨M, h1, h2, h3⟩ := h.own
  subst h2
  rcases h1.2 with ⟨rfl, h4⟩ | ⟨g, cap, cur, rfl, -⟩
  · exact ⟨none, 0, M, by rw [h4], rfl, fun h => by omega, h3⟩
  · refine ⟨_, cap, M, rfl, rfl, fun _ => ⟨g, rfl, fun j u hu => ?_⟩, h3⟩
    have hj := (List.getElem?_eq_some_iff.1 hu).1
    rw [fl3_len] at hj
    exact (h1.cellAt j hj).trans hu
theorem RowZ.alf (h : RowZ TF RatF W base v n f) : ALF W v n f := by
  obtain ⟨A, c, e, h1⟩ := h.form
  refine ⟨A, c, e, fun i hi => ?_⟩
  obtain ⟨g, x, k1, k2, k3, k4, k5, k6⟩ := h1 i hi
  obtain ⟨A1, m1, c1, A2, m2, c2, e2⟩ := RatF.shape k6
  obtain ⟨x1, x2, x3⟩ := x
  injection e2 with e2
  simp at e2
  obtain ⟨rfl, rfl, rfl⟩ := e2
  exact ⟨g, _, A1, m1, c1, A2, m2, c2, k1, k2, k3, k4, k5, k6⟩
end
/-- An append, as an operation. -/
theorem wp_app {o : Oper} {a : Act} {K : Act → World → Prop} {Q : Exit → Act → World → Prop} {w w' : World} {v u v' : Value} (s x : Operand) (t : TypeId)
    (ho : o.op = .call { callee := .builtin .append, args := #[s, x], argTypes := #[t, t] }) (hs : a.eval s = v) (hx : a.eval x = u)
    (hr : (Builtin.append_ #[t, t] o.type #[v, u]).run Tryz.prog w = .ok v' w') (h : K (a.put o.dst v') w') : o.wp Tryz.prog a w K Q := by
  unfold Oper.wp execOp
  simp only [ho, resolve, invoke, builtin, Sem.run_bind, Sem.run_pure, Result.andThen_ok, List.map_toArray, List.map_cons, List.map_nil, hs, hx, hr]
  exact h
theorem wpList_app {ops : Array Oper} {rest : List Oper} {o : Oper} {a : Act} {Q : Exit → Act → World → Prop} {w w' : World} {v u v' : Value} (hgd : o.guard = none) (s x : Operand) (t : TypeId)
    (ho : o.op = .call { callee := .builtin .append, args := #[s, x], argTypes := #[t, t] }) (hs : a.eval s = v) (hx : a.eval x = u)
    (hr : (Builtin.append_ #[t, t] o.type #[v, u]).run Tryz.prog w = .ok v' w') (h : wpList Tryz.prog ops Q rest (a.put o.dst v') w') : wpList Tryz.prog ops Q (o :: rest) a w :=
  wpList_plain hgd fun _ hK => wp_app s x t ho hs hx hr (hK _ _ h)

/-- The first loop's state in its drawn region: boxes at g1, g2; rows vA, vX; the new elements' blocks GP, GF. -/
structure S15 (w W : World) (vA vX : Value) (ka kx i : Nat) (f : RQ) (cP cF : C3) (g1 g2 : Nat) (GP GF : Option Nat) : Prop where
  a : RowZ TP RatP W w.heap.size vA ka f
  x : RowZ TF RatF W w.heap.size vX kx f
  fp : RatP W (.agg #[cP.1, cP.2.1, cP.2.2]) (f i).1 (f i).2
  ff : RatF W (.agg #[cF.1, cF.2.1, cF.2.2]) (f i).1 (f i).2
  b1 : Blk W g1 (enc3 cP) TP
  b2 : Blk W g2 (enc3 cF) TF
  n1 : vA.ownBlock ≠ some g1
  n2 : vX.ownBlock ≠ some g2
  gp : ∀ g, GP = some g → Blk W g (enc3 cP) TP
  gf : ∀ g, GF = some g → Blk W g (enc3 cF) TF
  low : Below w.heap.size w W
section
variable {w W W' : World} {vA vX : Value} {ka kx i g1 g2 : Nat} {f : RQ} {cP cF : C3} {GP GF : Option Nat}
theorem S15.below (h : S15 w W vA vX ka kx i f cP cF g1 g2 GP GF) (hb : Below W.heap.size W W') : S15 w W' vA vX ka kx i f cP cF g1 g2 GP GF :=
  ⟨h.a.below fkP hb, h.x.below fkF hb, h.fp.below hb, h.ff.below hb, h.b1.step hb, h.b2.step hb, h.n1, h.n2, fun g hg => (h.gp g hg).step hb, fun g hg => (h.gf g hg).step hb, h.low.trans (hb.mono h.low.size)⟩
theorem S15.drew (h : S15 w W vA vX ka kx i f cP cF g1 g2 GP GF) : S15 w W.drew vA vX ka kx i f cP cF g1 g2 GP GF := h.below ((Below.refl _ _).drew)
theorem S15.mkP (h : S15 w W vA vX ka kx i f cP cF g1 g2 GP GF) : S15 w (W.alloc (.cells #[cP.1, cP.2.1, cP.2.2] TP)) vA vX ka kx i f cP cF g1 g2 (some W.heap.size) GF := by
  have hb := (Below.refl W.heap.size W).alloc (Nat.le_refl _) (.cells #[cP.1, cP.2.1, cP.2.2] TP)
  have h2 := h.below hb
  exact { h2 with gp := fun g hg => by injection hg with hg; subst hg; exact heap_alloc_new W _ }
theorem S15.mkF (h : S15 w W vA vX ka kx i f cP cF g1 g2 GP GF) : S15 w (W.alloc (.cells #[cF.1, cF.2.1, cF.2.2] TF)) vA vX ka kx i f cP cF g1 g2 GP (some W.heap.size) := by
  have hb := (Below.refl W.heap.size W).alloc (Nat.le_refl _) (.cells #[cF.1, cF.2.1, cF.2.2] TF)
  have h2 := h.below hb
  exact { h2 with gf := fun g hg => by injection hg with hg; subst hg; exact heap_alloc_new W _ }
theorem own_ne {v v' : Value} {g : Nat} (hn : v.ownBlock ≠ some g) (hg : g < W.heap.size) (h : v'.ownBlock = v.ownBlock ∨ v'.ownBlock = some W.heap.size) : v'.ownBlock ≠ some g := by
  rcases h with h | h
  · rw [h]; exact hn
  · rw [h]; intro e; injection e with e; omega
theorem S15.appP {ty : TypeId} {g : Nat} {c : Nat} (h : S15 w W vA vX i kx i f cP cF g1 g2 (some g) GF) (hi : i ≤ 1000) :
    ∃ v' W', (Builtin.append_ #[75, 75] ty #[vA, .slice (some ⟨g, 0, none⟩) 1 c]).run Tryz.prog W = .ok v' W' ∧ S15 w W' v' vX (i + 1) kx i f cP cF g1 g2 none GF := by
  obtain ⟨v', W', k1, k2, k3, k4, k5⟩ := h.a.push fkP (ty := ty) (c := c) Tryz.underlying75 infoP h.fp (h.gp g rfl) hi h.low.size
  refine ⟨v', W', k1, k2, h.x.kept fkF k4 (rows_apart h.x h.a (by decide)) k3, k3 _ (stab_ratP _ _ _) h.fp, k3 _ (stab_ratF _ _ _) h.ff, (k4.block g1 h.b1.lt (fun e => h.n1 e.symm)).trans h.b1, (k4.block g2 h.b2.lt (blk_apart h.b2 h.a (by decide))).trans h.b2, own_ne h.n1 h.b1.lt k5, h.n2,
    fun _ hg => (by cases hg), fun g2 hg2 => ?_, h.low.grown k4 h.low.size (fun k hk => (h.a.lt k hk).1)⟩
  have hb := h.gf g2 hg2
  exact (k4.block g2 hb.lt (blk_apart hb h.a (by decide))).trans hb
theorem S15.appF {ty : TypeId} {g : Nat} {c : Nat} (h : S15 w W vA vX ka i i f cP cF g1 g2 GP (some g)) (hi : i ≤ 1000) :
    ∃ v' W', (Builtin.append_ #[76, 76] ty #[vX, .slice (some ⟨g, 0, none⟩) 1 c]).run Tryz.prog W = .ok v' W' ∧ S15 w W' vA v' ka (i + 1) i f cP cF g1 g2 GP none := by
  obtain ⟨v', W', k1, k2, k3, k4, k5⟩ := h.x.push fkF (ty := ty) (c := c) Tryz.underlying76 infoF h.ff (h.gf g rfl) hi h.low.size
  refine ⟨v', W', k1, h.a.kept fkP k4 (rows_apart h.a h.x (by decide)) k3, k2, k3 _ (stab_ratP _ _ _) h.fp, k3 _ (stab_ratF _ _ _) h.ff, (k4.block g1 h.b1.lt (blk_apart h.b1 h.x (by decide))).trans h.b1, (k4.block g2 h.b2.lt (fun e => h.n2 e.symm)).trans h.b2, h.n1, own_ne h.n2 h.b2.lt k5,
    fun g2 hg2 => ?_, fun _ hg => (by cases hg), h.low.grown k4 h.low.size (fun k hk => (h.x.lt k hk).1)⟩
  have hb := h.gp g2 hg2
  exact (k4.block g2 hb.lt (blk_apart hb h.x (by decide))).trans hb
end
/-- The rows behind the first loop. -/
structure LS (w : World) (vA vX : Value) (n : Nat) (f : RQ) (W : World) : Prop where
  a : RowZ TP RatP W w.heap.size vA n f
  x : RowZ TF RatF W w.heap.size vX n f
  low : Below w.heap.size w W
theorem LS.below {w W W' : World} {vA vX : Value} {n : Nat} {f : RQ} (h : LS w vA vX n f W) (hb : Below W.heap.size W W') : LS w vA vX n f W' := ⟨h.a.below fkP hb, h.x.below fkF hb, h.low.trans (hb.mono h.low.size)⟩
theorem LS.start {w W : World} {f : RQ} (h : Below w.heap.size w W) : LS w (.slice none 0 0) (.slice none 0 0) 0 f W := ⟨RowZ.nil _ _ _ _ _, RowZ.nil _ _ _ _ _, h⟩
theorem S15.done {w W : World} {vA vX : Value} {i j k g1 g2 : Nat} {f : RQ} {cP cF : C3} {GP GF : Option Nat} (h : S15 w W vA vX j k i f cP cF g1 g2 GP GF) (hjk : j = k) : LS w vA vX j f W := ⟨h.a, by subst hjk; exact h.x, h.low⟩
/-- Two boxes are made behind the world W0. -/
theorem LS.enter {w W0 W : World} {vA vX : Value} {i g1 g2 : Nat} {f : RQ} {cP cF : C3} (h0 : LS w vA vX i f W0) (h : LS w vA vX i f W) (hp : RatP W (.agg #[cP.1, cP.2.1, cP.2.2]) (f i).1 (f i).2) (hf : RatF W (.agg #[cF.1, cF.2.1, cF.2.2]) (f i).1 (f i).2) (h1 : Blk W g1 (enc3 cP) TP) (h2 : Blk W g2 (enc3 cF) TF) (l1 : W0.heap.size ≤ g1) (l2 : W0.heap.size ≤ g2) :
    S15 w W vA vX i i i f cP cF g1 g2 none none :=
  ⟨h.a, h.x, hp, hf, h1, h2, fun e => by have := (h0.a.lt _ e).2; omega, fun e => by have := (h0.x.lt _ e).2; omega, fun _ hg => (by cases hg), fun _ hg => (by cases hg), h.low⟩
/-- With the turned list. -/
structure LB (w : World) (vA vX vB : Value) (n k : Nat) (f : RQ) (W : World) : Prop where
  ls : LS w vA vX n f W
  b : RowZ TP RatP W w.heap.size vB k (fun j => f (n - 1 - j))
  apart : vA.ownBlock = none ∨ vA.ownBlock ≠ vB.ownBlock
theorem LB.below {w W W' : World} {vA vX vB : Value} {n k : Nat} {f : RQ} (h : LB w vA vX vB n k f W) (hb : Below W.heap.size W W') : LB w vA vX vB n k f W' := ⟨h.ls.below hb, h.b.below fkP hb, h.apart⟩
theorem LS.turn {w W : World} {vA vX : Value} {n : Nat} {f : RQ} (h : LS w vA vX n f W) : LB w vA vX (.slice none 0 0) n 0 f W := ⟨h, RowZ.nil _ _ _ _ _, by cases vA.ownBlock <;> simp [Value.ownBlock]⟩
theorem LB.app {w W : World} {vA vX vB : Value} {n k : Nat} {f : RQ} {ty : TypeId} {x : C3} {g c : Nat} (h : LB w vA vX vB n k f W) (hx : RatP W (.agg #[x.1, x.2.1, x.2.2]) (f (n - 1 - k)).1 (f (n - 1 - k)).2) (hb : Blk W g (enc3 x) TP) (hk : k ≤ 1000) :
    ∃ v' W', (Builtin.append_ #[75, 75] ty #[vB, .slice (some ⟨g, 0, none⟩) 1 c]).run Tryz.prog W = .ok v' W' ∧ LB w vA vX v' n (k + 1) f W' := by
  obtain ⟨v', W', k1, k2, k3, k4, k5⟩ := h.b.push fkP (ty := ty) (c := c) Tryz.underlying75 infoP hx hb hk h.ls.low.size
  refine ⟨v', W', k1, ⟨h.ls.a.kept fkP k4 h.apart k3, h.ls.x.kept fkF k4 (rows_apart h.ls.x h.b (by decide)) k3, h.ls.low.grown k4 h.ls.low.size (fun k hk => (h.b.lt k hk).1)⟩, k2, ?_⟩
  cases hv : vA.ownBlock with
  | none => exact .inl rfl
  | some ga =>
    right
    rcases k5 with k5 | k5
    · rw [k5]
      rcases h.apart with h1 | h1
      · rw [hv] at h1; cases h1
      · rw [hv] at h1; exact h1
    · rw [k5]
      intro e
      have := (h.ls.a.lt ga hv).2
      injection e with e
      omega

theorem tot_shift (f : RQ) : ∀ n, tot f (n + 1) = (f 0).1 + tot (fun j => f (j + 1)) n
  | 0 => by simp [tot, Rat.zero_add, Rat.add_zero]
  | n + 1 => by
    rw [show tot f (n + 1 + 1) = tot f (n + 1) + (f (n + 1)).1 from rfl, tot_shift f n, Rat.add_assoc]
    rfl
theorem tot_rev (f : RQ) : ∀ n, tot (fun j => f (n - 1 - j)) n = tot f n
  | 0 => rfl
  | n + 1 => by
    rw [tot_shift, show tot f (n + 1) = tot f n + (f n).1 from rfl, ← tot_rev f n, Rat.add_comm]
    simp only [Nat.add_sub_cancel, Nat.sub_zero]
    congr 1
    exact tot_congr fun j hj => by rw [show n - (j + 1) = n - 1 - j by omega]
theorem wt_three {f : RQ} (h : ∀ i, (f i).2 = 3) : ∀ n, wt f n = 4 * n
  | 0 => rfl
  | n + 1 => by simp only [wt]; rw [wt_three h n, h n]; omega

set_option maxRecDepth 100000 in
set_option maxHeartbeats 8000000 in
theorem sum_none {w : World} {A : Option Addr} {c : Nat} : Calls Tryz.prog 49 #[.slice A 0 c] w (OpQ w 0 1) := by
  obtain ⟨w1, hw1, S⟩ := enter1 w [.bool false, .slice none 0 0, .slice none 0 0] 30 (by decide) noint3
  replace S := Lib.hid (S.out.push (stab_ratP _ 0 1) (ratP_zero w1))
  go_enter Tryz.func49, Tryz.ntmps49
  have c0x0 := (S.out.at 0 rfl).cell (i := 0) rfl
  have f0x0 := (S.out.at 0 rfl).frozen (i := 0)
  have c0x1 := (S.out.at 0 rfl).cell (i := 1) rfl
  have f0x1 := (S.out.at 0 rfl).frozen (i := 1)
  have c0x2 := (S.out.at 0 rfl).cell (i := 2) rfl
  have f0x2 := (S.out.at 0 rfl).frozen (i := 2)
  go_wp2_with fail
  clear c0x0 c0x1 c0x2 f0x0 f0x1 f0x2
  replace S := Lib.hid (S.out.set3 0 rfl (noint_bool (b := false)) (noint_slice (A := none) (n := 0) (c := 0)) (noint_slice (A := none) (n := 0) (c := 0)) rfl)
  have c0x0 := (S.out.at 0 rfl).cell (i := 0) rfl
  have c0x1 := (S.out.at 0 rfl).cell (i := 1) rfl
  have c0x2 := (S.out.at 0 rfl).cell (i := 2) rfl
  refine bodyPost_ret (v := .agg #[.bool false, .slice none 0 0, .slice none 0 0]) (by simp [results, Tryz.results49, go_sem, c0x0, c0x1, c0x2]) rfl ?_
  exact ⟨false, none, 0, 0, none, 0, 0, rfl, S.out.fact 0 rfl, S.out.low⟩
theorem sum_all {w : World} {v : Value} {n : Nat} {f : RQ} (h : AL w v n f) (hn : n ≤ 20) (hf : ∀ i, (f i).2 = 3) : Calls Tryz.prog 49 #[v] w (OpQ w (tot f n) 90) := by
  rcases Nat.eq_zero_or_pos n with rfl | h0
  · obtain ⟨A, c, M, rfl, -⟩ := h
    refine sum_none.mono ?_
    rintro e w' ⟨b, A1, n1, c1, A2, n2, c2, rfl, hq, hb⟩
    exact ⟨b, A1, n1, c1, A2, n2, c2, rfl, hq.more (by omega), hb⟩
  · refine (sum_any h h0 (by omega) (by rw [wt_three hf]; omega)).mono ?_
    rintro e w' ⟨b, A1, n1, c1, A2, n2, c2, rfl, hq, hb⟩
    exact ⟨b, A1, n1, c1, A2, n2, c2, rfl, hq.more (by rw [wt_three hf]; omega), hb⟩
theorem refSum_all {w : World} {v : Value} {n : Nat} {f : RQ} (h : ALF w v n f) (hn : n ≤ 20) (hf : ∀ i, (f i).2 = 3) : Calls Tryz.prog 50 #[v] w (OpG w (tot f n) 90) := by
  refine (refSum_any h (by omega) (by rw [wt_three hf]; omega)).mono ?_
  rintro e w' ⟨b, A1, n1, c1, A2, n2, c2, rfl, hq, hb⟩
  exact ⟨b, A1, n1, c1, A2, n2, c2, rfl, hq.more (by rw [wt_three hf]; omega), hb⟩
theorem numQ_three {b : Bool} {ds es : List Nat} (h1 : ds.length ≤ 3) (h2 : es.length ≤ 3) (hd : ∀ d ∈ ds, d < 4294967296) (he : ∀ d ∈ es, d < 4294967296) : (numQ b ds es).num.natAbs < 4294967296 ^ 3 ∧ (numQ b ds es).den < 4294967296 ^ 3 := by
  have k1 : val 4294967296 ds < 4294967296 ^ 3 := Nat.lt_of_lt_of_le (val_lt ds hd) (Nat.pow_le_pow_right (by omega) h1)
  have k2 : val 4294967296 es < 4294967296 ^ 3 := Nat.lt_of_lt_of_le (val_lt es he) (Nat.pow_le_pow_right (by omega) h2)
  unfold numQ
  generalize val 4294967296 ds = k at *
  generalize val 4294967296 es = j at *
  have n1 := num_le (sg b k) (if j = 0 then 1 else j)
  have n2 := den_le (sg b k) (d := if j = 0 then 1 else j) (by split <;> omega)
  rw [sg_abs] at n1
  refine ⟨Nat.lt_of_le_of_lt n1 k1, Nat.lt_of_le_of_lt n2 ?_⟩
  split
  · exact one_lt (by omega)
  · exact k2
/-- An argument of the law: a list of numbers. -/
def NumL (w : World) (A : Option Addr) (n : Nat) (q : Nat → Rat) : Prop := ∀ i, i < n → ∃ b off s A1 n1 c1 A2 n2 c2 ds es, A = some ⟨b, off, none⟩ ∧ b < w.heap.size ∧ w.cell? ⟨b, off + i * 3, none⟩ = some (.bool s) ∧ w.cell? ⟨b, off + i * 3 + 1, none⟩ = some (.slice A1 n1 c1) ∧ w.cell? ⟨b, off + i * 3 + 2, none⟩ = some (.slice A2 n2 c2) ∧
  ArgN w A1 n1 c1 A2 n2 c2 ds es ∧ q i = numQ s ds es
def OpO (W : World) (q : Rat) (a : Nat) (e : Ending) (w' : World) : Prop := ∃ b A n c A2 n2 c2 b' B m d B2 m2 d2, e = .returned (.tuple #[.agg #[.bool b, .slice A n c, .slice A2 n2 c2], .agg #[.bool b', .slice B m d, .slice B2 m2 d2], .bool true]) ∧
  RatP w' (.agg #[.bool b, .slice A n c, .slice A2 n2 c2]) q a ∧ RatF w' (.agg #[.bool b', .slice B m d, .slice B2 m2 d2]) q a ∧ Below W.heap.size W w'
theorem ofL {w W : World} {s : Bool} {A A2 : Option Addr} {n c n2 c2 i : Nat} {ds es : List Nat} {f : RQ} (hV : Vars w) (h : ArgN w A n c A2 n2 c2 ds es) (h1 : n ≤ 3) (h2 : n2 ≤ 3) (hq : (f i).1 = numQ s ds es) (hf : (f i).2 = 3) (hw : Below w.heap.size w W) :
    Calls Tryz.prog 13 #[.agg #[.bool s, .slice A n c, .slice A2 n2 c2]] W (OpO W (f i).1 (f i).2) := by
  obtain ⟨k1, k2⟩ := numQ_three (b := s) (by rw [h.e1]; exact h1) (by rw [h.e2]; exact h2) h.d1 h.d2
  refine (ofA (b := s) hV h (by omega) (by omega) hw).mono ?_
  rintro e w' ⟨b, A, n, c, A2, n2, c2, b', B, m, d, B2, m2, d2, rfl, hp, hf2, hb⟩
  rw [hq, hf]
  exact ⟨b, A, n, c, A2, n2, c2, b', B, m, d, B2, m2, d2, rfl, hp.tight k1 k2, hf2.tight k1 k2, hb⟩
end Go.Proofs.YthfjbpbgnoonpaaGreatDoor
