/- Rows of routes of the call's own (layer 5's reference): append; slices of them. -/
import Derived.Test.YtamkegnnlbefdaaTrZ
import Derived.Lib.OwnKind
import Derived.Maps.AppendAt
import Derived.OwnWalk
namespace Go.Proofs.Ytamkegnnlbefdaa
open Go.RowKit

abbrev rtT : TypeId := 37
def encR (r : Rt) : List Value := [.int .u32 (r.1.1 : Int), .int .i64 (r.1.2 : Int), .int .i64 r.2]
def flR (L : List Rt) : List Value := L.flatMap encR
theorem flR_len (L : List Rt) : (flR L).length = L.length * 3 := by
  induction L with
  | nil => rfl
  | cons x L ih => simp only [flR, List.flatMap_cons, List.length_append, List.length_cons] at *; simp [encR] at *; omega
theorem flR_app (L M : List Rt) : flR (L ++ M) = flR L ++ flR M := by simp [flR]
theorem flR_get (L : List Rt) {i : Nat} (hi : i < L.length) (c : Nat) (hc : c < 3) : (flR L)[i * 3 + c]? = (encR L[i])[c]? := by
  induction L generalizing i with
  | nil => simp at hi
  | cons x L ih =>
    cases i with
    | zero =>
      simp only [flR, List.flatMap_cons, Nat.zero_mul, Nat.zero_add, List.getElem_cons_zero]
      rw [List.getElem?_append_left (by simp [encR]; omega)]
    | succ i =>
      have := ih (i := i) (by simpa using hi)
      simp only [flR, List.flatMap_cons, List.getElem_cons_succ] at *
      rw [List.getElem?_append_right (by simp [encR]; omega), ← this]
      congr 1
      simp [encR]
      omega
theorem flR_drop (L : List Rt) (k : Nat) : flR (L.drop k) = (flR L).drop (k * 3) := by
  induction k generalizing L with
  | zero => simp
  | succ k ih =>
    cases L with
    | nil => simp [flR]
    | cons x L =>
      rw [List.drop_succ_cons, ih]
      simp only [flR, List.flatMap_cons]
      rw [show (k + 1) * 3 = 3 + k * 3 by omega, ← List.drop_drop, List.drop_append_of_le_length (by simp [encR])]
      simp [encR]
theorem flR_take (L : List Rt) (k : Nat) (j : Nat) (u : Value) (h : (flR (L.take k))[j]? = some u) : (flR L)[j]? = some u := by
  have : flR L = flR (L.take k) ++ flR (L.drop k) := by rw [← flR_app, List.take_append_drop]
  rw [this, List.getElem?_append_left (List.getElem?_eq_some_iff.1 h).1, h]
theorem encR_one {r : Rt} : ∀ u ∈ encR r, u.oneCell' = true := by
  intro u hu
  simp [encR] at hu
  rcases hu with rfl | rfl | rfl <;> rfl
theorem flR_one (L : List Rt) : ∀ u ∈ flR L, u.oneCell' = true := fun u hu => by
  obtain ⟨r, _, h⟩ := List.mem_flatMap.1 hu
  exact encR_one u h
/-- The slice value v reads as the routes rs. -/
def Rw (W : World) (v : Value) (rs : List Rt) : Prop := ∃ A c, v = .slice A rs.length c ∧ rs.length ≤ c ∧ c ≤ 9223372036854775807 ∧ ∀ j u, (flR rs)[j]? = some u → ∃ a, A = some a ∧ a.block < W.heap.size ∧ W.cell? (a.add j) = some u
/-- A row of routes of the call's own. -/
def OwnT (base : Nat) (W : World) (v : Value) (L : List Rt) : Prop := W.ownsRow base rtT 3 v L.length (flR L)
/-- What has become of the world while v grew to v'. -/
def Gr (W W' : World) (v v' : Value) : Prop := W.grownBy W' v.ownBlock ∧ (v'.ownBlock = v.ownBlock ∨ ∃ g, v'.ownBlock = some g ∧ W.heap.size ≤ g)
section
variable {w W W' W'' : World} {base base' g : Nat} {v v' v'' x : Value} {L M : List Rt} {cs : List Value} {t : TypeId}
theorem addC_block (a : Addr) (j : Nat) : (a.add j).block = a.block := by unfold Addr.add; split <;> rfl
theorem Rw.below (h : Rw W v L) (hb : Below W.heap.size W W') : Rw W' v L := by
  obtain ⟨A, c, h1, h2, h3, h4⟩ := h
  refine ⟨A, c, h1, h2, h3, fun j u hu => ?_⟩
  obtain ⟨a, e, k1, k2⟩ := h4 j u hu
  exact ⟨a, e, Nat.lt_of_lt_of_le k1 hb.size, (hb.cell (p := a.add j) (by rw [addC_block]; exact k1)).trans k2⟩
theorem Gr.refl (W : World) (v : Value) : Gr W W v v := ⟨World.grownBy.refl W _, .inl rfl⟩
theorem Gr.trans (h : Gr W W' v v') (h' : Gr W' W'' v' v'') : Gr W W'' v v'' := by
  obtain ⟨⟨a1, a2, a3, a4, a5⟩, a6⟩ := h
  obtain ⟨⟨b1, b2, b3, b4, b5⟩, b6⟩ := h'
  refine ⟨⟨b1.trans a1, b2.trans a2, b3.trans a3, Nat.le_trans a4 b4, fun k hk hn => ?_⟩, ?_⟩
  · refine (b5 k (by omega) ?_).trans (a5 k hk hn)
    rcases a6 with e | ⟨g, e, hg⟩
    · rw [e]; exact hn
    · rw [e]; intro h; injection h with h; omega
  · rcases b6 with e | ⟨g, e, hg⟩
    · rw [e]; exact a6
    · exact .inr ⟨g, e, by omega⟩
theorem Gr.below (h : Gr W W' v v') (hv : ∀ k, v.ownBlock = some k → base ≤ k) (hB : base ≤ W.heap.size) : Below base W W' := (Below.refl base W).grown h.1 hB hv
theorem Gr.of_below (h : Below W.heap.size W W') (v : Value) : Gr W W' v v := ⟨⟨h.os, h.tape, h.output, h.size, fun k hk _ => h.block k hk⟩, .inl rfl⟩
theorem OwnT.lt (h : OwnT base W v L) : ∀ k, v.ownBlock = some k → base ≤ k ∧ k < W.heap.size := World.ownsRow.lt h
theorem OwnT.base_ (h : OwnT base W v L) : ∀ k, v.ownBlock = some k → base ≤ k := fun k hk => (h.lt k hk).1
theorem OwnT.nil (base : Nat) (W : World) : OwnT base W (.slice none 0 0) [] := World.ownsRow_nil W base _ 3
theorem OwnT.below (h : OwnT base W v L) (hb : Below W.heap.size W W') : OwnT base W' v L := World.ownsRow.kept (row := none) h ⟨hb.os, hb.tape, hb.output, hb.size, fun k hk _ => hb.block k hk⟩ (by cases v.ownBlock <;> simp)
theorem OwnT.down (h : OwnT base W v L) (hb : base' ≤ base) : OwnT base' W v L := by
  refine ⟨h.1, h.2.imp id ?_⟩
  rintro ⟨g, cap, cur, h1, h2, h3⟩
  exact ⟨g, cap, cur, h1, Nat.le_trans hb h2, h3⟩
theorem OwnT.form (h : OwnT base W v L) : ∃ A c, v = .slice A L.length c ∧ L.length ≤ c ∧ c ≤ 9223372036854775807 := by
  rcases h.2 with ⟨rfl, h0⟩ | ⟨g, cap, cur, rfl, _, _, h1, h2, _⟩
  · exact ⟨none, 0, by rw [h0], by omega, by omega⟩
  · exact ⟨_, _, rfl, h1, by unfold maxLen at h2; omega⟩
theorem OwnT.rw_ (h : OwnT base W v L) : Rw W v L := by
  obtain ⟨A, c, rfl, hc, hc2⟩ := h.form
  refine ⟨A, c, rfl, hc, hc2, fun j u hu => ?_⟩
  have hj := (List.getElem?_eq_some_iff.1 hu).1
  rw [flR_len] at hj
  obtain ⟨g, cap, hv, _, hlt⟩ := World.ownsRow.form h (by omega)
  obtain ⟨rfl, _, _⟩ := Value.slice.inj hv
  exact ⟨⟨g, 0, none⟩, rfl, hlt, World.ownsRow.cells h (g := g) rfl j u hu⟩
theorem OwnT.tl (h : OwnT base W v L) : TL W v L := by
  obtain ⟨A, c, rfl, hc, hc2⟩ := h.form
  refine ⟨A, c, rfl, fun i hi => ?_⟩
  obtain ⟨g, cap, hv, _, hlt⟩ := World.ownsRow.form h (by omega)
  obtain ⟨rfl, _, _⟩ := Value.slice.inj hv
  have k0 := World.ownsRow.cells h (g := g) rfl (i * 3 + 0) (.int .u32 (L[i].1.1 : Int)) (by rw [flR_get L hi 0 (by omega)]; rfl)
  have k1 := World.ownsRow.cells h (g := g) rfl (i * 3 + 1) (.int .i64 (L[i].1.2 : Int)) (by rw [flR_get L hi 1 (by omega)]; rfl)
  have k2 := World.ownsRow.cells h (g := g) rfl (i * 3 + 2) (.int .i64 L[i].2) (by rw [flR_get L hi 2 (by omega)]; rfl)
  rw [row_at] at k0 k1 k2
  exact ⟨g, rfl, hlt, k0, k1, k2⟩
theorem infoT : (Try.prog.info? rtT).map (fun i => (i.zero, i.size, i.bytes)) = some (some (.agg #[.int .u32 0, .int .i64 0, .int .i64 0]), 3, 24) := by kernel_rfl
/-- append of routes that lie somewhere. -/
theorem run_appM {ts : TypeId} (hts : Try.prog.underlying ts = some (.slice rtT)) (ty : TypeId) (h : OwnT base W v L) (hx : Rw W x M) (hl : L.length + M.length ≤ 1000000000000) (hbase : base ≤ W.heap.size) :
    ∃ v' W', (Builtin.append_ #[ts, ts] ty #[v, x]).run Try.prog W = .ok v' W' ∧ OwnT base W' v' (L ++ M) ∧ Gr W W' v v' := by
  obtain ⟨i0, hi, hz0, hz1, hz2⟩ := info_parts infoT
  obtain ⟨A, c, rfl, hc, -, hr⟩ := hx
  rcases A with _ | ad
  · have hm : M = [] := by
      cases M with
      | nil => rfl
      | cons y m => obtain ⟨a, e, _⟩ := hr 0 (.int .u32 (y.1.1 : Int)) (by simp [flR, encR]); cases e
    subst hm
    refine ⟨v, W, ?_, by simpa using h, Gr.refl _ _⟩
    rcases h.2 with ⟨rfl, h0⟩ | ⟨g, cap, cur, rfl, _, hg, hnc, _⟩
    · simp [Builtin.append_, run_underlying hts, sizeOf, typeInfo, hi, Builtin.lenOf, Builtin.firstCells]
    · simp [Builtin.append_, run_underlying hts, sizeOf, typeInfo, hi, Builtin.lenOf, Builtin.firstCells, hnc, storeCells]
  · have hcells : ∀ j u, (flR M)[j]? = some u → W.cell? (ad.add j) = some u := by
      intro j u hu
      obtain ⟨a, ha, _, hc⟩ := hr j u hu
      injection ha with ha
      subst ha
      exact hc
    obtain ⟨v', W', hrun, h2, h3, -, h5⟩ := run_append_own_at (P := Try.prog) W base ts ty rtT i0 _ 3 24 hts hi hz0 hz1 hz2 rfl (by omega) v L.length _ h ad M.length c (flR M) (by rw [flR_len]) hcells
      (flR_one M) (by unfold maxLen; omega) (by omega) hbase
    refine ⟨v', W', hrun, ?_, h3, h5.imp id fun e => ⟨_, e, Nat.le_refl _⟩⟩
    unfold OwnT
    rw [flR_app, List.length_append]
    exact h2
theorem rw_made (W : World) (r : Rt) : Rw (W.alloc (.cells (encR r).toArray rtT)) (.slice (some ⟨W.heap.size, 0, none⟩) 1 1) [r] := by
  refine ⟨_, _, rfl, Nat.le_refl _, by omega, fun j u hu => ⟨_, rfl, by simp, ?_⟩⟩
  rw [row_at]
  refine (Blk.new W (encR r) rtT).cell ?_
  simpa [flR] using hu
/-- append of one route that a composite literal has just laid. -/
theorem run_app1 {ts : TypeId} (hts : Try.prog.underlying ts = some (.slice rtT)) (ty : TypeId) (r : Rt) (h : OwnT base W v L) (hl : L.length ≤ 900000000000) (hbase : base ≤ W.heap.size) :
    ∃ v' W', (Builtin.append_ #[ts, ts] ty #[v, .slice (some ⟨W.heap.size, 0, none⟩) 1 1]).run Try.prog (W.alloc (.cells #[.int .u32 (r.1.1 : Int), .int .i64 (r.1.2 : Int), .int .i64 r.2] rtT)) = .ok v' W' ∧ OwnT base W' v' (L ++ [r]) ∧ Gr W W' v v' := by
  have hb := (Below.refl W.heap.size W).alloc (Nat.le_refl _) (.cells (encR r).toArray rtT)
  obtain ⟨v', W', h1, h2, h3⟩ := run_appM hts ty (h.below hb) (rw_made W r) (by simp; omega) (by simp; omega)
  exact ⟨v', W', h1, h2, (Gr.of_below hb v).trans h3⟩
def tlA (A : Option Addr) (c k : Nat) : Option Addr := if c = k then A else A.map (·.add (k * 3))
theorem addC_add (a : Addr) (i j : Nat) : (a.add i).add j = a.add (i + j) := by
  unfold Addr.add
  by_cases hi : i = 0 <;> by_cases hj : j = 0 <;> simp [hi, hj, Nat.add_assoc]
theorem Rw.tl {A : Option Addr} {n c k : Nat} (h : Rw W (.slice A n c) L) (hk : k ≤ L.length) : Rw W (.slice (tlA A c k) (n - k) (c - k)) (L.drop k) := by
  obtain ⟨A', c', e, h2, h3, h4⟩ := h
  obtain ⟨rfl, rfl, rfl⟩ := Value.slice.inj e
  refine ⟨tlA A c k, c - k, by rw [List.length_drop], by rw [List.length_drop]; omega, by omega, fun j u hu => ?_⟩
  have hj := (List.getElem?_eq_some_iff.1 hu).1
  rw [flR_len, List.length_drop] at hj
  rw [flR_drop, List.getElem?_drop] at hu
  obtain ⟨a, e1, e2, e3⟩ := h4 _ u hu
  subst e1
  unfold tlA
  rw [if_neg (by omega)]
  exact ⟨a.add (k * 3), rfl, by rw [addC_block]; exact e2, by rw [addC_add]; exact e3⟩
theorem Rw.tl_ {n c k : Nat} (h : Rw W (.slice (some ⟨g, 0, none⟩) n c) L) (hk : k ≤ L.length) : Rw W (.slice (if c = k then some ⟨g, 0, none⟩ else some ⟨g, k * 3, none⟩) (n - k) (c - k)) (L.drop k) := by
  have h1 := h.tl hk
  unfold tlA at h1
  rw [Option.map_some, row_at] at h1
  exact h1
theorem Rw.hd {A : Option Addr} {n c k : Nat} (h : Rw W (.slice A n c) L) (hk : k ≤ L.length) : Rw W (.slice A k c) (L.take k) := by
  obtain ⟨A', c', e, h2, h3, h4⟩ := h
  obtain ⟨rfl, rfl, rfl⟩ := Value.slice.inj e
  have hl : (L.take k).length = k := by rw [List.length_take]; omega
  exact ⟨A, c, by rw [hl], by omega, by omega, fun j u hu => h4 j u (flR_take L k j u hu)⟩
theorem Rw.len {A : Option Addr} {n c : Nat} (h : Rw W (.slice A n c) L) : n = L.length ∧ n ≤ c ∧ c ≤ 9223372036854775807 := by
  obtain ⟨A', c', e, h2, h3, h4⟩ := h
  obtain ⟨rfl, rfl, rfl⟩ := Value.slice.inj e
  exact ⟨rfl, h2, h3⟩
theorem Rw.form (h : Rw W v L) : ∃ A c, v = .slice A L.length c ∧ L.length ≤ c ∧ c ≤ 9223372036854775807 := by
  obtain ⟨A, c, h1, h2, h3, -⟩ := h
  exact ⟨A, c, h1, h2, h3⟩
/-- The world since w, and the own row v with the routes L. -/
structure StT (w W : World) (v : Value) (L : List Rt) : Prop where
  low : Below w.heap.size w W
  own : OwnT w.heap.size W v L
theorem StT.below (h : StT w W v L) (hb : Below W.heap.size W W') : StT w W' v L := ⟨h.low.trans (hb.mono h.low.size), h.own.below hb⟩
theorem StT.app {ts : TypeId} (hts : Try.prog.underlying ts = some (.slice rtT)) (ty : TypeId) (r : Rt) (h : StT w W v L) (hl : L.length ≤ 900000000000) :
    ∃ v' W', (Builtin.append_ #[ts, ts] ty #[v, .slice (some ⟨W.heap.size, 0, none⟩) 1 1]).run Try.prog (W.alloc (.cells #[.int .u32 (r.1.1 : Int), .int .i64 (r.1.2 : Int), .int .i64 r.2] rtT)) = .ok v' W' ∧ StT w W' v' (L ++ [r]) := by
  obtain ⟨v', W', h1, h2, h3⟩ := run_app1 hts ty r h.own hl h.low.size
  exact ⟨v', W', h1, h.low.trans (h3.below h.own.base_ h.low.size), h2⟩
end
section
variable {ops : Array Oper} {rest : List Oper} {o : Oper} {a : Act} {K : Act → World → Prop} {Q : Exit → Act → World → Prop} {w w' : World} {v u v' : Value}
theorem wp_app (s x : Operand) (t : TypeId) (ho : o.op = .call { callee := .builtin .append, args := #[s, x], argTypes := #[t, t] }) (hs : a.eval s = v) (hx : a.eval x = u)
    (hr : (Builtin.append_ #[t, t] o.type #[v, u]).run Try.prog w = .ok v' w') (h : K (a.put o.dst v') w') : o.wp Try.prog a w K Q := by
  unfold Oper.wp execOp
  simp only [ho, resolve, invoke, builtin, Sem.run_bind, Sem.run_pure, Result.andThen_ok, List.map_toArray, List.map_cons, List.map_nil, hs, hx, hr]
  exact h
theorem wpList_app (hgd : o.guard = none) (s x : Operand) (t : TypeId) (ho : o.op = .call { callee := .builtin .append, args := #[s, x], argTypes := #[t, t] }) (hs : a.eval s = v) (hx : a.eval x = u)
    (hr : (Builtin.append_ #[t, t] o.type #[v, u]).run Try.prog w = .ok v' w') (h : wpList Try.prog ops Q rest (a.put o.dst v') w') : wpList Try.prog ops Q (o :: rest) a w :=
  wpList_plain hgd fun _ hK => wp_app s x t ho hs hx hr (hK _ _ h)
end
end Go.Proofs.Ytamkegnnlbefdaa
