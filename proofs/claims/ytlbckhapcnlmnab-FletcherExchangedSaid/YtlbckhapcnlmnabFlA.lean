/- Words for memory, layer 7: blocks, byte slices, rows of bytes of the call's own, append. -/
import Derived.Test.YtlbckhapcnlmnabFlM
import Derived.Test.YtlbckhapcnlmnabPBridge
import Derived.Shelf.Bytes.SlSmallAll
import Derived.Lib.OwnKind
namespace Go.Proofs.Ytlbckhapcnlmnab
open Go.RowKit

/-- A block known whole. -/
def Blk (W : World) (g : Nat) (cs : List Value) (t : TypeId) : Prop := W.heap[g]? = some (.cells cs.toArray t (0, 0))
section
variable {w W W' : World} {g i : Nat} {cs : List Value} {t : TypeId} {u v : Value}
theorem Blk.lt (h : Blk W g cs t) : g < W.heap.size := by
  rcases Nat.lt_or_ge g W.heap.size with hlt | hge
  · exact hlt
  · unfold Blk at h; rw [Array.getElem?_eq_none hge] at h; cases h
theorem Blk.step (h : Blk W g cs t) (hb : Below W.heap.size W W') : Blk W' g cs t := (hb.block g h.lt).trans h
theorem Blk.cell (h : Blk W g cs t) (hi : cs[i]? = some v) : W.cell? ⟨g, i, none⟩ = some v := by
  rw [cell_of_row W g i _ t (0, 0) h]; simpa using hi
theorem Blk.frozen (h : Blk W g cs t) : W.frozen? ⟨g, i, none⟩ = false := by unfold Blk at h; simp [World.frozen?, h]
theorem Blk.far (h : Blk W g cs t) {p : Addr} (hp : g ≠ p.block) (u : Value) : Blk (W.setCell p u) g cs t := (Below.heap_setCell W p u g hp).trans h
theorem Blk.set_ (h : Blk W g cs t) (i : Nat) (u : Value) : Blk (W.setCell ⟨g, i, none⟩ u) g (cs.set i u) t := by
  unfold Blk at h ⊢
  simp [World.setCell, Array.getElem?_modify, h]
theorem Blk.new (W : World) (cs : List Value) (t : TypeId) : Blk (W.alloc (.cells cs.toArray t)) W.heap.size cs t := heap_alloc_new W _
theorem Blk.alloc (h : Blk W g cs t) (o : Obj) : Blk (W.alloc o) g cs t := (Below.heap_alloc W o g h.lt).trans h
end
abbrev u8T : TypeId := 5
def encB (x : UInt8) : Value := .int .u8 (x.toNat : Int)
def bf (l : List UInt8) (i : Nat) : Value := encB (l.getD i 0)
theorem bf_get (l : List UInt8) {i : Nat} (h : i < l.length) : bf l i = encB l[i] := by simp [bf, List.getD, h]
/-- The slice value v reads as the bytes l. -/
def By (W : World) (v : Value) (l : List UInt8) : Prop := ∃ A c, v = .slice A l.length c ∧ l.length ≤ c ∧ c ≤ 9223372036854775807 ∧ Cells W W.heap.size A l.length (bf l)
/-- A row of bytes of the call's own. -/
def OwnB (base : Nat) (W : World) (v : Value) (l : List UInt8) : Prop := W.ownsRow base u8T 1 v l.length (l.map encB)
/-- What has become of the world while v grew to v'. -/
def Gr (W W' : World) (v v' : Value) : Prop := W.grownBy W' v.ownBlock ∧ (v'.ownBlock = v.ownBlock ∨ ∃ g, v'.ownBlock = some g ∧ W.heap.size ≤ g)
section
variable {w W W' W'' : World} {base g : Nat} {v v' v'' x : Value} {l m : List UInt8} {cs : List Value} {t : TypeId}
theorem By.below (h : By W v l) (hb : Below W.heap.size W W') : By W' v l := by
  obtain ⟨A, c, h1, h2, h3, h4⟩ := h
  exact ⟨A, c, h1, h2, h3, h4.step hb hb.size⟩
theorem By.nil (W : World) : By W (.slice none 0 0) [] := ⟨none, 0, rfl, by simp, by omega, Cells.zero⟩
theorem Gr.refl (W : World) (v : Value) : Gr W W v v := ⟨World.grownBy.refl W _, .inl rfl⟩
theorem Gr.trans (h : Gr W W' v v') (h' : Gr W' W'' v' v'') : Gr W W'' v v'' := by
  obtain ⟨⟨a1, a2, a3, a4, a5⟩, a6⟩ := h
  obtain ⟨⟨b1, b2, b3, b4, b5⟩, b6⟩ := h'
  refine ⟨⟨b1.trans a1, b2.trans a2, b3.trans a3, Nat.le_trans a4 b4, fun k hk hn => ?_⟩, ?_⟩
  · refine (b5 k (by omega) ?_).trans (a5 k hk hn)
    rcases a6 with e | ⟨g, e, hg⟩
    · rw [e]; exact hn
    · rw [e]; intro h; injection h with h; omega
  · rcases b6 with e | ⟨g, e, hg⟩
    · rw [e]; exact a6
    · exact .inr ⟨g, e, by omega⟩
theorem Gr.below (h : Gr W W' v v') (hv : ∀ k, v.ownBlock = some k → base ≤ k) (hB : base ≤ W.heap.size) : Below base W W' := (Below.refl base W).grown h.1 hB hv
theorem Gr.alloc (W : World) (o : Obj) (v : Value) : Gr W (W.alloc o) v v := ⟨World.grownBy_alloc W o _, .inl rfl⟩
theorem Gr.drew (W : World) (v : Value) : Gr W W.drew v v := ⟨⟨rfl, rfl, rfl, Nat.le_refl _, fun _ _ _ => rfl⟩, .inl rfl⟩
theorem Gr.of_below (h : Below W.heap.size W W') (v : Value) : Gr W W' v v := ⟨⟨h.os, h.tape, h.output, h.size, fun k hk _ => h.block k hk⟩, .inl rfl⟩
theorem Gr.blk (h : Gr W W' v v') (hb : Blk W g cs t) (hn : v.ownBlock ≠ some g) : Blk W' g cs t := (h.1.block g hb.lt (fun e => hn e.symm)).trans hb
theorem OwnB.lt (h : OwnB base W v l) : ∀ k, v.ownBlock = some k → base ≤ k ∧ k < W.heap.size := World.ownsRow.lt h
theorem OwnB.base_ (h : OwnB base W v l) : ∀ k, v.ownBlock = some k → base ≤ k := fun k hk => (h.lt k hk).1
theorem own_blk {size n : Nat} {e : TypeId} {xs : List Value} (h : W.ownsRow base e size v n xs) (hg : v.ownBlock = some g) : ∃ cur, W.heap[g]? = some (.cells cur e (0, 0)) := by
  rcases h.2 with ⟨rfl, _⟩ | ⟨g', cap, cur, rfl, _, hh, _⟩
  · cases hg
  · have : g' = g := by simpa [Value.ownBlock] using hg
    subst this
    exact ⟨_, hh⟩
theorem own_ne {size n : Nat} {e : TypeId} {xs : List Value} (h : W.ownsRow base e size v n xs) (hb : Blk W g cs t) (hne : e ≠ t) : v.ownBlock ≠ some g := by
  intro hg
  obtain ⟨cur, hh⟩ := own_blk h hg
  unfold Blk at hb
  rw [hb] at hh
  injection hh with hh
  injection hh with _ h2
  exact hne h2.symm
theorem OwnB.ne (h : OwnB base W v l) (hb : Blk W g cs t) (hne : u8T ≠ t) : v.ownBlock ≠ some g := own_ne h hb hne
theorem OwnB.nil (base : Nat) (W : World) : OwnB base W (.slice none 0 0) [] := World.ownsRow_nil W base _ 1
theorem OwnB.below (h : OwnB base W v l) (hb : Below W.heap.size W W') : OwnB base W' v l := World.ownsRow.kept (row := none) h ⟨hb.os, hb.tape, hb.output, hb.size, fun k hk _ => hb.block k hk⟩ (by cases v.ownBlock <;> simp)
theorem OwnB.form (h : OwnB base W v l) : ∃ A c, v = .slice A l.length c ∧ l.length ≤ c := by
  rcases h.2 with ⟨rfl, h0⟩ | ⟨g, cap, cur, rfl, _, _, h1, _⟩
  · exact ⟨none, 0, by rw [h0], by omega⟩
  · exact ⟨_, _, rfl, h1⟩
theorem map_bf (l : List UInt8) : l.map encB = vals (bf l) l.length := by
  apply List.ext_getElem?
  intro i
  by_cases h : i < l.length
  · rw [vals_get _ _ i h, bf_get l h]; simp [h]
  · rw [List.getElem?_eq_none (by simp; omega), List.getElem?_eq_none (by simp [vals_len]; omega)]
theorem OwnB.by_ (h : OwnB base W v l) : By W v l := by
  obtain ⟨A, c, rfl, hc⟩ := h.form
  refine ⟨A, c, rfl, hc, ?_, Cells.of_own h fun i hi => ?_⟩
  · rcases h.2 with ⟨h0, _⟩ | ⟨g, cap, cur, h0, _, _, _, h1, _⟩ <;> obtain ⟨_, _, rfl⟩ := Value.slice.inj h0
    · omega
    · unfold maxLen at h1; omega
  · rw [map_bf]; exact vals_get _ _ i hi
/-- A block that is a row of bytes is an own row. -/
theorem OwnB.made (W : World) (l : List UInt8) (hb : base ≤ W.heap.size) (hl : l.length ≤ 9223372036854775807) : OwnB base (W.alloc (.cells (l.map encB).toArray u8T)) (.slice (some ⟨W.heap.size, 0, none⟩) l.length l.length) l :=
  ⟨by simp, .inr ⟨_, _, _, rfl, hb, heap_alloc_new W _, Nat.le_refl _, by unfold maxLen; omega, by simp, by
    simp only [Nat.mul_one]
    exact List.take_of_length_le (by simp)⟩⟩
theorem infoB : (Try.prog.info? u8T).map (fun i => (i.zero, i.size, i.bytes)) = some (some (.int .u8 0), 1, 1) := by kernel_rfl
theorem uSl : Try.prog.underlying 22 = some (.slice u8T) := Try.underlying22
/-- append of bytes that lie somewhere. -/
theorem run_appB (ty : TypeId) (h : OwnB base W v l) (hx : By W x m) (hl : l.length + m.length ≤ 100000000000000) (hbase : base ≤ W.heap.size) :
    ∃ v' W', (Builtin.append_ #[22, 22] ty #[v, x]).run Try.prog W = .ok v' W' ∧ OwnB base W' v' (l ++ m) ∧ Gr W W' v v' := by
  obtain ⟨i0, hi, hz0, hz1, hz2⟩ := info_parts infoB
  obtain ⟨A, c, rfl, hc, -, hr⟩ := hx
  rcases A with _ | ad
  · have hm : m = [] := by
      cases m with
      | nil => rfl
      | cons y m => obtain ⟨a, e, _⟩ := hr 0 (by simp); cases e
    subst hm
    refine ⟨v, W, ?_, by simpa using h, Gr.refl _ _⟩
    rcases h.2 with ⟨rfl, h0⟩ | ⟨g, cap, cur, rfl, _, hg, hnc, _⟩
    · simp [Builtin.append_, run_underlying uSl, sizeOf, typeInfo, hi, Builtin.lenOf, Builtin.firstCells]
    · simp [Builtin.append_, run_underlying uSl, sizeOf, typeInfo, hi, Builtin.lenOf, Builtin.firstCells, hnc, storeCells]
  · have hcells : ∀ j u, (m.map encB)[j]? = some u → W.cell? (ad.add j) = some u := by
      intro j u hu
      rw [map_bf] at hu
      obtain ⟨hj, rfl⟩ := vals_inv _ _ j u hu
      obtain ⟨a, ha, _, hc⟩ := hr j hj
      injection ha with ha
      subst ha
      exact hc
    obtain ⟨v', W', hrun, h2, h3, -, h5⟩ := run_append_own_at (P := Try.prog) W base 22 ty u8T i0 _ 1 1 uSl hi hz0 hz1 hz2 rfl (by omega) v l.length _ h ad m.length c (m.map encB) (by simp) hcells
      (by intro u hu; obtain ⟨y, _, rfl⟩ := List.mem_map.1 hu; rfl) (by unfold maxLen; omega) (by omega) hbase
    refine ⟨v', W', hrun, ?_, h3, h5.imp id fun e => ⟨_, e, Nat.le_refl _⟩⟩
    unfold OwnB
    rw [List.map_append, List.length_append]
    exact h2
/-- append of one byte, or of some, that a composite literal has just laid. -/
theorem run_appL (ty : TypeId) (h : OwnB base W v l) (hl : l.length + m.length ≤ 100000000000000) (hbase : base ≤ W.heap.size) :
    ∃ v' W', (Builtin.append_ #[22, 22] ty #[v, .slice (some ⟨W.heap.size, 0, none⟩) m.length m.length]).run Try.prog (W.alloc (.cells (m.map encB).toArray u8T)) = .ok v' W' ∧ OwnB base W' v' (l ++ m) ∧ Gr W W' v v' := by
  have hb := (Below.refl W.heap.size W).alloc (Nat.le_refl _) (.cells (m.map encB).toArray u8T)
  obtain ⟨v', W', h1, h2, h3⟩ := run_appB ty (h.below hb) (OwnB.made (base := W.heap.size) W m (Nat.le_refl _) (by omega)).by_ hl (by simp; omega)
  exact ⟨v', W', h1, h2, (Gr.of_below hb v).trans h3⟩
theorem run_app1 (ty : TypeId) (y : UInt8) (u : Value) (hu : u = encB y) (h : OwnB base W v l) (hl : l.length ≤ 90000000000000) (hbase : base ≤ W.heap.size) :
    ∃ v' W', (Builtin.append_ #[22, 22] ty #[v, .slice (some ⟨W.heap.size, 0, none⟩) 1 1]).run Try.prog (W.alloc (.cells #[u] u8T)) = .ok v' W' ∧ OwnB base W' v' (l ++ [y]) ∧ Gr W W' v v' := by
  subst hu
  exact run_appL (m := [y]) ty h (by simp; omega) hbase
theorem run_app3 (ty : TypeId) (y1 y2 y3 : UInt8) (u1 u2 u3 : Value) (h1 : u1 = encB y1) (h2 : u2 = encB y2) (h3 : u3 = encB y3) (h : OwnB base W v l) (hl : l.length ≤ 90000000000000) (hbase : base ≤ W.heap.size) :
    ∃ v' W', (Builtin.append_ #[22, 22] ty #[v, .slice (some ⟨W.heap.size, 0, none⟩) 3 3]).run Try.prog (W.alloc (.cells #[u1, u2, u3] u8T)) = .ok v' W' ∧ OwnB base W' v' (l ++ [y1, y2, y3]) ∧ Gr W W' v v' := by
  subst h1 h2 h3
  exact run_appL (m := [y1, y2, y3]) ty h (by simp; omega) hbase
theorem add_add_ (a : Addr) (i j : Nat) : (a.add i).add j = a.add (i + j) := by
  unfold Addr.add
  by_cases hi : i = 0 <;> by_cases hj : j = 0 <;> simp [hi, hj, Nat.add_assoc]
/-- The address of a slice cut at its beginning. -/
def tlA (A : Option Addr) (c k : Nat) : Option Addr := if c = k then A else A.map (·.add k)
theorem By.tl {A : Option Addr} {n c k : Nat} (h : By W (.slice A n c) l) (hk : k ≤ l.length) : By W (.slice (tlA A c k) (n - k) (c - k)) (l.drop k) := by
  obtain ⟨A', c', e, h2, h3, h4⟩ := h
  obtain ⟨rfl, rfl, rfl⟩ := Value.slice.inj e
  refine ⟨tlA A c k, c - k, by rw [List.length_drop], by rw [List.length_drop]; omega, by omega, fun i hi => ?_⟩
  rw [List.length_drop] at hi
  obtain ⟨a, e1, e2, e3⟩ := h4 (k + i) (by omega)
  subst e1
  unfold tlA
  rw [if_neg (by omega)]
  refine ⟨a.add k, rfl, by rw [add_block]; exact e2, ?_⟩
  rw [add_add_, e3, bf_get l (by omega), bf_get _ (by rw [List.length_drop]; omega), List.getElem_drop]
theorem By.hd {A : Option Addr} {n c k : Nat} (h : By W (.slice A n c) l) (hk : k ≤ l.length) : By W (.slice A k c) (l.take k) := by
  obtain ⟨A', c', e, h2, h3, h4⟩ := h
  obtain ⟨rfl, rfl, rfl⟩ := Value.slice.inj e
  have hl : (l.take k).length = k := by rw [List.length_take]; omega
  refine ⟨A, c, by rw [hl], by omega, by omega, fun i hi => ?_⟩
  obtain ⟨a, e1, e2, e3⟩ := h4 i (by omega)
  refine ⟨a, e1, e2, ?_⟩
  rw [e3, bf_get l (by omega), bf_get _ hi, List.getElem_take]
theorem By.form (h : By W v l) : ∃ A c, v = .slice A l.length c ∧ l.length ≤ c ∧ c ≤ 9223372036854775807 := by
  obtain ⟨A, c, h1, h2, h3, -⟩ := h
  exact ⟨A, c, h1, h2, h3⟩
theorem By.at_ {A : Option Addr} {n c i : Nat} (h : By W (.slice A n c) l) (hi : i < l.length) : ∃ a, A = some a ∧ a.block < W.heap.size ∧ W.cell? (a.add i) = some (.int .u8 (l[i].toNat : Int)) := by
  obtain ⟨A', c', e, h2, h3, h4⟩ := h
  obtain ⟨rfl, rfl, rfl⟩ := Value.slice.inj e
  obtain ⟨a, e1, e2, e3⟩ := h4 i hi
  exact ⟨a, e1, e2, by rw [e3, bf_get l hi]; rfl⟩
theorem By.len {A : Option Addr} {n c : Nat} (h : By W (.slice A n c) l) : n = l.length ∧ n ≤ c ∧ c ≤ 9223372036854775807 := by
  obtain ⟨A', c', e, h2, h3, h4⟩ := h
  obtain ⟨rfl, rfl, rfl⟩ := Value.slice.inj e
  exact ⟨rfl, h2, h3⟩
theorem By.conv (h : By W v l) : (convert 22 9 v).run Try.prog W = .ok (.string ⟨l.toArray⟩) W := by
  obtain ⟨A, c, rfl, h2, h3, h4⟩ := h
  cases hl : l with
  | nil => exact run_convert_bytes_zero (P := Try.prog) W 22 u8T uSl Try.underlying5 A c 9 Try.underlying9
  | cons y r =>
    rw [← hl]
    obtain ⟨a, rfl, -⟩ := h4 0 (by rw [hl]; simp)
    refine run_convert_bytes_back (P := Try.prog) W 22 9 u8T a c l uSl Try.underlying5 Try.underlying9 (fun j hj => ?_)
    obtain ⟨a', e, _, hc⟩ := h4 j hj
    injection e with e
    subst e
    rw [hc, bf_get l hj]
    simp [encB]
end
section
variable {ops : Array Oper} {rest : List Oper} {o : Oper} {a : Act} {K : Act → World → Prop} {Q : Exit → Act → World → Prop} {w w' : World} {v u v' : Value}
theorem wp_app (s x : Operand) (t : TypeId) (ho : o.op = .call { callee := .builtin .append, args := #[s, x], argTypes := #[t, t] }) (hs : a.eval s = v) (hx : a.eval x = u)
    (hr : (Builtin.append_ #[t, t] o.type #[v, u]).run Try.prog w = .ok v' w') (h : K (a.put o.dst v') w') : o.wp Try.prog a w K Q := by
  unfold Oper.wp execOp
  simp only [ho, resolve, invoke, builtin, Sem.run_bind, Sem.run_pure, Result.andThen_ok, List.map_toArray, List.map_cons, List.map_nil, hs, hx, hr]
  exact h
theorem wpList_app (hgd : o.guard = none) (s x : Operand) (t : TypeId) (ho : o.op = .call { callee := .builtin .append, args := #[s, x], argTypes := #[t, t] }) (hs : a.eval s = v) (hx : a.eval x = u)
    (hr : (Builtin.append_ #[t, t] o.type #[v, u]).run Try.prog w = .ok v' w') (h : wpList Try.prog ops Q rest (a.put o.dst v') w') : wpList Try.prog ops Q (o :: rest) a w :=
  wpList_plain hgd fun _ hK => wp_app s x t ho hs hx hr (hK _ _ h)
end
end Go.Proofs.Ytlbckhapcnlmnab
