/- Words for memory: slices, rows, boxes. -/
import Derived.Test.YtlbckhapcnlmnabProg
import Derived.Laws.Rows
import Derived.Laws.IdiomStrings
import Derived.WalkKit
import Derived.Lib.Hide
import Derived.Handy
import Derived.Maps.AppendAt
import Derived.OwnWalk
import Derived.Laws.OwnMore
import Derived.Laws.AppendOwnNone
import Derived.Deep.Draws
import Derived.Deep.AppendLies
namespace Go.Proofs.Ytlbckhapcnlmnab
open Go.RowKit

theorem add_block (a : Addr) (n : Nat) : (a.add n).block = a.block := by unfold Addr.add; split <;> rfl

/-- The first n cells behind address A, all below block B, read as f says. -/
def Cells (w : World) (B : Nat) (A : Option Addr) (n : Nat) (f : Nat → Value) : Prop := ∀ i, i < n → ∃ a, A = some a ∧ a.block < B ∧ w.cell? (a.add i) = some (f i)

section
variable {w w' : World} {B B' n : Nat} {A : Option Addr} {f g : Nat → Value}
theorem Cells.keep (h : Cells w B A n f) (hk : ∀ p : Addr, p.block < B → w'.cell? p = w.cell? p) : Cells w' B A n f := fun i hi => by
  obtain ⟨a, e, hb, hc⟩ := h i hi
  exact ⟨a, e, hb, (hk _ (by rw [add_block]; exact hb)).trans hc⟩
theorem Cells.below (h : Cells w B A n f) (hb : Below B w w') : Cells w' B A n f := h.keep fun _ hp => hb.cell hp
theorem Cells.more (h : Cells w B A n f) (hB : B ≤ B') : Cells w B' A n f := fun i hi => by
  obtain ⟨a, e, hb, hc⟩ := h i hi
  exact ⟨a, e, by omega, hc⟩
theorem Cells.step (h : Cells w B A n f) (hb : Below B w w') (hB : B ≤ B') : Cells w' B' A n f := (h.below hb).more hB
theorem Cells.less {m : Nat} (h : Cells w B A n f) (hm : m ≤ n) : Cells w B A m f := fun i hi => h i (by omega)
theorem Cells.same (h : Cells w B A n f) (hf : ∀ i, i < n → f i = g i) : Cells w B A n g := fun i hi => by rw [← hf i hi]; exact h i hi
theorem Cells.zero : Cells w B A 0 f := fun _ hi => by omega
theorem Cells.of_own {base : Nat} {e : TypeId} {c : Nat} {xs : List Value} (h : w.ownsRow base e 1 (.slice A n c) n xs) (hf : ∀ i, i < n → xs[i]? = some (f i)) : Cells w w.heap.size A n f := by
  intro i hi
  obtain ⟨g, cap, hv, _, hlt⟩ := h.form (by omega)
  have hA : A = some ⟨g, 0, none⟩ := by injection hv
  subst hA
  exact ⟨_, rfl, hlt, h.cells (g := g) rfl i _ (hf i hi)⟩
end

/-- Block g is a row of elements of type e. -/
def IsRow (w : World) (e : TypeId) (g : Nat) : Prop := ∃ cur fr, w.heap[g]? = some (.cells cur e fr)
theorem row_at (g i : Nat) : (Addr.add ⟨g, 0, none⟩ i : Addr) = ⟨g, i, none⟩ := by
  unfold Addr.add
  split
  · rename_i h0; subst h0; rfl
  · simp
/-- A slice's address: nil, or the head of a row. -/
def Head (A : Option Addr) : Prop := A = none ∨ ∃ g, A = some ⟨g, 0, none⟩
/-- The first n cells behind address A, the head of a row of type e, read as f says. -/
def CellsT (w : World) (e : TypeId) (A : Option Addr) (n : Nat) (f : Nat → Value) : Prop := Head A ∧ ∀ i, i < n → ∃ g, A = some ⟨g, 0, none⟩ ∧ IsRow w e g ∧ w.cell? ⟨g, i, none⟩ = some (f i)
section
variable {w w' : World} {e : TypeId} {n : Nat} {A : Option Addr} {f g : Nat → Value}
theorem IsRow.lt {b : Nat} (h : IsRow w e b) : b < w.heap.size := by
  obtain ⟨cur, fr, h⟩ := h
  rcases Nat.lt_or_ge b w.heap.size with hlt | hge
  · exact hlt
  · rw [Array.getElem?_eq_none hge] at h; cases h
theorem IsRow.step {b : Nat} (h : IsRow w e b) (hb : Below w.heap.size w w') : IsRow w' e b := by
  have hl := h.lt
  obtain ⟨cur, fr, h⟩ := h
  exact ⟨cur, fr, (hb.block b hl).trans h⟩
theorem IsRow.set_ {b : Nat} (h : IsRow w e b) (p : Addr) (u : Value) : IsRow (w.setCell p u) e b := by
  obtain ⟨cur, fr, h⟩ := h
  by_cases hb : b = p.block
  · subst hb
    unfold IsRow
    simp [World.setCell, Array.getElem?_modify, h]
  · exact ⟨cur, fr, (Below.heap_setCell w p u b hb).trans h⟩
theorem CellsT.cells (h : CellsT w e A n f) : Cells w w.heap.size A n f := fun i hi => by
  obtain ⟨g, h1, h2, h3⟩ := h.2 i hi
  exact ⟨_, h1, h2.lt, by rw [row_at]; exact h3⟩
theorem CellsT.step (h : CellsT w e A n f) (hb : Below w.heap.size w w') : CellsT w' e A n f := ⟨h.1, fun i hi => by
  obtain ⟨g, h1, h2, h3⟩ := h.2 i hi
  exact ⟨g, h1, h2.step hb, (hb.cell (p := ⟨g, i, none⟩) h2.lt).trans h3⟩⟩
theorem CellsT.less {m : Nat} (h : CellsT w e A n f) (hm : m ≤ n) : CellsT w e A m f := ⟨h.1, fun i hi => h.2 i (by omega)⟩
theorem CellsT.same (h : CellsT w e A n f) (hf : ∀ i, i < n → f i = g i) : CellsT w e A n g := ⟨h.1, fun i hi => by rw [← hf i hi]; exact h.2 i hi⟩
/-- A store into a block of another type. -/
theorem CellsT.far (h : CellsT w e A n f) {p : Addr} {e' : TypeId} (hp : IsRow w e' p.block) (hne : e ≠ e') (u : Value) : CellsT (w.setCell p u) e A n f := ⟨h.1, fun i hi => by
  obtain ⟨g, h1, h2, h3⟩ := h.2 i hi
  have hd : g ≠ p.block := by
    intro heq
    obtain ⟨c1, f1, g1⟩ := h2
    obtain ⟨c2, f2, g2⟩ := hp
    rw [heq, g2] at g1
    injection g1 with g1
    injection g1 with _ g3 _
    exact hne g3.symm
  exact ⟨g, h1, h2.set_ p u, (World.cell?_setCell_other w p ⟨g, i, none⟩ u (fun e => hd (by rw [e]))).trans h3⟩⟩
theorem CellsT.of_own {base : Nat} {c : Nat} {xs : List Value} (h : w.ownsRow base e 1 (.slice A n c) n xs) (hf : ∀ i, i < n → xs[i]? = some (f i)) : CellsT w e A n f := by
  rcases h.2 with ⟨h0, h1⟩ | ⟨g, cap, cur, h0, _, hh, _⟩
  · injection h0 with h0
    subst h0
    exact ⟨.inl rfl, fun i hi => by omega⟩
  · have hA : A = some ⟨g, 0, none⟩ := by injection h0
    subst hA
    refine ⟨.inr ⟨g, rfl⟩, fun i hi => ⟨g, rfl, ⟨cur, _, hh⟩, ?_⟩⟩
    have := h.cells (g := g) rfl i _ (hf i hi)
    rw [row_at] at this
    exact this
end

/-- The list of values of a function below n. -/
def vals (f : Nat → Value) (n : Nat) : List Value := (List.range n).map f
theorem vals_len (f : Nat → Value) (n : Nat) : (vals f n).length = n := by simp [vals]
theorem vals_get (f : Nat → Value) (n i : Nat) (h : i < n) : (vals f n)[i]? = some (f i) := by simp [vals, h]
theorem vals_same {f g : Nat → Value} {n : Nat} (h : ∀ j, j < n → f j = g j) : vals f n = vals g n := List.map_congr_left fun j hj => h j (List.mem_range.1 hj)
theorem vals_inv (f : Nat → Value) (n i : Nat) (u : Value) (h : (vals f n)[i]? = some u) : i < n ∧ u = f i := by
  simp [vals] at h
  obtain ⟨j, hj, rfl⟩ := h
  obtain ⟨hj1, rfl⟩ := List.getElem?_eq_some_iff.1 hj
  simp at hj1 ⊢
  exact hj1

def Row (w : World) (g : Nat) (e : TypeId) (n : Nat) (f : Nat → Value) : Prop := w.heap[g]? = some (.cells (vals f n).toArray e (0, 0))
section
variable {w w' : World} {g n : Nat} {e : TypeId} {f f' : Nat → Value}
theorem Row.lt (h : Row w g e n f) : g < w.heap.size := by
  rcases Nat.lt_or_ge g w.heap.size with hlt | hge
  · exact hlt
  · unfold Row at h; rw [Array.getElem?_eq_none hge] at h; cases h
theorem Row.cell (h : Row w g e n f) (i : Nat) (hi : i < n) : w.cell? ⟨g, i, none⟩ = some (f i) := by
  rw [cell_of_row w g i _ e (0, 0) h]
  simpa using vals_get f n i hi
theorem Row.frozen (h : Row w g e n f) (i : Nat) : w.frozen? ⟨g, i, none⟩ = false := by
  unfold Row at h
  simp [World.frozen?, h]
theorem Row.set_ (h : Row w g e n f) (i : Nat) (u : Value) (hf : ∀ j, j < n → f' j = if j = i then u else f j) : Row (w.setCell ⟨g, i, none⟩ u) g e n f' := by
  unfold Row at h ⊢
  have : ((vals f n).toArray.setIfInBounds i u) = (vals f' n).toArray := by
    apply Array.ext
    · simp [vals_len]
    · intro j h1 h2
      simp [vals_len] at h1
      rw [Array.getElem_setIfInBounds (by simpa [vals_len] using h1)]
      simp only [vals, List.getElem_toArray, List.getElem_map, List.getElem_range]
      rw [hf j h1]
      by_cases hij : i = j
      · subst hij; simp
      · rw [if_neg hij, if_neg (Ne.symm hij)]
  simp [World.setCell, Array.getElem?_modify, h, this]
theorem Row.same (h : Row w g e n f) (hf : ∀ j, j < n → f j = f' j) : Row w g e n f' := by
  unfold Row at h ⊢
  rw [h, vals_same hf]
theorem Row.below {B : Nat} (h : Row w g e n f) (hb : Below B w w') (hg : g < B) : Row w' g e n f := (hb.block g hg).trans h
theorem Row.drew (h : Row w g e n f) : Row w.drew g e n f := h
theorem Row.drewN (h : Row w g e n f) (k : Nat) : Row (w.drewN k) g e n f := h
theorem Row.cells (h : Row w g e n f) : Cells w w.heap.size (some ⟨g, 0, none⟩) n f := by
  intro i hi
  refine ⟨_, rfl, h.lt, ?_⟩
  have := h.cell i hi
  unfold Addr.add
  split
  · rename_i h0; subst h0; exact this
  · simpa using this
theorem Row.cellsB (h : Row w g e n f) {B : Nat} (hB : g < B) : Cells w B (some ⟨g, 0, none⟩) n f := by
  intro i hi
  obtain ⟨a, h1, _, h3⟩ := h.cells i hi
  injection h1 with h1
  subst h1
  exact ⟨_, rfl, hB, h3⟩
end

theorem cells_alloc (w : World) (cs : Array Value) (e : TypeId) (fr : Nat × Nat) {g B n : Nat} {f : Nat → Value} (hg : w.heap.size = g) (hB : g < B) (h : ∀ i, i < n → cs[i]? = some (f i)) :
    Cells (w.alloc (.cells cs e fr)) B (some ⟨g, 0, none⟩) n f := by
  subst hg
  intro i hi
  refine ⟨_, rfl, hB, ?_⟩
  have : (Addr.add ⟨w.heap.size, 0, none⟩ i : Addr) = ⟨w.heap.size, i, none⟩ := by
    unfold Addr.add
    split
    · rename_i h0; subst h0; rfl
    · simp
  rw [this, World.cell?_alloc_mark, h i hi]
theorem cellsT_alloc (w : World) (cs : Array Value) (e : TypeId) (fr : Nat × Nat) {g n : Nat} {f : Nat → Value} (hg : w.heap.size = g) (h : ∀ i, i < n → cs[i]? = some (f i)) :
    CellsT (w.alloc (.cells cs e fr)) e (some ⟨g, 0, none⟩) n f := by
  subst hg
  refine ⟨.inr ⟨_, rfl⟩, fun i hi => ⟨_, rfl, ⟨_, _, heap_alloc_new w _⟩, ?_⟩⟩
  rw [World.cell?_alloc_mark, h i hi]
theorem Row.cellsT {w : World} {g n : Nat} {e : TypeId} {f : Nat → Value} (h : Row w g e n f) : CellsT w e (some ⟨g, 0, none⟩) n f := 
  ⟨.inr ⟨_, rfl⟩, fun i hi => ⟨g, rfl, ⟨_, _, h⟩, h.cell i hi⟩⟩
/-- A block of one cell. -/
def One (w : World) (g : Nat) (v : Value) (t : TypeId) : Prop := w.heap[g]? = some (.cells #[v] t (0, 0))
theorem One.new (w : World) (v : Value) (t : TypeId) : One (w.alloc (.cells #[v] t)) w.heap.size v t := heap_alloc_new w _
theorem One.lt {w : World} {g : Nat} {v : Value} {t : TypeId} (h : One w g v t) : g < w.heap.size := by
  rcases Nat.lt_or_ge g w.heap.size with hlt | hge
  · exact hlt
  · unfold One at h; rw [Array.getElem?_eq_none hge] at h; cases h
theorem One.alloc {w : World} {g : Nat} {v : Value} {t : TypeId} (h : One w g v t) (o : Obj) : One (w.alloc o) g v t := (Below.heap_alloc w o g h.lt).trans h
theorem One.below {w w' : World} {B g : Nat} {v : Value} {t : TypeId} (h : One w g v t) (hb : Below B w w') (hg : g < B) : One w' g v t := (hb.block g hg).trans h
theorem One.step {w w' : World} {g : Nat} {v : Value} {t : TypeId} (h : One w g v t) (hb : Below w.heap.size w w') : One w' g v t := h.below hb h.lt
theorem One.cell {w : World} {g : Nat} {v : Value} {t : TypeId} (h : One w g v t) : w.cell? ⟨g, 0, none⟩ = some v := by
  rw [cell_of_row w g 0 _ t (0, 0) h]; rfl
theorem One.far {w : World} {g : Nat} {v : Value} {t : TypeId} (h : One w g v t) {p : Addr} (hp : g ≠ p.block) (u : Value) : One (w.setCell p u) g v t := (Below.heap_setCell w p u g hp).trans h
theorem One.drewN {w : World} {g : Nat} {v : Value} {t : TypeId} (h : One w g v t) (k : Nat) : One (w.drewN k) g v t := h
theorem Row.far {w : World} {g n : Nat} {e : TypeId} {f : Nat → Value} (h : Row w g e n f) {p : Addr} (hp : g ≠ p.block) (u : Value) : Row (w.setCell p u) g e n f := (Below.heap_setCell w p u g hp).trans h
theorem One.row {w : World} {g : Nat} {v : Value} {t : TypeId} (h : One w g v t) : IsRow w t g := ⟨_, _, h⟩
theorem One.set_ {w : World} {g : Nat} {v : Value} {t : TypeId} (h : One w g v t) (u : Value) : One (w.setCell ⟨g, 0, none⟩ u) g u t := one_setCell h
theorem One.frozen {w : World} {g : Nat} {v : Value} {t : TypeId} (h : One w g v t) : w.frozen? ⟨g, 0, none⟩ = false := by
  unfold One at h; simp [World.frozen?, h]
section
variable {P : Program} {w : World} {ops : Array Oper} {rest : List Oper} {o : Oper} {a : Act} {Q : Exit → Act → World → Prop}
theorem wpList_make_row (hg : o.guard = none) (l c : Operand) (t : TypeId) (hop : o.op = Op.makeSlice t l c)
    (e : TypeId) (i : TypeInfo) (z : Value) (h1 : P.underlying t = some (.slice e)) (h2 : P.info? e = some i) (h3 : i.zero = some z) (h4 : i.size = 1) (hz : z.cells = #[z])
    (kl kc : IntKind) (L C : Int) (n : Nat) (hl : a.eval l = .int kl L) (hc : a.eval c = .int kc C) (hL : L = (n : Int)) (hC : C = (n : Int)) (b2 : i.bytes * n ≤ 281474976710656) (b3 : n ≤ maxLen)
    (w0 : World) (base : Nat) (hb : Below base w0 w) (hbase : base ≤ w.heap.size)
    (hK : ∀ w', Hid (Row w' w.heap.size e n (fun _ => z)) → Hid (Below base w0 w') → Hid (w.heap.size < w'.heap.size) → wpList P ops Q rest (a.put o.dst (.slice (some ⟨w.heap.size, 0, none⟩) n n)) w') :
    wpList P ops Q (o :: rest) a w := by
  refine wpList_make_full w hg l c t hop w.heap.size e i z 1 h1 h2 h3 h4 kl kc L C n hl hc hL hC b2 b3 (Nat.le_refl _) ?_
  intro w' hown hgr
  have hrow : Row w' w.heap.size e n (fun _ => z) := by
    rcases hown.2 with ⟨h0, _⟩ | ⟨g, cap, cur, h0, _, hh, hcap, _, hcs, htake⟩
    · cases h0
    · obtain ⟨h5, _, rfl⟩ := Value.slice.inj h0
      injection h5 with h5
      injection h5 with h5
      subst h5
      unfold Row
      rw [hh]
      have hcur : cur = (vals (fun _ => z) n).toArray := by
        apply Array.ext'
        have h6 : cur.toList.take (n * 1) = cur.toList := List.take_of_length_le (by rw [Array.length_toList, hcs]; exact Nat.le_refl _)
        rw [← h6, htake]
        rw [hz]
        simp only [madeCells, Nat.mul_one, Array.toList_map, Array.toList_range, vals]
        exact List.map_congr_left fun j _ => by simp [Nat.mod_one]
      rw [hcur]
  refine hK w' hrow (hb.grown hgr hbase (fun k hk => by cases hk)) ?_
  exact hrow.lt
end
end Go.Proofs.Ytlbckhapcnlmnab
