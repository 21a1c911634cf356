/- A block of the call's own, known whole: its n cells read as a function of the index. make, store. -/
import Derived.Test.YtapblmbjbpkieaaDoorMem
import Derived.Laws.Rows
import Derived.Laws.IdiomStrings
namespace Go.Proofs.YtapblmbjbpkieaaDoor
open Go.RowKit

def Row (w : World) (g : Nat) (e : TypeId) (n : Nat) (f : Nat → Value) : Prop := w.heap[g]? = some (.cells (vals f n).toArray e (0, 0))
section
variable {w w' : World} {g n : Nat} {e : TypeId} {f f' : Nat → Value}
theorem Row.lt (h : Row w g e n f) : g < w.heap.size := by
  rcases Nat.lt_or_ge g w.heap.size with hlt | hge
  · exact hlt
  · unfold Row at h; rw [Array.getElem?_eq_none hge] at h; cases h
theorem Row.cell (h : Row w g e n f) (i : Nat) (hi : i < n) : w.cell? ⟨g, i, none⟩ = some (f i) := by
  rw [cell_of_row w g i _ e (0, 0) h]
  simpa using vals_get f n i hi
theorem Row.frozen (h : Row w g e n f) (i : Nat) : w.frozen? ⟨g, i, none⟩ = false := by
  unfold Row at h
  simp [World.frozen?, h]
theorem Row.set_ (h : Row w g e n f) (i : Nat) (u : Value) (hf : ∀ j, j < n → f' j = if j = i then u else f j) : Row (w.setCell ⟨g, i, none⟩ u) g e n f' := by
  unfold Row at h ⊢
  have : ((vals f n).toArray.setIfInBounds i u) = (vals f' n).toArray := by
    apply Array.ext
    · simp [vals_len]
    · intro j h1 h2
      simp [vals_len] at h1
      rw [Array.getElem_setIfInBounds (by simpa [vals_len] using h1)]
      simp only [vals, List.getElem_toArray, List.getElem_map, List.getElem_range]
      rw [hf j h1]
      by_cases hij : i = j
      · subst hij; simp
      · rw [if_neg hij, if_neg (Ne.symm hij)]
  simp [World.setCell, Array.getElem?_modify, h, this]
theorem Row.same (h : Row w g e n f) (hf : ∀ j, j < n → f j = f' j) : Row w g e n f' := by
  unfold Row at h ⊢
  rw [h, vals_same hf]
theorem Row.below {B : Nat} (h : Row w g e n f) (hb : Below B w w') (hg : g < B) : Row w' g e n f := (hb.block g hg).trans h
theorem Row.drew (h : Row w g e n f) : Row w.drew g e n f := h
theorem Row.drewN (h : Row w g e n f) (k : Nat) : Row (w.drewN k) g e n f := h
theorem Row.cells (h : Row w g e n f) : Cells w w.heap.size (some ⟨g, 0, none⟩) n f := by
  intro i hi
  refine ⟨_, rfl, h.lt, ?_⟩
  have := h.cell i hi
  unfold Addr.add
  split
  · rename_i h0; subst h0; exact this
  · simpa using this
theorem Row.cellsB (h : Row w g e n f) {B : Nat} (hB : g < B) : Cells w B (some ⟨g, 0, none⟩) n f := by
  intro i hi
  obtain ⟨a, h1, _, h3⟩ := h.cells i hi
  injection h1 with h1
  subst h1
  exact ⟨_, rfl, hB, h3⟩
end

theorem cells_alloc (w : World) (cs : Array Value) (e : TypeId) (fr : Nat × Nat) {g B n : Nat} {f : Nat → Value} (hg : w.heap.size = g) (hB : g < B) (h : ∀ i, i < n → cs[i]? = some (f i)) :
    Cells (w.alloc (.cells cs e fr)) B (some ⟨g, 0, none⟩) n f := by
  subst hg
  intro i hi
  refine ⟨_, rfl, hB, ?_⟩
  have : (Addr.add ⟨w.heap.size, 0, none⟩ i : Addr) = ⟨w.heap.size, i, none⟩ := by
    unfold Addr.add
    split
    · rename_i h0; subst h0; rfl
    · simp
  rw [this, World.cell?_alloc_mark, h i hi]
theorem cellsT_alloc (w : World) (cs : Array Value) (e : TypeId) (fr : Nat × Nat) {g n : Nat} {f : Nat → Value} (hg : w.heap.size = g) (h : ∀ i, i < n → cs[i]? = some (f i)) :
    CellsT (w.alloc (.cells cs e fr)) e (some ⟨g, 0, none⟩) n f := by
  subst hg
  refine ⟨.inr ⟨_, rfl⟩, fun i hi => ⟨_, rfl, ⟨_, _, heap_alloc_new w _⟩, ?_⟩⟩
  rw [World.cell?_alloc_mark, h i hi]
theorem Row.cellsT {w : World} {g n : Nat} {e : TypeId} {f : Nat → Value} (h : Row w g e n f) : CellsT w e (some ⟨g, 0, none⟩) n f := 
  ⟨.inr ⟨_, rfl⟩, fun i hi => ⟨g, rfl, ⟨_, _, h⟩, h.cell i hi⟩⟩
/-- A block of one cell. -/
def One (w : World) (g : Nat) (v : Value) (t : TypeId) : Prop := w.heap[g]? = some (.cells #[v] t (0, 0))
theorem One.new (w : World) (v : Value) (t : TypeId) : One (w.alloc (.cells #[v] t)) w.heap.size v t := heap_alloc_new w _
theorem One.lt {w : World} {g : Nat} {v : Value} {t : TypeId} (h : One w g v t) : g < w.heap.size := by
  rcases Nat.lt_or_ge g w.heap.size with hlt | hge
  · exact hlt
  · unfold One at h; rw [Array.getElem?_eq_none hge] at h; cases h
theorem One.alloc {w : World} {g : Nat} {v : Value} {t : TypeId} (h : One w g v t) (o : Obj) : One (w.alloc o) g v t := (Below.heap_alloc w o g h.lt).trans h
theorem One.below {w w' : World} {B g : Nat} {v : Value} {t : TypeId} (h : One w g v t) (hb : Below B w w') (hg : g < B) : One w' g v t := (hb.block g hg).trans h
theorem One.step {w w' : World} {g : Nat} {v : Value} {t : TypeId} (h : One w g v t) (hb : Below w.heap.size w w') : One w' g v t := h.below hb h.lt
theorem One.cell {w : World} {g : Nat} {v : Value} {t : TypeId} (h : One w g v t) : w.cell? ⟨g, 0, none⟩ = some v := by
  rw [cell_of_row w g 0 _ t (0, 0) h]; rfl
theorem One.far {w : World} {g : Nat} {v : Value} {t : TypeId} (h : One w g v t) {p : Addr} (hp : g ≠ p.block) (u : Value) : One (w.setCell p u) g v t := (Below.heap_setCell w p u g hp).trans h
theorem One.drewN {w : World} {g : Nat} {v : Value} {t : TypeId} (h : One w g v t) (k : Nat) : One (w.drewN k) g v t := h
theorem Row.far {w : World} {g n : Nat} {e : TypeId} {f : Nat → Value} (h : Row w g e n f) {p : Addr} (hp : g ≠ p.block) (u : Value) : Row (w.setCell p u) g e n f := (Below.heap_setCell w p u g hp).trans h
theorem One.row {w : World} {g : Nat} {v : Value} {t : TypeId} (h : One w g v t) : IsRow w t g := ⟨_, _, h⟩
theorem One.set_ {w : World} {g : Nat} {v : Value} {t : TypeId} (h : One w g v t) (u : Value) : One (w.setCell ⟨g, 0, none⟩ u) g u t := one_setCell h
theorem One.frozen {w : World} {g : Nat} {v : Value} {t : TypeId} (h : One w g v t) : w.frozen? ⟨g, 0, none⟩ = false := by
  unfold One at h; simp [World.frozen?, h]
/-- All old cells and marks read as before. -/
theorem old_cells {w w' : World} (hb : Below w.heap.size w w') : (∀ b o, b < w.heap.size → w'.cell? ⟨b, o, none⟩ = w.cell? ⟨b, o, none⟩) ∧ (∀ b o, b < w.heap.size → w'.frozen? ⟨b, o, none⟩ = w.frozen? ⟨b, o, none⟩) :=
  ⟨fun b o h => hb.cell (p := ⟨b, o, none⟩) h, fun b o h => hb.frozen (p := ⟨b, o, none⟩) h⟩
theorem LI.of_cells {w : World} {A : Option Addr} {n c : Nat} {f : Nat → Value} {ds : List Nat} (hn : ds.length = n) (hc : n ≤ c) (h : Cells w w.heap.size A n f) (hf : ∀ i, i < n → f i = i64f ds i) : LI w (.slice A n c) ds := by
  subst hn
  exact ⟨A, c, rfl, hc, h.same hf⟩
theorem LU.of_cells {w : World} {A : Option Addr} {n c : Nat} {f : Nat → Value} {ds : List Nat} (hn : ds.length = n) (hc : n ≤ c) (h : CellsT w 71 A n f) (hf : ∀ i, i < n → f i = u32f ds i) : LU w (.slice A n c) ds := by
  subst hn
  exact ⟨A, c, rfl, hc, h.same hf⟩
section
variable {P : Program} {w : World} {ops : Array Oper} {rest : List Oper} {o : Oper} {a : Act} {Q : Exit → Act → World → Prop}
theorem wpList_make_row (hg : o.guard = none) (l c : Operand) (t : TypeId) (hop : o.op = Op.makeSlice t l c)
    (e : TypeId) (i : TypeInfo) (z : Value) (h1 : P.underlying t = some (.slice e)) (h2 : P.info? e = some i) (h3 : i.zero = some z) (h4 : i.size = 1) (hz : z.cells = #[z])
    (kl kc : IntKind) (L C : Int) (n : Nat) (hl : a.eval l = .int kl L) (hc : a.eval c = .int kc C) (hL : L = (n : Int)) (hC : C = (n : Int)) (b2 : i.bytes * n ≤ 281474976710656) (b3 : n ≤ maxLen)
    (w0 : World) (base : Nat) (hb : Below base w0 w) (hbase : base ≤ w.heap.size)
    (hK : ∀ w', Hid (Row w' w.heap.size e n (fun _ => z)) → Hid (Below base w0 w') → Hid (w.heap.size < w'.heap.size) → wpList P ops Q rest (a.put o.dst (.slice (some ⟨w.heap.size, 0, none⟩) n n)) w') :
    wpList P ops Q (o :: rest) a w := by
  refine wpList_make_full w hg l c t hop w.heap.size e i z 1 h1 h2 h3 h4 kl kc L C n hl hc hL hC b2 b3 (Nat.le_refl _) ?_
  intro w' hown hgr
  have hrow : Row w' w.heap.size e n (fun _ => z) := by
    rcases hown.2 with ⟨h0, _⟩ | ⟨g, cap, cur, h0, _, hh, hcap, _, hcs, htake⟩
    · cases h0
    · obtain ⟨h5, _, rfl⟩ := Value.slice.inj h0
      injection h5 with h5
      injection h5 with h5
      subst h5
      unfold Row
      rw [hh]
      have hcur : cur = (vals (fun _ => z) n).toArray := by
        apply Array.ext'
        have h6 : cur.toList.take (n * 1) = cur.toList := List.take_of_length_le (by rw [Array.length_toList, hcs]; exact Nat.le_refl _)
        rw [← h6, htake]
        rw [hz]
        simp only [madeCells, Nat.mul_one, Array.toList_map, Array.toList_range, vals]
        exact List.map_congr_left fun j _ => by simp [Nat.mod_one]
      rw [hcur]
  refine hK w' hrow (hb.grown hgr hbase (fun k hk => by cases hk)) ?_
  exact hrow.lt
end
end Go.Proofs.YtapblmbjbpkieaaDoor
