/- The heap's memory, and the contracts of its smallest functions. -/
import Derived.Test.YtijoaiehnemgnaaHMem
import Derived.Deep.RegionHeld3
namespace Go.Proofs.Ytijoaiehnemgnaa
open Go.RowKit

/-- The block of a heap: the slices of its entries and of its places. -/
def HeapB (w : World) (h : Nat) (A : Option Addr) (L c P n : Nat) : Prop := w.heap[h]? = some (.cells #[.slice A L c, .slice (some ⟨P, 0, none⟩) n n] 50 (0, 0))
/-- Nothing but the rows E and P has changed. -/
def Only (w w' : World) (E P : Nat) : Prop := w'.os = w.os ∧ w'.tape = w.tape ∧ w'.output = w.output ∧ w.heap.size ≤ w'.heap.size ∧ ∀ k, k < w.heap.size → k ≠ E → k ≠ P → w'.heap[k]? = w.heap[k]?
section
variable {w w' w'' : World} {h L c P n E : Nat} {A : Option Addr}
theorem HeapB.lt (hB : HeapB w h A L c P n) : h < w.heap.size := by
  rcases Nat.lt_or_ge h w.heap.size with hlt | hge
  · exact hlt
  · unfold HeapB at hB; rw [Array.getElem?_eq_none hge] at hB; cases hB
theorem HeapB.cell0 (hB : HeapB w h A L c P n) : w.cell? ⟨h, 0, none⟩ = some (.slice A L c) := by
  rw [cell_of_row w h 0 _ _ (0, 0) hB]; rfl
theorem HeapB.cell1 (hB : HeapB w h A L c P n) : w.cell? ⟨h, 1, none⟩ = some (.slice (some ⟨P, 0, none⟩) n n) := by
  rw [cell_of_row w h 1 _ _ (0, 0) hB]; rfl
theorem HeapB.frozen (hB : HeapB w h A L c P n) (i : Nat) : w.frozen? ⟨h, i, none⟩ = false := by
  unfold HeapB at hB
  simp [World.frozen?, hB]
theorem HeapB.keep (hB : HeapB w h A L c P n) (hk : w'.heap[h]? = w.heap[h]?) : HeapB w' h A L c P n := hk.trans hB
theorem HeapB.far (hB : HeapB w h A L c P n) {p : Addr} (hp : h ≠ p.block) (u : Value) : HeapB (w.setCell p u) h A L c P n := (Below.heap_setCell w p u h hp).trans hB
theorem box_far {w : World} {g : Nat} {o : Obj} (hb : w.heap[g]? = some o) {p : Addr} (hp : g ≠ p.block) (u : Value) : (w.setCell p u).heap[g]? = some o := (Below.heap_setCell w p u g hp).trans hb
theorem HeapB.alloc (hB : HeapB w h A L c P n) (o : Obj) : HeapB (w.alloc o) h A L c P n := (Below.heap_alloc w o h hB.lt).trans hB
theorem HeapB.drew (hB : HeapB w h A L c P n) : HeapB w.drew h A L c P n := hB
theorem Only.refl (w : World) (E P : Nat) : Only w w E P := ⟨rfl, rfl, rfl, Nat.le_refl _, fun _ _ _ _ => rfl⟩
theorem Only.trans (h1 : Only w w' E P) (h2 : Only w' w'' E P) : Only w w'' E P :=
  ⟨h2.1.trans h1.1, h2.2.1.trans h1.2.1, h2.2.2.1.trans h1.2.2.1, Nat.le_trans h1.2.2.2.1 h2.2.2.2.1, fun k hk a b => (h2.2.2.2.2 k (Nat.lt_of_lt_of_le hk h1.2.2.2.1) a b).trans (h1.2.2.2.2 k hk a b)⟩
theorem Only.drew (h1 : Only w w' E P) : Only w w'.drew E P := h1
theorem Only.alloc (h1 : Only w w' E P) (o : Obj) : Only w (w'.alloc o) E P := by
  have hb := (Below.refl w'.heap.size w').alloc (Nat.le_refl _) o
  exact ⟨hb.os.trans h1.1, hb.tape.trans h1.2.1, hb.output.trans h1.2.2.1, Nat.le_trans h1.2.2.2.1 hb.size, fun k hk a b => (hb.block k (Nat.lt_of_lt_of_le hk h1.2.2.2.1)).trans (h1.2.2.2.2 k hk a b)⟩
theorem Only.set_ (h1 : Only w w' E P) {p : Addr} (hp : p.block = E ∨ p.block = P ∨ w.heap.size ≤ p.block) (u : Value) : Only w (w'.setCell p u) E P := by
  have hb := (Below.refl 0 w').setCell (Nat.zero_le _) u (p := p)
  exact ⟨hb.os.trans h1.1, hb.tape.trans h1.2.1, hb.output.trans h1.2.2.1, Nat.le_trans h1.2.2.2.1 hb.size, fun k hk a b => (Below.heap_setCell w' p u k (by omega)).trans (h1.2.2.2.2 k hk a b)⟩
theorem Only.below {B : Nat} (h1 : Only w w' E P) (hE : B ≤ E) (hP : B ≤ P) (hB : B ≤ w.heap.size) : Below B w w' :=
  ⟨h1.1, h1.2.1, h1.2.2.1, h1.2.2.2.1, fun k hk => h1.2.2.2.2 k (by omega) (by omega) (by omega)⟩
end

set_option maxRecDepth 100000 in
set_option maxHeartbeats 2000000 in
theorem put_any {w : World} {h L c P n E place item : Nat} {key : Int} {f g : Nat → Value} (hB : HeapB w h (some ⟨E, 0, none⟩) L c P n) (hE : Row w E 54 (c * 2) f) (hP : Row w P 3 n g) (hp : place < L) (hi : item < n) (hLc : L ≤ c) (h1 : h ≠ E) (h2 : h ≠ P) (h3 : E ≠ P) :
    Calls Try.prog 22 #[.pointer (some ⟨h, 0, none⟩), .int .i64 (place : Nat), .agg #[.int .i64 (item : Nat), .int .i64 key]] w fun e w' => (∃ v, e = .returned v) ∧ HeapB w' h (some ⟨E, 0, none⟩) L c P n ∧
      Row w' E 54 (c * 2) (fun i => if i = place * 2 then .int .i64 (item : Nat) else if i = place * 2 + 1 then .int .i64 key else f i) ∧ Row w' P 3 n (fun i => if i = item then .int .i64 (place : Nat) else g i) ∧ Only w w' E P := by
  go_enter Try.func22, Try.ntmps22
  go_wp2_with fail
  obtain ⟨w1, hw1⟩ : ∃ w1, w.alloc (.cells #[.int .i64 (item : Nat), .int .i64 key] 54) = w1 := ⟨_, rfl⟩
  have hO1 : Only w w1 E P := by rw [← hw1]; exact (Only.refl w E P).alloc _
  have hB1 : HeapB w1 h (some ⟨E, 0, none⟩) L c P n := by rw [← hw1]; exact hB.alloc _
  have hE1 : Row w1 E 54 (c * 2) f := by rw [← hw1]; exact (Below.heap_alloc w _ E hE.lt).trans hE
  have hP1 : Row w1 P 3 n g := by rw [← hw1]; exact (Below.heap_alloc w _ P hP.lt).trans hP
  have hb1 : w1.heap[w.heap.size]? = some (.cells #[.int .i64 (item : Nat), .int .i64 key] 54 (0, 0)) := by rw [← hw1]; exact heap_alloc_new w _
  have x0 : w1.cell? ⟨w.heap.size, 0, none⟩ = some (.int .i64 (item : Nat)) := by rw [cell_of_row w1 _ 0 _ _ (0, 0) hb1]; rfl
  have x1 : w1.cell? ⟨w.heap.size, 1, none⟩ = some (.int .i64 key) := by rw [cell_of_row w1 _ 1 _ _ (0, 0) hb1]; rfl
  have c0 := hB1.cell0
  have c1 := hB1.cell1
  have e0 := hE1.cell (place * 2) (by omega)
  have f0 := hE1.frozen (place * 2)
  have hE2 : Row (w1.setCell ⟨E, place * 2, none⟩ (.int .i64 (item : Nat))) E 54 (c * 2) (fun i => if i = place * 2 then .int .i64 (item : Nat) else f i) := hE1.set_ _ _ (fun _ _ => rfl)
  have e1 := hE2.cell (place * 2 + 1) (by omega)
  have f1 := hE2.frozen (place * 2 + 1)
  have hE3 := hE2.set_ (f' := fun i => if i = place * 2 then .int .i64 (item : Nat) else if i = place * 2 + 1 then .int .i64 key else f i) (place * 2 + 1) (.int .i64 key) (fun j _ => by
    by_cases a : j = place * 2
    · rw [if_pos a, if_neg (by omega), if_pos a]
    · rw [if_neg a]
      by_cases b : j = place * 2 + 1
      · rw [if_pos b, if_pos b]
      · rw [if_neg b, if_neg b, if_neg a])
  have hl1 := hE.lt
  have hl2 := hP.lt
  have hB3 := (hB1.far (p := ⟨E, place * 2, none⟩) (by show h ≠ E; omega) (.int .i64 (item : Nat))).far (p := ⟨E, place * 2 + 1, none⟩) (by show h ≠ E; omega) (.int .i64 key)
  have hb3 := box_far (box_far hb1 (p := ⟨E, place * 2, none⟩) (by show w.heap.size ≠ E; omega) (.int .i64 (item : Nat))) (p := ⟨E, place * 2 + 1, none⟩) (by show w.heap.size ≠ E; omega) (.int .i64 key)
  have hP3 := (hP1.far (p := ⟨E, place * 2, none⟩) (by show P ≠ E; omega) (.int .i64 (item : Nat))).far (p := ⟨E, place * 2 + 1, none⟩) (by show P ≠ E; omega) (.int .i64 key)
  have hO3 := (hO1.set_ (p := ⟨E, place * 2, none⟩) (.inl rfl) (.int .i64 (item : Nat))).set_ (p := ⟨E, place * 2 + 1, none⟩) (.inl rfl) (.int .i64 key)
  have y0 : ((w1.setCell ⟨E, place * 2, none⟩ (.int .i64 (item : Nat))).setCell ⟨E, place * 2 + 1, none⟩ (.int .i64 key)).cell? ⟨w.heap.size, 0, none⟩ = some (.int .i64 (item : Nat)) := by rw [cell_of_row _ _ 0 _ _ (0, 0) hb3]; rfl
  have y1 : ((w1.setCell ⟨E, place * 2, none⟩ (.int .i64 (item : Nat))).setCell ⟨E, place * 2 + 1, none⟩ (.int .i64 key)).cell? ⟨w.heap.size, 1, none⟩ = some (.int .i64 key) := by rw [cell_of_row _ _ 1 _ _ (0, 0) hb3]; rfl
  have d0 := hB3.cell0
  have d1 := hB3.cell1
  have p0 := hP3.cell item hi
  have p1 := hP3.frozen item
  rw [hw1]
  clear hw1
  have hp0 : (0 : Int) ≤ (place : Int) := by omega
  have hp1 : (place : Int) < (L : Int) := by omega
  go_region_held3 (fun W' => W'.cell? ⟨h, 0, none⟩ = some (.slice (some ⟨E, 0, none⟩) L c) ∧ W'.cell? ⟨w.heap.size, 0, none⟩ = some (.int .i64 (item : Nat)) ∧ W'.cell? ⟨w.heap.size, 1, none⟩ = some (.int .i64 key))
    (first | exact ⟨c0, x0, x1⟩ | exact ⟨d0, y0, y1⟩ | go_keep) (fail)
  generalize ((w1.setCell ⟨E, place * 2, none⟩ (.int .i64 (item : Nat))).setCell ⟨E, place * 2 + 1, none⟩ (.int .i64 key)) = w3 at hB3 hE3 hb3 hP3 hO3 y0 y1 d0 d1 p0 p1 ⊢
  clear hB1 hE1 hP1 hb1 x0 x1 c0 c1 e0 f0 e1 f1 hE2 hO1 d0 y1
  have hi0 : (0 : Int) ≤ (item : Int) := by omega
  have hi1 : (item : Int) < (n : Int) := by omega
  have hB4 := hB3.far (p := ⟨P, item, none⟩) (by show h ≠ P; omega) (.int .i64 (place : Nat))
  have hb4 := box_far hb3 (p := ⟨P, item, none⟩) (by show w.heap.size ≠ P; omega) (.int .i64 (place : Nat))
  have z0 : (w3.setCell ⟨P, item, none⟩ (.int .i64 (place : Nat))).cell? ⟨w.heap.size, 0, none⟩ = some (.int .i64 (item : Nat)) := by rw [cell_of_row _ _ 0 _ _ (0, 0) hb4]; rfl
  have z1 := hB4.cell1
  have hE4 := Row.far hE3 (p := ⟨P, item, none⟩) (by show E ≠ P; omega) (.int .i64 (place : Nat))
  have hP4 := hP3.set_ (f' := fun i => if i = item then .int .i64 (place : Nat) else g i) item (.int .i64 (place : Nat)) (fun _ _ => rfl)
  have hO4 := hO3.set_ (p := ⟨P, item, none⟩) (.inr (.inl rfl)) (.int .i64 (place : Nat))
  have HF := Lib.hid (And.intro hB4 (And.intro hE4 (And.intro hP4 hO4)))
  clear hB4 hb4 hE4 hP4 hO4 hB3 hE3 hb3 hP3 hO3
  go_wp2_with fail
  go_region_held3 (fun W' => W'.cell? ⟨h, 1, none⟩ = some (.slice (some ⟨P, 0, none⟩) n n) ∧ W'.cell? ⟨w.heap.size, 0, none⟩ = some (.int .i64 (item : Nat)))
    (first | exact ⟨d1, y0⟩ | exact ⟨z1, z0⟩ | go_keep) (fail)
  go_wp2_with fail
  exact bodyPost_end (results_none rfl _ _ _) rfl ⟨⟨_, rfl⟩, HF.out⟩
end Go.Proofs.Ytijoaiehnemgnaa
