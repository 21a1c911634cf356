/- Plain facts about lists of digits. Words for memory: a slice whose cells read as a function of the index; what keeps them; append of such a slice onto a row of the call's own. -/
import Derived.Test.YtapblmbjbpkieaaDoorProg
import Derived.WalkKit
import Derived.Lib.Hide
import Derived.Handy
import Derived.Maps.AppendAt
import Derived.OwnWalk
import Derived.Laws.OwnMore
import Derived.Laws.AppendOwnNone
import Derived.Deep.Draws
import Derived.Deep.AppendLies
namespace Go.Proofs.YtapblmbjbpkieaaDoor

/-- Without the zeros at the end. -/
def strip (ds : List Nat) : List Nat := (ds.reverse.dropWhile (· == 0)).reverse
theorem strip_nil : strip [] = [] := rfl
theorem strip_zero (ds : List Nat) : strip (ds ++ [0]) = strip ds := by simp [strip]
theorem strip_pos (ds : List Nat) (x : Nat) (h : x ≠ 0) : strip (ds ++ [x]) = ds ++ [x] := by simp [strip, h]
theorem take_snoc (ds : List Nat) (k : Nat) (h : k < ds.length) : ds.take (k + 1) = ds.take k ++ [ds.getD k 0] := by
  rw [List.take_succ_eq_append_getElem h]
  simp [List.getD, h]

/-- The value of digits, the lowest one first. -/
def val (b : Nat) : List Nat → Nat
  | [] => 0
  | d :: ds => d + b * val b ds
theorem val_append (b : Nat) (xs ys : List Nat) : val b (xs ++ ys) = val b xs + b ^ xs.length * val b ys := by
  induction xs with
  | nil => simp [val]
  | cons x xs ih => simp only [List.cons_append, val, ih, List.length_cons, Nat.pow_succ, Nat.mul_add]; rw [Nat.mul_comm (b ^ xs.length) b, Nat.mul_assoc, Nat.add_assoc]
theorem val_snoc (b : Nat) (xs : List Nat) (y : Nat) : val b (xs ++ [y]) = val b xs + b ^ xs.length * y := by rw [val_append]; simp [val]

/-- The digits of a number: fuel first. -/
def digsF (b : Nat) : Nat → Nat → List Nat
  | 0, _ => []
  | f + 1, k => if k = 0 then [] else k % b :: digsF b f (k / b)
def digs (b k : Nat) : List Nat := digsF b k k
theorem digsF_zero (b f : Nat) : digsF b f 0 = [] := by cases f <;> simp [digsF]
theorem digsF_eq (b : Nat) (hb : 2 ≤ b) : ∀ (f g k : Nat), k ≤ f → k ≤ g → digsF b f k = digsF b g k
  | 0, g, k, hf, _ => by obtain rfl : k = 0 := by omega
                         rw [digsF_zero, digsF_zero]
  | f + 1, 0, k, _, hg => by obtain rfl : k = 0 := by omega
                             rw [digsF_zero, digsF_zero]
  | f + 1, g + 1, k, hf, hg => by
    unfold digsF
    by_cases hk : k = 0
    · rw [if_pos hk, if_pos hk]
    · rw [if_neg hk, if_neg hk]
      have : k / b < k := Nat.div_lt_self (by omega) (by omega)
      rw [digsF_eq b hb f g (k / b) (by omega) (by omega)]
theorem digs_zero (b : Nat) : digs b 0 = [] := rfl
theorem digs_pos (b k : Nat) (hb : 2 ≤ b) (hk : 0 < k) : digs b k = k % b :: digs b (k / b) := by
  obtain ⟨f, rfl⟩ : ∃ f, k = f + 1 := ⟨k - 1, by omega⟩
  have : (f + 1) / b < f + 1 := Nat.div_lt_self (by omega) (by omega)
  show digsF b (f + 1) (f + 1) = _
  rw [digsF, if_neg (by omega), digsF_eq b hb f ((f + 1) / b) _ (by omega) (Nat.le_refl _)]
  rfl

/-- Canonical digits: each less than the base, the last one not 0. -/
def Canon (b : Nat) (ds : List Nat) : Prop := (∀ d ∈ ds, d < b) ∧ (∀ h : ds ≠ [], ds.getLast h ≠ 0)
theorem canon_nil (b : Nat) : Canon b [] := ⟨by simp, by simp⟩
theorem canon_tail {b d : Nat} {ds : List Nat} (h : Canon b (d :: ds)) : Canon b ds :=
  ⟨fun x hx => h.1 x (by simp [hx]), fun hne => by have := h.2 (by simp); rwa [List.getLast_cons hne] at this⟩
theorem val_pos {b : Nat} (hb : 2 ≤ b) : ∀ {ds : List Nat}, Canon b ds → ds ≠ [] → 0 < val b ds
  | [], _, h => absurd rfl h
  | [d], h, _ => by have := h.2 (by simp); simp [val] at *; omega
  | d :: e :: ds, h, _ => by
    have := val_pos hb (canon_tail h) (by simp)
    have : 0 < b * val b (e :: ds) := Nat.mul_pos (by omega) this
    simp only [val] at *
    omega
theorem digs_val {b : Nat} (hb : 2 ≤ b) : ∀ {ds : List Nat}, Canon b ds → digs b (val b ds) = ds
  | [], _ => rfl
  | d :: ds, h => by
    have hp := val_pos hb h (by simp)
    have hd : d < b := h.1 d (by simp)
    rw [digs_pos b _ hb hp]
    simp only [val]
    rw [Nat.add_mul_mod_self_left, Nat.mod_eq_of_lt hd, Nat.add_mul_div_left _ _ (by omega), Nat.div_eq_of_lt hd, Nat.zero_add, digs_val hb (canon_tail h)]
theorem digs_canon {b : Nat} (hb : 2 ≤ b) (k : Nat) : Canon b (digs b k) ∧ val b (digs b k) = k := by
  induction k using Nat.strongRecOn with
  | ind k ih =>
    by_cases hk : k = 0
    · subst hk; exact ⟨canon_nil b, rfl⟩
    · have hlt : k / b < k := Nat.div_lt_self (by omega) (by omega)
      obtain ⟨h1, h2⟩ := ih (k / b) hlt
      rw [digs_pos b k hb (by omega)]
      refine ⟨⟨fun d hd => ?_, fun hne => ?_⟩, ?_⟩
      · rcases List.mem_cons.1 hd with rfl | hd
        · exact Nat.mod_lt _ (by omega)
        · exact h1.1 d hd
      · by_cases he : digs b (k / b) = []
        · have h0 : k / b = 0 := by rw [← h2, he]; rfl
          simp only [he, List.getLast_singleton]
          have := Nat.div_add_mod k b
          rw [h0] at this
          simp at this
          omega
        · rw [List.getLast_cons he]; exact h1.2 he
      · simp only [val, h2]; exact Nat.mod_add_div k b
theorem strip_canon {b : Nat} (ds : List Nat) (h : ∀ d ∈ ds, d < b) : Canon b (strip ds) ∧ val b (strip ds) = val b ds := by
  induction hn : ds.length generalizing ds with
  | zero => obtain rfl := List.eq_nil_of_length_eq_zero hn; exact ⟨canon_nil b, rfl⟩
  | succ n ih =>
    obtain ⟨xs, x, rfl⟩ : ∃ xs x, ds = xs ++ [x] := ⟨ds.dropLast, ds.getLast (by intro e; simp [e] at hn), (List.dropLast_concat_getLast _).symm⟩
    by_cases hx : x = 0
    · subst hx
      rw [strip_zero, val_snoc]
      simp only [Nat.mul_zero, Nat.add_zero]
      exact ih xs (fun d hd => h d (by simp [hd])) (by simpa using hn)
    · rw [strip_pos xs x hx]
      exact ⟨⟨h, fun _ => by simpa using hx⟩, rfl⟩
/-- What is left without zeros at the end are the digits of the value. -/
theorem strip_digs {b : Nat} (hb : 2 ≤ b) (ds : List Nat) (h : ∀ d ∈ ds, d < b) : strip ds = digs b (val b ds) := by
  have := strip_canon ds h
  rw [← this.2, digs_val hb this.1]
theorem digs_lt {b : Nat} (hb : 2 ≤ b) (k : Nat) : ∀ d ∈ digs b k, d < b := (digs_canon hb k).1.1
theorem val_digs {b : Nat} (hb : 2 ≤ b) (k : Nat) : val b (digs b k) = k := (digs_canon hb k).2
theorem val_lt {b : Nat} (ds : List Nat) (h : ∀ d ∈ ds, d < b) : val b ds < b ^ ds.length := by
  induction ds with
  | nil => simp [val]
  | cons d ds ih =>
    have h1 := ih fun x hx => h x (by simp [hx])
    have h2 : d < b := h d (by simp)
    simp only [val, List.length_cons, Nat.pow_succ]
    have : b * (val b ds + 1) ≤ b * b ^ ds.length := Nat.mul_le_mul_left b h1
    rw [Nat.mul_comm b (b ^ ds.length)] at this
    rw [Nat.mul_add] at this
    omega
theorem val_ge {b : Nat} (hb : 2 ≤ b) : ∀ {ds : List Nat}, Canon b ds → ds ≠ [] → b ^ (ds.length - 1) ≤ val b ds
  | [], _, h => absurd rfl h
  | [d], h, _ => by have := h.2 (by simp); simp [val] at *; omega
  | d :: e :: ds, h, _ => by
    have ih := val_ge hb (canon_tail h) (by simp)
    simp only [List.length_cons, Nat.add_sub_cancel, val] at *
    have h2 := Nat.mul_le_mul_left b ih
    rw [Nat.pow_succ, Nat.mul_comm]
    omega
/-- How many digits a number below a power has. -/
theorem digs_len {b : Nat} (hb : 2 ≤ b) {k n : Nat} (h : k < b ^ n) : (digs b k).length ≤ n := by
  obtain ⟨h1, h2⟩ := digs_canon hb k
  by_cases he : digs b k = []
  · simp [he]
  · have := val_ge hb h1 he
    rw [h2] at this
    have hlt : b ^ ((digs b k).length - 1) < b ^ n := Nat.lt_of_le_of_lt this h
    have := (Nat.pow_lt_pow_iff_right (by omega : 1 < b)).1 hlt
    omega
end Go.Proofs.YtapblmbjbpkieaaDoor

namespace Go.Proofs.YtapblmbjbpkieaaDoor
open Go.RowKit

theorem add_block (a : Addr) (n : Nat) : (a.add n).block = a.block := by unfold Addr.add; split <;> rfl

/-- The first n cells behind address A, all below block B, read as f says. -/
def Cells (w : World) (B : Nat) (A : Option Addr) (n : Nat) (f : Nat → Value) : Prop := ∀ i, i < n → ∃ a, A = some a ∧ a.block < B ∧ w.cell? (a.add i) = some (f i)

section
variable {w w' : World} {B B' n : Nat} {A : Option Addr} {f g : Nat → Value}
theorem Cells.keep (h : Cells w B A n f) (hk : ∀ p : Addr, p.block < B → w'.cell? p = w.cell? p) : Cells w' B A n f := fun i hi => by
  obtain ⟨a, e, hb, hc⟩ := h i hi
  exact ⟨a, e, hb, (hk _ (by rw [add_block]; exact hb)).trans hc⟩
theorem Cells.below (h : Cells w B A n f) (hb : Below B w w') : Cells w' B A n f := h.keep fun _ hp => hb.cell hp
theorem Cells.more (h : Cells w B A n f) (hB : B ≤ B') : Cells w B' A n f := fun i hi => by
  obtain ⟨a, e, hb, hc⟩ := h i hi
  exact ⟨a, e, by omega, hc⟩
theorem Cells.step (h : Cells w B A n f) (hb : Below B w w') (hB : B ≤ B') : Cells w' B' A n f := (h.below hb).more hB
theorem Cells.less {m : Nat} (h : Cells w B A n f) (hm : m ≤ n) : Cells w B A m f := fun i hi => h i (by omega)
theorem Cells.same (h : Cells w B A n f) (hf : ∀ i, i < n → f i = g i) : Cells w B A n g := fun i hi => by rw [← hf i hi]; exact h i hi
theorem Cells.zero : Cells w B A 0 f := fun _ hi => by omega
theorem Cells.of_own {base : Nat} {e : TypeId} {c : Nat} {xs : List Value} (h : w.ownsRow base e 1 (.slice A n c) n xs) (hf : ∀ i, i < n → xs[i]? = some (f i)) : Cells w w.heap.size A n f := by
  intro i hi
  obtain ⟨g, cap, hv, _, hlt⟩ := h.form (by omega)
  have hA : A = some ⟨g, 0, none⟩ := by injection hv
  subst hA
  exact ⟨_, rfl, hlt, h.cells (g := g) rfl i _ (hf i hi)⟩
end

/-- Block g is a row of elements of type e. -/
def IsRow (w : World) (e : TypeId) (g : Nat) : Prop := ∃ cur fr, w.heap[g]? = some (.cells cur e fr)
theorem row_at (g i : Nat) : (Addr.add ⟨g, 0, none⟩ i : Addr) = ⟨g, i, none⟩ := by
  unfold Addr.add
  split
  · rename_i h0; subst h0; rfl
  · simp
/-- A slice's address: nil, or the head of a row. -/
def Head (A : Option Addr) : Prop := A = none ∨ ∃ g, A = some ⟨g, 0, none⟩
/-- The first n cells behind address A, the head of a row of type e, read as f says. -/
def CellsT (w : World) (e : TypeId) (A : Option Addr) (n : Nat) (f : Nat → Value) : Prop := Head A ∧ ∀ i, i < n → ∃ g, A = some ⟨g, 0, none⟩ ∧ IsRow w e g ∧ w.cell? ⟨g, i, none⟩ = some (f i)
section
variable {w w' : World} {e : TypeId} {n : Nat} {A : Option Addr} {f g : Nat → Value}
theorem IsRow.lt {b : Nat} (h : IsRow w e b) : b < w.heap.size := by
  obtain ⟨cur, fr, h⟩ := h
  rcases Nat.lt_or_ge b w.heap.size with hlt | hge
  · exact hlt
  · rw [Array.getElem?_eq_none hge] at h; cases h
theorem IsRow.step {b : Nat} (h : IsRow w e b) (hb : Below w.heap.size w w') : IsRow w' e b := by
  have hl := h.lt
  obtain ⟨cur, fr, h⟩ := h
  exact ⟨cur, fr, (hb.block b hl).trans h⟩
theorem IsRow.set_ {b : Nat} (h : IsRow w e b) (p : Addr) (u : Value) : IsRow (w.setCell p u) e b := by
  obtain ⟨cur, fr, h⟩ := h
  by_cases hb : b = p.block
  · subst hb
    unfold IsRow
    simp [World.setCell, Array.getElem?_modify, h]
  · exact ⟨cur, fr, (Below.heap_setCell w p u b hb).trans h⟩
theorem CellsT.cells (h : CellsT w e A n f) : Cells w w.heap.size A n f := fun i hi => by
  obtain ⟨g, h1, h2, h3⟩ := h.2 i hi
  exact ⟨_, h1, h2.lt, by rw [row_at]; exact h3⟩
theorem CellsT.step (h : CellsT w e A n f) (hb : Below w.heap.size w w') : CellsT w' e A n f := ⟨h.1, fun i hi => by
  obtain ⟨g, h1, h2, h3⟩ := h.2 i hi
  exact ⟨g, h1, h2.step hb, (hb.cell (p := ⟨g, i, none⟩) h2.lt).trans h3⟩⟩
theorem CellsT.less {m : Nat} (h : CellsT w e A n f) (hm : m ≤ n) : CellsT w e A m f := ⟨h.1, fun i hi => h.2 i (by omega)⟩
theorem CellsT.same (h : CellsT w e A n f) (hf : ∀ i, i < n → f i = g i) : CellsT w e A n g := ⟨h.1, fun i hi => by rw [← hf i hi]; exact h.2 i hi⟩
/-- A store into a block of another type. -/
theorem CellsT.far (h : CellsT w e A n f) {p : Addr} {e' : TypeId} (hp : IsRow w e' p.block) (hne : e ≠ e') (u : Value) : CellsT (w.setCell p u) e A n f := ⟨h.1, fun i hi => by
  obtain ⟨g, h1, h2, h3⟩ := h.2 i hi
  have hd : g ≠ p.block := by
    intro heq
    obtain ⟨c1, f1, g1⟩ := h2
    obtain ⟨c2, f2, g2⟩ := hp
    rw [heq, g2] at g1
    injection g1 with g1
    injection g1 with _ g3 _
    exact hne g3.symm
  exact ⟨g, h1, h2.set_ p u, (World.cell?_setCell_other w p ⟨g, i, none⟩ u (fun e => hd (by rw [e]))).trans h3⟩⟩
theorem CellsT.of_own {base : Nat} {c : Nat} {xs : List Value} (h : w.ownsRow base e 1 (.slice A n c) n xs) (hf : ∀ i, i < n → xs[i]? = some (f i)) : CellsT w e A n f := by
  rcases h.2 with ⟨h0, h1⟩ | ⟨g, cap, cur, h0, _, hh, _⟩
  · injection h0 with h0
    subst h0
    exact ⟨.inl rfl, fun i hi => by omega⟩
  · have hA : A = some ⟨g, 0, none⟩ := by injection h0
    subst hA
    refine ⟨.inr ⟨g, rfl⟩, fun i hi => ⟨g, rfl, ⟨cur, _, hh⟩, ?_⟩⟩
    have := h.cells (g := g) rfl i _ (hf i hi)
    rw [row_at] at this
    exact this
end

/-- The list of values of a function below n. -/
def vals (f : Nat → Value) (n : Nat) : List Value := (List.range n).map f
theorem vals_len (f : Nat → Value) (n : Nat) : (vals f n).length = n := by simp [vals]
theorem vals_get (f : Nat → Value) (n i : Nat) (h : i < n) : (vals f n)[i]? = some (f i) := by simp [vals, h]
theorem vals_inv (f : Nat → Value) (n i : Nat) (u : Value) (h : (vals f n)[i]? = some u) : i < n ∧ u = f i := by
  simp [vals] at h
  obtain ⟨j, hj, rfl⟩ := h
  obtain ⟨hj1, rfl⟩ := List.getElem?_eq_some_iff.1 hj
  simp at hj1 ⊢
  exact hj1

section
variable {P : Program} (w : World)
theorem append_types (t t' ty e e' : TypeId) (i : TypeInfo) (ht : P.underlying t = some (.slice e)) (ht' : P.underlying t' = some (.slice e')) (hi : P.info? e = some i) (b : Option Addr) (n c : Nat) (x : Value) :
    (Builtin.append_ #[t, t'] ty #[.slice b n c, x]).run P w = (Builtin.append_ #[t, t] ty #[.slice b n c, x]).run P w := by
  simp [Builtin.append_, run_underlying ht, run_underlying ht', sizeOf, typeInfo, hi]

theorem own_slice {w : World} {base e n : Nat} {v : Value} {xs : List Value} (h : w.ownsRow base e 1 v n xs) : ∃ b c, v = .slice b n c := by
  rcases h.2 with ⟨rfl, rfl⟩ | ⟨g, cap, cur, rfl, _⟩
  · exact ⟨_, _, rfl⟩
  · exact ⟨_, _, rfl⟩

theorem run_append_cells (base : Nat) (t t' ty e e' : TypeId) (i : TypeInfo) (z : Value) (bytes : Nat) (ht : P.underlying t = some (.slice e)) (ht' : P.underlying t' = some (.slice e')) (hi : P.info? e = some i) (hz : i.zero = some z)
    (hsize : i.size = 1) (hby : i.bytes = bytes) (hzs : z.cells.size = 1)
    (v : Value) (n : Nat) (xs : List Value) (hown : w.ownsRow base e 1 v n xs)
    (B : Nat) (A : Option Addr) (m c : Nat) (f : Nat → Value) (hr : Cells w B A m f) (h1 : ∀ j, j < m → (f j).oneCell' = true)
    (h63 : n + m ≤ maxLen) (hbytes : (n + m) * bytes ≤ 140737488355328) (hbase : base ≤ w.heap.size) :
    ∃ v' w', (Builtin.append_ #[t, t'] ty #[v, .slice A m c]).run P w = .ok v' w' ∧ w'.ownsRow base e 1 v' (n + m) (xs ++ vals f m) ∧ w.grownBy w' v.ownBlock ∧
      (v'.ownBlock = v.ownBlock ∨ v'.ownBlock = some w.heap.size) := by
  obtain ⟨b0, c0, rfl⟩ := own_slice hown
  rw [append_types w t t' ty e e' i ht ht' hi]
  rcases A with _ | ad
  · have hm : m = 0 := by
      rcases Nat.eq_zero_or_pos m with h0 | h0
      · exact h0
      · obtain ⟨ad, h, _⟩ := hr 0 h0
        cases h
    subst hm
    refine ⟨_, w, ?_, by simpa [vals] using hown, World.grownBy.refl w _, .inl rfl⟩
    rcases hown.2 with ⟨h0, rfl⟩ | ⟨g, cap, cur, h0, _, _, hnc, _⟩ <;> obtain ⟨rfl, _, rfl⟩ := Value.slice.inj h0
    · simp [Builtin.append_, run_underlying ht, sizeOf, typeInfo, hi, Builtin.lenOf, Builtin.firstCells]
    · simp [Builtin.append_, run_underlying ht, sizeOf, typeInfo, hi, Builtin.lenOf, Builtin.firstCells, hnc, storeCells]
  · have hcells : ∀ j u, (vals f m)[j]? = some u → w.cell? (ad.add j) = some u := by
      intro j u hu
      obtain ⟨hj, rfl⟩ := vals_inv f m j u hu
      obtain ⟨a, ha, _, hc⟩ := hr j hj
      injection ha with ha
      subst ha
      exact hc
    have hone : ∀ u ∈ vals f m, u.oneCell' = true := by
      intro u hu
      simp only [vals, List.mem_map, List.mem_range] at hu
      obtain ⟨j, hj, rfl⟩ := hu
      exact h1 j hj
    obtain ⟨v', w', hrun, h2, h3, _, h5⟩ := run_append_own_at (P := P) w base t ty e i z 1 bytes ht hi hz hsize hby hzs (by omega) _ n xs hown ad m c (vals f m) (by simp [vals_len]) hcells hone h63 hbytes hbase
    exact ⟨v', w', hrun, h2, h3, h5⟩

theorem wpList_append_cells {ops : Array Oper} {rest : List Oper} {o : Oper} {a : Act} {Q : Exit → Act → World → Prop} (hgd : o.guard = none) (s x : Operand) (t t' : TypeId)
    (ho : o.op = .call { callee := .builtin .append, args := #[s, x], argTypes := #[t, t'] })
    (base : Nat) (e e' : TypeId) (i : TypeInfo) (z : Value) (bytes : Nat) (ht : P.underlying t = some (.slice e)) (ht' : P.underlying t' = some (.slice e')) (hi : P.info? e = some i) (hz : i.zero = some z)
    (hsize : i.size = 1) (hby : i.bytes = bytes) (hzs : z.cells.size = 1)
    (v : Value) (n : Nat) (xs : List Value) (hs : a.eval s = v) (hown : w.ownsRow base e 1 v n xs)
    (B : Nat) (A : Option Addr) (m c : Nat) (f : Nat → Value) (hx : a.eval x = .slice A m c) (hr : Cells w B A m f) (h1 : ∀ j, j < m → (f j).oneCell' = true)
    (h63 : n + m ≤ maxLen) (hbytes : (n + m) * bytes ≤ 140737488355328) (hbase : base ≤ w.heap.size)
    (h : ∀ v' w', w'.ownsRow base e 1 v' (n + m) (xs ++ vals f m) → w.grownBy w' v.ownBlock → (v'.ownBlock = v.ownBlock ∨ v'.ownBlock = some w.heap.size) → wpList P ops Q rest (a.put o.dst v') w') : wpList P ops Q (o :: rest) a w := by
  refine wpList_plain hgd fun K hK => ?_
  obtain ⟨v', w', hrun, h2, h3, h4⟩ := run_append_cells (P := P) w base t t' o.type e e' i z bytes ht ht' hi hz hsize hby hzs v n xs hown B A m c f hr h1 h63 hbytes hbase
  unfold Oper.wp execOp
  simp only [ho, resolve, invoke, builtin, Sem.run_bind, Sem.run_pure, Result.andThen_ok, List.map_toArray, List.map_cons, List.map_nil, hs, hx, hrun]
  exact hK _ _ (h v' w' h2 h3 h4)
theorem own_empty (e : TypeId) : (w.alloc (.cells #[] e)).ownsRow w.heap.size e 1 (.slice (some ⟨w.heap.size, 0, none⟩) 0 0) 0 [] :=
  ⟨rfl, .inr ⟨_, 0, #[], rfl, Nat.le_refl _, heap_alloc_new w _, Nat.le_refl _, by simp [maxLen], rfl, rfl⟩⟩
end

section
variable {P : Program} {w : World}
/-- append of one cell that 'append(out, x)' has just laid in a block of its own. -/
theorem wpList_append_one {ops : Array Oper} {rest : List Oper} {o : Oper} {a : Act} {Q : Exit → Act → World → Prop} (hgd : o.guard = none) (s x : Operand) (t t' : TypeId)
    (ho : o.op = .call { callee := .builtin .append, args := #[s, x], argTypes := #[t, t'] })
    (base : Nat) (e e' : TypeId) (i : TypeInfo) (z : Value) (bytes : Nat) (ht : P.underlying t = some (.slice e)) (ht' : P.underlying t' = some (.slice e')) (hi : P.info? e = some i) (hz : i.zero = some z)
    (hsize : i.size = 1) (hby : i.bytes = bytes) (hzs : z.cells.size = 1)
    (v : Value) (n : Nat) (xs : List Value) (hs : a.eval s = v) (hown : w.ownsRow base e 1 v n xs)
    (u : Value) (h1 : u.oneCell' = true) (hx : a.eval x = .slice (some ⟨w.heap.size, 0, none⟩) 1 1)
    (h63 : n + 1 ≤ maxLen) (hbytes : (n + 1) * bytes ≤ 140737488355328) (w0 : World) (hb : Below base w0 w) (hbase : base ≤ w.heap.size)
    (h : ∀ v' w', Hid (w'.ownsRow base e 1 v' (n + 1) (xs ++ [u])) → Hid (Below base w0 w') → Hid (base ≤ w'.heap.size) → wpList P ops Q rest (a.put o.dst v') w') : wpList P ops Q (o :: rest) a (w.alloc (.cells #[u] e)) := by
  have hc : Cells (w.alloc (.cells #[u] e)) (w.heap.size + 1) (some ⟨w.heap.size, 0, none⟩) 1 (fun _ => u) := by
    intro j hj
    obtain rfl : j = 0 := by omega
    refine ⟨_, rfl, Nat.lt_succ_self _, ?_⟩
    rw [show (Addr.add ⟨w.heap.size, 0, none⟩ 0 : Addr) = ⟨w.heap.size, 0, none⟩ from rfl, World.cell?_alloc_at _ _ _ _ rfl]
    rfl
  refine wpList_append_cells (w.alloc (.cells #[u] e)) hgd s x t t' ho base e e' i z bytes ht ht' hi hz hsize hby hzs v n xs hs (hown.alloc _) (w.heap.size + 1) _ 1 1 (fun _ => u) hx hc (fun _ _ => h1) h63 hbytes (by simp; omega) ?_
  intro v' w' h2 h3 h4
  refine h v' w' h2 ((hb.alloc hbase _).grown h3 (by simp; omega) ?_) (Nat.le_trans (by simp; omega) h3.size)
  intro k hk
  exact (hown.lt k hk).1
end

theorem infoInt : (Tryd.prog.info? 3).map (fun i => (i.zero, i.size, i.bytes)) = some (some (.int .i64 0), 1, 8) := by kernel_rfl
theorem infoU32 : (Tryd.prog.info? 71).map (fun i => (i.zero, i.size, i.bytes)) = some (some (.int .u32 0), 1, 4) := by kernel_rfl

def i64f (ds : List Nat) (i : Nat) : Value := .int .i64 (ds.getD i 0 : Nat)
def u32f (ds : List Nat) (i : Nat) : Value := .int .u32 (ds.getD i 0 : Nat)
/-- A slice value that reads as a list of ints. -/
def LI (w : World) (v : Value) (ds : List Nat) : Prop := ∃ A c, v = .slice A ds.length c ∧ ds.length ≤ c ∧ Cells w w.heap.size A ds.length (i64f ds)
def LU (w : World) (v : Value) (ds : List Nat) : Prop := ∃ A c, v = .slice A ds.length c ∧ ds.length ≤ c ∧ CellsT w 71 A ds.length (u32f ds)
theorem LI.below {w w' : World} {v : Value} {ds : List Nat} (h : LI w v ds) (hb : Below w.heap.size w w') : LI w' v ds := by
  obtain ⟨A, c, h1, h2, h3⟩ := h
  exact ⟨A, c, h1, h2, h3.step hb hb.size⟩
theorem LU.below {w w' : World} {v : Value} {ds : List Nat} (h : LU w v ds) (hb : Below w.heap.size w w') : LU w' v ds := by
  obtain ⟨A, c, h1, h2, h3⟩ := h
  exact ⟨A, c, h1, h2, h3.step hb⟩
theorem LU.far {w : World} {v : Value} {ds : List Nat} (h : LU w v ds) {p : Addr} {e' : TypeId} (hp : IsRow w e' p.block) (hne : 71 ≠ e') (u : Value) : LU (w.setCell p u) v ds := by
  obtain ⟨A, c, h1, h2, h3⟩ := h
  exact ⟨A, c, h1, h2, h3.far hp hne u⟩
theorem own_vals_I {w : World} {base e n : Nat} {v : Value} {ds : List Nat} (hn : n = ds.length) (h : w.ownsRow base e 1 v n (vals (i64f ds) n)) : LI w v ds := by
  subst hn
  obtain ⟨b, c, rfl⟩ := own_slice h
  have hc : ds.length ≤ c := by
    rcases h.2 with ⟨h0, h1⟩ | ⟨g, cap, cur, h0, _, _, h1, _⟩ <;> obtain ⟨_, _, rfl⟩ := Value.slice.inj h0 <;> omega
  exact ⟨b, c, rfl, hc, Cells.of_own h fun i hi => vals_get _ _ i hi⟩
theorem own_vals_U {w : World} {base n : Nat} {v : Value} {ds : List Nat} (hn : n = ds.length) (h : w.ownsRow base 71 1 v n (vals (u32f ds) n)) : LU w v ds := by
  subst hn
  obtain ⟨b, c, rfl⟩ := own_slice h
  have hc : ds.length ≤ c := by
    rcases h.2 with ⟨h0, h1⟩ | ⟨g, cap, cur, h0, _, _, h1, _⟩ <;> obtain ⟨_, _, rfl⟩ := Value.slice.inj h0 <;> omega
  exact ⟨b, c, rfl, hc, CellsT.of_own h fun i hi => vals_get _ _ i hi⟩
theorem i64f_take (ds : List Nat) (k i : Nat) (h : i < k) : i64f (ds.take k) i = i64f ds i := by simp [i64f, List.getD, h]
theorem u32f_take (ds : List Nat) (k i : Nat) (h : i < k) : u32f (ds.take k) i = u32f ds i := by simp [u32f, List.getD, h]
theorem vals_same {f g : Nat → Value} {n : Nat} (h : ∀ i, i < n → f i = g i) : vals f n = vals g n := List.map_congr_left fun i hi => h i (List.mem_range.1 hi)
def encI (d : Nat) : Value := .int .i64 d
def encU (d : Nat) : Value := .int .u32 d
def OwnI (base : Nat) (w : World) (v : Value) (os : List Nat) : Prop := w.ownsRow base 3 1 v os.length (os.map encI)
def OwnU (base : Nat) (w : World) (v : Value) (os : List Nat) : Prop := w.ownsRow base 71 1 v os.length (os.map encU)
theorem map_vals_I (os : List Nat) : os.map encI = vals (i64f os) os.length := by
  apply List.ext_getElem?
  intro i
  by_cases h : i < os.length
  · rw [vals_get _ _ i h]; simp [h, encI, i64f]
  · rw [List.getElem?_eq_none (by simp; omega), List.getElem?_eq_none (by simp [vals_len]; omega)]
theorem map_vals_U (os : List Nat) : os.map encU = vals (u32f os) os.length := by
  apply List.ext_getElem?
  intro i
  by_cases h : i < os.length
  · rw [vals_get _ _ i h]; simp [h, encU, u32f]
  · rw [List.getElem?_eq_none (by simp; omega), List.getElem?_eq_none (by simp [vals_len]; omega)]
theorem OwnI.reads {base : Nat} {w : World} {v : Value} {os : List Nat} (h : OwnI base w v os) : LI w v os := by
  unfold OwnI at h
  rw [map_vals_I] at h
  exact own_vals_I rfl h
theorem OwnU.reads {base : Nat} {w : World} {v : Value} {os : List Nat} (h : OwnU base w v os) : LU w v os := by
  unfold OwnU at h
  rw [map_vals_U] at h
  exact own_vals_U rfl h
theorem OwnI.nil (base : Nat) (w : World) : OwnI base w (.slice none 0 0) [] := World.ownsRow_nil w base _ 1
theorem OwnU.nil (base : Nat) (w : World) : OwnU base w (.slice none 0 0) [] := World.ownsRow_nil w base _ 1
section
variable {w : World} {ops : Array Oper} {rest : List Oper} {o : Oper} {a : Act} {Q : Exit → Act → World → Prop}
theorem wpList_append_I (hgd : o.guard = none) (s x : Operand) (t t' : TypeId)
    (ho : o.op = .call { callee := .builtin .append, args := #[s, x], argTypes := #[t, t'] })
    (ht : Tryd.prog.underlying t = some (.slice 3)) (ht' : Tryd.prog.underlying t' = some (.slice 3))
    (base : Nat) (v : Value) (os : List Nat) (hs : a.eval s = v) (hown : OwnI base w v os)
    (d : Nat) (u : Value) (hu : u = encI d) (hx : a.eval x = .slice (some ⟨w.heap.size, 0, none⟩) 1 1)
    (hlen : os.length ≤ 10000000000000) (w0 : World) (hb : Below base w0 w) (hbase : base ≤ w.heap.size)
    (h : ∀ v' w', Hid (OwnI base w' v' (os ++ [d])) → Hid (Below base w0 w') → Hid (base ≤ w'.heap.size) → wpList Tryd.prog ops Q rest (a.put o.dst v') w') : wpList Tryd.prog ops Q (o :: rest) a (w.alloc (.cells #[u] 3)) := by
  obtain ⟨i0, hi, hz0, hz1, hz2⟩ := info_parts infoInt
  subst hu
  refine wpList_append_one hgd s x t t' ho base 3 3 i0 _ 8 ht ht' hi hz0 hz1 hz2 rfl v os.length (os.map encI) hs hown _ rfl hx (by simp [maxLen]; omega) (by omega) w0 hb hbase ?_
  intro v' w' h1 h2 h3
  refine h v' w' ?_ h2 h3
  have := h1.out
  unfold Hid OwnI
  simpa using this
theorem wpList_append_U (hgd : o.guard = none) (s x : Operand) (t t' : TypeId)
    (ho : o.op = .call { callee := .builtin .append, args := #[s, x], argTypes := #[t, t'] })
    (ht : Tryd.prog.underlying t = some (.slice 71)) (ht' : Tryd.prog.underlying t' = some (.slice 71))
    (base : Nat) (v : Value) (os : List Nat) (hs : a.eval s = v) (hown : OwnU base w v os)
    (d : Nat) (u : Value) (hu : u = encU d) (hx : a.eval x = .slice (some ⟨w.heap.size, 0, none⟩) 1 1)
    (hlen : os.length ≤ 10000000000000) (w0 : World) (hb : Below base w0 w) (hbase : base ≤ w.heap.size)
    (h : ∀ v' w', Hid (OwnU base w' v' (os ++ [d])) → Hid (Below base w0 w') → Hid (base ≤ w'.heap.size) → wpList Tryd.prog ops Q rest (a.put o.dst v') w') : wpList Tryd.prog ops Q (o :: rest) a (w.alloc (.cells #[u] 71)) := by
  obtain ⟨i0, hi, hz0, hz1, hz2⟩ := info_parts infoU32
  subst hu
  refine wpList_append_one hgd s x t t' ho base 71 71 i0 _ 4 ht ht' hi hz0 hz1 hz2 rfl v os.length (os.map encU) hs hown _ rfl hx (by simp [maxLen]; omega) (by omega) w0 hb hbase ?_
  intro v' w' h1 h2 h3
  refine h v' w' ?_ h2 h3
  have := h1.out
  unfold Hid OwnU
  simpa using this
end
/-- Some new value of ints, and nothing old has changed. -/
def NewI (w : World) (ds : List Nat) (e : Ending) (w' : World) : Prop := ∃ v, e = .returned v ∧ LI w' v ds ∧ Below w.heap.size w w'
def NewU (w : World) (ds : List Nat) (e : Ending) (w' : World) : Prop := ∃ v, e = .returned v ∧ LU w' v ds ∧ Below w.heap.size w w'
end Go.Proofs.YtapblmbjbpkieaaDoor
