/- Plain facts about lists of digits. Words for memory: a slice whose cells read as a function of the index; what keeps them; append of such a slice onto a row of the call's own. Contracts of the reference's functions on numbers (layer 1): without. Contracts of the reference's functions on numbers (layer 1): times, Of. A block of the call's own, known whole: its n cells read as a function of the index. make, store. Contracts of the reference's functions on numbers (layer 1): Add. Contracts of the reference's functions on numbers (layer 1): Text. Contracts of math/bits Add32, Mul32, Sub32, Div32 as the program uses them. Contracts of package nat: fromDigits, Of, IsZero, isText. Contracts of package nat: isText. Contracts of package nat: appendPart, Parse. Contracts of package nat: Parse. -/
import Derived.Test.YthfjbpbgnoonpaaGreatDoorProg
import Derived.WalkKit
import Derived.Lib.Hide
import Derived.Handy
import Derived.Maps.AppendAt
import Derived.OwnWalk
import Derived.Laws.OwnMore
import Derived.Laws.AppendOwnNone
import Derived.Deep.Draws
import Derived.Deep.AppendLies
import Derived.Outline
import Derived.Laws.Rows
import Derived.Laws.IdiomStrings
import Derived.RegionTactic
import Derived.ChangeAlike
import Derived.WalkSpells
import Derived.WalkLawsBesides
import Derived.BigQuiet
import Derived.Deep.QuietTactic
import Derived.Laws.BitsAllLaws
import Derived.Lib.Strings
namespace Go.Proofs.YthfjbpbgnoonpaaGreatDoor

/-- Without the zeros at the end. -/
def strip (ds : List Nat) : List Nat := (ds.reverse.dropWhile (· == 0)).reverse
theorem strip_nil : strip [] = [] := rfl
theorem strip_zero (ds : List Nat) : strip (ds ++ [0]) = strip ds := by simp [strip]
theorem strip_pos (ds : List Nat) (x : Nat) (h : x ≠ 0) : strip (ds ++ [x]) = ds ++ [x] := by simp [strip, h]
theorem take_snoc (ds : List Nat) (k : Nat) (h : k < ds.length) : ds.take (k + 1) = ds.take k ++ [ds.getD k 0] := by
  rw [List.take_succ_eq_append_getElem h]
  simp [List.getD, h]

/-- The value of digits, the lowest one first. -/
def val (b : Nat) : List Nat → Nat
  | [] => 0
  | d :: ds => d + b * val b ds
theorem val_append (b : Nat) (xs ys : List Nat) : val b (xs ++ ys) = val b xs + b ^ xs.length * val b ys := by
  induction xs with
  | nil => simp [val]
  | cons x xs ih => simp only [List.cons_append, val, ih, List.length_cons, Nat.pow_succ, Nat.mul_add]; rw [Nat.mul_comm (b ^ xs.length) b, Nat.mul_assoc, Nat.add_assoc]
theorem val_snoc (b : Nat) (xs : List Nat) (y : Nat) : val b (xs ++ [y]) = val b xs + b ^ xs.length * y := by rw [val_append]; simp [val]

/-- The digits of a number: fuel first. -/
def digsF (b : Nat) : Nat → Nat → List Nat
  | 0, _ => []
  | f + 1, k => if k = 0 then [] else k % b :: digsF b f (k / b)
def digs (b k : Nat) : List Nat := digsF b k k
theorem digsF_zero (b f : Nat) : digsF b f 0 = [] := by cases f <;> simp [digsF]
theorem digsF_eq (b : Nat) (hb : 2 ≤ b) : ∀ (f g k : Nat), k ≤ f → k ≤ g → digsF b f k = digsF b g k
  | 0, g, k, hf, _ => by obtain rfl : k = 0 := by omega
                         rw [digsF_zero, digsF_zero]
  | f + 1, 0, k, _, hg => by obtain rfl : k = 0 := by omega
                             rw [digsF_zero, digsF_zero]
  | f + 1, g + 1, k, hf, hg => by
    unfold digsF
    by_cases hk : k = 0
    · rw [if_pos hk, if_pos hk]
    · rw [if_neg hk, if_neg hk]
      have : k / b < k := Nat.div_lt_self (by omega) (by omega)
      rw [digsF_eq b hb f g (k / b) (by omega) (by omega)]
theorem digs_zero (b : Nat) : digs b 0 = [] := rfl
theorem digs_pos (b k : Nat) (hb : 2 ≤ b) (hk : 0 < k) : digs b k = k % b :: digs b (k / b) := by
  obtain ⟨f, rfl⟩ : ∃ f, k = f + 1 := ⟨k - 1, by omega⟩
  have : (f + 1) / b < f + 1 := Nat.div_lt_self (by omega) (by omega)
  show digsF b (f + 1) (f + 1) = _
  rw [digsF, if_neg (by omega), digsF_eq b hb f ((f + 1) / b) _ (by omega) (Nat.le_refl _)]
  rfl

/-- Canonical digits: each less than the base, the last one not 0. -/
def Canon (b : Nat) (ds : List Nat) : Prop := (∀ d ∈ ds, d < b) ∧ (∀ h : ds ≠ [], ds.getLast h ≠ 0)
theorem canon_nil (b : Nat) : Canon b [] := ⟨by simp, by simp⟩
theorem canon_tail {b d : Nat} {ds : List Nat} (h : Canon b (d :: ds)) : Canon b ds :=
  ⟨fun x hx => h.1 x (by simp [hx]), fun hne => by have := h.2 (by simp); rwa [List.getLast_cons hne] at this⟩
theorem val_pos {b : Nat} (hb : 2 ≤ b) : ∀ {ds : List Nat}, Canon b ds → ds ≠ [] → 0 < val b ds
  | [], _, h => absurd rfl h
  | [d], h, _ => by have := h.2 (by simp); simp [val] at *; omega
  | d :: e :: ds, h, _ => by
    have := val_pos hb (canon_tail h) (by simp)
    have : 0 < b * val b (e :: ds) := Nat.mul_pos (by omega) this
    simp only [val] at *
    omega
theorem digs_val {b : Nat} (hb : 2 ≤ b) : ∀ {ds : List Nat}, Canon b ds → digs b (val b ds) = ds
  | [], _ => rfl
  | d :: ds, h => by
    have hp := val_pos hb h (by simp)
    have hd : d < b := h.1 d (by simp)
    rw [digs_pos b _ hb hp]
    simp only [val]
    rw [Nat.add_mul_mod_self_left, Nat.mod_eq_of_lt hd, Nat.add_mul_div_left _ _ (by omega), Nat.div_eq_of_lt hd, Nat.zero_add, digs_val hb (canon_tail h)]
theorem digs_canon {b : Nat} (hb : 2 ≤ b) (k : Nat) : Canon b (digs b k) ∧ val b (digs b k) = k := by
  induction k using Nat.strongRecOn with
  | ind k ih =>
    by_cases hk : k = 0
    · subst hk; exact ⟨canon_nil b, rfl⟩
    · have hlt : k / b < k := Nat.div_lt_self (by omega) (by omega)
      obtain ⟨h1, h2⟩ := ih (k / b) hlt
      rw [digs_pos b k hb (by omega)]
      refine ⟨⟨fun d hd => ?_, fun hne => ?_⟩, ?_⟩
      · rcases List.mem_cons.1 hd with rfl | hd
        · exact Nat.mod_lt _ (by omega)
        · exact h1.1 d hd
      · by_cases he : digs b (k / b) = []
        · have h0 : k / b = 0 := by rw [← h2, he]; rfl
          simp only [he, List.getLast_singleton]
          have := Nat.div_add_mod k b
          rw [h0] at this
          simp at this
          omega
        · rw [List.getLast_cons he]; exact h1.2 he
      · simp only [val, h2]; exact Nat.mod_add_div k b
theorem strip_canon {b : Nat} (ds : List Nat) (h : ∀ d ∈ ds, d < b) : Canon b (strip ds) ∧ val b (strip ds) = val b ds := by
  induction hn : ds.length generalizing ds with
  | zero => obtain rfl := List.eq_nil_of_length_eq_zero hn; exact ⟨canon_nil b, rfl⟩
  | succ n ih =>
    obtain ⟨xs, x, rfl⟩ : ∃ xs x, ds = xs ++ [x] := ⟨ds.dropLast, ds.getLast (by intro e; simp [e] at hn), (List.dropLast_concat_getLast _).symm⟩
    by_cases hx : x = 0
    · subst hx
      rw [strip_zero, val_snoc]
      simp only [Nat.mul_zero, Nat.add_zero]
      exact ih xs (fun d hd => h d (by simp [hd])) (by simpa using hn)
    · rw [strip_pos xs x hx]
      exact ⟨⟨h, fun _ => by simpa using hx⟩, rfl⟩
/-- What is left without zeros at the end are the digits of the value. -/
theorem strip_digs {b : Nat} (hb : 2 ≤ b) (ds : List Nat) (h : ∀ d ∈ ds, d < b) : strip ds = digs b (val b ds) := by
  have := strip_canon ds h
  rw [← this.2, digs_val hb this.1]
theorem digs_lt {b : Nat} (hb : 2 ≤ b) (k : Nat) : ∀ d ∈ digs b k, d < b := (digs_canon hb k).1.1
theorem val_digs {b : Nat} (hb : 2 ≤ b) (k : Nat) : val b (digs b k) = k := (digs_canon hb k).2
theorem val_lt {b : Nat} (ds : List Nat) (h : ∀ d ∈ ds, d < b) : val b ds < b ^ ds.length := by
  induction ds with
  | nil => simp [val]
  | cons d ds ih =>
    have h1 := ih fun x hx => h x (by simp [hx])
    have h2 : d < b := h d (by simp)
    simp only [val, List.length_cons, Nat.pow_succ]
    have : b * (val b ds + 1) ≤ b * b ^ ds.length := Nat.mul_le_mul_left b h1
    rw [Nat.mul_comm b (b ^ ds.length)] at this
    rw [Nat.mul_add] at this
    omega
theorem val_ge {b : Nat} (hb : 2 ≤ b) : ∀ {ds : List Nat}, Canon b ds → ds ≠ [] → b ^ (ds.length - 1) ≤ val b ds
  | [], _, h => absurd rfl h
  | [d], h, _ => by have := h.2 (by simp); simp [val] at *; omega
  | d :: e :: ds, h, _ => by
    have ih := val_ge hb (canon_tail h) (by simp)
    simp only [List.length_cons, Nat.add_sub_cancel, val] at *
    have h2 := Nat.mul_le_mul_left b ih
    rw [Nat.pow_succ, Nat.mul_comm]
    omega
/-- How many digits a number below a power has. -/
theorem digs_len {b : Nat} (hb : 2 ≤ b) {k n : Nat} (h : k < b ^ n) : (digs b k).length ≤ n := by
  obtain ⟨h1, h2⟩ := digs_canon hb k
  by_cases he : digs b k = []
  · simp [he]
  · have := val_ge hb h1 he
    rw [h2] at this
    have hlt : b ^ ((digs b k).length - 1) < b ^ n := Nat.lt_of_le_of_lt this h
    have := (Nat.pow_lt_pow_iff_right (by omega : 1 < b)).1 hlt
    omega
end Go.Proofs.YthfjbpbgnoonpaaGreatDoor

namespace Go.Proofs.YthfjbpbgnoonpaaGreatDoor
open Go.RowKit

theorem add_block (a : Addr) (n : Nat) : (a.add n).block = a.block := by unfold Addr.add; split <;> rfl

/-- The first n cells behind address A, all below block B, read as f says. -/
def Cells (w : World) (B : Nat) (A : Option Addr) (n : Nat) (f : Nat → Value) : Prop := ∀ i, i < n → ∃ a, A = some a ∧ a.block < B ∧ w.cell? (a.add i) = some (f i)

section
variable {w w' : World} {B B' n : Nat} {A : Option Addr} {f g : Nat → Value}
theorem Cells.keep (h : Cells w B A n f) (hk : ∀ p : Addr, p.block < B → w'.cell? p = w.cell? p) : Cells w' B A n f := fun i hi => by
  obtain ⟨a, e, hb, hc⟩ := h i hi
  exact ⟨a, e, hb, (hk _ (by rw [add_block]; exact hb)).trans hc⟩
theorem Cells.below (h : Cells w B A n f) (hb : Below B w w') : Cells w' B A n f := h.keep fun _ hp => hb.cell hp
theorem Cells.more (h : Cells w B A n f) (hB : B ≤ B') : Cells w B' A n f := fun i hi => by
  obtain ⟨a, e, hb, hc⟩ := h i hi
  exact ⟨a, e, by omega, hc⟩
theorem Cells.step (h : Cells w B A n f) (hb : Below B w w') (hB : B ≤ B') : Cells w' B' A n f := (h.below hb).more hB
theorem Cells.less {m : Nat} (h : Cells w B A n f) (hm : m ≤ n) : Cells w B A m f := fun i hi => h i (by omega)
theorem Cells.same (h : Cells w B A n f) (hf : ∀ i, i < n → f i = g i) : Cells w B A n g := fun i hi => by rw [← hf i hi]; exact h i hi
theorem Cells.zero : Cells w B A 0 f := fun _ hi => by omega
theorem Cells.of_own {base : Nat} {e : TypeId} {c : Nat} {xs : List Value} (h : w.ownsRow base e 1 (.slice A n c) n xs) (hf : ∀ i, i < n → xs[i]? = some (f i)) : Cells w w.heap.size A n f := by
  intro i hi
  obtain ⟨g, cap, hv, _, hlt⟩ := h.form (by omega)
  have hA : A = some ⟨g, 0, none⟩ := by injection hv
  subst hA
  exact ⟨_, rfl, hlt, h.cells (g := g) rfl i _ (hf i hi)⟩
end

/-- Block g is a row of elements of type e. -/
def IsRow (w : World) (e : TypeId) (g : Nat) : Prop := ∃ cur fr, w.heap[g]? = some (.cells cur e fr)
theorem row_at (g i : Nat) : (Addr.add ⟨g, 0, none⟩ i : Addr) = ⟨g, i, none⟩ := by
  unfold Addr.add
  split
  · rename_i h0; subst h0; rfl
  · simp
/-- A slice's address: nil, or the head of a row. -/
def Head (A : Option Addr) : Prop := A = none ∨ ∃ g, A = some ⟨g, 0, none⟩
/-- The first n cells behind address A, the head of a row of type e, read as f says. -/
def CellsT (w : World) (e : TypeId) (A : Option Addr) (n : Nat) (f : Nat → Value) : Prop := Head A ∧ ∀ i, i < n → ∃ g, A = some ⟨g, 0, none⟩ ∧ IsRow w e g ∧ w.cell? ⟨g, i, none⟩ = some (f i)
section
variable {w w' : World} {e : TypeId} {n : Nat} {A : Option Addr} {f g : Nat → Value}
theorem IsRow.lt {b : Nat} (h : IsRow w e b) : b < w.heap.size := by
  obtain ⟨cur, fr, h⟩ := h
  rcases Nat.lt_or_ge b w.heap.size with hlt | hge
  · exact hlt
  · rw [Array.getElem?_eq_none hge] at h; cases h
theorem IsRow.step {b : Nat} (h : IsRow w e b) (hb : Below w.heap.size w w') : IsRow w' e b := by
  have hl := h.lt
  obtain ⟨cur, fr, h⟩ := h
  exact ⟨cur, fr, (hb.block b hl).trans h⟩
theorem IsRow.set_ {b : Nat} (h : IsRow w e b) (p : Addr) (u : Value) : IsRow (w.setCell p u) e b := by
  obtain ⟨cur, fr, h⟩ := h
  by_cases hb : b = p.block
  · subst hb
    unfold IsRow
    simp [World.setCell, Array.getElem?_modify, h]
  · exact ⟨cur, fr, (Below.heap_setCell w p u b hb).trans h⟩
theorem CellsT.cells (h : CellsT w e A n f) : Cells w w.heap.size A n f := fun i hi => by
  obtain ⟨g, h1, h2, h3⟩ := h.2 i hi
  exact ⟨_, h1, h2.lt, by rw [row_at]; exact h3⟩
theorem CellsT.step (h : CellsT w e A n f) (hb : Below w.heap.size w w') : CellsT w' e A n f := ⟨h.1, fun i hi => by
  obtain ⟨g, h1, h2, h3⟩ := h.2 i hi
  exact ⟨g, h1, h2.step hb, (hb.cell (p := ⟨g, i, none⟩) h2.lt).trans h3⟩⟩
theorem CellsT.less {m : Nat} (h : CellsT w e A n f) (hm : m ≤ n) : CellsT w e A m f := ⟨h.1, fun i hi => h.2 i (by omega)⟩
theorem CellsT.same (h : CellsT w e A n f) (hf : ∀ i, i < n → f i = g i) : CellsT w e A n g := ⟨h.1, fun i hi => by rw [← hf i hi]; exact h.2 i hi⟩
/-- A store into a block of another type. -/
theorem CellsT.far (h : CellsT w e A n f) {p : Addr} {e' : TypeId} (hp : IsRow w e' p.block) (hne : e ≠ e') (u : Value) : CellsT (w.setCell p u) e A n f := ⟨h.1, fun i hi => by
  obtain ⟨g, h1, h2, h3⟩ := h.2 i hi
  have hd : g ≠ p.block := by
    intro heq
    obtain ⟨c1, f1, g1⟩ := h2
    obtain ⟨c2, f2, g2⟩ := hp
    rw [heq, g2] at g1
    injection g1 with g1
    injection g1 with _ g3 _
    exact hne g3.symm
  exact ⟨g, h1, h2.set_ p u, (World.cell?_setCell_other w p ⟨g, i, none⟩ u (fun e => hd (by rw [e]))).trans h3⟩⟩
theorem CellsT.of_own {base : Nat} {c : Nat} {xs : List Value} (h : w.ownsRow base e 1 (.slice A n c) n xs) (hf : ∀ i, i < n → xs[i]? = some (f i)) : CellsT w e A n f := by
  rcases h.2 with ⟨h0, h1⟩ | ⟨g, cap, cur, h0, _, hh, _⟩
  · injection h0 with h0
    subst h0
    exact ⟨.inl rfl, fun i hi => by omega⟩
  · have hA : A = some ⟨g, 0, none⟩ := by injection h0
    subst hA
    refine ⟨.inr ⟨g, rfl⟩, fun i hi => ⟨g, rfl, ⟨cur, _, hh⟩, ?_⟩⟩
    have := h.cells (g := g) rfl i _ (hf i hi)
    rw [row_at] at this
    exact this
end

/-- The list of values of a function below n. -/
def vals (f : Nat → Value) (n : Nat) : List Value := (List.range n).map f
theorem vals_len (f : Nat → Value) (n : Nat) : (vals f n).length = n := by simp [vals]
theorem vals_get (f : Nat → Value) (n i : Nat) (h : i < n) : (vals f n)[i]? = some (f i) := by simp [vals, h]
theorem vals_inv (f : Nat → Value) (n i : Nat) (u : Value) (h : (vals f n)[i]? = some u) : i < n ∧ u = f i := by
  simp [vals] at h
  obtain ⟨j, hj, rfl⟩ := h
  obtain ⟨hj1, rfl⟩ := List.getElem?_eq_some_iff.1 hj
  simp at hj1 ⊢
  exact hj1

section
variable {P : Program} (w : World)
theorem append_types (t t' ty e e' : TypeId) (i : TypeInfo) (ht : P.underlying t = some (.slice e)) (ht' : P.underlying t' = some (.slice e')) (hi : P.info? e = some i) (b : Option Addr) (n c : Nat) (x : Value) :
    (Builtin.append_ #[t, t'] ty #[.slice b n c, x]).run P w = (Builtin.append_ #[t, t] ty #[.slice b n c, x]).run P w := by
  simp [Builtin.append_, run_underlying ht, run_underlying ht', sizeOf, typeInfo, hi]

theorem own_slice {w : World} {base e n : Nat} {v : Value} {xs : List Value} (h : w.ownsRow base e 1 v n xs) : ∃ b c, v = .slice b n c := by
  rcases h.2 with ⟨rfl, rfl⟩ | ⟨g, cap, cur, rfl, _⟩
  · exact ⟨_, _, rfl⟩
  · exact ⟨_, _, rfl⟩

theorem run_append_cells (base : Nat) (t t' ty e e' : TypeId) (i : TypeInfo) (z : Value) (bytes : Nat) (ht : P.underlying t = some (.slice e)) (ht' : P.underlying t' = some (.slice e')) (hi : P.info? e = some i) (hz : i.zero = some z)
    (hsize : i.size = 1) (hby : i.bytes = bytes) (hzs : z.cells.size = 1)
    (v : Value) (n : Nat) (xs : List Value) (hown : w.ownsRow base e 1 v n xs)
    (B : Nat) (A : Option Addr) (m c : Nat) (f : Nat → Value) (hr : Cells w B A m f) (h1 : ∀ j, j < m → (f j).oneCell' = true)
    (h63 : n + m ≤ maxLen) (hbytes : (n + m) * bytes ≤ 140737488355328) (hbase : base ≤ w.heap.size) :
    ∃ v' w', (Builtin.append_ #[t, t'] ty #[v, .slice A m c]).run P w = .ok v' w' ∧ w'.ownsRow base e 1 v' (n + m) (xs ++ vals f m) ∧ w.grownBy w' v.ownBlock ∧
      (v'.ownBlock = v.ownBlock ∨ v'.ownBlock = some w.heap.size) := by
  obtain ⟨b0, c0, rfl⟩ := own_slice hown
  rw [append_types w t t' ty e e' i ht ht' hi]
  rcases A with _ | ad
  · have hm : m = 0 := by
      rcases Nat.eq_zero_or_pos m with h0 | h0
      · exact h0
      · obtain ⟨ad, h, _⟩ := hr 0 h0
        cases h
    subst hm
    refine ⟨_, w, ?_, by simpa [vals] using hown, World.grownBy.refl w _, .inl rfl⟩
    rcases hown.2 with ⟨h0, rfl⟩ | ⟨g, cap, cur, h0, _, _, hnc, _⟩ <;> obtain ⟨rfl, _, rfl⟩ := Value.slice.inj h0
    · simp [Builtin.append_, run_underlying ht, sizeOf, typeInfo, hi, Builtin.lenOf, Builtin.firstCells]
    · simp [Builtin.append_, run_underlying ht, sizeOf, typeInfo, hi, Builtin.lenOf, Builtin.firstCells, hnc, storeCells]
  · have hcells : ∀ j u, (vals f m)[j]? = some u → w.cell? (ad.add j) = some u := by
      intro j u hu
      obtain ⟨hj, rfl⟩ := vals_inv f m j u hu
      obtain ⟨a, ha, _, hc⟩ := hr j hj
      injection ha with ha
      subst ha
      exact hc
    have hone : ∀ u ∈ vals f m, u.oneCell' = true := by
      intro u hu
      simp only [vals, List.mem_map, List.mem_range] at hu
      obtain ⟨j, hj, rfl⟩ := hu
      exact h1 j hj
    obtain ⟨v', w', hrun, h2, h3, _, h5⟩ := run_append_own_at (P := P) w base t ty e i z 1 bytes ht hi hz hsize hby hzs (by omega) _ n xs hown ad m c (vals f m) (by simp [vals_len]) hcells hone h63 hbytes hbase
    exact ⟨v', w', hrun, h2, h3, h5⟩

theorem wpList_append_cells {ops : Array Oper} {rest : List Oper} {o : Oper} {a : Act} {Q : Exit → Act → World → Prop} (hgd : o.guard = none) (s x : Operand) (t t' : TypeId)
    (ho : o.op = .call { callee := .builtin .append, args := #[s, x], argTypes := #[t, t'] })
    (base : Nat) (e e' : TypeId) (i : TypeInfo) (z : Value) (bytes : Nat) (ht : P.underlying t = some (.slice e)) (ht' : P.underlying t' = some (.slice e')) (hi : P.info? e = some i) (hz : i.zero = some z)
    (hsize : i.size = 1) (hby : i.bytes = bytes) (hzs : z.cells.size = 1)
    (v : Value) (n : Nat) (xs : List Value) (hs : a.eval s = v) (hown : w.ownsRow base e 1 v n xs)
    (B : Nat) (A : Option Addr) (m c : Nat) (f : Nat → Value) (hx : a.eval x = .slice A m c) (hr : Cells w B A m f) (h1 : ∀ j, j < m → (f j).oneCell' = true)
    (h63 : n + m ≤ maxLen) (hbytes : (n + m) * bytes ≤ 140737488355328) (hbase : base ≤ w.heap.size)
    (h : ∀ v' w', w'.ownsRow base e 1 v' (n + m) (xs ++ vals f m) → w.grownBy w' v.ownBlock → (v'.ownBlock = v.ownBlock ∨ v'.ownBlock = some w.heap.size) → wpList P ops Q rest (a.put o.dst v') w') : wpList P ops Q (o :: rest) a w := by
  refine wpList_plain hgd fun K hK => ?_
  obtain ⟨v', w', hrun, h2, h3, h4⟩ := run_append_cells (P := P) w base t t' o.type e e' i z bytes ht ht' hi hz hsize hby hzs v n xs hown B A m c f hr h1 h63 hbytes hbase
  unfold Oper.wp execOp
  simp only [ho, resolve, invoke, builtin, Sem.run_bind, Sem.run_pure, Result.andThen_ok, List.map_toArray, List.map_cons, List.map_nil, hs, hx, hrun]
  exact hK _ _ (h v' w' h2 h3 h4)
theorem own_empty (e : TypeId) : (w.alloc (.cells #[] e)).ownsRow w.heap.size e 1 (.slice (some ⟨w.heap.size, 0, none⟩) 0 0) 0 [] :=
  ⟨rfl, .inr ⟨_, 0, #[], rfl, Nat.le_refl _, heap_alloc_new w _, Nat.le_refl _, by simp [maxLen], rfl, rfl⟩⟩
end

section
variable {P : Program} {w : World}
/-- append of one cell that 'append(out, x)' has just laid in a block of its own. -/
theorem wpList_append_one {ops : Array Oper} {rest : List Oper} {o : Oper} {a : Act} {Q : Exit → Act → World → Prop} (hgd : o.guard = none) (s x : Operand) (t t' : TypeId)
    (ho : o.op = .call { callee := .builtin .append, args := #[s, x], argTypes := #[t, t'] })
    (base : Nat) (e e' : TypeId) (i : TypeInfo) (z : Value) (bytes : Nat) (ht : P.underlying t = some (.slice e)) (ht' : P.underlying t' = some (.slice e')) (hi : P.info? e = some i) (hz : i.zero = some z)
    (hsize : i.size = 1) (hby : i.bytes = bytes) (hzs : z.cells.size = 1)
    (v : Value) (n : Nat) (xs : List Value) (hs : a.eval s = v) (hown : w.ownsRow base e 1 v n xs)
    (u : Value) (h1 : u.oneCell' = true) (hx : a.eval x = .slice (some ⟨w.heap.size, 0, none⟩) 1 1)
    (h63 : n + 1 ≤ maxLen) (hbytes : (n + 1) * bytes ≤ 140737488355328) (w0 : World) (hb : Below base w0 w) (hbase : base ≤ w.heap.size)
    (h : ∀ v' w', Hid (w'.ownsRow base e 1 v' (n + 1) (xs ++ [u])) → Hid (Below base w0 w') → Hid (base ≤ w'.heap.size) → wpList P ops Q rest (a.put o.dst v') w') : wpList P ops Q (o :: rest) a (w.alloc (.cells #[u] e)) := by
  have hc : Cells (w.alloc (.cells #[u] e)) (w.heap.size + 1) (some ⟨w.heap.size, 0, none⟩) 1 (fun _ => u) := by
    intro j hj
    obtain rfl : j = 0 := by omega
    refine ⟨_, rfl, Nat.lt_succ_self _, ?_⟩
    rw [show (Addr.add ⟨w.heap.size, 0, none⟩ 0 : Addr) = ⟨w.heap.size, 0, none⟩ from rfl, World.cell?_alloc_at _ _ _ _ rfl]
    rfl
  refine wpList_append_cells (w.alloc (.cells #[u] e)) hgd s x t t' ho base e e' i z bytes ht ht' hi hz hsize hby hzs v n xs hs (hown.alloc _) (w.heap.size + 1) _ 1 1 (fun _ => u) hx hc (fun _ _ => h1) h63 hbytes (by simp; omega) ?_
  intro v' w' h2 h3 h4
  refine h v' w' h2 ((hb.alloc hbase _).grown h3 (by simp; omega) ?_) (Nat.le_trans (by simp; omega) h3.size)
  intro k hk
  exact (hown.lt k hk).1
end

theorem infoInt : (Tryz.prog.info? 3).map (fun i => (i.zero, i.size, i.bytes)) = some (some (.int .i64 0), 1, 8) := by kernel_rfl
theorem infoU32 : (Tryz.prog.info? 90).map (fun i => (i.zero, i.size, i.bytes)) = some (some (.int .u32 0), 1, 4) := by kernel_rfl

def i64f (ds : List Nat) (i : Nat) : Value := .int .i64 (ds.getD i 0 : Nat)
def u32f (ds : List Nat) (i : Nat) : Value := .int .u32 (ds.getD i 0 : Nat)
/-- A slice value that reads as a list of ints. -/
def LI (w : World) (v : Value) (ds : List Nat) : Prop := ∃ A c, v = .slice A ds.length c ∧ ds.length ≤ c ∧ Cells w w.heap.size A ds.length (i64f ds)
def LU (w : World) (v : Value) (ds : List Nat) : Prop := ∃ A c, v = .slice A ds.length c ∧ ds.length ≤ c ∧ CellsT w 90 A ds.length (u32f ds)
theorem LI.below {w w' : World} {v : Value} {ds : List Nat} (h : LI w v ds) (hb : Below w.heap.size w w') : LI w' v ds := by
  obtain ⟨A, c, h1, h2, h3⟩ := h
  exact ⟨A, c, h1, h2, h3.step hb hb.size⟩
theorem LU.below {w w' : World} {v : Value} {ds : List Nat} (h : LU w v ds) (hb : Below w.heap.size w w') : LU w' v ds := by
  obtain ⟨A, c, h1, h2, h3⟩ := h
  exact ⟨A, c, h1, h2, h3.step hb⟩
theorem LU.far {w : World} {v : Value} {ds : List Nat} (h : LU w v ds) {p : Addr} {e' : TypeId} (hp : IsRow w e' p.block) (hne : 90 ≠ e') (u : Value) : LU (w.setCell p u) v ds := by
  obtain ⟨A, c, h1, h2, h3⟩ := h
  exact ⟨A, c, h1, h2, h3.far hp hne u⟩
theorem own_vals_I {w : World} {base e n : Nat} {v : Value} {ds : List Nat} (hn : n = ds.length) (h : w.ownsRow base e 1 v n (vals (i64f ds) n)) : LI w v ds := by
  subst hn
  obtain ⟨b, c, rfl⟩ := own_slice h
  have hc : ds.length ≤ c := by
    rcases h.2 with ⟨h0, h1⟩ | ⟨g, cap, cur, h0, _, _, h1, _⟩ <;> obtain ⟨_, _, rfl⟩ := Value.slice.inj h0 <;> omega
  exact ⟨b, c, rfl, hc, Cells.of_own h fun i hi => vals_get _ _ i hi⟩
theorem own_vals_U {w : World} {base n : Nat} {v : Value} {ds : List Nat} (hn : n = ds.length) (h : w.ownsRow base 90 1 v n (vals (u32f ds) n)) : LU w v ds := by
  subst hn
  obtain ⟨b, c, rfl⟩ := own_slice h
  have hc : ds.length ≤ c := by
    rcases h.2 with ⟨h0, h1⟩ | ⟨g, cap, cur, h0, _, _, h1, _⟩ <;> obtain ⟨_, _, rfl⟩ := Value.slice.inj h0 <;> omega
  exact ⟨b, c, rfl, hc, CellsT.of_own h fun i hi => vals_get _ _ i hi⟩
theorem i64f_take (ds : List Nat) (k i : Nat) (h : i < k) : i64f (ds.take k) i = i64f ds i := by simp [i64f, List.getD, h]
theorem u32f_take (ds : List Nat) (k i : Nat) (h : i < k) : u32f (ds.take k) i = u32f ds i := by simp [u32f, List.getD, h]
theorem vals_same {f g : Nat → Value} {n : Nat} (h : ∀ i, i < n → f i = g i) : vals f n = vals g n := List.map_congr_left fun i hi => h i (List.mem_range.1 hi)
def encI (d : Nat) : Value := .int .i64 d
def encU (d : Nat) : Value := .int .u32 d
def OwnI (base : Nat) (w : World) (v : Value) (os : List Nat) : Prop := w.ownsRow base 3 1 v os.length (os.map encI)
def OwnU (base : Nat) (w : World) (v : Value) (os : List Nat) : Prop := w.ownsRow base 90 1 v os.length (os.map encU)
theorem map_vals_I (os : List Nat) : os.map encI = vals (i64f os) os.length := by
  apply List.ext_getElem?
  intro i
  by_cases h : i < os.length
  · rw [vals_get _ _ i h]; simp [h, encI, i64f]
  · rw [List.getElem?_eq_none (by simp; omega), List.getElem?_eq_none (by simp [vals_len]; omega)]
theorem map_vals_U (os : List Nat) : os.map encU = vals (u32f os) os.length := by
  apply List.ext_getElem?
  intro i
  by_cases h : i < os.length
  · rw [vals_get _ _ i h]; simp [h, encU, u32f]
  · rw [List.getElem?_eq_none (by simp; omega), List.getElem?_eq_none (by simp [vals_len]; omega)]
theorem OwnI.reads {base : Nat} {w : World} {v : Value} {os : List Nat} (h : OwnI base w v os) : LI w v os := by
  unfold OwnI at h
  rw [map_vals_I] at h
  exact own_vals_I rfl h
theorem OwnU.reads {base : Nat} {w : World} {v : Value} {os : List Nat} (h : OwnU base w v os) : LU w v os := by
  unfold OwnU at h
  rw [map_vals_U] at h
  exact own_vals_U rfl h
theorem OwnI.nil (base : Nat) (w : World) : OwnI base w (.slice none 0 0) [] := World.ownsRow_nil w base _ 1
theorem OwnU.nil (base : Nat) (w : World) : OwnU base w (.slice none 0 0) [] := World.ownsRow_nil w base _ 1
section
variable {w : World} {ops : Array Oper} {rest : List Oper} {o : Oper} {a : Act} {Q : Exit → Act → World → Prop}
theorem wpList_append_I (hgd : o.guard = none) (s x : Operand) (t t' : TypeId)
    (ho : o.op = .call { callee := .builtin .append, args := #[s, x], argTypes := #[t, t'] })
    (ht : Tryz.prog.underlying t = some (.slice 3)) (ht' : Tryz.prog.underlying t' = some (.slice 3))
    (base : Nat) (v : Value) (os : List Nat) (hs : a.eval s = v) (hown : OwnI base w v os)
    (d : Nat) (u : Value) (hu : u = encI d) (hx : a.eval x = .slice (some ⟨w.heap.size, 0, none⟩) 1 1)
    (hlen : os.length ≤ 10000000000000) (w0 : World) (hb : Below base w0 w) (hbase : base ≤ w.heap.size)
    (h : ∀ v' w', Hid (OwnI base w' v' (os ++ [d])) → Hid (Below base w0 w') → Hid (base ≤ w'.heap.size) → wpList Tryz.prog ops Q rest (a.put o.dst v') w') : wpList Tryz.prog ops Q (o :: rest) a (w.alloc (.cells #[u] 3)) := by
  obtain ⟨i0, hi, hz0, hz1, hz2⟩ := info_parts infoInt
  subst hu
  refine wpList_append_one hgd s x t t' ho base 3 3 i0 _ 8 ht ht' hi hz0 hz1 hz2 rfl v os.length (os.map encI) hs hown _ rfl hx (by simp [maxLen]; omega) (by omega) w0 hb hbase ?_
  intro v' w' h1 h2 h3
  refine h v' w' ?_ h2 h3
  have := h1.out
  unfold Hid OwnI
  simpa using this
theorem wpList_append_U (hgd : o.guard = none) (s x : Operand) (t t' : TypeId)
    (ho : o.op = .call { callee := .builtin .append, args := #[s, x], argTypes := #[t, t'] })
    (ht : Tryz.prog.underlying t = some (.slice 90)) (ht' : Tryz.prog.underlying t' = some (.slice 90))
    (base : Nat) (v : Value) (os : List Nat) (hs : a.eval s = v) (hown : OwnU base w v os)
    (d : Nat) (u : Value) (hu : u = encU d) (hx : a.eval x = .slice (some ⟨w.heap.size, 0, none⟩) 1 1)
    (hlen : os.length ≤ 10000000000000) (w0 : World) (hb : Below base w0 w) (hbase : base ≤ w.heap.size)
    (h : ∀ v' w', Hid (OwnU base w' v' (os ++ [d])) → Hid (Below base w0 w') → Hid (base ≤ w'.heap.size) → wpList Tryz.prog ops Q rest (a.put o.dst v') w') : wpList Tryz.prog ops Q (o :: rest) a (w.alloc (.cells #[u] 90)) := by
  obtain ⟨i0, hi, hz0, hz1, hz2⟩ := info_parts infoU32
  subst hu
  refine wpList_append_one hgd s x t t' ho base 90 90 i0 _ 4 ht ht' hi hz0 hz1 hz2 rfl v os.length (os.map encU) hs hown _ rfl hx (by simp [maxLen]; omega) (by omega) w0 hb hbase ?_
  intro v' w' h1 h2 h3
  refine h v' w' ?_ h2 h3
  have := h1.out
  unfold Hid OwnU
  simpa using this
end
/-- Some new value of ints, and nothing old has changed. -/
def NewI (w : World) (ds : List Nat) (e : Ending) (w' : World) : Prop := ∃ v, e = .returned v ∧ LI w' v ds ∧ Below w.heap.size w w'
def NewU (w : World) (ds : List Nat) (e : Ending) (w' : World) : Prop := ∃ v, e = .returned v ∧ LU w' v ds ∧ Below w.heap.size w w'
end Go.Proofs.YthfjbpbgnoonpaaGreatDoor

namespace Go.Proofs.YthfjbpbgnoonpaaGreatDoor
open Go.RowKit

theorem strip_take_zero (ds : List Nat) (k : Nat) (hk : k ≤ ds.length) (h0 : 0 < k) (hx : ds.getD (k - 1) 0 = 0) : strip (ds.take (k - 1)) = strip (ds.take k) := by
  obtain ⟨j, rfl⟩ : ∃ j, k = j + 1 := ⟨k - 1, by omega⟩
  simp only [Nat.add_sub_cancel] at *
  rw [take_snoc ds j (by omega), hx, strip_zero]
theorem strip_take_pos (ds : List Nat) (k : Nat) (hk : k ≤ ds.length) (h0 : 0 < k) (hx : ds.getD (k - 1) 0 ≠ 0) : strip (ds.take k) = ds.take k := by
  obtain ⟨j, rfl⟩ : ∃ j, k = j + 1 := ⟨k - 1, by omega⟩
  simp only [Nat.add_sub_cancel] at *
  rw [take_snoc ds j (by omega), strip_pos _ _ hx]

set_option maxHeartbeats 400000 in
theorem without_any {v : Value} {ds : List Nat} {w : World} (hlen : ds.length ≤ 2000000000000) (hv : LI w v ds) :
    Calls Tryz.prog 54 #[v] w (NewI w (strip ds)) := by
  obtain ⟨A, c, rfl, hc, hA⟩ := hv
  obtain ⟨i0, hi, hz0, hz1, hz2⟩ := info_parts infoInt
  have fin : ∀ (k : Nat) (hk : k ≤ ds.length) (hs : strip ds = ds.take k) (v' : Value) (w' : World), w'.ownsRow w.heap.size 3 1 v' (0 + k) ([] ++ vals (i64f ds) k) → (w.alloc (.cells #[] 3)).grownBy w' (some w.heap.size) → NewI w (strip ds) (.returned v') w' := by
    intro k hk hs v' w' h1 h2
    refine ⟨v', rfl, ?_, ((Below.refl _ _).alloc (Nat.le_refl _) _).grown h2 (by simp) (by simp)⟩
    rw [hs]
    refine own_vals_I (base := w.heap.size) (e := 3) (n := k) (by simp; omega) ?_
    rw [vals_same fun i hi => i64f_take ds k i hi]
    simpa using h1
  go_enter Tryz.func54, Tryz.ntmps54
  go_wp2
  go_loop [0] (fun v => ∃ k : Nat, k ≤ ds.length ∧ v = .slice A k c ∧ strip ds = strip (ds.take k)) (fun v => match v with | .slice _ k _ => k | _ => 0)
  case atStart => exact ⟨_, Nat.le_refl _, rfl, by rw [List.take_length]⟩
  case round =>
    obtain ⟨k, hk, rfl, hs⟩ := hrel
    have HS := Lib.hid hs
    clear hs
    have hA1 := (hA.less hk).below ((Below.refl _ w).alloc (Nat.le_refl _) (.cells #[] 3))
    by_cases h0 : 0 < k
    · obtain ⟨a, rfl, hab, hcell⟩ := hA (k - 1) (by omega)
      by_cases hx0 : ds.getD (k - 1) 0 = 0
      · have hcell' : w.cell? (a.add (k - 1)) = some (.int .i64 0) := by rw [hcell]; unfold i64f; rw [hx0]; rfl
        have hst := Lib.hid (strip_take_zero ds k hk h0 hx0)
        clear hcell hx0 hA1 fin
        go_wp2
        exact ⟨⟨k - 1, by omega, rfl, by rw [HS.out, hst.out]⟩, by simp; omega⟩
      · obtain ⟨x, hx⟩ : ∃ x : Nat, x = ds.getD (k - 1) 0 := ⟨_, rfl⟩
        have hcell' : w.cell? (a.add (k - 1)) = some (.int .i64 x) := by rw [hcell, hx]; rfl
        have hb : ((x : Int) == 0) = false := by simp; omega
        have hst := Lib.hid (strip_take_pos ds k hk h0 hx0)
        clear hcell hx0 hx
        go_wp2_with (at_builtin; refine wpList_append_cells _ rfl (.tmp 20) (.tmp 21) _ _ rfl w.heap.size 3 3 i0 _ 8 Tryz.underlying32 Tryz.underlying31 hi hz0 hz1 hz2 rfl _ 0 [] rfl (own_empty w 3) w.heap.size (some a) k c (i64f ds) rfl hA1 (fun _ _ => rfl) (by simp [maxLen]; omega) (by omega) (by simp) ?_; intro v' w1 hown1 hgrow1 _; have hf := Lib.hid (fin k hk (HS.out.trans hst.out) v' w1 hown1 hgrow1); clear fin hown1 hgrow1)
        go_ret
        exact hf.out
    · obtain rfl : k = 0 := by omega
      go_wp2_with (at_builtin; refine wpList_append_cells _ rfl (.tmp 20) (.tmp 21) _ _ rfl w.heap.size 3 3 i0 _ 8 Tryz.underlying32 Tryz.underlying31 hi hz0 hz1 hz2 rfl _ 0 [] rfl (own_empty w 3) w.heap.size A 0 c (i64f ds) rfl hA1 (fun _ _ => rfl) (by simp [maxLen]) (by omega) (by simp) ?_; intro v' w1 hown1 hgrow1 _; have hf := Lib.hid (fin 0 hk HS.out v' w1 hown1 hgrow1); clear fin hown1 hgrow1)
      go_ret
      exact hf.out

theorem digits_step (b c d o i rest v : Nat) (h : o + b ^ i * (c + (d + b * rest)) = v) : (o + b ^ i * ((c + d) % b)) + b ^ (i + 1) * ((c + d) / b + rest) = v := by
  rw [← h, Nat.pow_succ, Nat.mul_assoc, ← Nat.add_assoc c d, Nat.mul_add b, Nat.add_assoc o, ← Nat.mul_add, ← Nat.add_assoc, Nat.mod_add_div]
theorem drop_cons (ds : List Nat) (i : Nat) (h : i < ds.length) : ds.drop i = ds.getD i 0 :: ds.drop (i + 1) := by
  rw [List.drop_eq_getElem_cons h]; simp [List.getD, h]

/-- What holds at the head of carried's loop. -/
def CarryRel (w : World) (ds : List Nat) (i c : Nat) (os : List Nat) (v : Value) (wr : World) : Prop :=
  OwnI w.heap.size wr v os ∧ os.length = i ∧ (∀ d ∈ os, d < 1000000) ∧ val 1000000 os + 1000000 ^ i * (c + val 1000000 (ds.drop i)) = val 1000000 ds ∧ Below w.heap.size w wr ∧ w.heap.size ≤ wr.heap.size
theorem carry_in {w : World} {ds : List Nat} {i c : Nat} {os : List Nat} {v : Value} {wr : World} (h : CarryRel w ds i c os v wr) (hi : i < ds.length) {v' : Value} {w' : World}
    (h1 : OwnI w.heap.size w' v' (os ++ [(c + ds.getD i 0) % 1000000])) (h2 : Below w.heap.size w w') (h3 : w.heap.size ≤ w'.heap.size) :
    CarryRel w ds (i + 1) ((c + ds.getD i 0) / 1000000) (os ++ [(c + ds.getD i 0) % 1000000]) v' w' := by
  obtain ⟨_, g2, g3, g4, _, _⟩ := h
  refine ⟨h1, by simp [g2], ?_, ?_, h2, h3⟩
  · intro d hd
    rcases List.mem_append.1 hd with hd | hd
    · exact g3 d hd
    · rw [List.mem_singleton.1 hd]; exact Nat.mod_lt _ (by omega)
  · rw [val_snoc, g2]
    rw [drop_cons ds i hi] at g4
    exact digits_step _ _ _ _ _ _ _ g4
theorem carry_out {w : World} {ds : List Nat} {i c : Nat} {os : List Nat} {v : Value} {wr : World} (h : CarryRel w ds i c os v wr) (hi : ds.length ≤ i) {v' : Value} {w' : World}
    (h1 : OwnI w.heap.size w' v' (os ++ [c % 1000000])) (h2 : Below w.heap.size w w') (h3 : w.heap.size ≤ w'.heap.size) :
    CarryRel w ds (i + 1) (c / 1000000) (os ++ [c % 1000000]) v' w' := by
  obtain ⟨_, g2, g3, g4, _, _⟩ := h
  refine ⟨h1, by simp [g2], ?_, ?_, h2, h3⟩
  · intro d hd
    rcases List.mem_append.1 hd with hd | hd
    · exact g3 d hd
    · rw [List.mem_singleton.1 hd]; exact Nat.mod_lt _ (by omega)
  · rw [val_snoc, g2]
    rw [List.drop_of_length_le (by omega)] at g4 ⊢
    have := digits_step 1000000 c 0 (val 1000000 os) i 0 (val 1000000 ds) (by simpa [val] using g4)
    simpa [val] using this
theorem carry_end {w : World} {ds : List Nat} {i : Nat} {os : List Nat} {v : Value} {wr : World} (h : CarryRel w ds i 0 os v wr) (hi : ds.length ≤ i) : strip os = digs 1000000 (val 1000000 ds) := by
  obtain ⟨_, _, g3, g4, _, _⟩ := h
  rw [List.drop_of_length_le (by omega)] at g4
  rw [strip_digs (b := 1000000) (by omega) os g3]
  simp [val] at g4
  rw [g4]

set_option maxRecDepth 100000 in
set_option maxHeartbeats 800000 in
theorem carried_any {v : Value} {ds : List Nat} {w : World} (hlen : ds.length ≤ 1000000) (hd : ∀ d ∈ ds, d ≤ 100000000000000000) (hv : LI w v ds) :
    Calls Tryz.prog 105 #[v] w (NewI w (digs 1000000 (val 1000000 ds))) := by
  obtain ⟨A, cp, rfl, hcp, hA⟩ := hv
  obtain ⟨i0, hi, hz0, hz1, hz2⟩ := info_parts infoInt
  go_enter Tryz.func105, Tryz.ntmps105
  go_wp2
  go_loopw [3, 4, 5] (fun v c i wr => ∃ (ni nc : Nat) (os : List Nat), i = .int .i64 ni ∧ c = .int .i64 nc ∧ nc ≤ 1000000000000 ∧ (ni ≤ ds.length ∨ ni - ds.length + nc ≤ 1000000000000) ∧ CarryRel w ds ni nc os v wr)
    (fun _ c i _ => (ds.length - (intOf i).toNat) * 1000000000000000000 + (intOf c).toNat)
  case atStart => exact ⟨0, 0, [], rfl, rfl, by omega, by omega, OwnI.nil _ _, rfl, by simp, by simp [val], Below.refl _ _, Nat.le_refl _⟩
  case round =>
    obtain ⟨i, c, os, rfl, rfl, hc, hic, hR⟩ := hrel
    have hR1 := hR
    obtain ⟨hown, hos, -, -, hbw, hsz⟩ := hR1
    have hos' : i ≤ os.length := by omega
    have hos'' : os.length ≤ i := by omega
    clear hos
    by_cases hlt : i < ds.length
    · obtain ⟨a, rfl, hab, hcell⟩ := hA i hlt
      have hdi : ds.getD i 0 ≤ 100000000000000000 := by
        rw [List.getD, List.getElem?_eq_getElem hlt]; exact hd _ (List.getElem_mem hlt)
      have key := fun v' w' h1 h2 h3 => carry_in hR hlt (v' := v') (w' := w') h1 h2 h3
      have Key := Lib.hid key
      clear key
      obtain ⟨x, hx⟩ : ∃ x : Nat, x = ds.getD i 0 := ⟨_, rfl⟩
      rw [← hx] at hdi Key
      have hcell' : wr.cell? (a.add i) = some (.int .i64 x) := by rw [hbw.cell (by rw [add_block]; exact hab), hcell, hx]; rfl
      clear hcell hd
      have hx' := Lib.hid hx
      clear hx
      go_wp2_with (at_builtin; go_loud (refine wpList_append_I rfl (.tmp 26) (.tmp 29) _ _ rfl Tryz.underlying31 Tryz.underlying31 w.heap.size _ os rfl hown ((c + x) % 1000000) _ (by unfold encI; go_num) rfl (by omega) w hbw hsz ?_; intro v' w1 hown1 hb1 hs1))
      go_roundw
      case rel => exact ⟨i + 1, (c + x) / 1000000, os ++ [(c + x) % 1000000], by go_num, by go_num, by omega, by omega, Key.out _ _ hown1.out hb1.out hs1.out⟩
      case measure => simp [intOf]; omega
    · by_cases hc0 : 0 < c
      · have Key := Lib.hid (fun v' w' h1 h2 h3 => carry_out hR (Nat.le_of_not_lt hlt) (v' := v') (w' := w') h1 h2 h3)
        go_wp2_with (at_builtin; go_loud (refine wpList_append_I rfl (.tmp 26) (.tmp 29) _ _ rfl Tryz.underlying31 Tryz.underlying31 w.heap.size _ os rfl hown (c % 1000000) _ (by unfold encI; go_num) rfl (by omega) w hbw hsz ?_; intro v' w1 hown1 hb1 hs1))
        go_roundw
        case rel => exact ⟨i + 1, c / 1000000, os ++ [c % 1000000], by go_num, by go_num, by omega, by omega, Key.out _ _ hown1.out hb1.out hs1.out⟩
        case measure => simp [intOf]; omega
      · obtain rfl : c = 0 := by omega
        have he := Lib.hid (carry_end hR (Nat.le_of_not_lt hlt))
        go_wp2_with (go_at_call 54; refine (without_any (by omega) hown.reads).mono ?_; rintro e w1 ⟨v1, rfl, hv1, hb1⟩)
        go_ret
        exact ⟨v1, rfl, by rw [← he.out]; exact hv1, hbw.trans (hb1.mono hsz)⟩
end Go.Proofs.YthfjbpbgnoonpaaGreatDoor

namespace Go.Proofs.YthfjbpbgnoonpaaGreatDoor
open Go.RowKit

theorem val_mul (b m : Nat) (ds : List Nat) : val b (ds.map (· * m)) = val b ds * m := by
  induction ds with
  | nil => simp [val]
  | cons d ds ih => simp only [List.map_cons, val, ih, Nat.add_mul, Nat.mul_assoc]
theorem map_take_snoc (g : Nat → Nat) (ds : List Nat) (k : Nat) (h : k < ds.length) : (ds.take (k + 1)).map g = (ds.take k).map g ++ [g (ds.getD k 0)] := by
  rw [take_snoc ds k h]; simp

set_option maxRecDepth 100000 in
set_option maxHeartbeats 800000 in
theorem times_any {v : Value} {ds : List Nat} (m : Int) {w : World} (hlen : ds.length ≤ 1000000) (hd : ∀ d ∈ ds, d < 1000000) (h0 : 0 ≤ m) (hm : m ≤ 4294967296) (hv : LI w v ds) :
    Calls Tryz.prog 86 #[v, .int .i64 m] w (NewI w (digs 1000000 (val 1000000 ds * m.toNat))) := by
  obtain ⟨m, rfl⟩ := Int.eq_ofNat_of_zero_le h0
  rw [Int.toNat_natCast]
  have hm' : m ≤ 4294967296 := by omega
  have hall : ∀ d ∈ ds.map (· * m), d ≤ 100000000000000000 := by
    intro d hdd
    obtain ⟨x, hx, rfl⟩ := List.mem_map.1 hdd
    have h1 : x ≤ 1000000 := Nat.le_of_lt (hd x hx)
    exact Nat.le_trans (Nat.mul_le_mul h1 hm') (by omega)
  have HA := Lib.hid hall
  clear hall
  obtain ⟨A, cp, rfl, hcp, hA⟩ := hv
  go_enter Tryz.func86, Tryz.ntmps86
  go_wp2
  go_loopw [5, 6] (fun v i wr => ∃ (ni : Nat) (os : List Nat), i = .int .i64 ni ∧ ni ≤ ds.length ∧ os.length ≤ ni ∧ os = (ds.take ni).map (· * m) ∧ OwnI w.heap.size wr v os ∧ Below w.heap.size w wr)
    (fun _ i _ => ds.length - (intOf i).toNat)
  case atStart => exact ⟨0, [], rfl, by omega, by simp, rfl, OwnI.nil _ _, Below.refl _ _⟩
  case round =>
    obtain ⟨i, os, rfl, hil, hol, hos, hown, hbw⟩ := hrel
    have HOS := Lib.hid hos
    clear hos
    have hsz := hbw.size
    by_cases hlt : i < ds.length
    · obtain ⟨a, rfl, hab, hcell⟩ := hA i hlt
      obtain ⟨x, hx⟩ : ∃ x : Nat, x = ds.getD i 0 := ⟨_, rfl⟩
      have hx1 : x < 1000000 := by rw [hx, List.getD, List.getElem?_eq_getElem hlt]; exact hd _ (List.getElem_mem hlt)
      have hcell' : wr.cell? (a.add i) = some (.int .i64 x) := by rw [hbw.cell (by rw [add_block]; exact hab), hcell, hx]; rfl
      have hst := Lib.hid (map_take_snoc (· * m) ds i hlt)
      rw [← hx] at hst
      clear hcell hx hd
      have hp1 : 0 ≤ (x : Int) * (m : Int) := by rw [← Int.natCast_mul]; omega
      have hp2 : (x : Int) * (m : Int) ≤ 4294967296000000 := by
        have h : x * m ≤ 1000000 * 4294967296 := Nat.mul_le_mul (by omega) hm'
        rw [← Int.natCast_mul]
        omega
      go_wp2_with (at_builtin; go_loud (refine wpList_append_I rfl (.tmp 13) (.tmp 20) _ _ rfl Tryz.underlying31 Tryz.underlying31 w.heap.size _ os rfl hown (x * m) _ (by unfold encI; rw [Int.natCast_mul]) rfl (by omega) w hbw hsz ?_; intro v' w1 hown1 hb1 hs1))
      go_roundw
      case rel => exact ⟨i + 1, os ++ [x * m], by go_num, by omega, by simp; omega, by rw [hst.out, HOS.out], hown1.out, hb1.out⟩
      case measure => simp [intOf]; omega
    · have hcall := carried_any (ds := os) (w := wr) (by omega) (by rw [HOS.out]; intro d hdd; exact HA.out d (by rw [List.map_take] at hdd; exact List.mem_of_mem_take hdd)) hown.reads
      have hfin : Hid (digs 1000000 (val 1000000 os) = digs 1000000 (val 1000000 ds * m)) := by
        unfold Hid
        rw [HOS.out, List.take_of_length_le (by omega), val_mul]
      clear hd HA HOS
      go_wp2_with (go_at_call 105; refine hcall.mono ?_; rintro e w1 ⟨v1, rfl, hv1, hb1⟩)
      go_ret
      exact ⟨v1, rfl, by rw [← hfin.out]; exact hv1, hbw.trans (hb1.mono hsz)⟩

theorem all_snoc {b : Nat} {os : List Nat} {x : Nat} (h : ∀ d ∈ os, d < b) (hx : x < b) : ∀ d ∈ os ++ [x], d < b := by
  intro d hd
  rcases List.mem_append.1 hd with hd | hd
  · exact h d hd
  · rw [List.mem_singleton.1 hd]; exact hx
theorem pow_len (v i k n : Nat) (h : v + 1000000 ^ i * k = n) (hn : n < 18446744073709551616) (hk : 0 < k) : i < 4 := by
  rcases Nat.lt_or_ge i 4 with h4 | h4
  · exact h4
  · have h1 : 1000000 ^ 4 ≤ 1000000 ^ i := Nat.pow_le_pow_right (by omega) h4
    have h2 : 1000000 ^ i * 1 ≤ 1000000 ^ i * k := Nat.mul_le_mul_left _ hk
    omega

set_option maxRecDepth 100000 in
set_option maxHeartbeats 800000 in
theorem refOf_any (n : Int) {w : World} (h0 : 0 ≤ n) (hn : n < 18446744073709551616) :
    Calls Tryz.prog 14 #[.int .u64 n] w (NewI w (digs 1000000 n.toNat)) := by
  obtain ⟨n, rfl⟩ := Int.eq_ofNat_of_zero_le h0
  rw [Int.toNat_natCast]
  have hn' : n < 18446744073709551616 := by omega
  go_enter Tryz.func14, Tryz.ntmps14
  go_wp2
  go_loopw [0, 3] (fun k v wr => ∃ (nk : Nat) (os : List Nat), k = .int .u64 nk ∧ nk ≤ n ∧ os.length ≤ 4 ∧ (∀ d ∈ os, d < 1000000) ∧ val 1000000 os + 1000000 ^ os.length * nk = n ∧ OwnI w.heap.size wr v os ∧ Below w.heap.size w wr)
    (fun k _ _ => (intOf k).toNat)
  case atStart => exact ⟨n, [], rfl, by omega, by simp, by simp, by simp [val], OwnI.nil _ _, Below.refl _ _⟩
  case round =>
    obtain ⟨k, os, rfl, hk, hol, hd, hval, hown, hbw⟩ := hrel
    have HD := Lib.hid hd
    have HV := Lib.hid hval
    clear hd hval
    have hsz := hbw.size
    by_cases hk0 : 0 < k
    · have hlt := pow_len _ _ _ _ HV.out hn' hk0
      have hnext : Hid (val 1000000 (os ++ [k % 1000000]) + 1000000 ^ (os ++ [k % 1000000]).length * (k / 1000000) = n) := by
        unfold Hid
        rw [val_snoc, List.length_append, List.length_singleton]
        have := digits_step 1000000 k 0 (val 1000000 os) os.length 0 n (by simpa using HV.out)
        simpa using this
      go_wp2_with (at_builtin; go_loud (refine wpList_append_I rfl (.tmp 6) (.tmp 10) _ _ rfl Tryz.underlying31 Tryz.underlying31 w.heap.size _ os rfl hown (k % 1000000) _ (by unfold encI; go_num) rfl (by omega) w hbw hsz ?_; intro v' w1 hown1 hb1 hs1))
      go_roundw
      case rel => exact ⟨k / 1000000, os ++ [k % 1000000], by go_num, by omega, by simp; omega, all_snoc HD.out (Nat.mod_lt _ (by omega)), hnext.out, hown1.out, hb1.out⟩
      case measure => simp [intOf]; omega
    · obtain rfl : k = 0 := by omega
      have hfin : Hid (strip os = digs 1000000 n) := by
        unfold Hid
        rw [strip_digs (b := 1000000) (by omega) os HD.out]
        have := HV.out
        simp at this
        rw [this]
      go_wp2_with (go_at_call 54; refine (without_any (by omega) hown.reads).mono ?_; rintro e w1 ⟨v1, rfl, hv1, hb1⟩)
      go_ret
      exact ⟨v1, rfl, by rw [← hfin.out]; exact hv1, hbw.trans (hb1.mono hsz)⟩
end Go.Proofs.YthfjbpbgnoonpaaGreatDoor

namespace Go.Proofs.YthfjbpbgnoonpaaGreatDoor
open Go.RowKit

def Row (w : World) (g : Nat) (e : TypeId) (n : Nat) (f : Nat → Value) : Prop := w.heap[g]? = some (.cells (vals f n).toArray e (0, 0))
section
variable {w w' : World} {g n : Nat} {e : TypeId} {f f' : Nat → Value}
theorem Row.lt (h : Row w g e n f) : g < w.heap.size := by
  rcases Nat.lt_or_ge g w.heap.size with hlt | hge
  · exact hlt
  · unfold Row at h; rw [Array.getElem?_eq_none hge] at h; cases h
theorem Row.cell (h : Row w g e n f) (i : Nat) (hi : i < n) : w.cell? ⟨g, i, none⟩ = some (f i) := by
  rw [cell_of_row w g i _ e (0, 0) h]
  simpa using vals_get f n i hi
theorem Row.frozen (h : Row w g e n f) (i : Nat) : w.frozen? ⟨g, i, none⟩ = false := by
  unfold Row at h
  simp [World.frozen?, h]
theorem Row.set_ (h : Row w g e n f) (i : Nat) (u : Value) (hf : ∀ j, j < n → f' j = if j = i then u else f j) : Row (w.setCell ⟨g, i, none⟩ u) g e n f' := by
  unfold Row at h ⊢
  have : ((vals f n).toArray.setIfInBounds i u) = (vals f' n).toArray := by
    apply Array.ext
    · simp [vals_len]
    · intro j h1 h2
      simp [vals_len] at h1
      rw [Array.getElem_setIfInBounds (by simpa [vals_len] using h1)]
      simp only [vals, List.getElem_toArray, List.getElem_map, List.getElem_range]
      rw [hf j h1]
      by_cases hij : i = j
      · subst hij; simp
      · rw [if_neg hij, if_neg (Ne.symm hij)]
  simp [World.setCell, Array.getElem?_modify, h, this]
theorem Row.same (h : Row w g e n f) (hf : ∀ j, j < n → f j = f' j) : Row w g e n f' := by
  unfold Row at h ⊢
  rw [h, vals_same hf]
theorem Row.below {B : Nat} (h : Row w g e n f) (hb : Below B w w') (hg : g < B) : Row w' g e n f := (hb.block g hg).trans h
theorem Row.drew (h : Row w g e n f) : Row w.drew g e n f := h
theorem Row.drewN (h : Row w g e n f) (k : Nat) : Row (w.drewN k) g e n f := h
theorem Row.cells (h : Row w g e n f) : Cells w w.heap.size (some ⟨g, 0, none⟩) n f := by
  intro i hi
  refine ⟨_, rfl, h.lt, ?_⟩
  have := h.cell i hi
  unfold Addr.add
  split
  · rename_i h0; subst h0; exact this
  · simpa using this
theorem Row.cellsB (h : Row w g e n f) {B : Nat} (hB : g < B) : Cells w B (some ⟨g, 0, none⟩) n f := by
  intro i hi
  obtain ⟨a, h1, _, h3⟩ := h.cells i hi
  injection h1 with h1
  subst h1
  exact ⟨_, rfl, hB, h3⟩
end

theorem cells_alloc (w : World) (cs : Array Value) (e : TypeId) (fr : Nat × Nat) {g B n : Nat} {f : Nat → Value} (hg : w.heap.size = g) (hB : g < B) (h : ∀ i, i < n → cs[i]? = some (f i)) :
    Cells (w.alloc (.cells cs e fr)) B (some ⟨g, 0, none⟩) n f := by
  subst hg
  intro i hi
  refine ⟨_, rfl, hB, ?_⟩
  have : (Addr.add ⟨w.heap.size, 0, none⟩ i : Addr) = ⟨w.heap.size, i, none⟩ := by
    unfold Addr.add
    split
    · rename_i h0; subst h0; rfl
    · simp
  rw [this, World.cell?_alloc_mark, h i hi]
theorem cellsT_alloc (w : World) (cs : Array Value) (e : TypeId) (fr : Nat × Nat) {g n : Nat} {f : Nat → Value} (hg : w.heap.size = g) (h : ∀ i, i < n → cs[i]? = some (f i)) :
    CellsT (w.alloc (.cells cs e fr)) e (some ⟨g, 0, none⟩) n f := by
  subst hg
  refine ⟨.inr ⟨_, rfl⟩, fun i hi => ⟨_, rfl, ⟨_, _, heap_alloc_new w _⟩, ?_⟩⟩
  rw [World.cell?_alloc_mark, h i hi]
theorem Row.cellsT {w : World} {g n : Nat} {e : TypeId} {f : Nat → Value} (h : Row w g e n f) : CellsT w e (some ⟨g, 0, none⟩) n f := 
  ⟨.inr ⟨_, rfl⟩, fun i hi => ⟨g, rfl, ⟨_, _, h⟩, h.cell i hi⟩⟩
/-- A block of one cell. -/
def One (w : World) (g : Nat) (v : Value) (t : TypeId) : Prop := w.heap[g]? = some (.cells #[v] t (0, 0))
theorem One.new (w : World) (v : Value) (t : TypeId) : One (w.alloc (.cells #[v] t)) w.heap.size v t := heap_alloc_new w _
theorem One.lt {w : World} {g : Nat} {v : Value} {t : TypeId} (h : One w g v t) : g < w.heap.size := by
  rcases Nat.lt_or_ge g w.heap.size with hlt | hge
  · exact hlt
  · unfold One at h; rw [Array.getElem?_eq_none hge] at h; cases h
theorem One.alloc {w : World} {g : Nat} {v : Value} {t : TypeId} (h : One w g v t) (o : Obj) : One (w.alloc o) g v t := (Below.heap_alloc w o g h.lt).trans h
theorem One.below {w w' : World} {B g : Nat} {v : Value} {t : TypeId} (h : One w g v t) (hb : Below B w w') (hg : g < B) : One w' g v t := (hb.block g hg).trans h
theorem One.step {w w' : World} {g : Nat} {v : Value} {t : TypeId} (h : One w g v t) (hb : Below w.heap.size w w') : One w' g v t := h.below hb h.lt
theorem One.cell {w : World} {g : Nat} {v : Value} {t : TypeId} (h : One w g v t) : w.cell? ⟨g, 0, none⟩ = some v := by
  rw [cell_of_row w g 0 _ t (0, 0) h]; rfl
theorem One.far {w : World} {g : Nat} {v : Value} {t : TypeId} (h : One w g v t) {p : Addr} (hp : g ≠ p.block) (u : Value) : One (w.setCell p u) g v t := (Below.heap_setCell w p u g hp).trans h
theorem One.drewN {w : World} {g : Nat} {v : Value} {t : TypeId} (h : One w g v t) (k : Nat) : One (w.drewN k) g v t := h
theorem Row.far {w : World} {g n : Nat} {e : TypeId} {f : Nat → Value} (h : Row w g e n f) {p : Addr} (hp : g ≠ p.block) (u : Value) : Row (w.setCell p u) g e n f := (Below.heap_setCell w p u g hp).trans h
theorem One.row {w : World} {g : Nat} {v : Value} {t : TypeId} (h : One w g v t) : IsRow w t g := ⟨_, _, h⟩
theorem One.set_ {w : World} {g : Nat} {v : Value} {t : TypeId} (h : One w g v t) (u : Value) : One (w.setCell ⟨g, 0, none⟩ u) g u t := one_setCell h
theorem One.frozen {w : World} {g : Nat} {v : Value} {t : TypeId} (h : One w g v t) : w.frozen? ⟨g, 0, none⟩ = false := by
  unfold One at h; simp [World.frozen?, h]
/-- All old cells and marks read as before. -/
theorem old_cells {w w' : World} (hb : Below w.heap.size w w') : (∀ b o, b < w.heap.size → w'.cell? ⟨b, o, none⟩ = w.cell? ⟨b, o, none⟩) ∧ (∀ b o, b < w.heap.size → w'.frozen? ⟨b, o, none⟩ = w.frozen? ⟨b, o, none⟩) :=
  ⟨fun b o h => hb.cell (p := ⟨b, o, none⟩) h, fun b o h => hb.frozen (p := ⟨b, o, none⟩) h⟩
theorem LI.of_cells {w : World} {A : Option Addr} {n c : Nat} {f : Nat → Value} {ds : List Nat} (hn : ds.length = n) (hc : n ≤ c) (h : Cells w w.heap.size A n f) (hf : ∀ i, i < n → f i = i64f ds i) : LI w (.slice A n c) ds := by
  subst hn
  exact ⟨A, c, rfl, hc, h.same hf⟩
theorem LU.of_cells {w : World} {A : Option Addr} {n c : Nat} {f : Nat → Value} {ds : List Nat} (hn : ds.length = n) (hc : n ≤ c) (h : CellsT w 90 A n f) (hf : ∀ i, i < n → f i = u32f ds i) : LU w (.slice A n c) ds := by
  subst hn
  exact ⟨A, c, rfl, hc, h.same hf⟩
section
variable {P : Program} {w : World} {ops : Array Oper} {rest : List Oper} {o : Oper} {a : Act} {Q : Exit → Act → World → Prop}
theorem wpList_make_row (hg : o.guard = none) (l c : Operand) (t : TypeId) (hop : o.op = Op.makeSlice t l c)
    (e : TypeId) (i : TypeInfo) (z : Value) (h1 : P.underlying t = some (.slice e)) (h2 : P.info? e = some i) (h3 : i.zero = some z) (h4 : i.size = 1) (hz : z.cells = #[z])
    (kl kc : IntKind) (L C : Int) (n : Nat) (hl : a.eval l = .int kl L) (hc : a.eval c = .int kc C) (hL : L = (n : Int)) (hC : C = (n : Int)) (b2 : i.bytes * n ≤ 281474976710656) (b3 : n ≤ maxLen)
    (w0 : World) (base : Nat) (hb : Below base w0 w) (hbase : base ≤ w.heap.size)
    (hK : ∀ w', Hid (Row w' w.heap.size e n (fun _ => z)) → Hid (Below base w0 w') → Hid (w.heap.size < w'.heap.size) → wpList P ops Q rest (a.put o.dst (.slice (some ⟨w.heap.size, 0, none⟩) n n)) w') :
    wpList P ops Q (o :: rest) a w := by
  refine wpList_make_full w hg l c t hop w.heap.size e i z 1 h1 h2 h3 h4 kl kc L C n hl hc hL hC b2 b3 (Nat.le_refl _) ?_
  intro w' hown hgr
  have hrow : Row w' w.heap.size e n (fun _ => z) := by
    rcases hown.2 with ⟨h0, _⟩ | ⟨g, cap, cur, h0, _, hh, hcap, _, hcs, htake⟩
    · cases h0
    · obtain ⟨h5, _, rfl⟩ := Value.slice.inj h0
      injection h5 with h5
      injection h5 with h5
      subst h5
      unfold Row
      rw [hh]
      have hcur : cur = (vals (fun _ => z) n).toArray := by
        apply Array.ext'
        have h6 : cur.toList.take (n * 1) = cur.toList := List.take_of_length_le (by rw [Array.length_toList, hcs]; exact Nat.le_refl _)
        rw [← h6, htake]
        rw [hz]
        simp only [madeCells, Nat.mul_one, Array.toList_map, Array.toList_range, vals]
        exact List.map_congr_left fun j _ => by simp [Nat.mod_one]
      rw [hcur]
  refine hK w' hrow (hb.grown hgr hbase (fun k hk => by cases hk)) ?_
  exact hrow.lt
end
end Go.Proofs.YthfjbpbgnoonpaaGreatDoor

namespace Go.Proofs.YthfjbpbgnoonpaaGreatDoor
open Go.RowKit

def sumList (a b : List Nat) (n : Nat) : List Nat := (List.range n).map fun i => a.getD i 0 + b.getD i 0
theorem sumList_len (a b : List Nat) (n : Nat) : (sumList a b n).length = n := by simp [sumList]
theorem sumList_get (a b : List Nat) (n i : Nat) (h : i < n) : (sumList a b n).getD i 0 = a.getD i 0 + b.getD i 0 := by simp [sumList, List.getD, h]
theorem val_range (b : Nat) (f : Nat → Nat) (n : Nat) : val b ((List.range (n + 1)).map f) = f 0 + b * val b ((List.range n).map fun i => f (i + 1)) := by
  rw [List.range_succ_eq_map]; simp [val, Function.comp_def]
theorem val_sum (b : Nat) : ∀ (n : Nat) (x y : List Nat), x.length ≤ n → y.length ≤ n → val b (sumList x y n) = val b x + val b y
  | 0, x, y, hx, hy => by
    obtain rfl : x = [] := List.eq_nil_of_length_eq_zero (by omega)
    obtain rfl : y = [] := List.eq_nil_of_length_eq_zero (by omega)
    rfl
  | n + 1, x, y, hx, hy => by
    have ih := val_sum b n x.tail y.tail (by simp; omega) (by simp; omega)
    unfold sumList at *
    rw [val_range]
    have e : ((List.range n).map fun i => x.getD (i + 1) 0 + y.getD (i + 1) 0) = (List.range n).map fun i => x.tail.getD i 0 + y.tail.getD i 0 := by
      apply List.map_congr_left
      intro i _
      cases x <;> cases y <;> simp
    rw [e, ih]
    have hv : ∀ l : List Nat, val b l = l.getD 0 0 + b * val b l.tail := by intro l; cases l <;> simp [val]
    rw [hv x, hv y, Nat.mul_add]
    omega

def addF (x y : List Nat) (i j : Nat) (k : Nat) : Value := .int .i64 ((if k < i then x.getD k 0 else 0) + (if k < j then y.getD k 0 else 0) : Nat)
theorem addF_step1 (x y : List Nat) (i k : Nat) : addF x y (i + 1) 0 k = if k = i then .int .i64 ((x.getD i 0 : Nat) : Int) else addF x y i 0 k := by
  unfold addF
  by_cases h : k = i
  · subst h; simp
  · rw [if_neg h]
    by_cases h2 : k < i
    · rw [if_pos h2, if_pos (by omega)]
    · rw [if_neg h2, if_neg (by omega)]
theorem addF_step2 (x y : List Nat) (i j k : Nat) : addF x y i (j + 1) k = if k = j then .int .i64 (((if j < i then x.getD j 0 else 0) + y.getD j 0 : Nat) : Int) else addF x y i j k := by
  unfold addF
  by_cases h : k = j
  · subst h; simp
  · rw [if_neg h]
    by_cases h2 : k < j
    · rw [if_pos h2, if_pos (show k < j + 1 by omega)]
    · rw [if_neg h2, if_neg (show ¬ k < j + 1 by omega)]
theorem addF_end (x y : List Nat) (n i : Nat) (hi : i < n) (_hx : x.length ≤ n) (_hy : y.length ≤ n) : addF x y x.length y.length i = i64f (sumList x y n) i := by
  unfold addF i64f
  rw [sumList_get x y n i hi]
  have e1 : (if i < x.length then x.getD i 0 else 0) = x.getD i 0 := by
    split
    · rfl
    · rename_i h; simp [List.getD, List.getElem?_eq_none (Nat.le_of_not_lt h)]
  have e2 : (if i < y.length then y.getD i 0 else 0) = y.getD i 0 := by
    split
    · rfl
    · rename_i h; simp [List.getD, List.getElem?_eq_none (Nat.le_of_not_lt h)]
  rw [e1, e2]
theorem getD_lt {b : Nat} {x : List Nat} (h : ∀ d ∈ x, d < b) (i : Nat) (hi : i < x.length) : x.getD i 0 < b := by
  rw [List.getD, List.getElem?_eq_getElem hi]; exact h _ (List.getElem_mem hi)
theorem getD_lt0 {b : Nat} (hb : 0 < b) {x : List Nat} (h : ∀ d ∈ x, d < b) (i : Nat) : x.getD i 0 < b := by
  rcases Nat.lt_or_ge i x.length with hi | hi
  · exact getD_lt h i hi
  · simp [List.getD, List.getElem?_eq_none hi, hb]
theorem sumList_all {x y : List Nat} (hx : ∀ d ∈ x, d < 1000000) (hy : ∀ d ∈ y, d < 1000000) (n : Nat) : ∀ d ∈ sumList x y n, d ≤ 100000000000000000 := by
  intro d hd
  obtain ⟨i, _, rfl⟩ := List.mem_map.1 hd
  have h1 := getD_lt0 (by omega) hx i
  have h2 := getD_lt0 (by omega) hy i
  omega

set_option maxRecDepth 100000 in
set_option maxHeartbeats 1600000 in
theorem refAdd_lt {u v : Value} {x y : List Nat} {w : World} (hn : x.length < y.length) (hx : x.length ≤ 100000) (hy : y.length ≤ 100000) (hxd : ∀ d ∈ x, d < 1000000) (hyd : ∀ d ∈ y, d < 1000000) (hu : LI w u x) (hv : LI w v y) :
    Calls Tryz.prog 79 #[u, v] w (NewI w (digs 1000000 (val 1000000 x + val 1000000 y))) := by
  obtain ⟨A, ca, rfl, hca, hA⟩ := hu
  obtain ⟨B, cb, rfl, hcb, hB⟩ := hv
  obtain ⟨i0, hi, hz0, hz1, hz2⟩ := info_parts infoInt
  have hsum := Lib.hid (val_sum 1000000 y.length x y (by omega) (by omega))
  have hall := Lib.hid (sumList_all hxd hyd y.length)
  have hg0 := Lib.hid (fun i => getD_lt0 (x := x) (by omega) hxd i)
  have hg1 := Lib.hid (fun i => getD_lt0 (x := y) (by omega) hyd i)
  clear hxd hyd
  go_enter Tryz.func79, Tryz.ntmps79
  go_wp2_with (refine wpList_make_row rfl (.tmp 12) (.tmp 12) _ rfl 3 i0 _ Tryz.underlying31 hi hz0 hz1 rfl _ _ _ _ y.length rfl rfl (by rfl) (by rfl) (by rw [hz2]; omega) (by simp [maxLen]; omega) w w.heap.size (Below.refl _ _) (Nat.le_refl _) ?_; intro w1 hrow hb1 hs1)
  go_loopw [6] (fun i wr => ∃ ni : Nat, i = .int .i64 ni ∧ ni ≤ x.length ∧ Row wr w.heap.size 3 y.length (addF x y ni 0) ∧ Below w.heap.size w wr) (fun i _ => x.length - (intOf i).toNat)
  case atStart => exact ⟨0, rfl, by omega, hrow.out.same (fun j _ => by simp [addF]), hb1.out⟩
  case round =>
    obtain ⟨i, rfl, hix, hr, hbw⟩ := hrel
    by_cases hlt : i < x.length
    · obtain ⟨a, rfl, hab, hcell⟩ := hA i hlt
      have hc0 : wr.cell? ⟨w.heap.size, i, none⟩ = some (.int .i64 0) := by rw [hr.cell i (by omega)]; simp [addF]
      have hf0 := hr.frozen i
      obtain ⟨d, hd⟩ : ∃ d : Nat, d = x.getD i 0 := ⟨_, rfl⟩
      have hd1 : d < 1000000 := by rw [hd]; exact hg0.out i
      have hcell' : wr.cell? (a.add i) = some (.int .i64 d) := by rw [hbw.cell (by rw [add_block]; exact hab), hcell, hd]; rfl
      have hst := Lib.hid (fun k => addF_step1 x y i k)
      rw [← hd] at hst
      clear hcell hd
      go_wp2
      go_region
      go_wp2
      go_roundw
      case rel =>
        exact ⟨i + 1, by go_num, by omega, (hr.set_ i _ (fun j _ => hst.out j)).drew, (hbw.setCell (Nat.le_refl _) _).drew⟩
      case measure => simp [intOf]; omega
    · obtain rfl : i = x.length := by omega
      go_wp2
      go_loopw [7] (fun i wr => ∃ nj : Nat, i = .int .i64 nj ∧ nj ≤ y.length ∧ Row wr w.heap.size 3 y.length (addF x y x.length nj) ∧ Below w.heap.size w wr) (fun i _ => y.length - (intOf i).toNat)
      case atStart => exact ⟨0, rfl, by omega, hr, hbw⟩
      case round =>
        obtain ⟨j, rfl, hjy, hr, hbw⟩ := hrel
        by_cases hlt2 : j < y.length
        · obtain ⟨b, rfl, hbb, hcell⟩ := hB j hlt2
          obtain ⟨p, hp⟩ : ∃ p : Nat, p = (if j < x.length then x.getD j 0 else 0) := ⟨_, rfl⟩
          have hp1 : p < 1000000 := by
            rw [hp]
            split
            · exact hg0.out j
            · omega
          have hc0 : wr.cell? ⟨w.heap.size, j, none⟩ = some (.int .i64 p) := by rw [hr.cell j (by omega), hp]; simp [addF]
          have hf0 := hr.frozen j
          obtain ⟨d, hd⟩ : ∃ d : Nat, d = y.getD j 0 := ⟨_, rfl⟩
          have hd1 : d < 1000000 := by rw [hd]; exact hg1.out j
          have hcell' : wr.cell? (b.add j) = some (.int .i64 d) := by rw [hbw.cell (by rw [add_block]; exact hbb), hcell, hd]; rfl
          have hst := Lib.hid (fun k => addF_step2 x y x.length j k)
          rw [← hd, ← hp] at hst
          clear hcell hd hp
          go_wp2
          go_region
          go_wp2
          go_roundw
          case rel => exact ⟨j + 1, by go_num, by omega, (hr.set_ j _ (fun k _ => by rw [hst.out k, Int.natCast_add])).drew, (hbw.setCell (Nat.le_refl _) _).drew⟩
          case measure => simp [intOf]; omega
        · obtain rfl : j = y.length := by omega
          have hL := LI.of_cells (sumList_len x y y.length) (Nat.le_refl _) hr.cells (fun i hi => addF_end x y y.length i hi (by omega) (by omega))
          go_wp2_with (go_at_call 105; refine (carried_any (by rw [sumList_len]; omega) hall.out hL).mono ?_; rintro e w2 ⟨v2, rfl, hv2, hb2⟩)
          go_ret
          exact ⟨v2, rfl, by rw [← hsum.out]; exact hv2, hbw.trans (hb2.mono hbw.size)⟩

set_option maxRecDepth 100000 in
set_option maxHeartbeats 1600000 in
theorem refAdd_ge {u v : Value} {x y : List Nat} {w : World} (hn : ¬ x.length < y.length) (hx : x.length ≤ 100000) (hy : y.length ≤ 100000) (hxd : ∀ d ∈ x, d < 1000000) (hyd : ∀ d ∈ y, d < 1000000) (hu : LI w u x) (hv : LI w v y) :
    Calls Tryz.prog 79 #[u, v] w (NewI w (digs 1000000 (val 1000000 x + val 1000000 y))) := by
  obtain ⟨A, ca, rfl, hca, hA⟩ := hu
  obtain ⟨B, cb, rfl, hcb, hB⟩ := hv
  obtain ⟨i0, hi, hz0, hz1, hz2⟩ := info_parts infoInt
  have hsum := Lib.hid (val_sum 1000000 x.length x y (by omega) (by omega))
  have hall := Lib.hid (sumList_all hxd hyd x.length)
  have hg0 := Lib.hid (fun i => getD_lt0 (x := x) (by omega) hxd i)
  have hg1 := Lib.hid (fun i => getD_lt0 (x := y) (by omega) hyd i)
  clear hxd hyd
  go_enter Tryz.func79, Tryz.ntmps79
  go_wp2_with (refine wpList_make_row rfl (.tmp 12) (.tmp 12) _ rfl 3 i0 _ Tryz.underlying31 hi hz0 hz1 rfl _ _ _ _ x.length rfl rfl (by rfl) (by rfl) (by rw [hz2]; omega) (by simp [maxLen]; omega) w w.heap.size (Below.refl _ _) (Nat.le_refl _) ?_; intro w1 hrow hb1 hs1)
  go_loopw [6] (fun i wr => ∃ ni : Nat, i = .int .i64 ni ∧ ni ≤ x.length ∧ Row wr w.heap.size 3 x.length (addF x y ni 0) ∧ Below w.heap.size w wr) (fun i _ => x.length - (intOf i).toNat)
  case atStart => exact ⟨0, rfl, by omega, hrow.out.same (fun j _ => by simp [addF]), hb1.out⟩
  case round =>
    obtain ⟨i, rfl, hix, hr, hbw⟩ := hrel
    by_cases hlt : i < x.length
    · obtain ⟨a, rfl, hab, hcell⟩ := hA i hlt
      have hc0 : wr.cell? ⟨w.heap.size, i, none⟩ = some (.int .i64 0) := by rw [hr.cell i (by omega)]; simp [addF]
      have hf0 := hr.frozen i
      obtain ⟨d, hd⟩ : ∃ d : Nat, d = x.getD i 0 := ⟨_, rfl⟩
      have hd1 : d < 1000000 := by rw [hd]; exact hg0.out i
      have hcell' : wr.cell? (a.add i) = some (.int .i64 d) := by rw [hbw.cell (by rw [add_block]; exact hab), hcell, hd]; rfl
      have hst := Lib.hid (fun k => addF_step1 x y i k)
      rw [← hd] at hst
      clear hcell hd
      go_wp2
      go_region
      go_wp2
      go_roundw
      case rel =>
        exact ⟨i + 1, by go_num, by omega, (hr.set_ i _ (fun j _ => hst.out j)).drew, (hbw.setCell (Nat.le_refl _) _).drew⟩
      case measure => simp [intOf]; omega
    · obtain rfl : i = x.length := by omega
      go_wp2
      go_loopw [7] (fun i wr => ∃ nj : Nat, i = .int .i64 nj ∧ nj ≤ y.length ∧ Row wr w.heap.size 3 x.length (addF x y x.length nj) ∧ Below w.heap.size w wr) (fun i _ => y.length - (intOf i).toNat)
      case atStart => exact ⟨0, rfl, by omega, hr, hbw⟩
      case round =>
        obtain ⟨j, rfl, hjy, hr, hbw⟩ := hrel
        by_cases hlt2 : j < y.length
        · obtain ⟨b, rfl, hbb, hcell⟩ := hB j hlt2
          obtain ⟨p, hp⟩ : ∃ p : Nat, p = (if j < x.length then x.getD j 0 else 0) := ⟨_, rfl⟩
          have hp1 : p < 1000000 := by
            rw [hp]
            split
            · exact hg0.out j
            · omega
          have hc0 : wr.cell? ⟨w.heap.size, j, none⟩ = some (.int .i64 p) := by rw [hr.cell j (by omega), hp]; simp [addF]
          have hf0 := hr.frozen j
          obtain ⟨d, hd⟩ : ∃ d : Nat, d = y.getD j 0 := ⟨_, rfl⟩
          have hd1 : d < 1000000 := by rw [hd]; exact hg1.out j
          have hcell' : wr.cell? (b.add j) = some (.int .i64 d) := by rw [hbw.cell (by rw [add_block]; exact hbb), hcell, hd]; rfl
          have hst := Lib.hid (fun k => addF_step2 x y x.length j k)
          rw [← hd, ← hp] at hst
          clear hcell hd hp
          go_wp2
          go_region
          go_wp2
          go_roundw
          case rel => exact ⟨j + 1, by go_num, by omega, (hr.set_ j _ (fun k _ => by rw [hst.out k, Int.natCast_add])).drew, (hbw.setCell (Nat.le_refl _) _).drew⟩
          case measure => simp [intOf]; omega
        · obtain rfl : j = y.length := by omega
          have hL := LI.of_cells (sumList_len x y x.length) (Nat.le_refl _) hr.cells (fun i hi => addF_end x y x.length i hi (by omega) (by omega))
          go_wp2_with (go_at_call 105; refine (carried_any (by rw [sumList_len]; omega) hall.out hL).mono ?_; rintro e w2 ⟨v2, rfl, hv2, hb2⟩)
          go_ret
          exact ⟨v2, rfl, by rw [← hsum.out]; exact hv2, hbw.trans (hb2.mono hbw.size)⟩

theorem refAdd_any {u v : Value} {x y : List Nat} {w : World} (hx : x.length ≤ 100000) (hy : y.length ≤ 100000) (hxd : ∀ d ∈ x, d < 1000000) (hyd : ∀ d ∈ y, d < 1000000) (hu : LI w u x) (hv : LI w v y) :
    Calls Tryz.prog 79 #[u, v] w (NewI w (digs 1000000 (val 1000000 x + val 1000000 y))) := by
  by_cases hn : x.length < y.length
  · exact refAdd_lt hn hx hy hxd hyd hu hv
  · exact refAdd_ge hn hx hy hxd hyd hu hv
end Go.Proofs.YthfjbpbgnoonpaaGreatDoor

namespace Go.Proofs.YthfjbpbgnoonpaaGreatDoor
open Go.RowKit

def chr (d : Nat) : UInt8 := UInt8.ofNat (48 + d)
/-- The text of decimal digits, the lowest one first. -/
def txt (ds : List Nat) : List UInt8 := (ds.map chr).reverse
theorem txt_snoc (ds : List Nat) (d : Nat) : txt (ds ++ [d]) = chr d :: txt ds := by simp [txt]
def dec (k : Nat) : List UInt8 := if k = 0 then [48] else txt (digs 10 k)
def str (l : List UInt8) : Value := .string ⟨l.toArray⟩

/-- At the head of the inner loop: group i is being written, r of its digits are; the rest of the group is g. -/
def TextRel (gs : List Nat) (i r g : Nat) (es : List Nat) : Prop :=
  es.length = 6 * i + r ∧ (∀ d ∈ es, d < 10) ∧ val 10 es + 10 ^ (6 * i + r) * g = val 1000000 (gs.take (i + 1)) ∧ g < 10 ^ (6 - r) ∧ (i + 1 = gs.length → 0 < g ∨ ∃ h : es ≠ [], es.getLast h ≠ 0)
/-- At the head of the outer loop. -/
def TextOut (gs : List Nat) (i : Nat) (es : List Nat) : Prop :=
  (∀ d ∈ es, d < 10) ∧ val 10 es = val 1000000 (gs.take i) ∧ (i < gs.length → es.length = 6 * i) ∧ (i = gs.length → ∀ h : es ≠ [], es.getLast h ≠ 0)

theorem run_string_byte (w : World) (n : Int) (h : 0 ≤ n ∧ n < 256) : (convert 96 9 (.slice (some ⟨w.heap.size, 0, none⟩) 1 1)).run Tryz.prog (w.alloc (.cells #[.int .u8 n] 5)) =
    .ok (.string ⟨#[UInt8.ofNat n.toNat]⟩) (w.alloc (.cells #[.int .u8 n] 5)) := by
  refine run_convert_bytes_back (P := Tryz.prog) _ 96 9 5 ⟨w.heap.size, 0, none⟩ 1 [UInt8.ofNat n.toNat] Tryz.underlying96 Tryz.underlying5 Tryz.underlying9 ?_
  intro j hj
  simp at hj
  subst hj
  rw [show (Addr.add ⟨w.heap.size, 0, none⟩ 0 : Addr) = ⟨w.heap.size, 0, none⟩ from rfl, World.cell?_alloc_at _ _ _ _ rfl]
  simp
  omega

theorem run_chr (w : World) (d : Nat) (h : d < 10) : (convert 96 9 (.slice (some ⟨w.heap.size, 0, none⟩) 1 1)).run Tryz.prog (w.alloc (.cells #[.int .u8 (48 + (d : Int))] 5)) =
    .ok (str [chr d]) (w.alloc (.cells #[.int .u8 (48 + (d : Int))] 5)) := by
  rw [run_string_byte w _ ⟨by omega, by omega⟩]
  unfold str chr
  rw [show (48 + (d : Int)).toNat = 48 + d by omega]
theorem run_cat (w : World) (a b : List UInt8) (h : a.length + b.length ≤ 1000000) : (binOp .add 9 (str a) (str b)).run Tryz.prog w = .ok (str (a ++ b)) w := by
  unfold str
  have h2 := run_string_add_sum (P := Tryz.prog) w ⟨a.toArray⟩ ⟨b.toArray⟩ (by simp [ByteArray.size]; omega)
  have h3 : ((⟨a.toArray⟩ : ByteArray) ++ ⟨b.toArray⟩) = ⟨(a ++ b).toArray⟩ := by
    apply ByteArray.ext
    simp [ByteArray.data_append]
  rw [h3] at h2
  simp [binOp, h2]

theorem digits_go (b v i k t : Nat) (h : v + b ^ i * k = t) : v + b ^ i * (k % b) + b ^ (i + 1) * (k / b) = t := by
  rw [← h, Nat.pow_succ, Nat.mul_assoc, Nat.add_assoc, ← Nat.mul_add, Nat.mod_add_div]
theorem text_step {gs : List Nat} {i r g : Nat} {es : List Nat} (h : TextRel gs i r g es) (hr : r < 6) (hc : i + 1 < gs.length ∨ 0 < g) : TextRel gs i (r + 1) (g / 10) (es ++ [g % 10]) := by
  obtain ⟨h1, h2, h3, h4, h5⟩ := h
  refine ⟨by simp [h1]; omega, all_snoc h2 (Nat.mod_lt _ (by omega)), ?_, ?_, ?_⟩
  · rw [val_snoc, h1]
    exact digits_go 10 _ _ _ _ h3
  · rw [Nat.div_lt_iff_lt_mul (by omega), ← Nat.pow_succ, show (6 - (r + 1)).succ = 6 - r by omega]; exact h4
  · intro hi
    by_cases h0 : 0 < g / 10
    · exact .inl h0
    · refine .inr ⟨by simp, ?_⟩
      have hg : 0 < g := by omega
      simp
      omega
theorem text_start {gs : List Nat} {i : Nat} {es : List Nat} (h : TextOut gs i es) (hi : i < gs.length) (hg : ∀ d ∈ gs, d < 1000000) (hl : ∀ h : gs ≠ [], gs.getLast h ≠ 0) : TextRel gs i 0 (gs.getD i 0) es := by
  obtain ⟨h1, h2, h3, h4⟩ := h
  refine ⟨by rw [h3 hi]; rfl, h1, ?_, getD_lt hg i hi, ?_⟩
  · rw [take_snoc gs i hi, val_snoc, h2, List.length_take, Nat.min_eq_left (by omega), Nat.add_zero, Nat.pow_mul]
  · intro hi2
    left
    have hne : gs ≠ [] := by intro e; subst e; simp at hi
    have := hl hne
    rw [List.getLast_eq_getElem] at this
    rw [List.getD, List.getElem?_eq_getElem hi]
    have e : gs.length - 1 = i := by omega
    simp only [e] at this
    simp
    omega
theorem text_next {gs : List Nat} {i r g : Nat} {es : List Nat} (h : TextRel gs i r g es) (_hi : i < gs.length) (hc : r = 6 ∨ (¬ i + 1 < gs.length ∧ g = 0)) (hr : r ≤ 6) : TextOut gs (i + 1) es := by
  obtain ⟨h1, h2, h3, h4, h5⟩ := h
  have hg : g = 0 := by
    rcases hc with rfl | hc
    · simp at h4; exact h4
    · exact hc.2
  subst hg
  refine ⟨h2, by simpa using h3, ?_, ?_⟩
  · intro hlt
    rcases hc with rfl | hc
    · rw [h1]; omega
    · omega
  · intro he hne
    rcases h5 he with h | ⟨_, h⟩
    · omega
    · exact h
theorem text_end {gs : List Nat} {es : List Nat} (h : TextOut gs gs.length es) : es = digs 10 (val 1000000 gs) := by
  obtain ⟨h1, h2, _, h4⟩ := h
  rw [List.take_length] at h2
  rw [← h2, digs_val (by omega) ⟨h1, h4 rfl⟩]
theorem txt_len (es : List Nat) : (txt es).length = es.length := by simp [txt]

set_option maxRecDepth 100000 in
set_option maxHeartbeats 1600000 in
theorem refText_pos {v : Value} {gs : List Nat} {w : World} (hlen : gs.length ≤ 1000) (hpos : 0 < gs.length) (hcan : Canon 1000000 gs) (hv : LI w v gs) :
    Calls Tryz.prog 20 #[v] w fun e w' => e = .returned (str (txt (digs 10 (val 1000000 gs)))) ∧ Below w.heap.size w w' := by
  obtain ⟨A, c, rfl, hc, hA⟩ := hv
  have hz0 : (((gs.length : Nat) : Int) == 0) = false := beq_eq_false_iff_ne.2 (by omega)
  have HC := Lib.hid hcan
  clear hcan
  go_enter Tryz.func20, Tryz.ntmps20
  go_wp2
  go_loopw [3, 4] (fun s i wr => ∃ (ni : Nat) (es : List Nat), i = .int .i64 ni ∧ ni ≤ gs.length ∧ s = str (txt es) ∧ es.length ≤ 6 * ni ∧ TextOut gs ni es ∧ Below w.heap.size w wr) (fun _ i _ => gs.length - (intOf i).toNat)
  case atStart => exact ⟨0, [], rfl, by omega, rfl, by simp, ⟨by simp, by simp [val], by simp, by simp⟩, Below.refl _ _⟩
  case round =>
    obtain ⟨i, es, rfl, hi, rfl, hel, hT, hbw⟩ := hrel
    by_cases hlt : i < gs.length
    · obtain ⟨a, rfl, hab, hcell⟩ := hA i hlt
      have hTS := Lib.hid (text_start hT hlt HC.out.1 HC.out.2)
      clear hT
      obtain ⟨g, hg'⟩ : ∃ g : Nat, g = gs.getD i 0 := ⟨_, rfl⟩
      have hg1 : g < 1000000 := by rw [hg']; exact getD_lt HC.out.1 i hlt
      have hcell' : wr.cell? (a.add i) = some (.int .i64 g) := by rw [hbw.cell (by rw [add_block]; exact hab), hcell, hg']; rfl
      rw [← hg'] at hTS
      clear hcell hg'
      go_wp2
      go_loopw [3, 5, 6] (fun s g k wr => ∃ (ng nk : Nat) (es : List Nat), g = .int .i64 ng ∧ ng < 1000000 ∧ k = .int .i64 nk ∧ nk ≤ 6 ∧ s = str (txt es) ∧ es.length ≤ 6 * i + nk ∧ TextRel gs i nk ng es ∧ Below w.heap.size w wr) (fun _ _ k _ => 6 - (intOf k).toNat)
      case atStart => exact ⟨g, 0, es, rfl, hg1, rfl, by omega, rfl, by omega, hTS.out, hbw⟩
      case round =>
        obtain ⟨g, k, es, rfl, hg1, rfl, hk6, rfl, hel, hT, hbw⟩ := hrel
        by_cases hk : k < 6 ∧ (i + 1 < gs.length ∨ 0 < g)
        · have hcv := fun W : World => run_chr W (g % 10) (by omega)
          have hcat := fun W : World => run_cat W [chr (g % 10)] (txt es) (by rw [txt_len]; simp; omega)
          rw [show [chr (g % 10)] ++ txt es = txt (es ++ [g % 10]) from (txt_snoc _ _).symm] at hcat
          rw [show ((g % 10 : Nat) : Int) = (g : Int) % 10 from by omega] at hcv
          have hst := Lib.hid (text_step hT hk.1 hk.2)
          clear hT
          obtain ⟨hk1, hk2⟩ := hk
          by_cases hk3 : i + 1 < gs.length
          all_goals
            go_wp2
            go_roundw
            case rel => exact ⟨g / 10, k + 1, es ++ [g % 10], by go_num, by omega, by go_num, by omega, rfl, by simp; omega, hst.out, hbw.alloc hbw.size _⟩
            case measure => simp [intOf]; omega
        · have hc : k = 6 ∨ (¬ i + 1 < gs.length ∧ g = 0) := by omega
          have hn := Lib.hid (text_next hT hlt hc hk6)
          clear hT
          by_cases hk1 : k < 6
          · have h2 : ¬ i + 1 < gs.length := by omega
            have h3 : g = 0 := by omega
            subst h3
            go_wp2
            go_roundw
            case rel => exact ⟨i + 1, es, by go_num, by omega, rfl, by omega, hn.out, hbw⟩
            case measure => simp [intOf]; omega
          · go_wp2
            go_roundw
            case rel => exact ⟨i + 1, es, by go_num, by omega, rfl, by omega, hn.out, hbw⟩
            case measure => simp [intOf]; omega
    · obtain rfl : i = gs.length := by omega
      have he := Lib.hid (text_end hT)
      go_wp2
      go_ret
      exact ⟨congrArg (fun l => Ending.returned (str (txt l))) he.out, hbw⟩

theorem refText_any {v : Value} {k : Nat} {w : World} (hlen : (digs 1000000 k).length ≤ 1000) (hv : LI w v (digs 1000000 k)) :
    Calls Tryz.prog 20 #[v] w fun e w' => e = .returned (str (dec k)) ∧ Below w.heap.size w w' := by
  by_cases hk : k = 0
  · subst hk
    obtain ⟨A, c, rfl, hc, hA⟩ := hv
    go_enter Tryz.func20, Tryz.ntmps20
    go_wp2
    go_ret
    exact ⟨rfl, Below.refl _ _⟩
  · have hp : 0 < (digs 1000000 k).length := by
      rw [digs_pos 1000000 k (by omega) (by omega)]; simp
    refine (refText_pos hlen hp (digs_canon (by omega) k).1 hv).mono ?_
    rintro e w' ⟨rfl, hb⟩
    refine ⟨?_, hb⟩
    rw [val_digs (by omega)]
    unfold dec
    rw [if_neg hk]
end Go.Proofs.YthfjbpbgnoonpaaGreatDoor

namespace Go.Proofs.YthfjbpbgnoonpaaGreatDoor
open Go.RowKit

theorem mul_bd (x y : Int) (hx : 0 ≤ x ∧ x < 4294967296) (hy : 0 ≤ y ∧ y < 4294967296) : 0 ≤ x * y ∧ x * y ≤ 18446744065119617025 := by
  obtain ⟨h1, h2⟩ := hx
  obtain ⟨h3, h4⟩ := hy
  refine ⟨Int.mul_nonneg h1 h3, ?_⟩
  calc x * y ≤ 4294967295 * y := Int.mul_le_mul_of_nonneg_right (by omega) h3
    _ ≤ 4294967295 * 4294967295 := Int.mul_le_mul_of_nonneg_left (by omega) (by omega)

theorem ret2_int {k l : IntKind} {a b c d : Int} (h : a = b) (h' : c = d) : Ending.returned (.tuple #[.int k a, .int l c]) = .returned (.tuple #[.int k b, .int l d]) := by rw [h, h']
theorem ret_int {k : IntKind} {a b : Int} (h : a = b) : Ending.returned (.int k a) = .returned (.int k b) := by rw [h]

set_option maxHeartbeats 400000 in
theorem mul32_any (x y : Int) (w : World) (hx : 0 ≤ x ∧ x < 4294967296) (hy : 0 ≤ y ∧ y < 4294967296) :
    Calls Tryz.prog 114 #[.int .u32 x, .int .u32 y] w fun e w' => e = .returned (.tuple #[.int .u32 (x * y / 4294967296), .int .u32 (x * y % 4294967296)]) ∧ w = w' := by
  obtain ⟨h1, h2⟩ := mul_bd x y hx hy
  go_enter Tryz.func114, Tryz.ntmps114
  go_wp2
  go_ret2
  exact ⟨ret2_int (by omega) rfl, rfl⟩
set_option maxHeartbeats 400000 in
theorem add32_any (x y c : Int) (w : World) (hx : 0 ≤ x ∧ x < 4294967296) (hy : 0 ≤ y ∧ y < 4294967296) (hc : 0 ≤ c ∧ c < 4294967296) :
    Calls Tryz.prog 120 #[.int .u32 x, .int .u32 y, .int .u32 c] w fun e w' => e = .returned (.tuple #[.int .u32 ((x + y + c) % 4294967296), .int .u32 ((x + y + c) / 4294967296)]) ∧ w = w' := by
  go_enter Tryz.func120, Tryz.ntmps120
  go_wp2
  go_ret2
  exact ⟨rfl, rfl⟩
def bor (x y c : Int) : Int := if x < y + c then 1 else 0
theorem bor_01 (x y c : Int) : 0 ≤ bor x y c ∧ bor x y c ≤ 1 := by unfold bor; split <;> omega

theorem nat_sub_bits (x y c d : Nat) (hx : x < 4294967296) (hy : y < 4294967296) (hc : c ≤ 1) (hd : (d : Int) = ((x : Int) - y - c) % 4294967296) :
    ((((4294967295 ^^^ x) &&& y) ||| ((4294967295 ^^^ (x ^^^ y)) &&& d)) / 2147483648 : Nat) = if (x : Int) < y + c then 1 else 0 := by
  rw [show (2147483648 : Nat) = 2 ^ 31 from rfl]
  simp only [Nat.or_div_two_pow, Nat.and_div_two_pow, Nat.xor_div_two_pow]
  have h1 : x / 2 ^ 31 = 0 ∨ x / 2 ^ 31 = 1 := by omega
  have h2 : y / 2 ^ 31 = 0 ∨ y / 2 ^ 31 = 1 := by omega
  have h3 : d / 2 ^ 31 = 0 ∨ d / 2 ^ 31 = 1 := by omega
  rcases h1 with h1 | h1 <;> rcases h2 with h2 | h2 <;> rcases h3 with h3 | h3 <;> rw [h1, h2, h3] <;> simp <;> omega

theorem sub_bits (x y c : Int) (hx : 0 ≤ x ∧ x < 4294967296) (hy : 0 ≤ y ∧ y < 4294967296) (hc : 0 ≤ c ∧ c ≤ 1) :
    (bits BinOp.or IntKind.u32 (bits BinOp.and IntKind.u32 (bits BinOp.xor IntKind.u32 IntKind.u32.max x) y) (bits BinOp.and IntKind.u32 (bits BinOp.xor IntKind.u32 IntKind.u32.max (bits BinOp.xor IntKind.u32 x y)) ((x - y - c) % 4294967296)) / 2147483648) = bor x y c := by
  obtain ⟨x, rfl⟩ := Int.eq_ofNat_of_zero_le hx.1
  obtain ⟨y, rfl⟩ := Int.eq_ofNat_of_zero_le hy.1
  obtain ⟨c, rfl⟩ := Int.eq_ofNat_of_zero_le hc.1
  obtain ⟨d, hd⟩ := Int.eq_ofNat_of_zero_le (show 0 ≤ ((x : Int) - y - c) % 4294967296 by omega)
  have hd' : d < 4294967296 := by omega
  have hx' : x < 4294967296 := by omega
  have hy' : y < 4294967296 := by omega
  have hxy : x ^^^ y < 4294967296 := Nat.xor_lt_two_pow (n := 32) hx' hy'
  have h4 : 4294967295 ^^^ (x ^^^ y) < 4294967296 := Nat.xor_lt_two_pow (n := 32) (by decide) hxy
  have h5 : 4294967295 ^^^ x < 4294967296 := Nat.xor_lt_two_pow (n := 32) (by decide) hx'
  rw [hd, show IntKind.u32.max = ((4294967295 : Nat) : Int) from rfl, u32_xor_nat _ _ (by decide) hx', u32_xor_nat _ _ hx' hy', u32_xor_nat _ _ (by decide) hxy, u32_and_nat _ _ h5 hy', u32_and_nat _ _ h4 hd',
    u32_or_nat _ _ (Nat.and_lt_two_pow (n := 32) _ hy') (Nat.and_lt_two_pow (n := 32) _ hd')]
  have := nat_sub_bits x y c d hx' hy' (by omega) hd.symm
  unfold bor
  split at this <;> omega

set_option maxHeartbeats 400000 in
theorem sub32_any (x y c : Int) (w : World) (hx : 0 ≤ x ∧ x < 4294967296) (hy : 0 ≤ y ∧ y < 4294967296) (hc : 0 ≤ c ∧ c ≤ 1) :
    Calls Tryz.prog 138 #[.int .u32 x, .int .u32 y, .int .u32 c] w fun e w' => e = .returned (.tuple #[.int .u32 ((x - y - c) % 4294967296), .int .u32 (bor x y c)]) ∧ w = w' := by
  go_enter Tryz.func138, Tryz.ntmps138
  go_wp2
  go_ret2
  exact ⟨ret2_int rfl (sub_bits x y c hx hy hc), rfl⟩

theorem or_join (x y : Int) (hx : 0 ≤ x ∧ x < 4294967296) (hy : 0 ≤ y ∧ y < 4294967296) : bits BinOp.or IntKind.u64 (x * 4294967296) y = x * 4294967296 + y := by
  rw [u64_or _ _ (by omega) (by omega) hy.1 (by omega), nat_join 32 _ _ (by omega) (by omega)]
  omega
set_option maxHeartbeats 400000 in
theorem div32_any (x y c : Int) (w : World) (hx : 0 ≤ x ∧ x < c) (hy : 0 ≤ y ∧ y < 4294967296) (hc : c < 4294967296) :
    Calls Tryz.prog 92 #[.int .u32 x, .int .u32 y, .int .u32 c] w fun e w' => e = .returned (.tuple #[.int .u32 ((x * 4294967296 + y) / c), .int .u32 ((x * 4294967296 + y) % c)]) ∧ ∃ n, w' = w.drewN n := by
  have hc0 : (c != 0) = true := by simp; omega
  have hq : 0 ≤ (x * 4294967296 + y) / c ∧ (x * 4294967296 + y) / c < 4294967296 := ⟨Int.ediv_nonneg (by omega) (by omega), Int.ediv_lt_of_lt_mul (by omega) (by rw [Int.mul_comm]; omega)⟩
  have hr : 0 ≤ (x * 4294967296 + y) % c ∧ (x * 4294967296 + y) % c < 4294967296 := ⟨Int.emod_nonneg _ (by omega), by have := Int.emod_lt_of_pos (x * 4294967296 + y) (show 0 < c by omega); omega⟩
  have hor := or_join x y ⟨hx.1, by omega⟩ hy
  go_enter Tryz.func92, Tryz.ntmps92
  go_wp2
  go_quiet (fail)
  go_wp2
  go_ret2
  exact ⟨rfl, nq, rfl⟩
end Go.Proofs.YthfjbpbgnoonpaaGreatDoor

namespace Go.Proofs.YthfjbpbgnoonpaaGreatDoor
open Go.RowKit

def BB : Nat := 4294967296
/-- A nat.Nat that stands for a number. -/
def IsNat (w : World) (v : Value) (k : Nat) : Prop := ∃ s, v = .agg #[s] ∧ LU w s (digs 4294967296 k)
theorem IsNat.below {w w' : World} {v : Value} {k : Nat} (h : IsNat w v k) (hb : Below w.heap.size w w') : IsNat w' v k := by
  obtain ⟨s, h1, h2⟩ := h
  exact ⟨s, h1, h2.below hb⟩
def NewN (w : World) (k : Nat) (e : Ending) (w' : World) : Prop := ∃ v, e = .returned v ∧ IsNat w' v k ∧ Below w.heap.size w w'

theorem strip_le (ds : List Nat) : (strip ds).length ≤ ds.length := by
  induction hn : ds.length generalizing ds with
  | zero => obtain rfl := List.eq_nil_of_length_eq_zero hn; simp [strip]
  | succ n ih =>
    obtain ⟨xs, x, rfl⟩ : ∃ xs x, ds = xs ++ [x] := ⟨ds.dropLast, ds.getLast (by intro e; simp [e] at hn), (List.dropLast_concat_getLast _).symm⟩
    by_cases hx : x = 0
    · subst hx
      rw [strip_zero]
      have := ih xs (by simpa using hn)
      omega
    · rw [strip_pos xs x hx]; omega
theorem strip_take (ds : List Nat) : strip ds = ds.take (strip ds).length := by
  induction hn : ds.length generalizing ds with
  | zero => obtain rfl := List.eq_nil_of_length_eq_zero hn; rfl
  | succ n ih =>
    obtain ⟨xs, x, rfl⟩ : ∃ xs x, ds = xs ++ [x] := ⟨ds.dropLast, ds.getLast (by intro e; simp [e] at hn), (List.dropLast_concat_getLast _).symm⟩
    by_cases hx : x = 0
    · subst hx
      rw [strip_zero, List.take_append_of_le_length (strip_le xs)]
      exact ih xs (by simpa using hn)
    · rw [strip_pos xs x hx, List.take_length]

set_option maxRecDepth 100000 in
set_option maxHeartbeats 1600000 in
theorem fromDigits_any {A : Option Addr} {c : Nat} {ds : List Nat} {w : World} (hlen : ds.length ≤ 1000000) (hc : ds.length ≤ c) (hA : Cells w w.heap.size A ds.length (u32f ds)) :
    Calls Tryz.prog 61 #[.slice A ds.length c] w fun e w' => e = .returned (.agg #[.slice A (strip ds).length (strip ds).length]) ∧ Below w.heap.size w w' := by
  go_enter Tryz.func61, Tryz.ntmps61
  go_wp2
  go_loop [3] (fun v => ∃ k : Nat, k ≤ ds.length ∧ v = .int .i64 k ∧ strip ds = strip (ds.take k)) (fun v => (intOf v).toNat)
  case atStart => exact ⟨_, Nat.le_refl _, rfl, by rw [List.take_length]⟩
  case round =>
    obtain ⟨k, hk, rfl, hs⟩ := hrel
    have HS := Lib.hid hs
    clear hs
    by_cases h0 : 0 < k
    · obtain ⟨a, rfl, hab, hcell⟩ := hA (k - 1) (by omega)
      obtain ⟨x, hx⟩ : ∃ x : Nat, x = ds.getD (k - 1) 0 := ⟨_, rfl⟩
      have hcell' : (w.alloc (.cells #[.slice none 0 0] 28)).cell? (a.add (k - 1)) = some (.int .u32 x) := by
        rw [World.cell?_alloc_lt _ _ _ (by rw [add_block]; exact hab), hcell, hx]; rfl
      by_cases hx0 : x = 0
      · have hst := Lib.hid (strip_take_zero ds k hk h0 (by rw [← hx]; exact hx0))
        subst hx0
        clear hcell hx
        go_wp2
        exact ⟨⟨k - 1, by omega, by go_num, by rw [HS.out, hst.out]⟩, by simp [intOf]; omega⟩
      · have hb : ((x : Int) == 0) = false := beq_eq_false_iff_ne.2 (by omega)
        have hst := Lib.hid (strip_take_pos ds k hk h0 (by rw [← hx]; exact hx0))
        have hkk : Hid (k = (strip ds).length) := by
          have := HS.out.trans hst.out
          unfold Hid
          rw [this]; simp; omega
        clear hcell hx
        go_wp2
        refine bodyPost_ret (v := .agg #[.slice (some a) k k]) (by simp [results, Tryz.results61, go_sem]) rfl ⟨by rw [← hkk.out], ?_⟩
        exact ((Below.refl _ _).alloc (Nat.le_refl _) _)
    · obtain rfl : k = 0 := by omega
      have hkk : Hid (0 = (strip ds).length) := by
        unfold Hid
        rw [HS.out]; rfl
      go_wp2
      refine bodyPost_ret (v := .agg #[.slice A 0 0]) (by simp [results, Tryz.results61, go_sem]) rfl ⟨by rw [← hkk.out], ?_⟩
      exact ((Below.refl _ _).alloc (Nat.le_refl _) _)

/-- fromDigits of a slice that lies below: a number. -/
theorem fromDigits_new {v : Value} {ds : List Nat} {w : World} (hlen : ds.length ≤ 1000000) (hd : ∀ d ∈ ds, d < 4294967296) (hv : LU w v ds) :
    Calls Tryz.prog 61 #[v] w (NewN w (val 4294967296 ds)) := by
  obtain ⟨A, c, rfl, hc, hA⟩ := hv
  refine (fromDigits_any hlen hc hA.cells).mono ?_
  rintro e w' ⟨rfl, hb⟩
  refine ⟨_, rfl, ⟨_, rfl, ?_⟩, hb⟩
  rw [← strip_digs (b := 4294967296) (by omega) ds hd]
  refine ⟨A, _, rfl, Nat.le_refl _, ?_⟩
  refine ((hA.less (strip_le ds)).step hb).same fun i hi => ?_
  rw [strip_take ds, u32f_take ds _ i hi]

set_option maxRecDepth 100000 in
set_option maxHeartbeats 1600000 in
theorem natOf_any (n : Int) {w : World} (h0 : 0 ≤ n) (hn : n < 18446744073709551616) :
    Calls Tryz.prog 26 #[.int .u64 n] w (NewN w n.toNat) := by
  obtain ⟨n, rfl⟩ := Int.eq_ofNat_of_zero_le h0
  rw [Int.toNat_natCast]
  go_enter Tryz.func26, Tryz.ntmps26
  go_wp2_with fail
  have hv2 : val 4294967296 [n % 4294967296, n / 4294967296] = n := by simp [val]; omega
  have hL : LU ((w.alloc (.cells #[.slice none 0 0] 28)).alloc (.cells #[.int .u32 ((n : Int) % 4294967296), .int .u32 ((n : Int) / 4294967296)] 90)) (.slice (some ⟨w.heap.size + 1, 0, none⟩) 2 2) [n % 4294967296, n / 4294967296] := by
    refine LU.of_cells (n := 2) rfl (Nat.le_refl _) (cellsT_alloc (w.alloc (.cells #[.slice none 0 0] 28)) _ _ _ (f := u32f [n % 4294967296, n / 4294967296]) (by simp) ?_) (fun _ _ => rfl)
    intro i hi
    match i, hi with
    | 0, _ => simp [u32f]
    | 1, _ => simp [u32f]
  refine (fromDigits_new (by simp) ?_ hL).mono ?_
  · intro d hd
    simp at hd
    omega
  rw [hv2]
  rintro e w3 ⟨v, rfl, ⟨s, rfl, A3, c3, rfl, hc3, hA3⟩, hb⟩
  have hone := (((One.new w (.slice none 0 0) 28).alloc _).step hb)
  have hc1 := hone.cell
  have hf1 := hone.frozen
  have hl1 := hone.lt
  go_wp2
  have hone2 := hone.set_ (.slice A3 (digs 4294967296 n).length c3)
  refine bodyPost_ret (v := .agg #[.slice A3 (digs 4294967296 n).length c3]) (by simp [results, Tryz.results26, go_sem, hone2.cell]) rfl ?_
  refine ⟨_, rfl, ⟨_, rfl, LU.far ⟨A3, c3, rfl, hc3, hA3⟩ hone.row (by decide) _⟩, ?_⟩
  exact (((((Below.refl _ _).alloc (Nat.le_refl _) _).alloc (by simp) _).trans (hb.mono (by simp; omega))).setCell (Nat.le_refl _) _)

set_option maxHeartbeats 400000 in
theorem isZero_any {v : Value} {k : Nat} {w : World} (hlen : (digs 4294967296 k).length ≤ 1000000) (hv : IsNat w v k) :
    Calls Tryz.prog 55 #[v] w fun e w' => e = .returned (.bool (decide (k = 0))) ∧ Below w.heap.size w w' := by
  obtain ⟨s, rfl, A, c, rfl, hc, hA⟩ := hv
  have hl : Hid ((((digs 4294967296 k).length : Nat) : Int) = 0 ↔ k = 0) := by
    unfold Hid
    constructor
    · intro h
      rcases Nat.eq_zero_or_pos k with h0 | h0
      · exact h0
      · rw [digs_pos 4294967296 k (by omega) h0] at h; simp at h; omega
    · rintro rfl; rfl
  go_enter Tryz.func55, Tryz.ntmps55
  go_wp2
  go_ret
  refine ⟨congrArg (fun b => Ending.returned (.bool b)) ?_, (Below.refl _ _).alloc (Nat.le_refl _) _⟩
  rw [Bool.eq_iff_iff, beq_iff_eq, decide_eq_true_iff]
  exact hl.out
end Go.Proofs.YthfjbpbgnoonpaaGreatDoor

namespace Go.Proofs.YthfjbpbgnoonpaaGreatDoor
open Go.RowKit

def isDig (c : UInt8) : Bool := decide (48 ≤ c.toNat) && decide (c.toNat ≤ 57)
theorem str_ne {s : ByteArray} (h : 0 < s.size) : s.toList.isEmpty = false ∧ ¬ s.toList = [] := by
  have e : s.toList = s.data.toList := ByteArray.toList_eq s
  have hl : s.data.toList.length = s.size := rfl
  have hn : ¬ s.toList = [] := by
    rw [e]
    intro h0
    rw [h0] at hl
    simp at hl
    omega
  exact ⟨by simpa using hn, hn⟩
set_option maxRecDepth 100000 in
set_option maxHeartbeats 1600000 in
theorem isText_empty (s : ByteArray) (w : World) (h0 : s.size = 0) :
    Calls Tryz.prog 101 #[.string s] w fun e w' => e = .returned (.bool false) ∧ w = w' := by
  obtain rfl : s = ⟨#[]⟩ := by
    apply ByteArray.ext
    exact Array.eq_empty_of_size_eq_zero h0
  go_enter Tryz.func101, Tryz.ntmps101
  go_wp2
  go_ret
  exact ⟨rfl, rfl⟩

set_option maxRecDepth 100000 in
set_option maxHeartbeats 1600000 in
theorem isText_zero (s : ByteArray) (w : World) (hlen : s.size ≤ 9223372036854775807) (h1 : 1 < s.size) (hz : s[0].toNat = 48) :
    Calls Tryz.prog 101 #[.string s] w fun e w' => e = .returned (.bool false) ∧ w = w' := by
  obtain ⟨hne, hne2⟩ := str_ne (s := s) (by omega)
  go_enter Tryz.func101, Tryz.ntmps101
  go_wp2
  go_ret
  exact ⟨rfl, rfl⟩

/-- The digits before index k. -/
def DigB (s : ByteArray) (k : Nat) : Prop := ∀ j (h : j < s.size), j < k → 48 ≤ s[j].toNat ∧ s[j].toNat ≤ 57
theorem DigB.at_ {s : ByteArray} {k : Nat} (h : DigB s k) {j : Nat} (hj : j < s.size) (hk : j < k) : (48 : Int) ≤ (s[j].toNat : Int) ∧ (s[j].toNat : Int) ≤ 57 := by
  have := h j hj hk; omega
theorem DigB.snoc {s : ByteArray} {k : Nat} (h : DigB s k) (hk : k < s.size) (h1 : (48 : Int) ≤ (s[k].toNat : Int)) (h2 : (s[k].toNat : Int) ≤ 57) : DigB s (k + 1) := by
  intro j hj hjk
  by_cases e : j = k
  · subst e; omega
  · exact h j hj (by omega)
/-- A bool that says whether something holds; the world is as it was. -/
def Says (p : Prop) (w : World) (e : Ending) (w' : World) : Prop := ∃ b : Bool, e = .returned (.bool b) ∧ (b = true ↔ p) ∧ w = w'
def isTextB (s : ByteArray) : Prop := 0 < s.size ∧ (∀ h : 0 < s.size, s[0].toNat = 48 → s.size ≤ 1) ∧ DigB s s.size

set_option maxRecDepth 100000 in
set_option maxHeartbeats 1600000 in
theorem isText_loop (s : ByteArray) (w : World) (hlen : s.size ≤ 9223372036854775807) (h0 : 0 < s.size) (hz : s[0].toNat = 48 → s.size ≤ 1) :
    Calls Tryz.prog 101 #[.string s] w (Says (isTextB s) w) := by
  obtain ⟨hne, hne2⟩ := str_ne h0
  have Hz := Lib.hid (fun h : 0 < s.size => (hz : s[0].toNat = 48 → s.size ≤ 1))
  by_cases hz1 : s[0].toNat = 48
  · have hz2 : s.size ≤ 1 := hz hz1
    have hz3 : decide ((1 : Int) < (s.size : Int)) = false := by simp; omega
    clear hz
    have hz : Hid (∀ h : 0 < s.size, s[0].toNat = 48 → s.size ≤ 1) := Hz
    go_enter Tryz.func101, Tryz.ntmps101
    go_wp2_with fail
    go_loop [3, 18] (fun _ i => ∃ k : Nat, i = .int .i64 k ∧ k ≤ s.size ∧ DigB s k) (fun _ i => s.size - (intOf i).toNat)
    case atStart => exact ⟨0, rfl, by omega, fun j _ h => by omega⟩
    case round =>
      obtain ⟨k, rfl, hk, hd⟩ := hrel
      by_cases hlt : k < s.size
      · by_cases h1 : (s[k].toNat : Int) < 48
        · have hnt := Lib.hid (fun h : isTextB s => h.2.2 k hlt hlt)
          go_wp2
          go_ret
          exact ⟨false, rfl, by simp; intro h; have := hnt.out h; omega, rfl⟩
        · by_cases h2 : (57 : Int) < (s[k].toNat : Int)
          · have hnt := Lib.hid (fun h : isTextB s => h.2.2 k hlt hlt)
            go_wp2
            go_ret
            exact ⟨false, rfl, by simp; intro h; have := hnt.out h; omega, rfl⟩
          · have hn := Lib.hid (hd.snoc hlt (by omega) (by omega))
            go_wp2
            go_round
            case rel => exact ⟨k + 1, by go_num, by omega, hn.out⟩
            case measure => simp [intOf]; omega
      · have hfin : Hid (isTextB s) := ⟨h0, hz.out, by obtain rfl : k = s.size := by omega
                                                       exact hd⟩
        go_wp2
        go_ret
        exact ⟨true, rfl, by simp; exact hfin.out, rfl⟩
  · have hz3 : ((s[0].toNat : Int) == 48) = false := beq_eq_false_iff_ne.2 (by omega)
    clear hz
    have hz : Hid (∀ h : 0 < s.size, s[0].toNat = 48 → s.size ≤ 1) := Hz
    go_enter Tryz.func101, Tryz.ntmps101
    go_wp2_with fail
    go_loop [3, 18] (fun _ i => ∃ k : Nat, i = .int .i64 k ∧ k ≤ s.size ∧ DigB s k) (fun _ i => s.size - (intOf i).toNat)
    case atStart => exact ⟨0, rfl, by omega, fun j _ h => by omega⟩
    case round =>
      obtain ⟨k, rfl, hk, hd⟩ := hrel
      by_cases hlt : k < s.size
      · by_cases h1 : (s[k].toNat : Int) < 48
        · have hnt := Lib.hid (fun h : isTextB s => h.2.2 k hlt hlt)
          go_wp2
          go_ret
          exact ⟨false, rfl, by simp; intro h; have := hnt.out h; omega, rfl⟩
        · by_cases h2 : (57 : Int) < (s[k].toNat : Int)
          · have hnt := Lib.hid (fun h : isTextB s => h.2.2 k hlt hlt)
            go_wp2
            go_ret
            exact ⟨false, rfl, by simp; intro h; have := hnt.out h; omega, rfl⟩
          · have hn := Lib.hid (hd.snoc hlt (by omega) (by omega))
            go_wp2
            go_round
            case rel => exact ⟨k + 1, by go_num, by omega, hn.out⟩
            case measure => simp [intOf]; omega
      · have hfin : Hid (isTextB s) := ⟨h0, hz.out, by obtain rfl : k = s.size := by omega
                                                       exact hd⟩
        go_wp2
        go_ret
        exact ⟨true, rfl, by simp; exact hfin.out, rfl⟩

theorem isText_any (s : ByteArray) (w : World) (hlen : s.size ≤ 9223372036854775807) :
    Calls Tryz.prog 101 #[.string s] w (Says (isTextB s) w) := by
  by_cases h0 : 0 < s.size
  · by_cases hz : s[0].toNat = 48 → s.size ≤ 1
    · exact isText_loop s w hlen h0 hz
    · have hz' : s[0].toNat = 48 ∧ ¬ s.size ≤ 1 := Classical.not_imp.1 hz
      refine (isText_zero s w hlen (by omega) hz'.1).mono ?_
      rintro e w' ⟨rfl, rfl⟩
      exact ⟨false, rfl, by simp; intro h; exact hz (h.2.1 h0), rfl⟩
  · refine (isText_empty s w (by omega)).mono ?_
    rintro e w' ⟨rfl, rfl⟩
    exact ⟨false, rfl, by simp; intro h; exact h0 h.1, rfl⟩
end Go.Proofs.YthfjbpbgnoonpaaGreatDoor

namespace Go.Proofs.YthfjbpbgnoonpaaGreatDoor
open Go.RowKit

theorem OwnU.form {base : Nat} {w : World} {v : Value} {os : List Nat} (h : OwnU base w v os) (hn : 0 < os.length) : ∃ g cap, v = .slice (some ⟨g, 0, none⟩) os.length cap ∧ base ≤ g ∧ g < w.heap.size := World.ownsRow.form h hn
theorem OwnU.len {base : Nat} {w : World} {A : Option Addr} {n c : Nat} {os : List Nat} (h : OwnU base w (.slice A n c) os) : n = os.length := by
  obtain ⟨b, c', h'⟩ := own_slice h
  injection h'
theorem OwnU.cell {base : Nat} {w : World} {g n cap : Nat} {os : List Nat} (h : OwnU base w (.slice (some ⟨g, 0, none⟩) n cap) os) {j : Nat} (hj : j < os.length) : w.cell? ⟨g, j, none⟩ = some (.int .u32 (os.getD j 0 : Nat)) := by
  obtain rfl := h.len
  rw [World.ownsRow.cellAt h j (by omega)]
  simp [encU, List.getD, hj]
theorem OwnU.free {base : Nat} {w : World} {g n cap : Nat} {os : List Nat} (h : OwnU base w (.slice (some ⟨g, 0, none⟩) n cap) os) (j : Nat) : w.frozen? ⟨g, j, none⟩ = false := by
  obtain rfl := h.len
  exact World.ownsRow.frozenAt h j
theorem OwnU.store {base : Nat} {w : World} {g n cap : Nat} {os os' : List Nat} (h : OwnU base w (.slice (some ⟨g, 0, none⟩) n cap) os) (j d : Nat) (u : Value) (hu : u = encU d) (ho : os' = os.set j d) :
    OwnU base (w.setCell ⟨g, j, none⟩ u) (.slice (some ⟨g, 0, none⟩) n cap) os' := by
  obtain rfl := h.len
  subst hu ho
  have := (World.ownsRow.stored h j (encU d)).1
  unfold OwnU
  rw [List.length_set, List.map_set]
  exact this
theorem OwnU.slice {base : Nat} {w : World} {v : Value} {os : List Nat} (h : OwnU base w v os) : ∃ A c, v = .slice A os.length c := own_slice h

/-- The number that bytes spell. -/
def numL (l : List UInt8) : Nat := l.foldl (fun n c => n * 10 + (c.toNat - 48)) 0
theorem numL_snoc (l : List UInt8) (c : UInt8) : numL (l ++ [c]) = numL l * 10 + (c.toNat - 48) := by simp [numL]
theorem numL_take (s : ByteArray) (k : Nat) (h : k < s.size) : numL (s.data.toList.take (k + 1)) = numL (s.data.toList.take k) * 10 + (s[k].toNat - 48) := by
  have hl : k < s.data.toList.length := h
  rw [List.take_succ_eq_append_getElem hl, numL_snoc]
  rfl
theorem numL_lt (l : List UInt8) (h : ∀ c ∈ l, c.toNat ≤ 57) : numL l < 10 ^ l.length := by
  induction hn : l.length generalizing l with
  | zero => obtain rfl := List.eq_nil_of_length_eq_zero hn; simp [numL]
  | succ n ih =>
    obtain ⟨xs, x, rfl⟩ : ∃ xs x, l = xs ++ [x] := ⟨l.dropLast, l.getLast (by intro e; simp [e] at hn), (List.dropLast_concat_getLast _).symm⟩
    have h1 := ih xs (fun c hc => h c (by simp [hc])) (by simpa using hn)
    have h2 := h x (by simp)
    rw [numL_snoc, Nat.pow_succ]
    omega
theorem numL_append (l m : List UInt8) : numL (l ++ m) = numL l * 10 ^ m.length + numL m := by
  induction hn : m.length generalizing m with
  | zero => obtain rfl := List.eq_nil_of_length_eq_zero hn; simp [numL]
  | succ n ih =>
    obtain ⟨xs, x, rfl⟩ : ∃ xs x, m = xs ++ [x] := ⟨m.dropLast, m.getLast (by intro e; simp [e] at hn), (List.dropLast_concat_getLast _).symm⟩
    rw [← List.append_assoc, numL_snoc, numL_snoc, ih xs (by simpa using hn), Nat.pow_succ, ← Nat.mul_assoc, Nat.add_mul]
    omega

/-- At the head of appendPart's second loop: the first i digits are os, and c is the carry. -/
def PartRel (base : Nat) (w : World) (ds : List Nat) (t : Nat) (v : Value) (i c : Nat) (os : List Nat) (wr : World) : Prop :=
  OwnU base wr v (os ++ ds.drop i) ∧ os.length = i ∧ (∀ d ∈ os, d < 4294967296) ∧ val 4294967296 os + 4294967296 ^ i * c = val 4294967296 (ds.take i) * 1000000000 + t ∧ Below base w wr
theorem part_math (o _p i c d t v : Nat) (h : o + 4294967296 ^ i * c = v * 1000000000 + t) :
    (o + 4294967296 ^ i * ((d * 1000000000 + c) % 4294967296)) + 4294967296 ^ (i + 1) * ((d * 1000000000 + c) / 4294967296) = (v + 4294967296 ^ i * d) * 1000000000 + t := by
  rw [Nat.pow_succ, Nat.mul_assoc, Nat.add_assoc, ← Nat.mul_add, Nat.mod_add_div, Nat.mul_add, Nat.add_mul, ← Nat.mul_assoc (4294967296 ^ i)]
  omega
theorem set_mid (os ds : List Nat) (i x : Nat) (hl : os.length = i) (h : i < ds.length) : (os ++ ds.drop i).set i x = (os ++ [x]) ++ ds.drop (i + 1) := by
  subst hl
  rw [List.set_append_right _ _ (Nat.le_refl _), Nat.sub_self, drop_cons ds os.length h, List.set_cons_zero, List.append_assoc]
  rfl
theorem part_carry (d c : Nat) (hd : d < 4294967296) (hc : c < 1000000000) : (d * 1000000000 + c) / 4294967296 < 1000000000 := by omega

set_option maxRecDepth 100000 in
set_option maxHeartbeats 1600000 in
theorem appendPart_any (base : Nat) {v : Value} {ds : List Nat} {s : ByteArray} {w : World} (hlen : ds.length ≤ 1000000) (hd : ∀ d ∈ ds, d < 4294967296) (hs : s.size ≤ 9) (hdig : DigB s s.size) (hv : OwnU base w v ds) (hbase : base ≤ w.heap.size) :
    Calls Tryz.prog 102 #[v, .string s] w fun e w' => ∃ v' ds', e = .returned v' ∧ OwnU base w' v' ds' ∧ ds'.length ≤ ds.length + 1 ∧ (∀ d ∈ ds', d < 4294967296) ∧ val 4294967296 ds' = val 4294967296 ds * 1000000000 + numL s.data.toList ∧ Below base w w' := by
  obtain ⟨A, cp, rfl⟩ := hv.slice
  have HDIG := Lib.hid hdig
  have HD := Lib.hid hd
  clear hdig hd
  go_enter Tryz.func102, Tryz.ntmps102
  go_wp2
  go_loop [5, 6, 14] (fun c _ i => ∃ (nc k : Nat), i = .int .i64 k ∧ k ≤ s.size ∧ c = .int .u32 nc ∧ nc = numL (s.data.toList.take k) ∧ nc < 10 ^ k) (fun _ _ i => s.size - (intOf i).toNat)
  case atStart => exact ⟨0, 0, rfl, by omega, rfl, rfl, by omega⟩
  case round =>
    obtain ⟨c, k, rfl, hk, rfl, hcn, hc10⟩ := hrel
    have HCN := Lib.hid hcn
    clear hcn
    have hc9 : c < 1000000000 := Nat.lt_of_lt_of_le hc10 (Nat.pow_le_pow_right (n := 10) (by omega) (show k ≤ 9 by omega))
    by_cases hlt : k < s.size
    · have hx := HDIG.out.at_ hlt hlt
      have hn := Lib.hid (numL_take s k hlt)
      have hc8 : c < 100000000 := Nat.lt_of_lt_of_le hc10 (Nat.pow_le_pow_right (n := 10) (by omega) (show k ≤ 8 by omega))
      have hc11 : Hid (c * 10 + (s[k].toNat - 48) < 10 ^ (k + 1)) := by unfold Hid; rw [Nat.pow_succ]; omega
      clear hc10
      go_wp2
      go_round
      case rel => exact ⟨c * 10 + (s[k].toNat - 48), k + 1, by go_num, by omega, by go_num, by rw [hn.out, HCN.out], hc11.out⟩
      case measure => simp [intOf]; omega
    · obtain rfl : k = s.size := by omega
      have hct : Hid (c = numL s.data.toList) := by
        exact HCN.out.trans (congrArg numL (List.take_of_length_le (Nat.le_refl _)))
      clear hc10
      go_wp2
      go_loopw [5, 28] (fun cc i wr => ∃ (nc ni : Nat) (os : List Nat), i = .int .i64 ni ∧ ni ≤ ds.length ∧ cc = .int .u32 nc ∧ nc < 1000000000 ∧ PartRel base w ds c (.slice A ds.length cp) ni nc os wr) (fun _ i _ => ds.length - (intOf i).toNat)
      case atStart => exact ⟨c, 0, [], rfl, by omega, rfl, hc9, hv, rfl, by simp, by simp [val], Below.refl _ _⟩
      case round =>
        obtain ⟨c1, i, os, rfl, hi, rfl, hc1, hR⟩ := hrel
        have hR1 := hR
        obtain ⟨hown, hos, hod, hval, hbw⟩ := hR1
        have HOS := Lib.hid hos
        have HOD := Lib.hid hod
        have HV := Lib.hid hval
        clear hos hod hval
        by_cases hlt : i < ds.length
        · have hlen2 : (os ++ ds.drop i).length = ds.length := by simp [HOS.out]; omega
          obtain ⟨g, cap, hsl, hbg, hgl⟩ := hown.form (by omega)
          rw [hlen2] at hsl
          obtain ⟨rfl, _, rfl⟩ := Value.slice.inj hsl
          have hgd : (os ++ ds.drop i).getD i 0 = ds.getD i 0 := by
            rw [List.getD, List.getElem?_append_right (by rw [HOS.out]; omega), HOS.out, Nat.sub_self, List.getElem?_drop]; rfl
          have hcell := hown.cell (j := i) (by omega)
          rw [hgd] at hcell
          have hfree := hown.free i
          obtain ⟨d, hdd⟩ : ∃ d : Nat, d = ds.getD i 0 := ⟨_, rfl⟩
          have hd1 : d < 4294967296 := by rw [hdd]; exact getD_lt HD.out i hlt
          rw [← hdd] at hcell
          have hst := Lib.hid (fun u hu => hown.store i ((d * 1000000000 + c1) % 4294967296) u hu (set_mid os ds i _ HOS.out hlt).symm)
          have hval2 := Lib.hid (part_math _ (val 4294967296 (ds.take i)) i c1 d c _ HV.out)
          have htk : Hid (val 4294967296 (ds.take (i + 1)) = val 4294967296 (ds.take i) + 4294967296 ^ i * d) := by
            unfold Hid
            rw [take_snoc ds i hlt, val_snoc, List.length_take, Nat.min_eq_left (by omega), ← hdd]
          clear hdd hgd hsl hlen2 hR
          go_wp2_with (first | (go_at_call 114; refine (mul32_any _ _ _ (by omega) (by omega)).mono ?_; rintro e w1 ⟨rfl, rfl⟩) | (go_at_call 120; refine (add32_any _ _ _ _ (by omega) (by omega) (by omega)).mono ?_; rintro e w1 ⟨rfl, rfl⟩))
          go_roundw
          case rel =>
            refine ⟨(d * 1000000000 + c1) / 4294967296, i + 1, os ++ [(d * 1000000000 + c1) % 4294967296], by go_num, by omega, by go_num, part_carry d c1 hd1 hc1, hst.out _ (by unfold encU; go_num), by simp [HOS.out], all_snoc HOD.out (by omega), ?_, hbw.setCell hbg _⟩
            rw [val_snoc, HOS.out, htk.out]
            exact hval2.out
          case measure => simp [intOf]; omega
        · obtain rfl : i = ds.length := by omega
          have hown2 : OwnU base wr (.slice A ds.length cp) os := by
            have := hown
            rw [List.drop_of_length_le (by omega), List.append_nil] at this
            exact this
          have hsz : base ≤ wr.heap.size := Nat.le_trans hbase hbw.size
          have HV2 : Hid (val 4294967296 os + 4294967296 ^ ds.length * c1 = val 4294967296 ds * 1000000000 + c) := by
            have := HV.out
            rw [List.take_length] at this
            exact this
          have hol : os.length ≤ 1000000 := by rw [HOS.out]; omega
          clear hown hR HV hv
          by_cases hc0 : c1 = 0
          · subst hc0
            go_wp2
            go_ret
            refine ⟨_, os, rfl, hown2, by rw [HOS.out]; omega, HOD.out, ?_, hbw⟩
            rw [← hct.out, ← HV2.out]; simp
          · have hb : ((c1 : Int) != 0) = true := by simp; omega
            go_wp2_with (at_builtin; go_loud (refine wpList_append_U rfl (.tmp 53) (.tmp 55) _ _ rfl Tryz.underlying22 Tryz.underlying22 base _ os rfl hown2 c1 _ rfl rfl (by omega) w hbw hsz ?_; intro v' w1 hown1 hb1 hs1))
            go_ret
            refine ⟨v', os ++ [c1], rfl, hown1.out, by simp [HOS.out], all_snoc HOD.out (by omega), ?_, hb1.out⟩
            rw [val_snoc, HOS.out, ← hct.out, ← HV2.out]
end Go.Proofs.YthfjbpbgnoonpaaGreatDoor

namespace Go.Proofs.YthfjbpbgnoonpaaGreatDoor
open Go.RowKit

def DigL (l : List UInt8) : Prop := ∀ c ∈ l, 48 ≤ c.toNat ∧ c.toNat ≤ 57
theorem DigL.digB {s : ByteArray} (h : DigL s.data.toList) (k : Nat) : DigB s k := fun j hj _ => h _ (by
  have hl : j < s.data.toList.length := hj
  exact List.mem_iff_getElem.2 ⟨j, hl, rfl⟩)
theorem DigB.digL {s : ByteArray} (h : DigB s s.size) : DigL s.data.toList := by
  intro c hc
  obtain ⟨j, hj, rfl⟩ := List.mem_iff_getElem.1 hc
  exact h j hj hj
theorem DigL.extract {s : ByteArray} (h : DigL s.data.toList) (a b : Nat) : DigL (s.extract a b).data.toList := by
  rw [Lib.extract_data]
  intro c hc
  exact h c (List.mem_of_mem_drop (List.mem_of_mem_take hc))
theorem part_num (s : ByteArray) (k : Nat) (h : k + 9 ≤ s.size) : numL (s.data.toList.take (k + 9)) = numL (s.data.toList.take k) * 1000000000 + numL (s.extract k (k + 9)).data.toList := by
  rw [Lib.extract_data, List.take_add, numL_append, List.length_take, List.length_drop]
  have hl : s.data.toList.length = s.size := rfl
  rw [hl, Nat.add_sub_cancel_left, Nat.min_eq_left (by omega)]

def ParseOk (w : World) (k : Nat) (e : Ending) (w' : World) : Prop := ∃ v, e = .returned (.tuple #[v, .int .i64 0]) ∧ IsNat w' v k ∧ Below w.heap.size w w'
def ParseErr (w : World) (c : Int) (e : Ending) (w' : World) : Prop := e = .returned (.tuple #[.agg #[.slice none 0 0], .int .i64 c]) ∧ Below w.heap.size w w'

set_option maxRecDepth 100000 in
set_option maxHeartbeats 1600000 in
theorem parse_bad {s : ByteArray} {w : World} (hlen : s.size ≤ 9223372036854775807) (hs : ¬ isTextB s) :
    Calls Tryz.prog 67 #[.string s] w (ParseErr w 3) := by
  go_enter Tryz.func67, Tryz.ntmps67
  go_wp2_with (go_at_call 101; refine (isText_any s _ hlen).mono ?_; rintro e w1 ⟨b, rfl, hb, rfl⟩; obtain rfl : b = false := by { cases b; rfl; exact absurd (hb.1 rfl) hs }; clear hb)
  refine bodyPost_ret (v := .tuple #[.agg #[.slice none 0 0], .int .i64 3]) (by simp [results, Tryz.results67, go_sem]) rfl ?_
  exact ⟨rfl, (Below.refl _ _).alloc (Nat.le_refl _) _⟩

set_option maxRecDepth 100000 in
set_option maxHeartbeats 1600000 in
theorem parse_long {s : ByteArray} {w : World} (hlen : s.size ≤ 9223372036854775807) (hs : isTextB s) (hl : 1000 < s.size) :
    Calls Tryz.prog 67 #[.string s] w (ParseErr w 6) := by
  go_enter Tryz.func67, Tryz.ntmps67
  go_wp2_with (go_at_call 101; refine (isText_any s _ hlen).mono ?_; rintro e w1 ⟨b, rfl, hb, rfl⟩; obtain rfl : b = true := hb.2 hs; clear hb)
  refine bodyPost_ret (v := .tuple #[.agg #[.slice none 0 0], .int .i64 6]) (by simp [results, Tryz.results67, go_sem]) rfl ?_
  exact ⟨rfl, (Below.refl _ _).alloc (Nat.le_refl _) _⟩

set_option maxRecDepth 100000 in
set_option maxHeartbeats 1600000 in
theorem parse_ok {s : ByteArray} {w : World} (hs : isTextB s) (hl : s.size ≤ 1000) :
    Calls Tryz.prog 67 #[.string s] w (ParseOk w (numL s.data.toList)) := by
  have hdl := Lib.hid (hs.2.2.digL)
  have hmod : 0 ≤ (s.size : Int) % 9 ∧ (s.size : Int) % 9 < 9 := by omega
  have hp1 := Lib.hid (fun W : World => appendPart_any (w.heap.size + 1) (v := .slice none 0 0) (ds := []) (s := s.extract 0 (s.size % 9)) (w := W) (by simp) (by simp) (by rw [ByteArray.size_extract]; omega) ((hdl.out.extract _ _).digB _) (OwnU.nil _ _))
  have hp2 := Lib.hid (fun (W : World) (k : Nat) (v : Value) (ds : List Nat) h1 h2 => appendPart_any (w.heap.size + 1) (v := v) (ds := ds) (s := s.extract k (k + 9)) (w := W) h1 h2 (by rw [ByteArray.size_extract]; omega) ((hdl.out.extract _ _).digB _))
  go_enter Tryz.func67, Tryz.ntmps67
  go_wp2_with (go_at_call 101; refine (isText_any s _ (by omega)).mono ?_; rintro e w1 ⟨b, rfl, hb, rfl⟩; obtain rfl : b = true := hb.2 hs; clear hb)
  refine (hp1.out _ (by simp)).mono ?_
  rintro e w2 ⟨v1, ds1, rfl, hown1, hl1, hd1, hval1, hb1⟩
  have HV1 : Hid (val 4294967296 ds1 = numL (s.data.toList.take (s.size % 9))) := by
    unfold Hid
    rw [hval1, Lib.extract_data]
    simp [val]
  have HD1 := Lib.hid hd1
  have hl1' : ds1.length ≤ s.size % 9 + 1 := by simp at hl1; omega
  have hone := (One.new w (.slice none 0 0) 28).below hb1 (by simp)
  have hbw : Below w.heap.size w w2 := ((Below.refl _ _).alloc (Nat.le_refl _) _).trans (hb1.mono (by omega))
  have hsz : w.heap.size + 1 ≤ w2.heap.size := by have := hb1.size; simp at this; omega
  clear hval1 hd1 hl1 hp1
  go_wp2_with fail
  go_loopw [4, 5] (fun i v wr => ∃ (k : Nat) (ds : List Nat), i = .int .i64 k ∧ k ≤ s.size ∧ (s.size - k) % 9 = 0 ∧ OwnU (w.heap.size + 1) wr v ds ∧ ds.length ≤ k + 1 ∧ Hid (∀ d ∈ ds, d < 4294967296) ∧ Hid (val 4294967296 ds = numL (s.data.toList.take k)) ∧ One wr w.heap.size (.slice none 0 0) 28 ∧ Below w.heap.size w wr ∧ w.heap.size + 1 ≤ wr.heap.size) (fun i _ _ => s.size - (intOf i).toNat)
  case atStart => exact ⟨s.size % 9, ds1, by go_num, by omega, by omega, hown1, hl1', HD1, HV1, hone, hbw, hsz⟩
  case round =>
    obtain ⟨k, ds, rfl, hk, hk9, hown, hdl2, HD, HV, hone, hbw, hsz⟩ := hrel
    by_cases hlt : k < s.size
    · have hpn := Lib.hid (part_num s k (by omega))
      go_wp2_with fail
      refine (hp2.out _ k _ ds (by omega) HD.out hown hsz).mono ?_
      rintro e w3 ⟨v3, ds3, rfl, hown3, hl3, hd3, hval3, hb3⟩
      have HV3 := Lib.hid hval3
      have HD3 := Lib.hid hd3
      clear hval3 hd3
      have hsz3 := hb3.size
      go_wp2_with fail
      go_roundw
      case rel => exact ⟨k + 9, ds3, by go_num, by omega, by omega, hown3, by omega, HD3, by unfold Hid; rw [HV3.out, HV.out, hpn.out], hone.below hb3 (by omega), hbw.trans (hb3.mono (by omega)), by omega⟩
      case measure => simp [intOf]; omega
    · obtain rfl : k = s.size := by omega
      have hcall := fromDigits_new (ds := ds) (w := wr) (by omega) HD.out hown.reads
      have hvv : val 4294967296 ds = numL s.data.toList := HV.out.trans (congrArg numL (List.take_of_length_le (Nat.le_refl _)))
      rw [hvv] at hcall
      clear hvv HV1 HD1 hl1'
      go_wp2_with (go_at_call 61; refine hcall.mono ?_; rintro e w3 ⟨v, rfl, ⟨s3, rfl, A3, c3, rfl, hc3, hA3⟩, hb⟩; have hone3 := hone.step hb; have hc1 := hone3.cell; have hf1 := hone3.frozen; have hl1 := hone3.lt)
      have hone4 := hone3.set_ (.slice A3 (digs 4294967296 (numL s.data.toList)).length c3)
      refine bodyPost_ret (v := .tuple #[.agg #[.slice A3 (digs 4294967296 (numL s.data.toList)).length c3], .int .i64 0]) (by simp [results, Tryz.results67, go_sem, hone4.cell]) rfl ?_
      exact ⟨_, rfl, ⟨_, rfl, LU.far ⟨A3, c3, rfl, hc3, hA3⟩ hone3.row (by decide) _⟩, (hbw.trans (hb.mono hbw.size)).setCell (Nat.le_refl _) _⟩
end Go.Proofs.YthfjbpbgnoonpaaGreatDoor
