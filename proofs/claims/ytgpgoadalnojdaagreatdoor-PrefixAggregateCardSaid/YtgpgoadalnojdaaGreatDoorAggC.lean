/- Rows of prefixes of the call's own. -/
import Derived.Test.YtgpgoadalnojdaaGreatDoorAggB
import Derived.Maps.AppendAt
import Derived.Maps.RangeWalk
import Derived.WalkSmall
import Derived.OwnWalk
namespace Go.Proofs.YtgpgoadalnojdaaGreatDoor
open Go.RowKit

section
variable {W W' W'' : World} {row : Option Nat}
theorem gb_below (h : W.grownBy W' row) (hb : Below W'.heap.size W' W'') : W.grownBy W'' row :=
  h.trans ⟨hb.os, hb.tape, hb.output, hb.size, fun i hi _ => hb.block i hi⟩
theorem gb_of (hb : Below W.heap.size W W') (row : Option Nat) : W.grownBy W' row := gb_below (World.grownBy.refl W row) hb
theorem gb_alloc (h : W.grownBy W' row) (o : Obj) : W.grownBy (W'.alloc o) row := h.trans (World.grownBy_alloc _ o _)
theorem gb_drew (h : W.grownBy W' row) : W.grownBy W'.drew row := ⟨h.os, h.tape, h.output, h.size, h.block⟩
theorem gb_set (h : W.grownBy W' row) (p : Addr) (u : Value) (hp : W.heap.size ≤ p.block) : W.grownBy (W'.setCell p u) row :=
  ⟨h.os, h.tape, h.output, by have := h.size; simpa [World.setCell] using this, fun i hi hr => (Below.heap_setCell W' p u i (by omega)).trans (h.block i hi hr)⟩
theorem below_of_gb {base : Nat} (h : W.grownBy W' row) (hb : base ≤ W.heap.size) (hr : ∀ k, row = some k → base ≤ k) : Below base W W' :=
  ⟨h.os, h.tape, h.output, h.size, fun k hk => h.block k (by omega) (fun e => by have := hr k e.symm; omega)⟩
end
section
variable {w w' : World} {base : Nat} {v : Value} {M Y : List Px} {t : Px}
theorem OwnP.gb {row : Option Nat} (h : OwnP w base v M) (hg : w.grownBy w' row) (hne : v.ownBlock = none ∨ v.ownBlock ≠ row) : OwnP w' base v M := World.ownsRow.kept h hg hne
theorem OwnP.below (h : OwnP w base v M) (hb : Below w.heap.size w w') : OwnP w' base v M := by
  refine h.gb (gb_of hb none) ?_
  cases v.ownBlock with
  | none => exact .inl rfl
  | some k => exact .inr (by simp)
theorem OwnP.set_ (h : OwnP w base v M) (p : Addr) (u : Value) (hp : ∀ k, v.ownBlock = some k → k ≠ p.block) : OwnP (w.setCell p u) base v M := by
  refine h.gb (row := some p.block) ⟨rfl, rfl, rfl, by simp [World.setCell], fun i hi hr => Below.heap_setCell w p u i (fun e => hr (by rw [e]))⟩ ?_
  cases hv : v.ownBlock with
  | none => exact .inl rfl
  | some k => exact .inr (fun e => hp k hv (by injection e))
theorem fl_snoc : fl (Y ++ [t]) = fl Y ++ encP t := by simp [fl]
theorem OwnP.form (h : OwnP w base v M) : ∃ A cap, v = .slice A M.length cap ∧ cap ≤ maxLen ∧ (A = none ∨ ∃ g, A = some ⟨g, 0, none⟩) := by
  rcases h.2 with ⟨rfl, h0⟩ | ⟨g, cap, cur, rfl, -, -, -, hm, -, -⟩
  · exact ⟨none, 0, by rw [h0], by unfold maxLen; omega, .inl rfl⟩
  · exact ⟨_, cap, rfl, hm, .inr ⟨g, rfl⟩⟩
theorem OwnP.some_ (h : OwnP w base v M) (hM : 0 < M.length) : ∃ g cap, v = .slice (some ⟨g, 0, none⟩) M.length cap ∧ base ≤ g ∧ g < w.heap.size ∧ M.length ≤ cap ∧ cap ≤ maxLen := by
  rcases h.2 with ⟨rfl, h0⟩ | ⟨g, cap, cur, rfl, hb, hg, hc, hm, -, -⟩
  · omega
  · refine ⟨g, cap, rfl, hb, ?_, hc, hm⟩
    rcases Nat.lt_or_ge g w.heap.size with h' | h'
    · exact h'
    · rw [Array.getElem?_eq_none h'] at hg; cases hg
theorem OwnP.cell {g cap : Nat} (h : OwnP w base (.slice (some ⟨g, 0, none⟩) M.length cap) M) {i : Nat} (hi : i < M.length) :
    w.cell? ⟨g, i * 2, none⟩ = some (.int .u32 (M[i].1 : Int)) ∧ w.cell? ⟨g, i * 2 + 1, none⟩ = some (.int .i64 (M[i].2 : Int)) := by
  have h0 := fl_get M hi 0 (by omega)
  have h1 := fl_get M hi 1 (by omega)
  rw [Nat.add_zero] at h0
  exact ⟨(h.cellAt (i * 2) (by omega)).trans h0, (h.cellAt (i * 2 + 1) (by omega)).trans h1⟩
theorem OwnP.top {g cap : Nat} (h : OwnP w base (.slice (some ⟨g, 0, none⟩) (Y.length + 1) cap) (Y ++ [t])) :
    w.cell? ⟨g, Y.length * 2, none⟩ = some (.int .u32 (t.1 : Int)) ∧ w.cell? ⟨g, Y.length * 2 + 1, none⟩ = some (.int .i64 (t.2 : Int)) := by
  have h' : OwnP w base (.slice (some ⟨g, 0, none⟩) (Y ++ [t]).length cap) (Y ++ [t]) := by simpa using h
  have := h'.cell (i := Y.length) (by simp)
  simpa using this
theorem OwnP.pop {g cap : Nat} (h : OwnP w base (.slice (some ⟨g, 0, none⟩) (Y.length + 1) cap) (Y ++ [t])) : OwnP w base (.slice (some ⟨g, 0, none⟩) Y.length cap) Y := by
  have h' : w.ownsRow base 32 2 (.slice (some ⟨g, 0, none⟩) (Y.length + 1) cap) (Y.length + 1) (fl Y ++ encP t) := by
    have := h
    unfold OwnP at this
    rw [fl_snoc] at this
    simpa using this
  exact ownsRow_pop (fl_length Y) h'
theorem OwnP.nil (w : World) (base : Nat) : OwnP w base (.slice none 0 0) [] := World.ownsRow_nil w base _ 2
end

/-- What add leaves. -/
def AddPost (W : World) (base : Nat) (v : Value) (X : List Px) (p : Px) (e : Ending) (W' : World) : Prop :=
  ∃ v' X', e = .returned v' ∧ OwnP W' base v' X' ∧ Canon X' ∧ X'.length ≤ X.length + 1 ∧ (∀ x, U X' x ↔ (U X x ∨ Has p x)) ∧ (∀ x ∈ X', Le x p) ∧ W.grownBy W' v.ownBlock ∧ (v'.ownBlock = v.ownBlock ∨ ∃ k, v'.ownBlock = some k ∧ W.heap.size ≤ k)
/-- The state of add's loop: the stack X, the prefix q. -/
structure AddI (W : World) (base : Nat) (v0 : Value) (X0 : List Px) (p0 : Px) (wr : World) (v : Value) (X : List Px) (q : Px) : Prop where
  own : OwnP wr base v X
  box : PB wr W.heap.size q.1 q.2
  stk : Stk X q
  same : ∀ x, (U X x ∨ Has q x) ↔ (U X0 x ∨ Has p0 x)
  le : Le q p0
  sub : X.Sublist X0
  gb : W.grownBy wr none
  blk : v.ownBlock = v0.ownBlock
theorem AddI.done {W wr w2 : World} {base : Nat} {v0 v v' : Value} {X0 X : List Px} {p0 q : Px} (hI : AddI W base v0 X0 p0 wr v X q) (hle : ∀ x ∈ X0, Le x p0) (hno : ∀ Y t, X = Y ++ [t] → ¬ Sib t q)
    (o : Obj) (hown : w2.ownsRow base 32 2 v' (X.length + 1) (fl X ++ encP q)) (hg : (wr.alloc o).grownBy w2 v.ownBlock) (hb : v'.ownBlock = v.ownBlock ∨ v'.ownBlock = some (wr.alloc o).heap.size) (w3 : World) (h3 : w3 = w2) :
    AddPost W base v0 X0 p0 (.returned v') w3 := by
  subst h3
  refine ⟨v', X ++ [q], rfl, ?_, stk_end hI.stk hno, ?_, fun x => ?_, ?_, ?_, ?_⟩
  · unfold OwnP; rw [fl_snoc]; simpa using hown
  · have := hI.sub.length_le; simp; omega
  · rw [u_snoc]; exact hI.same x
  · intro x hx
    rcases List.mem_append.1 hx with h | h
    · exact hle x (hI.sub.subset h)
    · rw [List.mem_singleton.1 h]; exact hI.le
  · rw [← hI.blk]
    exact ((gb_alloc hI.gb o).but v.ownBlock).trans hg
  · rcases hb with hb | hb
    · left; rw [hb, hI.blk]
    · right; exact ⟨_, hb, by have := (gb_alloc hI.gb o).size; omega⟩
end Go.Proofs.YtgpgoadalnojdaaGreatDoor
