/- The helper brief at one, two and three numbers; two boxes at a time; an argument of the laws. -/
import Derived.Test.YthfjbpbgnoonpaaGreatDoorRY
namespace Go.Proofs.YthfjbpbgnoonpaaGreatDoor
open Go.RowKit

theorem Sr.allocTwo {w W : World} {L : List (World → Prop)} {B : List (Nat × List Value × TypeId)} (h : Sr w L B W) (cs : List Value) (t : TypeId) (cs2 : List Value) (t2 : TypeId) (h1 : 90 ≠ t) (h2 : ∀ c, c ∈ cs → ∀ k z, c ≠ .int k z) (h3 : 90 ≠ t2) (h4 : ∀ c, c ∈ cs2 → ∀ k z, c ≠ .int k z) :
    Sr w L ((W.heap.size + 1, cs2, t2) :: (W.heap.size, cs, t) :: B) ((W.alloc (.cells cs.toArray t)).alloc (.cells cs2.toArray t2)) := by
  have := (h.alloc cs t h1 h2).alloc cs2 t2 h3 h4
  rwa [show (W.alloc (.cells cs.toArray t)).heap.size = W.heap.size + 1 by simp] at this
abbrev Brf (W : World) (x : Bool) (e : Ending) (w' : World) : Prop := e = .returned (.bool x) ∧ w' = W
section
variable {W : World} {g cap : Nat} {b b' b3 : Bool} {A A2 B B2 C C2 : Option Addr} {n c n2 c2 m d m2 d2 k e k2 e2 : Nat}
theorem brief1 (h : Blk W g [.bool b, .slice A n c, .slice A2 n2 c2] 24) (h1 : n ≤ 9223372036854775807) (h2 : n2 ≤ 9223372036854775807) :
    Calls Tryz.prog 12 #[.slice (some ⟨g, 0, none⟩) 1 cap] W (Brf W (decide (n ≤ 8 ∧ n2 ≤ 8))) := by
  have := brief_any (w := W) (g := g) (n := 1) (cap := cap) (ln := fun _ => n) (lm := fun _ => n2) (by omega) (fun i hi => ⟨h1, h2⟩) (fun i hi => by
    obtain rfl : i = 0 := by omega
    exact ⟨A, c, A2, c2, h.cell (i := 1) rfl, h.cell (i := 2) rfl⟩)
  rwa [show decide (∀ i, i < 1 → n ≤ 8 ∧ n2 ≤ 8) = decide (n ≤ 8 ∧ n2 ≤ 8) from decide_eq_decide.2 ⟨fun h => h 0 (by omega), fun h _ _ => h⟩] at this
theorem brief2 (h : Blk W g [.bool b, .slice A n c, .slice A2 n2 c2, .bool b', .slice B m d, .slice B2 m2 d2] 24) (h1 : n ≤ 9223372036854775807) (h2 : n2 ≤ 9223372036854775807) (h3 : m ≤ 9223372036854775807) (h4 : m2 ≤ 9223372036854775807) :
    Calls Tryz.prog 12 #[.slice (some ⟨g, 0, none⟩) 2 cap] W (Brf W (decide ((n ≤ 8 ∧ n2 ≤ 8) ∧ m ≤ 8 ∧ m2 ≤ 8))) := by
  have := brief_any (w := W) (g := g) (n := 2) (cap := cap) (ln := fun i => if i = 0 then n else m) (lm := fun i => if i = 0 then n2 else m2) (by omega) (fun i hi => by constructor <;> split <;> assumption) (fun i hi => by
    rcases (by omega : i = 0 ∨ i = 1) with rfl | rfl
    · exact ⟨A, c, A2, c2, h.cell (i := 1) rfl, h.cell (i := 2) rfl⟩
    · exact ⟨B, d, B2, d2, h.cell (i := 4) rfl, h.cell (i := 5) rfl⟩)
  rwa [show decide (∀ i, i < 2 → (if i = 0 then n else m) ≤ 8 ∧ (if i = 0 then n2 else m2) ≤ 8) = decide ((n ≤ 8 ∧ n2 ≤ 8) ∧ m ≤ 8 ∧ m2 ≤ 8) from decide_eq_decide.2 ⟨fun h => ⟨h 0 (by omega), h 1 (by omega)⟩, fun h i hi => by
    rcases (by omega : i = 0 ∨ i = 1) with rfl | rfl
    · exact h.1
    · exact h.2⟩] at this
theorem brief3 (h : Blk W g [.bool b, .slice A n c, .slice A2 n2 c2, .bool b', .slice B m d, .slice B2 m2 d2, .bool b3, .slice C k e, .slice C2 k2 e2] 24) (h1 : n ≤ 9223372036854775807) (h2 : n2 ≤ 9223372036854775807) (h3 : m ≤ 9223372036854775807) (h4 : m2 ≤ 9223372036854775807) (h5 : k ≤ 9223372036854775807) (h6 : k2 ≤ 9223372036854775807) :
    Calls Tryz.prog 12 #[.slice (some ⟨g, 0, none⟩) 3 cap] W (Brf W (decide ((n ≤ 8 ∧ n2 ≤ 8) ∧ (m ≤ 8 ∧ m2 ≤ 8) ∧ k ≤ 8 ∧ k2 ≤ 8))) := by
  have := brief_any (w := W) (g := g) (n := 3) (cap := cap) (ln := fun i => if i = 0 then n else if i = 1 then m else k) (lm := fun i => if i = 0 then n2 else if i = 1 then m2 else k2) (by omega) (fun i hi => by constructor <;> split <;> (try split) <;> assumption) (fun i hi => by
    rcases (by omega : i = 0 ∨ i = 1 ∨ i = 2) with rfl | rfl | rfl
    · exact ⟨A, c, A2, c2, h.cell (i := 1) rfl, h.cell (i := 2) rfl⟩
    · exact ⟨B, d, B2, d2, h.cell (i := 4) rfl, h.cell (i := 5) rfl⟩
    · exact ⟨C, e, C2, e2, h.cell (i := 7) rfl, h.cell (i := 8) rfl⟩)
  rwa [show decide (∀ i, i < 3 → (if i = 0 then n else if i = 1 then m else k) ≤ 8 ∧ (if i = 0 then n2 else if i = 1 then m2 else k2) ≤ 8) = decide ((n ≤ 8 ∧ n2 ≤ 8) ∧ (m ≤ 8 ∧ m2 ≤ 8) ∧ k ≤ 8 ∧ k2 ≤ 8) from decide_eq_decide.2 ⟨fun h => ⟨h 0 (by omega), h 1 (by omega), h 2 (by omega)⟩, fun h i hi => by
    rcases (by omega : i = 0 ∨ i = 1 ∨ i = 2) with rfl | rfl | rfl
    · exact h.1
    · exact h.2.1
    · exact h.2.2⟩] at this
end
/-- An argument of the laws: a fraction's digits. -/
structure ArgN (w : World) (A : Option Addr) (n : Nat) (c : Nat) (A2 : Option Addr) (n2 c2 : Nat) (ds es : List Nat) : Prop where
  l1 : LA w (.slice A n c) ds
  l2 : LA w (.slice A2 n2 c2) es
  d1 : ∀ d ∈ ds, d < 4294967296
  d2 : ∀ d ∈ es, d < 4294967296
  b1 : n ≤ 9223372036854775807
  b2 : n2 ≤ 9223372036854775807
  e1 : ds.length = n
  e2 : es.length = n2
theorem ofA {w W : World} {b : Bool} {A A2 : Option Addr} {n c n2 c2 : Nat} {ds es : List Nat} (hV : Vars w) (h : ArgN w A n c A2 n2 c2 ds es) (h1 : n ≤ 8) (h2 : n2 ≤ 8) (hw : Below w.heap.size w W) :
    Calls Tryz.prog 13 #[.agg #[.bool b, .slice A n c, .slice A2 n2 c2]] W (OpOf W (numQ b ds es)) :=
  of_any (hV.below hw) (h.l1.below hw) (h.l2.below hw) (by rw [h.e1]; exact h1) (by rw [h.e2]; exact h2) h.d1 h.d2
end Go.Proofs.YthfjbpbgnoonpaaGreatDoor
