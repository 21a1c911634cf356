/- What the rows of layer 5's laws share: arguments opened. -/
import Derived.Test.YtamkegnnlbefdaaRows
import Derived.Test.YtamkegnnlbefdaaTrB
import Derived.WalkKit
import Derived.ProofKit
import Derived.OpenShut
import Derived.Deep.Slices
import Derived.Deep.Fields
import Derived.Lib.SmallJoins
namespace Go.Proofs.Ytamkegnnlbefdaa
open Go.ChangeShapes Go.WideShapes Go.ChangeAt Go.RowKit Go.Deep

theorem ownK : ownKnob Try.prog.godebug = none := by kernel_rfl
theorem laidOutT : laidOutB Try.prog = true := by kernel_rfl
theorem cRt : Try.prog.cellsOf 37 = 3 := by kernel_rfl
theorem cPx : Try.prog.cellsOf 35 = 2 := by kernel_rfl
theorem cInt : Try.prog.cellsOf 3 = 1 := by kernel_rfl
theorem cU32 : Try.prog.cellsOf 33 = 1 := by kernel_rfl
theorem two_of {α : Type} {xs : List α} (h : xs.length = 2) : ∃ a b, xs = [a, b] := by
  match xs, h with
  | [a, b], _ => exact ⟨a, b, rfl⟩
set_option maxRecDepth 100000 in
/-- The cells of a prefix, read. -/
theorem open_pcells {H : Type} {enc : TypeId × Value → H} {W : World} {k : Nat} {c0 c1 : Value} {y : DataW H × List MemPlace}
    (h : DataW.trod enc Try.prog W 0 (fun _ => true) true k 35 [c0, c1] = some y) : ∃ (a : Nat) (l : Int), c0 = .int .u32 (a : Int) ∧ c1 = .int .i64 l ∧ a < 4294967296 ∧ y.2 = [] := by
  obtain ⟨xs, n, -, hx, -, hlen, hg⟩ := DataW.trod_struct Try.underlying35 h
  obtain ⟨y0, y1, rfl⟩ := two_of hlen
  have h0 := hg 0 _ rfl
  have h1 := hg 1 _ rfl
  simp only [List.getElem_toArray, List.getElem_cons_zero, List.getElem_cons_succ, cU32, cInt] at h0 h1
  obtain ⟨n0, e0, f0, w0⟩ := DataW.trod_int Try.underlying33 (by simpa using h0)
  obtain ⟨n1, e1, f1, w1⟩ := DataW.trod_int Try.underlying3 (by simpa using h1)
  obtain rfl : c0 = .int .u32 n0 := by simpa using e0
  obtain rfl : c1 = .int .i64 n1 := by simpa using e1
  simp [Lit.wf, IntKind.min, IntKind.max, IntKind.signed, IntKind.bits] at w0
  refine ⟨n0.toNat, n1, by rw [Int.toNat_of_nonneg (by omega)], rfl, by omega, ?_⟩
  rw [hx, f0, f1]
  rfl
set_option maxRecDepth 100000 in
/-- The cells of a route, read. -/
theorem open_rcells {H : Type} {enc : TypeId × Value → H} {W : World} {k : Nat} {c0 c1 c2 : Value} {y : DataW H × List MemPlace}
    (h : DataW.trod enc Try.prog W 0 (fun _ => true) true k 37 [c0, c1, c2] = some y) : ∃ (a : Nat) (l z : Int), c0 = .int .u32 (a : Int) ∧ c1 = .int .i64 l ∧ c2 = .int .i64 z ∧ a < 4294967296 ∧ y.2 = [] := by
  obtain ⟨xs, n, -, hx, -, hlen, hg⟩ := DataW.trod_struct Try.underlying37 h
  obtain ⟨y0, y1, rfl⟩ := two_of hlen
  have h0 := hg 0 _ rfl
  have h1 := hg 1 _ rfl
  simp only [List.getElem_toArray, List.getElem_cons_zero, List.getElem_cons_succ, cPx, cInt] at h0 h1
  obtain ⟨a, l, rfl, rfl, ha, p0⟩ := open_pcells (c0 := c0) (c1 := c1) (by simpa using h0)
  obtain ⟨n1, e1, f1, w1⟩ := DataW.trod_int Try.underlying3 (by simpa using h1)
  obtain rfl : c2 = .int .i64 n1 := by simpa using e1
  refine ⟨a, l, n1, rfl, rfl, rfl, ha, ?_⟩
  rw [hx, f1]
  simp [p0]
set_option maxRecDepth 100000 in
/-- An argument that is a route. -/
theorem open_route {H : Type} {enc : TypeId × Value → H} {W : World} {v : Value} {d : DataW H} {p : List MemPlace} {r : Reach} {base : Nat}
    (hval : Value.okWide Try.prog W r base 37 v) (h : DataW.Trod enc Try.prog W 0 (fun _ => true) true 37 v d p) :
    ∃ (a : Nat) (l z : Int), v = .agg #[.int .u32 (a : Int), .int .i64 l, .int .i64 z] ∧ a < 4294967296 ∧ p = [] := by
  obtain ⟨cs, rfl, hsz⟩ := okWide_struct Try.underlying37 hval
  rw [cRt] at hsz
  obtain ⟨c0, c1, c2, rfl⟩ := Joins.array3 hsz
  obtain ⟨fuel, hf⟩ := h
  obtain ⟨a, l, z, rfl, rfl, rfl, ha, hp⟩ := open_rcells (by simpa [Value.cells] using hf)
  exact ⟨a, l, z, rfl, ha, hp⟩
end Go.Proofs.Ytamkegnnlbefdaa
