/- What the rows of layer 4's laws share: the variables out of the list, the world of the witness, a prefix opened and shut. -/
import Derived.Test.YtgpgoadalnojdaaDoorPfxK
import Derived.Test.YtgpgoadalnojdaaDoorCards
import Derived.Test.YtgpgoadalnojdaaDoorTie
import Derived.WalkKit
import Derived.ProofKit
import Derived.OpenShut
import Derived.Deep.DeepHandedRow
import Derived.Lib.LaidTab
import Derived.Lay
import Derived.LaidSub
import Derived.HandedShaped
import Derived.Stop.LaidErr
namespace Go.Proofs.YtgpgoadalnojdaaDoor
open Go.ChangeShapes Go.WideShapes Go.ChangeAt Go.RowKit

theorem ownK : ownKnob Tryd.prog.godebug = none := by kernel_rfl
theorem laidOutT : laidOutB Tryd.prog = true := by kernel_rfl
theorem gT64 : (Tryd.prog.globals[1]?).map (·.type) = some 94 := by kernel_rfl
theorem c64 : Tryd.prog.cellsOf 76 = 1 := by kernel_rfl
theorem c6420 : Tryd.prog.cellsOf 94 = 20 := by kernel_rfl
theorem cPx : Tryd.prog.cellsOf 24 = 2 := by kernel_rfl
theorem cES : Tryd.prog.cellsOf 112 = 1 := by kernel_rfl
theorem cStr : Tryd.prog.cellsOf 9 = 1 := by kernel_rfl
theorem gES : Tryd.prog.globalNamed "strconv.ErrSyntax" = some 2 := by kernel_rfl
theorem gESType : (Tryd.prog.globals[2]?).map (·.type) = some 59 := by kernel_rfl
theorem gER : Tryd.prog.globalNamed "strconv.ErrRange" = some 3 := by kernel_rfl
theorem gERType : (Tryd.prog.globals[3]?).map (·.type) = some 59 := by kernel_rfl
theorem starES : "*" ++ "errors.errorString" = "*errors.errorString" := by decide
theorem rowES (u : TypeId) (h : Tryd.prog.typeName? 3 u = some "*errors.errorString") : u = 110 :=
  typeName_ptr_named (nm := "errors.errorString") (by rw [starES]; kernel_rfl) (by kernel_rfl) (by decide) u (by rw [starES]; exact h)

abbrev laidL : List (String × DataW Unit) := Rows.prefixContainsRow.laid
/-- The list of the tied variables, and the world's shape, give what the library's variables hold. -/
theorem vars {W : World} (h : laidMetH Tryd.prog laidL W) (hsh : W.ShapedOpen Tryd.prog) : Vars W := by
  refine ⟨?_, ?_, ?_, ?_⟩
  · have h1 := laidMetH.filter (fun x => x.1 == "internal/strconv.uint64pow10") h
    exact Lib.tabIs_of_head (rest := []) tab_global gT64 Tryd.underlying94 Tryd.underlying76 c64 c6420 h1
  · exact cell_of_shapedOpen_int (P := Tryd.prog) (g := 0) (t := 3) (zero := #[.int .i64 0]) hsh (of_decide_eq_true (by kernel_rfl)) (by kernel_rfl) rfl (by kernel_rfl) (by kernel_rfl) Tryd.underlying3
  · have h1 := laidMetH.filter (fun x => x.1 == "strconv.ErrSyntax") h
    obtain ⟨a0, s0, hv0, -, -, -⟩ := laid_sentinel (r := []) h1 gES gESType Tryd.underlying59 rowES Tryd.underlying110 Tryd.underlying112 rfl rfl Tryd.underlying9 cES cStr
    exact ⟨_, _, by have h0 := World.var?_cell gES hv0 0; simpa using h0⟩
  · have h1 := laidMetH.filter (fun x => x.1 == "strconv.ErrRange") h
    obtain ⟨a0, s0, hv0, -, -, -⟩ := laid_sentinel (r := []) h1 gER gERType Tryd.underlying59 rowES Tryd.underlying110 Tryd.underlying112 rfl rfl Tryd.underlying9 cES cStr
    exact ⟨_, _, by have h0 := World.var?_cell gER hv0 0; simpa using h0⟩

noncomputable def laidW (os : Os) : World := World.laidAll Tryd.prog os laidL
theorem laidW_met (os : Os) (args : Array Value) : laidMet Tryd.prog laidL ((laidW os).forCall (fun _ _ => 0) ⟨#[], args, []⟩).memory :=
  laidMet_laidAll args (by kernel_rfl) (by kernel_rfl)

set_option maxRecDepth 100000 in
/-- An argument that is a prefix. -/
theorem open_px {H : Type} {enc : TypeId × Value → H} {W : World} {v : Value} {d : DataW H} {p : List MemPlace} {r : Reach} {base : Nat}
    (hval : Value.okWide Tryd.prog W r base 24 v) (h : DataW.Trod enc Tryd.prog W 0 (fun _ => true) true 24 v d p) :
    ∃ (a : Nat) (l : Int), v = pv a l ∧ a < 4294967296 ∧ p = [] := by
  obtain ⟨c0, c1, y0, y1, n, rfl, rfl, rfl, hy0, hy1⟩ := Joins.open_agg2 Tryd.underlying24 (by kernel_rfl) cPx hval h
  obtain ⟨a, e0, rfl, wa⟩ := DataW.trod_int Tryd.underlying22 hy0
  obtain ⟨b, e1, rfl, wb⟩ := DataW.trod_int Tryd.underlying3 hy1
  simp at e0 e1
  subst e0 e1
  have ha : 0 ≤ a ∧ a < 4294967296 := by
    simp [Lit.wf, IntKind.min, IntKind.max, IntKind.signed, IntKind.bits] at wa
    omega
  obtain ⟨k, rfl⟩ := Int.eq_ofNat_of_zero_le ha.1
  exact ⟨k, b, rfl, by omega, rfl⟩
end Go.Proofs.YtgpgoadalnojdaaDoor
