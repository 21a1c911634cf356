/- What the rows of layer 4's laws share: the variables out of the list, the world of the witness, a prefix opened and shut. -/
import Derived.Test.YtgpgoadalnojdaaGreatDoorPfxK
import Derived.Test.YtgpgoadalnojdaaGreatDoorCards
import Derived.Test.YtgpgoadalnojdaaGreatDoorTie
import Derived.WalkKit
import Derived.ProofKit
import Derived.OpenShut
import Derived.Deep.DeepHandedRow
import Derived.Lib.LaidTab
import Derived.Lay
import Derived.LaidSub
import Derived.HandedShaped
import Derived.Stop.LaidErr
namespace Go.Proofs.YtgpgoadalnojdaaGreatDoor
open Go.ChangeShapes Go.WideShapes Go.ChangeAt Go.RowKit

theorem ownK : ownKnob Tryz.prog.godebug = none := by kernel_rfl
theorem laidOutT : laidOutB Tryz.prog = true := by kernel_rfl
theorem gT64 : (Tryz.prog.globals[3]?).map (·.type) = some 135 := by kernel_rfl
theorem c64 : Tryz.prog.cellsOf 82 = 1 := by kernel_rfl
theorem c6420 : Tryz.prog.cellsOf 135 = 20 := by kernel_rfl
theorem cPx : Tryz.prog.cellsOf 32 = 2 := by kernel_rfl
theorem cES : Tryz.prog.cellsOf 141 = 1 := by kernel_rfl
theorem cStr : Tryz.prog.cellsOf 9 = 1 := by kernel_rfl
theorem gES : Tryz.prog.globalNamed "strconv.ErrSyntax" = some 1 := by kernel_rfl
theorem gESType : (Tryz.prog.globals[1]?).map (·.type) = some 69 := by kernel_rfl
theorem gER : Tryz.prog.globalNamed "strconv.ErrRange" = some 2 := by kernel_rfl
theorem gERType : (Tryz.prog.globals[2]?).map (·.type) = some 69 := by kernel_rfl
theorem starES : "*" ++ "errors.errorString" = "*errors.errorString" := by decide
theorem rowES (u : TypeId) (h : Tryz.prog.typeName? 3 u = some "*errors.errorString") : u = 139 :=
  typeName_ptr_named (nm := "errors.errorString") (by rw [starES]; kernel_rfl) (by kernel_rfl) (by decide) u (by rw [starES]; exact h)

abbrev laidL : List (String × DataW Unit) := Rows.prefixSameRow.laid
/-- The list of the tied variables, and the world's shape, give what the library's variables hold. -/
theorem vars {W : World} (h : laidMetH Tryz.prog laidL W) (hsh : W.ShapedOpen Tryz.prog) : Vars W := by
  refine ⟨?_, ?_, ?_, ?_⟩
  · have h1 := laidMetH.filter (fun x => x.1 == "internal/strconv.uint64pow10") h
    exact Lib.tabIs_of_head (rest := []) tab_global gT64 Tryz.underlying135 Tryz.underlying82 c64 c6420 h1
  · exact cell_of_shapedOpen_int (P := Tryz.prog) (g := 0) (t := 3) (zero := #[.int .i64 0]) hsh (of_decide_eq_true (by kernel_rfl)) (by kernel_rfl) rfl (by kernel_rfl) (by kernel_rfl) Tryz.underlying3
  · have h1 := laidMetH.filter (fun x => x.1 == "strconv.ErrSyntax") h
    obtain ⟨a0, s0, hv0, -, -, -⟩ := laid_sentinel (r := []) h1 gES gESType Tryz.underlying69 rowES Tryz.underlying139 Tryz.underlying141 rfl rfl Tryz.underlying9 cES cStr
    exact ⟨_, _, by have h0 := World.var?_cell gES hv0 0; simpa using h0⟩
  · have h1 := laidMetH.filter (fun x => x.1 == "strconv.ErrRange") h
    obtain ⟨a0, s0, hv0, -, -, -⟩ := laid_sentinel (r := []) h1 gER gERType Tryz.underlying69 rowES Tryz.underlying139 Tryz.underlying141 rfl rfl Tryz.underlying9 cES cStr
    exact ⟨_, _, by have h0 := World.var?_cell gER hv0 0; simpa using h0⟩

noncomputable def laidW (os : Os) : World := World.laidAll Tryz.prog os laidL
theorem laidW_met (os : Os) (args : Array Value) : laidMet Tryz.prog laidL ((laidW os).forCall (fun _ _ => 0) ⟨#[], args, []⟩).memory :=
  laidMet_laidAll args (by kernel_rfl) (by kernel_rfl)

set_option maxRecDepth 100000 in
/-- An argument that is a prefix. -/
theorem open_px {H : Type} {enc : TypeId × Value → H} {W : World} {v : Value} {d : DataW H} {p : List MemPlace} {r : Reach} {base : Nat}
    (hval : Value.okWide Tryz.prog W r base 32 v) (h : DataW.Trod enc Tryz.prog W 0 (fun _ => true) true 32 v d p) :
    ∃ (a : Nat) (l : Int), v = pv a l ∧ a < 4294967296 ∧ p = [] := by
  obtain ⟨c0, c1, y0, y1, n, rfl, rfl, rfl, hy0, hy1⟩ := Joins.open_agg2 Tryz.underlying32 (by kernel_rfl) cPx hval h
  obtain ⟨a, e0, rfl, wa⟩ := DataW.trod_int Tryz.underlying29 hy0
  obtain ⟨b, e1, rfl, wb⟩ := DataW.trod_int Tryz.underlying3 hy1
  simp at e0 e1
  subst e0 e1
  have ha : 0 ≤ a ∧ a < 4294967296 := by
    simp [Lit.wf, IntKind.min, IntKind.max, IntKind.signed, IntKind.bits] at wa
    omega
  obtain ⟨k, rfl⟩ := Int.eq_ofNat_of_zero_le ha.1
  exact ⟨k, b, rfl, by omega, rfl⟩
end Go.Proofs.YtgpgoadalnojdaaGreatDoor
