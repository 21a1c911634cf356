/- What the rows of layer 2's laws share: the variables out of the list, the world of the witness. -/
import Derived.Test.YthfjbpbgnoonpaaGreatDoorRI
import Derived.Test.YthfjbpbgnoonpaaGreatDoorCards
import Derived.Test.YthfjbpbgnoonpaaGreatDoorTie
import Derived.WalkKit
import Derived.ProofKit
import Derived.OpenShut
import Derived.Deep.DeepHandedRow
import Derived.Lib.LaidTab
import Derived.Lay
import Derived.LaidSub
import Derived.HandedShaped
namespace Go.Proofs.YthfjbpbgnoonpaaGreatDoor
open Go.ChangeShapes Go.WideShapes Go.ChangeAt Go.RowKit

theorem ownK : ownKnob Tryz.prog.godebug = none := by kernel_rfl
theorem laidOutT : laidOutB Tryz.prog = true := by kernel_rfl
theorem gT64 : (Tryz.prog.globals[2]?).map (·.type) = some 178 := by kernel_rfl
theorem c64 : Tryz.prog.cellsOf 38 = 1 := by kernel_rfl
theorem c6420 : Tryz.prog.cellsOf 178 = 20 := by kernel_rfl
theorem c32 : Tryz.prog.cellsOf 90 = 1 := by kernel_rfl
abbrev laidL : List (String × DataW Unit) := Rows.rationalOfRow.laid
/-- The list of the tied variables, and the world's shape, give what the library's variables hold. -/
theorem vars {W : World} (h : laidMetH Tryz.prog laidL W) (hsh : W.ShapedOpen Tryz.prog) : Vars W := by
  refine ⟨?_, ?_⟩
  · have h1 := laidMetH.filter (fun x => x.1 == "internal/strconv.uint64pow10") h
    exact Lib.tabIs_of_head (rest := []) tab_global gT64 Tryz.underlying178 Tryz.underlying38 c64 c6420 h1
  · exact cell_of_shapedOpen_int (P := Tryz.prog) (g := 1) (t := 3) (zero := #[.int .i64 0]) hsh (of_decide_eq_true (by kernel_rfl)) (by kernel_rfl) rfl (by kernel_rfl) (by kernel_rfl) Tryz.underlying3
noncomputable def laidW (os : Os) : World := World.laidAll Tryz.prog os laidL
theorem laidW_met (os : Os) (args : Array Value) : laidMet Tryz.prog laidL ((laidW os).forCall (fun _ _ => 0) ⟨#[], args, []⟩).memory :=
  laidMet_laidAll args (by kernel_rfl) (by kernel_rfl)
end Go.Proofs.YthfjbpbgnoonpaaGreatDoor
