/- What the rows of layer 1's laws share: the table out of the list, the world of the witness, an argument opened. -/
import Derived.Test.YtapblmbjbpkieaaDoorLawText
import Derived.Test.YtapblmbjbpkieaaDoorCards
import Derived.Test.YtapblmbjbpkieaaDoorTie
import Derived.WalkKit
import Derived.ProofKit
import Derived.OpenShut
import Derived.Deep.DeepHandedRow
import Derived.Lib.LaidTab
import Derived.Lay
import Derived.LaidSub
namespace Go.Proofs.YtapblmbjbpkieaaDoor
open Go.ChangeShapes Go.WideShapes Go.ChangeAt Go.RowKit

theorem ownK : ownKnob Tryd.prog.godebug = none := by kernel_rfl
theorem gT64 : (Tryd.prog.globals[1]?).map (·.type) = some 125 := by kernel_rfl
theorem c64 : Tryd.prog.cellsOf 53 = 1 := by kernel_rfl
theorem c6420 : Tryd.prog.cellsOf 125 = 20 := by kernel_rfl
theorem c32 : Tryd.prog.cellsOf 71 = 1 := by kernel_rfl
theorem laidOutT : laidOutB Tryd.prog = true := by kernel_rfl

/-- The list of the tied variables gives the table. -/
theorem table {W : World} (h : laidMetH Tryd.prog Rows.natTextRow.laid W) : Tab W := by
  have h1 := laidMetH.filter (fun x => x.1 == "internal/strconv.uint64pow10") h
  exact Lib.tabIs_of_head (rest := []) tab_global gT64 Tryd.underlying125 Tryd.underlying53 c64 c6420 h1

noncomputable def laidW (os : Os) : World := World.laidAll Tryd.prog os Rows.natTextRow.laid
theorem laidW_met (os : Os) (args : Array Value) : laidMet Tryd.prog Rows.natTextRow.laid ((laidW os).forCall (fun _ _ => 0) ⟨#[], args, []⟩).memory :=
  laidMet_laidAll args (by kernel_rfl) (by kernel_rfl)

set_option maxRecDepth 100000 in
/-- An argument of the type []uint32. -/
theorem open_arg {H : Type} {enc : TypeId × Value → H} {W : World} {v : Value} {d : DataW H} {p : List MemPlace} {r : Reach} {base : Nat}
    (hval : Value.okWide Tryd.prog W r base 22 v) (h : DataW.Trod enc Tryd.prog W 0 (fun _ => true) true 22 v d p) (hlt : ∀ x ∈ p, x.block < W.heap.size) :
    ∃ A n c ds, v = .slice A n c ∧ n ≤ 9223372036854775807 ∧ ds.length = n ∧ (∀ d ∈ ds, d < 4294967296) ∧ LA W v ds := by
  obtain ⟨a0, len, cap, rfl⟩ := okWide_slice Tryd.underlying22 hval
  obtain ⟨fuel, hf⟩ := h
  rcases open_ints Tryd.underlying22 Tryd.underlying71 c32 hf with ⟨hcs, hx⟩ | ⟨a, len', cap', zs, hcs, _, hl, hm, hz, hx, hcell, hwz⟩
  · simp [Value.cells] at hcs
    obtain ⟨rfl, rfl, rfl⟩ := hcs
    exact ⟨none, 0, 0, [], rfl, by omega, rfl, by simp, none, 0, rfl, fun i hi => by simp at hi⟩
  · simp [Value.cells] at hcs
    obtain ⟨rfl, rfl, rfl⟩ := hcs
    simp only [Prod.mk.injEq] at hx
    obtain ⟨rfl, rfl⟩ := hx
    simp only [if_true] at hz
    have hwf : ∀ n ∈ zs, 0 ≤ n ∧ n < 4294967296 := fun n hn => by
      have := hwz n hn
      simp [Lit.wf, IntKind.min, IntKind.max, IntKind.signed, IntKind.bits] at this
      omega
    have hlen : ((zs.take len).map Int.toNat).length = len := by simp; omega
    refine ⟨some a, len, cap, (zs.take len).map Int.toNat, rfl, by unfold maxLen at hm; omega, hlen, ?_, ?_⟩
    · intro d hd
      obtain ⟨z, hz1, rfl⟩ := List.mem_map.1 hd
      have := hwf z (List.mem_of_mem_take hz1)
      omega
    · refine ⟨some a, cap, by rw [hlen], fun i hi => ?_⟩
      rw [hlen] at hi
      obtain ⟨b, off, spot⟩ := a
      refine ⟨_, rfl, hlt (.cell b off) (MemPlace.mem_row.2 ⟨0, by omega, by simp⟩), ?_⟩
      rw [hcell i (by omega)]
      have hi2 : i < zs.length := by omega
      have := hwf (zs[i]) (List.getElem_mem hi2)
      simp [u32f, List.getD, hi, hi2]
      omega
end Go.Proofs.YtapblmbjbpkieaaDoor
