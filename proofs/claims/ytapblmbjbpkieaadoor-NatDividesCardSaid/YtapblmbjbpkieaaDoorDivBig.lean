/- The law NatDivides on lists that are not small. -/
import Derived.Test.YtapblmbjbpkieaaDoorAwake
namespace Go.Proofs.YtapblmbjbpkieaaDoor
open Go.RowKit

set_option maxRecDepth 100000 in
set_option maxHeartbeats 4000000 in
theorem lawDiv_large {A B C : Option Addr} {n m l c c2 c3 : Nat} {w : World} (h : 8 < n ∨ 8 < m ∨ 8 < l) (hT : Tab w) :
    Calls Tryd.prog 10 #[.slice A n c, .slice B m c2, .slice C l c3] w fun e w' => e = .returned (.bool true) ∧ Below w.heap.size w w' := by
  have hAw := awake_any hT
  clear hT
  by_cases h1 : 8 < n
  · have h1' : (8 : Int) < (n : Int) := by omega
    clear h
    go_enter Tryd.func10, Tryd.ntmps10
    go_wp2_with fail
    refine hAw.mono ?_
    rintro e w1 ⟨rfl, hb1⟩
    go_wp2_with fail
    go_ret
    exact ⟨rfl, hb1⟩
  have h1' : ¬ (8 : Int) < (n : Int) := by omega
  by_cases h2 : 8 < m
  · have h2' : (8 : Int) < (m : Int) := by omega
    clear h
    go_enter Tryd.func10, Tryd.ntmps10
    go_wp2_with fail
    refine hAw.mono ?_
    rintro e w1 ⟨rfl, hb1⟩
    go_wp2_with fail
    go_ret
    exact ⟨rfl, hb1⟩
  have h2' : ¬ (8 : Int) < (m : Int) := by omega
  have h3 : 8 < l := by omega
  have h3' : (8 : Int) < (l : Int) := by omega
  clear h
  go_enter Tryd.func10, Tryd.ntmps10
  go_wp2_with fail
  refine hAw.mono ?_
  rintro e w1 ⟨rfl, hb1⟩
  go_wp2_with fail
  go_ret
  exact ⟨rfl, hb1⟩
end Go.Proofs.YtapblmbjbpkieaaDoor
