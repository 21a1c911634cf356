/- The law NatAlgebra on lists that are not small. -/
import Derived.Test.YtdbhlmifioccgaaDoorSame
namespace Go.Proofs.YtdbhlmifioccgaaDoor
open Go.RowKit

set_option maxRecDepth 100000 in
set_option maxHeartbeats 4000000 in
theorem lawAlg_large {A B C : Option Addr} {n m l c c2 c3 : Nat} {w : World} (hlen : 12 < n ∨ 12 < m) (hn : n ≤ 9223372036854775807) (hm : m ≤ 9223372036854775807) (hT : Tab w) :
    Calls Tryd.prog 9 #[.slice A n c, .slice B m c2, .slice C l c3] w fun e w' => e = .returned (.bool true) ∧ Below w.heap.size w w' := by
  have hAw := awake_any hT
  have hSm := Lib.hid (fun W : World => small_any (w := W) (a := .slice A n c) (b := .slice B m c2) rfl rfl hn hm)
  have hsm1 : (decide (n ≤ 12) && decide (m ≤ 12)) = false := by simp; omega
  rw [hsm1] at hSm
  clear hT hsm1
  go_enter Tryd.func9, Tryd.ntmps9
  go_wp2_with fail
  refine hAw.mono ?_
  rintro e w1 ⟨rfl, hb1⟩
  clear hAw
  go_wp2_with fail
  refine (hSm.out _).mono ?_
  rintro e w1' ⟨rfl, rfl⟩
  go_wp2_with fail
  go_ret
  exact ⟨rfl, hb1⟩

set_option maxRecDepth 100000 in
set_option maxHeartbeats 4000000 in
theorem lawAlg_third {A B C : Option Addr} {n m l c c2 c3 : Nat} {w : World} (hn : n ≤ 12) (hm : m ≤ 12) (hl : 12 < l) (hl2 : l ≤ 9223372036854775807) (hT : Tab w) :
    Calls Tryd.prog 9 #[.slice A n c, .slice B m c2, .slice C l c3] w fun e w' => e = .returned (.bool true) ∧ Below w.heap.size w w' := by
  have hAw := awake_any hT
  have hSm := Lib.hid (fun W : World => small_any (w := W) (a := .slice A n c) (b := .slice B m c2) rfl rfl (by omega) (by omega))
  have hsm1 : (decide (n ≤ 12) && decide (m ≤ 12)) = true := by simp [hn, hm]
  rw [hsm1] at hSm
  have hSm2 := Lib.hid (fun W : World => small_any (w := W) (a := .slice C l c3) (b := .slice none 0 0) rfl rfl hl2 (by omega))
  have hsm2 : (decide (l ≤ 12) && decide (0 ≤ 12)) = false := by simp; omega
  rw [hsm2] at hSm2
  clear hT hsm1 hsm2
  go_enter Tryd.func9, Tryd.ntmps9
  go_wp2_with fail
  refine hAw.mono ?_
  rintro e w1 ⟨rfl, hb1⟩
  clear hAw
  go_wp2_with fail
  refine (hSm.out _).mono ?_
  rintro e w1' ⟨rfl, rfl⟩
  go_wp2_with fail
  refine (hSm2.out _).mono ?_
  rintro e w1' ⟨rfl, rfl⟩
  go_wp2_with fail
  go_ret
  exact ⟨rfl, hb1⟩
end Go.Proofs.YtdbhlmifioccgaaDoor
