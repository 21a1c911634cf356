/- The law PrefixOrder, whole; a list of prefixes opened, with its capacity. -/
import Derived.Test.YtgpgoadalnojdaaGreatDoorZRowKit
import Derived.Test.YtgpgoadalnojdaaGreatDoorAggL
namespace Go.Proofs.YtgpgoadalnojdaaGreatDoor
open Go.ChangeShapes Go.WideShapes Go.ChangeAt Go.RowKit Go.Deep

theorem lawOrder {w : World} {A : Option Addr} {n c : Nat} {z : Int} {xs : Nat → Nat × Int} (hL : PxL w A n xs) (hV : Vars w) (hnc : n ≤ c) (hc0 : A = none → c = 0) :
    Calls Tryz.prog 5 #[.slice A n c, .int .i64 z] w fun e w' => e = .returned (.bool true) ∧ Below w.heap.size w w' := by
  by_cases hn : n ≤ 30
  · by_cases hz : z < 0
    · exact lawOrder_neg hV hn hz
    · by_cases hz2 : (n : Int) < z
      · exact lawOrder_big hV hn hz hz2
      · obtain ⟨f, rfl⟩ := Int.eq_ofNat_of_zero_le (show 0 ≤ z by omega)
        exact lawOrder_few hL hV hn (by omega) hnc hc0
  · exact lawOrder_many hV hn
set_option maxRecDepth 100000 in
theorem open_pxc {H : Type} {enc : TypeId × Value → H} {W : World} {v : Value} {d : DataW H} {p : List MemPlace} {r : Reach} {base : Nat}
    (hval : Value.okWide Tryz.prog W r base 22 v) (h : DataW.Trod enc Tryz.prog W 0 (fun _ => true) true 22 v d p) (hlt : ∀ x ∈ p, x.block < W.heap.size) :
    ∃ A n c xs, v = .slice A n c ∧ n ≤ c ∧ (A = none → c = 0) ∧ PxL W A n xs := by
  obtain ⟨A, n, c, xs, rfl, -, hx⟩ := open_pxs hval h hlt
  refine ⟨A, n, c, xs, rfl, ?_, ?_, hx⟩
  · obtain ⟨fuel, hf⟩ := h
    rcases open_slice Tryz.underlying22 hf with ⟨hcs, -⟩ | ⟨a, len', cap', m, n', D, Pl, hcs, _, hl, -⟩
    · simp [Value.cells] at hcs
      omega
    · simp [Value.cells] at hcs
      omega
  · intro hA
    subst hA
    obtain ⟨fuel, hf⟩ := h
    rcases open_slice Tryz.underlying22 hf with ⟨hcs, -⟩ | ⟨a, len', cap', m, n', D, Pl, hcs, _, hl, -⟩
    · simp [Value.cells] at hcs
      omega
    · simp [Value.cells] at hcs
end Go.Proofs.YtgpgoadalnojdaaGreatDoor
