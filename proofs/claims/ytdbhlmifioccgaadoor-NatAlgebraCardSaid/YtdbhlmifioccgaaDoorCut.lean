/- A slice expression with three indexes, of a whole row. -/
import Derived.Test.YtdbhlmifioccgaaDoorMul
namespace Go.Proofs.YtdbhlmifioccgaaDoor
open Go.RowKit
/-- The offset of a cut: a cut without room keeps the old address. -/
def cutOff (i n : Nat) : Nat := if n = 0 then 0 else i
set_option maxHeartbeats 400000 in
theorem run_cut (g N i n : Nat) (h : i + n ≤ N) (_hN : N ≤ 1000000000) (w : World) :
    (Instr.slice 22 (.slice (some ⟨g, 0, none⟩) N N) (some (.int .i64 (i : Int))) (some (.int .i64 ((i : Int) + (n : Int)))) (some (.int .i64 ((i : Int) + (n : Int))))).run Tryd.prog w = .ok (.slice (some ⟨g, cutOff i n, none⟩) n n) w := by
  have hs : (Go.sizeOf 71).run Tryd.prog w = .ok 1 w := by kernel_rfl
  unfold Instr.slice Instr.sliceBounds
  simp [run_underlying Tryd.underlying22]
  have b (W : World) (k : Int) (y m : Nat) (c : BoundsCode) (e : k = (m : Int)) (hm : m ≤ y) : (Instr.sliceBound (.int .i64 k) y c).run Tryd.prog W = .ok m W := by
    subst e
    have := run_sliceBound (P := Tryd.prog) (w := W) .i64 (m : Int) y c (by omega) (by omega)
    simpa using this
  rw [b w _ N (i + n) _ (by omega) h]
  simp only [Result.andThen_ok]
  rw [b w _ (i + n) (i + n) _ (by omega) (Nat.le_refl _)]
  simp only [Result.andThen_ok]
  rw [b w _ (i + n) i _ rfl (by omega)]
  simp only [Result.andThen_ok, Nat.add_sub_cancel_left]
  unfold cutOff
  by_cases h0 : n = 0
  · rw [if_pos (by omega), if_pos h0]
  · rw [if_neg (by omega), if_neg h0, row_at]
end Go.Proofs.YtdbhlmifioccgaaDoor
