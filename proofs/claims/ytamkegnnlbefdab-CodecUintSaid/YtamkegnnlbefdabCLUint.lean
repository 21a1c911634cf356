/- The walks of the laws CodecUint and CodecNumbers. -/
import Derived.Test.YtamkegnnlbefdabCoK
namespace Go.Proofs.Ytamkegnnlbefdab
open Go.RowKit

set_option maxRecDepth 100000 in
set_option maxHeartbeats 8000000 in
theorem lawUint {w : World} {A : Option Addr} {n c : Nat} {l : List UInt8} (h : By w (.slice A n c) l) : Calls Try.prog 7 #[.slice A n c] w fun e w' => e = .returned (.bool true) ∧ Below w.heap.size w w' := by
  obtain ⟨hn, hc, hc2⟩ := h.len
  have HA := Lib.hid (awake_any w)
  have H := Lib.hid h
  have HN := Lib.hid hn
  clear h hn
  by_cases h100 : n ≤ 100
  · have g1 : ¬ ((n : Int) > 100) := by omega
    by_cases hs : n < 1 ∨ 8 < n
    · have HU := Lib.hid (fun W => uint_bad (w := W) (A := A) (c := c) hs (by omega))
      rcases hs with hs | hs
      · have g2 : (n : Int) < 1 := by omega
        go_enter Try.func7, Try.ntmps7
        go_wp2_with fail
        refine HA.out.mono ?_
        rintro e w1 ⟨rfl, hb⟩
        have HB := Lib.hid hb
        clear hb HA
        go_wp2_with fail
        refine (HU.out _).mono ?_
        rintro e w2 ⟨rfl, rfl⟩
        go_wp2_with fail
        go_ret
        exact ⟨rfl, HB.out⟩
      · have g2 : ¬ ((n : Int) < 1) := by omega
        have g3 : (n : Int) > 8 := by omega
        go_enter Try.func7, Try.ntmps7
        go_wp2_with fail
        refine HA.out.mono ?_
        rintro e w1 ⟨rfl, hb⟩
        have HB := Lib.hid hb
        clear hb HA
        go_wp2_with fail
        refine (HU.out _).mono ?_
        rintro e w2 ⟨rfl, rfl⟩
        go_wp2_with fail
        go_ret
        exact ⟨rfl, HB.out⟩
    · have g2 : ¬ ((n : Int) < 1) := by omega
      have g3 : ¬ ((n : Int) > 8) := by omega
      have b1 : 1 ≤ n := by omega
      have b2 : n ≤ 8 := by omega
      have HU := Lib.hid (fun W (hw : Below w.heap.size w W) => uint_any (H.out.below hw) b1 b2)
      have HF := Lib.hid (fun W (hw : Below w.heap.size w W) => refUint_any (H.out.below hw) (by have := HN.out; omega))
      clear hs b1 b2
      go_enter Try.func7, Try.ntmps7
      go_wp2_with fail
      refine HA.out.mono ?_
      rintro e w1 ⟨rfl, hb⟩
      have HB := Lib.hid hb
      clear hb HA
      go_wp2_with fail
      refine (HU.out _ HB.out).mono ?_
      rintro e w2 ⟨rfl, rfl⟩
      go_wp2_with fail
      refine (HF.out _ HB.out).mono ?_
      rintro e w2 ⟨rfl, rfl⟩
      go_wp2_with fail
      go_ret
      exact ⟨rfl, HB.out⟩
  · have g1 : (n : Int) > 100 := by omega
    go_enter Try.func7, Try.ntmps7
    go_wp2_with fail
    refine HA.out.mono ?_
    rintro e w1 ⟨rfl, hb⟩
    have HB := Lib.hid hb
    clear hb HA
    go_wp2_with fail
    go_ret
    exact ⟨rfl, HB.out⟩
end Go.Proofs.Ytamkegnnlbefdab
