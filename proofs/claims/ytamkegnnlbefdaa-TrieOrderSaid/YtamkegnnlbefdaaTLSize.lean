/- The law TrieSize. -/
import Derived.Test.YtamkegnnlbefdaaTrBe
namespace Go.Proofs.Ytamkegnnlbefdaa
open Go.RowKit

theorem size_bounds {T : Tr} (hw : WF T) : (routes T).length ≤ cnt T ∧ (0 < (routes T).length → cnt T + 1 ≤ 2 * (routes T).length) ∧ ((routes T).length = 0 → cnt T = 0) := by
  obtain ⟨h1, h2, h3⟩ := cnt_bounds hw
  refine ⟨h1, fun h => ?_, fun h => ?_⟩
  · cases hn : T.isNil with
    | true => have := h3 hn; omega
    | false => exact h2 hn
  · cases hn : T.isNil with
    | true => exact h3 hn
    | false => have := h2 hn; omega
set_option maxRecDepth 100000 in
set_option maxHeartbeats 8000000 in
theorem lawSize {w : World} {v : Value} {ops : List OpV} (h : OpsL w v ops) : Calls Try.prog 6 #[v] w fun e W => e = .returned (.bool true) ∧ Below w.heap.size w W := by
  have hA := Lib.hid (fun W => awake_any W)
  have HO := Lib.hid h
  obtain ⟨A, c, rfl, -⟩ := h
  by_cases hn : ops.length ≤ 80
  · have hB := Lib.hid (fun W (hW : Below w.heap.size w W) => build_any (HO.out.below hW) hn)
    obtain ⟨n, hnn⟩ : ∃ n, ops.length = n := ⟨_, rfl⟩
    rw [hnn] at hn hB ⊢
    have hn1 : ¬ (80 : Int) < (n : Int) := by omega
    have hn2 : (n : Int) ≤ 80 := by omega
    clear hnn HO
    go_enter Try.func6, Try.ntmps6
    go_wp2_with fail
    refine (hA.out _).mono ?_
    rintro e w1 ⟨rfl, hb⟩
    have HL := Lib.hid hb
    clear hb hA
    have hB2 := Lib.hid (hB.out w1 HL.out)
    clear hB
    go_wp2_with fail
    refine hB2.out.mono ?_
    rintro e w2 ⟨gt, T, vr, rfl, hb, hl⟩
    have HL2 := Lib.hid (HL.out.trans (hb.1.own.low.mono HL.out.size))
    have hS := size_bounds hb.1.own.wf
    have q3 := Lib.hid (own_len hb.1.own)
    have q4 := Lib.hid (own_nodes hb.1.own)
    unfold ptr at q3 q4
    obtain ⟨L, hL⟩ : ∃ L, (routes T).length = L := ⟨_, rfl⟩
    obtain ⟨N, hN⟩ : ∃ N, cnt T = N := ⟨_, rfl⟩
    rw [hL] at hS q3 hl
    rw [hN] at hS q4
    obtain ⟨s1, s2, s3⟩ := hS
    have k1 : (L : Int) ≤ (N : Int) := by omega
    have k2 : IntKind.i64.wrap (2 * (L : Int)) = 2 * (L : Int) := IntWalk.i64_in _ (by omega)
    have k3 : IntKind.i64.wrap (2 * (L : Int) - 1) = 2 * (L : Int) - 1 := IntWalk.i64_in _ (by omega)
    have k4 : (N : Int) ≤ max 0 (2 * (L : Int) - 1) := by omega
    clear hB2 HL hb hL hN s1 s2 s3 hl
    go_wp2_with fail
    refine q4.out.mono ?_
    rintro e w' ⟨rfl, rfl⟩
    go_wp2_with fail
    refine q3.out.mono ?_
    rintro e w' ⟨rfl, rfl⟩
    go_wp2_with fail
    refine q4.out.mono ?_
    rintro e w' ⟨rfl, rfl⟩
    go_wp2_with fail
    refine q3.out.mono ?_
    rintro e w' ⟨rfl, rfl⟩
    go_wp2_with fail
    go_ret
    exact ⟨rfl, HL2.out⟩
  · obtain ⟨n, hnn⟩ : ∃ n, ops.length = n := ⟨_, rfl⟩
    rw [hnn] at hn ⊢
    have hn1 : (80 : Int) < (n : Int) := by omega
    clear hnn HO
    go_enter Try.func6, Try.ntmps6
    go_wp2_with fail
    refine (hA.out _).mono ?_
    rintro e w1 ⟨rfl, hb⟩
    have HL := Lib.hid hb
    clear hb
    go_wp2_with fail
    refine (hA.out _).mono ?_
    rintro e w2 ⟨rfl, hb⟩
    have HL2 := Lib.hid (HL.out.trans (hb.mono HL.out.size))
    clear hb hA
    go_wp2_with fail
    go_ret
    exact ⟨rfl, HL2.out⟩
end Go.Proofs.Ytamkegnnlbefdaa
