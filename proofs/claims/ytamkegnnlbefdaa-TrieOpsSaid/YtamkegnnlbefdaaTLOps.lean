/- The law TrieOps. -/
import Derived.Test.YtamkegnnlbefdaaTLOrder
import Derived.Test.YtamkegnnlbefdaaTrBj
namespace Go.Proofs.Ytamkegnnlbefdaa
open Go.RowKit

set_option maxRecDepth 100000 in
set_option maxHeartbeats 8000000 in
theorem lawOps {w : World} {v : Value} {ops : List OpV} (h : OpsL w v ops) : Calls Try.prog 3 #[v] w fun e W => e = .returned (.bool true) ∧ Below w.heap.size w W := by
  have hA := Lib.hid (fun W => awake_any W)
  have HO := Lib.hid h
  obtain ⟨A, c, rfl, -⟩ := h
  by_cases hn : ops.length ≤ 80
  · have hB := Lib.hid (fun W (hW : Below w.heap.size w W) => build_any (HO.out.below hW) hn)
    obtain ⟨n, hnn⟩ : ∃ n, ops.length = n := ⟨_, rfl⟩
    rw [hnn] at hn hB ⊢
    have hn1 : ¬ (80 : Int) < (n : Int) := by omega
    have hn2 : (n : Int) ≤ 80 := by omega
    clear hnn HO
    go_enter Try.func3, Try.ntmps3
    go_wp2_with fail
    refine (hA.out _).mono ?_
    rintro e w1 ⟨rfl, hb⟩
    have HL := Lib.hid hb
    clear hb hA
    have hB2 := Lib.hid (hB.out w1 HL.out)
    clear hB
    go_wp2_with fail
    refine hB2.out.mono ?_
    rintro e w2 ⟨gt, T, vr, rfl, hb, hl⟩
    have HW2 := Lib.hid (HL.out.trans (hb.1.own.low.mono HL.out.size))
    have HB := Lib.hid hb
    have hwf := Lib.hid hb.1.own.wf
    have hR := Lib.hid (routes_own hb.1.own (by omega))
    have hNd := Lib.hid (fun W (hW : Below w2.heap.size w2 W) => own_nodes (hb.1.own.below hW))
    have hLn := Lib.hid (fun W (hW : Below w2.heap.size w2 W) => own_len (hb.1.own.below hW))
    have hSm := Lib.hid (fun W v1 (hW : Below w2.heap.size w2 W) (ho : OwnT w2.heap.size W v1 (routes T)) => same_any ho.tl (hb.2.tl.below hW) (by omega))
    have hRN := Lib.hid (fun W (hW : Below w2.heap.size w2 W) => refNodes_any (hb.2.tl.below hW) (routes_vld hwf.out) (by omega))
    rw [nodes_cnt hwf.out] at hRN
    obtain ⟨A2, c2, rfl, -⟩ := hb.2.form
    unfold ptr at hNd hLn
    obtain ⟨L, hL⟩ : ∃ L, (routes T).length = L := ⟨_, rfl⟩
    obtain ⟨N, hN⟩ : ∃ N, cnt T = N := ⟨_, rfl⟩
    rw [hL] at hLn hSm hRN hl ⊢
    rw [hN] at hNd hRN
    clear hB2 HL hb hL hN
    go_wp2_with fail
    refine hR.out.mono ?_
    rintro e w3 ⟨v1, rfl, ho, hb⟩
    have HB3 := Lib.hid hb
    have hS := Lib.hid (hSm.out w3 v1 hb ho)
    clear ho hb hR hSm
    go_wp2_with fail
    refine hS.out.mono ?_
    rintro e w4 ⟨rfl, hb⟩
    have HB4 := Lib.hid (HB3.out.trans (hb.mono HB3.out.size))
    have q1 := Lib.hid (hLn.out w4 HB4.out)
    have q2 := Lib.hid (hNd.out w4 HB4.out)
    have q3 := Lib.hid (hRN.out w4 HB4.out)
    have HE := Lib.hid (HW2.out.trans (HB4.out.mono HW2.out.size))
    clear hb hS HB3 hLn hNd hRN HB4 HW2
    go_wp2_with fail
    refine q1.out.mono ?_
    rintro e w' ⟨rfl, rfl⟩
    go_wp2_with fail
    refine q2.out.mono ?_
    rintro e w' ⟨rfl, rfl⟩
    go_wp2_with fail
    refine q3.out.mono ?_
    rintro e w5 ⟨rfl, hb⟩
    have HE2 := Lib.hid (HE.out.trans (hb.mono HE.out.size))
    clear hb
    go_wp2_with fail
    go_ret
    exact ⟨rfl, HE2.out⟩
  · obtain ⟨n, hnn⟩ : ∃ n, ops.length = n := ⟨_, rfl⟩
    rw [hnn] at hn ⊢
    have hn1 : (80 : Int) < (n : Int) := by omega
    clear hnn HO
    go_enter Try.func3, Try.ntmps3
    go_wp2_with fail
    refine (hA.out _).mono ?_
    rintro e w1 ⟨rfl, hb⟩
    have HL := Lib.hid hb
    clear hb
    go_wp2_with fail
    refine (hA.out _).mono ?_
    rintro e w2 ⟨rfl, hb⟩
    have HL2 := Lib.hid (HL.out.trans (hb.mono HL.out.size))
    clear hb hA
    go_wp2_with fail
    go_ret
    exact ⟨rfl, HL2.out⟩
end Go.Proofs.Ytamkegnnlbefdaa
