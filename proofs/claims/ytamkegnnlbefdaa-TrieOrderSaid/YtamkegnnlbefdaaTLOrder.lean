/- The law TrieOrder. -/
import Derived.Test.YtamkegnnlbefdaaTrBf
import Derived.Test.YtamkegnnlbefdaaTrBg
import Derived.Test.YtamkegnnlbefdaaTLSize
namespace Go.Proofs.Ytamkegnnlbefdaa
open Go.RowKit

theorem routes_vld {T : Tr} (hw : WF T) : ∀ r ∈ routes T, Vld r.1 := fun r hr => wf_vld hw _ (routes_prefs r hr)
theorem routes_own {w W : World} {gt : Nat} {T : Tr} (h : Own w gt T W) (hl : (routes T).length ≤ 1000) : Calls Try.prog 13 #[.pointer (some ⟨gt, 0, none⟩)] W (RtQ W T) := by
  obtain ⟨S0, h1, h2, h3, h4⟩ := h
  exact routes_any h1 (by omega)
/-- What has been put into the other trie when the rounds from i on are still to come. -/
def OrP (L : List Rt) (s i : Nat) (U : Tr) : Prop := (routes U).length + i ≤ L.length ∧ ∀ x, x ∈ routes U ↔ ∃ j, i < j ∧ j ≤ L.length ∧ L[(j + s) % L.length]? = some x
theorem OrP.start (L : List Rt) (s : Nat) : OrP L s L.length .nil := by
  refine ⟨by simp [routes], fun x => ?_⟩
  simp only [routes, List.not_mem_nil, false_iff]
  rintro ⟨j, h1, h2, -⟩
  omega
theorem OrP.step {L : List Rt} {s i : Nat} {U : Tr} {x : Rt} (h : OrP L s i U) (hL : Srt L) (hi : 0 < i) (hx : L[(i + s) % L.length]? = some x) (hp : Vld x.1) (hw : WF U) : OrP L s (i - 1) (put comF x.1 x.2 U) := by
  obtain ⟨h1, h2⟩ := h
  refine ⟨?_, fun y => ?_⟩
  · have := insR_len (x.1, x.2) (routes U) false
    rw [put_routes com_is hp hw]
    omega
  · rw [put_mem com_is hp hw, h2]
    have hxm : x ∈ L := List.mem_of_getElem? hx
    constructor
    · rintro (rfl | ⟨⟨j, k1, k2, k3⟩, -⟩)
      · exact ⟨i, by omega, by omega, hx⟩
      · exact ⟨j, by omega, k2, k3⟩
    · rintro ⟨j, k1, k2, k3⟩
      by_cases hji : j = i
      · subst hji
        rw [hx] at k3
        exact .inl (Option.some.inj k3).symm
      · by_cases hk : y.1 = x.1
        · exact .inl (srt_key hL (List.mem_of_getElem? k3) hxm hk)
        · exact .inr ⟨⟨j, by omega, k2, k3⟩, hk⟩
theorem OrP.stop {L : List Rt} {s : Nat} {U : Tr} (h : OrP L s 0 U) (hL : Srt L) (hw : WF U) : routes U = L := by
  refine srt_ext (routes_sorted hw) hL fun x => ?_
  rw [h.2]
  constructor
  · rintro ⟨j, -, -, k3⟩
    exact List.mem_of_getElem? k3
  · intro hx
    obtain ⟨k, hk, rfl⟩ := List.getElem_of_mem hx
    obtain ⟨n, hn⟩ : ∃ n, L.length = n := ⟨_, rfl⟩
    rw [hn] at hk ⊢
    have hr := Nat.mod_lt s (show 0 < n by omega)
    obtain ⟨j, j1, j2, j3⟩ : ∃ j, 0 < j ∧ j ≤ n ∧ (j + s) % n = k := by
      by_cases hc : s % n < k
      · refine ⟨k - s % n, by omega, by omega, ?_⟩
        rw [Nat.add_mod, Nat.mod_eq_of_lt (show k - s % n < n by omega), Nat.mod_eq_of_lt (by omega)]
        omega
      · refine ⟨k + n - s % n, by omega, by omega, ?_⟩
        rw [Nat.add_mod]
        by_cases he : s % n = k
        · rw [he, show k + n - k = n by omega, Nat.mod_self, Nat.zero_add, Nat.mod_eq_of_lt hk]
        · rw [Nat.mod_eq_of_lt (show k + n - s % n < n by omega), show k + n - s % n + s % n = k + n by omega, Nat.add_mod_right, Nat.mod_eq_of_lt hk]
    exact ⟨j, j1, j2, by rw [j3]; exact List.getElem?_eq_getElem (by omega)⟩
theorem cnt_same {T U : Tr} (hT : WF T) (hU : WF U) (h : routes U = routes T) : cnt U = cnt T := by
  rw [← nodes_cnt hT, ← nodes_cnt hU, h]
def OrJ (w : World) (gu : Nat) (L : List Rt) (s : Nat) (vi : Value) (wr : World) : Prop := ∃ (i : Nat) (U : Tr), vi = .int .i64 (i : Nat) ∧ i ≤ L.length ∧ Hid (Own w gu U wr ∧ OrP L s i U)
set_option maxRecDepth 100000 in
set_option maxHeartbeats 8000000 in
theorem lawOrder {w : World} {v : Value} {ops : List OpV} (h : OpsL w v ops) (z : Int) : Calls Try.prog 7 #[v, .int .i64 z] w fun e W => e = .returned (.bool true) ∧ Below w.heap.size w W := by
  have hA := Lib.hid (fun W => awake_any W)
  have HO := Lib.hid h
  obtain ⟨A, c, rfl, -⟩ := h
  by_cases hn : ops.length ≤ 60
  · have hB := Lib.hid (fun W (hW : Below w.heap.size w W) => build_any (HO.out.below hW) (by omega))
    obtain ⟨n, hnn⟩ : ∃ n, ops.length = n := ⟨_, rfl⟩
    rw [hnn] at hn hB ⊢
    have hn1 : ¬ (60 : Int) < (n : Int) := by omega
    have hn2 : (n : Int) ≤ 60 := by omega
    clear hnn HO
    go_enter Try.func7, Try.ntmps7
    go_wp2_with fail
    refine (hA.out _).mono ?_
    rintro e w1 ⟨rfl, hb⟩
    have HL := Lib.hid hb
    clear hb hA
    have hB2 := Lib.hid (hB.out w1 HL.out)
    clear hB
    go_wp2_with fail
    refine hB2.out.mono ?_
    rintro e w2 ⟨gt, T, vr, rfl, hb, hl⟩
    have HW2 := Lib.hid (HL.out.trans (hb.1.own.low.mono HL.out.size))
    have HTr := Lib.hid (hb.1.own)
    have hwf := Lib.hid hb.1.own.wf
    have HTL := Lib.hid hb.2.tl
    have hNew := Lib.hid (own_new (Below.refl w2.heap.size w2))
    obtain ⟨A2, c2, rfl, -⟩ := hb.2.form
    clear hB2 HL hb
    go_wp2_with fail
    refine hNew.out.mono ?_
    rintro e w3 ⟨gu, rfl, ho⟩
    have HU := Lib.hid ho
    clear ho hNew
    unfold ptr
    obtain ⟨L, hL⟩ : ∃ L, routes T = L := ⟨_, rfl⟩
    have HRL := Lib.hid hL
    rw [hL] at HTL hl ⊢
    have HLs := Lib.hid (show Srt L from by rw [← hL]; exact routes_sorted hwf.out)
    have HLv := Lib.hid (show ∀ r ∈ L, Vld r.1 from by rw [← hL]; exact routes_vld hwf.out)
    obtain ⟨m, hm⟩ : ∃ m, L.length = m := ⟨_, rfl⟩
    have HM := Lib.hid hm
    rw [hm] at HTL hl ⊢
    obtain ⟨s, hs⟩ : ∃ s : Nat, max 0 (Int.tmod z 100) = (s : Int) := ⟨(max 0 (Int.tmod z 100)).toNat, by omega⟩
    have hs100 : s < 100 := by
      have := Int.tmod_lt_of_pos z (show (0 : Int) < 100 by omega)
      omega
    clear hL hm
    go_wp2_with fail
    go_loopw [9] (fun vi wr => OrJ w2 gu L s vi wr) (fun vi _ => (intOf vi).toNat)
    case atStart => exact ⟨m, .nil, rfl, by rw [HM.out]; exact Nat.le_refl _, HU.out, by rw [← HM.out]; exact OrP.start L s⟩
    case round =>
      clear HU
      obtain ⟨wq, rfl⟩ : ∃ x, x = wr := ⟨_, rfl⟩
      obtain ⟨i, U, rfl, hi, H⟩ := hrel
      rw [HM.out] at hi
      by_cases hin : 0 < i
      · have hi' : (0 : Int) < (i : Int) := by omega
        have hm0 : ¬ (m : Int) = 0 := by omega
        have hw3 : IntKind.i64.wrap ((i : Int) - 1) = (i : Int) - 1 := IntWalk.i64_in _ (by omega)
        have hw4 : IntKind.i64.wrap ((i : Int) + (s : Int)) = (i : Int) + (s : Int) := IntWalk.i64_in _ (by omega)
        obtain ⟨k, hk⟩ : ∃ k, (i + s) % m = k := ⟨_, rfl⟩
        have hkm : k < m := by rw [← hk]; exact Nat.mod_lt _ (by omega)
        have hk2 : Int.tmod ((i : Int) + (s : Int)) (m : Int) = (k : Int) := by rw [← hk]; exact (Int.ofNat_tmod (i + s) m).symm
        have hk3 : (k : Int) < (m : Int) := by omega
        have hk4 : (0 : Int) ≤ (k : Int) := by omega
        have hkl : k < L.length := by rw [HM.out]; exact hkm
        obtain ⟨A', c', e', hel⟩ := HTL.out
        injection e' with e1 e2 e3
        subst e1 e3
        clear e2
        obtain ⟨g, rfl, hg, d0, d1, d2⟩ := hel k hkl
        have hxm : L[(i + s) % L.length]? = some L[k] := by rw [HM.out, hk]; exact List.getElem?_eq_getElem hkl
        have hpv := HLv.out _ (List.getElem_mem hkl)
        obtain ⟨⟨⟨ra, rl⟩, rv⟩, hx⟩ : ∃ x, L[k] = x := ⟨_, rfl⟩
        rw [hx] at d0 d1 d2 hxm hpv
        have hlow := H.out.1.low
        replace d0 := (hlow.cell (p := ⟨g, k * 3, none⟩) hg).trans d0
        replace d1 := (hlow.cell (p := ⟨g, k * 3 + 1, none⟩) hg).trans d1
        replace d2 := (hlow.cell (p := ⟨g, k * 3 + 2, none⟩) hg).trans d2
        dsimp only at d0 d1 d2
        have hP := Lib.hid (own_put (z := rv) H.out.1 hpv (cnt_small H.out.1.wf (by have := H.out.2.1; rw [HM.out] at this; omega)))
        have HN := Lib.hid (H.out.2.step HLs.out hin hxm hpv H.out.1.wf)
        unfold ptr at hP
        change Hid (Calls Try.prog 24 #[.pointer (some ⟨gu, 0, none⟩), .agg #[.int .u32 (ra : Int), .int .i64 (rl : Int), .int .i64 rv]] wq fun e W' => e = .returned (.int .i64 0) ∧ Own w2 gu (put comF (ra, rl) rv U) W') at hP
        clear hel hg hxm hpv hx hlow hkl hk
        go_wp2_with fail
        refine hP.out.mono ?_
        rintro e w4 ⟨rfl, ho⟩
        have HJ := Lib.hid (And.intro ho HN.out)
        clear ho hP H HN d0 d1 d2
        go_wp2_with fail
        go_roundw
        case rel => exact ⟨i - 1, put comF (ra, rl) rv U, by rw [show ((i : Int) - 1) = ((i - 1 : Nat) : Int) by omega], by rw [HM.out]; omega, HJ⟩
        case measure => simp [intOf]; omega
      · obtain rfl : i = 0 := by omega
        have hlow := H.out.1.low
        have hUL := H.out.2.stop HLs.out H.out.1.wf
        have hcn := cnt_same hwf.out H.out.1.wf (hUL.trans HRL.out.symm)
        have hR1 := Lib.hid (routes_own (HTr.out.below hlow) (by rw [HRL.out, HM.out]; omega))
        have hR2 := Lib.hid (fun W (hW : Below wq.heap.size wq W) => routes_own (H.out.1.below hW) (by rw [hUL, HM.out]; omega))
        have hN1 := Lib.hid (fun W (hW : Below wq.heap.size wq W) => own_nodes ((HTr.out.below hlow).below hW))
        have hN2 := Lib.hid (fun W (hW : Below wq.heap.size wq W) => own_nodes (H.out.1.below hW))
        have hL1 := Lib.hid (fun W (hW : Below wq.heap.size wq W) => own_len ((HTr.out.below hlow).below hW))
        have hL2 := Lib.hid (fun W (hW : Below wq.heap.size wq W) => own_len (H.out.1.below hW))
        have HE := Lib.hid (HW2.out.trans (hlow.mono HW2.out.size))
        have HUL := Lib.hid hUL
        rw [hcn] at hN2
        rw [hUL, HM.out] at hL2
        rw [HRL.out, HM.out] at hL1
        generalize cnt T = N at hN1 hN2
        unfold ptr at hN1 hN2 hL1 hL2
        clear hlow hUL hcn H
        go_wp2_with fail
        refine hR1.out.mono ?_
        rintro e w4 ⟨v1, rfl, ho, hb⟩
        have HO1 := Lib.hid ho
        have HB1 := Lib.hid hb
        have hR3 := Lib.hid (hR2.out w4 hb)
        clear ho hb hR1 hR2
        go_wp2_with fail
        refine hR3.out.mono ?_
        rintro e w5 ⟨v2, rfl, ho, hb⟩
        have HB2 := Lib.hid (HB1.out.trans (hb.mono HB1.out.size))
        have hS := Lib.hid (same_any (u := v1) (v := v2) (rs := L) (by rw [← HRL.out]; exact HO1.out.tl.below hb) (by rw [← HUL.out]; exact ho.tl) (by rw [HM.out]; omega))
        clear ho hb hR3 HO1 HB1
        go_wp2_with fail
        refine hS.out.mono ?_
        rintro e w6 ⟨rfl, hb⟩
        have HB3 := Lib.hid (HB2.out.trans (hb.mono HB2.out.size))
        have q1 := Lib.hid (hN1.out w6 HB3.out)
        have q2 := Lib.hid (hN2.out w6 HB3.out)
        have q3 := Lib.hid (hL1.out w6 HB3.out)
        have q4 := Lib.hid (hL2.out w6 HB3.out)
        have HE2 := Lib.hid (HE.out.trans (HB3.out.mono HE.out.size))
        clear hb hS HB2 HB3 hN1 hN2 hL1 hL2 HE
        go_wp2_with fail
        refine q1.out.mono ?_
        rintro e w' ⟨rfl, rfl⟩
        go_wp2_with fail
        refine q2.out.mono ?_
        rintro e w' ⟨rfl, rfl⟩
        go_wp2_with fail
        refine q3.out.mono ?_
        rintro e w' ⟨rfl, rfl⟩
        go_wp2_with fail
        refine q4.out.mono ?_
        rintro e w' ⟨rfl, rfl⟩
        go_wp2_with fail
        go_ret
        exact ⟨rfl, HE2.out⟩
  · obtain ⟨n, hnn⟩ : ∃ n, ops.length = n := ⟨_, rfl⟩
    rw [hnn] at hn ⊢
    have hn1 : (60 : Int) < (n : Int) := by omega
    clear hnn HO
    go_enter Try.func7, Try.ntmps7
    go_wp2_with fail
    refine (hA.out _).mono ?_
    rintro e w1 ⟨rfl, hb⟩
    have HL := Lib.hid hb
    clear hb
    go_wp2_with fail
    refine (hA.out _).mono ?_
    rintro e w2 ⟨rfl, hb⟩
    have HL2 := Lib.hid (HL.out.trans (hb.mono HL.out.size))
    clear hb hA
    go_wp2_with fail
    go_ret
    exact ⟨rfl, HL2.out⟩
end Go.Proofs.Ytamkegnnlbefdaa
