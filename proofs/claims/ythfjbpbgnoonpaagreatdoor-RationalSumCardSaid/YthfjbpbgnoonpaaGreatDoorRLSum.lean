/- The walk of the law RationalSum. -/
import Derived.Test.YthfjbpbgnoonpaaGreatDoorSE
namespace Go.Proofs.YthfjbpbgnoonpaaGreatDoor
open Go.RowKit

set_option maxRecDepth 100000 in
set_option maxHeartbeats 16000000 in
theorem lawSum_large {w : World} {A : Option Addr} {n c : Nat} (hV : Vars w) (hn : n ≤ 9223372036854775807) (h20 : 20 < n) : Calls Tryz.prog 10 #[.slice A n c] w fun e w' => e = .returned (.bool true) ∧ Below w.heap.size w w' := by
  have hAw := Lib.hid (awake_any hV)
  clear hV
  have h20' : (20 : Int) < (n : Int) := by omega
  go_enter Tryz.func10, Tryz.ntmps10
  go_wp2_with fail
  refine hAw.out.mono ?_
  rintro e w2 ⟨rfl, hb⟩
  have HB := Lib.hid hb
  clear hb hAw
  go_wp2_with fail
  go_ret
  exact ⟨rfl, HB.out⟩
set_option maxRecDepth 100000 in
set_option maxHeartbeats 16000000 in
theorem lawSum_small {w : World} {A : Option Addr} {n c : Nat} {q : Nat → Rat} (hV : Vars w) (hn : n ≤ 20) (h : NumL w A n q) : Calls Tryz.prog 10 #[.slice A n c] w fun e w' => e = .returned (.bool true) ∧ Below w.heap.size w w' := by
  have hAw := Lib.hid (awake_any hV)
  have HV := Lib.hid hV
  have HN := Lib.hid h
  clear hV h
  obtain ⟨f, hf2, hf1⟩ : ∃ f : RQ, (∀ i, (f i).2 = 3) ∧ ∀ i, (f i).1 = q i := ⟨fun i => (q i, 3), fun _ => rfl, fun _ => rfl⟩
  have HF2 := Lib.hid hf2
  have HF1 := Lib.hid hf1
  clear hf1 hf2
  have h20' : ¬ (20 : Int) < (n : Int) := by omega
  go_enter Tryz.func10, Tryz.ntmps10
  go_wp2_with fail
  refine hAw.out.mono ?_
  rintro e w2 ⟨rfl, hb⟩
  have HS0 := Lib.hid (LS.start (f := f) hb)
  clear hb hAw
  go_wp2_with fail
  go_loopw [3, 5, 6] (fun va vx vi wr => ∃ (i : Nat) (ya yx : Value), ya = va ∧ yx = vx ∧ vi = .int .i64 (i : Nat) ∧ i ≤ n ∧ Hid (LS w ya yx i f wr)) (fun _ _ vi _ => n - (intOf vi).toNat)
  case atStart => exact ⟨0, _, _, rfl, rfl, rfl, Nat.zero_le _, HS0⟩
  case round =>
    clear HS0
    obtain ⟨wq, rfl⟩ : ∃ x, x = wr := ⟨_, rfl⟩
    obtain ⟨i, va, vx, rfl, rfl, rfl, hi, HS⟩ := hrel
    by_cases hin : i < n
    · have hi' : (i : Int) < (n : Int) := by omega
      have hz0 : (0 : Int) ≤ (i : Int) := by omega
      have hw3 : IntKind.i64.wrap ((i : Int) + 1) = (i : Int) + 1 := IntWalk.i64_in _ (by omega)
      obtain ⟨b, off, s, A1, n1, c1, A2, n2, c2, ds, es, rfl, hbl, d0, d1, d2, hA, hqi⟩ := HN.out i hin
      replace d0 := (HS.out.low.cell (p := ⟨b, off + i * 3, none⟩) hbl).trans d0
      replace d1 := (HS.out.low.cell (p := ⟨b, off + i * 3 + 1, none⟩) hbl).trans d1
      replace d2 := (HS.out.low.cell (p := ⟨b, off + i * 3 + 2, none⟩) hbl).trans d2
      have hA1 := hA.b1
      have hA2 := hA.b2
      by_cases l1 : n1 ≤ 3
      case neg =>
        have l1' : (3 : Int) < (n1 : Int) := by omega
        clear hqi hA
        go_wp2_with fail
        go_ret
        exact ⟨rfl, HS.out.low⟩
      have l1' : ¬ (3 : Int) < (n1 : Int) := by omega
      by_cases l2 : n2 ≤ 3
      case neg =>
        have l2' : (3 : Int) < (n2 : Int) := by omega
        clear hqi hA
        go_wp2_with fail
        go_ret
        exact ⟨rfl, HS.out.low⟩
      have l2' : ¬ (3 : Int) < (n2 : Int) := by omega
      have HOf := Lib.hid (ofL (f := f) (i := i) HV.out hA l1 l2 ((HF1.out i).trans hqi) (HF2.out i) HS.out.low)
      clear hqi hA hbl
      go_wp2_with fail
      refine HOf.out.mono ?_
      rintro e w3 ⟨b1, P1, pn1, pc1, Q1, qn1, qc1, b2, R1, rn1, rc1, T1, tn1, tc1, rfl, hp, hf, hb⟩
      have S2 := Lib.hid ((((Sr.begin (HS.out.low.trans (hb.mono HS.out.low.size))).push (stab_ratP _ _ _) hp).push (stab_ratF _ _ _) hf).allocTwo [.bool b1, .slice P1 pn1 pc1, .slice Q1 qn1 qc1] 30 [.bool b2, .slice R1 rn1 rc1, .slice T1 tn1 tc1] 34 (by decide) noint3 (by decide) noint3)
      have hb4 : Below w3.heap.size w3 ((w3.alloc (.cells #[.bool b1, .slice P1 pn1 pc1, .slice Q1 qn1 qc1] 30)).alloc (.cells #[.bool b2, .slice R1 rn1 rc1, .slice T1 tn1 tc1] 34)) := ((Below.refl _ w3).alloc (Nat.le_refl _) _).alloc (by simp) _
      have HL := Lib.hid (LS.enter (cP := (.bool b1, .slice P1 pn1 pc1, .slice Q1 qn1 qc1)) (cF := (.bool b2, .slice R1 rn1 rc1, .slice T1 tn1 tc1)) (HS.out.below hb) ((HS.out.below hb).below hb4) (S2.out.fact 1 rfl) (S2.out.fact 0 rfl) (S2.out.at 1 rfl) (S2.out.at 0 rfl) (Nat.le_refl _) (Nat.le_succ _))
      generalize hx5 : w3.heap.size = x5 at HL
      obtain ⟨w4, hw4⟩ : ∃ w4, (w3.alloc (.cells #[.bool b1, .slice P1 pn1 pc1, .slice Q1 qn1 qc1] 30)).alloc (.cells #[.bool b2, .slice R1 rn1 rc1, .slice T1 tn1 tc1] 34) = w4 := ⟨_, rfl⟩
      rw [hw4] at HL
      clear hb hp hf HOf S2 hb4 HS d0 d1 d2
      obtain ⟨S, hSL⟩ : ∃ S, S = HL := ⟨_, rfl⟩
      clear hSL HL
      go_wp2_with fail
      clear hw4 hx5
      refine wp_region_held_drew (S := fun W' => W'.cell? ⟨x5, 0, none⟩ = some (.bool b1) ∧ W'.cell? ⟨x5, 1, none⟩ = some (.slice P1 pn1 pc1) ∧ W'.cell? ⟨x5, 2, none⟩ = some (.slice Q1 qn1 qc1) ∧ W'.cell? ⟨x5 + 1, 0, none⟩ = some (.bool b2) ∧ W'.cell? ⟨x5 + 1, 1, none⟩ = some (.slice R1 rn1 rc1) ∧ W'.cell? ⟨x5 + 1, 2, none⟩ = some (.slice T1 tn1 tc1)) (by kernel_rfl) ⟨(S.out.drew).b1.cell (i := 0) rfl, (S.out.drew).b1.cell (i := 1) rfl, (S.out.drew).b1.cell (i := 2) rfl, (S.out.drew).b2.cell (i := 0) rfl, (S.out.drew).b2.cell (i := 1) rfl, (S.out.drew).b2.cell (i := 2) rfl⟩ (fun hHeld => ?_)
      replace S := Lib.hid S.out.drew
      generalize w4.drew = v0 at S hHeld ⊢
      refine wpAnyH_takeD 0 (v := ?_) rfl rfl (by kernel_rfl) (by kernel_rfl) (by kernel_rfl) (fun _ _ _ h => h) (Or.inl ⟨by rfl, ?_⟩) hHeld ?_
      rotate_left
      focus (intro w hSw; (try dsimp only at hSw); go_simp; try with_reducible rfl)
      try simp only [List.setIfInBounds_toArray, List.set_cons_zero, List.set_cons_succ]
      refine wpAnyH_takeD 1 (v := ?_) rfl rfl (by kernel_rfl) (by kernel_rfl) (by kernel_rfl) (fun _ _ _ h => h) (Or.inl ⟨by rfl, ?_⟩) hHeld ?_
      rotate_left
      focus (intro w hSw; (try dsimp only at hSw); go_simp; try with_reducible rfl)
      try simp only [List.setIfInBounds_toArray, List.set_cons_zero, List.set_cons_succ]
      refine wpAnyH_takeD 4 (v := ?_) rfl rfl (by kernel_rfl) (by kernel_rfl) (by kernel_rfl) (fun _ _ _ h => h) (Or.inl ⟨by rfl, ?_⟩) hHeld ?_
      rotate_left
      focus (intro w hSw; (try dsimp only at hSw); go_simp; try with_reducible rfl)
      try simp only [List.setIfInBounds_toArray, List.set_cons_zero, List.set_cons_succ]
      refine wpAnyH_takeD 5 (v := ?_) rfl rfl (by kernel_rfl) (by kernel_rfl) (by kernel_rfl) (fun _ _ _ h => h) (Or.inl ⟨by rfl, ?_⟩) hHeld ?_
      rotate_left
      focus (intro w hSw; (try dsimp only at hSw); go_simp; try with_reducible rfl)
      try simp only [List.setIfInBounds_toArray, List.set_cons_zero, List.set_cons_succ]
      refine wpAnyH_ready (rs := [2,6]) (by kernel_rfl) (by simp) ?_
      refine AllReadyH.cons rfl (fun K hK => ?_) ?_
      · go_simp
        replace S := Lib.hid S.out.mkP
        refine hK.out _ _ ⟨(S.out).b1.cell (i := 0) rfl, (S.out).b1.cell (i := 1) rfl, (S.out).b1.cell (i := 2) rfl, (S.out).b2.cell (i := 0) rfl, (S.out).b2.cell (i := 1) rfl, (S.out).b2.cell (i := 2) rfl⟩ (fun hHeld => ?_)
        clear hK K
        dsimp only at S
        generalize hg2 : v0.heap.size = q2 at S ⊢
        generalize World.alloc v0 _ = v1 at S hHeld ⊢
        clear hg2
        refine wpAnyH_ready (rs := [3,6]) (by kernel_rfl) (by simp) ?_
        refine AllReadyH.cons rfl (fun K hK => ?_) ?_
        · obtain ⟨y3, v2, hr, hS⟩ := S.out.appP (ty := 75) (c := 1) (by omega)
          replace S := Lib.hid hS
          refine wp_app (.tmp 51) (.tmp 53) 75 rfl rfl rfl hr ?_
          clear hr hS
          refine hK.out _ _ ⟨(S.out).b1.cell (i := 0) rfl, (S.out).b1.cell (i := 1) rfl, (S.out).b1.cell (i := 2) rfl, (S.out).b2.cell (i := 0) rfl, (S.out).b2.cell (i := 1) rfl, (S.out).b2.cell (i := 2) rfl⟩ (fun hHeld => ?_)
          clear hK K
          refine wpAnyH_ready (rs := [6]) (by kernel_rfl) (by simp) ?_
          refine AllReadyH.cons rfl (fun K hK => ?_) AllReadyH.nil
          go_simp
          replace S := Lib.hid S.out.mkF
          refine hK.out _ _ ⟨(S.out).b1.cell (i := 0) rfl, (S.out).b1.cell (i := 1) rfl, (S.out).b1.cell (i := 2) rfl, (S.out).b2.cell (i := 0) rfl, (S.out).b2.cell (i := 1) rfl, (S.out).b2.cell (i := 2) rfl⟩ (fun hHeld => ?_)
          clear hK K
          dsimp only at S
          generalize hg6 : v2.heap.size = q6 at S ⊢
          generalize World.alloc v2 _ = v3 at S hHeld ⊢
          clear hg6
          refine wpAnyH_ready (rs := [7]) (by kernel_rfl) (by simp) ?_
          refine AllReadyH.cons rfl (fun K hK => ?_) AllReadyH.nil
          obtain ⟨y7, v4, hr, hS⟩ := S.out.appF (ty := 76) (c := 1) (by omega)
          replace S := Lib.hid hS
          refine wp_app (.tmp 55) (.tmp 57) 76 rfl rfl rfl hr ?_
          clear hr hS
          refine hK.out _ _ ⟨(S.out).b1.cell (i := 0) rfl, (S.out).b1.cell (i := 1) rfl, (S.out).b1.cell (i := 2) rfl, (S.out).b2.cell (i := 0) rfl, (S.out).b2.cell (i := 1) rfl, (S.out).b2.cell (i := 2) rfl⟩ (fun hHeld => ?_)
          clear hK K
          refine wpAnyH_takeD 8 (v := ?_) rfl rfl (by kernel_rfl) (by kernel_rfl) (by kernel_rfl) (fun _ _ _ h => h) (Or.inl ⟨by rfl, ?_⟩) hHeld ?_
          rotate_left
          focus (intro w hSw; (try dsimp only at hSw); go_simp; try with_reducible rfl)
          try simp only [List.setIfInBounds_toArray, List.set_cons_zero, List.set_cons_succ]
          refine wpAnyH_takeD 9 (v := ?_) rfl rfl (by kernel_rfl) (by kernel_rfl) (by kernel_rfl) (fun _ _ _ h => h) (Or.inl ⟨by rfl, ?_⟩) hHeld ?_
          rotate_left
          focus (intro w hSw; (try dsimp only at hSw); go_simp; try with_reducible rfl)
          try simp only [List.setIfInBounds_toArray, List.set_cons_zero, List.set_cons_succ]
          refine wpAnyH_done (by kernel_rfl) ?_ _
          have HS := Lib.hid (S.out.done rfl)
          clear S hHeld
          go_wp2_with fail
          go_roundw
          case rel => exact ⟨i + 1, _, _, rfl, rfl, by go_num, by omega, HS⟩
          case measure => simp [intOf]; omega
        refine AllReadyH.cons rfl (fun K hK => ?_) AllReadyH.nil
        · go_simp
          replace S := Lib.hid S.out.mkF
          refine hK.out _ _ ⟨(S.out).b1.cell (i := 0) rfl, (S.out).b1.cell (i := 1) rfl, (S.out).b1.cell (i := 2) rfl, (S.out).b2.cell (i := 0) rfl, (S.out).b2.cell (i := 1) rfl, (S.out).b2.cell (i := 2) rfl⟩ (fun hHeld => ?_)
          clear hK K
          dsimp only at S
          generalize hg6 : v1.heap.size = q6 at S ⊢
          generalize World.alloc v1 _ = v2 at S hHeld ⊢
          clear hg6
          refine wpAnyH_ready (rs := [3]) (by kernel_rfl) (by simp) ?_
          refine AllReadyH.cons rfl (fun K hK => ?_) AllReadyH.nil
          obtain ⟨y3, v3, hr, hS⟩ := S.out.appP (ty := 75) (c := 1) (by omega)
          replace S := Lib.hid hS
          refine wp_app (.tmp 51) (.tmp 53) 75 rfl rfl rfl hr ?_
          clear hr hS
          refine hK.out _ _ ⟨(S.out).b1.cell (i := 0) rfl, (S.out).b1.cell (i := 1) rfl, (S.out).b1.cell (i := 2) rfl, (S.out).b2.cell (i := 0) rfl, (S.out).b2.cell (i := 1) rfl, (S.out).b2.cell (i := 2) rfl⟩ (fun hHeld => ?_)
          clear hK K
          refine wpAnyH_ready (rs := [7]) (by kernel_rfl) (by simp) ?_
          refine AllReadyH.cons rfl (fun K hK => ?_) AllReadyH.nil
          obtain ⟨y7, v4, hr, hS⟩ := S.out.appF (ty := 76) (c := 1) (by omega)
          replace S := Lib.hid hS
          refine wp_app (.tmp 55) (.tmp 57) 76 rfl rfl rfl hr ?_
          clear hr hS
          refine hK.out _ _ ⟨(S.out).b1.cell (i := 0) rfl, (S.out).b1.cell (i := 1) rfl, (S.out).b1.cell (i := 2) rfl, (S.out).b2.cell (i := 0) rfl, (S.out).b2.cell (i := 1) rfl, (S.out).b2.cell (i := 2) rfl⟩ (fun hHeld => ?_)
          clear hK K
          refine wpAnyH_takeD 8 (v := ?_) rfl rfl (by kernel_rfl) (by kernel_rfl) (by kernel_rfl) (fun _ _ _ h => h) (Or.inl ⟨by rfl, ?_⟩) hHeld ?_
          rotate_left
          focus (intro w hSw; (try dsimp only at hSw); go_simp; try with_reducible rfl)
          try simp only [List.setIfInBounds_toArray, List.set_cons_zero, List.set_cons_succ]
          refine wpAnyH_takeD 9 (v := ?_) rfl rfl (by kernel_rfl) (by kernel_rfl) (by kernel_rfl) (fun _ _ _ h => h) (Or.inl ⟨by rfl, ?_⟩) hHeld ?_
          rotate_left
          focus (intro w hSw; (try dsimp only at hSw); go_simp; try with_reducible rfl)
          try simp only [List.setIfInBounds_toArray, List.set_cons_zero, List.set_cons_succ]
          refine wpAnyH_done (by kernel_rfl) ?_ _
          have HS := Lib.hid (S.out.done rfl)
          clear S hHeld
          go_wp2_with fail
          go_roundw
          case rel => exact ⟨i + 1, _, _, rfl, rfl, by go_num, by omega, HS⟩
          case measure => simp [intOf]; omega
      refine AllReadyH.cons rfl (fun K hK => ?_) AllReadyH.nil
      · go_simp
        replace S := Lib.hid S.out.mkF
        refine hK.out _ _ ⟨(S.out).b1.cell (i := 0) rfl, (S.out).b1.cell (i := 1) rfl, (S.out).b1.cell (i := 2) rfl, (S.out).b2.cell (i := 0) rfl, (S.out).b2.cell (i := 1) rfl, (S.out).b2.cell (i := 2) rfl⟩ (fun hHeld => ?_)
        clear hK K
        dsimp only at S
        generalize hg6 : v0.heap.size = q6 at S ⊢
        generalize World.alloc v0 _ = v1 at S hHeld ⊢
        clear hg6
        refine wpAnyH_ready (rs := [2]) (by kernel_rfl) (by simp) ?_
        refine AllReadyH.cons rfl (fun K hK => ?_) AllReadyH.nil
        go_simp
        replace S := Lib.hid S.out.mkP
        refine hK.out _ _ ⟨(S.out).b1.cell (i := 0) rfl, (S.out).b1.cell (i := 1) rfl, (S.out).b1.cell (i := 2) rfl, (S.out).b2.cell (i := 0) rfl, (S.out).b2.cell (i := 1) rfl, (S.out).b2.cell (i := 2) rfl⟩ (fun hHeld => ?_)
        clear hK K
        dsimp only at S
        generalize hg2 : v1.heap.size = q2 at S ⊢
        generalize World.alloc v1 _ = v2 at S hHeld ⊢
        clear hg2
        refine wpAnyH_ready (rs := [3]) (by kernel_rfl) (by simp) ?_
        refine AllReadyH.cons rfl (fun K hK => ?_) AllReadyH.nil
        obtain ⟨y3, v3, hr, hS⟩ := S.out.appP (ty := 75) (c := 1) (by omega)
        replace S := Lib.hid hS
        refine wp_app (.tmp 51) (.tmp 53) 75 rfl rfl rfl hr ?_
        clear hr hS
        refine hK.out _ _ ⟨(S.out).b1.cell (i := 0) rfl, (S.out).b1.cell (i := 1) rfl, (S.out).b1.cell (i := 2) rfl, (S.out).b2.cell (i := 0) rfl, (S.out).b2.cell (i := 1) rfl, (S.out).b2.cell (i := 2) rfl⟩ (fun hHeld => ?_)
        clear hK K
        refine wpAnyH_ready (rs := [7]) (by kernel_rfl) (by simp) ?_
        refine AllReadyH.cons rfl (fun K hK => ?_) AllReadyH.nil
        obtain ⟨y7, v4, hr, hS⟩ := S.out.appF (ty := 76) (c := 1) (by omega)
        replace S := Lib.hid hS
        refine wp_app (.tmp 55) (.tmp 57) 76 rfl rfl rfl hr ?_
        clear hr hS
        refine hK.out _ _ ⟨(S.out).b1.cell (i := 0) rfl, (S.out).b1.cell (i := 1) rfl, (S.out).b1.cell (i := 2) rfl, (S.out).b2.cell (i := 0) rfl, (S.out).b2.cell (i := 1) rfl, (S.out).b2.cell (i := 2) rfl⟩ (fun hHeld => ?_)
        clear hK K
        refine wpAnyH_takeD 8 (v := ?_) rfl rfl (by kernel_rfl) (by kernel_rfl) (by kernel_rfl) (fun _ _ _ h => h) (Or.inl ⟨by rfl, ?_⟩) hHeld ?_
        rotate_left
        focus (intro w hSw; (try dsimp only at hSw); go_simp; try with_reducible rfl)
        try simp only [List.setIfInBounds_toArray, List.set_cons_zero, List.set_cons_succ]
        refine wpAnyH_takeD 9 (v := ?_) rfl rfl (by kernel_rfl) (by kernel_rfl) (by kernel_rfl) (fun _ _ _ h => h) (Or.inl ⟨by rfl, ?_⟩) hHeld ?_
        rotate_left
        focus (intro w hSw; (try dsimp only at hSw); go_simp; try with_reducible rfl)
        try simp only [List.setIfInBounds_toArray, List.set_cons_zero, List.set_cons_succ]
        refine wpAnyH_done (by kernel_rfl) ?_ _
        have HS := Lib.hid (S.out.done rfl)
        clear S hHeld
        go_wp2_with fail
        go_roundw
        case rel => exact ⟨i + 1, _, _, rfl, rfl, by go_num, by omega, HS⟩
        case measure => simp [intOf]; omega
    · obtain rfl : i = n := by omega
      have hi' : ¬ (i : Int) < (i : Int) := by omega
      obtain ⟨A4, c4, e4, -⟩ := HS.out.a.form
      subst e4
      have hw4 : IntKind.i64.wrap ((i : Int) - 1) = (i : Int) - 1 := IntWalk.i64_in _ (by omega)
      have HB := Lib.hid HS.out.turn
      clear HS HN
      go_wp2_with fail
      clear hw4
      go_loopw [4, 10] (fun vb vj wr => ∃ (k : Nat) (z : Int) (yb : Value), yb = vb ∧ vj = .int .i64 z ∧ z = (i : Int) - 1 - (k : Int) ∧ k ≤ i ∧ Hid (LB w (.slice A4 i c4) vx yb i k f wr)) (fun _ vj _ => (intOf vj + 1).toNat)
      case atStart => exact ⟨0, _, _, rfl, rfl, by omega, Nat.zero_le _, HB⟩
      case round =>
        clear HB
        obtain ⟨wq, rfl⟩ : ∃ x, x = wr := ⟨_, rfl⟩
        obtain ⟨k, z, vb, rfl, rfl, hz, hk, HB⟩ := hrel
        by_cases hki : k < i
        · obtain ⟨j, hj⟩ : ∃ j : Nat, j = i - 1 - k := ⟨_, rfl⟩
          obtain rfl : z = (j : Int) := by omega
          have hz1 : (0 : Int) ≤ (j : Int) := by omega
          have hz2 : (j : Int) < (i : Int) := by omega
          have hw5 : IntKind.i64.wrap ((j : Int) - 1) = (j : Int) - 1 := IntWalk.i64_in _ (by omega)
          obtain ⟨A5, c5, e5, hel⟩ := HB.out.ls.a.form
          injection e5 with e5 _ e6
          subst e5 e6
          obtain ⟨g, x, rfl, hg, d0, d1, d2, hr⟩ := hel j (by omega)
          obtain ⟨A1, m1, c1, A2, m2, c2, e7⟩ := RatP.shape hr
          obtain ⟨x1, x2, x3⟩ := x
          injection e7 with e7
          simp at e7
          obtain ⟨rfl, rfl, rfl⟩ := e7
          dsimp only at d0 d1 d2 hr
          generalize decide ((f j).1.num < 0) = bj at d0 hr
          have hba : Below wq.heap.size wq (wq.alloc (.cells #[.bool bj, .slice A1 m1 c1, .slice A2 m2 c2] 30)) := (Below.refl _ wq).alloc (Nat.le_refl _) _
          have hnew : Blk (wq.alloc (.cells #[.bool bj, .slice A1 m1 c1, .slice A2 m2 c2] 30)) wq.heap.size (enc3 (.bool bj, .slice A1 m1 c1, .slice A2 m2 c2)) TP := heap_alloc_new wq _
          rw [hj] at hr
          obtain ⟨y, w5, hrun, hLB⟩ := (HB.out.below hba).app (ty := 75) (c := 1) (x := (.bool bj, .slice A1 m1 c1, .slice A2 m2 c2)) (hr.below hba) hnew (by omega)
          have HR := Lib.hid hrun
          have HB2 := Lib.hid hLB
          have HJ := Lib.hid hj
          clear hrun hLB hnew hba hr hg hel HB hj hz
          go_wp2_with (at_builtin; go_loud (refine wpList_app rfl (.tmp 66) (.tmp 71) _ rfl rfl rfl HR.out ?_))
          clear HR
          go_roundw
          case rel => exact ⟨k + 1, _, _, rfl, rfl, by have := HJ.out; omega, by omega, HB2⟩
          case measure => simp [intOf] <;> omega
        · obtain rfl : k = i := by omega
          obtain rfl : z = -1 := by omega
          have HSum := Lib.hid (sum_all HB.out.ls.a.al hn HF2.out)
          go_wp2_with fail
          refine HSum.out.mono ?_
          rintro e w6 ⟨b6, A6, m6, c6, A7, m7, c7, rfl, hq, hb⟩
          have S := Lib.hid (((Sr.begin (HB.out.ls.low.trans (hb.mono HB.out.ls.low.size))).push (stab_ratP _ _ _) hq).alloc [.bool b6, .slice A6 m6 c6, .slice A7 m7 c7] 30 (by decide) noint3)
          replace HB := Lib.hid ((HB.out.below hb).below ((Below.refl _ w6).alloc (Nat.le_refl _) (.cells #[.bool b6, .slice A6 m6 c6, .slice A7 m7 c7] 30)))
          clear HSum hq hb
          generalize hx6 : w6.heap.size = x6 at S
          obtain ⟨w7, hw7⟩ : ∃ w7, w6.alloc (.cells #[.bool b6, .slice A6 m6 c6, .slice A7 m7 c7] 30) = w7 := ⟨_, rfl⟩
          rw [hw7] at S HB
          go_wp2_with fail
          clear hw7 hx6
          go_loopw [12] (fun vi wr => ∃ j : Nat, vi = .int .i64 (j : Nat) ∧ j ≤ k ∧ Hid (LB w (.slice A4 k c4) vx vb k k f wr) ∧ Hid (Sr w [fun W => RatP W (.agg #[.bool b6, .slice A6 m6 c6, .slice A7 m7 c7]) (tot f k) 90] [(x6, [.bool b6, .slice A6 m6 c6, .slice A7 m7 c7], 30)] wr)) (fun vi _ => k - (intOf vi).toNat)
          case atStart => exact ⟨0, rfl, Nat.zero_le _, HB, S⟩
          case round =>
            clear HB S
            obtain ⟨wq, rfl⟩ : ∃ x, x = wr := ⟨_, rfl⟩
            obtain ⟨j, rfl, hj, HB, S⟩ := hrel
            by_cases hjk : j < k
            · have hj' : (j : Int) < (k : Int) := by omega
              have hz1 : (0 : Int) ≤ (j : Int) := by omega
              have hw5 : IntKind.i64.wrap ((j : Int) + 1) = (j : Int) + 1 := IntWalk.i64_in _ (by omega)
              replace HB := Lib.hid (HB.out.below ((Below.refl _ wq).drew))
              replace S := Lib.hid S.out.drew
              obtain ⟨A5, c5, e5, hel⟩ := HB.out.ls.a.form
              injection e5 with e5 _ e6
              subst e5 e6
              obtain ⟨g, x, rfl, hg, d0, d1, d2, hr⟩ := hel j hjk
              obtain ⟨A8, c8, e8, hel2⟩ := HB.out.ls.x.alf
              subst e8
              obtain ⟨g2, bb, B1, m1, k1, B2, m2, k2, rfl, hg2, t0, t1, t2, hr2⟩ := hel2 j hjk
              obtain ⟨A1, m3, c1, A2, m4, c2, e7⟩ := RatP.shape hr
              obtain ⟨x1, x2, x3⟩ := x
              injection e7 with e7
              simp at e7
              obtain ⟨rfl, rfl, rfl⟩ := e7
              dsimp only at d0 d1 d2 hr
              generalize decide ((f j).1.num < 0) = bj at d0 hr
              have HIs := Lib.hid (is_any (HV.out.tab.below HB.out.ls.low) hr hr2 (by rw [HF2.out]; omega) (by rw [HF2.out]; omega))
              clear hel hel2 hr hr2
              go_wp2_with fail
              refine wp_region_held_drew (S := fun W' => W'.cell? ⟨g, j * 3, none⟩ = some (.bool bj) ∧ W'.cell? ⟨g, j * 3 + 1, none⟩ = some (.slice A1 m3 c1) ∧ W'.cell? ⟨g, j * 3 + 2, none⟩ = some (.slice A2 m4 c2) ∧ W'.cell? ⟨g2, j * 3, none⟩ = some (.bool bb) ∧ W'.cell? ⟨g2, j * 3 + 1, none⟩ = some (.slice B1 m1 k1) ∧ W'.cell? ⟨g2, j * 3 + 2, none⟩ = some (.slice B2 m2 k2)) (by kernel_rfl) ⟨d0, d1, d2, t0, t1, t2⟩ (fun hHeld => ?_)
              generalize wq.drew = w3 at HB S HIs d0 d1 d2 t0 t1 t2 hg hg2 hHeld ⊢
              have HD := Lib.hid (And.intro hg (And.intro hg2 (And.intro d0 (And.intro d1 (And.intro d2 (And.intro t0 (And.intro t1 t2)))))))
              clear hg hg2 d0 d1 d2 t0 t1 t2
              refine wpAnyH_takeD 0 (v := ?_) rfl rfl (by kernel_rfl) (by kernel_rfl) (by kernel_rfl) (fun _ _ _ h => h) (Or.inl ⟨by rfl, ?_⟩) hHeld ?_
              rotate_left
              focus (intro w hSw; (try dsimp only at hSw); go_simp; try with_reducible rfl)
              try simp only [List.setIfInBounds_toArray, List.set_cons_zero, List.set_cons_succ]
              refine wpAnyH_takeD 1 (v := ?_) rfl rfl (by kernel_rfl) (by kernel_rfl) (by kernel_rfl) (fun _ _ _ h => h) (Or.inl ⟨by rfl, ?_⟩) hHeld ?_
              rotate_left
              focus (intro w hSw; (try dsimp only at hSw); go_simp; try with_reducible rfl)
              try simp only [List.setIfInBounds_toArray, List.set_cons_zero, List.set_cons_succ]
              refine wpAnyH_takeD 2 (v := ?_) rfl rfl (by kernel_rfl) (by kernel_rfl) (by kernel_rfl) (fun _ _ _ h => h) (Or.inl ⟨by rfl, ?_⟩) hHeld ?_
              rotate_left
              focus (intro w hSw; (try dsimp only at hSw); go_simp; try with_reducible rfl)
              try simp only [List.setIfInBounds_toArray, List.set_cons_zero, List.set_cons_succ]
              refine wpAnyH_takeD 3 (v := ?_) rfl rfl (by kernel_rfl) (by kernel_rfl) (by kernel_rfl) (fun _ _ _ h => h) (Or.inl ⟨by rfl, ?_⟩) hHeld ?_
              rotate_left
              focus (intro w hSw; (try dsimp only at hSw); go_simp; try with_reducible rfl)
              try simp only [List.setIfInBounds_toArray, List.set_cons_zero, List.set_cons_succ]
              refine wpAnyH_takeD 4 (v := ?_) rfl rfl (by kernel_rfl) (by kernel_rfl) (by kernel_rfl) (fun _ _ _ h => h) (Or.inl ⟨by rfl, ?_⟩) hHeld ?_
              rotate_left
              focus (intro w hSw; (try dsimp only at hSw); go_simp; try with_reducible rfl)
              try simp only [List.setIfInBounds_toArray, List.set_cons_zero, List.set_cons_succ]
              refine wpAnyH_takeD 5 (v := ?_) rfl rfl (by kernel_rfl) (by kernel_rfl) (by kernel_rfl) (fun _ _ _ h => h) (Or.inl ⟨by rfl, ?_⟩) hHeld ?_
              rotate_left
              focus (intro w hSw; (try dsimp only at hSw); go_simp; try with_reducible rfl)
              try simp only [List.setIfInBounds_toArray, List.set_cons_zero, List.set_cons_succ]
              refine wpAnyH_takeD 6 (v := ?_) rfl rfl (by kernel_rfl) (by kernel_rfl) (by kernel_rfl) (fun _ _ _ h => h) (Or.inl ⟨by rfl, ?_⟩) hHeld ?_
              rotate_left
              focus (intro w hSw; (try dsimp only at hSw); go_simp; try with_reducible rfl)
              try simp only [List.setIfInBounds_toArray, List.set_cons_zero, List.set_cons_succ]
              refine wpAnyH_takeD 7 (v := ?_) rfl rfl (by kernel_rfl) (by kernel_rfl) (by kernel_rfl) (fun _ _ _ h => h) (Or.inl ⟨by rfl, ?_⟩) hHeld ?_
              rotate_left
              focus (intro w hSw; (try dsimp only at hSw); go_simp; try with_reducible rfl)
              try simp only [List.setIfInBounds_toArray, List.set_cons_zero, List.set_cons_succ]
              refine wpAnyH_ready (rs := [8]) (by kernel_rfl) (by simp) ?_
              refine AllReadyH.cons rfl (fun K hK => ?_) AllReadyH.nil
              go_simp
              refine HIs.out.mono ?_
              rintro e w8 ⟨rfl, hb⟩
              obtain ⟨hg, hg2, d0, d1, d2, t0, t1, t2⟩ := HD.out
              replace HB := Lib.hid (HB.out.below hb)
              replace S := Lib.hid (S.out.below hb)
              refine hK.out _ _ ⟨(hb.cell (p := ⟨g, j * 3, none⟩) hg).trans d0, (hb.cell (p := ⟨g, j * 3 + 1, none⟩) hg).trans d1, (hb.cell (p := ⟨g, j * 3 + 2, none⟩) hg).trans d2, (hb.cell (p := ⟨g2, j * 3, none⟩) hg2).trans t0, (hb.cell (p := ⟨g2, j * 3 + 1, none⟩) hg2).trans t1, (hb.cell (p := ⟨g2, j * 3 + 2, none⟩) hg2).trans t2⟩ (fun hHeld => ?_)
              clear hK K hb HD HIs d0 d1 d2 t0 t1 t2
              refine wpAnyH_takeD 9 (v := ?_) rfl rfl (by kernel_rfl) (by kernel_rfl) (by kernel_rfl) (fun _ _ _ h => h) (Or.inl ⟨by rfl, ?_⟩) hHeld ?_
              rotate_left
              focus (intro w hSw; (try dsimp only at hSw); go_simp; try with_reducible rfl)
              try simp only [List.setIfInBounds_toArray, List.set_cons_zero, List.set_cons_succ]
              refine wpAnyH_done (by kernel_rfl) ?_ _
              clear hHeld
              go_wp2_with fail
              go_roundw
              case rel => exact ⟨j + 1, by go_num, by omega, HB, S⟩
              case measure => simp [intOf]; omega
            · obtain rfl : j = k := by omega
              have hj' : ¬ (j : Int) < (j : Int) := by omega
              obtain ⟨A8, c8, e8, -⟩ := HB.out.ls.x.form
              subst e8
              obtain ⟨A9, c9, e9, -⟩ := HB.out.b.form
              subst e9
              go_wp2_with fail
              replace HB := Lib.hid (HB.out.below ((Below.refl _ wq).drew))
              replace S := Lib.hid S.out.drew
              generalize hdr : wq.drew = w3 at HB S
              refine wp_region_held_drew (S := fun W' => W'.cell? ⟨x6, 0, none⟩ = some (.bool b6) ∧ W'.cell? ⟨x6, 1, none⟩ = some (.slice A6 m6 c6) ∧ W'.cell? ⟨x6, 2, none⟩ = some (.slice A7 m7 c7)) (by kernel_rfl) (by rw [hdr]; exact ⟨(S.out.at 0 rfl).cell (i := 0) rfl, (S.out.at 0 rfl).cell (i := 1) rfl, (S.out.at 0 rfl).cell (i := 2) rfl⟩) (fun hHeld => ?_)
              rw [hdr] at hHeld ⊢
              clear hdr
              have HX := Lib.hid (fun W (hb : Below w3.heap.size w3 W) => refSum_all (HB.out.ls.x.below fkF hb).alf hn HF2.out)
              have HY := Lib.hid (fun W (hb : Below w3.heap.size w3 W) => sum_all (HB.out.b.below fkP hb).al hn (fun j => HF2.out _))
              have HT := Lib.hid (tot_rev f j)
              rw [HT.out] at HY
              have HW := Lib.hid (Below.refl w3.heap.size w3)
              have HTb := Lib.hid (fun W (hb : Below w3.heap.size w3 W) => HV.out.tab.below (HB.out.ls.low.trans (hb.mono HB.out.ls.low.size)))
              clear HT HB
              refine wpAnyH_takeD 0 (v := ?_) rfl rfl (by kernel_rfl) (by kernel_rfl) (by kernel_rfl) (fun _ _ _ h => h) (Or.inl ⟨by rfl, ?_⟩) hHeld ?_
              rotate_left
              focus (intro w hSw; (try dsimp only at hSw); go_simp; try with_reducible rfl)
              try simp only [List.setIfInBounds_toArray, List.set_cons_zero, List.set_cons_succ]
              refine wpAnyH_takeD 1 (v := ?_) rfl rfl (by kernel_rfl) (by kernel_rfl) (by kernel_rfl) (fun _ _ _ h => h) (Or.inl ⟨by rfl, ?_⟩) hHeld ?_
              rotate_left
              focus (intro w hSw; (try dsimp only at hSw); go_simp; try with_reducible rfl)
              try simp only [List.setIfInBounds_toArray, List.set_cons_zero, List.set_cons_succ]
              refine wpAnyH_ready (rs := [2]) (by kernel_rfl) (by simp) ?_
              refine AllReadyH.cons rfl (fun K hK => ?_) AllReadyH.nil
              go_simp
              refine (HX.out _ HW.out).mono ?_
              rintro e w8 ⟨ub1, uA1, un1, uc1, uB1, um1, ud1, rfl, hq, hb⟩
              replace S := Lib.hid ((S.out.below hb).push (stab_ratF _ _ _) hq)
              replace HW := Lib.hid (HW.out.trans (hb.mono HW.out.size))
              clear hq hb
              refine hK.out _ _ ⟨((S.out).at 0 rfl).cell (i := 0) rfl, ((S.out).at 0 rfl).cell (i := 1) rfl, ((S.out).at 0 rfl).cell (i := 2) rfl⟩ (fun hHeld => ?_)
              clear hK K
              refine wpAnyH_ready (rs := [3]) (by kernel_rfl) (by simp) ?_
              refine AllReadyH.cons rfl (fun K hK => ?_) AllReadyH.nil
              go_simp
              refine (is_any (HTb.out _ HW.out) (S.out.fact 1 rfl) (S.out.fact 0 rfl) (by omega) (by omega)).mono ?_
              rintro e w9 ⟨rfl, hb⟩
              replace S := Lib.hid (S.out.below hb)
              replace HW := Lib.hid (HW.out.trans (hb.mono HW.out.size))
              clear hb
              refine hK.out _ _ ⟨((S.out).at 0 rfl).cell (i := 0) rfl, ((S.out).at 0 rfl).cell (i := 1) rfl, ((S.out).at 0 rfl).cell (i := 2) rfl⟩ (fun hHeld => ?_)
              clear hK K
              refine wpAnyH_takeD 4 (v := ?_) rfl rfl (by kernel_rfl) (by kernel_rfl) (by kernel_rfl) (fun _ _ _ h => h) (Or.inl ⟨by rfl, ?_⟩) hHeld ?_
              rotate_left
              focus (intro w hSw; (try dsimp only at hSw); go_simp; try with_reducible rfl)
              try simp only [List.setIfInBounds_toArray, List.set_cons_zero, List.set_cons_succ]
              refine wpAnyH_takeD 5 (v := ?_) rfl rfl (by kernel_rfl) (by kernel_rfl) (by kernel_rfl) (fun _ _ _ h => h) (Or.inl ⟨by rfl, ?_⟩) hHeld ?_
              rotate_left
              focus (intro w hSw; (try dsimp only at hSw); go_simp; try with_reducible rfl)
              try simp only [List.setIfInBounds_toArray, List.set_cons_zero, List.set_cons_succ]
              refine wpAnyH_takeD 7 (v := ?_) rfl rfl (by kernel_rfl) (by kernel_rfl) (by kernel_rfl) (fun _ _ _ h => h) (Or.inl ⟨by rfl, ?_⟩) hHeld ?_
              rotate_left
              focus (intro w hSw; (try dsimp only at hSw); go_simp; try with_reducible rfl)
              try simp only [List.setIfInBounds_toArray, List.set_cons_zero, List.set_cons_succ]
              refine wpAnyH_ready (rs := [6]) (by kernel_rfl) (by simp) ?_
              refine AllReadyH.cons rfl (fun K hK => ?_) AllReadyH.nil
              go_simp
              refine (HY.out _ HW.out).mono ?_
              rintro e w10 ⟨vb1, vA1, vn1, vc1, vB1, vm1, vd1, rfl, hq, hb⟩
              replace S := Lib.hid ((S.out.below hb).push (stab_ratP _ _ _) hq)
              replace HW := Lib.hid (HW.out.trans (hb.mono HW.out.size))
              clear hq hb
              refine hK.out _ _ ⟨((S.out).at 0 rfl).cell (i := 0) rfl, ((S.out).at 0 rfl).cell (i := 1) rfl, ((S.out).at 0 rfl).cell (i := 2) rfl⟩ (fun hHeld => ?_)
              clear hK K
              refine wpAnyH_ready (rs := [8]) (by kernel_rfl) (by simp) ?_
              refine AllReadyH.cons rfl (fun K hK => ?_) AllReadyH.nil
              go_simp
              refine (HX.out _ HW.out).mono ?_
              rintro e w11 ⟨tb1, tA1, tn1, tc1, tB1, tm1, td1, rfl, hq, hb⟩
              replace S := Lib.hid ((S.out.below hb).push (stab_ratF _ _ _) hq)
              replace HW := Lib.hid (HW.out.trans (hb.mono HW.out.size))
              clear hq hb
              refine hK.out _ _ ⟨((S.out).at 0 rfl).cell (i := 0) rfl, ((S.out).at 0 rfl).cell (i := 1) rfl, ((S.out).at 0 rfl).cell (i := 2) rfl⟩ (fun hHeld => ?_)
              clear hK K
              refine wpAnyH_ready (rs := [9]) (by kernel_rfl) (by simp) ?_
              refine AllReadyH.cons rfl (fun K hK => ?_) AllReadyH.nil
              go_simp
              refine (is_any (HTb.out _ HW.out) (S.out.fact 1 rfl) (S.out.fact 0 rfl) (by omega) (by omega)).mono ?_
              rintro e w12 ⟨rfl, hb⟩
              replace S := Lib.hid (S.out.below hb)
              replace HW := Lib.hid (HW.out.trans (hb.mono HW.out.size))
              clear hb
              refine hK.out _ _ ⟨((S.out).at 0 rfl).cell (i := 0) rfl, ((S.out).at 0 rfl).cell (i := 1) rfl, ((S.out).at 0 rfl).cell (i := 2) rfl⟩ (fun hHeld => ?_)
              clear hK K
              refine wpAnyH_takeD 10 (v := ?_) rfl rfl (by kernel_rfl) (by kernel_rfl) (by kernel_rfl) (fun _ _ _ h => h) (Or.inl ⟨by rfl, ?_⟩) hHeld ?_
              rotate_left
              focus (intro w hSw; (try dsimp only at hSw); go_simp; try with_reducible rfl)
              try simp only [List.setIfInBounds_toArray, List.set_cons_zero, List.set_cons_succ]
              refine wpAnyH_takeD 11 (v := ?_) rfl rfl (by kernel_rfl) (by kernel_rfl) (by kernel_rfl) (fun _ _ _ h => h) (Or.inl ⟨by rfl, ?_⟩) hHeld ?_
              rotate_left
              focus (intro w hSw; (try dsimp only at hSw); go_simp; try with_reducible rfl)
              try simp only [List.setIfInBounds_toArray, List.set_cons_zero, List.set_cons_succ]
              refine wpAnyH_done (by kernel_rfl) ?_ _
              clear hHeld
              go_wp2_with fail
              go_ret
              exact ⟨rfl, S.out.low⟩
theorem lawSum {w : World} {A : Option Addr} {n c : Nat} {q : Nat → Rat} (hV : Vars w) (hn : n ≤ 9223372036854775807) (h : NumL w A n q) : Calls Tryz.prog 10 #[.slice A n c] w fun e w' => e = .returned (.bool true) ∧ Below w.heap.size w w' := by
  by_cases h20 : 20 < n
  · exact lawSum_large hV hn h20
  · exact lawSum_small hV (by omega) h
end Go.Proofs.YthfjbpbgnoonpaaGreatDoor
