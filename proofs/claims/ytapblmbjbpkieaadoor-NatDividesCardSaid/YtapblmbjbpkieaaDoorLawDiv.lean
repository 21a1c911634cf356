/- The walk of the law NatDivides. -/
import Derived.Test.YtapblmbjbpkieaaDoorEnvS
import Derived.Deep.RegionHeld3
import Derived.Deep.DeepCutAuto
namespace Go.Proofs.YtapblmbjbpkieaaDoor
open Go.RowKit


set_option maxRecDepth 100000 in
set_option maxHeartbeats 8000000 in
theorem lawDiv_small {u v z : Value} {ds es fs : List Nat} {w : World} (hl1 : ds.length ≤ 8) (hl2 : es.length ≤ 8) (hl3 : fs.length ≤ 8) (hd : ∀ d ∈ ds, d < 4294967296) (he : ∀ d ∈ es, d < 4294967296) (hf : ∀ d ∈ fs, d < 4294967296) (hT : Tab w) (hu : LA w u ds) (hv : LA w v es) (hz : LA w z fs) :
    Calls Tryd.prog 10 #[u, v, z] w fun e w' => e = .returned (.bool true) ∧ Below w.heap.size w w' := by
  have hk : val 4294967296 ds < 4294967296 ^ 8 := Nat.lt_of_lt_of_le (val_lt ds hd) (Nat.pow_le_pow_right (by omega) hl1)
  have hj : val 4294967296 es < 4294967296 ^ 8 := Nat.lt_of_lt_of_le (val_lt es he) (Nat.pow_le_pow_right (by omega) hl2)
  have hi : val 4294967296 fs < 4294967296 ^ 8 := Nat.lt_of_lt_of_le (val_lt fs hf) (Nat.pow_le_pow_right (by omega) hl3)
  have hNu := Lib.hid (fun (W : World) (hb : Below w.heap.size w W) => number_any (w := W) (by omega) hd (hu.below hb))
  have hNv := Lib.hid (fun (W : World) (hb : Below w.heap.size w W) => number_any (w := W) (by omega) he (hv.below hb))
  have hNz := Lib.hid (fun (W : World) (hb : Below w.heap.size w W) => number_any (w := W) (by omega) hf (hz.below hb))
  obtain ⟨k, hk0⟩ : ∃ k, k = val 4294967296 ds := ⟨_, rfl⟩
  rw [← hk0] at hk hNu
  obtain ⟨j, hj0⟩ : ∃ j, j = val 4294967296 es := ⟨_, rfl⟩
  rw [← hj0] at hj hNv
  obtain ⟨i, hi0⟩ : ∃ i, i = val 4294967296 fs := ⟨_, rfl⟩
  rw [← hi0] at hi hNz
  have HK := Lib.hid hk
  have HJ := Lib.hid hj
  have HI := Lib.hid hi
  have HT := Lib.hid hT
  have hAw := awake_any hT
  have g1 : ¬ 8 < ds.length := by omega
  have g2 : ¬ 8 < es.length := by omega
  have g3 : ¬ 8 < fs.length := by omega
  have g1' : ¬ (8 : Int) < (ds.length : Int) := by omega
  have g2' : ¬ (8 : Int) < (es.length : Int) := by omega
  have g3' : ¬ (8 : Int) < (fs.length : Int) := by omega
  obtain ⟨A, c, rfl, hA⟩ := hu
  obtain ⟨B, c2, rfl, hB⟩ := hv
  obtain ⟨C, c3, rfl, hC⟩ := hz
  clear hk hj hi hd he hf hk0 hj0 hi0 hA hB hC hT hl1 hl2 hl3
  go_enter Tryd.func10, Tryd.ntmps10
  go_wp2_with fail
  refine hAw.mono ?_
  rintro e w1 ⟨rfl, hb1⟩
  have HS := Lib.hid (St.begin HT.out hb1)
  clear hAw HT hb1
  go_wp2_with fail
  refine (hNu.out _ HS.out.low).mono ?_
  rintro e w2 ⟨vn, vr, rfl, hn, -, hb2⟩
  obtain ⟨An, nn, cn, -, rfl⟩ := isNat_digs hn
  replace HS := Lib.hid (((HS.out.below hb2).push hn HK.out).alloc (.slice An nn cn))
  clear hn hb2 hNu
  obtain ⟨w3, hw3⟩ : ∃ w3, w2.alloc (.cells #[.slice An nn cn] 26) = w3 := ⟨_, rfl⟩
  rw [hw3] at HS
  generalize hx7 : w2.heap.size = x7 at HS
  go_wp2_with fail
  clear hw3
  refine (hNv.out _ HS.out.low).mono ?_
  rintro e w4 ⟨vm, vs, rfl, hm, -, hb4⟩
  obtain ⟨Am, nm, cm, -, rfl⟩ := isNat_digs hm
  replace HS := Lib.hid (((HS.out.below hb4).push hm HJ.out).alloc (.slice Am nm cm))
  clear hm hb4 hNv
  obtain ⟨w5, hw5⟩ : ∃ w5, w4.alloc (.cells #[.slice Am nm cm] 26) = w5 := ⟨_, rfl⟩
  rw [hw5] at HS
  generalize hx9 : w4.heap.size = x9 at HS
  go_wp2_with fail
  clear hw5
  refine (hNz.out _ HS.out.low).mono ?_
  rintro e w6 ⟨vo, vt, rfl, ho, -, hb6⟩
  obtain ⟨Ao, no, co, -, rfl⟩ := isNat_digs ho
  replace HS := Lib.hid (((HS.out.below hb6).push ho HI.out).alloc (.slice Ao no co))
  clear ho hb6 hNz
  obtain ⟨w7, hw7⟩ : ∃ w7, w6.alloc (.cells #[.slice Ao no co] 26) = w7 := ⟨_, rfl⟩
  rw [hw7] at HS
  generalize hx11 : w6.heap.size = x11 at HS
  have c9 := HS.out.cell (b := x9) (by repeat' first | exact List.Mem.head _ | refine List.Mem.tail _ ?_)
  go_wp2_with fail
  clear hw7 c9
  by_cases hj : j = 0
  · refine (zeroS_yes HS.out (by repeat' first | exact List.Mem.head _ | refine List.Mem.tail _ ?_) (by omega) hj).mono ?_
    rintro e w8 ⟨rfl, S⟩
    clear HS
    go_wp2_with fail
    go_ret
    exact ⟨rfl, S.low⟩
  refine (zeroS_no HS.out (by repeat' first | exact List.Mem.head _ | refine List.Mem.tail _ ?_) (by omega) (Nat.pos_of_ne_zero hj)).mono ?_
  rintro e w8 ⟨rfl, S⟩
  replace HS := Lib.hid S
  have c11 := S.cell (b := x11) (by repeat' first | exact List.Mem.head _ | refine List.Mem.tail _ ?_)
  clear S
  go_wp2_with fail
  clear c11
  by_cases hi : i = 0
  · refine (zeroS_yes HS.out (by repeat' first | exact List.Mem.head _ | refine List.Mem.tail _ ?_) (by omega) hi).mono ?_
    rintro e w8 ⟨rfl, S⟩
    clear HS
    go_wp2_with fail
    go_ret
    exact ⟨rfl, S.low⟩
  refine (zeroS_no HS.out (by repeat' first | exact List.Mem.head _ | refine List.Mem.tail _ ?_) (by omega) (Nat.pos_of_ne_zero hi)).mono ?_
  rintro e w9 ⟨rfl, S⟩
  replace HS := Lib.hid S
  have c7 := S.cell (b := x7) (by repeat' first | exact List.Mem.head _ | refine List.Mem.tail _ ?_)
  have c9 := S.cell (b := x9) (by repeat' first | exact List.Mem.head _ | refine List.Mem.tail _ ?_)
  clear S
  go_wp2_with fail
  clear c7 c9
  refine (divS HS.out (by repeat' first | exact List.Mem.head _ | refine List.Mem.tail _ ?_) (by repeat' first | exact List.Mem.head _ | refine List.Mem.tail _ ?_) (by omega) (by omega) (Nat.pos_of_ne_zero hj)).mono ?_
  rintro e w10 ⟨Aq, nq, cq, Ar, nr, cr, rfl, S⟩
  replace HS := Lib.hid S
  clear S
  have hj0 : 0 < j := Nat.pos_of_ne_zero hj
  have hi0 : 0 < i := Nat.pos_of_ne_zero hi
  replace HS := Lib.hid (HS.out.alloc2 (.slice Aq nq cq) (.slice Ar nr cr))
  obtain ⟨w11, hw11⟩ : ∃ w11, (w10.alloc (.cells #[.slice Aq nq cq] 26)).alloc (.cells #[.slice Ar nr cr] 26) = w11 := ⟨_, rfl⟩
  rw [hw11] at HS
  generalize hx13 : w10.heap.size = x13 at HS
  clear hj hi
  go_upto_region 11 with fail
  clear hw11
  go_cut [86] (fun s wx => s = .bool false ∧ Hid (St w [(.agg #[.slice Ao no co], i, 8), (.agg #[.slice Am nm cm], j, 8), (.agg #[.slice An nn cn], k, 8)] [(x11, .slice Ao no co), (x9, .slice Am nm cm), (x7, .slice An nn cn)] wx))
  case first =>
    have S0 := HS.out.drew
    have c7 := S0.cell (b := x7) (by repeat' first | exact List.Mem.head _ | refine List.Mem.tail _ ?_)
    have c9 := S0.cell (b := x9) (by repeat' first | exact List.Mem.head _ | refine List.Mem.tail _ ?_)
    have c13 := S0.cell (b := x13) (by repeat' first | exact List.Mem.head _ | refine List.Mem.tail _ ?_)
    have c14 := S0.cell (b := x13 + 1) (by repeat' first | exact List.Mem.head _ | refine List.Mem.tail _ ?_)
    clear HS
    go_region_held3 (fun W' => W'.cell? ⟨x7, 0, none⟩ = some (.slice An nn cn) ∧ W'.cell? ⟨x9, 0, none⟩ = some (.slice Am nm cm) ∧ W'.cell? ⟨x13, 0, none⟩ = some (.slice Aq nq cq) ∧ W'.cell? ⟨x13 + 1, 0, none⟩ = some (.slice Ar nr cr))
      (first | exact ⟨c7, c9, c13, c14⟩ | go_keep)
      (first
        | (go_at_call 17; refine (cmpS_lt S0 (by repeat' first | exact List.Mem.head _ | refine List.Mem.tail _ ?_) (by repeat' first | exact List.Mem.head _ | refine List.Mem.tail _ ?_) (by omega) (by omega) (Nat.mod_lt k hj0)).mono ?_; rintro e W ⟨rfl, S1⟩; replace S0 := S1; clear S1; replace c7 := S0.cell (b := x7) (by repeat' first | exact List.Mem.head _ | refine List.Mem.tail _ ?_); replace c9 := S0.cell (b := x9) (by repeat' first | exact List.Mem.head _ | refine List.Mem.tail _ ?_); replace c13 := S0.cell (b := x13) (by repeat' first | exact List.Mem.head _ | refine List.Mem.tail _ ?_); replace c14 := S0.cell (b := x13 + 1) (by repeat' first | exact List.Mem.head _ | refine List.Mem.tail _ ?_))
        | (go_at_call 17; refine (cmpS_eq S0 (by repeat' first | exact List.Mem.head _ | refine List.Mem.tail _ ?_) (by repeat' first | exact List.Mem.head _ | refine List.Mem.tail _ ?_) (by omega) (by omega) (div_whole k j)).mono ?_; rintro e W ⟨rfl, S1⟩; replace S0 := S1; clear S1; replace c7 := S0.cell (b := x7) (by repeat' first | exact List.Mem.head _ | refine List.Mem.tail _ ?_); replace c9 := S0.cell (b := x9) (by repeat' first | exact List.Mem.head _ | refine List.Mem.tail _ ?_); replace c13 := S0.cell (b := x13) (by repeat' first | exact List.Mem.head _ | refine List.Mem.tail _ ?_); replace c14 := S0.cell (b := x13 + 1) (by repeat' first | exact List.Mem.head _ | refine List.Mem.tail _ ?_))
        | (go_at_call 25; refine (mulS S0 (by repeat' first | exact List.Mem.head _ | refine List.Mem.tail _ ?_) (by repeat' first | exact List.Mem.head _ | refine List.Mem.tail _ ?_) (by omega) (by omega)).mono ?_; rintro e W ⟨A1, n1, c1, rfl, S1⟩; replace S0 := S1; clear S1; replace c7 := S0.cell (b := x7) (by repeat' first | exact List.Mem.head _ | refine List.Mem.tail _ ?_); replace c9 := S0.cell (b := x9) (by repeat' first | exact List.Mem.head _ | refine List.Mem.tail _ ?_); replace c13 := S0.cell (b := x13) (by repeat' first | exact List.Mem.head _ | refine List.Mem.tail _ ?_); replace c14 := S0.cell (b := x13 + 1) (by repeat' first | exact List.Mem.head _ | refine List.Mem.tail _ ?_))
        | (go_at_call 22; refine (addS S0 (by repeat' first | exact List.Mem.head _ | refine List.Mem.tail _ ?_) (by repeat' first | exact List.Mem.head _ | refine List.Mem.tail _ ?_) (by omega) (by omega)).mono ?_; rintro e W ⟨A1, n1, c1, rfl, S1⟩; replace S0 := S1; clear S1; replace c7 := S0.cell (b := x7) (by repeat' first | exact List.Mem.head _ | refine List.Mem.tail _ ?_); replace c9 := S0.cell (b := x9) (by repeat' first | exact List.Mem.head _ | refine List.Mem.tail _ ?_); replace c13 := S0.cell (b := x13) (by repeat' first | exact List.Mem.head _ | refine List.Mem.tail _ ?_); replace c14 := S0.cell (b := x13 + 1) (by repeat' first | exact List.Mem.head _ | refine List.Mem.tail _ ?_)))
    all_goals (go_wp2_with fail; go_meet; exact ⟨rfl, Lib.hid (S0.sub2 (by repeat' first | exact List.Sublist.slnil | refine List.Sublist.cons_cons _ ?_ | refine List.Sublist.cons _ ?_) (by repeat' first | exact List.Sublist.slnil | refine List.Sublist.cons_cons _ ?_ | refine List.Sublist.cons _ ?_))⟩)
  case rest =>
    obtain ⟨rfl, HS'⟩ := hcut
    replace HS := HS'
    clear HS' hx13
    go_upto_region 13 with fail
    go_cut [16] (fun s wx => ∃ (b : Nat) (Ag : Option Addr) (ng cg : Nat), s = .pointer (some ⟨b, 0, none⟩) ∧ Hid (St w [(.agg #[.slice Ag ng cg], Nat.gcd (k * i) (j * i), 16), (.agg #[.slice Ao no co], i, 8), (.agg #[.slice Am nm cm], j, 8), (.agg #[.slice An nn cn], k, 8)] [(b, .slice Ag ng cg), (x11, .slice Ao no co), (x9, .slice Am nm cm), (x7, .slice An nn cn)] wx))
    case first => as_aux_lemma =>
      refine wp_region_held_drew (S := fun W' => W'.cell? ⟨x7, 0, none⟩ = some (.slice An nn cn) ∧ W'.cell? ⟨x9, 0, none⟩ = some (.slice Am nm cm) ∧ W'.cell? ⟨x11, 0, none⟩ = some (.slice Ao no co)) (by kernel_rfl) ⟨HS.out.cell (b := x7) (by repeat' first | exact List.Mem.head _ | refine List.Mem.tail _ ?_), HS.out.cell (b := x9) (by repeat' first | exact List.Mem.head _ | refine List.Mem.tail _ ?_), HS.out.cell (b := x11) (by repeat' first | exact List.Mem.head _ | refine List.Mem.tail _ ?_)⟩ (fun hHeld => ?_)
      obtain ⟨w0, hw0⟩ : ∃ w0, wc.drew = w0 := ⟨_, rfl⟩
      have S0 := HS.out.drew
      rw [hw0] at hHeld S0 ⊢
      clear hw0 HS
      refine wpAnyH_takeD 0 (v := ?_) rfl rfl (by kernel_rfl) (by kernel_rfl) (by kernel_rfl) (fun _ _ _ h => h) (Or.inl ⟨by rfl, ?_⟩) hHeld ?_
      rotate_left
      focus (intro w hSw; (try dsimp only at hSw); go_simp; try with_reducible rfl)
      simp only [List.setIfInBounds_toArray, List.set_cons_zero, List.set_cons_succ]
      refine wpAnyH_takeD 1 (v := ?_) rfl rfl (by kernel_rfl) (by kernel_rfl) (by kernel_rfl) (fun _ _ _ h => h) (Or.inl ⟨by rfl, ?_⟩) hHeld ?_
      rotate_left
      focus (intro w hSw; (try dsimp only at hSw); go_simp; try with_reducible rfl)
      simp only [List.setIfInBounds_toArray, List.set_cons_zero, List.set_cons_succ]
      refine wpAnyH_takeD 3 (v := ?_) rfl rfl (by kernel_rfl) (by kernel_rfl) (by kernel_rfl) (fun _ _ _ h => h) (Or.inl ⟨by rfl, ?_⟩) hHeld ?_
      rotate_left
      focus (intro w hSw; (try dsimp only at hSw); go_simp; try with_reducible rfl)
      simp only [List.setIfInBounds_toArray, List.set_cons_zero, List.set_cons_succ]
      refine wpAnyH_takeD 4 (v := ?_) rfl rfl (by kernel_rfl) (by kernel_rfl) (by kernel_rfl) (fun _ _ _ h => h) (Or.inl ⟨by rfl, ?_⟩) hHeld ?_
      rotate_left
      focus (intro w hSw; (try dsimp only at hSw); go_simp; try with_reducible rfl)
      simp only [List.setIfInBounds_toArray, List.set_cons_zero, List.set_cons_succ]
      refine wpAnyH_ready (rs := [2,7]) (by kernel_rfl) (by simp) ?_
      refine AllReadyH.cons rfl (fun K hK => ?_) ?_
      · as_aux_lemma =>
          go_simp
          refine (mulS S0 (by repeat' first | exact List.Mem.head _ | refine List.Mem.tail _ ?_) (by repeat' first | exact List.Mem.head _ | refine List.Mem.tail _ ?_) (by omega) (by omega)).mono ?_
          rintro e w01 ⟨Am1, nm1, cm1, rfl, S1⟩
          refine hK.out _ _ ⟨S1.cell (b := x7) (by repeat' first | exact List.Mem.head _ | refine List.Mem.tail _ ?_), S1.cell (b := x9) (by repeat' first | exact List.Mem.head _ | refine List.Mem.tail _ ?_), S1.cell (b := x11) (by repeat' first | exact List.Mem.head _ | refine List.Mem.tail _ ?_)⟩ (fun hHeld => ?_)
          clear hK K
          refine wpAnyH_ready (rs := [5,7]) (by kernel_rfl) (by simp) ?_
          refine AllReadyH.cons rfl (fun K hK => ?_) ?_
          · go_simp
            refine (mulS S1 (by repeat' first | exact List.Mem.head _ | refine List.Mem.tail _ ?_) (by repeat' first | exact List.Mem.head _ | refine List.Mem.tail _ ?_) (by omega) (by omega)).mono ?_
            rintro e w02 ⟨Am2, nm2, cm2, rfl, S2⟩
            refine hK.out _ _ ⟨S2.cell (b := x7) (by repeat' first | exact List.Mem.head _ | refine List.Mem.tail _ ?_), S2.cell (b := x9) (by repeat' first | exact List.Mem.head _ | refine List.Mem.tail _ ?_), S2.cell (b := x11) (by repeat' first | exact List.Mem.head _ | refine List.Mem.tail _ ?_)⟩ (fun hHeld => ?_)
            clear hK K
            refine wpAnyH_ready (rs := [6,7]) (by kernel_rfl) (by simp) ?_
            refine AllReadyH.cons rfl (fun K hK => ?_) ?_
            · go_simp
              refine (gcdS S2 (by repeat' first | exact List.Mem.head _ | refine List.Mem.tail _ ?_) (by repeat' first | exact List.Mem.head _ | refine List.Mem.tail _ ?_) (by omega) (by omega) (Nat.mul_pos hj0 hi0)).mono ?_
              rintro e w03 ⟨Ag, ng, cg, rfl, S3⟩
              refine hK.out _ _ ⟨S3.cell (b := x7) (by repeat' first | exact List.Mem.head _ | refine List.Mem.tail _ ?_), S3.cell (b := x9) (by repeat' first | exact List.Mem.head _ | refine List.Mem.tail _ ?_), S3.cell (b := x11) (by repeat' first | exact List.Mem.head _ | refine List.Mem.tail _ ?_)⟩ (fun hHeld => ?_)
              clear hK K
              refine wpAnyH_ready (rs := [7]) (by kernel_rfl) (by simp) ?_
              refine AllReadyH.cons rfl (fun K hK => ?_) AllReadyH.nil
              · go_simp
                have S4 := S3.alloc (.slice none 0 0)
                refine hK.out _ _ ⟨S4.cell (b := x7) (by repeat' first | exact List.Mem.head _ | refine List.Mem.tail _ ?_), S4.cell (b := x9) (by repeat' first | exact List.Mem.head _ | refine List.Mem.tail _ ?_), S4.cell (b := x11) (by repeat' first | exact List.Mem.head _ | refine List.Mem.tail _ ?_)⟩ (fun hHeld => ?_)
                clear hK K
                generalize World.alloc w03 _ = w04 at S4 hHeld ⊢
                have cy0 := S4.cell (b := w03.heap.size) (v := .slice none 0 0) (by repeat' first | exact List.Mem.head _ | refine List.Mem.tail _ ?_)
                have fy0 := S4.frozen (b := w03.heap.size) (v := .slice none 0 0) (by repeat' first | exact List.Mem.head _ | refine List.Mem.tail _ ?_)
                refine wpAnyH_ready (rs := [8]) (by kernel_rfl) (by simp) ?_
                refine AllReadyH.cons rfl (fun K hK => ?_) AllReadyH.nil
                go_simp
                have T0 := S4.store0 (.slice Ag ng cg)
                refine hK.out _ _ ⟨T0.cell (b := x7) (by repeat' first | exact List.Mem.head _ | refine List.Mem.tail _ ?_), T0.cell (b := x9) (by repeat' first | exact List.Mem.head _ | refine List.Mem.tail _ ?_), T0.cell (b := x11) (by repeat' first | exact List.Mem.head _ | refine List.Mem.tail _ ?_)⟩ (fun hHeld => ?_)
                clear hK K cy0 fy0
                generalize World.setCell w04 _ _ = v0 at T0 hHeld ⊢
                refine wpAnyH_done (by kernel_rfl) ?_ _
                go_wp2_with fail
                go_meet
                exact ⟨_, _, _, _, rfl, Lib.hid (T0.sub2 (by repeat' first | exact List.Sublist.slnil | refine List.Sublist.cons_cons _ ?_ | refine List.Sublist.cons _ ?_) (by repeat' first | exact List.Sublist.slnil | refine List.Sublist.cons_cons _ ?_ | refine List.Sublist.cons _ ?_))⟩
            refine AllReadyH.cons rfl (fun K hK => ?_) AllReadyH.nil
            · go_simp
              have S3 := S2.alloc (.slice none 0 0)
              refine hK.out _ _ ⟨S3.cell (b := x7) (by repeat' first | exact List.Mem.head _ | refine List.Mem.tail _ ?_), S3.cell (b := x9) (by repeat' first | exact List.Mem.head _ | refine List.Mem.tail _ ?_), S3.cell (b := x11) (by repeat' first | exact List.Mem.head _ | refine List.Mem.tail _ ?_)⟩ (fun hHeld => ?_)
              clear hK K
              generalize World.alloc w02 _ = w03 at S3 hHeld ⊢
              refine wpAnyH_ready (rs := [6]) (by kernel_rfl) (by simp) ?_
              refine AllReadyH.cons rfl (fun K hK => ?_) AllReadyH.nil
              · go_simp
                refine (gcdS S3 (by repeat' first | exact List.Mem.head _ | refine List.Mem.tail _ ?_) (by repeat' first | exact List.Mem.head _ | refine List.Mem.tail _ ?_) (by omega) (by omega) (Nat.mul_pos hj0 hi0)).mono ?_
                rintro e w04 ⟨Ag, ng, cg, rfl, S4⟩
                refine hK.out _ _ ⟨S4.cell (b := x7) (by repeat' first | exact List.Mem.head _ | refine List.Mem.tail _ ?_), S4.cell (b := x9) (by repeat' first | exact List.Mem.head _ | refine List.Mem.tail _ ?_), S4.cell (b := x11) (by repeat' first | exact List.Mem.head _ | refine List.Mem.tail _ ?_)⟩ (fun hHeld => ?_)
                clear hK K
                have cy0 := S4.cell (b := w02.heap.size) (v := .slice none 0 0) (by repeat' first | exact List.Mem.head _ | refine List.Mem.tail _ ?_)
                have fy0 := S4.frozen (b := w02.heap.size) (v := .slice none 0 0) (by repeat' first | exact List.Mem.head _ | refine List.Mem.tail _ ?_)
                refine wpAnyH_ready (rs := [8]) (by kernel_rfl) (by simp) ?_
                refine AllReadyH.cons rfl (fun K hK => ?_) AllReadyH.nil
                go_simp
                have T0 := S4.store0 (.slice Ag ng cg)
                refine hK.out _ _ ⟨T0.cell (b := x7) (by repeat' first | exact List.Mem.head _ | refine List.Mem.tail _ ?_), T0.cell (b := x9) (by repeat' first | exact List.Mem.head _ | refine List.Mem.tail _ ?_), T0.cell (b := x11) (by repeat' first | exact List.Mem.head _ | refine List.Mem.tail _ ?_)⟩ (fun hHeld => ?_)
                clear hK K cy0 fy0
                generalize World.setCell w04 _ _ = v0 at T0 hHeld ⊢
                refine wpAnyH_done (by kernel_rfl) ?_ _
                go_wp2_with fail
                go_meet
                exact ⟨_, _, _, _, rfl, Lib.hid (T0.sub2 (by repeat' first | exact List.Sublist.slnil | refine List.Sublist.cons_cons _ ?_ | refine List.Sublist.cons _ ?_) (by repeat' first | exact List.Sublist.slnil | refine List.Sublist.cons_cons _ ?_ | refine List.Sublist.cons _ ?_))⟩
          refine AllReadyH.cons rfl (fun K hK => ?_) AllReadyH.nil
          · go_simp
            have S2 := S1.alloc (.slice none 0 0)
            refine hK.out _ _ ⟨S2.cell (b := x7) (by repeat' first | exact List.Mem.head _ | refine List.Mem.tail _ ?_), S2.cell (b := x9) (by repeat' first | exact List.Mem.head _ | refine List.Mem.tail _ ?_), S2.cell (b := x11) (by repeat' first | exact List.Mem.head _ | refine List.Mem.tail _ ?_)⟩ (fun hHeld => ?_)
            clear hK K
            generalize World.alloc w01 _ = w02 at S2 hHeld ⊢
            refine wpAnyH_ready (rs := [5]) (by kernel_rfl) (by simp) ?_
            refine AllReadyH.cons rfl (fun K hK => ?_) AllReadyH.nil
            · go_simp
              refine (mulS S2 (by repeat' first | exact List.Mem.head _ | refine List.Mem.tail _ ?_) (by repeat' first | exact List.Mem.head _ | refine List.Mem.tail _ ?_) (by omega) (by omega)).mono ?_
              rintro e w03 ⟨Am2, nm2, cm2, rfl, S3⟩
              refine hK.out _ _ ⟨S3.cell (b := x7) (by repeat' first | exact List.Mem.head _ | refine List.Mem.tail _ ?_), S3.cell (b := x9) (by repeat' first | exact List.Mem.head _ | refine List.Mem.tail _ ?_), S3.cell (b := x11) (by repeat' first | exact List.Mem.head _ | refine List.Mem.tail _ ?_)⟩ (fun hHeld => ?_)
              clear hK K
              refine wpAnyH_ready (rs := [6]) (by kernel_rfl) (by simp) ?_
              refine AllReadyH.cons rfl (fun K hK => ?_) AllReadyH.nil
              · go_simp
                refine (gcdS S3 (by repeat' first | exact List.Mem.head _ | refine List.Mem.tail _ ?_) (by repeat' first | exact List.Mem.head _ | refine List.Mem.tail _ ?_) (by omega) (by omega) (Nat.mul_pos hj0 hi0)).mono ?_
                rintro e w04 ⟨Ag, ng, cg, rfl, S4⟩
                refine hK.out _ _ ⟨S4.cell (b := x7) (by repeat' first | exact List.Mem.head _ | refine List.Mem.tail _ ?_), S4.cell (b := x9) (by repeat' first | exact List.Mem.head _ | refine List.Mem.tail _ ?_), S4.cell (b := x11) (by repeat' first | exact List.Mem.head _ | refine List.Mem.tail _ ?_)⟩ (fun hHeld => ?_)
                clear hK K
                have cy0 := S4.cell (b := w01.heap.size) (v := .slice none 0 0) (by repeat' first | exact List.Mem.head _ | refine List.Mem.tail _ ?_)
                have fy0 := S4.frozen (b := w01.heap.size) (v := .slice none 0 0) (by repeat' first | exact List.Mem.head _ | refine List.Mem.tail _ ?_)
                refine wpAnyH_ready (rs := [8]) (by kernel_rfl) (by simp) ?_
                refine AllReadyH.cons rfl (fun K hK => ?_) AllReadyH.nil
                go_simp
                have T0 := S4.store0 (.slice Ag ng cg)
                refine hK.out _ _ ⟨T0.cell (b := x7) (by repeat' first | exact List.Mem.head _ | refine List.Mem.tail _ ?_), T0.cell (b := x9) (by repeat' first | exact List.Mem.head _ | refine List.Mem.tail _ ?_), T0.cell (b := x11) (by repeat' first | exact List.Mem.head _ | refine List.Mem.tail _ ?_)⟩ (fun hHeld => ?_)
                clear hK K cy0 fy0
                generalize World.setCell w04 _ _ = v0 at T0 hHeld ⊢
                refine wpAnyH_done (by kernel_rfl) ?_ _
                go_wp2_with fail
                go_meet
                exact ⟨_, _, _, _, rfl, Lib.hid (T0.sub2 (by repeat' first | exact List.Sublist.slnil | refine List.Sublist.cons_cons _ ?_ | refine List.Sublist.cons _ ?_) (by repeat' first | exact List.Sublist.slnil | refine List.Sublist.cons_cons _ ?_ | refine List.Sublist.cons _ ?_))⟩
      refine AllReadyH.cons rfl (fun K hK => ?_) AllReadyH.nil
      · as_aux_lemma =>
          go_simp
          have S1 := S0.alloc (.slice none 0 0)
          refine hK.out _ _ ⟨S1.cell (b := x7) (by repeat' first | exact List.Mem.head _ | refine List.Mem.tail _ ?_), S1.cell (b := x9) (by repeat' first | exact List.Mem.head _ | refine List.Mem.tail _ ?_), S1.cell (b := x11) (by repeat' first | exact List.Mem.head _ | refine List.Mem.tail _ ?_)⟩ (fun hHeld => ?_)
          clear hK K
          generalize World.alloc w0 _ = w01 at S1 hHeld ⊢
          refine wpAnyH_ready (rs := [2]) (by kernel_rfl) (by simp) ?_
          refine AllReadyH.cons rfl (fun K hK => ?_) AllReadyH.nil
          · go_simp
            refine (mulS S1 (by repeat' first | exact List.Mem.head _ | refine List.Mem.tail _ ?_) (by repeat' first | exact List.Mem.head _ | refine List.Mem.tail _ ?_) (by omega) (by omega)).mono ?_
            rintro e w02 ⟨Am1, nm1, cm1, rfl, S2⟩
            refine hK.out _ _ ⟨S2.cell (b := x7) (by repeat' first | exact List.Mem.head _ | refine List.Mem.tail _ ?_), S2.cell (b := x9) (by repeat' first | exact List.Mem.head _ | refine List.Mem.tail _ ?_), S2.cell (b := x11) (by repeat' first | exact List.Mem.head _ | refine List.Mem.tail _ ?_)⟩ (fun hHeld => ?_)
            clear hK K
            refine wpAnyH_ready (rs := [5]) (by kernel_rfl) (by simp) ?_
            refine AllReadyH.cons rfl (fun K hK => ?_) AllReadyH.nil
            · go_simp
              refine (mulS S2 (by repeat' first | exact List.Mem.head _ | refine List.Mem.tail _ ?_) (by repeat' first | exact List.Mem.head _ | refine List.Mem.tail _ ?_) (by omega) (by omega)).mono ?_
              rintro e w03 ⟨Am2, nm2, cm2, rfl, S3⟩
              refine hK.out _ _ ⟨S3.cell (b := x7) (by repeat' first | exact List.Mem.head _ | refine List.Mem.tail _ ?_), S3.cell (b := x9) (by repeat' first | exact List.Mem.head _ | refine List.Mem.tail _ ?_), S3.cell (b := x11) (by repeat' first | exact List.Mem.head _ | refine List.Mem.tail _ ?_)⟩ (fun hHeld => ?_)
              clear hK K
              refine wpAnyH_ready (rs := [6]) (by kernel_rfl) (by simp) ?_
              refine AllReadyH.cons rfl (fun K hK => ?_) AllReadyH.nil
              · go_simp
                refine (gcdS S3 (by repeat' first | exact List.Mem.head _ | refine List.Mem.tail _ ?_) (by repeat' first | exact List.Mem.head _ | refine List.Mem.tail _ ?_) (by omega) (by omega) (Nat.mul_pos hj0 hi0)).mono ?_
                rintro e w04 ⟨Ag, ng, cg, rfl, S4⟩
                refine hK.out _ _ ⟨S4.cell (b := x7) (by repeat' first | exact List.Mem.head _ | refine List.Mem.tail _ ?_), S4.cell (b := x9) (by repeat' first | exact List.Mem.head _ | refine List.Mem.tail _ ?_), S4.cell (b := x11) (by repeat' first | exact List.Mem.head _ | refine List.Mem.tail _ ?_)⟩ (fun hHeld => ?_)
                clear hK K
                have cy0 := S4.cell (b := w0.heap.size) (v := .slice none 0 0) (by repeat' first | exact List.Mem.head _ | refine List.Mem.tail _ ?_)
                have fy0 := S4.frozen (b := w0.heap.size) (v := .slice none 0 0) (by repeat' first | exact List.Mem.head _ | refine List.Mem.tail _ ?_)
                refine wpAnyH_ready (rs := [8]) (by kernel_rfl) (by simp) ?_
                refine AllReadyH.cons rfl (fun K hK => ?_) AllReadyH.nil
                go_simp
                have T0 := S4.store0 (.slice Ag ng cg)
                refine hK.out _ _ ⟨T0.cell (b := x7) (by repeat' first | exact List.Mem.head _ | refine List.Mem.tail _ ?_), T0.cell (b := x9) (by repeat' first | exact List.Mem.head _ | refine List.Mem.tail _ ?_), T0.cell (b := x11) (by repeat' first | exact List.Mem.head _ | refine List.Mem.tail _ ?_)⟩ (fun hHeld => ?_)
                clear hK K cy0 fy0
                generalize World.setCell w04 _ _ = v0 at T0 hHeld ⊢
                refine wpAnyH_done (by kernel_rfl) ?_ _
                go_wp2_with fail
                go_meet
                exact ⟨_, _, _, _, rfl, Lib.hid (T0.sub2 (by repeat' first | exact List.Sublist.slnil | refine List.Sublist.cons_cons _ ?_ | refine List.Sublist.cons _ ?_) (by repeat' first | exact List.Sublist.slnil | refine List.Sublist.cons_cons _ ?_ | refine List.Sublist.cons _ ?_))⟩
    case rest =>
      obtain ⟨b16, Ag, ng, cg, rfl, HS'⟩ := hcut
      replace HS := HS'
      clear HS'
      have hgp := Lib.hid (gcd_more (x := k * i) (Nat.mul_pos hj0 hi0))
      have e1 := Lib.hid (gcd_scaled k j i)
      have e2 := Lib.hid (left_gcd (k * i) (j * i))
      have e3 := Lib.hid (right_gcd (k * i) (j * i))
      generalize Nat.gcd (k * i) (j * i) = g at HS hgp e1 e2 e3
      have c16 := HS.out.cell (b := b16) (by repeat' first | exact List.Mem.head _ | refine List.Mem.tail _ ?_)
      have c11 := HS.out.cell (b := x11) (by repeat' first | exact List.Mem.head _ | refine List.Mem.tail _ ?_)
      go_wp2_with fail
      clear c16 c11
      refine (divS HS.out (by repeat' first | exact List.Mem.head _ | refine List.Mem.tail _ ?_) (by repeat' first | exact List.Mem.head _ | refine List.Mem.tail _ ?_) (by omega) (by omega) hi0).mono ?_
      rintro e w14 ⟨As1, ns1, cs1, As, ns, cs, rfl, S⟩
      rw [e1.out] at S
      replace HS := Lib.hid (S.alloc2 (.slice As1 ns1 cs1) (.slice As ns cs))
      clear S
      obtain ⟨w15, hw15⟩ : ∃ w15, (w14.alloc (.cells #[.slice As1 ns1 cs1] 26)).alloc (.cells #[.slice As ns cs] 26) = w15 := ⟨_, rfl⟩
      rw [hw15] at HS
      generalize hx17 : w14.heap.size = x17 at HS
      go_upto_region 15 with fail
      clear hw15
      go_cut [19, 21, 22] (fun f1 s f wx => ∃ (b : Nat) (A : Option Addr) (n c : Nat), f1 = .int .i64 0 ∧ s = .pointer (some ⟨b, 0, none⟩) ∧ f = .int .i64 0 ∧ Hid (St w [(.agg #[.slice A n c], 0, 16), (.agg #[.slice As ns cs], 0, 8), (.agg #[.slice Ag ng cg], g, 16), (.agg #[.slice Ao no co], i, 8), (.agg #[.slice Am nm cm], j, 8), (.agg #[.slice An nn cn], k, 8)] [(b, .slice A n c), (x17 + 1, .slice As ns cs), (b16, .slice Ag ng cg), (x11, .slice Ao no co), (x9, .slice Am nm cm), (x7, .slice An nn cn)] wx))
      case first => as_aux_lemma =>
        refine wp_region_held_drew (S := fun W' => W'.cell? ⟨x7, 0, none⟩ = some (.slice An nn cn) ∧ W'.cell? ⟨x11, 0, none⟩ = some (.slice Ao no co) ∧ W'.cell? ⟨b16, 0, none⟩ = some (.slice Ag ng cg)) (by kernel_rfl) ⟨HS.out.cell (b := x7) (by repeat' first | exact List.Mem.head _ | refine List.Mem.tail _ ?_), HS.out.cell (b := x11) (by repeat' first | exact List.Mem.head _ | refine List.Mem.tail _ ?_), HS.out.cell (b := b16) (by repeat' first | exact List.Mem.head _ | refine List.Mem.tail _ ?_)⟩ (fun hHeld => ?_)
        obtain ⟨w0, hw0⟩ : ∃ w0, w15.drew = w0 := ⟨_, rfl⟩
        have S0 := HS.out.drew
        rw [hw0] at hHeld S0 ⊢
        clear hw0 HS
        refine wpAnyH_takeD 0 (v := ?_) rfl rfl (by kernel_rfl) (by kernel_rfl) (by kernel_rfl) (fun _ _ _ h => h) (Or.inl ⟨by rfl, ?_⟩) hHeld ?_
        rotate_left
        focus (intro w hSw; (try dsimp only at hSw); go_simp; try with_reducible rfl)
        simp only [List.setIfInBounds_toArray, List.set_cons_zero, List.set_cons_succ]
        refine wpAnyH_takeD 1 (v := ?_) rfl rfl (by kernel_rfl) (by kernel_rfl) (by kernel_rfl) (fun _ _ _ h => h) (Or.inl ⟨by rfl, ?_⟩) hHeld ?_
        rotate_left
        focus (intro w hSw; (try dsimp only at hSw); go_simp; try with_reducible rfl)
        simp only [List.setIfInBounds_toArray, List.set_cons_zero, List.set_cons_succ]
        refine wpAnyH_takeD 3 (v := ?_) rfl rfl (by kernel_rfl) (by kernel_rfl) (by kernel_rfl) (fun _ _ _ h => h) (Or.inl ⟨by rfl, ?_⟩) hHeld ?_
        rotate_left
        focus (intro w hSw; (try dsimp only at hSw); go_simp; try with_reducible rfl)
        simp only [List.setIfInBounds_toArray, List.set_cons_zero, List.set_cons_succ]
        refine wpAnyH_ready (rs := [2,9,10]) (by kernel_rfl) (by simp) ?_
        refine AllReadyH.cons rfl (fun K hK => ?_) ?_
        · as_aux_lemma =>
            go_simp
            refine (mulS S0 (by repeat' first | exact List.Mem.head _ | refine List.Mem.tail _ ?_) (by repeat' first | exact List.Mem.head _ | refine List.Mem.tail _ ?_) (by omega) (by omega)).mono ?_
            rintro e w01 ⟨Am1, nm1, cm1, rfl, S1⟩
            refine hK.out _ _ ⟨S1.cell (b := x7) (by repeat' first | exact List.Mem.head _ | refine List.Mem.tail _ ?_), S1.cell (b := x11) (by repeat' first | exact List.Mem.head _ | refine List.Mem.tail _ ?_), S1.cell (b := b16) (by repeat' first | exact List.Mem.head _ | refine List.Mem.tail _ ?_)⟩ (fun hHeld => ?_)
            clear hK K
            refine wpAnyH_ready (rs := [4,9,10]) (by kernel_rfl) (by simp) ?_
            refine AllReadyH.cons rfl (fun K hK => ?_) ?_
            · go_simp
              refine (divS S1 (by repeat' first | exact List.Mem.head _ | refine List.Mem.tail _ ?_) (by repeat' first | exact List.Mem.head _ | refine List.Mem.tail _ ?_) (by omega) (by omega) hgp.out).mono ?_
              rintro e w02 ⟨Aq, nq, cq, Ar, nr, cr, rfl, S2⟩
              rw [e2.out] at S2
              refine hK.out _ _ ⟨S2.cell (b := x7) (by repeat' first | exact List.Mem.head _ | refine List.Mem.tail _ ?_), S2.cell (b := x11) (by repeat' first | exact List.Mem.head _ | refine List.Mem.tail _ ?_), S2.cell (b := b16) (by repeat' first | exact List.Mem.head _ | refine List.Mem.tail _ ?_)⟩ (fun hHeld => ?_)
              clear hK K
              refine wpAnyH_takeD 5 (v := ?_) rfl rfl (by kernel_rfl) (by kernel_rfl) (by kernel_rfl) (fun _ _ _ h => h) (Or.inl ⟨by rfl, ?_⟩) hHeld ?_
              rotate_left
              focus (intro w hSw; (try dsimp only at hSw); go_simp; try with_reducible rfl)
              simp only [List.setIfInBounds_toArray, List.set_cons_zero, List.set_cons_succ]
              refine wpAnyH_takeD 6 (v := ?_) rfl rfl (by kernel_rfl) (by kernel_rfl) (by kernel_rfl) (fun _ _ _ h => h) (Or.inl ⟨by rfl, ?_⟩) hHeld ?_
              rotate_left
              focus (intro w hSw; (try dsimp only at hSw); go_simp; try with_reducible rfl)
              simp only [List.setIfInBounds_toArray, List.set_cons_zero, List.set_cons_succ]
              refine wpAnyH_takeD 7 (v := ?_) rfl rfl (by kernel_rfl) (by kernel_rfl) (by kernel_rfl) (fun _ _ _ h => h) (Or.inl ⟨by rfl, ?_⟩) hHeld ?_
              rotate_left
              focus (intro w hSw; (try dsimp only at hSw); go_simp; try with_reducible rfl)
              simp only [List.setIfInBounds_toArray, List.set_cons_zero, List.set_cons_succ]
              refine wpAnyH_takeD 8 (v := ?_) rfl rfl (by kernel_rfl) (by kernel_rfl) (by kernel_rfl) (fun _ _ _ h => h) (Or.inl ⟨by rfl, ?_⟩) hHeld ?_
              rotate_left
              focus (intro w hSw; (try dsimp only at hSw); go_simp; try with_reducible rfl)
              simp only [List.setIfInBounds_toArray, List.set_cons_zero, List.set_cons_succ]
              refine wpAnyH_ready (rs := [9,10]) (by kernel_rfl) (by simp) ?_
              refine AllReadyH.cons rfl (fun K hK => ?_) ?_
              · go_simp
                have S3 := S2.alloc (.slice none 0 0)
                refine hK.out _ _ ⟨S3.cell (b := x7) (by repeat' first | exact List.Mem.head _ | refine List.Mem.tail _ ?_), S3.cell (b := x11) (by repeat' first | exact List.Mem.head _ | refine List.Mem.tail _ ?_), S3.cell (b := b16) (by repeat' first | exact List.Mem.head _ | refine List.Mem.tail _ ?_)⟩ (fun hHeld => ?_)
                clear hK K
                generalize World.alloc w02 _ = w03 at S3 hHeld ⊢
                refine wpAnyH_ready (rs := [10]) (by kernel_rfl) (by simp) ?_
                refine AllReadyH.cons rfl (fun K hK => ?_) AllReadyH.nil
                · go_simp
                  have S4 := S3.alloc (.slice none 0 0)
                  refine hK.out _ _ ⟨S4.cell (b := x7) (by repeat' first | exact List.Mem.head _ | refine List.Mem.tail _ ?_), S4.cell (b := x11) (by repeat' first | exact List.Mem.head _ | refine List.Mem.tail _ ?_), S4.cell (b := b16) (by repeat' first | exact List.Mem.head _ | refine List.Mem.tail _ ?_)⟩ (fun hHeld => ?_)
                  clear hK K
                  generalize World.alloc w03 _ = w04 at S4 hHeld ⊢
                  have cy0 := S4.cell (b := w02.heap.size) (v := .slice none 0 0) (by repeat' first | exact List.Mem.head _ | refine List.Mem.tail _ ?_)
                  have fy0 := S4.frozen (b := w02.heap.size) (v := .slice none 0 0) (by repeat' first | exact List.Mem.head _ | refine List.Mem.tail _ ?_)
                  refine wpAnyH_ready (rs := [11]) (by kernel_rfl) (by simp) ?_
                  refine AllReadyH.cons rfl (fun K hK => ?_) AllReadyH.nil
                  go_simp
                  have T0 := S4.store1 (.slice Aq nq cq)
                  refine hK.out _ _ ⟨T0.cell (b := x7) (by repeat' first | exact List.Mem.head _ | refine List.Mem.tail _ ?_), T0.cell (b := x11) (by repeat' first | exact List.Mem.head _ | refine List.Mem.tail _ ?_), T0.cell (b := b16) (by repeat' first | exact List.Mem.head _ | refine List.Mem.tail _ ?_)⟩ (fun hHeld => ?_)
                  clear hK K cy0 fy0
                  generalize World.setCell w04 _ _ = v0 at T0 hHeld ⊢
                  have cy1 := T0.cell (b := w03.heap.size) (v := .slice none 0 0) (by repeat' first | exact List.Mem.head _ | refine List.Mem.tail _ ?_)
                  have fy1 := T0.frozen (b := w03.heap.size) (v := .slice none 0 0) (by repeat' first | exact List.Mem.head _ | refine List.Mem.tail _ ?_)
                  refine wpAnyH_ready (rs := [12]) (by kernel_rfl) (by simp) ?_
                  refine AllReadyH.cons rfl (fun K hK => ?_) AllReadyH.nil
                  go_simp
                  have T1 := T0.store0 (.slice Ar nr cr)
                  refine hK.out _ _ ⟨T1.cell (b := x7) (by repeat' first | exact List.Mem.head _ | refine List.Mem.tail _ ?_), T1.cell (b := x11) (by repeat' first | exact List.Mem.head _ | refine List.Mem.tail _ ?_), T1.cell (b := b16) (by repeat' first | exact List.Mem.head _ | refine List.Mem.tail _ ?_)⟩ (fun hHeld => ?_)
                  clear hK K cy1 fy1
                  generalize World.setCell v0 _ _ = v1 at T1 hHeld ⊢
                  refine wpAnyH_takeD 13 (v := ?_) rfl rfl (by kernel_rfl) (by kernel_rfl) (by kernel_rfl) (fun _ _ _ h => h) (Or.inl ⟨by rfl, ?_⟩) hHeld ?_
                  rotate_left
                  focus (intro w hSw; (try dsimp only at hSw); go_simp; try with_reducible rfl)
                  simp only [List.setIfInBounds_toArray, List.set_cons_zero, List.set_cons_succ]
                  refine wpAnyH_done (by kernel_rfl) ?_ _
                  go_wp2_with fail
                  go_meet
                  exact ⟨_, _, _, _, rfl, rfl, rfl, Lib.hid (T1.sub2 (by repeat' first | exact List.Sublist.slnil | refine List.Sublist.cons_cons _ ?_ | refine List.Sublist.cons _ ?_) (by repeat' first | exact List.Sublist.slnil | refine List.Sublist.cons_cons _ ?_ | refine List.Sublist.cons _ ?_))⟩
              refine AllReadyH.cons rfl (fun K hK => ?_) AllReadyH.nil
              · go_simp
                have S3 := S2.alloc (.slice none 0 0)
                refine hK.out _ _ ⟨S3.cell (b := x7) (by repeat' first | exact List.Mem.head _ | refine List.Mem.tail _ ?_), S3.cell (b := x11) (by repeat' first | exact List.Mem.head _ | refine List.Mem.tail _ ?_), S3.cell (b := b16) (by repeat' first | exact List.Mem.head _ | refine List.Mem.tail _ ?_)⟩ (fun hHeld => ?_)
                clear hK K
                generalize World.alloc w02 _ = w03 at S3 hHeld ⊢
                refine wpAnyH_ready (rs := [9]) (by kernel_rfl) (by simp) ?_
                refine AllReadyH.cons rfl (fun K hK => ?_) AllReadyH.nil
                · go_simp
                  have S4 := S3.alloc (.slice none 0 0)
                  refine hK.out _ _ ⟨S4.cell (b := x7) (by repeat' first | exact List.Mem.head _ | refine List.Mem.tail _ ?_), S4.cell (b := x11) (by repeat' first | exact List.Mem.head _ | refine List.Mem.tail _ ?_), S4.cell (b := b16) (by repeat' first | exact List.Mem.head _ | refine List.Mem.tail _ ?_)⟩ (fun hHeld => ?_)
                  clear hK K
                  generalize World.alloc w03 _ = w04 at S4 hHeld ⊢
                  have cy0 := S4.cell (b := w03.heap.size) (v := .slice none 0 0) (by repeat' first | exact List.Mem.head _ | refine List.Mem.tail _ ?_)
                  have fy0 := S4.frozen (b := w03.heap.size) (v := .slice none 0 0) (by repeat' first | exact List.Mem.head _ | refine List.Mem.tail _ ?_)
                  refine wpAnyH_ready (rs := [11]) (by kernel_rfl) (by simp) ?_
                  refine AllReadyH.cons rfl (fun K hK => ?_) AllReadyH.nil
                  go_simp
                  have T0 := S4.store0 (.slice Aq nq cq)
                  refine hK.out _ _ ⟨T0.cell (b := x7) (by repeat' first | exact List.Mem.head _ | refine List.Mem.tail _ ?_), T0.cell (b := x11) (by repeat' first | exact List.Mem.head _ | refine List.Mem.tail _ ?_), T0.cell (b := b16) (by repeat' first | exact List.Mem.head _ | refine List.Mem.tail _ ?_)⟩ (fun hHeld => ?_)
                  clear hK K cy0 fy0
                  generalize World.setCell w04 _ _ = v0 at T0 hHeld ⊢
                  have cy1 := T0.cell (b := w02.heap.size) (v := .slice none 0 0) (by repeat' first | exact List.Mem.head _ | refine List.Mem.tail _ ?_)
                  have fy1 := T0.frozen (b := w02.heap.size) (v := .slice none 0 0) (by repeat' first | exact List.Mem.head _ | refine List.Mem.tail _ ?_)
                  refine wpAnyH_ready (rs := [12]) (by kernel_rfl) (by simp) ?_
                  refine AllReadyH.cons rfl (fun K hK => ?_) AllReadyH.nil
                  go_simp
                  have T1 := T0.store1 (.slice Ar nr cr)
                  refine hK.out _ _ ⟨T1.cell (b := x7) (by repeat' first | exact List.Mem.head _ | refine List.Mem.tail _ ?_), T1.cell (b := x11) (by repeat' first | exact List.Mem.head _ | refine List.Mem.tail _ ?_), T1.cell (b := b16) (by repeat' first | exact List.Mem.head _ | refine List.Mem.tail _ ?_)⟩ (fun hHeld => ?_)
                  clear hK K cy1 fy1
                  generalize World.setCell v0 _ _ = v1 at T1 hHeld ⊢
                  refine wpAnyH_takeD 13 (v := ?_) rfl rfl (by kernel_rfl) (by kernel_rfl) (by kernel_rfl) (fun _ _ _ h => h) (Or.inl ⟨by rfl, ?_⟩) hHeld ?_
                  rotate_left
                  focus (intro w hSw; (try dsimp only at hSw); go_simp; try with_reducible rfl)
                  simp only [List.setIfInBounds_toArray, List.set_cons_zero, List.set_cons_succ]
                  refine wpAnyH_done (by kernel_rfl) ?_ _
                  go_wp2_with fail
                  go_meet
                  exact ⟨_, _, _, _, rfl, rfl, rfl, Lib.hid (T1.sub2 (by repeat' first | exact List.Sublist.slnil | refine List.Sublist.cons_cons _ ?_ | refine List.Sublist.cons _ ?_) (by repeat' first | exact List.Sublist.slnil | refine List.Sublist.cons_cons _ ?_ | refine List.Sublist.cons _ ?_))⟩
            refine AllReadyH.cons rfl (fun K hK => ?_) ?_
            · go_simp
              have S2 := S1.alloc (.slice none 0 0)
              refine hK.out _ _ ⟨S2.cell (b := x7) (by repeat' first | exact List.Mem.head _ | refine List.Mem.tail _ ?_), S2.cell (b := x11) (by repeat' first | exact List.Mem.head _ | refine List.Mem.tail _ ?_), S2.cell (b := b16) (by repeat' first | exact List.Mem.head _ | refine List.Mem.tail _ ?_)⟩ (fun hHeld => ?_)
              clear hK K
              generalize World.alloc w01 _ = w02 at S2 hHeld ⊢
              refine wpAnyH_ready (rs := [4,10]) (by kernel_rfl) (by simp) ?_
              refine AllReadyH.cons rfl (fun K hK => ?_) ?_
              · go_simp
                refine (divS S2 (by repeat' first | exact List.Mem.head _ | refine List.Mem.tail _ ?_) (by repeat' first | exact List.Mem.head _ | refine List.Mem.tail _ ?_) (by omega) (by omega) hgp.out).mono ?_
                rintro e w03 ⟨Aq, nq, cq, Ar, nr, cr, rfl, S3⟩
                rw [e2.out] at S3
                refine hK.out _ _ ⟨S3.cell (b := x7) (by repeat' first | exact List.Mem.head _ | refine List.Mem.tail _ ?_), S3.cell (b := x11) (by repeat' first | exact List.Mem.head _ | refine List.Mem.tail _ ?_), S3.cell (b := b16) (by repeat' first | exact List.Mem.head _ | refine List.Mem.tail _ ?_)⟩ (fun hHeld => ?_)
                clear hK K
                refine wpAnyH_takeD 5 (v := ?_) rfl rfl (by kernel_rfl) (by kernel_rfl) (by kernel_rfl) (fun _ _ _ h => h) (Or.inl ⟨by rfl, ?_⟩) hHeld ?_
                rotate_left
                focus (intro w hSw; (try dsimp only at hSw); go_simp; try with_reducible rfl)
                simp only [List.setIfInBounds_toArray, List.set_cons_zero, List.set_cons_succ]
                refine wpAnyH_takeD 6 (v := ?_) rfl rfl (by kernel_rfl) (by kernel_rfl) (by kernel_rfl) (fun _ _ _ h => h) (Or.inl ⟨by rfl, ?_⟩) hHeld ?_
                rotate_left
                focus (intro w hSw; (try dsimp only at hSw); go_simp; try with_reducible rfl)
                simp only [List.setIfInBounds_toArray, List.set_cons_zero, List.set_cons_succ]
                refine wpAnyH_takeD 7 (v := ?_) rfl rfl (by kernel_rfl) (by kernel_rfl) (by kernel_rfl) (fun _ _ _ h => h) (Or.inl ⟨by rfl, ?_⟩) hHeld ?_
                rotate_left
                focus (intro w hSw; (try dsimp only at hSw); go_simp; try with_reducible rfl)
                simp only [List.setIfInBounds_toArray, List.set_cons_zero, List.set_cons_succ]
                refine wpAnyH_takeD 8 (v := ?_) rfl rfl (by kernel_rfl) (by kernel_rfl) (by kernel_rfl) (fun _ _ _ h => h) (Or.inl ⟨by rfl, ?_⟩) hHeld ?_
                rotate_left
                focus (intro w hSw; (try dsimp only at hSw); go_simp; try with_reducible rfl)
                simp only [List.setIfInBounds_toArray, List.set_cons_zero, List.set_cons_succ]
                refine wpAnyH_ready (rs := [10]) (by kernel_rfl) (by simp) ?_
                refine AllReadyH.cons rfl (fun K hK => ?_) AllReadyH.nil
                · go_simp
                  have S4 := S3.alloc (.slice none 0 0)
                  refine hK.out _ _ ⟨S4.cell (b := x7) (by repeat' first | exact List.Mem.head _ | refine List.Mem.tail _ ?_), S4.cell (b := x11) (by repeat' first | exact List.Mem.head _ | refine List.Mem.tail _ ?_), S4.cell (b := b16) (by repeat' first | exact List.Mem.head _ | refine List.Mem.tail _ ?_)⟩ (fun hHeld => ?_)
                  clear hK K
                  generalize World.alloc w03 _ = w04 at S4 hHeld ⊢
                  have cy0 := S4.cell (b := w01.heap.size) (v := .slice none 0 0) (by repeat' first | exact List.Mem.head _ | refine List.Mem.tail _ ?_)
                  have fy0 := S4.frozen (b := w01.heap.size) (v := .slice none 0 0) (by repeat' first | exact List.Mem.head _ | refine List.Mem.tail _ ?_)
                  refine wpAnyH_ready (rs := [11]) (by kernel_rfl) (by simp) ?_
                  refine AllReadyH.cons rfl (fun K hK => ?_) AllReadyH.nil
                  go_simp
                  have T0 := S4.store1 (.slice Aq nq cq)
                  refine hK.out _ _ ⟨T0.cell (b := x7) (by repeat' first | exact List.Mem.head _ | refine List.Mem.tail _ ?_), T0.cell (b := x11) (by repeat' first | exact List.Mem.head _ | refine List.Mem.tail _ ?_), T0.cell (b := b16) (by repeat' first | exact List.Mem.head _ | refine List.Mem.tail _ ?_)⟩ (fun hHeld => ?_)
                  clear hK K cy0 fy0
                  generalize World.setCell w04 _ _ = v0 at T0 hHeld ⊢
                  have cy1 := T0.cell (b := w03.heap.size) (v := .slice none 0 0) (by repeat' first | exact List.Mem.head _ | refine List.Mem.tail _ ?_)
                  have fy1 := T0.frozen (b := w03.heap.size) (v := .slice none 0 0) (by repeat' first | exact List.Mem.head _ | refine List.Mem.tail _ ?_)
                  refine wpAnyH_ready (rs := [12]) (by kernel_rfl) (by simp) ?_
                  refine AllReadyH.cons rfl (fun K hK => ?_) AllReadyH.nil
                  go_simp
                  have T1 := T0.store0 (.slice Ar nr cr)
                  refine hK.out _ _ ⟨T1.cell (b := x7) (by repeat' first | exact List.Mem.head _ | refine List.Mem.tail _ ?_), T1.cell (b := x11) (by repeat' first | exact List.Mem.head _ | refine List.Mem.tail _ ?_), T1.cell (b := b16) (by repeat' first | exact List.Mem.head _ | refine List.Mem.tail _ ?_)⟩ (fun hHeld => ?_)
                  clear hK K cy1 fy1
                  generalize World.setCell v0 _ _ = v1 at T1 hHeld ⊢
                  refine wpAnyH_takeD 13 (v := ?_) rfl rfl (by kernel_rfl) (by kernel_rfl) (by kernel_rfl) (fun _ _ _ h => h) (Or.inl ⟨by rfl, ?_⟩) hHeld ?_
                  rotate_left
                  focus (intro w hSw; (try dsimp only at hSw); go_simp; try with_reducible rfl)
                  simp only [List.setIfInBounds_toArray, List.set_cons_zero, List.set_cons_succ]
                  refine wpAnyH_done (by kernel_rfl) ?_ _
                  go_wp2_with fail
                  go_meet
                  exact ⟨_, _, _, _, rfl, rfl, rfl, Lib.hid (T1.sub2 (by repeat' first | exact List.Sublist.slnil | refine List.Sublist.cons_cons _ ?_ | refine List.Sublist.cons _ ?_) (by repeat' first | exact List.Sublist.slnil | refine List.Sublist.cons_cons _ ?_ | refine List.Sublist.cons _ ?_))⟩
              refine AllReadyH.cons rfl (fun K hK => ?_) AllReadyH.nil
              · go_simp
                have S3 := S2.alloc (.slice none 0 0)
                refine hK.out _ _ ⟨S3.cell (b := x7) (by repeat' first | exact List.Mem.head _ | refine List.Mem.tail _ ?_), S3.cell (b := x11) (by repeat' first | exact List.Mem.head _ | refine List.Mem.tail _ ?_), S3.cell (b := b16) (by repeat' first | exact List.Mem.head _ | refine List.Mem.tail _ ?_)⟩ (fun hHeld => ?_)
                clear hK K
                generalize World.alloc w02 _ = w03 at S3 hHeld ⊢
                refine wpAnyH_ready (rs := [4]) (by kernel_rfl) (by simp) ?_
                refine AllReadyH.cons rfl (fun K hK => ?_) AllReadyH.nil
                · go_simp
                  refine (divS S3 (by repeat' first | exact List.Mem.head _ | refine List.Mem.tail _ ?_) (by repeat' first | exact List.Mem.head _ | refine List.Mem.tail _ ?_) (by omega) (by omega) hgp.out).mono ?_
                  rintro e w04 ⟨Aq, nq, cq, Ar, nr, cr, rfl, S4⟩
                  rw [e2.out] at S4
                  refine hK.out _ _ ⟨S4.cell (b := x7) (by repeat' first | exact List.Mem.head _ | refine List.Mem.tail _ ?_), S4.cell (b := x11) (by repeat' first | exact List.Mem.head _ | refine List.Mem.tail _ ?_), S4.cell (b := b16) (by repeat' first | exact List.Mem.head _ | refine List.Mem.tail _ ?_)⟩ (fun hHeld => ?_)
                  clear hK K
                  refine wpAnyH_takeD 5 (v := ?_) rfl rfl (by kernel_rfl) (by kernel_rfl) (by kernel_rfl) (fun _ _ _ h => h) (Or.inl ⟨by rfl, ?_⟩) hHeld ?_
                  rotate_left
                  focus (intro w hSw; (try dsimp only at hSw); go_simp; try with_reducible rfl)
                  simp only [List.setIfInBounds_toArray, List.set_cons_zero, List.set_cons_succ]
                  refine wpAnyH_takeD 6 (v := ?_) rfl rfl (by kernel_rfl) (by kernel_rfl) (by kernel_rfl) (fun _ _ _ h => h) (Or.inl ⟨by rfl, ?_⟩) hHeld ?_
                  rotate_left
                  focus (intro w hSw; (try dsimp only at hSw); go_simp; try with_reducible rfl)
                  simp only [List.setIfInBounds_toArray, List.set_cons_zero, List.set_cons_succ]
                  refine wpAnyH_takeD 7 (v := ?_) rfl rfl (by kernel_rfl) (by kernel_rfl) (by kernel_rfl) (fun _ _ _ h => h) (Or.inl ⟨by rfl, ?_⟩) hHeld ?_
                  rotate_left
                  focus (intro w hSw; (try dsimp only at hSw); go_simp; try with_reducible rfl)
                  simp only [List.setIfInBounds_toArray, List.set_cons_zero, List.set_cons_succ]
                  refine wpAnyH_takeD 8 (v := ?_) rfl rfl (by kernel_rfl) (by kernel_rfl) (by kernel_rfl) (fun _ _ _ h => h) (Or.inl ⟨by rfl, ?_⟩) hHeld ?_
                  rotate_left
                  focus (intro w hSw; (try dsimp only at hSw); go_simp; try with_reducible rfl)
                  simp only [List.setIfInBounds_toArray, List.set_cons_zero, List.set_cons_succ]
                  have cy0 := S4.cell (b := w01.heap.size) (v := .slice none 0 0) (by repeat' first | exact List.Mem.head _ | refine List.Mem.tail _ ?_)
                  have fy0 := S4.frozen (b := w01.heap.size) (v := .slice none 0 0) (by repeat' first | exact List.Mem.head _ | refine List.Mem.tail _ ?_)
                  refine wpAnyH_ready (rs := [11]) (by kernel_rfl) (by simp) ?_
                  refine AllReadyH.cons rfl (fun K hK => ?_) AllReadyH.nil
                  go_simp
                  have T0 := S4.store1 (.slice Aq nq cq)
                  refine hK.out _ _ ⟨T0.cell (b := x7) (by repeat' first | exact List.Mem.head _ | refine List.Mem.tail _ ?_), T0.cell (b := x11) (by repeat' first | exact List.Mem.head _ | refine List.Mem.tail _ ?_), T0.cell (b := b16) (by repeat' first | exact List.Mem.head _ | refine List.Mem.tail _ ?_)⟩ (fun hHeld => ?_)
                  clear hK K cy0 fy0
                  generalize World.setCell w04 _ _ = v0 at T0 hHeld ⊢
                  have cy1 := T0.cell (b := w02.heap.size) (v := .slice none 0 0) (by repeat' first | exact List.Mem.head _ | refine List.Mem.tail _ ?_)
                  have fy1 := T0.frozen (b := w02.heap.size) (v := .slice none 0 0) (by repeat' first | exact List.Mem.head _ | refine List.Mem.tail _ ?_)
                  refine wpAnyH_ready (rs := [12]) (by kernel_rfl) (by simp) ?_
                  refine AllReadyH.cons rfl (fun K hK => ?_) AllReadyH.nil
                  go_simp
                  have T1 := T0.store0 (.slice Ar nr cr)
                  refine hK.out _ _ ⟨T1.cell (b := x7) (by repeat' first | exact List.Mem.head _ | refine List.Mem.tail _ ?_), T1.cell (b := x11) (by repeat' first | exact List.Mem.head _ | refine List.Mem.tail _ ?_), T1.cell (b := b16) (by repeat' first | exact List.Mem.head _ | refine List.Mem.tail _ ?_)⟩ (fun hHeld => ?_)
                  clear hK K cy1 fy1
                  generalize World.setCell v0 _ _ = v1 at T1 hHeld ⊢
                  refine wpAnyH_takeD 13 (v := ?_) rfl rfl (by kernel_rfl) (by kernel_rfl) (by kernel_rfl) (fun _ _ _ h => h) (Or.inl ⟨by rfl, ?_⟩) hHeld ?_
                  rotate_left
                  focus (intro w hSw; (try dsimp only at hSw); go_simp; try with_reducible rfl)
                  simp only [List.setIfInBounds_toArray, List.set_cons_zero, List.set_cons_succ]
                  refine wpAnyH_done (by kernel_rfl) ?_ _
                  go_wp2_with fail
                  go_meet
                  exact ⟨_, _, _, _, rfl, rfl, rfl, Lib.hid (T1.sub2 (by repeat' first | exact List.Sublist.slnil | refine List.Sublist.cons_cons _ ?_ | refine List.Sublist.cons _ ?_) (by repeat' first | exact List.Sublist.slnil | refine List.Sublist.cons_cons _ ?_ | refine List.Sublist.cons _ ?_))⟩
            refine AllReadyH.cons rfl (fun K hK => ?_) AllReadyH.nil
            · go_simp
              have S2 := S1.alloc (.slice none 0 0)
              refine hK.out _ _ ⟨S2.cell (b := x7) (by repeat' first | exact List.Mem.head _ | refine List.Mem.tail _ ?_), S2.cell (b := x11) (by repeat' first | exact List.Mem.head _ | refine List.Mem.tail _ ?_), S2.cell (b := b16) (by repeat' first | exact List.Mem.head _ | refine List.Mem.tail _ ?_)⟩ (fun hHeld => ?_)
              clear hK K
              generalize World.alloc w01 _ = w02 at S2 hHeld ⊢
              refine wpAnyH_ready (rs := [4,9]) (by kernel_rfl) (by simp) ?_
              refine AllReadyH.cons rfl (fun K hK => ?_) ?_
              · go_simp
                refine (divS S2 (by repeat' first | exact List.Mem.head _ | refine List.Mem.tail _ ?_) (by repeat' first | exact List.Mem.head _ | refine List.Mem.tail _ ?_) (by omega) (by omega) hgp.out).mono ?_
                rintro e w03 ⟨Aq, nq, cq, Ar, nr, cr, rfl, S3⟩
                rw [e2.out] at S3
                refine hK.out _ _ ⟨S3.cell (b := x7) (by repeat' first | exact List.Mem.head _ | refine List.Mem.tail _ ?_), S3.cell (b := x11) (by repeat' first | exact List.Mem.head _ | refine List.Mem.tail _ ?_), S3.cell (b := b16) (by repeat' first | exact List.Mem.head _ | refine List.Mem.tail _ ?_)⟩ (fun hHeld => ?_)
                clear hK K
                refine wpAnyH_takeD 5 (v := ?_) rfl rfl (by kernel_rfl) (by kernel_rfl) (by kernel_rfl) (fun _ _ _ h => h) (Or.inl ⟨by rfl, ?_⟩) hHeld ?_
                rotate_left
                focus (intro w hSw; (try dsimp only at hSw); go_simp; try with_reducible rfl)
                simp only [List.setIfInBounds_toArray, List.set_cons_zero, List.set_cons_succ]
                refine wpAnyH_takeD 6 (v := ?_) rfl rfl (by kernel_rfl) (by kernel_rfl) (by kernel_rfl) (fun _ _ _ h => h) (Or.inl ⟨by rfl, ?_⟩) hHeld ?_
                rotate_left
                focus (intro w hSw; (try dsimp only at hSw); go_simp; try with_reducible rfl)
                simp only [List.setIfInBounds_toArray, List.set_cons_zero, List.set_cons_succ]
                refine wpAnyH_takeD 7 (v := ?_) rfl rfl (by kernel_rfl) (by kernel_rfl) (by kernel_rfl) (fun _ _ _ h => h) (Or.inl ⟨by rfl, ?_⟩) hHeld ?_
                rotate_left
                focus (intro w hSw; (try dsimp only at hSw); go_simp; try with_reducible rfl)
                simp only [List.setIfInBounds_toArray, List.set_cons_zero, List.set_cons_succ]
                refine wpAnyH_takeD 8 (v := ?_) rfl rfl (by kernel_rfl) (by kernel_rfl) (by kernel_rfl) (fun _ _ _ h => h) (Or.inl ⟨by rfl, ?_⟩) hHeld ?_
                rotate_left
                focus (intro w hSw; (try dsimp only at hSw); go_simp; try with_reducible rfl)
                simp only [List.setIfInBounds_toArray, List.set_cons_zero, List.set_cons_succ]
                refine wpAnyH_ready (rs := [9]) (by kernel_rfl) (by simp) ?_
                refine AllReadyH.cons rfl (fun K hK => ?_) AllReadyH.nil
                · go_simp
                  have S4 := S3.alloc (.slice none 0 0)
                  refine hK.out _ _ ⟨S4.cell (b := x7) (by repeat' first | exact List.Mem.head _ | refine List.Mem.tail _ ?_), S4.cell (b := x11) (by repeat' first | exact List.Mem.head _ | refine List.Mem.tail _ ?_), S4.cell (b := b16) (by repeat' first | exact List.Mem.head _ | refine List.Mem.tail _ ?_)⟩ (fun hHeld => ?_)
                  clear hK K
                  generalize World.alloc w03 _ = w04 at S4 hHeld ⊢
                  have cy0 := S4.cell (b := w03.heap.size) (v := .slice none 0 0) (by repeat' first | exact List.Mem.head _ | refine List.Mem.tail _ ?_)
                  have fy0 := S4.frozen (b := w03.heap.size) (v := .slice none 0 0) (by repeat' first | exact List.Mem.head _ | refine List.Mem.tail _ ?_)
                  refine wpAnyH_ready (rs := [11]) (by kernel_rfl) (by simp) ?_
                  refine AllReadyH.cons rfl (fun K hK => ?_) AllReadyH.nil
                  go_simp
                  have T0 := S4.store0 (.slice Aq nq cq)
                  refine hK.out _ _ ⟨T0.cell (b := x7) (by repeat' first | exact List.Mem.head _ | refine List.Mem.tail _ ?_), T0.cell (b := x11) (by repeat' first | exact List.Mem.head _ | refine List.Mem.tail _ ?_), T0.cell (b := b16) (by repeat' first | exact List.Mem.head _ | refine List.Mem.tail _ ?_)⟩ (fun hHeld => ?_)
                  clear hK K cy0 fy0
                  generalize World.setCell w04 _ _ = v0 at T0 hHeld ⊢
                  have cy1 := T0.cell (b := w01.heap.size) (v := .slice none 0 0) (by repeat' first | exact List.Mem.head _ | refine List.Mem.tail _ ?_)
                  have fy1 := T0.frozen (b := w01.heap.size) (v := .slice none 0 0) (by repeat' first | exact List.Mem.head _ | refine List.Mem.tail _ ?_)
                  refine wpAnyH_ready (rs := [12]) (by kernel_rfl) (by simp) ?_
                  refine AllReadyH.cons rfl (fun K hK => ?_) AllReadyH.nil
                  go_simp
                  have T1 := T0.store1 (.slice Ar nr cr)
                  refine hK.out _ _ ⟨T1.cell (b := x7) (by repeat' first | exact List.Mem.head _ | refine List.Mem.tail _ ?_), T1.cell (b := x11) (by repeat' first | exact List.Mem.head _ | refine List.Mem.tail _ ?_), T1.cell (b := b16) (by repeat' first | exact List.Mem.head _ | refine List.Mem.tail _ ?_)⟩ (fun hHeld => ?_)
                  clear hK K cy1 fy1
                  generalize World.setCell v0 _ _ = v1 at T1 hHeld ⊢
                  refine wpAnyH_takeD 13 (v := ?_) rfl rfl (by kernel_rfl) (by kernel_rfl) (by kernel_rfl) (fun _ _ _ h => h) (Or.inl ⟨by rfl, ?_⟩) hHeld ?_
                  rotate_left
                  focus (intro w hSw; (try dsimp only at hSw); go_simp; try with_reducible rfl)
                  simp only [List.setIfInBounds_toArray, List.set_cons_zero, List.set_cons_succ]
                  refine wpAnyH_done (by kernel_rfl) ?_ _
                  go_wp2_with fail
                  go_meet
                  exact ⟨_, _, _, _, rfl, rfl, rfl, Lib.hid (T1.sub2 (by repeat' first | exact List.Sublist.slnil | refine List.Sublist.cons_cons _ ?_ | refine List.Sublist.cons _ ?_) (by repeat' first | exact List.Sublist.slnil | refine List.Sublist.cons_cons _ ?_ | refine List.Sublist.cons _ ?_))⟩
              refine AllReadyH.cons rfl (fun K hK => ?_) AllReadyH.nil
              · go_simp
                have S3 := S2.alloc (.slice none 0 0)
                refine hK.out _ _ ⟨S3.cell (b := x7) (by repeat' first | exact List.Mem.head _ | refine List.Mem.tail _ ?_), S3.cell (b := x11) (by repeat' first | exact List.Mem.head _ | refine List.Mem.tail _ ?_), S3.cell (b := b16) (by repeat' first | exact List.Mem.head _ | refine List.Mem.tail _ ?_)⟩ (fun hHeld => ?_)
                clear hK K
                generalize World.alloc w02 _ = w03 at S3 hHeld ⊢
                refine wpAnyH_ready (rs := [4]) (by kernel_rfl) (by simp) ?_
                refine AllReadyH.cons rfl (fun K hK => ?_) AllReadyH.nil
                · go_simp
                  refine (divS S3 (by repeat' first | exact List.Mem.head _ | refine List.Mem.tail _ ?_) (by repeat' first | exact List.Mem.head _ | refine List.Mem.tail _ ?_) (by omega) (by omega) hgp.out).mono ?_
                  rintro e w04 ⟨Aq, nq, cq, Ar, nr, cr, rfl, S4⟩
                  rw [e2.out] at S4
                  refine hK.out _ _ ⟨S4.cell (b := x7) (by repeat' first | exact List.Mem.head _ | refine List.Mem.tail _ ?_), S4.cell (b := x11) (by repeat' first | exact List.Mem.head _ | refine List.Mem.tail _ ?_), S4.cell (b := b16) (by repeat' first | exact List.Mem.head _ | refine List.Mem.tail _ ?_)⟩ (fun hHeld => ?_)
                  clear hK K
                  refine wpAnyH_takeD 5 (v := ?_) rfl rfl (by kernel_rfl) (by kernel_rfl) (by kernel_rfl) (fun _ _ _ h => h) (Or.inl ⟨by rfl, ?_⟩) hHeld ?_
                  rotate_left
                  focus (intro w hSw; (try dsimp only at hSw); go_simp; try with_reducible rfl)
                  simp only [List.setIfInBounds_toArray, List.set_cons_zero, List.set_cons_succ]
                  refine wpAnyH_takeD 6 (v := ?_) rfl rfl (by kernel_rfl) (by kernel_rfl) (by kernel_rfl) (fun _ _ _ h => h) (Or.inl ⟨by rfl, ?_⟩) hHeld ?_
                  rotate_left
                  focus (intro w hSw; (try dsimp only at hSw); go_simp; try with_reducible rfl)
                  simp only [List.setIfInBounds_toArray, List.set_cons_zero, List.set_cons_succ]
                  refine wpAnyH_takeD 7 (v := ?_) rfl rfl (by kernel_rfl) (by kernel_rfl) (by kernel_rfl) (fun _ _ _ h => h) (Or.inl ⟨by rfl, ?_⟩) hHeld ?_
                  rotate_left
                  focus (intro w hSw; (try dsimp only at hSw); go_simp; try with_reducible rfl)
                  simp only [List.setIfInBounds_toArray, List.set_cons_zero, List.set_cons_succ]
                  refine wpAnyH_takeD 8 (v := ?_) rfl rfl (by kernel_rfl) (by kernel_rfl) (by kernel_rfl) (fun _ _ _ h => h) (Or.inl ⟨by rfl, ?_⟩) hHeld ?_
                  rotate_left
                  focus (intro w hSw; (try dsimp only at hSw); go_simp; try with_reducible rfl)
                  simp only [List.setIfInBounds_toArray, List.set_cons_zero, List.set_cons_succ]
                  have cy0 := S4.cell (b := w02.heap.size) (v := .slice none 0 0) (by repeat' first | exact List.Mem.head _ | refine List.Mem.tail _ ?_)
                  have fy0 := S4.frozen (b := w02.heap.size) (v := .slice none 0 0) (by repeat' first | exact List.Mem.head _ | refine List.Mem.tail _ ?_)
                  refine wpAnyH_ready (rs := [11]) (by kernel_rfl) (by simp) ?_
                  refine AllReadyH.cons rfl (fun K hK => ?_) AllReadyH.nil
                  go_simp
                  have T0 := S4.store0 (.slice Aq nq cq)
                  refine hK.out _ _ ⟨T0.cell (b := x7) (by repeat' first | exact List.Mem.head _ | refine List.Mem.tail _ ?_), T0.cell (b := x11) (by repeat' first | exact List.Mem.head _ | refine List.Mem.tail _ ?_), T0.cell (b := b16) (by repeat' first | exact List.Mem.head _ | refine List.Mem.tail _ ?_)⟩ (fun hHeld => ?_)
                  clear hK K cy0 fy0
                  generalize World.setCell w04 _ _ = v0 at T0 hHeld ⊢
                  have cy1 := T0.cell (b := w01.heap.size) (v := .slice none 0 0) (by repeat' first | exact List.Mem.head _ | refine List.Mem.tail _ ?_)
                  have fy1 := T0.frozen (b := w01.heap.size) (v := .slice none 0 0) (by repeat' first | exact List.Mem.head _ | refine List.Mem.tail _ ?_)
                  refine wpAnyH_ready (rs := [12]) (by kernel_rfl) (by simp) ?_
                  refine AllReadyH.cons rfl (fun K hK => ?_) AllReadyH.nil
                  go_simp
                  have T1 := T0.store1 (.slice Ar nr cr)
                  refine hK.out _ _ ⟨T1.cell (b := x7) (by repeat' first | exact List.Mem.head _ | refine List.Mem.tail _ ?_), T1.cell (b := x11) (by repeat' first | exact List.Mem.head _ | refine List.Mem.tail _ ?_), T1.cell (b := b16) (by repeat' first | exact List.Mem.head _ | refine List.Mem.tail _ ?_)⟩ (fun hHeld => ?_)
                  clear hK K cy1 fy1
                  generalize World.setCell v0 _ _ = v1 at T1 hHeld ⊢
                  refine wpAnyH_takeD 13 (v := ?_) rfl rfl (by kernel_rfl) (by kernel_rfl) (by kernel_rfl) (fun _ _ _ h => h) (Or.inl ⟨by rfl, ?_⟩) hHeld ?_
                  rotate_left
                  focus (intro w hSw; (try dsimp only at hSw); go_simp; try with_reducible rfl)
                  simp only [List.setIfInBounds_toArray, List.set_cons_zero, List.set_cons_succ]
                  refine wpAnyH_done (by kernel_rfl) ?_ _
                  go_wp2_with fail
                  go_meet
                  exact ⟨_, _, _, _, rfl, rfl, rfl, Lib.hid (T1.sub2 (by repeat' first | exact List.Sublist.slnil | refine List.Sublist.cons_cons _ ?_ | refine List.Sublist.cons _ ?_) (by repeat' first | exact List.Sublist.slnil | refine List.Sublist.cons_cons _ ?_ | refine List.Sublist.cons _ ?_))⟩
        refine AllReadyH.cons rfl (fun K hK => ?_) ?_
        · as_aux_lemma =>
            go_simp
            have S1 := S0.alloc (.slice none 0 0)
            refine hK.out _ _ ⟨S1.cell (b := x7) (by repeat' first | exact List.Mem.head _ | refine List.Mem.tail _ ?_), S1.cell (b := x11) (by repeat' first | exact List.Mem.head _ | refine List.Mem.tail _ ?_), S1.cell (b := b16) (by repeat' first | exact List.Mem.head _ | refine List.Mem.tail _ ?_)⟩ (fun hHeld => ?_)
            clear hK K
            generalize World.alloc w0 _ = w01 at S1 hHeld ⊢
            refine wpAnyH_ready (rs := [2,10]) (by kernel_rfl) (by simp) ?_
            refine AllReadyH.cons rfl (fun K hK => ?_) ?_
            · go_simp
              refine (mulS S1 (by repeat' first | exact List.Mem.head _ | refine List.Mem.tail _ ?_) (by repeat' first | exact List.Mem.head _ | refine List.Mem.tail _ ?_) (by omega) (by omega)).mono ?_
              rintro e w02 ⟨Am1, nm1, cm1, rfl, S2⟩
              refine hK.out _ _ ⟨S2.cell (b := x7) (by repeat' first | exact List.Mem.head _ | refine List.Mem.tail _ ?_), S2.cell (b := x11) (by repeat' first | exact List.Mem.head _ | refine List.Mem.tail _ ?_), S2.cell (b := b16) (by repeat' first | exact List.Mem.head _ | refine List.Mem.tail _ ?_)⟩ (fun hHeld => ?_)
              clear hK K
              refine wpAnyH_ready (rs := [4,10]) (by kernel_rfl) (by simp) ?_
              refine AllReadyH.cons rfl (fun K hK => ?_) ?_
              · go_simp
                refine (divS S2 (by repeat' first | exact List.Mem.head _ | refine List.Mem.tail _ ?_) (by repeat' first | exact List.Mem.head _ | refine List.Mem.tail _ ?_) (by omega) (by omega) hgp.out).mono ?_
                rintro e w03 ⟨Aq, nq, cq, Ar, nr, cr, rfl, S3⟩
                rw [e2.out] at S3
                refine hK.out _ _ ⟨S3.cell (b := x7) (by repeat' first | exact List.Mem.head _ | refine List.Mem.tail _ ?_), S3.cell (b := x11) (by repeat' first | exact List.Mem.head _ | refine List.Mem.tail _ ?_), S3.cell (b := b16) (by repeat' first | exact List.Mem.head _ | refine List.Mem.tail _ ?_)⟩ (fun hHeld => ?_)
                clear hK K
                refine wpAnyH_takeD 5 (v := ?_) rfl rfl (by kernel_rfl) (by kernel_rfl) (by kernel_rfl) (fun _ _ _ h => h) (Or.inl ⟨by rfl, ?_⟩) hHeld ?_
                rotate_left
                focus (intro w hSw; (try dsimp only at hSw); go_simp; try with_reducible rfl)
                simp only [List.setIfInBounds_toArray, List.set_cons_zero, List.set_cons_succ]
                refine wpAnyH_takeD 6 (v := ?_) rfl rfl (by kernel_rfl) (by kernel_rfl) (by kernel_rfl) (fun _ _ _ h => h) (Or.inl ⟨by rfl, ?_⟩) hHeld ?_
                rotate_left
                focus (intro w hSw; (try dsimp only at hSw); go_simp; try with_reducible rfl)
                simp only [List.setIfInBounds_toArray, List.set_cons_zero, List.set_cons_succ]
                refine wpAnyH_takeD 7 (v := ?_) rfl rfl (by kernel_rfl) (by kernel_rfl) (by kernel_rfl) (fun _ _ _ h => h) (Or.inl ⟨by rfl, ?_⟩) hHeld ?_
                rotate_left
                focus (intro w hSw; (try dsimp only at hSw); go_simp; try with_reducible rfl)
                simp only [List.setIfInBounds_toArray, List.set_cons_zero, List.set_cons_succ]
                refine wpAnyH_takeD 8 (v := ?_) rfl rfl (by kernel_rfl) (by kernel_rfl) (by kernel_rfl) (fun _ _ _ h => h) (Or.inl ⟨by rfl, ?_⟩) hHeld ?_
                rotate_left
                focus (intro w hSw; (try dsimp only at hSw); go_simp; try with_reducible rfl)
                simp only [List.setIfInBounds_toArray, List.set_cons_zero, List.set_cons_succ]
                refine wpAnyH_ready (rs := [10]) (by kernel_rfl) (by simp) ?_
                refine AllReadyH.cons rfl (fun K hK => ?_) AllReadyH.nil
                · go_simp
                  have S4 := S3.alloc (.slice none 0 0)
                  refine hK.out _ _ ⟨S4.cell (b := x7) (by repeat' first | exact List.Mem.head _ | refine List.Mem.tail _ ?_), S4.cell (b := x11) (by repeat' first | exact List.Mem.head _ | refine List.Mem.tail _ ?_), S4.cell (b := b16) (by repeat' first | exact List.Mem.head _ | refine List.Mem.tail _ ?_)⟩ (fun hHeld => ?_)
                  clear hK K
                  generalize World.alloc w03 _ = w04 at S4 hHeld ⊢
                  have cy0 := S4.cell (b := w0.heap.size) (v := .slice none 0 0) (by repeat' first | exact List.Mem.head _ | refine List.Mem.tail _ ?_)
                  have fy0 := S4.frozen (b := w0.heap.size) (v := .slice none 0 0) (by repeat' first | exact List.Mem.head _ | refine List.Mem.tail _ ?_)
                  refine wpAnyH_ready (rs := [11]) (by kernel_rfl) (by simp) ?_
                  refine AllReadyH.cons rfl (fun K hK => ?_) AllReadyH.nil
                  go_simp
                  have T0 := S4.store1 (.slice Aq nq cq)
                  refine hK.out _ _ ⟨T0.cell (b := x7) (by repeat' first | exact List.Mem.head _ | refine List.Mem.tail _ ?_), T0.cell (b := x11) (by repeat' first | exact List.Mem.head _ | refine List.Mem.tail _ ?_), T0.cell (b := b16) (by repeat' first | exact List.Mem.head _ | refine List.Mem.tail _ ?_)⟩ (fun hHeld => ?_)
                  clear hK K cy0 fy0
                  generalize World.setCell w04 _ _ = v0 at T0 hHeld ⊢
                  have cy1 := T0.cell (b := w03.heap.size) (v := .slice none 0 0) (by repeat' first | exact List.Mem.head _ | refine List.Mem.tail _ ?_)
                  have fy1 := T0.frozen (b := w03.heap.size) (v := .slice none 0 0) (by repeat' first | exact List.Mem.head _ | refine List.Mem.tail _ ?_)
                  refine wpAnyH_ready (rs := [12]) (by kernel_rfl) (by simp) ?_
                  refine AllReadyH.cons rfl (fun K hK => ?_) AllReadyH.nil
                  go_simp
                  have T1 := T0.store0 (.slice Ar nr cr)
                  refine hK.out _ _ ⟨T1.cell (b := x7) (by repeat' first | exact List.Mem.head _ | refine List.Mem.tail _ ?_), T1.cell (b := x11) (by repeat' first | exact List.Mem.head _ | refine List.Mem.tail _ ?_), T1.cell (b := b16) (by repeat' first | exact List.Mem.head _ | refine List.Mem.tail _ ?_)⟩ (fun hHeld => ?_)
                  clear hK K cy1 fy1
                  generalize World.setCell v0 _ _ = v1 at T1 hHeld ⊢
                  refine wpAnyH_takeD 13 (v := ?_) rfl rfl (by kernel_rfl) (by kernel_rfl) (by kernel_rfl) (fun _ _ _ h => h) (Or.inl ⟨by rfl, ?_⟩) hHeld ?_
                  rotate_left
                  focus (intro w hSw; (try dsimp only at hSw); go_simp; try with_reducible rfl)
                  simp only [List.setIfInBounds_toArray, List.set_cons_zero, List.set_cons_succ]
                  refine wpAnyH_done (by kernel_rfl) ?_ _
                  go_wp2_with fail
                  go_meet
                  exact ⟨_, _, _, _, rfl, rfl, rfl, Lib.hid (T1.sub2 (by repeat' first | exact List.Sublist.slnil | refine List.Sublist.cons_cons _ ?_ | refine List.Sublist.cons _ ?_) (by repeat' first | exact List.Sublist.slnil | refine List.Sublist.cons_cons _ ?_ | refine List.Sublist.cons _ ?_))⟩
              refine AllReadyH.cons rfl (fun K hK => ?_) AllReadyH.nil
              · go_simp
                have S3 := S2.alloc (.slice none 0 0)
                refine hK.out _ _ ⟨S3.cell (b := x7) (by repeat' first | exact List.Mem.head _ | refine List.Mem.tail _ ?_), S3.cell (b := x11) (by repeat' first | exact List.Mem.head _ | refine List.Mem.tail _ ?_), S3.cell (b := b16) (by repeat' first | exact List.Mem.head _ | refine List.Mem.tail _ ?_)⟩ (fun hHeld => ?_)
                clear hK K
                generalize World.alloc w02 _ = w03 at S3 hHeld ⊢
                refine wpAnyH_ready (rs := [4]) (by kernel_rfl) (by simp) ?_
                refine AllReadyH.cons rfl (fun K hK => ?_) AllReadyH.nil
                · go_simp
                  refine (divS S3 (by repeat' first | exact List.Mem.head _ | refine List.Mem.tail _ ?_) (by repeat' first | exact List.Mem.head _ | refine List.Mem.tail _ ?_) (by omega) (by omega) hgp.out).mono ?_
                  rintro e w04 ⟨Aq, nq, cq, Ar, nr, cr, rfl, S4⟩
                  rw [e2.out] at S4
                  refine hK.out _ _ ⟨S4.cell (b := x7) (by repeat' first | exact List.Mem.head _ | refine List.Mem.tail _ ?_), S4.cell (b := x11) (by repeat' first | exact List.Mem.head _ | refine List.Mem.tail _ ?_), S4.cell (b := b16) (by repeat' first | exact List.Mem.head _ | refine List.Mem.tail _ ?_)⟩ (fun hHeld => ?_)
                  clear hK K
                  refine wpAnyH_takeD 5 (v := ?_) rfl rfl (by kernel_rfl) (by kernel_rfl) (by kernel_rfl) (fun _ _ _ h => h) (Or.inl ⟨by rfl, ?_⟩) hHeld ?_
                  rotate_left
                  focus (intro w hSw; (try dsimp only at hSw); go_simp; try with_reducible rfl)
                  simp only [List.setIfInBounds_toArray, List.set_cons_zero, List.set_cons_succ]
                  refine wpAnyH_takeD 6 (v := ?_) rfl rfl (by kernel_rfl) (by kernel_rfl) (by kernel_rfl) (fun _ _ _ h => h) (Or.inl ⟨by rfl, ?_⟩) hHeld ?_
                  rotate_left
                  focus (intro w hSw; (try dsimp only at hSw); go_simp; try with_reducible rfl)
                  simp only [List.setIfInBounds_toArray, List.set_cons_zero, List.set_cons_succ]
                  refine wpAnyH_takeD 7 (v := ?_) rfl rfl (by kernel_rfl) (by kernel_rfl) (by kernel_rfl) (fun _ _ _ h => h) (Or.inl ⟨by rfl, ?_⟩) hHeld ?_
                  rotate_left
                  focus (intro w hSw; (try dsimp only at hSw); go_simp; try with_reducible rfl)
                  simp only [List.setIfInBounds_toArray, List.set_cons_zero, List.set_cons_succ]
                  refine wpAnyH_takeD 8 (v := ?_) rfl rfl (by kernel_rfl) (by kernel_rfl) (by kernel_rfl) (fun _ _ _ h => h) (Or.inl ⟨by rfl, ?_⟩) hHeld ?_
                  rotate_left
                  focus (intro w hSw; (try dsimp only at hSw); go_simp; try with_reducible rfl)
                  simp only [List.setIfInBounds_toArray, List.set_cons_zero, List.set_cons_succ]
                  have cy0 := S4.cell (b := w0.heap.size) (v := .slice none 0 0) (by repeat' first | exact List.Mem.head _ | refine List.Mem.tail _ ?_)
                  have fy0 := S4.frozen (b := w0.heap.size) (v := .slice none 0 0) (by repeat' first | exact List.Mem.head _ | refine List.Mem.tail _ ?_)
                  refine wpAnyH_ready (rs := [11]) (by kernel_rfl) (by simp) ?_
                  refine AllReadyH.cons rfl (fun K hK => ?_) AllReadyH.nil
                  go_simp
                  have T0 := S4.store1 (.slice Aq nq cq)
                  refine hK.out _ _ ⟨T0.cell (b := x7) (by repeat' first | exact List.Mem.head _ | refine List.Mem.tail _ ?_), T0.cell (b := x11) (by repeat' first | exact List.Mem.head _ | refine List.Mem.tail _ ?_), T0.cell (b := b16) (by repeat' first | exact List.Mem.head _ | refine List.Mem.tail _ ?_)⟩ (fun hHeld => ?_)
                  clear hK K cy0 fy0
                  generalize World.setCell w04 _ _ = v0 at T0 hHeld ⊢
                  have cy1 := T0.cell (b := w02.heap.size) (v := .slice none 0 0) (by repeat' first | exact List.Mem.head _ | refine List.Mem.tail _ ?_)
                  have fy1 := T0.frozen (b := w02.heap.size) (v := .slice none 0 0) (by repeat' first | exact List.Mem.head _ | refine List.Mem.tail _ ?_)
                  refine wpAnyH_ready (rs := [12]) (by kernel_rfl) (by simp) ?_
                  refine AllReadyH.cons rfl (fun K hK => ?_) AllReadyH.nil
                  go_simp
                  have T1 := T0.store0 (.slice Ar nr cr)
                  refine hK.out _ _ ⟨T1.cell (b := x7) (by repeat' first | exact List.Mem.head _ | refine List.Mem.tail _ ?_), T1.cell (b := x11) (by repeat' first | exact List.Mem.head _ | refine List.Mem.tail _ ?_), T1.cell (b := b16) (by repeat' first | exact List.Mem.head _ | refine List.Mem.tail _ ?_)⟩ (fun hHeld => ?_)
                  clear hK K cy1 fy1
                  generalize World.setCell v0 _ _ = v1 at T1 hHeld ⊢
                  refine wpAnyH_takeD 13 (v := ?_) rfl rfl (by kernel_rfl) (by kernel_rfl) (by kernel_rfl) (fun _ _ _ h => h) (Or.inl ⟨by rfl, ?_⟩) hHeld ?_
                  rotate_left
                  focus (intro w hSw; (try dsimp only at hSw); go_simp; try with_reducible rfl)
                  simp only [List.setIfInBounds_toArray, List.set_cons_zero, List.set_cons_succ]
                  refine wpAnyH_done (by kernel_rfl) ?_ _
                  go_wp2_with fail
                  go_meet
                  exact ⟨_, _, _, _, rfl, rfl, rfl, Lib.hid (T1.sub2 (by repeat' first | exact List.Sublist.slnil | refine List.Sublist.cons_cons _ ?_ | refine List.Sublist.cons _ ?_) (by repeat' first | exact List.Sublist.slnil | refine List.Sublist.cons_cons _ ?_ | refine List.Sublist.cons _ ?_))⟩
            refine AllReadyH.cons rfl (fun K hK => ?_) AllReadyH.nil
            · go_simp
              have S2 := S1.alloc (.slice none 0 0)
              refine hK.out _ _ ⟨S2.cell (b := x7) (by repeat' first | exact List.Mem.head _ | refine List.Mem.tail _ ?_), S2.cell (b := x11) (by repeat' first | exact List.Mem.head _ | refine List.Mem.tail _ ?_), S2.cell (b := b16) (by repeat' first | exact List.Mem.head _ | refine List.Mem.tail _ ?_)⟩ (fun hHeld => ?_)
              clear hK K
              generalize World.alloc w01 _ = w02 at S2 hHeld ⊢
              refine wpAnyH_ready (rs := [2]) (by kernel_rfl) (by simp) ?_
              refine AllReadyH.cons rfl (fun K hK => ?_) AllReadyH.nil
              · go_simp
                refine (mulS S2 (by repeat' first | exact List.Mem.head _ | refine List.Mem.tail _ ?_) (by repeat' first | exact List.Mem.head _ | refine List.Mem.tail _ ?_) (by omega) (by omega)).mono ?_
                rintro e w03 ⟨Am1, nm1, cm1, rfl, S3⟩
                refine hK.out _ _ ⟨S3.cell (b := x7) (by repeat' first | exact List.Mem.head _ | refine List.Mem.tail _ ?_), S3.cell (b := x11) (by repeat' first | exact List.Mem.head _ | refine List.Mem.tail _ ?_), S3.cell (b := b16) (by repeat' first | exact List.Mem.head _ | refine List.Mem.tail _ ?_)⟩ (fun hHeld => ?_)
                clear hK K
                refine wpAnyH_ready (rs := [4]) (by kernel_rfl) (by simp) ?_
                refine AllReadyH.cons rfl (fun K hK => ?_) AllReadyH.nil
                · go_simp
                  refine (divS S3 (by repeat' first | exact List.Mem.head _ | refine List.Mem.tail _ ?_) (by repeat' first | exact List.Mem.head _ | refine List.Mem.tail _ ?_) (by omega) (by omega) hgp.out).mono ?_
                  rintro e w04 ⟨Aq, nq, cq, Ar, nr, cr, rfl, S4⟩
                  rw [e2.out] at S4
                  refine hK.out _ _ ⟨S4.cell (b := x7) (by repeat' first | exact List.Mem.head _ | refine List.Mem.tail _ ?_), S4.cell (b := x11) (by repeat' first | exact List.Mem.head _ | refine List.Mem.tail _ ?_), S4.cell (b := b16) (by repeat' first | exact List.Mem.head _ | refine List.Mem.tail _ ?_)⟩ (fun hHeld => ?_)
                  clear hK K
                  refine wpAnyH_takeD 5 (v := ?_) rfl rfl (by kernel_rfl) (by kernel_rfl) (by kernel_rfl) (fun _ _ _ h => h) (Or.inl ⟨by rfl, ?_⟩) hHeld ?_
                  rotate_left
                  focus (intro w hSw; (try dsimp only at hSw); go_simp; try with_reducible rfl)
                  simp only [List.setIfInBounds_toArray, List.set_cons_zero, List.set_cons_succ]
                  refine wpAnyH_takeD 6 (v := ?_) rfl rfl (by kernel_rfl) (by kernel_rfl) (by kernel_rfl) (fun _ _ _ h => h) (Or.inl ⟨by rfl, ?_⟩) hHeld ?_
                  rotate_left
                  focus (intro w hSw; (try dsimp only at hSw); go_simp; try with_reducible rfl)
                  simp only [List.setIfInBounds_toArray, List.set_cons_zero, List.set_cons_succ]
                  refine wpAnyH_takeD 7 (v := ?_) rfl rfl (by kernel_rfl) (by kernel_rfl) (by kernel_rfl) (fun _ _ _ h => h) (Or.inl ⟨by rfl, ?_⟩) hHeld ?_
                  rotate_left
                  focus (intro w hSw; (try dsimp only at hSw); go_simp; try with_reducible rfl)
                  simp only [List.setIfInBounds_toArray, List.set_cons_zero, List.set_cons_succ]
                  refine wpAnyH_takeD 8 (v := ?_) rfl rfl (by kernel_rfl) (by kernel_rfl) (by kernel_rfl) (fun _ _ _ h => h) (Or.inl ⟨by rfl, ?_⟩) hHeld ?_
                  rotate_left
                  focus (intro w hSw; (try dsimp only at hSw); go_simp; try with_reducible rfl)
                  simp only [List.setIfInBounds_toArray, List.set_cons_zero, List.set_cons_succ]
                  have cy0 := S4.cell (b := w0.heap.size) (v := .slice none 0 0) (by repeat' first | exact List.Mem.head _ | refine List.Mem.tail _ ?_)
                  have fy0 := S4.frozen (b := w0.heap.size) (v := .slice none 0 0) (by repeat' first | exact List.Mem.head _ | refine List.Mem.tail _ ?_)
                  refine wpAnyH_ready (rs := [11]) (by kernel_rfl) (by simp) ?_
                  refine AllReadyH.cons rfl (fun K hK => ?_) AllReadyH.nil
                  go_simp
                  have T0 := S4.store1 (.slice Aq nq cq)
                  refine hK.out _ _ ⟨T0.cell (b := x7) (by repeat' first | exact List.Mem.head _ | refine List.Mem.tail _ ?_), T0.cell (b := x11) (by repeat' first | exact List.Mem.head _ | refine List.Mem.tail _ ?_), T0.cell (b := b16) (by repeat' first | exact List.Mem.head _ | refine List.Mem.tail _ ?_)⟩ (fun hHeld => ?_)
                  clear hK K cy0 fy0
                  generalize World.setCell w04 _ _ = v0 at T0 hHeld ⊢
                  have cy1 := T0.cell (b := w01.heap.size) (v := .slice none 0 0) (by repeat' first | exact List.Mem.head _ | refine List.Mem.tail _ ?_)
                  have fy1 := T0.frozen (b := w01.heap.size) (v := .slice none 0 0) (by repeat' first | exact List.Mem.head _ | refine List.Mem.tail _ ?_)
                  refine wpAnyH_ready (rs := [12]) (by kernel_rfl) (by simp) ?_
                  refine AllReadyH.cons rfl (fun K hK => ?_) AllReadyH.nil
                  go_simp
                  have T1 := T0.store0 (.slice Ar nr cr)
                  refine hK.out _ _ ⟨T1.cell (b := x7) (by repeat' first | exact List.Mem.head _ | refine List.Mem.tail _ ?_), T1.cell (b := x11) (by repeat' first | exact List.Mem.head _ | refine List.Mem.tail _ ?_), T1.cell (b := b16) (by repeat' first | exact List.Mem.head _ | refine List.Mem.tail _ ?_)⟩ (fun hHeld => ?_)
                  clear hK K cy1 fy1
                  generalize World.setCell v0 _ _ = v1 at T1 hHeld ⊢
                  refine wpAnyH_takeD 13 (v := ?_) rfl rfl (by kernel_rfl) (by kernel_rfl) (by kernel_rfl) (fun _ _ _ h => h) (Or.inl ⟨by rfl, ?_⟩) hHeld ?_
                  rotate_left
                  focus (intro w hSw; (try dsimp only at hSw); go_simp; try with_reducible rfl)
                  simp only [List.setIfInBounds_toArray, List.set_cons_zero, List.set_cons_succ]
                  refine wpAnyH_done (by kernel_rfl) ?_ _
                  go_wp2_with fail
                  go_meet
                  exact ⟨_, _, _, _, rfl, rfl, rfl, Lib.hid (T1.sub2 (by repeat' first | exact List.Sublist.slnil | refine List.Sublist.cons_cons _ ?_ | refine List.Sublist.cons _ ?_) (by repeat' first | exact List.Sublist.slnil | refine List.Sublist.cons_cons _ ?_ | refine List.Sublist.cons _ ?_))⟩
        refine AllReadyH.cons rfl (fun K hK => ?_) AllReadyH.nil
        · as_aux_lemma =>
            go_simp
            have S1 := S0.alloc (.slice none 0 0)
            refine hK.out _ _ ⟨S1.cell (b := x7) (by repeat' first | exact List.Mem.head _ | refine List.Mem.tail _ ?_), S1.cell (b := x11) (by repeat' first | exact List.Mem.head _ | refine List.Mem.tail _ ?_), S1.cell (b := b16) (by repeat' first | exact List.Mem.head _ | refine List.Mem.tail _ ?_)⟩ (fun hHeld => ?_)
            clear hK K
            generalize World.alloc w0 _ = w01 at S1 hHeld ⊢
            refine wpAnyH_ready (rs := [2,9]) (by kernel_rfl) (by simp) ?_
            refine AllReadyH.cons rfl (fun K hK => ?_) ?_
            · go_simp
              refine (mulS S1 (by repeat' first | exact List.Mem.head _ | refine List.Mem.tail _ ?_) (by repeat' first | exact List.Mem.head _ | refine List.Mem.tail _ ?_) (by omega) (by omega)).mono ?_
              rintro e w02 ⟨Am1, nm1, cm1, rfl, S2⟩
              refine hK.out _ _ ⟨S2.cell (b := x7) (by repeat' first | exact List.Mem.head _ | refine List.Mem.tail _ ?_), S2.cell (b := x11) (by repeat' first | exact List.Mem.head _ | refine List.Mem.tail _ ?_), S2.cell (b := b16) (by repeat' first | exact List.Mem.head _ | refine List.Mem.tail _ ?_)⟩ (fun hHeld => ?_)
              clear hK K
              refine wpAnyH_ready (rs := [4,9]) (by kernel_rfl) (by simp) ?_
              refine AllReadyH.cons rfl (fun K hK => ?_) ?_
              · go_simp
                refine (divS S2 (by repeat' first | exact List.Mem.head _ | refine List.Mem.tail _ ?_) (by repeat' first | exact List.Mem.head _ | refine List.Mem.tail _ ?_) (by omega) (by omega) hgp.out).mono ?_
                rintro e w03 ⟨Aq, nq, cq, Ar, nr, cr, rfl, S3⟩
                rw [e2.out] at S3
                refine hK.out _ _ ⟨S3.cell (b := x7) (by repeat' first | exact List.Mem.head _ | refine List.Mem.tail _ ?_), S3.cell (b := x11) (by repeat' first | exact List.Mem.head _ | refine List.Mem.tail _ ?_), S3.cell (b := b16) (by repeat' first | exact List.Mem.head _ | refine List.Mem.tail _ ?_)⟩ (fun hHeld => ?_)
                clear hK K
                refine wpAnyH_takeD 5 (v := ?_) rfl rfl (by kernel_rfl) (by kernel_rfl) (by kernel_rfl) (fun _ _ _ h => h) (Or.inl ⟨by rfl, ?_⟩) hHeld ?_
                rotate_left
                focus (intro w hSw; (try dsimp only at hSw); go_simp; try with_reducible rfl)
                simp only [List.setIfInBounds_toArray, List.set_cons_zero, List.set_cons_succ]
                refine wpAnyH_takeD 6 (v := ?_) rfl rfl (by kernel_rfl) (by kernel_rfl) (by kernel_rfl) (fun _ _ _ h => h) (Or.inl ⟨by rfl, ?_⟩) hHeld ?_
                rotate_left
                focus (intro w hSw; (try dsimp only at hSw); go_simp; try with_reducible rfl)
                simp only [List.setIfInBounds_toArray, List.set_cons_zero, List.set_cons_succ]
                refine wpAnyH_takeD 7 (v := ?_) rfl rfl (by kernel_rfl) (by kernel_rfl) (by kernel_rfl) (fun _ _ _ h => h) (Or.inl ⟨by rfl, ?_⟩) hHeld ?_
                rotate_left
                focus (intro w hSw; (try dsimp only at hSw); go_simp; try with_reducible rfl)
                simp only [List.setIfInBounds_toArray, List.set_cons_zero, List.set_cons_succ]
                refine wpAnyH_takeD 8 (v := ?_) rfl rfl (by kernel_rfl) (by kernel_rfl) (by kernel_rfl) (fun _ _ _ h => h) (Or.inl ⟨by rfl, ?_⟩) hHeld ?_
                rotate_left
                focus (intro w hSw; (try dsimp only at hSw); go_simp; try with_reducible rfl)
                simp only [List.setIfInBounds_toArray, List.set_cons_zero, List.set_cons_succ]
                refine wpAnyH_ready (rs := [9]) (by kernel_rfl) (by simp) ?_
                refine AllReadyH.cons rfl (fun K hK => ?_) AllReadyH.nil
                · go_simp
                  have S4 := S3.alloc (.slice none 0 0)
                  refine hK.out _ _ ⟨S4.cell (b := x7) (by repeat' first | exact List.Mem.head _ | refine List.Mem.tail _ ?_), S4.cell (b := x11) (by repeat' first | exact List.Mem.head _ | refine List.Mem.tail _ ?_), S4.cell (b := b16) (by repeat' first | exact List.Mem.head _ | refine List.Mem.tail _ ?_)⟩ (fun hHeld => ?_)
                  clear hK K
                  generalize World.alloc w03 _ = w04 at S4 hHeld ⊢
                  have cy0 := S4.cell (b := w03.heap.size) (v := .slice none 0 0) (by repeat' first | exact List.Mem.head _ | refine List.Mem.tail _ ?_)
                  have fy0 := S4.frozen (b := w03.heap.size) (v := .slice none 0 0) (by repeat' first | exact List.Mem.head _ | refine List.Mem.tail _ ?_)
                  refine wpAnyH_ready (rs := [11]) (by kernel_rfl) (by simp) ?_
                  refine AllReadyH.cons rfl (fun K hK => ?_) AllReadyH.nil
                  go_simp
                  have T0 := S4.store0 (.slice Aq nq cq)
                  refine hK.out _ _ ⟨T0.cell (b := x7) (by repeat' first | exact List.Mem.head _ | refine List.Mem.tail _ ?_), T0.cell (b := x11) (by repeat' first | exact List.Mem.head _ | refine List.Mem.tail _ ?_), T0.cell (b := b16) (by repeat' first | exact List.Mem.head _ | refine List.Mem.tail _ ?_)⟩ (fun hHeld => ?_)
                  clear hK K cy0 fy0
                  generalize World.setCell w04 _ _ = v0 at T0 hHeld ⊢
                  have cy1 := T0.cell (b := w0.heap.size) (v := .slice none 0 0) (by repeat' first | exact List.Mem.head _ | refine List.Mem.tail _ ?_)
                  have fy1 := T0.frozen (b := w0.heap.size) (v := .slice none 0 0) (by repeat' first | exact List.Mem.head _ | refine List.Mem.tail _ ?_)
                  refine wpAnyH_ready (rs := [12]) (by kernel_rfl) (by simp) ?_
                  refine AllReadyH.cons rfl (fun K hK => ?_) AllReadyH.nil
                  go_simp
                  have T1 := T0.store1 (.slice Ar nr cr)
                  refine hK.out _ _ ⟨T1.cell (b := x7) (by repeat' first | exact List.Mem.head _ | refine List.Mem.tail _ ?_), T1.cell (b := x11) (by repeat' first | exact List.Mem.head _ | refine List.Mem.tail _ ?_), T1.cell (b := b16) (by repeat' first | exact List.Mem.head _ | refine List.Mem.tail _ ?_)⟩ (fun hHeld => ?_)
                  clear hK K cy1 fy1
                  generalize World.setCell v0 _ _ = v1 at T1 hHeld ⊢
                  refine wpAnyH_takeD 13 (v := ?_) rfl rfl (by kernel_rfl) (by kernel_rfl) (by kernel_rfl) (fun _ _ _ h => h) (Or.inl ⟨by rfl, ?_⟩) hHeld ?_
                  rotate_left
                  focus (intro w hSw; (try dsimp only at hSw); go_simp; try with_reducible rfl)
                  simp only [List.setIfInBounds_toArray, List.set_cons_zero, List.set_cons_succ]
                  refine wpAnyH_done (by kernel_rfl) ?_ _
                  go_wp2_with fail
                  go_meet
                  exact ⟨_, _, _, _, rfl, rfl, rfl, Lib.hid (T1.sub2 (by repeat' first | exact List.Sublist.slnil | refine List.Sublist.cons_cons _ ?_ | refine List.Sublist.cons _ ?_) (by repeat' first | exact List.Sublist.slnil | refine List.Sublist.cons_cons _ ?_ | refine List.Sublist.cons _ ?_))⟩
              refine AllReadyH.cons rfl (fun K hK => ?_) AllReadyH.nil
              · go_simp
                have S3 := S2.alloc (.slice none 0 0)
                refine hK.out _ _ ⟨S3.cell (b := x7) (by repeat' first | exact List.Mem.head _ | refine List.Mem.tail _ ?_), S3.cell (b := x11) (by repeat' first | exact List.Mem.head _ | refine List.Mem.tail _ ?_), S3.cell (b := b16) (by repeat' first | exact List.Mem.head _ | refine List.Mem.tail _ ?_)⟩ (fun hHeld => ?_)
                clear hK K
                generalize World.alloc w02 _ = w03 at S3 hHeld ⊢
                refine wpAnyH_ready (rs := [4]) (by kernel_rfl) (by simp) ?_
                refine AllReadyH.cons rfl (fun K hK => ?_) AllReadyH.nil
                · go_simp
                  refine (divS S3 (by repeat' first | exact List.Mem.head _ | refine List.Mem.tail _ ?_) (by repeat' first | exact List.Mem.head _ | refine List.Mem.tail _ ?_) (by omega) (by omega) hgp.out).mono ?_
                  rintro e w04 ⟨Aq, nq, cq, Ar, nr, cr, rfl, S4⟩
                  rw [e2.out] at S4
                  refine hK.out _ _ ⟨S4.cell (b := x7) (by repeat' first | exact List.Mem.head _ | refine List.Mem.tail _ ?_), S4.cell (b := x11) (by repeat' first | exact List.Mem.head _ | refine List.Mem.tail _ ?_), S4.cell (b := b16) (by repeat' first | exact List.Mem.head _ | refine List.Mem.tail _ ?_)⟩ (fun hHeld => ?_)
                  clear hK K
                  refine wpAnyH_takeD 5 (v := ?_) rfl rfl (by kernel_rfl) (by kernel_rfl) (by kernel_rfl) (fun _ _ _ h => h) (Or.inl ⟨by rfl, ?_⟩) hHeld ?_
                  rotate_left
                  focus (intro w hSw; (try dsimp only at hSw); go_simp; try with_reducible rfl)
                  simp only [List.setIfInBounds_toArray, List.set_cons_zero, List.set_cons_succ]
                  refine wpAnyH_takeD 6 (v := ?_) rfl rfl (by kernel_rfl) (by kernel_rfl) (by kernel_rfl) (fun _ _ _ h => h) (Or.inl ⟨by rfl, ?_⟩) hHeld ?_
                  rotate_left
                  focus (intro w hSw; (try dsimp only at hSw); go_simp; try with_reducible rfl)
                  simp only [List.setIfInBounds_toArray, List.set_cons_zero, List.set_cons_succ]
                  refine wpAnyH_takeD 7 (v := ?_) rfl rfl (by kernel_rfl) (by kernel_rfl) (by kernel_rfl) (fun _ _ _ h => h) (Or.inl ⟨by rfl, ?_⟩) hHeld ?_
                  rotate_left
                  focus (intro w hSw; (try dsimp only at hSw); go_simp; try with_reducible rfl)
                  simp only [List.setIfInBounds_toArray, List.set_cons_zero, List.set_cons_succ]
                  refine wpAnyH_takeD 8 (v := ?_) rfl rfl (by kernel_rfl) (by kernel_rfl) (by kernel_rfl) (fun _ _ _ h => h) (Or.inl ⟨by rfl, ?_⟩) hHeld ?_
                  rotate_left
                  focus (intro w hSw; (try dsimp only at hSw); go_simp; try with_reducible rfl)
                  simp only [List.setIfInBounds_toArray, List.set_cons_zero, List.set_cons_succ]
                  have cy0 := S4.cell (b := w02.heap.size) (v := .slice none 0 0) (by repeat' first | exact List.Mem.head _ | refine List.Mem.tail _ ?_)
                  have fy0 := S4.frozen (b := w02.heap.size) (v := .slice none 0 0) (by repeat' first | exact List.Mem.head _ | refine List.Mem.tail _ ?_)
                  refine wpAnyH_ready (rs := [11]) (by kernel_rfl) (by simp) ?_
                  refine AllReadyH.cons rfl (fun K hK => ?_) AllReadyH.nil
                  go_simp
                  have T0 := S4.store0 (.slice Aq nq cq)
                  refine hK.out _ _ ⟨T0.cell (b := x7) (by repeat' first | exact List.Mem.head _ | refine List.Mem.tail _ ?_), T0.cell (b := x11) (by repeat' first | exact List.Mem.head _ | refine List.Mem.tail _ ?_), T0.cell (b := b16) (by repeat' first | exact List.Mem.head _ | refine List.Mem.tail _ ?_)⟩ (fun hHeld => ?_)
                  clear hK K cy0 fy0
                  generalize World.setCell w04 _ _ = v0 at T0 hHeld ⊢
                  have cy1 := T0.cell (b := w0.heap.size) (v := .slice none 0 0) (by repeat' first | exact List.Mem.head _ | refine List.Mem.tail _ ?_)
                  have fy1 := T0.frozen (b := w0.heap.size) (v := .slice none 0 0) (by repeat' first | exact List.Mem.head _ | refine List.Mem.tail _ ?_)
                  refine wpAnyH_ready (rs := [12]) (by kernel_rfl) (by simp) ?_
                  refine AllReadyH.cons rfl (fun K hK => ?_) AllReadyH.nil
                  go_simp
                  have T1 := T0.store1 (.slice Ar nr cr)
                  refine hK.out _ _ ⟨T1.cell (b := x7) (by repeat' first | exact List.Mem.head _ | refine List.Mem.tail _ ?_), T1.cell (b := x11) (by repeat' first | exact List.Mem.head _ | refine List.Mem.tail _ ?_), T1.cell (b := b16) (by repeat' first | exact List.Mem.head _ | refine List.Mem.tail _ ?_)⟩ (fun hHeld => ?_)
                  clear hK K cy1 fy1
                  generalize World.setCell v0 _ _ = v1 at T1 hHeld ⊢
                  refine wpAnyH_takeD 13 (v := ?_) rfl rfl (by kernel_rfl) (by kernel_rfl) (by kernel_rfl) (fun _ _ _ h => h) (Or.inl ⟨by rfl, ?_⟩) hHeld ?_
                  rotate_left
                  focus (intro w hSw; (try dsimp only at hSw); go_simp; try with_reducible rfl)
                  simp only [List.setIfInBounds_toArray, List.set_cons_zero, List.set_cons_succ]
                  refine wpAnyH_done (by kernel_rfl) ?_ _
                  go_wp2_with fail
                  go_meet
                  exact ⟨_, _, _, _, rfl, rfl, rfl, Lib.hid (T1.sub2 (by repeat' first | exact List.Sublist.slnil | refine List.Sublist.cons_cons _ ?_ | refine List.Sublist.cons _ ?_) (by repeat' first | exact List.Sublist.slnil | refine List.Sublist.cons_cons _ ?_ | refine List.Sublist.cons _ ?_))⟩
            refine AllReadyH.cons rfl (fun K hK => ?_) AllReadyH.nil
            · go_simp
              have S2 := S1.alloc (.slice none 0 0)
              refine hK.out _ _ ⟨S2.cell (b := x7) (by repeat' first | exact List.Mem.head _ | refine List.Mem.tail _ ?_), S2.cell (b := x11) (by repeat' first | exact List.Mem.head _ | refine List.Mem.tail _ ?_), S2.cell (b := b16) (by repeat' first | exact List.Mem.head _ | refine List.Mem.tail _ ?_)⟩ (fun hHeld => ?_)
              clear hK K
              generalize World.alloc w01 _ = w02 at S2 hHeld ⊢
              refine wpAnyH_ready (rs := [2]) (by kernel_rfl) (by simp) ?_
              refine AllReadyH.cons rfl (fun K hK => ?_) AllReadyH.nil
              · go_simp
                refine (mulS S2 (by repeat' first | exact List.Mem.head _ | refine List.Mem.tail _ ?_) (by repeat' first | exact List.Mem.head _ | refine List.Mem.tail _ ?_) (by omega) (by omega)).mono ?_
                rintro e w03 ⟨Am1, nm1, cm1, rfl, S3⟩
                refine hK.out _ _ ⟨S3.cell (b := x7) (by repeat' first | exact List.Mem.head _ | refine List.Mem.tail _ ?_), S3.cell (b := x11) (by repeat' first | exact List.Mem.head _ | refine List.Mem.tail _ ?_), S3.cell (b := b16) (by repeat' first | exact List.Mem.head _ | refine List.Mem.tail _ ?_)⟩ (fun hHeld => ?_)
                clear hK K
                refine wpAnyH_ready (rs := [4]) (by kernel_rfl) (by simp) ?_
                refine AllReadyH.cons rfl (fun K hK => ?_) AllReadyH.nil
                · go_simp
                  refine (divS S3 (by repeat' first | exact List.Mem.head _ | refine List.Mem.tail _ ?_) (by repeat' first | exact List.Mem.head _ | refine List.Mem.tail _ ?_) (by omega) (by omega) hgp.out).mono ?_
                  rintro e w04 ⟨Aq, nq, cq, Ar, nr, cr, rfl, S4⟩
                  rw [e2.out] at S4
                  refine hK.out _ _ ⟨S4.cell (b := x7) (by repeat' first | exact List.Mem.head _ | refine List.Mem.tail _ ?_), S4.cell (b := x11) (by repeat' first | exact List.Mem.head _ | refine List.Mem.tail _ ?_), S4.cell (b := b16) (by repeat' first | exact List.Mem.head _ | refine List.Mem.tail _ ?_)⟩ (fun hHeld => ?_)
                  clear hK K
                  refine wpAnyH_takeD 5 (v := ?_) rfl rfl (by kernel_rfl) (by kernel_rfl) (by kernel_rfl) (fun _ _ _ h => h) (Or.inl ⟨by rfl, ?_⟩) hHeld ?_
                  rotate_left
                  focus (intro w hSw; (try dsimp only at hSw); go_simp; try with_reducible rfl)
                  simp only [List.setIfInBounds_toArray, List.set_cons_zero, List.set_cons_succ]
                  refine wpAnyH_takeD 6 (v := ?_) rfl rfl (by kernel_rfl) (by kernel_rfl) (by kernel_rfl) (fun _ _ _ h => h) (Or.inl ⟨by rfl, ?_⟩) hHeld ?_
                  rotate_left
                  focus (intro w hSw; (try dsimp only at hSw); go_simp; try with_reducible rfl)
                  simp only [List.setIfInBounds_toArray, List.set_cons_zero, List.set_cons_succ]
                  refine wpAnyH_takeD 7 (v := ?_) rfl rfl (by kernel_rfl) (by kernel_rfl) (by kernel_rfl) (fun _ _ _ h => h) (Or.inl ⟨by rfl, ?_⟩) hHeld ?_
                  rotate_left
                  focus (intro w hSw; (try dsimp only at hSw); go_simp; try with_reducible rfl)
                  simp only [List.setIfInBounds_toArray, List.set_cons_zero, List.set_cons_succ]
                  refine wpAnyH_takeD 8 (v := ?_) rfl rfl (by kernel_rfl) (by kernel_rfl) (by kernel_rfl) (fun _ _ _ h => h) (Or.inl ⟨by rfl, ?_⟩) hHeld ?_
                  rotate_left
                  focus (intro w hSw; (try dsimp only at hSw); go_simp; try with_reducible rfl)
                  simp only [List.setIfInBounds_toArray, List.set_cons_zero, List.set_cons_succ]
                  have cy0 := S4.cell (b := w01.heap.size) (v := .slice none 0 0) (by repeat' first | exact List.Mem.head _ | refine List.Mem.tail _ ?_)
                  have fy0 := S4.frozen (b := w01.heap.size) (v := .slice none 0 0) (by repeat' first | exact List.Mem.head _ | refine List.Mem.tail _ ?_)
                  refine wpAnyH_ready (rs := [11]) (by kernel_rfl) (by simp) ?_
                  refine AllReadyH.cons rfl (fun K hK => ?_) AllReadyH.nil
                  go_simp
                  have T0 := S4.store0 (.slice Aq nq cq)
                  refine hK.out _ _ ⟨T0.cell (b := x7) (by repeat' first | exact List.Mem.head _ | refine List.Mem.tail _ ?_), T0.cell (b := x11) (by repeat' first | exact List.Mem.head _ | refine List.Mem.tail _ ?_), T0.cell (b := b16) (by repeat' first | exact List.Mem.head _ | refine List.Mem.tail _ ?_)⟩ (fun hHeld => ?_)
                  clear hK K cy0 fy0
                  generalize World.setCell w04 _ _ = v0 at T0 hHeld ⊢
                  have cy1 := T0.cell (b := w0.heap.size) (v := .slice none 0 0) (by repeat' first | exact List.Mem.head _ | refine List.Mem.tail _ ?_)
                  have fy1 := T0.frozen (b := w0.heap.size) (v := .slice none 0 0) (by repeat' first | exact List.Mem.head _ | refine List.Mem.tail _ ?_)
                  refine wpAnyH_ready (rs := [12]) (by kernel_rfl) (by simp) ?_
                  refine AllReadyH.cons rfl (fun K hK => ?_) AllReadyH.nil
                  go_simp
                  have T1 := T0.store1 (.slice Ar nr cr)
                  refine hK.out _ _ ⟨T1.cell (b := x7) (by repeat' first | exact List.Mem.head _ | refine List.Mem.tail _ ?_), T1.cell (b := x11) (by repeat' first | exact List.Mem.head _ | refine List.Mem.tail _ ?_), T1.cell (b := b16) (by repeat' first | exact List.Mem.head _ | refine List.Mem.tail _ ?_)⟩ (fun hHeld => ?_)
                  clear hK K cy1 fy1
                  generalize World.setCell v0 _ _ = v1 at T1 hHeld ⊢
                  refine wpAnyH_takeD 13 (v := ?_) rfl rfl (by kernel_rfl) (by kernel_rfl) (by kernel_rfl) (fun _ _ _ h => h) (Or.inl ⟨by rfl, ?_⟩) hHeld ?_
                  rotate_left
                  focus (intro w hSw; (try dsimp only at hSw); go_simp; try with_reducible rfl)
                  simp only [List.setIfInBounds_toArray, List.set_cons_zero, List.set_cons_succ]
                  refine wpAnyH_done (by kernel_rfl) ?_ _
                  go_wp2_with fail
                  go_meet
                  exact ⟨_, _, _, _, rfl, rfl, rfl, Lib.hid (T1.sub2 (by repeat' first | exact List.Sublist.slnil | refine List.Sublist.cons_cons _ ?_ | refine List.Sublist.cons _ ?_) (by repeat' first | exact List.Sublist.slnil | refine List.Sublist.cons_cons _ ?_ | refine List.Sublist.cons _ ?_))⟩
      case rest =>
        obtain ⟨b21, At, nt, ct, rfl, rfl, rfl, HS'⟩ := hcut
        replace HS := HS'
        clear HS' hx17
        go_upto_region 16 with fail
        go_cut [19, 22, 24, 25] (fun f1 f2 s f wx => ∃ (b : Nat) (A : Option Addr) (n c : Nat), f1 = .int .i64 0 ∧ f2 = .int .i64 0 ∧ s = .pointer (some ⟨b, 0, none⟩) ∧ f = .int .i64 0 ∧ Hid (St w [(.agg #[.slice A n c], 0, 16), (.agg #[.slice At nt ct], 0, 16), (.agg #[.slice As ns cs], 0, 8), (.agg #[.slice Ag ng cg], g, 16), (.agg #[.slice Ao no co], i, 8), (.agg #[.slice Am nm cm], j, 8), (.agg #[.slice An nn cn], k, 8)] [(b, .slice A n c), (b21, .slice At nt ct), (x17 + 1, .slice As ns cs), (b16, .slice Ag ng cg), (x11, .slice Ao no co), (x9, .slice Am nm cm), (x7, .slice An nn cn)] wx))
        case first => as_aux_lemma =>
          refine wp_region_held_drew (S := fun W' => W'.cell? ⟨x9, 0, none⟩ = some (.slice Am nm cm) ∧ W'.cell? ⟨x11, 0, none⟩ = some (.slice Ao no co) ∧ W'.cell? ⟨b16, 0, none⟩ = some (.slice Ag ng cg)) (by kernel_rfl) ⟨HS.out.cell (b := x9) (by repeat' first | exact List.Mem.head _ | refine List.Mem.tail _ ?_), HS.out.cell (b := x11) (by repeat' first | exact List.Mem.head _ | refine List.Mem.tail _ ?_), HS.out.cell (b := b16) (by repeat' first | exact List.Mem.head _ | refine List.Mem.tail _ ?_)⟩ (fun hHeld => ?_)
          obtain ⟨w0, hw0⟩ : ∃ w0, wc.drew = w0 := ⟨_, rfl⟩
          have S0 := HS.out.drew
          rw [hw0] at hHeld S0 ⊢
          clear hw0 HS
          refine wpAnyH_takeD 0 (v := ?_) rfl rfl (by kernel_rfl) (by kernel_rfl) (by kernel_rfl) (fun _ _ _ h => h) (Or.inl ⟨by rfl, ?_⟩) hHeld ?_
          rotate_left
          focus (intro w hSw; (try dsimp only at hSw); go_simp; try with_reducible rfl)
          simp only [List.setIfInBounds_toArray, List.set_cons_zero, List.set_cons_succ]
          refine wpAnyH_takeD 1 (v := ?_) rfl rfl (by kernel_rfl) (by kernel_rfl) (by kernel_rfl) (fun _ _ _ h => h) (Or.inl ⟨by rfl, ?_⟩) hHeld ?_
          rotate_left
          focus (intro w hSw; (try dsimp only at hSw); go_simp; try with_reducible rfl)
          simp only [List.setIfInBounds_toArray, List.set_cons_zero, List.set_cons_succ]
          refine wpAnyH_takeD 3 (v := ?_) rfl rfl (by kernel_rfl) (by kernel_rfl) (by kernel_rfl) (fun _ _ _ h => h) (Or.inl ⟨by rfl, ?_⟩) hHeld ?_
          rotate_left
          focus (intro w hSw; (try dsimp only at hSw); go_simp; try with_reducible rfl)
          simp only [List.setIfInBounds_toArray, List.set_cons_zero, List.set_cons_succ]
          refine wpAnyH_ready (rs := [2,9,10]) (by kernel_rfl) (by simp) ?_
          refine AllReadyH.cons rfl (fun K hK => ?_) ?_
          · as_aux_lemma =>
              go_simp
              refine (mulS S0 (by repeat' first | exact List.Mem.head _ | refine List.Mem.tail _ ?_) (by repeat' first | exact List.Mem.head _ | refine List.Mem.tail _ ?_) (by omega) (by omega)).mono ?_
              rintro e w01 ⟨Am1, nm1, cm1, rfl, S1⟩
              refine hK.out _ _ ⟨S1.cell (b := x9) (by repeat' first | exact List.Mem.head _ | refine List.Mem.tail _ ?_), S1.cell (b := x11) (by repeat' first | exact List.Mem.head _ | refine List.Mem.tail _ ?_), S1.cell (b := b16) (by repeat' first | exact List.Mem.head _ | refine List.Mem.tail _ ?_)⟩ (fun hHeld => ?_)
              clear hK K
              refine wpAnyH_ready (rs := [4,9,10]) (by kernel_rfl) (by simp) ?_
              refine AllReadyH.cons rfl (fun K hK => ?_) ?_
              · go_simp
                refine (divS S1 (by repeat' first | exact List.Mem.head _ | refine List.Mem.tail _ ?_) (by repeat' first | exact List.Mem.head _ | refine List.Mem.tail _ ?_) (by omega) (by omega) hgp.out).mono ?_
                rintro e w02 ⟨Aq, nq, cq, Ar, nr, cr, rfl, S2⟩
                rw [e3.out] at S2
                refine hK.out _ _ ⟨S2.cell (b := x9) (by repeat' first | exact List.Mem.head _ | refine List.Mem.tail _ ?_), S2.cell (b := x11) (by repeat' first | exact List.Mem.head _ | refine List.Mem.tail _ ?_), S2.cell (b := b16) (by repeat' first | exact List.Mem.head _ | refine List.Mem.tail _ ?_)⟩ (fun hHeld => ?_)
                clear hK K
                refine wpAnyH_takeD 5 (v := ?_) rfl rfl (by kernel_rfl) (by kernel_rfl) (by kernel_rfl) (fun _ _ _ h => h) (Or.inl ⟨by rfl, ?_⟩) hHeld ?_
                rotate_left
                focus (intro w hSw; (try dsimp only at hSw); go_simp; try with_reducible rfl)
                simp only [List.setIfInBounds_toArray, List.set_cons_zero, List.set_cons_succ]
                refine wpAnyH_takeD 6 (v := ?_) rfl rfl (by kernel_rfl) (by kernel_rfl) (by kernel_rfl) (fun _ _ _ h => h) (Or.inl ⟨by rfl, ?_⟩) hHeld ?_
                rotate_left
                focus (intro w hSw; (try dsimp only at hSw); go_simp; try with_reducible rfl)
                simp only [List.setIfInBounds_toArray, List.set_cons_zero, List.set_cons_succ]
                refine wpAnyH_takeD 7 (v := ?_) rfl rfl (by kernel_rfl) (by kernel_rfl) (by kernel_rfl) (fun _ _ _ h => h) (Or.inl ⟨by rfl, ?_⟩) hHeld ?_
                rotate_left
                focus (intro w hSw; (try dsimp only at hSw); go_simp; try with_reducible rfl)
                simp only [List.setIfInBounds_toArray, List.set_cons_zero, List.set_cons_succ]
                refine wpAnyH_takeD 8 (v := ?_) rfl rfl (by kernel_rfl) (by kernel_rfl) (by kernel_rfl) (fun _ _ _ h => h) (Or.inl ⟨by rfl, ?_⟩) hHeld ?_
                rotate_left
                focus (intro w hSw; (try dsimp only at hSw); go_simp; try with_reducible rfl)
                simp only [List.setIfInBounds_toArray, List.set_cons_zero, List.set_cons_succ]
                refine wpAnyH_ready (rs := [9,10]) (by kernel_rfl) (by simp) ?_
                refine AllReadyH.cons rfl (fun K hK => ?_) ?_
                · go_simp
                  have S3 := S2.alloc (.slice none 0 0)
                  refine hK.out _ _ ⟨S3.cell (b := x9) (by repeat' first | exact List.Mem.head _ | refine List.Mem.tail _ ?_), S3.cell (b := x11) (by repeat' first | exact List.Mem.head _ | refine List.Mem.tail _ ?_), S3.cell (b := b16) (by repeat' first | exact List.Mem.head _ | refine List.Mem.tail _ ?_)⟩ (fun hHeld => ?_)
                  clear hK K
                  generalize World.alloc w02 _ = w03 at S3 hHeld ⊢
                  refine wpAnyH_ready (rs := [10]) (by kernel_rfl) (by simp) ?_
                  refine AllReadyH.cons rfl (fun K hK => ?_) AllReadyH.nil
                  · go_simp
                    have S4 := S3.alloc (.slice none 0 0)
                    refine hK.out _ _ ⟨S4.cell (b := x9) (by repeat' first | exact List.Mem.head _ | refine List.Mem.tail _ ?_), S4.cell (b := x11) (by repeat' first | exact List.Mem.head _ | refine List.Mem.tail _ ?_), S4.cell (b := b16) (by repeat' first | exact List.Mem.head _ | refine List.Mem.tail _ ?_)⟩ (fun hHeld => ?_)
                    clear hK K
                    generalize World.alloc w03 _ = w04 at S4 hHeld ⊢
                    have cy0 := S4.cell (b := w02.heap.size) (v := .slice none 0 0) (by repeat' first | exact List.Mem.head _ | refine List.Mem.tail _ ?_)
                    have fy0 := S4.frozen (b := w02.heap.size) (v := .slice none 0 0) (by repeat' first | exact List.Mem.head _ | refine List.Mem.tail _ ?_)
                    refine wpAnyH_ready (rs := [11]) (by kernel_rfl) (by simp) ?_
                    refine AllReadyH.cons rfl (fun K hK => ?_) AllReadyH.nil
                    go_simp
                    have T0 := S4.store1 (.slice Aq nq cq)
                    refine hK.out _ _ ⟨T0.cell (b := x9) (by repeat' first | exact List.Mem.head _ | refine List.Mem.tail _ ?_), T0.cell (b := x11) (by repeat' first | exact List.Mem.head _ | refine List.Mem.tail _ ?_), T0.cell (b := b16) (by repeat' first | exact List.Mem.head _ | refine List.Mem.tail _ ?_)⟩ (fun hHeld => ?_)
                    clear hK K cy0 fy0
                    generalize World.setCell w04 _ _ = v0 at T0 hHeld ⊢
                    have cy1 := T0.cell (b := w03.heap.size) (v := .slice none 0 0) (by repeat' first | exact List.Mem.head _ | refine List.Mem.tail _ ?_)
                    have fy1 := T0.frozen (b := w03.heap.size) (v := .slice none 0 0) (by repeat' first | exact List.Mem.head _ | refine List.Mem.tail _ ?_)
                    refine wpAnyH_ready (rs := [12]) (by kernel_rfl) (by simp) ?_
                    refine AllReadyH.cons rfl (fun K hK => ?_) AllReadyH.nil
                    go_simp
                    have T1 := T0.store0 (.slice Ar nr cr)
                    refine hK.out _ _ ⟨T1.cell (b := x9) (by repeat' first | exact List.Mem.head _ | refine List.Mem.tail _ ?_), T1.cell (b := x11) (by repeat' first | exact List.Mem.head _ | refine List.Mem.tail _ ?_), T1.cell (b := b16) (by repeat' first | exact List.Mem.head _ | refine List.Mem.tail _ ?_)⟩ (fun hHeld => ?_)
                    clear hK K cy1 fy1
                    generalize World.setCell v0 _ _ = v1 at T1 hHeld ⊢
                    refine wpAnyH_takeD 13 (v := ?_) rfl rfl (by kernel_rfl) (by kernel_rfl) (by kernel_rfl) (fun _ _ _ h => h) (Or.inl ⟨by rfl, ?_⟩) hHeld ?_
                    rotate_left
                    focus (intro w hSw; (try dsimp only at hSw); go_simp; try with_reducible rfl)
                    simp only [List.setIfInBounds_toArray, List.set_cons_zero, List.set_cons_succ]
                    refine wpAnyH_done (by kernel_rfl) ?_ _
                    go_wp2_with fail
                    go_meet
                    exact ⟨_, _, _, _, rfl, rfl, rfl, rfl, Lib.hid (T1.sub2 (by repeat' first | exact List.Sublist.slnil | refine List.Sublist.cons_cons _ ?_ | refine List.Sublist.cons _ ?_) (by repeat' first | exact List.Sublist.slnil | refine List.Sublist.cons_cons _ ?_ | refine List.Sublist.cons _ ?_))⟩
                refine AllReadyH.cons rfl (fun K hK => ?_) AllReadyH.nil
                · go_simp
                  have S3 := S2.alloc (.slice none 0 0)
                  refine hK.out _ _ ⟨S3.cell (b := x9) (by repeat' first | exact List.Mem.head _ | refine List.Mem.tail _ ?_), S3.cell (b := x11) (by repeat' first | exact List.Mem.head _ | refine List.Mem.tail _ ?_), S3.cell (b := b16) (by repeat' first | exact List.Mem.head _ | refine List.Mem.tail _ ?_)⟩ (fun hHeld => ?_)
                  clear hK K
                  generalize World.alloc w02 _ = w03 at S3 hHeld ⊢
                  refine wpAnyH_ready (rs := [9]) (by kernel_rfl) (by simp) ?_
                  refine AllReadyH.cons rfl (fun K hK => ?_) AllReadyH.nil
                  · go_simp
                    have S4 := S3.alloc (.slice none 0 0)
                    refine hK.out _ _ ⟨S4.cell (b := x9) (by repeat' first | exact List.Mem.head _ | refine List.Mem.tail _ ?_), S4.cell (b := x11) (by repeat' first | exact List.Mem.head _ | refine List.Mem.tail _ ?_), S4.cell (b := b16) (by repeat' first | exact List.Mem.head _ | refine List.Mem.tail _ ?_)⟩ (fun hHeld => ?_)
                    clear hK K
                    generalize World.alloc w03 _ = w04 at S4 hHeld ⊢
                    have cy0 := S4.cell (b := w03.heap.size) (v := .slice none 0 0) (by repeat' first | exact List.Mem.head _ | refine List.Mem.tail _ ?_)
                    have fy0 := S4.frozen (b := w03.heap.size) (v := .slice none 0 0) (by repeat' first | exact List.Mem.head _ | refine List.Mem.tail _ ?_)
                    refine wpAnyH_ready (rs := [11]) (by kernel_rfl) (by simp) ?_
                    refine AllReadyH.cons rfl (fun K hK => ?_) AllReadyH.nil
                    go_simp
                    have T0 := S4.store0 (.slice Aq nq cq)
                    refine hK.out _ _ ⟨T0.cell (b := x9) (by repeat' first | exact List.Mem.head _ | refine List.Mem.tail _ ?_), T0.cell (b := x11) (by repeat' first | exact List.Mem.head _ | refine List.Mem.tail _ ?_), T0.cell (b := b16) (by repeat' first | exact List.Mem.head _ | refine List.Mem.tail _ ?_)⟩ (fun hHeld => ?_)
                    clear hK K cy0 fy0
                    generalize World.setCell w04 _ _ = v0 at T0 hHeld ⊢
                    have cy1 := T0.cell (b := w02.heap.size) (v := .slice none 0 0) (by repeat' first | exact List.Mem.head _ | refine List.Mem.tail _ ?_)
                    have fy1 := T0.frozen (b := w02.heap.size) (v := .slice none 0 0) (by repeat' first | exact List.Mem.head _ | refine List.Mem.tail _ ?_)
                    refine wpAnyH_ready (rs := [12]) (by kernel_rfl) (by simp) ?_
                    refine AllReadyH.cons rfl (fun K hK => ?_) AllReadyH.nil
                    go_simp
                    have T1 := T0.store1 (.slice Ar nr cr)
                    refine hK.out _ _ ⟨T1.cell (b := x9) (by repeat' first | exact List.Mem.head _ | refine List.Mem.tail _ ?_), T1.cell (b := x11) (by repeat' first | exact List.Mem.head _ | refine List.Mem.tail _ ?_), T1.cell (b := b16) (by repeat' first | exact List.Mem.head _ | refine List.Mem.tail _ ?_)⟩ (fun hHeld => ?_)
                    clear hK K cy1 fy1
                    generalize World.setCell v0 _ _ = v1 at T1 hHeld ⊢
                    refine wpAnyH_takeD 13 (v := ?_) rfl rfl (by kernel_rfl) (by kernel_rfl) (by kernel_rfl) (fun _ _ _ h => h) (Or.inl ⟨by rfl, ?_⟩) hHeld ?_
                    rotate_left
                    focus (intro w hSw; (try dsimp only at hSw); go_simp; try with_reducible rfl)
                    simp only [List.setIfInBounds_toArray, List.set_cons_zero, List.set_cons_succ]
                    refine wpAnyH_done (by kernel_rfl) ?_ _
                    go_wp2_with fail
                    go_meet
                    exact ⟨_, _, _, _, rfl, rfl, rfl, rfl, Lib.hid (T1.sub2 (by repeat' first | exact List.Sublist.slnil | refine List.Sublist.cons_cons _ ?_ | refine List.Sublist.cons _ ?_) (by repeat' first | exact List.Sublist.slnil | refine List.Sublist.cons_cons _ ?_ | refine List.Sublist.cons _ ?_))⟩
              refine AllReadyH.cons rfl (fun K hK => ?_) ?_
              · go_simp
                have S2 := S1.alloc (.slice none 0 0)
                refine hK.out _ _ ⟨S2.cell (b := x9) (by repeat' first | exact List.Mem.head _ | refine List.Mem.tail _ ?_), S2.cell (b := x11) (by repeat' first | exact List.Mem.head _ | refine List.Mem.tail _ ?_), S2.cell (b := b16) (by repeat' first | exact List.Mem.head _ | refine List.Mem.tail _ ?_)⟩ (fun hHeld => ?_)
                clear hK K
                generalize World.alloc w01 _ = w02 at S2 hHeld ⊢
                refine wpAnyH_ready (rs := [4,10]) (by kernel_rfl) (by simp) ?_
                refine AllReadyH.cons rfl (fun K hK => ?_) ?_
                · go_simp
                  refine (divS S2 (by repeat' first | exact List.Mem.head _ | refine List.Mem.tail _ ?_) (by repeat' first | exact List.Mem.head _ | refine List.Mem.tail _ ?_) (by omega) (by omega) hgp.out).mono ?_
                  rintro e w03 ⟨Aq, nq, cq, Ar, nr, cr, rfl, S3⟩
                  rw [e3.out] at S3
                  refine hK.out _ _ ⟨S3.cell (b := x9) (by repeat' first | exact List.Mem.head _ | refine List.Mem.tail _ ?_), S3.cell (b := x11) (by repeat' first | exact List.Mem.head _ | refine List.Mem.tail _ ?_), S3.cell (b := b16) (by repeat' first | exact List.Mem.head _ | refine List.Mem.tail _ ?_)⟩ (fun hHeld => ?_)
                  clear hK K
                  refine wpAnyH_takeD 5 (v := ?_) rfl rfl (by kernel_rfl) (by kernel_rfl) (by kernel_rfl) (fun _ _ _ h => h) (Or.inl ⟨by rfl, ?_⟩) hHeld ?_
                  rotate_left
                  focus (intro w hSw; (try dsimp only at hSw); go_simp; try with_reducible rfl)
                  simp only [List.setIfInBounds_toArray, List.set_cons_zero, List.set_cons_succ]
                  refine wpAnyH_takeD 6 (v := ?_) rfl rfl (by kernel_rfl) (by kernel_rfl) (by kernel_rfl) (fun _ _ _ h => h) (Or.inl ⟨by rfl, ?_⟩) hHeld ?_
                  rotate_left
                  focus (intro w hSw; (try dsimp only at hSw); go_simp; try with_reducible rfl)
                  simp only [List.setIfInBounds_toArray, List.set_cons_zero, List.set_cons_succ]
                  refine wpAnyH_takeD 7 (v := ?_) rfl rfl (by kernel_rfl) (by kernel_rfl) (by kernel_rfl) (fun _ _ _ h => h) (Or.inl ⟨by rfl, ?_⟩) hHeld ?_
                  rotate_left
                  focus (intro w hSw; (try dsimp only at hSw); go_simp; try with_reducible rfl)
                  simp only [List.setIfInBounds_toArray, List.set_cons_zero, List.set_cons_succ]
                  refine wpAnyH_takeD 8 (v := ?_) rfl rfl (by kernel_rfl) (by kernel_rfl) (by kernel_rfl) (fun _ _ _ h => h) (Or.inl ⟨by rfl, ?_⟩) hHeld ?_
                  rotate_left
                  focus (intro w hSw; (try dsimp only at hSw); go_simp; try with_reducible rfl)
                  simp only [List.setIfInBounds_toArray, List.set_cons_zero, List.set_cons_succ]
                  refine wpAnyH_ready (rs := [10]) (by kernel_rfl) (by simp) ?_
                  refine AllReadyH.cons rfl (fun K hK => ?_) AllReadyH.nil
                  · go_simp
                    have S4 := S3.alloc (.slice none 0 0)
                    refine hK.out _ _ ⟨S4.cell (b := x9) (by repeat' first | exact List.Mem.head _ | refine List.Mem.tail _ ?_), S4.cell (b := x11) (by repeat' first | exact List.Mem.head _ | refine List.Mem.tail _ ?_), S4.cell (b := b16) (by repeat' first | exact List.Mem.head _ | refine List.Mem.tail _ ?_)⟩ (fun hHeld => ?_)
                    clear hK K
                    generalize World.alloc w03 _ = w04 at S4 hHeld ⊢
                    have cy0 := S4.cell (b := w01.heap.size) (v := .slice none 0 0) (by repeat' first | exact List.Mem.head _ | refine List.Mem.tail _ ?_)
                    have fy0 := S4.frozen (b := w01.heap.size) (v := .slice none 0 0) (by repeat' first | exact List.Mem.head _ | refine List.Mem.tail _ ?_)
                    refine wpAnyH_ready (rs := [11]) (by kernel_rfl) (by simp) ?_
                    refine AllReadyH.cons rfl (fun K hK => ?_) AllReadyH.nil
                    go_simp
                    have T0 := S4.store1 (.slice Aq nq cq)
                    refine hK.out _ _ ⟨T0.cell (b := x9) (by repeat' first | exact List.Mem.head _ | refine List.Mem.tail _ ?_), T0.cell (b := x11) (by repeat' first | exact List.Mem.head _ | refine List.Mem.tail _ ?_), T0.cell (b := b16) (by repeat' first | exact List.Mem.head _ | refine List.Mem.tail _ ?_)⟩ (fun hHeld => ?_)
                    clear hK K cy0 fy0
                    generalize World.setCell w04 _ _ = v0 at T0 hHeld ⊢
                    have cy1 := T0.cell (b := w03.heap.size) (v := .slice none 0 0) (by repeat' first | exact List.Mem.head _ | refine List.Mem.tail _ ?_)
                    have fy1 := T0.frozen (b := w03.heap.size) (v := .slice none 0 0) (by repeat' first | exact List.Mem.head _ | refine List.Mem.tail _ ?_)
                    refine wpAnyH_ready (rs := [12]) (by kernel_rfl) (by simp) ?_
                    refine AllReadyH.cons rfl (fun K hK => ?_) AllReadyH.nil
                    go_simp
                    have T1 := T0.store0 (.slice Ar nr cr)
                    refine hK.out _ _ ⟨T1.cell (b := x9) (by repeat' first | exact List.Mem.head _ | refine List.Mem.tail _ ?_), T1.cell (b := x11) (by repeat' first | exact List.Mem.head _ | refine List.Mem.tail _ ?_), T1.cell (b := b16) (by repeat' first | exact List.Mem.head _ | refine List.Mem.tail _ ?_)⟩ (fun hHeld => ?_)
                    clear hK K cy1 fy1
                    generalize World.setCell v0 _ _ = v1 at T1 hHeld ⊢
                    refine wpAnyH_takeD 13 (v := ?_) rfl rfl (by kernel_rfl) (by kernel_rfl) (by kernel_rfl) (fun _ _ _ h => h) (Or.inl ⟨by rfl, ?_⟩) hHeld ?_
                    rotate_left
                    focus (intro w hSw; (try dsimp only at hSw); go_simp; try with_reducible rfl)
                    simp only [List.setIfInBounds_toArray, List.set_cons_zero, List.set_cons_succ]
                    refine wpAnyH_done (by kernel_rfl) ?_ _
                    go_wp2_with fail
                    go_meet
                    exact ⟨_, _, _, _, rfl, rfl, rfl, rfl, Lib.hid (T1.sub2 (by repeat' first | exact List.Sublist.slnil | refine List.Sublist.cons_cons _ ?_ | refine List.Sublist.cons _ ?_) (by repeat' first | exact List.Sublist.slnil | refine List.Sublist.cons_cons _ ?_ | refine List.Sublist.cons _ ?_))⟩
                refine AllReadyH.cons rfl (fun K hK => ?_) AllReadyH.nil
                · go_simp
                  have S3 := S2.alloc (.slice none 0 0)
                  refine hK.out _ _ ⟨S3.cell (b := x9) (by repeat' first | exact List.Mem.head _ | refine List.Mem.tail _ ?_), S3.cell (b := x11) (by repeat' first | exact List.Mem.head _ | refine List.Mem.tail _ ?_), S3.cell (b := b16) (by repeat' first | exact List.Mem.head _ | refine List.Mem.tail _ ?_)⟩ (fun hHeld => ?_)
                  clear hK K
                  generalize World.alloc w02 _ = w03 at S3 hHeld ⊢
                  refine wpAnyH_ready (rs := [4]) (by kernel_rfl) (by simp) ?_
                  refine AllReadyH.cons rfl (fun K hK => ?_) AllReadyH.nil
                  · go_simp
                    refine (divS S3 (by repeat' first | exact List.Mem.head _ | refine List.Mem.tail _ ?_) (by repeat' first | exact List.Mem.head _ | refine List.Mem.tail _ ?_) (by omega) (by omega) hgp.out).mono ?_
                    rintro e w04 ⟨Aq, nq, cq, Ar, nr, cr, rfl, S4⟩
                    rw [e3.out] at S4
                    refine hK.out _ _ ⟨S4.cell (b := x9) (by repeat' first | exact List.Mem.head _ | refine List.Mem.tail _ ?_), S4.cell (b := x11) (by repeat' first | exact List.Mem.head _ | refine List.Mem.tail _ ?_), S4.cell (b := b16) (by repeat' first | exact List.Mem.head _ | refine List.Mem.tail _ ?_)⟩ (fun hHeld => ?_)
                    clear hK K
                    refine wpAnyH_takeD 5 (v := ?_) rfl rfl (by kernel_rfl) (by kernel_rfl) (by kernel_rfl) (fun _ _ _ h => h) (Or.inl ⟨by rfl, ?_⟩) hHeld ?_
                    rotate_left
                    focus (intro w hSw; (try dsimp only at hSw); go_simp; try with_reducible rfl)
                    simp only [List.setIfInBounds_toArray, List.set_cons_zero, List.set_cons_succ]
                    refine wpAnyH_takeD 6 (v := ?_) rfl rfl (by kernel_rfl) (by kernel_rfl) (by kernel_rfl) (fun _ _ _ h => h) (Or.inl ⟨by rfl, ?_⟩) hHeld ?_
                    rotate_left
                    focus (intro w hSw; (try dsimp only at hSw); go_simp; try with_reducible rfl)
                    simp only [List.setIfInBounds_toArray, List.set_cons_zero, List.set_cons_succ]
                    refine wpAnyH_takeD 7 (v := ?_) rfl rfl (by kernel_rfl) (by kernel_rfl) (by kernel_rfl) (fun _ _ _ h => h) (Or.inl ⟨by rfl, ?_⟩) hHeld ?_
                    rotate_left
                    focus (intro w hSw; (try dsimp only at hSw); go_simp; try with_reducible rfl)
                    simp only [List.setIfInBounds_toArray, List.set_cons_zero, List.set_cons_succ]
                    refine wpAnyH_takeD 8 (v := ?_) rfl rfl (by kernel_rfl) (by kernel_rfl) (by kernel_rfl) (fun _ _ _ h => h) (Or.inl ⟨by rfl, ?_⟩) hHeld ?_
                    rotate_left
                    focus (intro w hSw; (try dsimp only at hSw); go_simp; try with_reducible rfl)
                    simp only [List.setIfInBounds_toArray, List.set_cons_zero, List.set_cons_succ]
                    have cy0 := S4.cell (b := w01.heap.size) (v := .slice none 0 0) (by repeat' first | exact List.Mem.head _ | refine List.Mem.tail _ ?_)
                    have fy0 := S4.frozen (b := w01.heap.size) (v := .slice none 0 0) (by repeat' first | exact List.Mem.head _ | refine List.Mem.tail _ ?_)
                    refine wpAnyH_ready (rs := [11]) (by kernel_rfl) (by simp) ?_
                    refine AllReadyH.cons rfl (fun K hK => ?_) AllReadyH.nil
                    go_simp
                    have T0 := S4.store1 (.slice Aq nq cq)
                    refine hK.out _ _ ⟨T0.cell (b := x9) (by repeat' first | exact List.Mem.head _ | refine List.Mem.tail _ ?_), T0.cell (b := x11) (by repeat' first | exact List.Mem.head _ | refine List.Mem.tail _ ?_), T0.cell (b := b16) (by repeat' first | exact List.Mem.head _ | refine List.Mem.tail _ ?_)⟩ (fun hHeld => ?_)
                    clear hK K cy0 fy0
                    generalize World.setCell w04 _ _ = v0 at T0 hHeld ⊢
                    have cy1 := T0.cell (b := w02.heap.size) (v := .slice none 0 0) (by repeat' first | exact List.Mem.head _ | refine List.Mem.tail _ ?_)
                    have fy1 := T0.frozen (b := w02.heap.size) (v := .slice none 0 0) (by repeat' first | exact List.Mem.head _ | refine List.Mem.tail _ ?_)
                    refine wpAnyH_ready (rs := [12]) (by kernel_rfl) (by simp) ?_
                    refine AllReadyH.cons rfl (fun K hK => ?_) AllReadyH.nil
                    go_simp
                    have T1 := T0.store0 (.slice Ar nr cr)
                    refine hK.out _ _ ⟨T1.cell (b := x9) (by repeat' first | exact List.Mem.head _ | refine List.Mem.tail _ ?_), T1.cell (b := x11) (by repeat' first | exact List.Mem.head _ | refine List.Mem.tail _ ?_), T1.cell (b := b16) (by repeat' first | exact List.Mem.head _ | refine List.Mem.tail _ ?_)⟩ (fun hHeld => ?_)
                    clear hK K cy1 fy1
                    generalize World.setCell v0 _ _ = v1 at T1 hHeld ⊢
                    refine wpAnyH_takeD 13 (v := ?_) rfl rfl (by kernel_rfl) (by kernel_rfl) (by kernel_rfl) (fun _ _ _ h => h) (Or.inl ⟨by rfl, ?_⟩) hHeld ?_
                    rotate_left
                    focus (intro w hSw; (try dsimp only at hSw); go_simp; try with_reducible rfl)
                    simp only [List.setIfInBounds_toArray, List.set_cons_zero, List.set_cons_succ]
                    refine wpAnyH_done (by kernel_rfl) ?_ _
                    go_wp2_with fail
                    go_meet
                    exact ⟨_, _, _, _, rfl, rfl, rfl, rfl, Lib.hid (T1.sub2 (by repeat' first | exact List.Sublist.slnil | refine List.Sublist.cons_cons _ ?_ | refine List.Sublist.cons _ ?_) (by repeat' first | exact List.Sublist.slnil | refine List.Sublist.cons_cons _ ?_ | refine List.Sublist.cons _ ?_))⟩
              refine AllReadyH.cons rfl (fun K hK => ?_) AllReadyH.nil
              · go_simp
                have S2 := S1.alloc (.slice none 0 0)
                refine hK.out _ _ ⟨S2.cell (b := x9) (by repeat' first | exact List.Mem.head _ | refine List.Mem.tail _ ?_), S2.cell (b := x11) (by repeat' first | exact List.Mem.head _ | refine List.Mem.tail _ ?_), S2.cell (b := b16) (by repeat' first | exact List.Mem.head _ | refine List.Mem.tail _ ?_)⟩ (fun hHeld => ?_)
                clear hK K
                generalize World.alloc w01 _ = w02 at S2 hHeld ⊢
                refine wpAnyH_ready (rs := [4,9]) (by kernel_rfl) (by simp) ?_
                refine AllReadyH.cons rfl (fun K hK => ?_) ?_
                · go_simp
                  refine (divS S2 (by repeat' first | exact List.Mem.head _ | refine List.Mem.tail _ ?_) (by repeat' first | exact List.Mem.head _ | refine List.Mem.tail _ ?_) (by omega) (by omega) hgp.out).mono ?_
                  rintro e w03 ⟨Aq, nq, cq, Ar, nr, cr, rfl, S3⟩
                  rw [e3.out] at S3
                  refine hK.out _ _ ⟨S3.cell (b := x9) (by repeat' first | exact List.Mem.head _ | refine List.Mem.tail _ ?_), S3.cell (b := x11) (by repeat' first | exact List.Mem.head _ | refine List.Mem.tail _ ?_), S3.cell (b := b16) (by repeat' first | exact List.Mem.head _ | refine List.Mem.tail _ ?_)⟩ (fun hHeld => ?_)
                  clear hK K
                  refine wpAnyH_takeD 5 (v := ?_) rfl rfl (by kernel_rfl) (by kernel_rfl) (by kernel_rfl) (fun _ _ _ h => h) (Or.inl ⟨by rfl, ?_⟩) hHeld ?_
                  rotate_left
                  focus (intro w hSw; (try dsimp only at hSw); go_simp; try with_reducible rfl)
                  simp only [List.setIfInBounds_toArray, List.set_cons_zero, List.set_cons_succ]
                  refine wpAnyH_takeD 6 (v := ?_) rfl rfl (by kernel_rfl) (by kernel_rfl) (by kernel_rfl) (fun _ _ _ h => h) (Or.inl ⟨by rfl, ?_⟩) hHeld ?_
                  rotate_left
                  focus (intro w hSw; (try dsimp only at hSw); go_simp; try with_reducible rfl)
                  simp only [List.setIfInBounds_toArray, List.set_cons_zero, List.set_cons_succ]
                  refine wpAnyH_takeD 7 (v := ?_) rfl rfl (by kernel_rfl) (by kernel_rfl) (by kernel_rfl) (fun _ _ _ h => h) (Or.inl ⟨by rfl, ?_⟩) hHeld ?_
                  rotate_left
                  focus (intro w hSw; (try dsimp only at hSw); go_simp; try with_reducible rfl)
                  simp only [List.setIfInBounds_toArray, List.set_cons_zero, List.set_cons_succ]
                  refine wpAnyH_takeD 8 (v := ?_) rfl rfl (by kernel_rfl) (by kernel_rfl) (by kernel_rfl) (fun _ _ _ h => h) (Or.inl ⟨by rfl, ?_⟩) hHeld ?_
                  rotate_left
                  focus (intro w hSw; (try dsimp only at hSw); go_simp; try with_reducible rfl)
                  simp only [List.setIfInBounds_toArray, List.set_cons_zero, List.set_cons_succ]
                  refine wpAnyH_ready (rs := [9]) (by kernel_rfl) (by simp) ?_
                  refine AllReadyH.cons rfl (fun K hK => ?_) AllReadyH.nil
                  · go_simp
                    have S4 := S3.alloc (.slice none 0 0)
                    refine hK.out _ _ ⟨S4.cell (b := x9) (by repeat' first | exact List.Mem.head _ | refine List.Mem.tail _ ?_), S4.cell (b := x11) (by repeat' first | exact List.Mem.head _ | refine List.Mem.tail _ ?_), S4.cell (b := b16) (by repeat' first | exact List.Mem.head _ | refine List.Mem.tail _ ?_)⟩ (fun hHeld => ?_)
                    clear hK K
                    generalize World.alloc w03 _ = w04 at S4 hHeld ⊢
                    have cy0 := S4.cell (b := w03.heap.size) (v := .slice none 0 0) (by repeat' first | exact List.Mem.head _ | refine List.Mem.tail _ ?_)
                    have fy0 := S4.frozen (b := w03.heap.size) (v := .slice none 0 0) (by repeat' first | exact List.Mem.head _ | refine List.Mem.tail _ ?_)
                    refine wpAnyH_ready (rs := [11]) (by kernel_rfl) (by simp) ?_
                    refine AllReadyH.cons rfl (fun K hK => ?_) AllReadyH.nil
                    go_simp
                    have T0 := S4.store0 (.slice Aq nq cq)
                    refine hK.out _ _ ⟨T0.cell (b := x9) (by repeat' first | exact List.Mem.head _ | refine List.Mem.tail _ ?_), T0.cell (b := x11) (by repeat' first | exact List.Mem.head _ | refine List.Mem.tail _ ?_), T0.cell (b := b16) (by repeat' first | exact List.Mem.head _ | refine List.Mem.tail _ ?_)⟩ (fun hHeld => ?_)
                    clear hK K cy0 fy0
                    generalize World.setCell w04 _ _ = v0 at T0 hHeld ⊢
                    have cy1 := T0.cell (b := w01.heap.size) (v := .slice none 0 0) (by repeat' first | exact List.Mem.head _ | refine List.Mem.tail _ ?_)
                    have fy1 := T0.frozen (b := w01.heap.size) (v := .slice none 0 0) (by repeat' first | exact List.Mem.head _ | refine List.Mem.tail _ ?_)
                    refine wpAnyH_ready (rs := [12]) (by kernel_rfl) (by simp) ?_
                    refine AllReadyH.cons rfl (fun K hK => ?_) AllReadyH.nil
                    go_simp
                    have T1 := T0.store1 (.slice Ar nr cr)
                    refine hK.out _ _ ⟨T1.cell (b := x9) (by repeat' first | exact List.Mem.head _ | refine List.Mem.tail _ ?_), T1.cell (b := x11) (by repeat' first | exact List.Mem.head _ | refine List.Mem.tail _ ?_), T1.cell (b := b16) (by repeat' first | exact List.Mem.head _ | refine List.Mem.tail _ ?_)⟩ (fun hHeld => ?_)
                    clear hK K cy1 fy1
                    generalize World.setCell v0 _ _ = v1 at T1 hHeld ⊢
                    refine wpAnyH_takeD 13 (v := ?_) rfl rfl (by kernel_rfl) (by kernel_rfl) (by kernel_rfl) (fun _ _ _ h => h) (Or.inl ⟨by rfl, ?_⟩) hHeld ?_
                    rotate_left
                    focus (intro w hSw; (try dsimp only at hSw); go_simp; try with_reducible rfl)
                    simp only [List.setIfInBounds_toArray, List.set_cons_zero, List.set_cons_succ]
                    refine wpAnyH_done (by kernel_rfl) ?_ _
                    go_wp2_with fail
                    go_meet
                    exact ⟨_, _, _, _, rfl, rfl, rfl, rfl, Lib.hid (T1.sub2 (by repeat' first | exact List.Sublist.slnil | refine List.Sublist.cons_cons _ ?_ | refine List.Sublist.cons _ ?_) (by repeat' first | exact List.Sublist.slnil | refine List.Sublist.cons_cons _ ?_ | refine List.Sublist.cons _ ?_))⟩
                refine AllReadyH.cons rfl (fun K hK => ?_) AllReadyH.nil
                · go_simp
                  have S3 := S2.alloc (.slice none 0 0)
                  refine hK.out _ _ ⟨S3.cell (b := x9) (by repeat' first | exact List.Mem.head _ | refine List.Mem.tail _ ?_), S3.cell (b := x11) (by repeat' first | exact List.Mem.head _ | refine List.Mem.tail _ ?_), S3.cell (b := b16) (by repeat' first | exact List.Mem.head _ | refine List.Mem.tail _ ?_)⟩ (fun hHeld => ?_)
                  clear hK K
                  generalize World.alloc w02 _ = w03 at S3 hHeld ⊢
                  refine wpAnyH_ready (rs := [4]) (by kernel_rfl) (by simp) ?_
                  refine AllReadyH.cons rfl (fun K hK => ?_) AllReadyH.nil
                  · go_simp
                    refine (divS S3 (by repeat' first | exact List.Mem.head _ | refine List.Mem.tail _ ?_) (by repeat' first | exact List.Mem.head _ | refine List.Mem.tail _ ?_) (by omega) (by omega) hgp.out).mono ?_
                    rintro e w04 ⟨Aq, nq, cq, Ar, nr, cr, rfl, S4⟩
                    rw [e3.out] at S4
                    refine hK.out _ _ ⟨S4.cell (b := x9) (by repeat' first | exact List.Mem.head _ | refine List.Mem.tail _ ?_), S4.cell (b := x11) (by repeat' first | exact List.Mem.head _ | refine List.Mem.tail _ ?_), S4.cell (b := b16) (by repeat' first | exact List.Mem.head _ | refine List.Mem.tail _ ?_)⟩ (fun hHeld => ?_)
                    clear hK K
                    refine wpAnyH_takeD 5 (v := ?_) rfl rfl (by kernel_rfl) (by kernel_rfl) (by kernel_rfl) (fun _ _ _ h => h) (Or.inl ⟨by rfl, ?_⟩) hHeld ?_
                    rotate_left
                    focus (intro w hSw; (try dsimp only at hSw); go_simp; try with_reducible rfl)
                    simp only [List.setIfInBounds_toArray, List.set_cons_zero, List.set_cons_succ]
                    refine wpAnyH_takeD 6 (v := ?_) rfl rfl (by kernel_rfl) (by kernel_rfl) (by kernel_rfl) (fun _ _ _ h => h) (Or.inl ⟨by rfl, ?_⟩) hHeld ?_
                    rotate_left
                    focus (intro w hSw; (try dsimp only at hSw); go_simp; try with_reducible rfl)
                    simp only [List.setIfInBounds_toArray, List.set_cons_zero, List.set_cons_succ]
                    refine wpAnyH_takeD 7 (v := ?_) rfl rfl (by kernel_rfl) (by kernel_rfl) (by kernel_rfl) (fun _ _ _ h => h) (Or.inl ⟨by rfl, ?_⟩) hHeld ?_
                    rotate_left
                    focus (intro w hSw; (try dsimp only at hSw); go_simp; try with_reducible rfl)
                    simp only [List.setIfInBounds_toArray, List.set_cons_zero, List.set_cons_succ]
                    refine wpAnyH_takeD 8 (v := ?_) rfl rfl (by kernel_rfl) (by kernel_rfl) (by kernel_rfl) (fun _ _ _ h => h) (Or.inl ⟨by rfl, ?_⟩) hHeld ?_
                    rotate_left
                    focus (intro w hSw; (try dsimp only at hSw); go_simp; try with_reducible rfl)
                    simp only [List.setIfInBounds_toArray, List.set_cons_zero, List.set_cons_succ]
                    have cy0 := S4.cell (b := w02.heap.size) (v := .slice none 0 0) (by repeat' first | exact List.Mem.head _ | refine List.Mem.tail _ ?_)
                    have fy0 := S4.frozen (b := w02.heap.size) (v := .slice none 0 0) (by repeat' first | exact List.Mem.head _ | refine List.Mem.tail _ ?_)
                    refine wpAnyH_ready (rs := [11]) (by kernel_rfl) (by simp) ?_
                    refine AllReadyH.cons rfl (fun K hK => ?_) AllReadyH.nil
                    go_simp
                    have T0 := S4.store0 (.slice Aq nq cq)
                    refine hK.out _ _ ⟨T0.cell (b := x9) (by repeat' first | exact List.Mem.head _ | refine List.Mem.tail _ ?_), T0.cell (b := x11) (by repeat' first | exact List.Mem.head _ | refine List.Mem.tail _ ?_), T0.cell (b := b16) (by repeat' first | exact List.Mem.head _ | refine List.Mem.tail _ ?_)⟩ (fun hHeld => ?_)
                    clear hK K cy0 fy0
                    generalize World.setCell w04 _ _ = v0 at T0 hHeld ⊢
                    have cy1 := T0.cell (b := w01.heap.size) (v := .slice none 0 0) (by repeat' first | exact List.Mem.head _ | refine List.Mem.tail _ ?_)
                    have fy1 := T0.frozen (b := w01.heap.size) (v := .slice none 0 0) (by repeat' first | exact List.Mem.head _ | refine List.Mem.tail _ ?_)
                    refine wpAnyH_ready (rs := [12]) (by kernel_rfl) (by simp) ?_
                    refine AllReadyH.cons rfl (fun K hK => ?_) AllReadyH.nil
                    go_simp
                    have T1 := T0.store1 (.slice Ar nr cr)
                    refine hK.out _ _ ⟨T1.cell (b := x9) (by repeat' first | exact List.Mem.head _ | refine List.Mem.tail _ ?_), T1.cell (b := x11) (by repeat' first | exact List.Mem.head _ | refine List.Mem.tail _ ?_), T1.cell (b := b16) (by repeat' first | exact List.Mem.head _ | refine List.Mem.tail _ ?_)⟩ (fun hHeld => ?_)
                    clear hK K cy1 fy1
                    generalize World.setCell v0 _ _ = v1 at T1 hHeld ⊢
                    refine wpAnyH_takeD 13 (v := ?_) rfl rfl (by kernel_rfl) (by kernel_rfl) (by kernel_rfl) (fun _ _ _ h => h) (Or.inl ⟨by rfl, ?_⟩) hHeld ?_
                    rotate_left
                    focus (intro w hSw; (try dsimp only at hSw); go_simp; try with_reducible rfl)
                    simp only [List.setIfInBounds_toArray, List.set_cons_zero, List.set_cons_succ]
                    refine wpAnyH_done (by kernel_rfl) ?_ _
                    go_wp2_with fail
                    go_meet
                    exact ⟨_, _, _, _, rfl, rfl, rfl, rfl, Lib.hid (T1.sub2 (by repeat' first | exact List.Sublist.slnil | refine List.Sublist.cons_cons _ ?_ | refine List.Sublist.cons _ ?_) (by repeat' first | exact List.Sublist.slnil | refine List.Sublist.cons_cons _ ?_ | refine List.Sublist.cons _ ?_))⟩
          refine AllReadyH.cons rfl (fun K hK => ?_) ?_
          · as_aux_lemma =>
              go_simp
              have S1 := S0.alloc (.slice none 0 0)
              refine hK.out _ _ ⟨S1.cell (b := x9) (by repeat' first | exact List.Mem.head _ | refine List.Mem.tail _ ?_), S1.cell (b := x11) (by repeat' first | exact List.Mem.head _ | refine List.Mem.tail _ ?_), S1.cell (b := b16) (by repeat' first | exact List.Mem.head _ | refine List.Mem.tail _ ?_)⟩ (fun hHeld => ?_)
              clear hK K
              generalize World.alloc w0 _ = w01 at S1 hHeld ⊢
              refine wpAnyH_ready (rs := [2,10]) (by kernel_rfl) (by simp) ?_
              refine AllReadyH.cons rfl (fun K hK => ?_) ?_
              · go_simp
                refine (mulS S1 (by repeat' first | exact List.Mem.head _ | refine List.Mem.tail _ ?_) (by repeat' first | exact List.Mem.head _ | refine List.Mem.tail _ ?_) (by omega) (by omega)).mono ?_
                rintro e w02 ⟨Am1, nm1, cm1, rfl, S2⟩
                refine hK.out _ _ ⟨S2.cell (b := x9) (by repeat' first | exact List.Mem.head _ | refine List.Mem.tail _ ?_), S2.cell (b := x11) (by repeat' first | exact List.Mem.head _ | refine List.Mem.tail _ ?_), S2.cell (b := b16) (by repeat' first | exact List.Mem.head _ | refine List.Mem.tail _ ?_)⟩ (fun hHeld => ?_)
                clear hK K
                refine wpAnyH_ready (rs := [4,10]) (by kernel_rfl) (by simp) ?_
                refine AllReadyH.cons rfl (fun K hK => ?_) ?_
                · go_simp
                  refine (divS S2 (by repeat' first | exact List.Mem.head _ | refine List.Mem.tail _ ?_) (by repeat' first | exact List.Mem.head _ | refine List.Mem.tail _ ?_) (by omega) (by omega) hgp.out).mono ?_
                  rintro e w03 ⟨Aq, nq, cq, Ar, nr, cr, rfl, S3⟩
                  rw [e3.out] at S3
                  refine hK.out _ _ ⟨S3.cell (b := x9) (by repeat' first | exact List.Mem.head _ | refine List.Mem.tail _ ?_), S3.cell (b := x11) (by repeat' first | exact List.Mem.head _ | refine List.Mem.tail _ ?_), S3.cell (b := b16) (by repeat' first | exact List.Mem.head _ | refine List.Mem.tail _ ?_)⟩ (fun hHeld => ?_)
                  clear hK K
                  refine wpAnyH_takeD 5 (v := ?_) rfl rfl (by kernel_rfl) (by kernel_rfl) (by kernel_rfl) (fun _ _ _ h => h) (Or.inl ⟨by rfl, ?_⟩) hHeld ?_
                  rotate_left
                  focus (intro w hSw; (try dsimp only at hSw); go_simp; try with_reducible rfl)
                  simp only [List.setIfInBounds_toArray, List.set_cons_zero, List.set_cons_succ]
                  refine wpAnyH_takeD 6 (v := ?_) rfl rfl (by kernel_rfl) (by kernel_rfl) (by kernel_rfl) (fun _ _ _ h => h) (Or.inl ⟨by rfl, ?_⟩) hHeld ?_
                  rotate_left
                  focus (intro w hSw; (try dsimp only at hSw); go_simp; try with_reducible rfl)
                  simp only [List.setIfInBounds_toArray, List.set_cons_zero, List.set_cons_succ]
                  refine wpAnyH_takeD 7 (v := ?_) rfl rfl (by kernel_rfl) (by kernel_rfl) (by kernel_rfl) (fun _ _ _ h => h) (Or.inl ⟨by rfl, ?_⟩) hHeld ?_
                  rotate_left
                  focus (intro w hSw; (try dsimp only at hSw); go_simp; try with_reducible rfl)
                  simp only [List.setIfInBounds_toArray, List.set_cons_zero, List.set_cons_succ]
                  refine wpAnyH_takeD 8 (v := ?_) rfl rfl (by kernel_rfl) (by kernel_rfl) (by kernel_rfl) (fun _ _ _ h => h) (Or.inl ⟨by rfl, ?_⟩) hHeld ?_
                  rotate_left
                  focus (intro w hSw; (try dsimp only at hSw); go_simp; try with_reducible rfl)
                  simp only [List.setIfInBounds_toArray, List.set_cons_zero, List.set_cons_succ]
                  refine wpAnyH_ready (rs := [10]) (by kernel_rfl) (by simp) ?_
                  refine AllReadyH.cons rfl (fun K hK => ?_) AllReadyH.nil
                  · go_simp
                    have S4 := S3.alloc (.slice none 0 0)
                    refine hK.out _ _ ⟨S4.cell (b := x9) (by repeat' first | exact List.Mem.head _ | refine List.Mem.tail _ ?_), S4.cell (b := x11) (by repeat' first | exact List.Mem.head _ | refine List.Mem.tail _ ?_), S4.cell (b := b16) (by repeat' first | exact List.Mem.head _ | refine List.Mem.tail _ ?_)⟩ (fun hHeld => ?_)
                    clear hK K
                    generalize World.alloc w03 _ = w04 at S4 hHeld ⊢
                    have cy0 := S4.cell (b := w0.heap.size) (v := .slice none 0 0) (by repeat' first | exact List.Mem.head _ | refine List.Mem.tail _ ?_)
                    have fy0 := S4.frozen (b := w0.heap.size) (v := .slice none 0 0) (by repeat' first | exact List.Mem.head _ | refine List.Mem.tail _ ?_)
                    refine wpAnyH_ready (rs := [11]) (by kernel_rfl) (by simp) ?_
                    refine AllReadyH.cons rfl (fun K hK => ?_) AllReadyH.nil
                    go_simp
                    have T0 := S4.store1 (.slice Aq nq cq)
                    refine hK.out _ _ ⟨T0.cell (b := x9) (by repeat' first | exact List.Mem.head _ | refine List.Mem.tail _ ?_), T0.cell (b := x11) (by repeat' first | exact List.Mem.head _ | refine List.Mem.tail _ ?_), T0.cell (b := b16) (by repeat' first | exact List.Mem.head _ | refine List.Mem.tail _ ?_)⟩ (fun hHeld => ?_)
                    clear hK K cy0 fy0
                    generalize World.setCell w04 _ _ = v0 at T0 hHeld ⊢
                    have cy1 := T0.cell (b := w03.heap.size) (v := .slice none 0 0) (by repeat' first | exact List.Mem.head _ | refine List.Mem.tail _ ?_)
                    have fy1 := T0.frozen (b := w03.heap.size) (v := .slice none 0 0) (by repeat' first | exact List.Mem.head _ | refine List.Mem.tail _ ?_)
                    refine wpAnyH_ready (rs := [12]) (by kernel_rfl) (by simp) ?_
                    refine AllReadyH.cons rfl (fun K hK => ?_) AllReadyH.nil
                    go_simp
                    have T1 := T0.store0 (.slice Ar nr cr)
                    refine hK.out _ _ ⟨T1.cell (b := x9) (by repeat' first | exact List.Mem.head _ | refine List.Mem.tail _ ?_), T1.cell (b := x11) (by repeat' first | exact List.Mem.head _ | refine List.Mem.tail _ ?_), T1.cell (b := b16) (by repeat' first | exact List.Mem.head _ | refine List.Mem.tail _ ?_)⟩ (fun hHeld => ?_)
                    clear hK K cy1 fy1
                    generalize World.setCell v0 _ _ = v1 at T1 hHeld ⊢
                    refine wpAnyH_takeD 13 (v := ?_) rfl rfl (by kernel_rfl) (by kernel_rfl) (by kernel_rfl) (fun _ _ _ h => h) (Or.inl ⟨by rfl, ?_⟩) hHeld ?_
                    rotate_left
                    focus (intro w hSw; (try dsimp only at hSw); go_simp; try with_reducible rfl)
                    simp only [List.setIfInBounds_toArray, List.set_cons_zero, List.set_cons_succ]
                    refine wpAnyH_done (by kernel_rfl) ?_ _
                    go_wp2_with fail
                    go_meet
                    exact ⟨_, _, _, _, rfl, rfl, rfl, rfl, Lib.hid (T1.sub2 (by repeat' first | exact List.Sublist.slnil | refine List.Sublist.cons_cons _ ?_ | refine List.Sublist.cons _ ?_) (by repeat' first | exact List.Sublist.slnil | refine List.Sublist.cons_cons _ ?_ | refine List.Sublist.cons _ ?_))⟩
                refine AllReadyH.cons rfl (fun K hK => ?_) AllReadyH.nil
                · go_simp
                  have S3 := S2.alloc (.slice none 0 0)
                  refine hK.out _ _ ⟨S3.cell (b := x9) (by repeat' first | exact List.Mem.head _ | refine List.Mem.tail _ ?_), S3.cell (b := x11) (by repeat' first | exact List.Mem.head _ | refine List.Mem.tail _ ?_), S3.cell (b := b16) (by repeat' first | exact List.Mem.head _ | refine List.Mem.tail _ ?_)⟩ (fun hHeld => ?_)
                  clear hK K
                  generalize World.alloc w02 _ = w03 at S3 hHeld ⊢
                  refine wpAnyH_ready (rs := [4]) (by kernel_rfl) (by simp) ?_
                  refine AllReadyH.cons rfl (fun K hK => ?_) AllReadyH.nil
                  · go_simp
                    refine (divS S3 (by repeat' first | exact List.Mem.head _ | refine List.Mem.tail _ ?_) (by repeat' first | exact List.Mem.head _ | refine List.Mem.tail _ ?_) (by omega) (by omega) hgp.out).mono ?_
                    rintro e w04 ⟨Aq, nq, cq, Ar, nr, cr, rfl, S4⟩
                    rw [e3.out] at S4
                    refine hK.out _ _ ⟨S4.cell (b := x9) (by repeat' first | exact List.Mem.head _ | refine List.Mem.tail _ ?_), S4.cell (b := x11) (by repeat' first | exact List.Mem.head _ | refine List.Mem.tail _ ?_), S4.cell (b := b16) (by repeat' first | exact List.Mem.head _ | refine List.Mem.tail _ ?_)⟩ (fun hHeld => ?_)
                    clear hK K
                    refine wpAnyH_takeD 5 (v := ?_) rfl rfl (by kernel_rfl) (by kernel_rfl) (by kernel_rfl) (fun _ _ _ h => h) (Or.inl ⟨by rfl, ?_⟩) hHeld ?_
                    rotate_left
                    focus (intro w hSw; (try dsimp only at hSw); go_simp; try with_reducible rfl)
                    simp only [List.setIfInBounds_toArray, List.set_cons_zero, List.set_cons_succ]
                    refine wpAnyH_takeD 6 (v := ?_) rfl rfl (by kernel_rfl) (by kernel_rfl) (by kernel_rfl) (fun _ _ _ h => h) (Or.inl ⟨by rfl, ?_⟩) hHeld ?_
                    rotate_left
                    focus (intro w hSw; (try dsimp only at hSw); go_simp; try with_reducible rfl)
                    simp only [List.setIfInBounds_toArray, List.set_cons_zero, List.set_cons_succ]
                    refine wpAnyH_takeD 7 (v := ?_) rfl rfl (by kernel_rfl) (by kernel_rfl) (by kernel_rfl) (fun _ _ _ h => h) (Or.inl ⟨by rfl, ?_⟩) hHeld ?_
                    rotate_left
                    focus (intro w hSw; (try dsimp only at hSw); go_simp; try with_reducible rfl)
                    simp only [List.setIfInBounds_toArray, List.set_cons_zero, List.set_cons_succ]
                    refine wpAnyH_takeD 8 (v := ?_) rfl rfl (by kernel_rfl) (by kernel_rfl) (by kernel_rfl) (fun _ _ _ h => h) (Or.inl ⟨by rfl, ?_⟩) hHeld ?_
                    rotate_left
                    focus (intro w hSw; (try dsimp only at hSw); go_simp; try with_reducible rfl)
                    simp only [List.setIfInBounds_toArray, List.set_cons_zero, List.set_cons_succ]
                    have cy0 := S4.cell (b := w0.heap.size) (v := .slice none 0 0) (by repeat' first | exact List.Mem.head _ | refine List.Mem.tail _ ?_)
                    have fy0 := S4.frozen (b := w0.heap.size) (v := .slice none 0 0) (by repeat' first | exact List.Mem.head _ | refine List.Mem.tail _ ?_)
                    refine wpAnyH_ready (rs := [11]) (by kernel_rfl) (by simp) ?_
                    refine AllReadyH.cons rfl (fun K hK => ?_) AllReadyH.nil
                    go_simp
                    have T0 := S4.store1 (.slice Aq nq cq)
                    refine hK.out _ _ ⟨T0.cell (b := x9) (by repeat' first | exact List.Mem.head _ | refine List.Mem.tail _ ?_), T0.cell (b := x11) (by repeat' first | exact List.Mem.head _ | refine List.Mem.tail _ ?_), T0.cell (b := b16) (by repeat' first | exact List.Mem.head _ | refine List.Mem.tail _ ?_)⟩ (fun hHeld => ?_)
                    clear hK K cy0 fy0
                    generalize World.setCell w04 _ _ = v0 at T0 hHeld ⊢
                    have cy1 := T0.cell (b := w02.heap.size) (v := .slice none 0 0) (by repeat' first | exact List.Mem.head _ | refine List.Mem.tail _ ?_)
                    have fy1 := T0.frozen (b := w02.heap.size) (v := .slice none 0 0) (by repeat' first | exact List.Mem.head _ | refine List.Mem.tail _ ?_)
                    refine wpAnyH_ready (rs := [12]) (by kernel_rfl) (by simp) ?_
                    refine AllReadyH.cons rfl (fun K hK => ?_) AllReadyH.nil
                    go_simp
                    have T1 := T0.store0 (.slice Ar nr cr)
                    refine hK.out _ _ ⟨T1.cell (b := x9) (by repeat' first | exact List.Mem.head _ | refine List.Mem.tail _ ?_), T1.cell (b := x11) (by repeat' first | exact List.Mem.head _ | refine List.Mem.tail _ ?_), T1.cell (b := b16) (by repeat' first | exact List.Mem.head _ | refine List.Mem.tail _ ?_)⟩ (fun hHeld => ?_)
                    clear hK K cy1 fy1
                    generalize World.setCell v0 _ _ = v1 at T1 hHeld ⊢
                    refine wpAnyH_takeD 13 (v := ?_) rfl rfl (by kernel_rfl) (by kernel_rfl) (by kernel_rfl) (fun _ _ _ h => h) (Or.inl ⟨by rfl, ?_⟩) hHeld ?_
                    rotate_left
                    focus (intro w hSw; (try dsimp only at hSw); go_simp; try with_reducible rfl)
                    simp only [List.setIfInBounds_toArray, List.set_cons_zero, List.set_cons_succ]
                    refine wpAnyH_done (by kernel_rfl) ?_ _
                    go_wp2_with fail
                    go_meet
                    exact ⟨_, _, _, _, rfl, rfl, rfl, rfl, Lib.hid (T1.sub2 (by repeat' first | exact List.Sublist.slnil | refine List.Sublist.cons_cons _ ?_ | refine List.Sublist.cons _ ?_) (by repeat' first | exact List.Sublist.slnil | refine List.Sublist.cons_cons _ ?_ | refine List.Sublist.cons _ ?_))⟩
              refine AllReadyH.cons rfl (fun K hK => ?_) AllReadyH.nil
              · go_simp
                have S2 := S1.alloc (.slice none 0 0)
                refine hK.out _ _ ⟨S2.cell (b := x9) (by repeat' first | exact List.Mem.head _ | refine List.Mem.tail _ ?_), S2.cell (b := x11) (by repeat' first | exact List.Mem.head _ | refine List.Mem.tail _ ?_), S2.cell (b := b16) (by repeat' first | exact List.Mem.head _ | refine List.Mem.tail _ ?_)⟩ (fun hHeld => ?_)
                clear hK K
                generalize World.alloc w01 _ = w02 at S2 hHeld ⊢
                refine wpAnyH_ready (rs := [2]) (by kernel_rfl) (by simp) ?_
                refine AllReadyH.cons rfl (fun K hK => ?_) AllReadyH.nil
                · go_simp
                  refine (mulS S2 (by repeat' first | exact List.Mem.head _ | refine List.Mem.tail _ ?_) (by repeat' first | exact List.Mem.head _ | refine List.Mem.tail _ ?_) (by omega) (by omega)).mono ?_
                  rintro e w03 ⟨Am1, nm1, cm1, rfl, S3⟩
                  refine hK.out _ _ ⟨S3.cell (b := x9) (by repeat' first | exact List.Mem.head _ | refine List.Mem.tail _ ?_), S3.cell (b := x11) (by repeat' first | exact List.Mem.head _ | refine List.Mem.tail _ ?_), S3.cell (b := b16) (by repeat' first | exact List.Mem.head _ | refine List.Mem.tail _ ?_)⟩ (fun hHeld => ?_)
                  clear hK K
                  refine wpAnyH_ready (rs := [4]) (by kernel_rfl) (by simp) ?_
                  refine AllReadyH.cons rfl (fun K hK => ?_) AllReadyH.nil
                  · go_simp
                    refine (divS S3 (by repeat' first | exact List.Mem.head _ | refine List.Mem.tail _ ?_) (by repeat' first | exact List.Mem.head _ | refine List.Mem.tail _ ?_) (by omega) (by omega) hgp.out).mono ?_
                    rintro e w04 ⟨Aq, nq, cq, Ar, nr, cr, rfl, S4⟩
                    rw [e3.out] at S4
                    refine hK.out _ _ ⟨S4.cell (b := x9) (by repeat' first | exact List.Mem.head _ | refine List.Mem.tail _ ?_), S4.cell (b := x11) (by repeat' first | exact List.Mem.head _ | refine List.Mem.tail _ ?_), S4.cell (b := b16) (by repeat' first | exact List.Mem.head _ | refine List.Mem.tail _ ?_)⟩ (fun hHeld => ?_)
                    clear hK K
                    refine wpAnyH_takeD 5 (v := ?_) rfl rfl (by kernel_rfl) (by kernel_rfl) (by kernel_rfl) (fun _ _ _ h => h) (Or.inl ⟨by rfl, ?_⟩) hHeld ?_
                    rotate_left
                    focus (intro w hSw; (try dsimp only at hSw); go_simp; try with_reducible rfl)
                    simp only [List.setIfInBounds_toArray, List.set_cons_zero, List.set_cons_succ]
                    refine wpAnyH_takeD 6 (v := ?_) rfl rfl (by kernel_rfl) (by kernel_rfl) (by kernel_rfl) (fun _ _ _ h => h) (Or.inl ⟨by rfl, ?_⟩) hHeld ?_
                    rotate_left
                    focus (intro w hSw; (try dsimp only at hSw); go_simp; try with_reducible rfl)
                    simp only [List.setIfInBounds_toArray, List.set_cons_zero, List.set_cons_succ]
                    refine wpAnyH_takeD 7 (v := ?_) rfl rfl (by kernel_rfl) (by kernel_rfl) (by kernel_rfl) (fun _ _ _ h => h) (Or.inl ⟨by rfl, ?_⟩) hHeld ?_
                    rotate_left
                    focus (intro w hSw; (try dsimp only at hSw); go_simp; try with_reducible rfl)
                    simp only [List.setIfInBounds_toArray, List.set_cons_zero, List.set_cons_succ]
                    refine wpAnyH_takeD 8 (v := ?_) rfl rfl (by kernel_rfl) (by kernel_rfl) (by kernel_rfl) (fun _ _ _ h => h) (Or.inl ⟨by rfl, ?_⟩) hHeld ?_
                    rotate_left
                    focus (intro w hSw; (try dsimp only at hSw); go_simp; try with_reducible rfl)
                    simp only [List.setIfInBounds_toArray, List.set_cons_zero, List.set_cons_succ]
                    have cy0 := S4.cell (b := w0.heap.size) (v := .slice none 0 0) (by repeat' first | exact List.Mem.head _ | refine List.Mem.tail _ ?_)
                    have fy0 := S4.frozen (b := w0.heap.size) (v := .slice none 0 0) (by repeat' first | exact List.Mem.head _ | refine List.Mem.tail _ ?_)
                    refine wpAnyH_ready (rs := [11]) (by kernel_rfl) (by simp) ?_
                    refine AllReadyH.cons rfl (fun K hK => ?_) AllReadyH.nil
                    go_simp
                    have T0 := S4.store1 (.slice Aq nq cq)
                    refine hK.out _ _ ⟨T0.cell (b := x9) (by repeat' first | exact List.Mem.head _ | refine List.Mem.tail _ ?_), T0.cell (b := x11) (by repeat' first | exact List.Mem.head _ | refine List.Mem.tail _ ?_), T0.cell (b := b16) (by repeat' first | exact List.Mem.head _ | refine List.Mem.tail _ ?_)⟩ (fun hHeld => ?_)
                    clear hK K cy0 fy0
                    generalize World.setCell w04 _ _ = v0 at T0 hHeld ⊢
                    have cy1 := T0.cell (b := w01.heap.size) (v := .slice none 0 0) (by repeat' first | exact List.Mem.head _ | refine List.Mem.tail _ ?_)
                    have fy1 := T0.frozen (b := w01.heap.size) (v := .slice none 0 0) (by repeat' first | exact List.Mem.head _ | refine List.Mem.tail _ ?_)
                    refine wpAnyH_ready (rs := [12]) (by kernel_rfl) (by simp) ?_
                    refine AllReadyH.cons rfl (fun K hK => ?_) AllReadyH.nil
                    go_simp
                    have T1 := T0.store0 (.slice Ar nr cr)
                    refine hK.out _ _ ⟨T1.cell (b := x9) (by repeat' first | exact List.Mem.head _ | refine List.Mem.tail _ ?_), T1.cell (b := x11) (by repeat' first | exact List.Mem.head _ | refine List.Mem.tail _ ?_), T1.cell (b := b16) (by repeat' first | exact List.Mem.head _ | refine List.Mem.tail _ ?_)⟩ (fun hHeld => ?_)
                    clear hK K cy1 fy1
                    generalize World.setCell v0 _ _ = v1 at T1 hHeld ⊢
                    refine wpAnyH_takeD 13 (v := ?_) rfl rfl (by kernel_rfl) (by kernel_rfl) (by kernel_rfl) (fun _ _ _ h => h) (Or.inl ⟨by rfl, ?_⟩) hHeld ?_
                    rotate_left
                    focus (intro w hSw; (try dsimp only at hSw); go_simp; try with_reducible rfl)
                    simp only [List.setIfInBounds_toArray, List.set_cons_zero, List.set_cons_succ]
                    refine wpAnyH_done (by kernel_rfl) ?_ _
                    go_wp2_with fail
                    go_meet
                    exact ⟨_, _, _, _, rfl, rfl, rfl, rfl, Lib.hid (T1.sub2 (by repeat' first | exact List.Sublist.slnil | refine List.Sublist.cons_cons _ ?_ | refine List.Sublist.cons _ ?_) (by repeat' first | exact List.Sublist.slnil | refine List.Sublist.cons_cons _ ?_ | refine List.Sublist.cons _ ?_))⟩
          refine AllReadyH.cons rfl (fun K hK => ?_) AllReadyH.nil
          · as_aux_lemma =>
              go_simp
              have S1 := S0.alloc (.slice none 0 0)
              refine hK.out _ _ ⟨S1.cell (b := x9) (by repeat' first | exact List.Mem.head _ | refine List.Mem.tail _ ?_), S1.cell (b := x11) (by repeat' first | exact List.Mem.head _ | refine List.Mem.tail _ ?_), S1.cell (b := b16) (by repeat' first | exact List.Mem.head _ | refine List.Mem.tail _ ?_)⟩ (fun hHeld => ?_)
              clear hK K
              generalize World.alloc w0 _ = w01 at S1 hHeld ⊢
              refine wpAnyH_ready (rs := [2,9]) (by kernel_rfl) (by simp) ?_
              refine AllReadyH.cons rfl (fun K hK => ?_) ?_
              · go_simp
                refine (mulS S1 (by repeat' first | exact List.Mem.head _ | refine List.Mem.tail _ ?_) (by repeat' first | exact List.Mem.head _ | refine List.Mem.tail _ ?_) (by omega) (by omega)).mono ?_
                rintro e w02 ⟨Am1, nm1, cm1, rfl, S2⟩
                refine hK.out _ _ ⟨S2.cell (b := x9) (by repeat' first | exact List.Mem.head _ | refine List.Mem.tail _ ?_), S2.cell (b := x11) (by repeat' first | exact List.Mem.head _ | refine List.Mem.tail _ ?_), S2.cell (b := b16) (by repeat' first | exact List.Mem.head _ | refine List.Mem.tail _ ?_)⟩ (fun hHeld => ?_)
                clear hK K
                refine wpAnyH_ready (rs := [4,9]) (by kernel_rfl) (by simp) ?_
                refine AllReadyH.cons rfl (fun K hK => ?_) ?_
                · go_simp
                  refine (divS S2 (by repeat' first | exact List.Mem.head _ | refine List.Mem.tail _ ?_) (by repeat' first | exact List.Mem.head _ | refine List.Mem.tail _ ?_) (by omega) (by omega) hgp.out).mono ?_
                  rintro e w03 ⟨Aq, nq, cq, Ar, nr, cr, rfl, S3⟩
                  rw [e3.out] at S3
                  refine hK.out _ _ ⟨S3.cell (b := x9) (by repeat' first | exact List.Mem.head _ | refine List.Mem.tail _ ?_), S3.cell (b := x11) (by repeat' first | exact List.Mem.head _ | refine List.Mem.tail _ ?_), S3.cell (b := b16) (by repeat' first | exact List.Mem.head _ | refine List.Mem.tail _ ?_)⟩ (fun hHeld => ?_)
                  clear hK K
                  refine wpAnyH_takeD 5 (v := ?_) rfl rfl (by kernel_rfl) (by kernel_rfl) (by kernel_rfl) (fun _ _ _ h => h) (Or.inl ⟨by rfl, ?_⟩) hHeld ?_
                  rotate_left
                  focus (intro w hSw; (try dsimp only at hSw); go_simp; try with_reducible rfl)
                  simp only [List.setIfInBounds_toArray, List.set_cons_zero, List.set_cons_succ]
                  refine wpAnyH_takeD 6 (v := ?_) rfl rfl (by kernel_rfl) (by kernel_rfl) (by kernel_rfl) (fun _ _ _ h => h) (Or.inl ⟨by rfl, ?_⟩) hHeld ?_
                  rotate_left
                  focus (intro w hSw; (try dsimp only at hSw); go_simp; try with_reducible rfl)
                  simp only [List.setIfInBounds_toArray, List.set_cons_zero, List.set_cons_succ]
                  refine wpAnyH_takeD 7 (v := ?_) rfl rfl (by kernel_rfl) (by kernel_rfl) (by kernel_rfl) (fun _ _ _ h => h) (Or.inl ⟨by rfl, ?_⟩) hHeld ?_
                  rotate_left
                  focus (intro w hSw; (try dsimp only at hSw); go_simp; try with_reducible rfl)
                  simp only [List.setIfInBounds_toArray, List.set_cons_zero, List.set_cons_succ]
                  refine wpAnyH_takeD 8 (v := ?_) rfl rfl (by kernel_rfl) (by kernel_rfl) (by kernel_rfl) (fun _ _ _ h => h) (Or.inl ⟨by rfl, ?_⟩) hHeld ?_
                  rotate_left
                  focus (intro w hSw; (try dsimp only at hSw); go_simp; try with_reducible rfl)
                  simp only [List.setIfInBounds_toArray, List.set_cons_zero, List.set_cons_succ]
                  refine wpAnyH_ready (rs := [9]) (by kernel_rfl) (by simp) ?_
                  refine AllReadyH.cons rfl (fun K hK => ?_) AllReadyH.nil
                  · go_simp
                    have S4 := S3.alloc (.slice none 0 0)
                    refine hK.out _ _ ⟨S4.cell (b := x9) (by repeat' first | exact List.Mem.head _ | refine List.Mem.tail _ ?_), S4.cell (b := x11) (by repeat' first | exact List.Mem.head _ | refine List.Mem.tail _ ?_), S4.cell (b := b16) (by repeat' first | exact List.Mem.head _ | refine List.Mem.tail _ ?_)⟩ (fun hHeld => ?_)
                    clear hK K
                    generalize World.alloc w03 _ = w04 at S4 hHeld ⊢
                    have cy0 := S4.cell (b := w03.heap.size) (v := .slice none 0 0) (by repeat' first | exact List.Mem.head _ | refine List.Mem.tail _ ?_)
                    have fy0 := S4.frozen (b := w03.heap.size) (v := .slice none 0 0) (by repeat' first | exact List.Mem.head _ | refine List.Mem.tail _ ?_)
                    refine wpAnyH_ready (rs := [11]) (by kernel_rfl) (by simp) ?_
                    refine AllReadyH.cons rfl (fun K hK => ?_) AllReadyH.nil
                    go_simp
                    have T0 := S4.store0 (.slice Aq nq cq)
                    refine hK.out _ _ ⟨T0.cell (b := x9) (by repeat' first | exact List.Mem.head _ | refine List.Mem.tail _ ?_), T0.cell (b := x11) (by repeat' first | exact List.Mem.head _ | refine List.Mem.tail _ ?_), T0.cell (b := b16) (by repeat' first | exact List.Mem.head _ | refine List.Mem.tail _ ?_)⟩ (fun hHeld => ?_)
                    clear hK K cy0 fy0
                    generalize World.setCell w04 _ _ = v0 at T0 hHeld ⊢
                    have cy1 := T0.cell (b := w0.heap.size) (v := .slice none 0 0) (by repeat' first | exact List.Mem.head _ | refine List.Mem.tail _ ?_)
                    have fy1 := T0.frozen (b := w0.heap.size) (v := .slice none 0 0) (by repeat' first | exact List.Mem.head _ | refine List.Mem.tail _ ?_)
                    refine wpAnyH_ready (rs := [12]) (by kernel_rfl) (by simp) ?_
                    refine AllReadyH.cons rfl (fun K hK => ?_) AllReadyH.nil
                    go_simp
                    have T1 := T0.store1 (.slice Ar nr cr)
                    refine hK.out _ _ ⟨T1.cell (b := x9) (by repeat' first | exact List.Mem.head _ | refine List.Mem.tail _ ?_), T1.cell (b := x11) (by repeat' first | exact List.Mem.head _ | refine List.Mem.tail _ ?_), T1.cell (b := b16) (by repeat' first | exact List.Mem.head _ | refine List.Mem.tail _ ?_)⟩ (fun hHeld => ?_)
                    clear hK K cy1 fy1
                    generalize World.setCell v0 _ _ = v1 at T1 hHeld ⊢
                    refine wpAnyH_takeD 13 (v := ?_) rfl rfl (by kernel_rfl) (by kernel_rfl) (by kernel_rfl) (fun _ _ _ h => h) (Or.inl ⟨by rfl, ?_⟩) hHeld ?_
                    rotate_left
                    focus (intro w hSw; (try dsimp only at hSw); go_simp; try with_reducible rfl)
                    simp only [List.setIfInBounds_toArray, List.set_cons_zero, List.set_cons_succ]
                    refine wpAnyH_done (by kernel_rfl) ?_ _
                    go_wp2_with fail
                    go_meet
                    exact ⟨_, _, _, _, rfl, rfl, rfl, rfl, Lib.hid (T1.sub2 (by repeat' first | exact List.Sublist.slnil | refine List.Sublist.cons_cons _ ?_ | refine List.Sublist.cons _ ?_) (by repeat' first | exact List.Sublist.slnil | refine List.Sublist.cons_cons _ ?_ | refine List.Sublist.cons _ ?_))⟩
                refine AllReadyH.cons rfl (fun K hK => ?_) AllReadyH.nil
                · go_simp
                  have S3 := S2.alloc (.slice none 0 0)
                  refine hK.out _ _ ⟨S3.cell (b := x9) (by repeat' first | exact List.Mem.head _ | refine List.Mem.tail _ ?_), S3.cell (b := x11) (by repeat' first | exact List.Mem.head _ | refine List.Mem.tail _ ?_), S3.cell (b := b16) (by repeat' first | exact List.Mem.head _ | refine List.Mem.tail _ ?_)⟩ (fun hHeld => ?_)
                  clear hK K
                  generalize World.alloc w02 _ = w03 at S3 hHeld ⊢
                  refine wpAnyH_ready (rs := [4]) (by kernel_rfl) (by simp) ?_
                  refine AllReadyH.cons rfl (fun K hK => ?_) AllReadyH.nil
                  · go_simp
                    refine (divS S3 (by repeat' first | exact List.Mem.head _ | refine List.Mem.tail _ ?_) (by repeat' first | exact List.Mem.head _ | refine List.Mem.tail _ ?_) (by omega) (by omega) hgp.out).mono ?_
                    rintro e w04 ⟨Aq, nq, cq, Ar, nr, cr, rfl, S4⟩
                    rw [e3.out] at S4
                    refine hK.out _ _ ⟨S4.cell (b := x9) (by repeat' first | exact List.Mem.head _ | refine List.Mem.tail _ ?_), S4.cell (b := x11) (by repeat' first | exact List.Mem.head _ | refine List.Mem.tail _ ?_), S4.cell (b := b16) (by repeat' first | exact List.Mem.head _ | refine List.Mem.tail _ ?_)⟩ (fun hHeld => ?_)
                    clear hK K
                    refine wpAnyH_takeD 5 (v := ?_) rfl rfl (by kernel_rfl) (by kernel_rfl) (by kernel_rfl) (fun _ _ _ h => h) (Or.inl ⟨by rfl, ?_⟩) hHeld ?_
                    rotate_left
                    focus (intro w hSw; (try dsimp only at hSw); go_simp; try with_reducible rfl)
                    simp only [List.setIfInBounds_toArray, List.set_cons_zero, List.set_cons_succ]
                    refine wpAnyH_takeD 6 (v := ?_) rfl rfl (by kernel_rfl) (by kernel_rfl) (by kernel_rfl) (fun _ _ _ h => h) (Or.inl ⟨by rfl, ?_⟩) hHeld ?_
                    rotate_left
                    focus (intro w hSw; (try dsimp only at hSw); go_simp; try with_reducible rfl)
                    simp only [List.setIfInBounds_toArray, List.set_cons_zero, List.set_cons_succ]
                    refine wpAnyH_takeD 7 (v := ?_) rfl rfl (by kernel_rfl) (by kernel_rfl) (by kernel_rfl) (fun _ _ _ h => h) (Or.inl ⟨by rfl, ?_⟩) hHeld ?_
                    rotate_left
                    focus (intro w hSw; (try dsimp only at hSw); go_simp; try with_reducible rfl)
                    simp only [List.setIfInBounds_toArray, List.set_cons_zero, List.set_cons_succ]
                    refine wpAnyH_takeD 8 (v := ?_) rfl rfl (by kernel_rfl) (by kernel_rfl) (by kernel_rfl) (fun _ _ _ h => h) (Or.inl ⟨by rfl, ?_⟩) hHeld ?_
                    rotate_left
                    focus (intro w hSw; (try dsimp only at hSw); go_simp; try with_reducible rfl)
                    simp only [List.setIfInBounds_toArray, List.set_cons_zero, List.set_cons_succ]
                    have cy0 := S4.cell (b := w02.heap.size) (v := .slice none 0 0) (by repeat' first | exact List.Mem.head _ | refine List.Mem.tail _ ?_)
                    have fy0 := S4.frozen (b := w02.heap.size) (v := .slice none 0 0) (by repeat' first | exact List.Mem.head _ | refine List.Mem.tail _ ?_)
                    refine wpAnyH_ready (rs := [11]) (by kernel_rfl) (by simp) ?_
                    refine AllReadyH.cons rfl (fun K hK => ?_) AllReadyH.nil
                    go_simp
                    have T0 := S4.store0 (.slice Aq nq cq)
                    refine hK.out _ _ ⟨T0.cell (b := x9) (by repeat' first | exact List.Mem.head _ | refine List.Mem.tail _ ?_), T0.cell (b := x11) (by repeat' first | exact List.Mem.head _ | refine List.Mem.tail _ ?_), T0.cell (b := b16) (by repeat' first | exact List.Mem.head _ | refine List.Mem.tail _ ?_)⟩ (fun hHeld => ?_)
                    clear hK K cy0 fy0
                    generalize World.setCell w04 _ _ = v0 at T0 hHeld ⊢
                    have cy1 := T0.cell (b := w0.heap.size) (v := .slice none 0 0) (by repeat' first | exact List.Mem.head _ | refine List.Mem.tail _ ?_)
                    have fy1 := T0.frozen (b := w0.heap.size) (v := .slice none 0 0) (by repeat' first | exact List.Mem.head _ | refine List.Mem.tail _ ?_)
                    refine wpAnyH_ready (rs := [12]) (by kernel_rfl) (by simp) ?_
                    refine AllReadyH.cons rfl (fun K hK => ?_) AllReadyH.nil
                    go_simp
                    have T1 := T0.store1 (.slice Ar nr cr)
                    refine hK.out _ _ ⟨T1.cell (b := x9) (by repeat' first | exact List.Mem.head _ | refine List.Mem.tail _ ?_), T1.cell (b := x11) (by repeat' first | exact List.Mem.head _ | refine List.Mem.tail _ ?_), T1.cell (b := b16) (by repeat' first | exact List.Mem.head _ | refine List.Mem.tail _ ?_)⟩ (fun hHeld => ?_)
                    clear hK K cy1 fy1
                    generalize World.setCell v0 _ _ = v1 at T1 hHeld ⊢
                    refine wpAnyH_takeD 13 (v := ?_) rfl rfl (by kernel_rfl) (by kernel_rfl) (by kernel_rfl) (fun _ _ _ h => h) (Or.inl ⟨by rfl, ?_⟩) hHeld ?_
                    rotate_left
                    focus (intro w hSw; (try dsimp only at hSw); go_simp; try with_reducible rfl)
                    simp only [List.setIfInBounds_toArray, List.set_cons_zero, List.set_cons_succ]
                    refine wpAnyH_done (by kernel_rfl) ?_ _
                    go_wp2_with fail
                    go_meet
                    exact ⟨_, _, _, _, rfl, rfl, rfl, rfl, Lib.hid (T1.sub2 (by repeat' first | exact List.Sublist.slnil | refine List.Sublist.cons_cons _ ?_ | refine List.Sublist.cons _ ?_) (by repeat' first | exact List.Sublist.slnil | refine List.Sublist.cons_cons _ ?_ | refine List.Sublist.cons _ ?_))⟩
              refine AllReadyH.cons rfl (fun K hK => ?_) AllReadyH.nil
              · go_simp
                have S2 := S1.alloc (.slice none 0 0)
                refine hK.out _ _ ⟨S2.cell (b := x9) (by repeat' first | exact List.Mem.head _ | refine List.Mem.tail _ ?_), S2.cell (b := x11) (by repeat' first | exact List.Mem.head _ | refine List.Mem.tail _ ?_), S2.cell (b := b16) (by repeat' first | exact List.Mem.head _ | refine List.Mem.tail _ ?_)⟩ (fun hHeld => ?_)
                clear hK K
                generalize World.alloc w01 _ = w02 at S2 hHeld ⊢
                refine wpAnyH_ready (rs := [2]) (by kernel_rfl) (by simp) ?_
                refine AllReadyH.cons rfl (fun K hK => ?_) AllReadyH.nil
                · go_simp
                  refine (mulS S2 (by repeat' first | exact List.Mem.head _ | refine List.Mem.tail _ ?_) (by repeat' first | exact List.Mem.head _ | refine List.Mem.tail _ ?_) (by omega) (by omega)).mono ?_
                  rintro e w03 ⟨Am1, nm1, cm1, rfl, S3⟩
                  refine hK.out _ _ ⟨S3.cell (b := x9) (by repeat' first | exact List.Mem.head _ | refine List.Mem.tail _ ?_), S3.cell (b := x11) (by repeat' first | exact List.Mem.head _ | refine List.Mem.tail _ ?_), S3.cell (b := b16) (by repeat' first | exact List.Mem.head _ | refine List.Mem.tail _ ?_)⟩ (fun hHeld => ?_)
                  clear hK K
                  refine wpAnyH_ready (rs := [4]) (by kernel_rfl) (by simp) ?_
                  refine AllReadyH.cons rfl (fun K hK => ?_) AllReadyH.nil
                  · go_simp
                    refine (divS S3 (by repeat' first | exact List.Mem.head _ | refine List.Mem.tail _ ?_) (by repeat' first | exact List.Mem.head _ | refine List.Mem.tail _ ?_) (by omega) (by omega) hgp.out).mono ?_
                    rintro e w04 ⟨Aq, nq, cq, Ar, nr, cr, rfl, S4⟩
                    rw [e3.out] at S4
                    refine hK.out _ _ ⟨S4.cell (b := x9) (by repeat' first | exact List.Mem.head _ | refine List.Mem.tail _ ?_), S4.cell (b := x11) (by repeat' first | exact List.Mem.head _ | refine List.Mem.tail _ ?_), S4.cell (b := b16) (by repeat' first | exact List.Mem.head _ | refine List.Mem.tail _ ?_)⟩ (fun hHeld => ?_)
                    clear hK K
                    refine wpAnyH_takeD 5 (v := ?_) rfl rfl (by kernel_rfl) (by kernel_rfl) (by kernel_rfl) (fun _ _ _ h => h) (Or.inl ⟨by rfl, ?_⟩) hHeld ?_
                    rotate_left
                    focus (intro w hSw; (try dsimp only at hSw); go_simp; try with_reducible rfl)
                    simp only [List.setIfInBounds_toArray, List.set_cons_zero, List.set_cons_succ]
                    refine wpAnyH_takeD 6 (v := ?_) rfl rfl (by kernel_rfl) (by kernel_rfl) (by kernel_rfl) (fun _ _ _ h => h) (Or.inl ⟨by rfl, ?_⟩) hHeld ?_
                    rotate_left
                    focus (intro w hSw; (try dsimp only at hSw); go_simp; try with_reducible rfl)
                    simp only [List.setIfInBounds_toArray, List.set_cons_zero, List.set_cons_succ]
                    refine wpAnyH_takeD 7 (v := ?_) rfl rfl (by kernel_rfl) (by kernel_rfl) (by kernel_rfl) (fun _ _ _ h => h) (Or.inl ⟨by rfl, ?_⟩) hHeld ?_
                    rotate_left
                    focus (intro w hSw; (try dsimp only at hSw); go_simp; try with_reducible rfl)
                    simp only [List.setIfInBounds_toArray, List.set_cons_zero, List.set_cons_succ]
                    refine wpAnyH_takeD 8 (v := ?_) rfl rfl (by kernel_rfl) (by kernel_rfl) (by kernel_rfl) (fun _ _ _ h => h) (Or.inl ⟨by rfl, ?_⟩) hHeld ?_
                    rotate_left
                    focus (intro w hSw; (try dsimp only at hSw); go_simp; try with_reducible rfl)
                    simp only [List.setIfInBounds_toArray, List.set_cons_zero, List.set_cons_succ]
                    have cy0 := S4.cell (b := w01.heap.size) (v := .slice none 0 0) (by repeat' first | exact List.Mem.head _ | refine List.Mem.tail _ ?_)
                    have fy0 := S4.frozen (b := w01.heap.size) (v := .slice none 0 0) (by repeat' first | exact List.Mem.head _ | refine List.Mem.tail _ ?_)
                    refine wpAnyH_ready (rs := [11]) (by kernel_rfl) (by simp) ?_
                    refine AllReadyH.cons rfl (fun K hK => ?_) AllReadyH.nil
                    go_simp
                    have T0 := S4.store0 (.slice Aq nq cq)
                    refine hK.out _ _ ⟨T0.cell (b := x9) (by repeat' first | exact List.Mem.head _ | refine List.Mem.tail _ ?_), T0.cell (b := x11) (by repeat' first | exact List.Mem.head _ | refine List.Mem.tail _ ?_), T0.cell (b := b16) (by repeat' first | exact List.Mem.head _ | refine List.Mem.tail _ ?_)⟩ (fun hHeld => ?_)
                    clear hK K cy0 fy0
                    generalize World.setCell w04 _ _ = v0 at T0 hHeld ⊢
                    have cy1 := T0.cell (b := w0.heap.size) (v := .slice none 0 0) (by repeat' first | exact List.Mem.head _ | refine List.Mem.tail _ ?_)
                    have fy1 := T0.frozen (b := w0.heap.size) (v := .slice none 0 0) (by repeat' first | exact List.Mem.head _ | refine List.Mem.tail _ ?_)
                    refine wpAnyH_ready (rs := [12]) (by kernel_rfl) (by simp) ?_
                    refine AllReadyH.cons rfl (fun K hK => ?_) AllReadyH.nil
                    go_simp
                    have T1 := T0.store1 (.slice Ar nr cr)
                    refine hK.out _ _ ⟨T1.cell (b := x9) (by repeat' first | exact List.Mem.head _ | refine List.Mem.tail _ ?_), T1.cell (b := x11) (by repeat' first | exact List.Mem.head _ | refine List.Mem.tail _ ?_), T1.cell (b := b16) (by repeat' first | exact List.Mem.head _ | refine List.Mem.tail _ ?_)⟩ (fun hHeld => ?_)
                    clear hK K cy1 fy1
                    generalize World.setCell v0 _ _ = v1 at T1 hHeld ⊢
                    refine wpAnyH_takeD 13 (v := ?_) rfl rfl (by kernel_rfl) (by kernel_rfl) (by kernel_rfl) (fun _ _ _ h => h) (Or.inl ⟨by rfl, ?_⟩) hHeld ?_
                    rotate_left
                    focus (intro w hSw; (try dsimp only at hSw); go_simp; try with_reducible rfl)
                    simp only [List.setIfInBounds_toArray, List.set_cons_zero, List.set_cons_succ]
                    refine wpAnyH_done (by kernel_rfl) ?_ _
                    go_wp2_with fail
                    go_meet
                    exact ⟨_, _, _, _, rfl, rfl, rfl, rfl, Lib.hid (T1.sub2 (by repeat' first | exact List.Sublist.slnil | refine List.Sublist.cons_cons _ ?_ | refine List.Sublist.cons _ ?_) (by repeat' first | exact List.Sublist.slnil | refine List.Sublist.cons_cons _ ?_ | refine List.Sublist.cons _ ?_))⟩
        case rest =>
          obtain ⟨b24, Au, nu, cu, rfl, rfl, rfl, rfl, HS'⟩ := hcut
          replace HS := HS'
          clear HS'
          have c18 := HS.out.cell (b := x17 + 1) (by repeat' first | exact List.Mem.head _ | refine List.Mem.tail _ ?_)
          go_wp2_with fail
          clear c18
          refine (zeroS_yes HS.out (by repeat' first | exact List.Mem.head _ | refine List.Mem.tail _ ?_) (by omega) rfl).mono ?_
          rintro e w20 ⟨rfl, S⟩
          replace HS := Lib.hid S
          have c21 := S.cell (b := b21) (by repeat' first | exact List.Mem.head _ | refine List.Mem.tail _ ?_)
          clear S
          go_wp2_with fail
          clear c21
          refine (zeroS_yes HS.out (by repeat' first | exact List.Mem.head _ | refine List.Mem.tail _ ?_) (by omega) rfl).mono ?_
          rintro e w21 ⟨rfl, S⟩
          replace HS := Lib.hid S
          have c24 := S.cell (b := b24) (by repeat' first | exact List.Mem.head _ | refine List.Mem.tail _ ?_)
          clear S
          go_wp2_with fail
          clear c24
          refine (zeroS_yes HS.out (by repeat' first | exact List.Mem.head _ | refine List.Mem.tail _ ?_) (by omega) rfl).mono ?_
          rintro e w22 ⟨rfl, S⟩
          replace HS := Lib.hid S
          clear S
          go_wp2_with fail
          go_ret
          exact ⟨rfl, HS.out.low⟩
end Go.Proofs.YtapblmbjbpkieaaDoor
