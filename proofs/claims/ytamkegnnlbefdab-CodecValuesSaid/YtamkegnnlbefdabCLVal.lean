/- The walk of the law CodecValues. -/
import Derived.Test.YtamkegnnlbefdabCoV
namespace Go.Proofs.Ytamkegnnlbefdab
open Go.RowKit

set_option maxRecDepth 100000 in
set_option maxHeartbeats 8000000 in
theorem lawVal_large {w : World} {A : Option Addr} {n c : Nat} {kind : Int} (hn : 40 < n) (hn2 : n ≤ 9223372036854775807) : Calls Try.prog 5 #[.slice A n c, .int .i64 kind] w fun e w' => e = .returned (.bool true) ∧ Below w.heap.size w w' := by
  have HA := Lib.hid (awake_any w)
  have g1 : (n : Int) > 40 := by omega
  go_enter Try.func5, Try.ntmps5
  go_wp2_with fail
  refine HA.out.mono ?_
  rintro e w1 ⟨rfl, hb⟩
  have HB := Lib.hid hb
  clear hb HA
  go_wp2_with fail
  go_ret
  exact ⟨rfl, HB.out⟩
set_option maxRecDepth 100000 in
set_option maxHeartbeats 8000000 in
theorem lawVal_small {w : World} {A : Option Addr} {n c : Nat} {kind : Int} {rs : List Rc} (h : Rcs w (.slice A n c) rs) (hz : ∀ i (hi : i < rs.length), rs[i].2.length ≤ 140737488351232) (hn : n ≤ 40) : Calls Try.prog 5 #[.slice A n c, .int .i64 kind] w fun e w' => e = .returned (.bool true) ∧ Below w.heap.size w w' := by
  have HA := Lib.hid (awake_any w)
  have H := Lib.hid h
  have HE := Lib.hid h.len.1
  have HOw := Lib.hid (fun W (hw : Below w.heap.size w W) => own_any (h.below hw) (by omega))
  have HV := Lib.hid (fun W (A2 : Option Addr) (c2 : Nat) (hr : Rcs W (.slice A2 n c2) rs) => values_any (kind := kind) hr (by omega) hz)
  have g1 : ¬ ((n : Int) > 40) := by omega
  clear h hz
  go_enter Try.func5, Try.ntmps5
  go_wp2_with fail
  refine HA.out.mono ?_
  rintro e w1 ⟨rfl, hb⟩
  have HB := Lib.hid hb
  clear hb HA
  go_wp2_with fail
  refine (HOw.out _ HB.out).mono ?_
  rintro e w2 ⟨A2, c2, rfl, hR2, hb2⟩
  have HB2 := Lib.hid (HB.out.trans (hb2.mono HB.out.size))
  have HR2 := Lib.hid hR2
  clear hR2 hb2 HOw
  go_wp2_with fail
  refine (HV.out _ _ _ HR2.out).mono ?_
  rintro e w3 ⟨A3, n3, c3, rfl, hV3, hb3⟩
  have HB3 := Lib.hid (HB2.out.trans (hb3.mono HB2.out.size))
  have HV3 := Lib.hid hV3
  have HN3 := Lib.hid hV3.len.1
  have hn3 : n3 ≤ 9223372036854775807 := by have := hV3.len; omega
  clear hV3 hb3 HV HR2
  go_wp2_with fail
  go_loopw [6, 7] (fun x i wr => ∃ k N : Nat, i = .int .i64 (k : Int) ∧ x = .int .i64 (N : Int) ∧ k ≤ n ∧ N ≤ k ∧ Hid (N = (valS kind (rs.take k)).length) ∧ Hid (Below w3.heap.size w3 wr)) (fun _ i _ => n - (intOf i).toNat)
  case atStart => exact ⟨0, 0, rfl, rfl, Nat.zero_le _, Nat.zero_le _, rfl, Below.refl _ _⟩
  case round =>
    obtain ⟨wq, rfl⟩ : ∃ x, x = wr := ⟨_, rfl⟩
    obtain ⟨k, N, rfl, rfl, hk, hNk, HN, HS⟩ := hrel
    by_cases hlt : k < n
    · have hlt' : (k : Int) < (n : Int) := by omega
      have hkr : k < rs.length := by rw [← HE.out]; exact hlt
      have hst := valS_take (kind := kind) hkr
      have hbw := HB3.out.trans (HS.out.mono HB3.out.size)
      by_cases hkind : rs[k].1 = kind
      · obtain ⟨hv1, hv2⟩ := valS_at hkr hkind
        have hv1' : N < (valS kind rs).length := by rw [HN.out]; exact hv1
        have hNn : N < n3 := by rw [HN3.out]; exact hv1'
        have hdc : decide ((n3 : Int) ≤ (N : Int)) = false := by simp; omega
        have hNn' : (N : Int) < (n3 : Int) := by omega
        obtain ⟨b, off, A1, n1, c1, rfl, hb, q0, q1, hy⟩ := (H.out.below hbw.drew).at_ hkr
        obtain ⟨b2, off2, A4, n4, c4, rfl, hb2, q2, hy2⟩ := (HV3.out.below HS.out.drew).at_ (i := N) hv1'
        have q0' := q0
        rw [hkind] at q0
        have hval : (valS kind rs)[N]'hv1' = rs[k].2 := by rw [← hv2]; congr 1
        rw [hval] at hy2
        have k1 := hy.conv
        have k2 := hy2.conv
        generalize (⟨rs[k].2.toArray⟩ : ByteArray) = s at k1 k2
        rw [if_pos hkind] at hst
        have HT := Lib.hid (show N + 1 = (valS kind (rs.take (k + 1))).length by rw [hst, List.length_append, ← HN.out]; rfl)
        have HQ := Lib.hid (⟨q1, q2, k1, k2⟩ : _ ∧ _ ∧ _ ∧ _)
        have q0w : wq.cell? ⟨b, off + k * 2, none⟩ = some (.int .i64 kind) := q0
        clear q0 q0' q1 q2 k1 k2 hy hy2 hb hb2 hval hst hv2 hv1 hv1' hkind hbw
        go_wp2_with fail
        refine wp_region_held_drew (S := fun W' => W'.cell? ⟨b, off + k * 2 + 1, none⟩ = some (.slice A1 n1 c1) ∧ W'.cell? ⟨b2, off2 + N, none⟩ = some (.slice A4 n4 c4) ∧ (convert 27 9 (.slice A1 n1 c1)).run Try.prog W' = .ok (.string s) W' ∧ (convert 27 9 (.slice A4 n4 c4)).run Try.prog W' = .ok (.string s) W') (by kernel_rfl) HQ.out (fun hHeld => ?_)
        replace HS := Lib.hid HS.out.drew
        clear q0w HQ
        generalize wq.drew = w5 at HS hHeld ⊢
        refine wpAnyH_takeD 0 (v := ?_) rfl rfl (by kernel_rfl) (by kernel_rfl) (by kernel_rfl) (fun _ _ _ h => h) (Or.inl ⟨by rfl, ?_⟩) hHeld ?_
        rotate_left
        focus (intro w hSw; (try dsimp only at hSw); go_simp; try with_reducible rfl)
        try simp only [List.setIfInBounds_toArray, List.set_cons_zero, List.set_cons_succ]
        refine wpAnyH_takeD 1 (v := ?_) rfl rfl (by kernel_rfl) (by kernel_rfl) (by kernel_rfl) (fun _ _ _ h => h) (Or.inl ⟨by rfl, ?_⟩) hHeld ?_
        rotate_left
        focus (intro w hSw; (try dsimp only at hSw); go_simp; try with_reducible rfl)
        try simp only [List.setIfInBounds_toArray, List.set_cons_zero, List.set_cons_succ]
        refine wpAnyH_takeD 2 (v := ?_) rfl rfl (by kernel_rfl) (by kernel_rfl) (by kernel_rfl) (fun _ _ _ h => h) (Or.inl ⟨by rfl, ?_⟩) hHeld ?_
        rotate_left
        focus (intro w hSw; (try dsimp only at hSw); go_simp; try with_reducible rfl)
        try simp only [List.setIfInBounds_toArray, List.set_cons_zero, List.set_cons_succ]
        refine wpAnyH_takeD 3 (v := .bool false) rfl rfl (by kernel_rfl) (by kernel_rfl) (by kernel_rfl) (fun _ _ _ h => h) (Or.inl ⟨by rfl, ?_⟩) hHeld ?_
        · intro w hSw
          go_simp
        simp only [List.setIfInBounds_toArray, List.set_cons_zero, List.set_cons_succ]
        refine wpAnyH_takeD 4 (v := ?_) rfl rfl (by kernel_rfl) (by kernel_rfl) (by kernel_rfl) (fun _ _ _ h => h) (Or.inl ⟨by rfl, ?_⟩) hHeld ?_
        rotate_left
        focus (intro w hSw; (try dsimp only at hSw); go_simp; try with_reducible rfl)
        try simp only [List.setIfInBounds_toArray, List.set_cons_zero, List.set_cons_succ]
        refine wpAnyH_takeD 5 (v := ?_) rfl rfl (by kernel_rfl) (by kernel_rfl) (by kernel_rfl) (fun _ _ _ h => h) (Or.inl ⟨by rfl, ?_⟩) hHeld ?_
        rotate_left
        focus (intro w hSw; (try dsimp only at hSw); go_simp; try with_reducible rfl)
        try simp only [List.setIfInBounds_toArray, List.set_cons_zero, List.set_cons_succ]
        refine wpAnyH_takeD 6 (v := ?_) rfl rfl (by kernel_rfl) (by kernel_rfl) (by kernel_rfl) (fun _ _ _ h => h) (Or.inl ⟨by rfl, ?_⟩) hHeld ?_
        rotate_left
        focus (intro w hSw; (try dsimp only at hSw); go_simp; try with_reducible rfl)
        try simp only [List.setIfInBounds_toArray, List.set_cons_zero, List.set_cons_succ]
        refine wpAnyH_takeD 7 (v := ?_) rfl rfl (by kernel_rfl) (by kernel_rfl) (by kernel_rfl) (fun _ _ _ h => h) (Or.inl ⟨by rfl, ?_⟩) hHeld ?_
        rotate_left
        focus (intro w hSw; (try dsimp only at hSw); go_simp; try with_reducible rfl)
        try simp only [List.setIfInBounds_toArray, List.set_cons_zero, List.set_cons_succ]
        refine wpAnyH_takeD 8 (v := ?_) rfl rfl (by kernel_rfl) (by kernel_rfl) (by kernel_rfl) (fun _ _ _ h => h) (Or.inl ⟨by rfl, ?_⟩) hHeld ?_
        rotate_left
        focus (intro w hSw; (try dsimp only at hSw); go_simp; try with_reducible rfl)
        try simp only [List.setIfInBounds_toArray, List.set_cons_zero, List.set_cons_succ]
        refine wpAnyH_takeD 9 (v := ?_) rfl rfl (by kernel_rfl) (by kernel_rfl) (by kernel_rfl) (fun _ _ _ h => h) (Or.inl ⟨by rfl, ?_⟩) hHeld ?_
        rotate_left
        focus (intro w hSw; (try dsimp only at hSw); go_simp; try with_reducible rfl)
        try simp only [List.setIfInBounds_toArray, List.set_cons_zero, List.set_cons_succ]
        refine wpAnyH_takeD 10 (v := ?_) rfl rfl (by kernel_rfl) (by kernel_rfl) (by kernel_rfl) (fun _ _ _ h => h) (Or.inl ⟨by rfl, ?_⟩) hHeld ?_
        rotate_left
        focus (intro w hSw; (try dsimp only at hSw); go_simp; try with_reducible rfl)
        try simp only [List.setIfInBounds_toArray, List.set_cons_zero, List.set_cons_succ]
        refine wpAnyH_takeD 11 (v := ?_) rfl rfl (by kernel_rfl) (by kernel_rfl) (by kernel_rfl) (fun _ _ _ h => h) (Or.inl ⟨by rfl, ?_⟩) hHeld ?_
        rotate_left
        focus (intro w hSw; (try dsimp only at hSw); go_simp; try with_reducible rfl)
        try simp only [List.setIfInBounds_toArray, List.set_cons_zero, List.set_cons_succ]
        refine wpAnyH_takeD 12 (v := ?_) rfl rfl (by kernel_rfl) (by kernel_rfl) (by kernel_rfl) (fun _ _ _ h => h) (Or.inl ⟨by rfl, ?_⟩) hHeld ?_
        rotate_left
        focus (intro w hSw; (try dsimp only at hSw); go_simp; try with_reducible rfl)
        try simp only [List.setIfInBounds_toArray, List.set_cons_zero, List.set_cons_succ]
        refine wpAnyH_takeD 13 (v := ?_) rfl rfl (by kernel_rfl) (by kernel_rfl) (by kernel_rfl) (fun _ _ _ h => h) (Or.inl ⟨by rfl, ?_⟩) hHeld ?_
        rotate_left
        focus (intro w hSw; (try dsimp only at hSw); go_simp; try with_reducible rfl)
        try simp only [List.setIfInBounds_toArray, List.set_cons_zero, List.set_cons_succ]
        refine wpAnyH_takeD 14 (v := ?_) rfl rfl (by kernel_rfl) (by kernel_rfl) (by kernel_rfl) (fun _ _ _ h => h) (Or.inl ⟨by rfl, ?_⟩) hHeld ?_
        rotate_left
        focus (intro w hSw; (try dsimp only at hSw); go_simp; try with_reducible rfl)
        try simp only [List.setIfInBounds_toArray, List.set_cons_zero, List.set_cons_succ]
        refine wpAnyH_takeD 15 (v := ?_) rfl rfl (by kernel_rfl) (by kernel_rfl) (by kernel_rfl) (fun _ _ _ h => h) (Or.inl ⟨by rfl, ?_⟩) hHeld ?_
        rotate_left
        focus (intro w hSw; (try dsimp only at hSw); go_simp; try with_reducible rfl)
        try simp only [List.setIfInBounds_toArray, List.set_cons_zero, List.set_cons_succ]
        refine wpAnyH_takeD 16 (v := ?_) rfl rfl (by kernel_rfl) (by kernel_rfl) (by kernel_rfl) (fun _ _ _ h => h) (Or.inl ⟨by rfl, ?_⟩) hHeld ?_
        rotate_left
        focus (intro w hSw; (try dsimp only at hSw); go_simp; try with_reducible rfl)
        try simp only [List.setIfInBounds_toArray, List.set_cons_zero, List.set_cons_succ]
        refine wpAnyH_takeD 17 (v := ?_) rfl rfl (by kernel_rfl) (by kernel_rfl) (by kernel_rfl) (fun _ _ _ h => h) (Or.inl ⟨by rfl, ?_⟩) hHeld ?_
        rotate_left
        focus (intro w hSw; (try dsimp only at hSw); go_simp; try with_reducible rfl)
        try simp only [List.setIfInBounds_toArray, List.set_cons_zero, List.set_cons_succ]
        refine wpAnyH_done (by kernel_rfl) ?_ _
        clear hHeld
        go_wp2_with fail
        go_roundw
        case rel => exact ⟨k + 1, N + 1, by go_num, by go_num, by omega, by omega, HT, HS⟩
        case measure => simp [intOf]; omega
      · obtain ⟨b, off, A1, n1, c1, rfl, hb, q0, q1, hy⟩ := (H.out.below hbw).at_ hkr
        rw [if_neg hkind, List.append_nil] at hst
        have HT := Lib.hid (show N = (valS kind (rs.take (k + 1))).length by rw [hst]; exact HN.out)
        obtain ⟨t, ht⟩ : ∃ t, rs[k].1 = t := ⟨_, rfl⟩
        rw [ht] at q0 hkind
        have hkb : (t != kind) = true := by simpa using hkind
        clear hst hy hb hbw ht q1
        go_wp2_with fail
        go_roundw
        case rel => exact ⟨k + 1, N, by go_num, rfl, by omega, by omega, HT, HS⟩
        case measure => simp [intOf]; omega
    · obtain rfl : k = n := by omega
      have HF := Lib.hid (show n3 = N by rw [HN3.out, HN.out, HE.out, List.take_length])
      have HBf := Lib.hid (HB3.out.trans (HS.out.mono HB3.out.size))
      obtain rfl := HF.out
      go_wp2_with fail
      go_ret
      exact ⟨rfl, HBf.out⟩
/-- The law. -/
theorem lawVal {w : World} {A : Option Addr} {n c : Nat} {kind : Int} {rs : List Rc} (h : Rcs w (.slice A n c) rs) (hz : ∀ i (hi : i < rs.length), rs[i].2.length ≤ 140737488351232) : Calls Try.prog 5 #[.slice A n c, .int .i64 kind] w fun e w' => e = .returned (.bool true) ∧ Below w.heap.size w w' := by
  by_cases hn : n ≤ 40
  · exact lawVal_small h hz hn
  · exact lawVal_large (by omega) (by have := h.len; omega)
end Go.Proofs.Ytamkegnnlbefdab
