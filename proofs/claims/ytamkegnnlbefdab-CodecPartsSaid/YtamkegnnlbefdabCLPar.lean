/- The walk of the law CodecParts. -/
import Derived.Test.YtamkegnnlbefdabCLEnc
import Derived.Test.YtamkegnnlbefdabCLDec
import Derived.Test.YtamkegnnlbefdabCoP
namespace Go.Proofs.Ytamkegnnlbefdab
open Go.RowKit

set_option maxRecDepth 100000 in
set_option maxHeartbeats 16000000 in
theorem lawPar_large {w : World} {A B : Option Addr} {n c m d x : Nat} (hn : 20 < n ∨ 20 < m) (hn2 : n ≤ 9223372036854775807) (hm2 : m ≤ 9223372036854775807) : Calls Try.prog 9 #[.slice A n c, .slice B m d, .int .u16 (x : Int)] w fun e w' => e = .returned (.bool true) ∧ Below w.heap.size w w' := by
  have HA := Lib.hid (awake_any w)
  by_cases h1 : 20 < n
  · have g1 : (n : Int) > 20 := by omega
    clear hn h1
    go_enter Try.func9, Try.ntmps9
    go_wp2_with fail
    refine HA.out.mono ?_
    rintro e w1 ⟨rfl, hb⟩
    have HB := Lib.hid hb
    clear hb HA
    go_wp2_with fail
    go_ret
    exact ⟨rfl, HB.out⟩
  · have g1 : ¬ ((n : Int) > 20) := by omega
    have g2 : (m : Int) > 20 := by omega
    clear hn h1
    go_enter Try.func9, Try.ntmps9
    go_wp2_with fail
    refine HA.out.mono ?_
    rintro e w1 ⟨rfl, hb⟩
    have HB := Lib.hid hb
    clear hb HA
    go_wp2_with fail
    go_ret
    exact ⟨rfl, HB.out⟩
set_option maxRecDepth 100000 in
set_option maxHeartbeats 16000000 in
theorem lawPar_heavy {w : World} {A B : Option Addr} {n c m d x : Nat} {l1 l2 : List Rc} (h1 : Rcs w (.slice A n c) l1) (h2 : Rcs w (.slice B m d) l2) (hn : n ≤ 20) (hm : m ≤ 20) (hs1 : bsz l1 ≤ 3000000000000000) (hs2 : bsz l2 ≤ 3000000000000000) (hb : 2000 < bsz l1 + bsz l2) : Calls Try.prog 9 #[.slice A n c, .slice B m d, .int .u16 (x : Int)] w fun e w' => e = .returned (.bool true) ∧ Below w.heap.size w w' := by
  have HA := Lib.hid (awake_any w)
  have HZ1 := Lib.hid (fun W (hw : Below w.heap.size w W) => size_any (h1.below hw) (by omega))
  have HZ2 := Lib.hid (fun W (hw : Below w.heap.size w W) => size_any (h2.below hw) (by omega))
  have g1 : ¬ ((n : Int) > 20) := by omega
  have g2 : ¬ ((m : Int) > 20) := by omega
  clear h1 h2
  generalize bsz l1 = z1 at HZ1 hs1 hb
  generalize bsz l2 = z2 at HZ2 hs2 hb
  have g3 : (z1 : Int) + (z2 : Int) > 2000 := by omega
  have g4 : 2000 < z1 + z2 := hb
  go_enter Try.func9, Try.ntmps9
  go_wp2_with fail
  refine HA.out.mono ?_
  rintro e w1 ⟨rfl, hb⟩
  have HB := Lib.hid hb
  clear hb HA
  go_wp2_with fail
  refine (HZ1.out _ HB.out).mono ?_
  rintro e w2 ⟨rfl, rfl⟩
  clear HZ1
  go_wp2_with fail
  refine (HZ2.out _ HB.out).mono ?_
  rintro e w2 ⟨rfl, rfl⟩
  clear HZ2
  go_wp2_with fail
  go_ret
  exact ⟨rfl, HB.out⟩
/-- The place of the cut, by the lists. -/
theorem par_end {l : List Rc} {k K : Nat} (hk : k ≤ l.length) (hK : K ≤ (body l).length) (hlt : ∀ j, j < k → (body (l.take j)).length < K) (hex : ¬ (k < l.length ∧ (body (l.take k)).length < K)) (ho : ∀ r ∈ l, errR r = 0) :
    ((body (l.take k)).length = K ∧ decS ((body l).take K) = some (l.take k)) ∨ ((body (l.take k)).length ≠ K ∧ decS ((body l).take K) = none) := by
  by_cases he : (body (l.take k)).length = K
  · exact .inl ⟨he, by rw [body_take he]; exact decS_enc fun r hr => ho r (List.mem_of_mem_take hr)⟩
  · refine .inr ⟨he, ?_⟩
    have hgt : K < (body (l.take k)).length := by
      rcases Nat.lt_or_ge k l.length with h1 | h1
      · have : ¬ (body (l.take k)).length < K := fun h => hex ⟨h1, h⟩
        omega
      · rw [List.take_of_length_le h1] at he ⊢
        omega
    cases k with
    | zero => simp [body_nil] at hgt
    | succ k => exact decS_cut ho (by omega) (hlt k (by omega)) hgt
theorem body_step {l : List Rc} {k : Nat} (h : k < l.length) : (body (l.take (k + 1))).length = (body (l.take k)).length + 3 + l[k].2.length := by
  rw [take_snocR l k h, body_snoc, List.length_append, one_len]
  omega
set_option maxRecDepth 100000 in
set_option maxHeartbeats 16000000 in
theorem lawPar_small {w : World} {A B : Option Addr} {n c m d x : Nat} {l1 l2 : List Rc} (h1 : Rcs w (.slice A n c) l1) (h2 : Rcs w (.slice B m d) l2) (hn : n ≤ 20) (hm : m ≤ 20) (hs1 : bsz l1 ≤ 3000000000000000) (hs2 : bsz l2 ≤ 3000000000000000) (hb : bsz l1 + bsz l2 ≤ 2000) (hx : x < 65536) : Calls Try.prog 9 #[.slice A n c, .slice B m d, .int .u16 (x : Int)] w fun e w' => e = .returned (.bool true) ∧ Below w.heap.size w w' := by
  have HA := Lib.hid (awake_any w)
  have HZ1 := Lib.hid (fun W (hw : Below w.heap.size w W) => size_any (h1.below hw) (by omega))
  have HZ2 := Lib.hid (fun W (hw : Below w.heap.size w W) => size_any (h2.below hw) (by omega))
  have g1 : ¬ ((n : Int) > 20) := by omega
  have g2 : ¬ ((m : Int) > 20) := by omega
  have H1 := Lib.hid h1
  have H2 := Lib.hid h2
  have HL1 := Lib.hid h1.len.1
  have HO1 := Lib.hid (fun W (hw : Below w.heap.size w W) => own_any (h1.below hw) (by omega))
  have HO2 := Lib.hid (fun W (hw : Below w.heap.size w W) => own_any (h2.below hw) (by omega))
  have HBl := Lib.hid (show (body l1).length ≤ 100000 by rw [body_len]; have := h1.len.1; omega)
  have HBl2 := Lib.hid (show (body l2).length ≤ 100000 by rw [body_len]; have := h2.len.1; omega)
  have HL2 := Lib.hid h2.len.1
  have hnc := h1.len.2.1
  clear h1 h2
  generalize bsz l1 = z1 at HZ1 hs1 hb
  generalize bsz l2 = z2 at HZ2 hs2 hb
  have g3 : ¬ ((z1 : Int) + (z2 : Int) > 2000) := by omega
  have g4 : ¬ (2000 < z1 + z2) := by omega
  go_enter Try.func9, Try.ntmps9
  go_wp2_with fail
  refine HA.out.mono ?_
  rintro e w1 ⟨rfl, hb⟩
  have HB := Lib.hid hb
  clear hb HA
  go_wp2_with fail
  refine (HZ1.out _ HB.out).mono ?_
  rintro e w2 ⟨rfl, rfl⟩
  clear HZ1
  go_wp2_with fail
  refine (HZ2.out _ HB.out).mono ?_
  rintro e w2 ⟨rfl, rfl⟩
  clear HZ2
  go_wp2_with fail
  refine (HO1.out _ HB.out).mono ?_
  rintro e w2 ⟨A2, c2, rfl, hR2, hb2⟩
  have HB2 := Lib.hid (HB.out.trans (hb2.mono HB.out.size))
  have HE1 := Lib.hid (encode_any hR2 (by have := HBl.out; omega))
  clear hR2 hb2 HO1
  go_wp2_with fail
  refine HE1.out.mono ?_
  rintro e w3 ⟨v3, rfl, hy3, hb3⟩
  have HB3 := Lib.hid (HB2.out.trans (hb3.mono HB2.out.size))
  have HY3 := Lib.hid hy3
  clear hy3 hb3 HE1
  obtain ⟨E1, hE1⟩ : ∃ E1, firstE l1 = E1 := ⟨_, rfl⟩
  rw [hE1]
  have HF1 := Lib.hid hE1
  clear hE1
  go_wp2_with fail
  refine (HO2.out _ HB3.out).mono ?_
  rintro e w4 ⟨A4, c4, rfl, hR4, hb4⟩
  have HB4 := Lib.hid (HB3.out.trans (hb4.mono HB3.out.size))
  have HY4 := Lib.hid (HY3.out.below hb4)
  have HE2 := Lib.hid (encode_any hR4 (by have := HBl2.out; omega))
  clear hR4 hb4 HO2 HY3
  go_wp2_with fail
  refine HE2.out.mono ?_
  rintro e w5 ⟨v5, rfl, hy5, hb5⟩
  have HB5 := Lib.hid (HB4.out.trans (hb5.mono HB4.out.size))
  have HY5 := Lib.hid (HY4.out.below hb5)
  have HYm := Lib.hid hy5
  clear hy5 hb5 HE2 HY4
  obtain ⟨E2, hE2⟩ : ∃ E2, firstE l2 = E2 := ⟨_, rfl⟩
  rw [hE2]
  have HF2 := Lib.hid hE2
  clear hE2
  by_cases he1 : E1 = 0
  case neg =>
    go_wp2_with fail
    go_ret
    exact ⟨rfl, HB5.out⟩
  by_cases he2 : E2 = 0
  case neg =>
    subst he1
    go_wp2_with fail
    go_ret
    exact ⟨rfl, HB5.out⟩
  subst he1 he2
  have HOk := Lib.hid (firstE_ok.1 HF1.out)
  have HOk2 := Lib.hid (firstE_ok.1 HF2.out)
  have hy3 := HY5.out
  have hy5 := HYm.out
  rw [show encS l1 = body l1 by unfold encS; rw [if_pos HF1.out]] at hy3
  rw [show encS l2 = body l2 by unfold encS; rw [if_pos HF2.out]] at hy5
  obtain ⟨A3, c3, e3, hc3, hc3'⟩ := hy3.form
  obtain ⟨L, hL⟩ : ∃ L, (body l1).length = L := ⟨_, rfl⟩
  rw [hL] at e3 hc3
  subst e3
  obtain ⟨v7, W7, A8, n8, c8, W8, r1, r2, hy8, hb8⟩ := bytes_cat hy3 hy5 (by have h1 := HBl.out; have h2 := HBl2.out; omega)
  have HLL := Lib.hid hL
  have hLb : L ≤ 100000 := by rw [← hL]; exact HBl.out
  have HR1 := Lib.hid r1
  have HR2 := Lib.hid r2
  have HB8 := Lib.hid (HB5.out.trans (hb8.mono HB5.out.size))
  have HY8 := Lib.hid (hy3.below hb8)
  have HD8 := Lib.hid ((decode_any hy8 (by rw [List.length_append]; have h1 := HBl.out; have h2 := HBl2.out; omega)).mono (fun e w' hP => DecP.some hP (show decS (body l1 ++ body l2) = some (l1 ++ l2) by rw [← body_append]; exact decS_enc (fun r hr => (List.mem_append.1 hr).elim (HOk.out r) (HOk2.out r)))))
  clear hy3 hy5 hL r1 r2 hb8 hy8 HF1 HF2 HY5 HYm
  go_wp2_with (first
    | (at_builtin; refine wpList_app rfl (.tmp 55) (.tmp 56) _ rfl rfl rfl HR1.out ?_)
    | (at_builtin; refine wpList_app rfl (.tmp 57) (.tmp 58) _ rfl rfl rfl HR2.out ?_))
  refine HD8.out.mono ?_
  rintro e w9 ⟨hb9, A9, n9, c9, rfl, hR9⟩
  have HB9 := Lib.hid (HB8.out.trans (hb9.mono HB8.out.size))
  have HY9 := Lib.hid (HY8.out.below hb9)
  have hn9 : n9 ≤ 40 := by have h1 := hR9.len.1; rw [List.length_append, ← HL1.out, ← HL2.out] at h1; omega
  have HBk := Lib.hid (back_any hR9 (by omega))
  clear hb9 hR9 HD8 HR1 HR2 HY8
  go_wp2_with fail
  refine HBk.out.mono ?_
  rintro e y1 ⟨A10, c10, rfl, hR10, hb10⟩
  have HB10 := Lib.hid (HB9.out.trans (hb10.mono HB9.out.size))
  have HY10 := Lib.hid (HY9.out.below hb10)
  obtain ⟨v11, W11, A12, c12, W12, r1, r2, hR12, hb12⟩ := recs_cat H1.out H2.out (by omega) (by omega) HB10.out
  have HSm := Lib.hid (same_any (hR10.below hb12) hR12)
  have HB12 := Lib.hid (HB10.out.trans (hb12.mono HB10.out.size))
  have HY12 := Lib.hid (HY10.out.below hb12)
  have HR1 := Lib.hid r1
  have HR2 := Lib.hid r2
  clear hR10 hb10 hR12 hb12 r1 r2 HBk HY9
  go_wp2_with (first
    | (at_builtin; refine wpList_appG (by rfl) (.tmp 68) (.tmp 69) _ rfl rfl rfl HR1.out ?_)
    | (at_builtin; refine wpList_appG (by rfl) (.tmp 70) (.tmp 71) _ rfl rfl rfl HR2.out ?_))
  refine HSm.out.mono ?_
  rintro e y2 ⟨rfl, hb13⟩
  have HB13 := Lib.hid (HB12.out.trans (hb13.mono HB12.out.size))
  obtain ⟨K, hK⟩ : ∃ K : Nat, x % (L + 1) = K := ⟨_, rfl⟩
  have hKL : K ≤ L := by have h := Nat.mod_lt x (show 0 < L + 1 by omega); rw [hK] at h; omega
  have hKi : (x : Int) % ((L : Int) + 1) = (K : Int) := by rw [← hK]; simp
  have hxw : IntKind.i64.wrap (x : Int) = (x : Int) := IntWalk.i64_in _ (by omega)
  have hKc : K ≤ c3 := by omega
  have hKc' : (K : Int) ≤ (c3 : Int) := by omega
  have hK0 : (0 : Int) ≤ (K : Int) := by omega
  have HKl := Lib.hid (show K ≤ (body l1).length by rw [HLL.out]; exact hKL)
  have hy14 := (HY12.out.below hb13).hd (k := K) (by rw [HLL.out]; exact hKL)
  clear hb13 HSm HR1 HR2 HY12 HY10 hK
  cases hdc : decS ((body l1).take K) with
  | none =>
    have HD := Lib.hid ((decode_any hy14 (by have h1 := List.length_take_le K (body l1); have h2 := HBl.out; omega)).mono (fun e w' hP => DecP.none hP hdc))
    have HDc := Lib.hid hdc
    clear hdc hy14
    go_wp2_with fail
    refine HD.out.mono ?_
    rintro e W9 ⟨hb, rfl⟩
    have HBc := Lib.hid (HB13.out.trans (hb.mono HB13.out.size))
    rw [hKi]
    clear hb HD hKi
    go_wp2_with fail
    go_loop [16, 17] (fun v i => ∃ k E : Nat, i = .int .i64 (k : Int) ∧ v = .int .i64 (E : Int) ∧ k ≤ n ∧ Hid (E = (body (l1.take k)).length ∧ ∀ j, j < k → (body (l1.take j)).length < K)) (fun _ i => n - (intOf i).toNat)
    case atStart => exact ⟨0, 0, rfl, rfl, Nat.zero_le _, by simp [body_nil], fun j h => by omega⟩
    case round =>
      obtain ⟨k, E, rfl, rfl, hk, HS⟩ := hrel
      have hE := HS.out.1
      have hEl : E ≤ 100000 := by rw [hE]; exact Nat.le_trans (body_take_len l1 k) HBl.out
      by_cases hgo : k < n ∧ E < K
      · obtain ⟨hlt, hEK⟩ := hgo
        have hlt' : (k : Int) < (n : Int) := by omega
        have hEK' : (E : Int) < (K : Int) := by omega
        have hkr : k < l1.length := by rw [← HL1.out]; exact hlt
        obtain ⟨b, off, A9, n9, c9, rfl, hb9, q0, q1, hy9⟩ := (H1.out.below HBc.out).at_ hkr
        have HN9 := Lib.hid (show (body (l1.take (k + 1))).length = E + 3 + n9 by rw [body_step hkr, hE, hy9.len.1])
        have hn9 : n9 ≤ 100000 := by have h1 := HN9.out; have h2 := body_take_len l1 (k + 1); have h3 := HBl.out; omega
        have HK9 := Lib.hid (show ∀ j, j < k + 1 → (body (l1.take j)).length < K from fun j hj => by
          rcases Nat.lt_or_ge j k with h | h
          · exact HS.out.2 j h
          · obtain rfl : j = k := by omega
            rw [← hE]; exact hEK)
        clear hE hy9 HS
        go_wp2_with fail
        go_round
        case rel => exact ⟨k + 1, E + 3 + n9, by go_num, by go_num, by omega, HN9.out.symm, HK9.out⟩
        case measure => simp [intOf]; omega
      · have HEnd := Lib.hid (par_end (l := l1) (k := k) (K := K) (by rw [← HL1.out]; exact hk) HKl.out HS.out.2 (fun h => hgo ⟨by rw [HL1.out]; exact h.1, by rw [hE]; exact h.2⟩) HOk.out)
        have HEe := Lib.hid hE
        clear hE
        have hor : ¬ (k < n) ∨ ¬ (E < K) := by
          rcases Nat.lt_or_ge k n with h | h
          · exact .inr fun h2 => hgo ⟨h, h2⟩
          · exact .inl (by omega)
        clear hgo
        have hne : ¬ E = K := by
          rcases HEnd.out with ⟨h1, h2⟩ | ⟨h1, h2⟩
          · rw [HDc.out] at h2; cases h2
          · rw [HEe.out]; exact h1
        have hne' : ¬ ((E : Int) = (K : Int)) := by omega
        clear HEnd
        by_cases hkn : k < n
        · have hkn' : (k : Int) < (n : Int) := by omega
          have hEK' : ¬ ((E : Int) < (K : Int)) := by have := hor.resolve_left (fun h => h hkn); omega
          clear hor
          go_wp2_with fail
          go_ret
          exact ⟨rfl, HBc.out⟩
        · have hkn' : ¬ ((k : Int) < (n : Int)) := by omega
          clear hor
          go_wp2_with fail
          go_ret
          exact ⟨rfl, HBc.out⟩
  | some rsx =>
    have HD := Lib.hid ((decode_any hy14 (by have h1 := List.length_take_le K (body l1); have h2 := HBl.out; omega)).mono (fun e w' hP => DecP.some hP hdc))
    have HDc := Lib.hid hdc
    clear hdc hy14
    go_wp2_with fail
    refine HD.out.mono ?_
    rintro e W9 ⟨hb, A6, n6, c6, rfl, hR6⟩
    have HBc := Lib.hid (HB13.out.trans (hb.mono HB13.out.size))
    have HR6 := Lib.hid hR6
    rw [hKi]
    clear hb HD hKi hR6
    go_wp2_with fail
    go_loop [16, 17] (fun v i => ∃ k E : Nat, i = .int .i64 (k : Int) ∧ v = .int .i64 (E : Int) ∧ k ≤ n ∧ Hid (E = (body (l1.take k)).length ∧ ∀ j, j < k → (body (l1.take j)).length < K)) (fun _ i => n - (intOf i).toNat)
    case atStart => exact ⟨0, 0, rfl, rfl, Nat.zero_le _, by simp [body_nil], fun j h => by omega⟩
    case round =>
      obtain ⟨k, E, rfl, rfl, hk, HS⟩ := hrel
      have hE := HS.out.1
      have hEl : E ≤ 100000 := by rw [hE]; exact Nat.le_trans (body_take_len l1 k) HBl.out
      by_cases hgo : k < n ∧ E < K
      · obtain ⟨hlt, hEK⟩ := hgo
        have hlt' : (k : Int) < (n : Int) := by omega
        have hEK' : (E : Int) < (K : Int) := by omega
        have hkr : k < l1.length := by rw [← HL1.out]; exact hlt
        obtain ⟨b, off, A9, n9, c9, rfl, hb9, q0, q1, hy9⟩ := (H1.out.below HBc.out).at_ hkr
        have HN9 := Lib.hid (show (body (l1.take (k + 1))).length = E + 3 + n9 by rw [body_step hkr, hE, hy9.len.1])
        have hn9 : n9 ≤ 100000 := by have h1 := HN9.out; have h2 := body_take_len l1 (k + 1); have h3 := HBl.out; omega
        have HK9 := Lib.hid (show ∀ j, j < k + 1 → (body (l1.take j)).length < K from fun j hj => by
          rcases Nat.lt_or_ge j k with h | h
          · exact HS.out.2 j h
          · obtain rfl : j = k := by omega
            rw [← hE]; exact hEK)
        clear hE hy9 HS
        go_wp2_with fail
        go_round
        case rel => exact ⟨k + 1, E + 3 + n9, by go_num, by go_num, by omega, HN9.out.symm, HK9.out⟩
        case measure => simp [intOf]; omega
      · have HEnd := Lib.hid (par_end (l := l1) (k := k) (K := K) (by rw [← HL1.out]; exact hk) HKl.out HS.out.2 (fun h => hgo ⟨by rw [HL1.out]; exact h.1, by rw [hE]; exact h.2⟩) HOk.out)
        have HEe := Lib.hid hE
        clear hE
        have hor : ¬ (k < n) ∨ ¬ (E < K) := by
          rcases Nat.lt_or_ge k n with h | h
          · exact .inr fun h2 => hgo ⟨h, h2⟩
          · exact .inl (by omega)
        clear hgo
        have heq : E = K ∧ rsx = l1.take k := by
          rcases HEnd.out with ⟨h1, h2⟩ | ⟨h1, h2⟩
          · rw [HDc.out] at h2
            injection h2 with h2
            exact ⟨by rw [HEe.out]; exact h1, h2⟩
          · rw [HDc.out] at h2; cases h2
        obtain ⟨rfl, hrs⟩ := heq
        have HRk := Lib.hid (show Rcs W9 (.slice A6 n6 c6) (l1.take k) by rw [← hrs]; exact HR6.out)
        have hkc : k ≤ c := by omega
        have hkc' : (k : Int) ≤ (c : Int) := by omega
        have hk0 : (0 : Int) ≤ (k : Int) := by omega
        clear HEnd hrs
        have hEK' : ¬ ((E : Int) < (E : Int)) := by omega
        by_cases hkn : k < n
        all_goals
          first
          | have hkn' : (k : Int) < (n : Int) := by omega
          | have hkn' : ¬ ((k : Int) < (n : Int)) := by omega
          clear hor
          go_wp2_with fail
          have HB9 := Lib.hid HBc.out.drew
          have HRd := Lib.hid (HRk.out.below ((Below.refl _ _).drew))
          refine wp_region_held_drew (S := fun _ => True) (by kernel_rfl) trivial (fun hHeld => ?_)
          generalize hW8 : World.drew _ = W8 at HB9 HRd ⊢
          clear hW8
          refine wpAnyH_takeD 0 (v := ?_) rfl rfl (by kernel_rfl) (by kernel_rfl) (by kernel_rfl) (fun _ _ _ h => h) (Or.inl ⟨by rfl, ?_⟩) hHeld ?_
          rotate_left
          focus (intro w hSw; (try dsimp only at hSw); go_simp; try with_reducible rfl)
          try simp only [List.setIfInBounds_toArray, List.set_cons_zero, List.set_cons_succ]
          refine wpAnyH_takeD 1 (v := ?_) rfl rfl (by kernel_rfl) (by kernel_rfl) (by kernel_rfl) (fun _ _ _ h => h) (Or.inl ⟨by rfl, ?_⟩) hHeld ?_
          rotate_left
          focus (intro w hSw; (try dsimp only at hSw); go_simp; try with_reducible rfl)
          try simp only [List.setIfInBounds_toArray, List.set_cons_zero, List.set_cons_succ]
          refine wpAnyH_takeD 2 (v := ?_) rfl rfl (by kernel_rfl) (by kernel_rfl) (by kernel_rfl) (fun _ _ _ h => h) (Or.inl ⟨by rfl, ?_⟩) hHeld ?_
          rotate_left
          focus (intro w hSw; (try dsimp only at hSw); go_simp; try with_reducible rfl)
          try simp only [List.setIfInBounds_toArray, List.set_cons_zero, List.set_cons_succ]
          refine wpAnyH_takeD 3 (v := ?_) rfl rfl (by kernel_rfl) (by kernel_rfl) (by kernel_rfl) (fun _ _ _ h => h) (Or.inl ⟨by rfl, ?_⟩) hHeld ?_
          rotate_left
          focus (intro w hSw; (try dsimp only at hSw); go_simp; try with_reducible rfl)
          try simp only [List.setIfInBounds_toArray, List.set_cons_zero, List.set_cons_succ]
          refine wpAnyH_takeD 5 (v := ?_) rfl rfl (by kernel_rfl) (by kernel_rfl) (by kernel_rfl) (fun _ _ _ h => h) (Or.inl ⟨by rfl, ?_⟩) hHeld ?_
          rotate_left
          focus (intro w hSw; (try dsimp only at hSw); go_simp; try with_reducible rfl)
          try simp only [List.setIfInBounds_toArray, List.set_cons_zero, List.set_cons_succ]
          refine wpAnyH_takeD 6 (v := ?_) rfl rfl (by kernel_rfl) (by kernel_rfl) (by kernel_rfl) (fun _ _ _ h => h) (Or.inl ⟨by rfl, ?_⟩) hHeld ?_
          rotate_left
          focus (intro w hSw; (try dsimp only at hSw); go_simp; try with_reducible rfl)
          try simp only [List.setIfInBounds_toArray, List.set_cons_zero, List.set_cons_succ]
          refine wpAnyH_takeD 7 (v := .slice A k c) rfl rfl (by kernel_rfl) (by kernel_rfl) (by kernel_rfl) (fun _ _ _ h => h) (Or.inl ⟨by rfl, ?_⟩) hHeld ?_
          · intro w hSw
            go_simp
          simp only [List.setIfInBounds_toArray, List.set_cons_zero, List.set_cons_succ]
          refine wpAnyH_ready (rs := [4]) (by kernel_rfl) (by simp) ?_
          refine AllReadyH.cons rfl (fun K hK => ?_) AllReadyH.nil
          go_simp
          refine (back_any HRd.out (by have := HRd.out.len.1; have h2 := List.length_take_le k l1; omega)).mono ?_
          rintro e W7 ⟨A8, c8, rfl, hR8, hb8⟩
          have HB7 := Lib.hid (HB9.out.trans (hb8.mono HB9.out.size))
          have HSm := Lib.hid (same_any hR8 ((H1.out.hd hk).below HB7.out))
          clear hR8 hb8
          refine hK.out _ _ trivial (fun hHeld => ?_)
          clear hK
          refine wpAnyH_ready (rs := [8]) (by kernel_rfl) (by simp) ?_
          refine AllReadyH.cons rfl (fun K hK => ?_) AllReadyH.nil
          go_simp
          refine HSm.out.mono ?_
          rintro e W6 ⟨rfl, hb6⟩
          have HB6 := Lib.hid (HB7.out.trans (hb6.mono HB7.out.size))
          clear hb6 HSm
          refine hK.out _ _ trivial (fun hHeld => ?_)
          clear hK
          refine wpAnyH_takeD 9 (v := ?_) rfl rfl (by kernel_rfl) (by kernel_rfl) (by kernel_rfl) (fun _ _ _ h => h) (Or.inl ⟨by rfl, ?_⟩) hHeld ?_
          rotate_left
          focus (intro w hSw; (try dsimp only at hSw); go_simp; try with_reducible rfl)
          try simp only [List.setIfInBounds_toArray, List.set_cons_zero, List.set_cons_succ]
          refine wpAnyH_takeD 10 (v := ?_) rfl rfl (by kernel_rfl) (by kernel_rfl) (by kernel_rfl) (fun _ _ _ h => h) (Or.inl ⟨by rfl, ?_⟩) hHeld ?_
          rotate_left
          focus (intro w hSw; (try dsimp only at hSw); go_simp; try with_reducible rfl)
          try simp only [List.setIfInBounds_toArray, List.set_cons_zero, List.set_cons_succ]
          refine wpAnyH_done (by kernel_rfl) ?_ _
          go_wp2_with fail
          go_ret
          exact ⟨rfl, HB6.out⟩
/-- The law. -/
theorem lawPar {w : World} {A B : Option Addr} {n c m d x : Nat} {l1 l2 : List Rc} (h1 : Rcs w (.slice A n c) l1) (hz1 : ∀ i (hi : i < l1.length), l1[i].2.length ≤ 140737488351232) (h2 : Rcs w (.slice B m d) l2) (hz2 : ∀ i (hi : i < l2.length), l2[i].2.length ≤ 140737488351232) (hx : x < 65536) : Calls Try.prog 9 #[.slice A n c, .slice B m d, .int .u16 (x : Int)] w fun e w' => e = .returned (.bool true) ∧ Below w.heap.size w w' := by
  by_cases hn : 20 < n ∨ 20 < m
  · exact lawPar_large hn (by have := h1.len; omega) (by have := h2.len; omega)
  · have s1 : bsz l1 ≤ 3000000000000000 := by
      have a1 := bsz_le hz1
      have a2 := h1.len.1
      have a3 : l1.length * 140737488351232 ≤ 20 * 140737488351232 := Nat.mul_le_mul_right _ (by omega)
      omega
    have s2 : bsz l2 ≤ 3000000000000000 := by
      have a1 := bsz_le hz2
      have a2 := h2.len.1
      have a3 : l2.length * 140737488351232 ≤ 20 * 140737488351232 := Nat.mul_le_mul_right _ (by omega)
      omega
    by_cases hb : bsz l1 + bsz l2 ≤ 2000
    · exact lawPar_small h1 h2 (by omega) (by omega) s1 s2 hb hx
    · exact lawPar_heavy h1 h2 (by omega) (by omega) s1 s2 (by omega)
end Go.Proofs.Ytamkegnnlbefdab
