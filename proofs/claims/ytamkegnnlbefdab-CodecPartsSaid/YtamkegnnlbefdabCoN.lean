/- Contract: the reference's Encode. -/
import Derived.Test.YtamkegnnlbefdabCoL
namespace Go.Proofs.Ytamkegnnlbefdab
open Go.RowKit

theorem hi_cell {n : Nat} (h : n ≤ 65535) : Value.int .u8 ((n : Int) / 256) = encB (UInt8.ofNat (n / 256)) := by
  unfold encB
  congr 1
  simp
  omega
theorem lo_cell (n : Nat) : Value.int .u8 ((n : Int) % 256) = encB (UInt8.ofNat n) := by
  unfold encB
  congr 1
set_option maxRecDepth 100000 in
set_option maxHeartbeats 8000000 in
theorem refEncode_any {w : World} {A : Option Addr} {n c : Nat} {rs : List Rc} (h : Rcs w (.slice A n c) rs) (hl : (body rs).length ≤ 1000000000) :
    Calls Try.prog 14 #[.slice A n c] w (EncP w rs) := by
  obtain ⟨e, hc, hc2⟩ := h.len
  have H := Lib.hid h
  have HL := Lib.hid hl
  have HE := Lib.hid e
  have hn : n ≤ 9223372036854775807 := by omega
  clear h hl e
  go_enter Try.func14, Try.ntmps14
  go_wp2_with fail
  go_loopw [4, 5] (fun x i wr => ∃ (k : Nat) (y : Value), y = x ∧ i = .int .i64 k ∧ k ≤ n ∧ Hid (OwnB w.heap.size wr y (body (rs.take k)) ∧ (∀ j (h1 : j < rs.length), j < k → errR rs[j] = 0) ∧ Below w.heap.size w wr)) (fun _ i _ => n - (intOf i).toNat)
  case atStart => exact ⟨0, _, rfl, rfl, Nat.zero_le _, OwnB.nil _ _, fun j _ h => by omega, Below.refl _ _⟩
  case round =>
    obtain ⟨wq, rfl⟩ : ∃ x, x = wr := ⟨_, rfl⟩
    obtain ⟨k, y, rfl, rfl, hk, HS⟩ := hrel
    by_cases hlt : k < n
    · have hlt' : (k : Int) < (n : Int) := by omega
      have hkr : k < rs.length := by rw [← HE.out]; exact hlt
      obtain ⟨b, off, A1, n1, c1, rfl, hb, q0w, q1w, hy⟩ := H.out.at_ hkr
      have q0 := (HS.out.2.2.cell (p := ⟨b, off + k * 2, none⟩) hb).trans q0w
      have q1 := (HS.out.2.2.cell (p := ⟨b, off + k * 2 + 1, none⟩) hb).trans q1w
      obtain ⟨e1, -, -⟩ := hy.len
      have hn1 : n1 ≤ 1000000000 := by rw [e1]; exact Nat.le_trans (one_le rs hkr) HL.out
      have hsnoc : body (rs.take (k + 1)) = body (rs.take k) ++ one rs[k] := by rw [take_snocR rs k hkr, body_snoc]
      have hlen := Nat.le_trans (body_take_len rs k) HL.out
      obtain ⟨t, ht⟩ : ∃ t, rs[k].1 = t := ⟨_, rfl⟩
      obtain ⟨val, hv⟩ : ∃ val, rs[k].2 = val := ⟨_, rfl⟩
      have herr : errR rs[k] = errN t n1 := by unfold errR; rw [ht, hv, e1, hv]
      have hone : one rs[k] = UInt8.ofNat t.toNat :: (be n1 2 ++ val) := by unfold one; rw [ht, hv, e1, hv]
      rw [ht] at q0
      rw [hv] at hy e1
      have HY := Lib.hid hy
      have HN := Lib.hid hsnoc
      have HO := Lib.hid hone
      have HR := Lib.hid herr
      have HLn := Lib.hid hlen
      have HQ := Lib.hid q1w
      have HBl := Lib.hid hb
      have HBad := Lib.hid (show errN t n1 ≠ 0 → firstE rs = errN t n1 ∧ By wq (.slice none 0 0) (encS rs) from fun hne => by
        have hx := firstE_at hkr (fun j hj => HS.out.2.1 j (by omega) hj) (by rw [HR.out]; exact hne)
        rw [HR.out] at hx
        refine ⟨hx, ?_⟩
        unfold encS
        rw [if_neg (by rw [hx]; exact hne)]
        exact By.nil _)
      clear hsnoc hone herr hy e1 ht hv hlen q0w q1w
      by_cases g1 : t < 1
      · have HZ := Lib.hid (show errN t n1 = 1 by unfold errN; rw [if_pos (.inl g1)])
        go_wp2_with fail
        go_ret2
        obtain ⟨z1, z2⟩ := HBad.out (by rw [HZ.out]; decide)
        exact ⟨.slice none 0 0, by rw [z1, HZ.out]; rfl, z2, HS.out.2.2⟩
      · by_cases g2 : t > 255
        · have HZ := Lib.hid (show errN t n1 = 1 by unfold errN; rw [if_pos (.inr (by omega))])
          go_wp2_with fail
          go_ret2
          obtain ⟨z1, z2⟩ := HBad.out (by rw [HZ.out]; decide)
          exact ⟨.slice none 0 0, by rw [z1, HZ.out]; rfl, z2, HS.out.2.2⟩
        · by_cases g3 : n1 > 65535
          · have HZ := Lib.hid (show errN t n1 = 6 by unfold errN; rw [if_neg (by omega), if_pos (by omega)])
            have g3' : (n1 : Int) > 65535 := by omega
            clear g3
            go_wp2_with fail
            go_ret2
            obtain ⟨z1, z2⟩ := HBad.out (by rw [HZ.out]; decide)
            exact ⟨.slice none 0 0, by rw [z1, HZ.out]; rfl, z2, HS.out.2.2⟩
          · have g3' : ¬ ((n1 : Int) > 65535) := by omega
            have HZ := Lib.hid (show errR rs[k] = 0 by rw [HR.out]; unfold errN; rw [if_neg (by omega), if_neg (by omega)])
            have hb2 : be n1 2 = [UInt8.ofNat (n1 / 256), UInt8.ofNat n1] := be2 n1 (by omega)
            obtain ⟨v3, W3, hr3, ho3, hg3⟩ := run_app3 27 _ _ _ _ _ _ (type_cell (t := t) (by omega) (by omega)) (hi_cell (n := n1) (by omega)) (lo_cell n1) HS.out.1 (by have := HLn.out; omega) HS.out.2.2.size
            have low3 := HS.out.2.2.trans (hg3.below HS.out.1.base_ HS.out.2.2.size)
            obtain ⟨v5, W5, hr5, ho5, hg5⟩ := run_appB 27 ho3 (HY.out.below low3) (by have h1 := HLn.out; have h2 := HY.out.len.1; simp; omega) low3.size
            have r1 := (low3.cell (p := ⟨b, off + k * 2 + 1, none⟩) HBl.out).trans HQ.out
            have HR3 := Lib.hid hr3
            have HR5 := Lib.hid hr5
            have HO5 := Lib.hid (show OwnB w.heap.size W5 v5 (body (rs.take (k + 1))) by rw [HN.out, HO.out, hb2]; simpa using ho5)
            have HB5 := Lib.hid (low3.trans (hg5.below ho3.base_ low3.size))
            have HOk := Lib.hid (take_all_ok HS.out.2.1 hkr HZ.out)
            clear hr3 hr5 ho3 ho5 hg3 hg5 low3 hb2 g3 HBad
            go_wp2_with (first
              | (at_builtin; refine wpList_app rfl (.tmp 35) (.tmp 48) _ rfl rfl rfl HR3.out ?_)
              | (at_builtin; go_loud (refine wpList_app rfl (.tmp 50) (.tmp 55) _ rfl rfl rfl HR5.out ?_)))
            go_roundw
            case rel => exact ⟨k + 1, v5, rfl, by go_num, by omega, HO5.out, HOk.out, HB5.out⟩
            case measure => simp [intOf]; omega
    · obtain rfl : k = n := by omega
      have hok : firstE rs = 0 := firstE_ok.2 fun r hr => by
        obtain ⟨j, hj, rfl⟩ := List.getElem_of_mem hr
        exact HS.out.2.1 j hj (by rw [HE.out]; exact hj)
      have hfin : Hid (By wq y (encS rs) ∧ Below w.heap.size w wq) := ⟨by
        unfold encS
        rw [if_pos hok]
        have := HS.out.1.by_
        rwa [HE.out, List.take_length] at this, HS.out.2.2⟩
      have HF := Lib.hid hok
      clear hok HS
      go_wp2_with fail
      go_ret2
      exact ⟨_, by rw [HF.out]; rfl, hfin.out.1, hfin.out.2⟩
end Go.Proofs.Ytamkegnnlbefdab
