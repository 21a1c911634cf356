/- Contract: Encode. -/
import Derived.Test.YtamkegnnlbefdabCoH
import Derived.LoopTactic
namespace Go.Proofs.Ytamkegnnlbefdab
open Go.RowKit

theorem type_cell {t : Int} (h1 : 1 ≤ t) (h2 : t ≤ 255) : Value.int .u8 t = encB (UInt8.ofNat t.toNat) := by
  unfold encB
  congr 1
  simp
  omega
theorem take_all_ok {rs : List Rc} {k : Nat} (h : ∀ j (h1 : j < rs.length), j < k → errR rs[j] = 0) (hk : k < rs.length) (he : errR rs[k] = 0) : ∀ j (h1 : j < rs.length), j < k + 1 → errR rs[j] = 0 := by
  intro j h1 h2
  rcases Nat.lt_or_ge j k with h3 | h3
  · exact h j h1 h3
  · obtain rfl : j = k := by omega
    exact he
theorem body_take_len (rs : List Rc) (k : Nat) : (body (rs.take k)).length ≤ (body rs).length := by
  have := congrArg body (List.take_append_drop k rs)
  rw [body_append] at this
  have := congrArg List.length this
  rw [List.length_append] at this
  omega
theorem one_le (rs : List Rc) {k : Nat} (hk : k < rs.length) : rs[k].2.length ≤ (body rs).length := by
  have := bsz_get rs k hk
  rw [body_len]; omega
def EncP (w : World) (rs : List Rc) (e : Ending) (w' : World) : Prop := ∃ v, e = .returned (.tuple #[v, .int .i64 (firstE rs)]) ∧ By w' v (encS rs) ∧ Below w.heap.size w w'
set_option maxRecDepth 100000 in
set_option maxHeartbeats 8000000 in
theorem encode_any {w : World} {A : Option Addr} {n c : Nat} {rs : List Rc} (h : Rcs w (.slice A n c) rs) (hl : (body rs).length ≤ 1000000000) :
    Calls Try.prog 13 #[.slice A n c] w (EncP w rs) := by
  obtain ⟨e, hc, hc2⟩ := h.len
  have H := Lib.hid h
  have HL := Lib.hid hl
  have HE := Lib.hid e
  have hn : n ≤ 9223372036854775807 := by omega
  clear h hl e
  go_enter Try.func13, Try.ntmps13
  go_wp2_with fail
  go_loopw [4, 10] (fun x i wr => ∃ (k : Nat) (y : Value), y = x ∧ i = .int .i64 k ∧ k ≤ n ∧ Hid (OwnB w.heap.size wr y (body (rs.take k)) ∧ (∀ j (h1 : j < rs.length), j < k → errR rs[j] = 0) ∧ Below w.heap.size w wr)) (fun _ i _ => n - (intOf i).toNat)
  case atStart => exact ⟨0, _, rfl, rfl, Nat.zero_le _, OwnB.nil _ _, fun j _ h => by omega, Below.refl _ _⟩
  case round =>
    obtain ⟨wq, rfl⟩ : ∃ x, x = wr := ⟨_, rfl⟩
    obtain ⟨k, y, rfl, rfl, hk, HS⟩ := hrel
    by_cases hlt : k < n
    · have hlt' : (k : Int) < (n : Int) := by omega
      have hkr : k < rs.length := by rw [← HE.out]; exact hlt
      obtain ⟨b, off, A1, n1, c1, rfl, hb, q0, q1, hy⟩ := H.out.at_ hkr
      replace q0 := (HS.out.2.2.cell (p := ⟨b, off + k * 2, none⟩) hb).trans q0
      replace q1 := (HS.out.2.2.cell (p := ⟨b, off + k * 2 + 1, none⟩) hb).trans q1
      obtain ⟨e1, -, -⟩ := hy.len
      have hn1 : n1 ≤ 1000000000 := by rw [e1]; exact Nat.le_trans (one_le rs hkr) HL.out
      have hsnoc : body (rs.take (k + 1)) = body (rs.take k) ++ one rs[k] := by rw [take_snocR rs k hkr, body_snoc]
      have hlen := Nat.le_trans (body_take_len rs k) HL.out
      obtain ⟨t, ht⟩ : ∃ t, rs[k].1 = t := ⟨_, rfl⟩
      obtain ⟨val, hv⟩ : ∃ val, rs[k].2 = val := ⟨_, rfl⟩
      have herr : errR rs[k] = errN t n1 := by unfold errR; rw [ht, hv, e1, hv]
      have hone : one rs[k] = UInt8.ofNat t.toNat :: (be n1 2 ++ val) := by unfold one; rw [ht, hv, e1, hv]
      rw [ht] at q0
      rw [hv] at hy e1
      have HY := Lib.hid hy
      have hbk := Blk.new wq [.int .i64 t, .slice A1 n1 c1] prT
      have hb1 : Below wq.heap.size wq (wq.alloc (.cells #[.int .i64 t, .slice A1 n1 c1] prT)) := (Below.refl _ _).alloc (Nat.le_refl _) _
      have HC := Lib.hid (check_any t A1 n1 c1 (wq.alloc (.cells #[.int .i64 t, .slice A1 n1 c1] prT)) (by omega))
      have HB1 := Lib.hid hb1
      have HK := Lib.hid hbk
      have HN := Lib.hid hsnoc
      have HO := Lib.hid hone
      have HR := Lib.hid herr
      have HW := Lib.hid HL.out
      have HLn := Lib.hid hlen
      clear hbk hb1 hsnoc hone herr hy e1 ht hv hlen
      go_wp2_with fail
      refine HC.out.mono ?_
      rintro e w2 ⟨rfl, hb2⟩
      have HK2 := Lib.hid (HK.out.step hb2)
      have HB2 := Lib.hid (HB1.out.trans (hb2.mono HB1.out.size))
      clear hb2 HC q0 q1 HK HB1
      obtain ⟨E, hE⟩ : ∃ E, errN t n1 = E := ⟨_, rfl⟩
      rw [hE] at HR ⊢
      by_cases hE0 : E = 0
      · obtain ⟨t1, t2, t3⟩ := errN_ok.1 (hE.trans hE0)
        subst hE0
        clear hE
        obtain ⟨v3, W3, hr3, ho3, hg3⟩ := run_app1 27 _ _ (type_cell t1 t2) (HS.out.1.below HB2.out) (by have := HLn.out; omega) (Nat.le_trans HS.out.2.2.size HB2.out.size)
        have b3 := hg3.blk HK2.out ((HS.out.1.below HB2.out).ne HK2.out (by decide))
        have low3 := (HS.out.2.2.trans (HB2.out.mono HS.out.2.2.size)).trans (hg3.below (HS.out.1.below HB2.out).base_ (Nat.le_trans HS.out.2.2.size HB2.out.size))
        have HA := Lib.hid (show Calls Try.prog 26 #[v3, .int .u64 (n1 : Int), .int .i64 2] W3 _ from appendNumber_any (w := W3) (n := n1) (s := 2) ho3 low3.size (by rw [List.length_append]; have := HLn.out; simp; omega) (by omega) (by omega))
        have r0 := HK2.out.cell (i := 0) rfl
        have r1 := b3.cell (i := 1) rfl
        have HR3 := Lib.hid hr3
        have HO3 := Lib.hid ho3
        have H3 := Lib.hid b3
        have HG3 := Lib.hid low3
        have hu : IntKind.u64.wrap (n1 : Int) = (n1 : Int) := by simp [IntKind.wrap, IntKind.bits, IntKind.signed]; omega
        clear hr3 ho3 hg3 b3 low3 t3
        go_wp2_with (at_builtin; go_loud (refine wpList_app rfl (.tmp 19) (.tmp 23) _ rfl rfl rfl HR3.out ?_))
        refine HA.out.mono ?_
        rintro e W4 ⟨v4, rfl, ho4, hg4⟩
        have b4 := hg4.blk H3.out (HO3.out.ne H3.out (by decide))
        have low4 := HG3.out.trans (hg4.below HO3.out.base_ HG3.out.size)
        obtain ⟨v5, W5, hr5, ho5, hg5⟩ := run_appB 27 ho4 (HY.out.below low4) (by have h1 := HLn.out; have h2 := HY.out.len.1; simp [be_len]; omega) low4.size
        have r4 := b4.cell (i := 1) rfl
        have HR5 := Lib.hid hr5
        have HO5 := Lib.hid (show OwnB w.heap.size W5 v5 (body (rs.take (k + 1))) by rw [HN.out, HO.out]; simpa using ho5)
        have HB5 := Lib.hid (low4.trans (hg5.below ho4.base_ low4.size))
        have HOk := Lib.hid (take_all_ok HS.out.2.1 hkr HR.out)
        clear hr5 ho5 hg5 b4 ho4 hg4 low4 HA HR3 r0 r1
        go_wp2_with (at_builtin; go_loud (refine wpList_app rfl (.tmp 31) (.tmp 33) _ rfl rfl rfl HR5.out ?_))
        go_roundw
        case rel => exact ⟨k + 1, v5, rfl, by go_num, by omega, HO5.out, HOk.out, HB5.out⟩
        case measure => simp [intOf]; omega
      · have HX := Lib.hid (show firstE rs = E by
          have hx := firstE_at (by rw [← HE.out]; exact hlt) (fun j hj => HS.out.2.1 j (by rw [← HE.out]; omega) hj) (by rw [HR.out]; exact hE0)
          rw [hx, HR.out])
        have HFin := Lib.hid (HS.out.2.2.trans (HB2.out.mono HS.out.2.2.size))
        have HE0 := Lib.hid hE0
        clear hE HR
        go_wp2_with fail
        go_ret2
        refine ⟨.slice none 0 0, by rw [HX.out]; rfl, ?_, HFin.out⟩
        unfold encS
        rw [if_neg (by rw [HX.out]; exact HE0.out)]
        exact By.nil _
    · obtain rfl : k = n := by omega
      have hok : firstE rs = 0 := firstE_ok.2 fun r hr => by
        obtain ⟨j, hj, rfl⟩ := List.getElem_of_mem hr
        exact HS.out.2.1 j hj (by rw [HE.out]; exact hj)
      have hfin : Hid (By wq y (encS rs) ∧ Below w.heap.size w wq) := ⟨by
        unfold encS
        rw [if_pos hok]
        have := HS.out.1.by_
        rwa [HE.out, List.take_length] at this, HS.out.2.2⟩
      have HF := Lib.hid hok
      clear hok HS
      go_wp2_with fail
      go_ret2
      exact ⟨_, by rw [HF.out]; rfl, hfin.out.1, hfin.out.2⟩
end Go.Proofs.Ytamkegnnlbefdab
