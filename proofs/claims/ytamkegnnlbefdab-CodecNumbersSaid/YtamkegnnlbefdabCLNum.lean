/- The walk of the law CodecNumbers. -/
import Derived.Test.YtamkegnnlbefdabCoK
namespace Go.Proofs.Ytamkegnnlbefdab
open Go.RowKit

set_option maxRecDepth 100000 in
set_option maxHeartbeats 8000000 in
theorem lawNum_large {w : World} {A : Option Addr} {n c x : Nat} {s : Int} (hn : 100 < n) (hn2 : n ≤ 9223372036854775807) : Calls Try.prog 6 #[.slice A n c, .int .u64 (x : Int), .int .i64 s] w fun e w' => e = .returned (.bool true) ∧ Below w.heap.size w w' := by
  have HA := Lib.hid (awake_any w)
  have g1 : (n : Int) > 100 := by omega
  go_enter Try.func6, Try.ntmps6
  go_wp2_with fail
  refine HA.out.mono ?_
  rintro e w1 ⟨rfl, hb⟩
  have HB := Lib.hid hb
  clear hb HA
  go_wp2_with fail
  go_ret
  exact ⟨rfl, HB.out⟩
/-- The copy of the argument. -/
theorem num_copy {w W : World} {A : Option Addr} {n c : Nat} {l : List UInt8} (h : By w (.slice A n c) l) (hl : l.length ≤ 100000) (hb : Below w.heap.size w W) (ty : TypeId) :
    ∃ A2 c2 W2, (Builtin.append_ #[27, 27] ty #[.slice (some ⟨W.heap.size, 0, none⟩) 0 0, .slice A n c]).run Try.prog (W.alloc (.cells #[] u8T)) = .ok (.slice A2 n c2) W2 ∧ By W2 (.slice A2 n c2) l ∧ Below W.heap.size W W2 := by
  have hb1 : Below W.heap.size W (W.alloc (.cells #[] u8T)) := (Below.refl _ W).alloc (Nat.le_refl _) _
  have h0 := OwnB.made (base := W.heap.size) W [] (Nat.le_refl _) (by simp)
  obtain ⟨v', W2, hr, ho, hg⟩ := run_appB ty h0 ((h.below hb).below hb1) (by simp; omega) (by simp)
  obtain ⟨A2, c2, rfl, -⟩ := ho.form
  have e : ([] ++ l).length = n := by rw [List.nil_append]; exact h.len.1.symm
  rw [e] at hr ho
  exact ⟨A2, c2, W2, hr, ho.by_, hb1.trans (((hg.below h0.base_ (by simp))).mono (by simp))⟩
set_option maxRecDepth 100000 in
set_option maxHeartbeats 8000000 in
theorem lawNum_arg {w : World} {A : Option Addr} {n c x : Nat} {s : Int} {l : List UInt8} (h : By w (.slice A n c) l) (hn : n ≤ 100) (hs : s < 1 ∨ 8 < s) : Calls Try.prog 6 #[.slice A n c, .int .u64 (x : Int), .int .i64 s] w fun e w' => e = .returned (.bool true) ∧ Below w.heap.size w w' := by
  have HA := Lib.hid (awake_any w)
  have HH := Lib.hid h
  have HL := Lib.hid h.len.1
  have HS := Lib.hid hs
  have g1 : ¬ ((n : Int) > 100) := by omega
  clear h
  by_cases hs1 : s < 1
  all_goals
    first
    | have g2 : s < 1 := hs1
    | have g2 : s > 8 := by omega
    clear hs
    go_enter Try.func6, Try.ntmps6
    go_wp2_with fail
    refine HA.out.mono ?_
    rintro e w1 ⟨rfl, hb⟩
    obtain ⟨A2, c2, w2, hr, hy, hb2⟩ := num_copy HH.out (by have := HL.out; omega) hb 27
    have HB := Lib.hid (hb.trans (hb2.mono hb.size))
    have HR := Lib.hid hr
    have HY := Lib.hid hy
    have HU := Lib.hid (appendUint_arg (w := w2) (A := A2) (m := n) (c := c2) (n := x) HS.out)
    clear hb hb2 hr hy HA
    go_wp2_with (at_builtin; go_loud (refine wpList_app rfl (.tmp 17) (.tmp 18) _ rfl rfl rfl HR.out ?_))
    refine HU.out.mono ?_
    rintro e w3 ⟨rfl, rfl⟩
    have k1 := HY.out.conv
    have k2 := (HH.out.below HB.out).conv
    clear HU HR
    go_wp2_with fail
    go_ret
    exact ⟨rfl, HB.out⟩
set_option maxRecDepth 100000 in
set_option maxHeartbeats 8000000 in
theorem lawNum_range {w : World} {A : Option Addr} {n c x s : Nat} {l : List UInt8} (h : By w (.slice A n c) l) (hn : n ≤ 100) (h1 : 1 ≤ s) (h8 : s ≤ 8) (hx : x < 18446744073709551616) (hf : fitsB x s = false) : Calls Try.prog 6 #[.slice A n c, .int .u64 (x : Int), .int .i64 (s : Int)] w fun e w' => e = .returned (.bool true) ∧ Below w.heap.size w w' := by
  have HA := Lib.hid (awake_any w)
  have HH := Lib.hid h
  have HL := Lib.hid h.len.1
  have g1 : ¬ ((n : Int) > 100) := by omega
  have g2 : ¬ ((s : Int) < 1) := by omega
  have g3 : ¬ ((s : Int) > 8) := by omega
  have HX := Lib.hid hx
  have HF := Lib.hid hf
  have HF2 := Lib.hid (fun W => fits_any hx h8 W)
  have H1 := Lib.hid h1
  have H8 := Lib.hid h8
  clear h hx hf h1 h8
  go_enter Try.func6, Try.ntmps6
  go_wp2_with fail
  refine HA.out.mono ?_
  rintro e w1 ⟨rfl, hb⟩
  obtain ⟨A2, c2, w2, hr, hy, hb2⟩ := num_copy HH.out (by have := HL.out; omega) hb 27
  have HB := Lib.hid (hb.trans (hb2.mono hb.size))
  have HR := Lib.hid hr
  have HY := Lib.hid hy
  have HU := Lib.hid (appendUint_range (w := w2) (A := A2) (m := n) (c := c2) (n := x) H1.out H8.out HF.out)
  clear hb hb2 hr hy HA
  go_wp2_with (at_builtin; go_loud (refine wpList_app rfl (.tmp 17) (.tmp 18) _ rfl rfl rfl HR.out ?_))
  refine HU.out.mono ?_
  rintro e w3 ⟨rfl, rfl⟩
  have k1 := HY.out.conv
  have k2 := (HH.out.below HB.out).conv
  clear HU HR
  go_wp2_with fail
  refine (HF2.out _).mono ?_
  rw [HF.out]
  rintro e w3 ⟨rfl, rfl⟩
  go_wp2_with fail
  go_ret
  exact ⟨rfl, HB.out⟩
theorem str_add (a b : List UInt8) : (⟨a.toArray⟩ : ByteArray) ++ ⟨b.toArray⟩ = ⟨(a ++ b).toArray⟩ := by
  apply ByteArray.ext
  simp
set_option maxRecDepth 100000 in
set_option maxHeartbeats 8000000 in
theorem lawNum_good {w : World} {A : Option Addr} {n c x s : Nat} {l : List UInt8} (h : By w (.slice A n c) l) (hn : n ≤ 100) (h1 : 1 ≤ s) (h8 : s ≤ 8) (hx : x < 18446744073709551616) (hf : fitsB x s = true) : Calls Try.prog 6 #[.slice A n c, .int .u64 (x : Int), .int .i64 (s : Int)] w fun e w' => e = .returned (.bool true) ∧ Below w.heap.size w w' := by
  have HA := Lib.hid (awake_any w)
  have HH := Lib.hid h
  have HL := Lib.hid h.len.1
  have g1 : ¬ ((n : Int) > 100) := by omega
  have g2 : ¬ ((s : Int) < 1) := by omega
  have g3 : ¬ ((s : Int) > 8) := by omega
  have HX := Lib.hid hx
  have HF := Lib.hid hf
  have HF2 := Lib.hid (fun W => fits_any hx h8 W)
  have HNum := Lib.hid (fun W => refNumber_any (w := W) h8 hx)
  have H1 := Lib.hid h1
  have H8 := Lib.hid h8
  clear h hx hf h1 h8
  go_enter Try.func6, Try.ntmps6
  go_wp2_with fail
  refine HA.out.mono ?_
  rintro e w1 ⟨rfl, hb⟩
  obtain ⟨A2, c2, w2, hr, hy, hb2⟩ := num_copy HH.out (by have := HL.out; omega) hb 27
  have HB := Lib.hid (hb.trans (hb2.mono hb.size))
  have HR := Lib.hid hr
  have HY := Lib.hid hy
  have HU := Lib.hid (appendUint_any (w := w2) (A := A2) (m := n) (c := c2) (n := x) HY.out H1.out H8.out HF.out HX.out (by have := HL.out; omega))
  clear hb hb2 hr hy HA
  go_wp2_with (at_builtin; go_loud (refine wpList_app rfl (.tmp 17) (.tmp 18) _ rfl rfl rfl HR.out ?_))
  refine HU.out.mono ?_
  rintro e w3 ⟨v3, rfl, hy3, hb3⟩
  obtain ⟨A3, c3, e3, hc3, hc3'⟩ := hy3.form
  obtain ⟨m3, hm3⟩ : ∃ m3, (l ++ be x s).length = m3 := ⟨_, rfl⟩
  rw [hm3] at e3 hc3
  subst e3
  have HM := Lib.hid hm3
  have HY3 := Lib.hid hy3
  have HC3 := Lib.hid hc3
  have HB3 := Lib.hid (HB.out.trans (hb3.mono HB.out.size))
  have k1 := (HY.out.below hb3).conv
  have k2 := (HH.out.below HB3.out).conv
  have hb3' := Lib.hid hb3
  clear HU HR hy3 hb3 hm3 hc3
  go_wp2_with fail
  refine (HF2.out _).mono ?_
  rw [HF.out]
  rintro e w4 ⟨rfl, rfl⟩
  clear k1 k2
  go_wp2_with fail
  refine wp_region_held_drew (S := fun W' => By W' (.slice A3 m3 c3) (l ++ be x s) ∧ By W' (.slice A n c) l) (by kernel_rfl) ⟨HY3.out.below ((Below.refl _ _).drew), HH.out.below HB3.out.drew⟩ (fun hHeld => ?_)
  replace HB3 := Lib.hid (HB3.out.drew)
  generalize w3.drew = w4 at HB3 hHeld ⊢
  refine wpAnyH_takeD 0 (v := ?_) rfl rfl (by kernel_rfl) (by kernel_rfl) (by kernel_rfl) (fun _ _ _ h => h) (Or.inl ⟨by rfl, ?_⟩) hHeld ?_
  rotate_left
  focus (intro w hSw; (try dsimp only at hSw); go_simp; try with_reducible rfl)
  try simp only [List.setIfInBounds_toArray, List.set_cons_zero, List.set_cons_succ]
  refine wpAnyH_takeD 1 (v := ?_) rfl rfl (by kernel_rfl) (by kernel_rfl) (by kernel_rfl) (fun _ _ _ h => h) (Or.inl ⟨by rfl, ?_⟩) hHeld ?_
  rotate_left
  focus (intro w hSw; (try dsimp only at hSw); go_simp; try with_reducible rfl)
  try simp only [List.setIfInBounds_toArray, List.set_cons_zero, List.set_cons_succ]
  refine wpAnyH_takeD 2 (v := ?_) rfl rfl (by kernel_rfl) (by kernel_rfl) (by kernel_rfl) (fun _ _ _ h => h) (Or.inl ⟨by rfl, ?_⟩) hHeld ?_
  rotate_left
  focus (intro w hSw; (try dsimp only at hSw); go_simp; try with_reducible rfl)
  try simp only [List.setIfInBounds_toArray, List.set_cons_zero, List.set_cons_succ]
  refine wpAnyH_takeD 3 (v := ?_) rfl rfl (by kernel_rfl) (by kernel_rfl) (by kernel_rfl) (fun _ _ _ h => h) (Or.inl ⟨by rfl, ?_⟩) hHeld ?_
  rotate_left
  focus (intro w hSw; (try dsimp only at hSw); go_simp; try with_reducible rfl)
  try simp only [List.setIfInBounds_toArray, List.set_cons_zero, List.set_cons_succ]
  refine wpAnyH_takeD 4 (v := .string ⟨(l ++ be x s).toArray⟩) rfl rfl (by kernel_rfl) (by kernel_rfl) (by kernel_rfl) (fun _ _ _ h => h) (Or.inl ⟨by rfl, ?_⟩) hHeld ?_
  · intro w hSw
    have k1 := hSw.1.conv
    clear hSw
    go_simp
  simp only [List.setIfInBounds_toArray, List.set_cons_zero, List.set_cons_succ]
  refine wpAnyH_takeD 5 (v := ?_) rfl rfl (by kernel_rfl) (by kernel_rfl) (by kernel_rfl) (fun _ _ _ h => h) (Or.inl ⟨by rfl, ?_⟩) hHeld ?_
  rotate_left
  focus (intro w hSw; (try dsimp only at hSw); go_simp; try with_reducible rfl)
  try simp only [List.setIfInBounds_toArray, List.set_cons_zero, List.set_cons_succ]
  refine wpAnyH_takeD 6 (v := .string ⟨l.toArray⟩) rfl rfl (by kernel_rfl) (by kernel_rfl) (by kernel_rfl) (fun _ _ _ h => h) (Or.inl ⟨by rfl, ?_⟩) hHeld ?_
  · intro w hSw
    have k1 := hSw.2.conv
    clear hSw
    go_simp
  simp only [List.setIfInBounds_toArray, List.set_cons_zero, List.set_cons_succ]
  refine wpAnyH_takeD 7 (v := ?_) rfl rfl (by kernel_rfl) (by kernel_rfl) (by kernel_rfl) (fun _ _ _ h => h) (Or.inl ⟨by rfl, ?_⟩) hHeld ?_
  rotate_left
  focus (intro w hSw; (try dsimp only at hSw); go_simp; try with_reducible rfl)
  try simp only [List.setIfInBounds_toArray, List.set_cons_zero, List.set_cons_succ]
  refine wpAnyH_takeD 8 (v := ?_) rfl rfl (by kernel_rfl) (by kernel_rfl) (by kernel_rfl) (fun _ _ _ h => h) (Or.inl ⟨by rfl, ?_⟩) hHeld ?_
  rotate_left
  focus (intro w hSw; (try dsimp only at hSw); go_simp; try with_reducible rfl)
  try simp only [List.setIfInBounds_toArray, List.set_cons_zero, List.set_cons_succ]
  refine wpAnyH_ready (rs := [9]) (by kernel_rfl) (by simp) ?_
  refine AllReadyH.cons rfl (fun K hK => ?_) AllReadyH.nil
  go_simp
  refine (HNum.out _).mono ?_
  rintro e w5 ⟨v5, rfl, hy5, hb5⟩
  have HK := Lib.hid hK
  have k5 := hy5.conv
  replace HB3 := Lib.hid (HB3.out.trans (hb5.mono HB3.out.size))
  refine hK.out _ _ ⟨hHeld.1.below hb5, hHeld.2.below hb5⟩ (fun hHeld => ?_)
  clear hK HK K hy5 hb5
  refine wpAnyH_ready (rs := [10]) (by kernel_rfl) (by simp) ?_
  refine AllReadyH.cons rfl (fun K hK => ?_) AllReadyH.nil
  go_simp
  refine hK.out _ _ hHeld (fun hHeld => ?_)
  clear hK K k5
  refine wpAnyH_takeD 11 (v := .string ⟨(l ++ be x s).toArray⟩) rfl rfl (by kernel_rfl) (by kernel_rfl) (by kernel_rfl) (fun _ _ _ h => h) (Or.inl ⟨by rfl, ?_⟩) hHeld ?_
  · intro w hSw
    clear hSw
    rw [← str_add]
    go_simp
    have h1 := HL.out
    have h2 := H8.out
    rw [be_len]
    omega
  simp only [List.setIfInBounds_toArray, List.set_cons_zero, List.set_cons_succ]
  refine wpAnyH_takeD 12 (v := ?_) rfl rfl (by kernel_rfl) (by kernel_rfl) (by kernel_rfl) (fun _ _ _ h => h) (Or.inl ⟨by rfl, ?_⟩) hHeld ?_
  rotate_left
  focus (intro w hSw; (try dsimp only at hSw); go_simp; try with_reducible rfl)
  try simp only [List.setIfInBounds_toArray, List.set_cons_zero, List.set_cons_succ]
  refine wpAnyH_takeD 13 (v := ?_) rfl rfl (by kernel_rfl) (by kernel_rfl) (by kernel_rfl) (fun _ _ _ h => h) (Or.inl ⟨by rfl, ?_⟩) hHeld ?_
  rotate_left
  focus (intro w hSw; (try dsimp only at hSw); go_simp; try with_reducible rfl)
  try simp only [List.setIfInBounds_toArray, List.set_cons_zero, List.set_cons_succ]
  refine wpAnyH_done (by kernel_rfl) ?_ _
  have hm : m3 = n + s := by have h1 := HM.out; have h2 := HL.out; rw [List.length_append, be_len] at h1; omega
  have q1 : n ≤ m3 := by omega
  have q2 : ¬ c3 = n := by have h1 := HC3.out; have h2 := H1.out; omega
  have hy6 := HY3.out
  obtain ⟨a3, rfl, -⟩ := hy6.at_ (i := 0) (by rw [HM.out]; have := H1.out; omega)
  have HU := Lib.hid (fun (W : World) (hw : By W (.slice (some a3) m3 c3) (l ++ be x s)) => by
    have h7 := hw.tl (k := n) (by rw [HM.out]; exact q1)
    rw [show tlA (some a3) c3 n = some (a3.add n) by unfold tlA; rw [if_neg q2]; rfl, show (l ++ be x s).drop n = be x s by rw [HL.out]; simp] at h7
    exact uint_any h7 (by have := H1.out; omega) (by have := H8.out; omega))
  have hx : numB (be x s) = x := by
    rw [numB_be]
    have h1 := of_decide_eq_true HF.out
    have := Nat.div_add_mod x (256 ^ s)
    rw [h1] at this
    simpa using this
  have HX2 := Lib.hid hx
  have hb5 := Lib.hid (hHeld.1)
  clear hHeld hm hx hy6
  go_wp2_with fail
  refine (HU.out _ hb5.out).mono ?_
  rw [HX2.out]
  rintro e w6 ⟨rfl, rfl⟩
  go_wp2_with fail
  go_ret
  exact ⟨rfl, HB3.out⟩
/-- The law. -/
theorem lawNum {w : World} {A : Option Addr} {n c x : Nat} {s : Int} {l : List UInt8} (h : By w (.slice A n c) l) (hx : x < 18446744073709551616) : Calls Try.prog 6 #[.slice A n c, .int .u64 (x : Int), .int .i64 s] w fun e w' => e = .returned (.bool true) ∧ Below w.heap.size w w' := by
  by_cases hn : n ≤ 100
  · by_cases hs : s < 1 ∨ 8 < s
    · exact lawNum_arg h hn hs
    · obtain ⟨k, rfl⟩ : ∃ k : Nat, s = (k : Int) := ⟨s.toNat, by omega⟩
      cases hf : fitsB x k with
      | true => exact lawNum_good h hn (by omega) (by omega) hx hf
      | false => exact lawNum_range h hn (by omega) (by omega) hx hf
  · exact lawNum_large (by omega) (by have := h.len; omega)
end Go.Proofs.Ytamkegnnlbefdab
