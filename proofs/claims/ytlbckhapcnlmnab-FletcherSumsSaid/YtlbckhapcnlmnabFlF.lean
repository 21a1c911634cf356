/- The laws' awake; two appends. -/
import Derived.Test.YtlbckhapcnlmnabFlE
namespace Go.Proofs.Ytlbckhapcnlmnab
open Go.RowKit

theorem by_lit (W : World) (l : List UInt8) (hl : l.length ≤ 9223372036854775807) : By (W.alloc (.cells (l.map encB).toArray u8T)) (.slice (some ⟨W.heap.size, 0, none⟩) l.length l.length) l := (OwnB.made (base := W.heap.size) W l (Nat.le_refl _) hl).by_
/-- Two lists of bytes, one after the other. -/
theorem bytes_cat {W : World} {x y : Value} {l1 l2 : List UInt8} (h1 : By W x l1) (h2 : By W y l2) (hn : l1.length + l2.length ≤ 100000000) :
    ∃ v1 W1 A2 c2 W2, (Builtin.append_ #[22, 22] 22 #[.slice (some ⟨W.heap.size, 0, none⟩) 0 0, x]).run Try.prog (W.alloc (.cells #[] u8T)) = .ok v1 W1 ∧
      (Builtin.append_ #[22, 22] 22 #[v1, y]).run Try.prog W1 = .ok (.slice A2 (l1.length + l2.length) c2) W2 ∧ By W2 (.slice A2 (l1.length + l2.length) c2) (l1 ++ l2) ∧ Below W.heap.size W W2 := by
  have hb0 : Below W.heap.size W (W.alloc (.cells #[] u8T)) := (Below.refl _ W).alloc (Nat.le_refl _) _
  have o0 := OwnB.made (base := W.heap.size) W [] (Nat.le_refl _) (by simp)
  obtain ⟨v1, W1, r1, o1, g1⟩ := run_appB 22 o0 (h1.below hb0) (by simp; omega) (by simp)
  have lb1 : Below W.heap.size W W1 := hb0.trans (g1.below o0.base_ (by simp))
  obtain ⟨v2, W2, r2, o2, g2⟩ := run_appB 22 o1 (h2.below lb1) (by simp; omega) lb1.size
  obtain ⟨A2, c2, rfl, -⟩ := o2.form
  have e : ([] ++ l1 ++ l2).length = l1.length + l2.length := by simp
  rw [e] at r2 o2
  refine ⟨v1, W1, A2, c2, W2, r1, r2, ?_, lb1.trans (g2.below o1.base_ lb1.size)⟩
  have := o2.by_
  rwa [List.nil_append] at this
theorem aw1 : s1 [1, 2, 3] % 255 = 6 ∧ s2 [1, 2, 3] % 255 = 10 := by decide
theorem aw2 : sealB [1, 2, 0, 0] 2 = [1, 2, 248, 4] := by decide +kernel
theorem aw3 : sealedB [1, 2, 248, 4] = true ∧ sealedB [1, 2, 0, 0] = false := by decide
set_option maxRecDepth 100000 in
set_option maxHeartbeats 8000000 in
theorem awake_any (w : World) : Calls Try.prog 9 #[] w fun e w' => e = .returned (.bool true) ∧ Below w.heap.size w w' := by
  have hb1 : Below w.heap.size w (w.alloc (.cells #[.int .u8 1, .int .u8 2, .int .u8 3] u8T)) := (Below.refl _ w).alloc (Nat.le_refl _) _
  have hs := sum_any (by_lit w [1, 2, 3] (by simp))
  rw [aw1.1, aw1.2] at hs
  have HS := Lib.hid (show Calls Try.prog 10 #[.slice (some ⟨w.heap.size, 0, none⟩) 3 3] (w.alloc (.cells #[.int .u8 1, .int .u8 2, .int .u8 3] u8T)) _ from hs)
  have HB1 := Lib.hid hb1
  clear hb1 hs
  go_enter Try.func9, Try.ntmps9
  go_wp2_with fail
  refine HS.out.mono ?_
  rintro e w2 ⟨rfl, hw⟩
  replace hw : w.alloc (.cells #[.int .u8 1, .int .u8 2, .int .u8 3] u8T) = w2 := hw
  rw [hw] at HB1
  clear hw HS
  have hb2 : Below w2.heap.size w2 (w2.alloc (.cells #[.int .u8 1, .int .u8 2, .int .u8 0, .int .u8 0] u8T)) := (Below.refl _ w2).alloc (Nat.le_refl _) _
  have hs := seal_any (k := 2) (by_lit w2 [1, 2, 0, 0] (by simp)) (by simp) (by simp)
  have HS := Lib.hid (show Calls Try.prog 16 #[.slice (some ⟨w2.heap.size, 0, none⟩) 4 4, .int .i64 2] (w2.alloc (.cells #[.int .u8 1, .int .u8 2, .int .u8 0, .int .u8 0] u8T)) _ from hs)
  have HB2 := Lib.hid (HB1.out.trans (hb2.mono HB1.out.size))
  clear hb2 hs HB1
  go_wp2_with fail
  refine HS.out.mono ?_
  rintro e w3 ⟨ad, c', rfl, ho, hb⟩
  rw [aw2] at ho
  have hy : By w3 (.slice (some ad) 4 c') [1, 2, 248, 4] := ho.by_
  have HB3 := Lib.hid (HB2.out.trans (hb.mono HB2.out.size))
  have k1 := hy.conv
  have hc := check_any hy
  rw [aw3.1] at hc
  have HC := Lib.hid hc
  clear HS ho hb hy hc HB2
  rw [show ([1, 2, 0, 0] : List UInt8).length = 4 from rfl]
  go_wp2_with fail
  refine HC.out.mono ?_
  rintro e w4 ⟨rfl, rfl⟩
  have hb4 : Below w3.heap.size w3 (w3.alloc (.cells #[.int .u8 1, .int .u8 2, .int .u8 0, .int .u8 0] u8T)) := (Below.refl _ w3).alloc (Nat.le_refl _) _
  have hc := check_any (by_lit w3 [1, 2, 0, 0] (by simp))
  rw [aw3.2] at hc
  have HC2 := Lib.hid (show Calls Try.prog 12 #[.slice (some ⟨w3.heap.size, 0, none⟩) 4 4] (w3.alloc (.cells #[.int .u8 1, .int .u8 2, .int .u8 0, .int .u8 0] u8T)) _ from hc)
  have HB4 := Lib.hid (HB3.out.trans (hb4.mono HB3.out.size))
  clear hb4 hc HC HB3 k1
  go_wp2_with fail
  refine HC2.out.mono ?_
  rintro e w5 ⟨rfl, hw⟩
  replace hw : w3.alloc (.cells #[.int .u8 1, .int .u8 2, .int .u8 0, .int .u8 0] u8T) = w5 := hw
  rw [hw] at HB4
  clear hw
  go_wp2_with fail
  go_ret
  exact ⟨rfl, HB4.out⟩
set_option maxRecDepth 100000 in
set_option maxHeartbeats 8000000 in
theorem lawSums {w : World} {A : Option Addr} {n c : Nat} {l : List UInt8} (h : By w (.slice A n c) l) : Calls Try.prog 3 #[.slice A n c] w fun e w' => e = .returned (.bool true) ∧ Below w.heap.size w w' := by
  obtain ⟨hn, hc, hc2⟩ := h.len
  have HA := Lib.hid (awake_any w)
  by_cases h2 : n ≤ 2000
  · have g1 : ¬ ((n : Int) > 2000) := by omega
    have HS := Lib.hid (fun W (hW : Below w.heap.size w W) => sum_any (h.below hW))
    have HR := Lib.hid (fun W (hW : Below w.heap.size w W) => refSum_any (h.below hW))
    have HC := Lib.hid (fun W (hW : Below w.heap.size w W) => check_any (h.below hW))
    have hs : sealedB l = decide (s1 l % 255 = 0 ∧ s2 l % 255 = 0) := rfl
    obtain ⟨X, hX⟩ : ∃ X, s1 l % 255 = X := ⟨_, rfl⟩
    obtain ⟨Y, hY⟩ : ∃ Y, s2 l % 255 = Y := ⟨_, rfl⟩
    rw [hX, hY] at HS HR hs
    rw [hs] at HC
    clear hX hY hs h hn h2
    by_cases h0 : X = 0
    · subst h0
      by_cases h1 : Y = 0
      · subst h1
        rw [show decide ((0 : Nat) = 0 ∧ (0 : Nat) = 0) = true from rfl] at HC
        go_enter Try.func3, Try.ntmps3
        go_wp2_with fail
        refine HA.out.mono ?_
        rintro e w1 ⟨rfl, hb⟩
        have HB := Lib.hid hb
        clear hb HA
        go_wp2_with fail
        refine (HS.out _ HB.out).mono ?_
        rintro e w2 ⟨rfl, rfl⟩
        go_wp2_with fail
        refine (HR.out _ HB.out).mono ?_
        rintro e w2 ⟨rfl, rfl⟩
        go_wp2_with fail
        refine (HC.out _ HB.out).mono ?_
        rintro e w2 ⟨rfl, rfl⟩
        go_wp2_with fail
        go_ret
        exact ⟨rfl, HB.out⟩
      · have hy : ((Y : Int) == 0) = false := by simpa using h1
        rw [show decide ((0 : Nat) = 0 ∧ Y = 0) = false by simpa using h1] at HC
        clear h1
        go_enter Try.func3, Try.ntmps3
        go_wp2_with fail
        refine HA.out.mono ?_
        rintro e w1 ⟨rfl, hb⟩
        have HB := Lib.hid hb
        clear hb HA
        go_wp2_with fail
        refine (HS.out _ HB.out).mono ?_
        rintro e w2 ⟨rfl, rfl⟩
        go_wp2_with fail
        refine (HR.out _ HB.out).mono ?_
        rintro e w2 ⟨rfl, rfl⟩
        go_wp2_with fail
        refine (HC.out _ HB.out).mono ?_
        rintro e w2 ⟨rfl, rfl⟩
        go_wp2_with fail
        go_ret
        exact ⟨rfl, HB.out⟩
    · have hx : ((X : Int) == 0) = false := by simpa using h0
      rw [show decide (X = 0 ∧ Y = 0) = false by simp [h0]] at HC
      clear h0
      go_enter Try.func3, Try.ntmps3
      go_wp2_with fail
      refine HA.out.mono ?_
      rintro e w1 ⟨rfl, hb⟩
      have HB := Lib.hid hb
      clear hb HA
      go_wp2_with fail
      refine (HS.out _ HB.out).mono ?_
      rintro e w2 ⟨rfl, rfl⟩
      go_wp2_with fail
      refine (HR.out _ HB.out).mono ?_
      rintro e w2 ⟨rfl, rfl⟩
      go_wp2_with fail
      refine (HC.out _ HB.out).mono ?_
      rintro e w2 ⟨rfl, rfl⟩
      go_wp2_with fail
      go_ret
      exact ⟨rfl, HB.out⟩
  · have g1 : (n : Int) > 2000 := by omega
    clear h hn h2
    go_enter Try.func3, Try.ntmps3
    go_wp2_with fail
    refine HA.out.mono ?_
    rintro e w1 ⟨rfl, hb⟩
    have HB := Lib.hid hb
    clear hb HA
    go_wp2_with fail
    go_ret
    exact ⟨rfl, HB.out⟩
end Go.Proofs.Ytlbckhapcnlmnab
