/- The walks of the laws FletcherUpdates, FletcherParts. -/
import Derived.Test.YtlbckhapcnlmnabFlF
namespace Go.Proofs.Ytlbckhapcnlmnab
open Go.RowKit

theorem cat1 (l m : List UInt8) : U1 (s1 l % 255) m = s1 (l ++ m) % 255 := by
  unfold U1
  rw [s1_append]
  omega
theorem cat2 (l m : List UInt8) : U2 (s1 l % 255) (s2 l % 255) m = s2 (l ++ m) % 255 := by
  unfold U2
  rw [s2_append]
  have h : m.length * (s1 l % 255) % 255 = m.length * s1 l % 255 := by rw [Nat.mul_mod, Nat.mod_mod, ← Nat.mul_mod]
  omega
set_option maxRecDepth 100000 in
set_option maxHeartbeats 8000000 in
theorem lawUpdates_large {w : World} {A B : Option Addr} {n c m d : Nat} {p q : Int} (hn : 1000 < n ∨ 1000 < m) (hn2 : n ≤ 9223372036854775807) (hm2 : m ≤ 9223372036854775807) : Calls Try.prog 4 #[.slice A n c, .slice B m d, .agg #[.int .i16 p, .int .i16 q]] w fun e w' => e = .returned (.bool true) ∧ Below w.heap.size w w' := by
  obtain ⟨w0, hw0⟩ : ∃ w0, w.alloc (.cells #[.int .i16 p, .int .i16 q] 28) = w0 := ⟨_, rfl⟩
  have hb0 : Below w.heap.size w w0 := by rw [← hw0]; exact (Below.refl _ w).alloc (Nat.le_refl _) _
  have HA := Lib.hid (awake_any w0)
  have HB0 := Lib.hid hb0
  clear hb0
  by_cases h1 : 1000 < n
  · have g1 : (n : Int) > 1000 := by omega
    clear hn h1
    go_enter Try.func4, Try.ntmps4
    go_wp2_with fail
    refine HA.out.mono ?_
    rintro e w1 ⟨rfl, hb⟩
    have HB := Lib.hid (HB0.out.trans (hb.mono HB0.out.size))
    clear hb HA
    go_wp2_with fail
    go_ret
    exact ⟨rfl, HB.out⟩
  · have g1 : ¬ ((n : Int) > 1000) := by omega
    have g2 : (m : Int) > 1000 := by omega
    clear hn h1
    go_enter Try.func4, Try.ntmps4
    go_wp2_with fail
    refine HA.out.mono ?_
    rintro e w1 ⟨rfl, hb⟩
    have HB := Lib.hid (HB0.out.trans (hb.mono HB0.out.size))
    clear hb HA
    go_wp2_with fail
    go_ret
    exact ⟨rfl, HB.out⟩
set_option maxRecDepth 100000 in
set_option maxHeartbeats 8000000 in
theorem lawUpdates {w : World} {A B : Option Addr} {n c m d : Nat} {l1 l2 : List UInt8} {p q : Int} (h1 : By w (.slice A n c) l1) (h2 : By w (.slice B m d) l2) (hp : -32768 ≤ p ∧ p ≤ 32767) (hq : -32768 ≤ q ∧ q ≤ 32767) :
    Calls Try.prog 4 #[.slice A n c, .slice B m d, .agg #[.int .i16 p, .int .i16 q]] w fun e w' => e = .returned (.bool true) ∧ Below w.heap.size w w' := by
  obtain ⟨hn, hc, hc2⟩ := h1.len
  obtain ⟨hm, hd, hd2⟩ := h2.len
  by_cases hl : 1000 < n ∨ 1000 < m
  · exact lawUpdates_large hl (by omega) (by omega)
  · have g1 : ¬ ((n : Int) > 1000) := by omega
    have g2 : ¬ ((m : Int) > 1000) := by omega
    obtain ⟨w0, hw0⟩ : ∃ w0, w.alloc (.cells #[.int .i16 p, .int .i16 q] 28) = w0 := ⟨_, rfl⟩
    have hG : Blk w0 w.heap.size [.int .i16 p, .int .i16 q] 28 := by rw [← hw0]; exact Blk.new w _ _
    have hb0 : Below w.heap.size w w0 := by rw [← hw0]; exact (Below.refl _ w).alloc (Nat.le_refl _) _
    have HA := Lib.hid (awake_any w0)
    have HB0 := Lib.hid hb0
    have HG := Lib.hid hG
    have H1 := Lib.hid h1
    have H2 := Lib.hid h2
    have HLn := Lib.hid (show l1.length + l2.length ≤ 2000 ∧ n = l1.length ∧ m = l2.length by omega)
    have HR := Lib.hid (fun W (hW : Below w.heap.size w W) => refSum_any (h1.below hW))
    have ew : ∀ (X : Nat) (z : Int), ((X : Int) + 255 * z) % 255 = ((X % 255 : Nat) : Int) := fun X z => by omega
    have HU := Lib.hid (fun W (hW : Below w.heap.size w W) => update_any (((s1 l1 % 255 : Nat) : Int) + 255 * p) (((s2 l1 % 255 : Nat) : Int) + 255 * q) (s1 l1 % 255) (s2 l1 % 255) (by rw [ew, Nat.mod_mod]) (by rw [ew, Nat.mod_mod]) (h2.below hW))
    have HR2 := Lib.hid (fun W A c (hW : By W (.slice A (l1.length + l2.length) c) (l1 ++ l2)) => refSum_any hW)
    rw [cat1, cat2] at HU
    have hX2 : s1 l1 % 255 < 255 := Nat.mod_lt _ (by decide)
    have hY2 : s2 l1 % 255 < 255 := Nat.mod_lt _ (by decide)
    generalize s1 l1 % 255 = X at HR HU hX2
    generalize s2 l1 % 255 = Y at HR HU hY2
    generalize s1 (l1 ++ l2) % 255 = P at HU HR2
    generalize s2 (l1 ++ l2) % 255 = Q at HU HR2
    have k1 : IntKind.i64.wrap p = p := IntWalk.i64_in _ (by omega)
    have k2 : IntKind.i64.wrap q = q := IntWalk.i64_in _ (by omega)
    have k3 : IntKind.i64.wrap (255 * p) = 255 * p := IntWalk.i64_in _ (by omega)
    have k4 : IntKind.i64.wrap (255 * q) = 255 * q := IntWalk.i64_in _ (by omega)
    have k5 : IntKind.i64.wrap ((X : Int) + 255 * p) = (X : Int) + 255 * p := IntWalk.i64_in _ (by omega)
    have k6 : IntKind.i64.wrap ((Y : Int) + 255 * q) = (Y : Int) + 255 * q := IntWalk.i64_in _ (by omega)
    clear hb0 hG h1 h2 hl hn hm hp hq ew hX2 hY2
    go_enter Try.func4, Try.ntmps4
    go_wp2_with fail
    refine HA.out.mono ?_
    rintro e w1 ⟨rfl, hb⟩
    have HB := Lib.hid (HB0.out.trans (hb.mono HB0.out.size))
    have hG1 := HG.out.step hb
    have c0 := hG1.cell (i := 0) rfl
    have c1 := hG1.cell (i := 1) rfl
    clear hb HA hG1 HG hw0
    go_wp2_with fail
    refine (HR.out _ HB.out).mono ?_
    rintro e w2 ⟨rfl, rfl⟩
    clear HR
    go_wp2_with fail
    refine (HU.out _ HB.out).mono ?_
    rintro e w2 ⟨rfl, rfl⟩
    clear HU c0 c1
    obtain ⟨v1, W1, A2, c2, W2, r1, r2, hy, hlow⟩ := bytes_cat (H1.out.below HB.out) (H2.out.below HB.out) (by have := HLn.out; omega)
    have HR1 := Lib.hid r1
    have HR3 := Lib.hid r2
    have HY := Lib.hid hy
    have HB2 := Lib.hid (HB.out.trans (hlow.mono HB.out.size))
    clear r1 r2 hy hlow
    go_wp2_with (first
      | (at_builtin; refine wpList_app rfl (.tmp 46) (.tmp 47) _ rfl rfl rfl HR1.out ?_)
      | (at_builtin; refine wpList_app rfl (.tmp 48) (.tmp 49) _ rfl rfl rfl HR3.out ?_))
    refine (HR2.out _ _ _ HY.out).mono ?_
    rintro e w3 ⟨rfl, rfl⟩
    clear HR2
    go_wp2_with fail
    go_ret
    exact ⟨rfl, HB2.out⟩
end Go.Proofs.Ytlbckhapcnlmnab
