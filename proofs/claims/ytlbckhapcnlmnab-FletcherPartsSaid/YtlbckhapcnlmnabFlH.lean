/- The walk of the law FletcherParts. -/
import Derived.Test.YtlbckhapcnlmnabFlG
import Derived.Deep.OwnRows
namespace Go.Proofs.Ytlbckhapcnlmnab
open Go.RowKit

theorem wpList_appG {ops : Array Oper} {rest : List Oper} {o : Oper} {a : Act} {Q : Exit → Act → World → Prop} {w w' : World} {v u v' : Value} (hgd : Region.wanted o (yielded ops a.tmps) = true) (s x : Operand) (t : TypeId) (ho : o.op = .call { callee := .builtin .append, args := #[s, x], argTypes := #[t, t] }) (hs : a.eval s = v) (hx : a.eval x = u)
    (hr : (Builtin.append_ #[t, t] o.type #[v, u]).run Try.prog w = .ok v' w') (h : wpList Try.prog ops Q rest (a.put o.dst v') w') : wpList Try.prog ops Q (o :: rest) a w := by
  simp only [wpList]
  rw [if_pos hgd]
  exact .inl (wp_app s x t ho hs hx hr h)
/-- A row of zeros, and bytes behind it. -/
theorem zeros_cat {W : World} {x : Value} {l : List UInt8} {n : Nat} (hx : By W x l) (hn : n ≤ 255) (hl : l.length ≤ 1000) :
    ∃ v1 W1, (Builtin.append_ #[22, 22] 22 #[.slice (some ⟨W.heap.size, 0, none⟩) n n, x]).run Try.prog (W.alloc (.cells (madeCells #[.int .u8 0] n) u8T)) = .ok v1 W1 ∧ By W1 v1 (List.replicate n 0 ++ l) ∧ Below W.heap.size W W1 := by
  have e : madeCells #[.int .u8 0] n = ((List.replicate n (0 : UInt8)).map encB).toArray := by
    apply Array.ext
    · simp [madeCells]
    · intro i h1 h2
      simp [madeCells, Nat.mod_one, encB]
  have o0 := OwnB.made (base := W.heap.size) W (List.replicate n 0) (Nat.le_refl _) (by simp; omega)
  rw [← e, List.length_replicate] at o0
  have hb0 : Below W.heap.size W (W.alloc (.cells (madeCells #[.int .u8 0] n) u8T)) := (Below.refl _ W).alloc (Nat.le_refl _) _
  obtain ⟨v1, W1, r1, o1, g1⟩ := run_appB 22 o0 (hx.below hb0) (by simp; omega) (by simp)
  exact ⟨v1, W1, r1, o1.by_, hb0.trans (g1.below o0.base_ (by simp))⟩
set_option maxRecDepth 100000 in
set_option maxHeartbeats 8000000 in
theorem lawParts_large {w : World} {A B : Option Addr} {n c m d : Nat} {z : Int} (hn : n < 2 ∨ 300 < n ∨ 300 < m) (hn2 : n ≤ 9223372036854775807) (hm2 : m ≤ 9223372036854775807) : Calls Try.prog 8 #[.slice A n c, .slice B m d, .int .u8 z] w fun e w' => e = .returned (.bool true) ∧ Below w.heap.size w w' := by
  have HA := Lib.hid (awake_any w)
  by_cases h1 : n < 2
  · have g1 : (n : Int) < 2 := by omega
    clear hn h1
    go_enter Try.func8, Try.ntmps8
    go_wp2_with fail
    refine HA.out.mono ?_
    rintro e w1 ⟨rfl, hb⟩
    have HB := Lib.hid hb
    clear hb HA
    go_wp2_with fail
    go_ret
    exact ⟨rfl, HB.out⟩
  · have g1 : ¬ ((n : Int) < 2) := by omega
    by_cases h2 : 300 < n
    · have g2 : (n : Int) > 300 := by omega
      clear hn h1 h2
      go_enter Try.func8, Try.ntmps8
      go_wp2_with fail
      refine HA.out.mono ?_
      rintro e w1 ⟨rfl, hb⟩
      have HB := Lib.hid hb
      clear hb HA
      go_wp2_with fail
      go_ret
      exact ⟨rfl, HB.out⟩
    · have g2 : ¬ ((n : Int) > 300) := by omega
      have g3 : (m : Int) > 300 := by omega
      clear hn h1 h2
      go_enter Try.func8, Try.ntmps8
      go_wp2_with fail
      refine HA.out.mono ?_
      rintro e w1 ⟨rfl, hb⟩
      have HB := Lib.hid hb
      clear hb HA
      go_wp2_with fail
      go_ret
      exact ⟨rfl, HB.out⟩
set_option maxRecDepth 100000 in
set_option maxHeartbeats 8000000 in
theorem lawParts {w : World} {A B : Option Addr} {n c m d : Nat} {l1 l2 : List UInt8} {z : Nat} (h1 : By w (.slice A n c) l1) (h2 : By w (.slice B m d) l2) (hz : z < 256) :
    Calls Try.prog 8 #[.slice A n c, .slice B m d, .int .u8 (z : Int)] w fun e w' => e = .returned (.bool true) ∧ Below w.heap.size w w' := by
  obtain ⟨hn, hc, hc2⟩ := h1.len
  obtain ⟨hm, hd, hd2⟩ := h2.len
  by_cases hl : n < 2 ∨ 300 < n ∨ 300 < m
  · exact lawParts_large hl (by omega) (by omega)
  · have g1 : ¬ ((n : Int) < 2) := by omega
    have g2 : ¬ ((n : Int) > 300) := by omega
    have g3 : ¬ ((m : Int) > 300) := by omega
    have HA := Lib.hid (awake_any w)
    have H2 := Lib.hid h2
    obtain ⟨k, hk⟩ : ∃ k, n - 2 = k := ⟨_, rfl⟩
    have g4 : IntKind.i64.wrap ((n : Int) - 2) = (k : Int) := by rw [IntWalk.i64_in _ (by omega)]; omega
    have HLn := Lib.hid (show l1.length ≤ 300 ∧ l2.length ≤ 300 ∧ k + 1 < l1.length by omega)
    have HS := Lib.hid (fun W (hW : Below w.heap.size w W) => seal_any (h1.below hW) (k := k) (by omega) (by omega))
    have HQ := Lib.hid (seal_sealed l1 k (by omega))
    have HE := Lib.hid (part_sums (sealB l1 k) l2 HQ.out)
    have HZ := Lib.hid (zeros_sealed z (sealB l1 k) HQ.out)
    have HV := Lib.hid (sealB_len l1 k)
    have HSb := Lib.hid (fun W (hW : Below w.heap.size w W) => sum_any (h2.below hW))
    obtain ⟨L, hL⟩ : ∃ L, sealB l1 k = L := ⟨_, rfl⟩
    have HL := Lib.hid hL
    rw [hL] at HQ HE HZ HV
    clear hL
    have HSx := Lib.hid (fun W A c (hW : By W (.slice A (L.length + l2.length) c) (L ++ l2)) => sum_any hW)
    rw [HE.out.1, HE.out.2] at HSx
    generalize s1 l2 % 255 = X at HSx HSb
    generalize s2 l2 % 255 = Y at HSx HSb
    clear h1 h2 hl hn hm hk HQ HE
    go_enter Try.func8, Try.ntmps8
    go_wp2_with fail
    refine HA.out.mono ?_
    rintro e w1 ⟨rfl, hb⟩
    have HB := Lib.hid hb
    clear hb HA
    go_wp2_with fail
    refine (HS.out _ HB.out).mono ?_
    rintro e w2 ⟨ad, c', rfl, ho, hb⟩
    rw [HL.out] at ho
    have HY := Lib.hid ho.by_
    have HB2 := Lib.hid (HB.out.trans (hb.mono HB.out.size))
    rw [← HV.out] at HY
    rw [← HV.out]
    obtain ⟨v1, W1, A2, c2, W2, r1, r2, hy, hlow⟩ := bytes_cat HY.out (H2.out.below HB2.out) (by have := HLn.out; have := HV.out; omega)
    have HR1 := Lib.hid r1
    have HR3 := Lib.hid r2
    have HY2 := Lib.hid hy
    have HB3 := Lib.hid (HB2.out.trans (hlow.mono HB2.out.size))
    have HYx := Lib.hid (HY.out.below hlow)
    clear r1 r2 hy hlow ho hb HS HB HY
    go_wp2_with (first
      | (at_builtin; refine wpList_app rfl (.tmp 39) (.tmp 40) _ rfl rfl rfl HR1.out ?_)
      | (at_builtin; refine wpList_app rfl (.tmp 41) (.tmp 42) _ rfl rfl rfl HR3.out ?_))
    refine (HSx.out _ _ _ HY2.out).mono ?_
    rintro e w3 ⟨rfl, rfl⟩
    clear HSx HR1 HR3
    go_wp2_with fail
    refine (HSb.out _ HB3.out).mono ?_
    rintro e w3 ⟨rfl, rfl⟩
    obtain ⟨v3, W3, r3, y3, hlow⟩ := zeros_cat (n := z) HYx.out (by omega) (by have := HLn.out; have := HV.out; omega)
    have hmk := run_make_row' (P := Try.prog) 22 u8T (.int .u8 0) 1 uSl infoB rfl .u8 .u8 z (by omega) (by omega) W2
    have HR := Lib.hid r3
    have HC := Lib.hid (show Calls Try.prog 12 #[v3] W3 fun e w' => e = .returned (.bool true) ∧ W3 = w' by
      obtain ⟨A3, c3, e3, -⟩ := y3.form
      subst e3
      rw [← HZ.out]
      exact check_any y3)
    have HB4 := Lib.hid (HB3.out.trans (hlow.mono HB3.out.size))
    clear r3 y3 hlow HSb HY2
    go_wp2_with (at_builtin; refine wpList_appG (by rfl) (.tmp 62) (.tmp 63) _ rfl rfl rfl HR.out ?_)
    refine HC.out.mono ?_
    rintro e w4 ⟨rfl, rfl⟩
    go_wp2_with fail
    go_ret
    exact ⟨rfl, HB4.out⟩
end Go.Proofs.Ytlbckhapcnlmnab
