/- Contracts of the reference of layer 2: Make, made, size, Of, Int. -/
import Derived.Test.YthfjbpbgnoonpaaGreatDoorRP
import Derived.Test.YthfjbpbgnoonpaaGreatDoorRE
namespace Go.Proofs.YthfjbpbgnoonpaaGreatDoor
open Go.RowKit

set_option maxRecDepth 100000 in
set_option maxHeartbeats 8000000 in
theorem refMake_ok {w : World} {b : Bool} {A A2 : Option Addr} {n c n2 c2 k d a : Nat} (h1 : RefB w (.slice A n c) k a) (h2 : RefB w (.slice A2 n2 c2) d a) (ha : a ≤ 200) (hd : 0 < d) :
    Calls Tryz.prog 52 #[.bool b, .slice A n c, .slice A2 n2 c2] w (OpGT w (mkRat (sg b k) d) a) := by
  obtain ⟨w1, hw1, S⟩ := enter1 w [.bool false, .slice none 0 0, .slice none 0 0] 34 (by decide) noint3
  have hn2 : n2 ≠ 0 := fun h => by have := h2.n_zero.1 h; omega
  have hl2 := h2.n_le
  have hG := Lib.hid (gcdF (h1.below S.out.low) (h2.below S.out.low) ha ha hd)
  have hg0 := Nat.gcd_pos_of_pos_right k hd
  obtain ⟨hc, hp⟩ := gcd_co (k := k) hd
  have hm := mk_gcd (b := b) (k := k) hd
  rw [← hm]
  have hdl : d / Nat.gcd k d ≤ d := Nat.div_le_self _ _
  have hlt := h2.2.2
  clear hm
  generalize Nat.gcd k d = g at *
  have hD1 := Lib.hid (fun (W : World) (v : Value) (hw : Below w.heap.size w W) (h : RefB W v g a) => divF (h1.below hw) h ha ha hg0)
  have hD2 := Lib.hid (fun (W : World) (v : Value) (hw : Below w.heap.size w W) (h : RefB W v g a) => divF (h2.below hw) h ha ha hg0)
  have HC := Lib.hid hc
  have HP := Lib.hid hp
  have HL := Lib.hid (Nat.lt_of_le_of_lt hdl hlt)
  generalize k / g = K at *
  generalize d / g = D at *
  have hnz : (n2 == 0) = false := by simpa using hn2
  have hnz' : 0 < n2 := by omega
  clear h1 h2 hc hp hg0 hdl hlt hd hn2
  go_enter Tryz.func52, Tryz.ntmps52
  go_wp2_with fail
  refine hG.out.mono ?_
  rintro e w2 ⟨A3, n3, c3, rfl, hx, hb⟩
  replace S := Lib.hid ((S.out.below hb).push (stab_refB _ _ _) hx)
  clear hb hw1 hG hx hnz hnz' hl2
  go_wp2_with fail
  refine (hD1.out _ _ S.out.low (S.out.fact 0 rfl)).mono ?_
  rintro e w3 ⟨A4, n4, c4, A5, n5, c5, rfl, hx, -, hb⟩
  replace S := Lib.hid ((S.out.below hb).push (stab_refB _ _ _) hx)
  clear hb hx hD1
  go_wp2_with fail
  refine (hD2.out _ _ S.out.low (S.out.fact 1 rfl)).mono ?_
  rintro e w4 ⟨A6, n6, c6, A7, n7, c7, rfl, hx, -, hb⟩
  replace S := Lib.hid ((S.out.below hb).push (stab_refB _ _ _) hx)
  clear hb hD2
  have hk := S.out.fact 1 rfl
  have hkz := RefB.n_zero hk
  have hkl := RefB.n_le hk
  have hdz := RefB.n_zero hx
  have hdl := RefB.n_le hx
  have hdp := HP.out
  have hde := hx.n_eq
  have c0x0 := (S.out.at 0 rfl).cell (i := 0) rfl
  have f0x0 := (S.out.at 0 rfl).frozen (i := 0)
  have c0x1 := (S.out.at 0 rfl).cell (i := 1) rfl
  have f0x1 := (S.out.at 0 rfl).frozen (i := 1)
  have c0x2 := (S.out.at 0 rfl).cell (i := 2) rfl
  have f0x2 := (S.out.at 0 rfl).frozen (i := 2)
  have key : ∀ (b' : Bool) (A8 A9 : Option Addr) (n8 c8 n9 c9 : Nat), b' = (b && decide (0 < K)) → RefB w4 (.slice A8 n8 c8) K a → RefB w4 (.slice A9 n9 c9) (if D = 1 then 0 else D) a → OpGT w (mkRat (sg b K) D) a (.returned (.tuple #[.agg #[.bool b', .slice A8 n8 c8, .slice A9 n9 c9], .int .i64 0])) (((w4.setCell ⟨w.heap.size, 0, none⟩ (.bool b')).setCell ⟨w.heap.size, 1, none⟩ (.slice A8 n8 c8)).setCell ⟨w.heap.size, 2, none⟩ (.slice A9 n9 c9)) := by
    intro b' A8 A9 n8 c8 n9 c9 hb' h8 h9
    have S2 := ((S.out.push (stab_refB _ _ _) h8).push (stab_refB _ _ _) h9).set3 0 rfl (noint_bool (b := b')) (noint_slice (A := A8) (n := n8) (c := c8)) (noint_slice (A := A9) (n := n9) (c := c9)) rfl
    refine ⟨b', A8, n8, c8, A9, n9, c9, rfl, ?_, S2.low⟩
    subst hb'
    exact ratF_mk (S2.fact 1 rfl) (S2.fact 0 rfl) HP.out HL.out HC.out
  have cell : ∀ (b' : Bool) (A8 A9 : Option Addr) (n8 c8 n9 c9 : Nat), ∃ W5, (((w4.setCell ⟨w.heap.size, 0, none⟩ (.bool b')).setCell ⟨w.heap.size, 1, none⟩ (.slice A8 n8 c8)).setCell ⟨w.heap.size, 2, none⟩ (.slice A9 n9 c9)) = W5 ∧ W5.cell? ⟨w.heap.size, 0, none⟩ = some (.bool b') ∧ W5.cell? ⟨w.heap.size, 1, none⟩ = some (.slice A8 n8 c8) ∧ W5.cell? ⟨w.heap.size, 2, none⟩ = some (.slice A9 n9 c9) := by
    intro b' A8 A9 n8 c8 n9 c9
    have S2 := S.out.set3 0 rfl (noint_bool (b := b')) (noint_slice (A := A8) (n := n8) (c := c8)) (noint_slice (A := A9) (n := n9) (c := c9)) rfl
    exact ⟨_, rfl, (S2.at 0 rfl).cell (i := 0) rfl, (S2.at 0 rfl).cell (i := 1) rfl, (S2.at 0 rfl).cell (i := 2) rfl⟩
  have KEY := Lib.hid key
  have CELL := Lib.hid cell
  have HK := Lib.hid hk
  have HX := Lib.hid hx
  clear key cell hk
  by_cases hD : D = 1
  · have hn6 : n6 = 1 := by rw [hde, hD, digs_pos _ _ (by omega) (by omega)]; simp [digs_zero]
    obtain ⟨p, rfl, hcell⟩ := hx.cell0 hn6
    rw [hD] at hcell
    have P9 := Lib.hid (show RefB w4 (.slice none 0 0) (if D = 1 then 0 else D) a by rw [if_pos hD]; exact RefB.zero _ _)
    subst hn6
    clear hx hD hdz hdl hde hdp HX
    by_cases hK : K = 0
    · obtain rfl : n4 = 0 := hkz.2 hK
      have p1 : false = (b && decide (0 < K)) := by rw [hK]; simp
      have p2 : RefB w4 (.slice none 0 0) K a := by rw [hK]; exact RefB.zero _ _
      have P1 := Lib.hid p1
      have P2 := Lib.hid p2
      clear p1 p2 hK hkz HK
      go_wp2_with fail
      obtain ⟨W5, e5, q0, q1, q2⟩ := CELL.out false none none 0 0 0 0
      have hpost := KEY.out false none none 0 0 0 0 P1.out P2.out P9.out
      rw [e5] at hpost ⊢
      refine bodyPost_ret (v := .tuple #[.agg #[.bool false, .slice none 0 0, .slice none 0 0], .int .i64 0]) (by simp [results, Tryz.results52, go_sem, q0, q1, q2]) rfl ?_
      exact hpost
    · have hn4 : 0 < n4 := by rcases Nat.eq_zero_or_pos n4 with h0 | h0; (exact absurd (hkz.1 h0) hK); exact h0
      have hn4' : (n4 == 0) = false := by simp; omega
      have p1 : b = (b && decide (0 < K)) := by rw [decide_eq_true (Nat.pos_of_ne_zero hK), Bool.and_true]
      have P1 := Lib.hid p1
      clear p1 hK hkz
      go_wp2_with fail
      obtain ⟨W5, e5, q0, q1, q2⟩ := CELL.out b A4 none n4 c4 0 0
      have hpost := KEY.out b A4 none n4 c4 0 0 P1.out HK.out P9.out
      rw [e5] at hpost ⊢
      refine bodyPost_ret (v := .tuple #[.agg #[.bool b, .slice A4 n4 c4, .slice none 0 0], .int .i64 0]) (by simp [results, Tryz.results52, go_sem, q0, q1, q2]) rfl ?_
      exact hpost
  · have P9 := Lib.hid (show RefB w4 (.slice A6 n6 c6) (if D = 1 then 0 else D) a by rw [if_neg hD]; exact hx)
    by_cases hn6 : n6 = 1
    · obtain ⟨p, rfl, hcell⟩ := hx.cell0 hn6
      have hD1 : ((D : Int) == 1) = false := by simp; omega
      subst hn6
      clear hx hD hdz hdl hde hdp HX
      by_cases hK : K = 0
      · obtain rfl : n4 = 0 := hkz.2 hK
        have p1 : false = (b && decide (0 < K)) := by rw [hK]; simp
        have p2 : RefB w4 (.slice none 0 0) K a := by rw [hK]; exact RefB.zero _ _
        have P1 := Lib.hid p1
        have P2 := Lib.hid p2
        clear p1 p2 hK hkz HK
        go_wp2_with fail
        obtain ⟨W5, e5, q0, q1, q2⟩ := CELL.out false none (some p) 0 0 1 c6
        have hpost := KEY.out false none (some p) 0 0 1 c6 P1.out P2.out P9.out
        rw [e5] at hpost ⊢
        refine bodyPost_ret (v := .tuple #[.agg #[.bool false, .slice none 0 0, .slice (some p) 1 c6], .int .i64 0]) (by simp [results, Tryz.results52, go_sem, q0, q1, q2]) rfl ?_
        exact hpost
      · have hn4 : 0 < n4 := by rcases Nat.eq_zero_or_pos n4 with h0 | h0; (exact absurd (hkz.1 h0) hK); exact h0
        have hn4' : (n4 == 0) = false := by simp; omega
        have p1 : b = (b && decide (0 < K)) := by rw [decide_eq_true (Nat.pos_of_ne_zero hK), Bool.and_true]
        have P1 := Lib.hid p1
        clear p1 hK hkz
        go_wp2_with fail
        obtain ⟨W5, e5, q0, q1, q2⟩ := CELL.out b A4 (some p) n4 c4 1 c6
        have hpost := KEY.out b A4 (some p) n4 c4 1 c6 P1.out HK.out P9.out
        rw [e5] at hpost ⊢
        refine bodyPost_ret (v := .tuple #[.agg #[.bool b, .slice A4 n4 c4, .slice (some p) 1 c6], .int .i64 0]) (by simp [results, Tryz.results52, go_sem, q0, q1, q2]) rfl ?_
        exact hpost
    · have hn6' : ((n6 : Int) == 1) = false := by simp; omega
      have hn60 : 0 < n6 := by rcases Nat.eq_zero_or_pos n6 with h0 | h0; (have := hdz.1 h0; omega); exact h0
      clear hx hD hdz hde hdp HX hn6
      by_cases hK : K = 0
      · obtain rfl : n4 = 0 := hkz.2 hK
        have p1 : false = (b && decide (0 < K)) := by rw [hK]; simp
        have p2 : RefB w4 (.slice none 0 0) K a := by rw [hK]; exact RefB.zero _ _
        have P1 := Lib.hid p1
        have P2 := Lib.hid p2
        clear p1 p2 hK hkz HK
        go_wp2_with fail
        obtain ⟨W5, e5, q0, q1, q2⟩ := CELL.out false none A6 0 0 n6 c6
        have hpost := KEY.out false none A6 0 0 n6 c6 P1.out P2.out P9.out
        rw [e5] at hpost ⊢
        refine bodyPost_ret (v := .tuple #[.agg #[.bool false, .slice none 0 0, .slice A6 n6 c6], .int .i64 0]) (by simp [results, Tryz.results52, go_sem, q0, q1, q2]) rfl ?_
        exact hpost
      · have hn4 : 0 < n4 := by rcases Nat.eq_zero_or_pos n4 with h0 | h0; (exact absurd (hkz.1 h0) hK); exact h0
        have hn4' : (n4 == 0) = false := by simp; omega
        have p1 : b = (b && decide (0 < K)) := by rw [decide_eq_true (Nat.pos_of_ne_zero hK), Bool.and_true]
        have P1 := Lib.hid p1
        clear p1 hK hkz
        go_wp2_with fail
        obtain ⟨W5, e5, q0, q1, q2⟩ := CELL.out b A4 A6 n4 c4 n6 c6
        have hpost := KEY.out b A4 A6 n4 c4 n6 c6 P1.out HK.out P9.out
        rw [e5] at hpost ⊢
        refine bodyPost_ret (v := .tuple #[.agg #[.bool b, .slice A4 n4 c4, .slice A6 n6 c6], .int .i64 0]) (by simp [results, Tryz.results52, go_sem, q0, q1, q2]) rfl ?_
        exact hpost
set_option maxRecDepth 100000 in
set_option maxHeartbeats 8000000 in
theorem refMake_zero {w : World} {b : Bool} {A A2 : Option Addr} {n c n2 c2 a : Nat} (h2 : RefB w (.slice A2 n2 c2) 0 a) :
    Calls Tryz.prog 52 #[.bool b, .slice A n c, .slice A2 n2 c2] w (ErrT w 10) := by
  obtain ⟨w1, hw1, S⟩ := enter1 w [.bool false, .slice none 0 0, .slice none 0 0] 34 (by decide) noint3
  obtain rfl : n2 = 0 := h2.n_zero.2 rfl
  clear h2
  have c0x0 := (S.out.at 0 rfl).cell (i := 0) rfl
  have f0x0 := (S.out.at 0 rfl).frozen (i := 0)
  have c0x1 := (S.out.at 0 rfl).cell (i := 1) rfl
  have f0x1 := (S.out.at 0 rfl).frozen (i := 1)
  have c0x2 := (S.out.at 0 rfl).cell (i := 2) rfl
  have f0x2 := (S.out.at 0 rfl).frozen (i := 2)
  go_enter Tryz.func52, Tryz.ntmps52
  go_wp2_with fail
  clear hw1
  replace S := Lib.hid (S.out.set3 0 rfl (noint_bool (b := false)) (noint_slice (A := none) (n := 0) (c := 0)) (noint_slice (A := none) (n := 0) (c := 0)) rfl)
  have c0x0 := (S.out.at 0 rfl).cell (i := 0) rfl
  have c0x1 := (S.out.at 0 rfl).cell (i := 1) rfl
  have c0x2 := (S.out.at 0 rfl).cell (i := 2) rfl
  refine bodyPost_ret (v := .tuple #[.agg #[.bool false, .slice none 0 0, .slice none 0 0], .int .i64 10]) (by simp [results, Tryz.results52, go_sem, c0x0, c0x1, c0x2]) rfl ?_
  exact ⟨rfl, S.out.low⟩
set_option maxRecDepth 100000 in
set_option maxHeartbeats 8000000 in
theorem made_any {w : World} {b : Bool} {A A2 : Option Addr} {n c n2 c2 k d a : Nat} (h1 : RefB w (.slice A n c) k a) (h2 : RefB w (.slice A2 n2 c2) d a) (ha : a ≤ 200) (hd : 0 < d) :
    Calls Tryz.prog 73 #[.bool b, .slice A n c, .slice A2 n2 c2] w (OpG w (mkRat (sg b k) d) a) := by
  obtain ⟨w1, hw1, S⟩ := enter1 w [.bool false, .slice none 0 0, .slice none 0 0] 34 (by decide) noint3
  have hM := Lib.hid (refMake_ok (b := b) (h1.below S.out.low) (h2.below S.out.low) ha hd)
  generalize mkRat (sg b k) d = q at hM ⊢
  clear h1 h2
  go_enter Tryz.func73, Tryz.ntmps73
  go_wp2_with fail
  refine hM.out.mono ?_
  rintro e w2 ⟨b3, A3, n3, c3, A4, n4, c4, rfl, hq, hb⟩
  replace S := Lib.hid (((S.out.below hb).push (stab_ratF _ _ _) hq).alloc [.bool b3, .slice A3 n3 c3, .slice A4 n4 c4] 34 (by decide) noint3)
  generalize hx7 : w2.heap.size = x7 at S
  obtain ⟨w3, hw3⟩ : ∃ w3, w2.alloc (.cells #[.bool b3, .slice A3 n3 c3, .slice A4 n4 c4] 34) = w3 := ⟨_, rfl⟩
  rw [hw3] at S
  clear hb hq hM hw1
  have c0x0 := (S.out.at 0 rfl).cell (i := 0) rfl
  have f0x0 := (S.out.at 0 rfl).frozen (i := 0)
  have c0x1 := (S.out.at 0 rfl).cell (i := 1) rfl
  have f0x1 := (S.out.at 0 rfl).frozen (i := 1)
  have c0x2 := (S.out.at 0 rfl).cell (i := 2) rfl
  have f0x2 := (S.out.at 0 rfl).frozen (i := 2)
  have c1x0 := (S.out.at 1 rfl).cell (i := 0) rfl
  have f1x0 := (S.out.at 1 rfl).frozen (i := 0)
  have c1x1 := (S.out.at 1 rfl).cell (i := 1) rfl
  have f1x1 := (S.out.at 1 rfl).frozen (i := 1)
  have c1x2 := (S.out.at 1 rfl).cell (i := 2) rfl
  have f1x2 := (S.out.at 1 rfl).frozen (i := 2)
  go_wp2_with fail
  clear hw3 hx7
  replace S := Lib.hid (S.out.set3 1 rfl (noint_bool (b := b3)) (noint_slice (A := A3) (n := n3) (c := c3)) (noint_slice (A := A4) (n := n4) (c := c4)) rfl)
  have c1x0 := (S.out.at 1 rfl).cell (i := 0) rfl
  have c1x1 := (S.out.at 1 rfl).cell (i := 1) rfl
  have c1x2 := (S.out.at 1 rfl).cell (i := 2) rfl
  refine bodyPost_ret (v := .agg #[.bool b3, .slice A3 n3 c3, .slice A4 n4 c4]) (by simp [results, Tryz.results73, go_sem, c1x0, c1x1, c1x2]) rfl ?_
  exact ⟨b3, A3, n3, c3, A4, n4, c4, rfl, S.out.fact 0 rfl, S.out.low⟩
set_option maxRecDepth 100000 in
set_option maxHeartbeats 4000000 in
theorem size_any {w : World} (n : Int) (h1 : -9223372036854775808 ≤ n) (h2 : n ≤ 9223372036854775807) :
    Calls Tryz.prog 74 #[.int .i64 n] w (OpF w n.natAbs 2) := by
  have hO := Lib.hid (fun (m : Int) (hm : m = (n.natAbs : Int)) => ofF (W := w) m hm (by omega))
  by_cases hn : n < 0
  · go_enter Tryz.func74, Tryz.ntmps74
    go_wp2_with fail
    refine (hO.out _ (by omega)).mono ?_
    rintro e w2 ⟨A, m, c, rfl, hx, hb⟩
    go_wp2_with fail
    go_ret
    exact ⟨A, m, c, rfl, hx, hb⟩
  · have hn : 0 ≤ n := by omega
    go_enter Tryz.func74, Tryz.ntmps74
    go_wp2_with fail
    refine (hO.out _ (by omega)).mono ?_
    rintro e w2 ⟨A, m, c, rfl, hx, hb⟩
    go_wp2_with fail
    go_ret
    exact ⟨A, m, c, rfl, hx, hb⟩
set_option maxRecDepth 100000 in
set_option maxHeartbeats 4000000 in
theorem refOfQ_any {w : World} (n d : Int) (h1 : -9223372036854775808 ≤ n) (h2 : n ≤ 9223372036854775807) (h3 : -9223372036854775808 ≤ d) (h4 : d ≤ 9223372036854775807) (hd : d ≠ 0) :
    Calls Tryz.prog 30 #[.int .i64 n, .int .i64 d] w (OpG w (mkRat (sg (decide (n < 0) != decide (d < 0)) n.natAbs) d.natAbs) 2) := by
  obtain ⟨w1, hw1, S⟩ := enter1 w [.bool false, .slice none 0 0, .slice none 0 0] 34 (by decide) noint3
  have hM := Lib.hid (fun W => size_any (w := W) n h1 h2)
  have hM2 := Lib.hid (fun W => size_any (w := W) d h3 h4)
  obtain ⟨x, hx⟩ : ∃ x, x = decide (n < 0) := ⟨_, rfl⟩
  obtain ⟨y, hy⟩ : ∃ y, y = decide (d < 0) := ⟨_, rfl⟩
  rw [← hx, ← hy]
  have hI := Lib.hid (fun W A m c A2 m2 c2 (hu : RefB W (.slice A m c) n.natAbs 2) (h : RefB W (.slice A2 m2 c2) d.natAbs 2) => made_any (b := x != y) hu h (by omega) (by omega))
  generalize mkRat (sg (x != y) n.natAbs) d.natAbs = q at hI ⊢
  have hX := Lib.hid hx
  have hY := Lib.hid hy
  clear hd hx hy
  go_enter Tryz.func30, Tryz.ntmps30
  go_wp2_with fail
  refine (hM.out _).mono ?_
  rintro e w2 ⟨A, m, c, rfl, hu, hb⟩
  replace S := Lib.hid ((S.out.below hb).push (stab_refB _ _ _) hu)
  clear hb hw1 hM hu
  go_wp2_with fail
  refine (hM2.out _).mono ?_
  rintro e w3 ⟨A2, m2, c2, rfl, hv, hb⟩
  replace S := Lib.hid (S.out.below hb)
  clear hb hM2
  go_wp2_with fail
  rw [← hX.out, ← hY.out]
  refine (hI.out _ _ _ _ _ _ _ (S.out.fact 0 rfl) hv).mono ?_
  rintro e w4 ⟨b5, A5, n5, c5, A6, n6, c6, rfl, hq, hb⟩
  replace S := Lib.hid ((S.out.below hb).push (stab_ratF _ _ _) hq)
  clear hb hv hI
  have c0x0 := (S.out.at 0 rfl).cell (i := 0) rfl
  have f0x0 := (S.out.at 0 rfl).frozen (i := 0)
  have c0x1 := (S.out.at 0 rfl).cell (i := 1) rfl
  have f0x1 := (S.out.at 0 rfl).frozen (i := 1)
  have c0x2 := (S.out.at 0 rfl).cell (i := 2) rfl
  have f0x2 := (S.out.at 0 rfl).frozen (i := 2)
  go_wp2_with fail
  replace S := Lib.hid (S.out.set3 0 rfl (noint_bool (b := b5)) (noint_slice (A := A5) (n := n5) (c := c5)) (noint_slice (A := A6) (n := n6) (c := c6)) rfl)
  have c0x0 := (S.out.at 0 rfl).cell (i := 0) rfl
  have c0x1 := (S.out.at 0 rfl).cell (i := 1) rfl
  have c0x2 := (S.out.at 0 rfl).cell (i := 2) rfl
  refine bodyPost_ret (v := .agg #[.bool b5, .slice A5 n5 c5, .slice A6 n6 c6]) (by simp [results, Tryz.results30, go_sem, c0x0, c0x1, c0x2]) rfl ?_
  exact ⟨b5, A5, n5, c5, A6, n6, c6, rfl, S.out.fact 0 rfl, S.out.low⟩
set_option maxRecDepth 100000 in
set_option maxHeartbeats 4000000 in
theorem refInt_any {w : World} (n : Int) (h1 : -9223372036854775808 ≤ n) (h2 : n ≤ 9223372036854775807) :
    Calls Tryz.prog 28 #[.int .i64 n] w (OpG w (mkRat n 1) 2) := by
  obtain ⟨w1, hw1, S⟩ := enter1 w [.bool false, .slice none 0 0, .slice none 0 0] 34 (by decide) noint3
  have hO := refOfQ_any (w := w1) n 1 h1 h2 (by omega) (by omega) (by omega)
  rw [show (decide (n < 0) != decide ((1 : Int) < 0)) = decide (n < 0) by simp, sg_int] at hO
  have HO := Lib.hid hO
  clear hO
  go_enter Tryz.func28, Tryz.ntmps28
  go_wp2_with fail
  refine HO.out.mono ?_
  rintro e w4 ⟨b5, A5, n5, c5, A6, n6, c6, rfl, hq, hb⟩
  replace S := Lib.hid ((S.out.below hb).push (stab_ratF _ _ _) hq)
  clear hb hw1 HO
  have c0x0 := (S.out.at 0 rfl).cell (i := 0) rfl
  have f0x0 := (S.out.at 0 rfl).frozen (i := 0)
  have c0x1 := (S.out.at 0 rfl).cell (i := 1) rfl
  have f0x1 := (S.out.at 0 rfl).frozen (i := 1)
  have c0x2 := (S.out.at 0 rfl).cell (i := 2) rfl
  have f0x2 := (S.out.at 0 rfl).frozen (i := 2)
  go_wp2_with fail
  replace S := Lib.hid (S.out.set3 0 rfl (noint_bool (b := b5)) (noint_slice (A := A5) (n := n5) (c := c5)) (noint_slice (A := A6) (n := n6) (c := c6)) rfl)
  have c0x0 := (S.out.at 0 rfl).cell (i := 0) rfl
  have c0x1 := (S.out.at 0 rfl).cell (i := 1) rfl
  have c0x2 := (S.out.at 0 rfl).cell (i := 2) rfl
  refine bodyPost_ret (v := .agg #[.bool b5, .slice A5 n5 c5, .slice A6 n6 c6]) (by simp [results, Tryz.results28, go_sem, c0x0, c0x1, c0x2]) rfl ?_
  exact ⟨b5, A5, n5, c5, A6, n6, c6, rfl, S.out.fact 0 rfl, S.out.low⟩
end Go.Proofs.YthfjbpbgnoonpaaGreatDoor
