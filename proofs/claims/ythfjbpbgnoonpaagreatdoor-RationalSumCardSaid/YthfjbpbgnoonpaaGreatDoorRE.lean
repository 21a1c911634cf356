/- Contracts of package rational: Make, magnitude, integer, Int, Of, Sign, Neg. -/
import Derived.Test.YthfjbpbgnoonpaaGreatDoorRD
namespace Go.Proofs.YthfjbpbgnoonpaaGreatDoor
open Go.RowKit

theorem mk_gcd {b : Bool} {k d : Nat} (hd : 0 < d) : mkRat (sg b (k / Nat.gcd k d)) (d / Nat.gcd k d) = mkRat (sg b k) d := by
  have hg := Nat.gcd_pos_of_pos_right k hd
  have e1 := Nat.div_mul_cancel (Nat.gcd_dvd_left k d)
  have e2 := Nat.div_mul_cancel (Nat.gcd_dvd_right k d)
  generalize Nat.gcd k d = g at *
  have h2 : d / g ≠ 0 := by intro h; rw [h] at e2; omega
  refine (Rat.mkRat_eq_iff h2 (by omega)).2 ?_
  generalize k / g = x at *
  generalize d / g = y at *
  subst e1 e2
  unfold sg
  cases b
  · simp [Int.mul_assoc, Int.mul_comm, Int.mul_left_comm]
  · simp only [if_true, Int.natCast_mul, Int.neg_mul]
    rw [Int.mul_assoc, Int.mul_comm (g : Int) (y : Int)]
theorem gcd_co {k d : Nat} (hd : 0 < d) : Nat.Coprime (k / Nat.gcd k d) (d / Nat.gcd k d) ∧ 0 < d / Nat.gcd k d :=
  ⟨Nat.coprime_div_gcd_div_gcd (Nat.gcd_pos_of_pos_right k hd), Nat.div_pos (Nat.le_of_dvd hd (Nat.gcd_dvd_right k d)) (Nat.gcd_pos_of_pos_right k hd)⟩
def OpT (W : World) (q : Rat) (a : Nat) (e : Ending) (w' : World) : Prop := ∃ b A n c A2 n2 c2, e = .returned (.tuple #[.agg #[.bool b, .slice A n c, .slice A2 n2 c2], .int .i64 0]) ∧ RatP w' (.agg #[.bool b, .slice A n c, .slice A2 n2 c2]) q a ∧ Below W.heap.size W w'
def ErrT (W : World) (x : Int) (e : Ending) (w' : World) : Prop := e = .returned (.tuple #[.agg #[.bool false, .slice none 0 0, .slice none 0 0], .int .i64 x]) ∧ Below W.heap.size W w'

set_option maxRecDepth 100000 in
set_option maxHeartbeats 4000000 in
theorem make_zero {w : World} {b : Bool} {A A2 : Option Addr} {n c n2 c2 a : Nat} (h2 : NatB w (.agg #[.slice A2 n2 c2]) 0 a) (ha : a ≤ 400) :
    Calls Tryz.prog 15 #[.bool b, .agg #[.slice A n c], .agg #[.slice A2 n2 c2]] w (ErrT w 10) := by
  obtain ⟨w1, hw1, S⟩ := enter3 w [.slice A n c] 28 [.slice A2 n2 c2] 28 [.bool false, .slice none 0 0, .slice none 0 0] 30 (by decide) noint1 (by decide) noint1 (by decide) noint3
  have hz := Lib.hid (zeroN_yes (h2.below S.out.low) ha rfl)
  have c1x0 := (S.out.at 1 rfl).cell (i := 0) rfl
  go_enter Tryz.func15, Tryz.ntmps15
  go_wp2_with fail
  refine hz.out.mono ?_
  rintro e w2 ⟨rfl, hb⟩
  replace S := Lib.hid (S.out.below hb)
  clear hb hw1
  have c0x0 := (S.out.at 0 rfl).cell (i := 0) rfl
  have f0x0 := (S.out.at 0 rfl).frozen (i := 0)
  have c0x1 := (S.out.at 0 rfl).cell (i := 1) rfl
  have f0x1 := (S.out.at 0 rfl).frozen (i := 1)
  have c0x2 := (S.out.at 0 rfl).cell (i := 2) rfl
  have f0x2 := (S.out.at 0 rfl).frozen (i := 2)
  replace S := Lib.hid (S.out.set3 0 rfl (noint_bool (b := false)) (noint_slice (A := none) (n := 0) (c := 0)) (noint_slice (A := none) (n := 0) (c := 0)) rfl)
  go_wp2_with fail
  have c0x0 := (S.out.at 0 rfl).cell (i := 0) rfl
  have c0x1 := (S.out.at 0 rfl).cell (i := 1) rfl
  have c0x2 := (S.out.at 0 rfl).cell (i := 2) rfl
  refine bodyPost_ret (v := .tuple #[.agg #[.bool false, .slice none 0 0, .slice none 0 0], .int .i64 10]) (by simp [results, Tryz.results15, go_sem, c0x0, c0x1, c0x2]) rfl ?_
  exact ⟨rfl, S.out.low⟩
set_option maxRecDepth 100000 in
set_option maxHeartbeats 4000000 in
theorem make_ok {w : World} {b : Bool} {A A2 : Option Addr} {n c n2 c2 k d a : Nat} (h1 : NatB w (.agg #[.slice A n c]) k a) (h2 : NatB w (.agg #[.slice A2 n2 c2]) d a) (ha : a ≤ 400) (hd : 0 < d) :
    Calls Tryz.prog 15 #[.bool b, .agg #[.slice A n c], .agg #[.slice A2 n2 c2]] w (OpT w (mkRat (sg b k) d) a) := by
  obtain ⟨w1, hw1, S⟩ := enter3 w [.slice A n c] 28 [.slice A2 n2 c2] 28 [.bool false, .slice none 0 0, .slice none 0 0] 30 (by decide) noint1 (by decide) noint1 (by decide) noint3
  have hz := Lib.hid (zeroN_no (h2.below S.out.low) ha hd)
  have hR := Lib.hid (fun W (hw : Below w.heap.size w W) => reduce_any (h1.below hw) (h2.below hw) ha ha hd)
  obtain ⟨hc, hp⟩ := gcd_co (k := k) hd
  have hm := mk_gcd (b := b) (k := k) hd
  have hQ := Lib.hid (fun W A n c A2 n2 c2 (h1 : NatB W (.agg #[.slice A n c]) (k / Nat.gcd k d) a) (h2 : NatB W (.agg #[.slice A2 n2 c2]) (d / Nat.gcd k d) a) => reduced_any (b := b) h1 h2 ha hp hc)
  rw [hm] at hQ
  clear hm hc hp h1 h2
  generalize mkRat (sg b k) d = q at hQ ⊢
  have c1x0 := (S.out.at 1 rfl).cell (i := 0) rfl
  go_enter Tryz.func15, Tryz.ntmps15
  go_wp2_with fail
  refine hz.out.mono ?_
  rintro e w2 ⟨rfl, hb⟩
  replace S := Lib.hid (S.out.below hb)
  clear hb hw1 hz c1x0
  have c2x0 := (S.out.at 2 rfl).cell (i := 0) rfl
  have c1x0 := (S.out.at 1 rfl).cell (i := 0) rfl
  go_wp2_with fail
  refine (hR.out _ S.out.low).mono ?_
  rintro e w3 ⟨A4, n4, c4, A5, n5, c5, A6, n6, c6, rfl, hx, hy, -, hb⟩
  replace S := Lib.hid (((S.out.below hb).push (stab_natB _ _ _) hx).push (stab_natB _ _ _) hy)
  clear hb hR hx hy
  have c2x0 := (S.out.at 2 rfl).cell (i := 0) rfl
  have f2x0 := (S.out.at 2 rfl).frozen (i := 0)
  have c1x0 := (S.out.at 1 rfl).cell (i := 0) rfl
  have f1x0 := (S.out.at 1 rfl).frozen (i := 0)
  replace S := Lib.hid ((S.out.set 2 rfl (i := 0) (u := .slice A4 n4 c4) (by simp) noint_slice rfl).set 1 rfl (i := 0) (u := .slice A5 n5 c5) (by simp) noint_slice rfl)
  simp only [List.set_cons_zero, List.set_cons_succ] at S
  have q1 := (S.out.at 2 rfl).cell (i := 0) rfl
  have q2 := (S.out.at 1 rfl).cell (i := 0) rfl
  go_wp2_with fail
  clear c2x0 f2x0 c1x0 f1x0 q1 q2
  generalize World.setCell (World.setCell w3 _ _) _ _ = w4 at S ⊢
  refine (hQ.out _ _ _ _ _ _ _ (S.out.fact 1 rfl) (S.out.fact 0 rfl)).mono ?_
  rintro e w5 ⟨b7, A7, n7, c7, A8, n8, c8, rfl, hq, hb⟩
  replace S := Lib.hid ((S.out.below hb).push (stab_ratP _ _ _) hq)
  clear hb hQ hq
  have c0x0 := (S.out.at 0 rfl).cell (i := 0) rfl
  have f0x0 := (S.out.at 0 rfl).frozen (i := 0)
  have c0x1 := (S.out.at 0 rfl).cell (i := 1) rfl
  have f0x1 := (S.out.at 0 rfl).frozen (i := 1)
  have c0x2 := (S.out.at 0 rfl).cell (i := 2) rfl
  have f0x2 := (S.out.at 0 rfl).frozen (i := 2)
  replace S := Lib.hid (S.out.set3 0 rfl (noint_bool (b := b7)) (noint_slice (A := A7) (n := n7) (c := c7)) (noint_slice (A := A8) (n := n8) (c := c8)) rfl)
  go_wp2_with fail
  have c0x0 := (S.out.at 0 rfl).cell (i := 0) rfl
  have c0x1 := (S.out.at 0 rfl).cell (i := 1) rfl
  have c0x2 := (S.out.at 0 rfl).cell (i := 2) rfl
  refine bodyPost_ret (v := .tuple #[.agg #[.bool b7, .slice A7 n7 c7, .slice A8 n8 c8], .int .i64 0]) (by simp [results, Tryz.results15, go_sem, c0x0, c0x1, c0x2]) rfl ?_
  exact ⟨b7, A7, n7, c7, A8, n8, c8, rfl, S.out.fact 0 rfl, S.out.low⟩

set_option maxRecDepth 100000 in
set_option maxHeartbeats 4000000 in
theorem magnitude_any {w : World} (n : Int) (h1 : -9223372036854775808 ≤ n) (h2 : n ≤ 9223372036854775807) :
    Calls Tryz.prog 71 #[.int .i64 n] w (OpN w n.natAbs 2) := by
  obtain ⟨w1, hw1, S⟩ := enter1 w [.slice none 0 0] 28 (by decide) noint1
  have hO := Lib.hid (fun (m : Int) (hm : m = (n.natAbs : Int)) => ofN (W := w1) m hm (by omega))
  by_cases hn : n < 0
  · by_cases hmin : n = -9223372036854775808
    · subst hmin
      go_enter Tryz.func71, Tryz.ntmps71
      go_wp2_with fail
      refine (hO.out _ (by kernel_rfl)).mono ?_
      rintro e w2 ⟨A, m, c, rfl, hx, hb⟩
      replace S := Lib.hid ((S.out.below hb).push (stab_natB _ _ _) hx)
      clear hb hw1 hx
      have c0x0 := (S.out.at 0 rfl).cell (i := 0) rfl
      have f0x0 := (S.out.at 0 rfl).frozen (i := 0)
      go_wp2_with fail
      replace S := Lib.hid (S.out.set 0 rfl (i := 0) (u := .slice A m c) (by simp) noint_slice rfl)
      have c0x0 := (S.out.at 0 rfl).cell (i := 0) rfl
      refine bodyPost_ret (v := .agg #[.slice A m c]) (by simp [results, Tryz.results71, go_sem, c0x0]) rfl ?_
      exact ⟨A, m, c, rfl, S.out.fact 0 rfl, S.out.low⟩
    · have hm : -9223372036854775808 < n := by omega
      clear hmin
      go_enter Tryz.func71, Tryz.ntmps71
      go_wp2_with fail
      refine (hO.out _ (by omega)).mono ?_
      rintro e w2 ⟨A, m, c, rfl, hx, hb⟩
      replace S := Lib.hid ((S.out.below hb).push (stab_natB _ _ _) hx)
      clear hb hw1 hx
      have c0x0 := (S.out.at 0 rfl).cell (i := 0) rfl
      have f0x0 := (S.out.at 0 rfl).frozen (i := 0)
      go_wp2_with fail
      replace S := Lib.hid (S.out.set 0 rfl (i := 0) (u := .slice A m c) (by simp) noint_slice rfl)
      have c0x0 := (S.out.at 0 rfl).cell (i := 0) rfl
      refine bodyPost_ret (v := .agg #[.slice A m c]) (by simp [results, Tryz.results71, go_sem, c0x0]) rfl ?_
      exact ⟨A, m, c, rfl, S.out.fact 0 rfl, S.out.low⟩
  · have hn : 0 ≤ n := by omega
    go_enter Tryz.func71, Tryz.ntmps71
    go_wp2_with fail
    refine (hO.out _ (by omega)).mono ?_
    rintro e w2 ⟨A, m, c, rfl, hx, hb⟩
    replace S := Lib.hid ((S.out.below hb).push (stab_natB _ _ _) hx)
    clear hb hw1 hx
    have c0x0 := (S.out.at 0 rfl).cell (i := 0) rfl
    have f0x0 := (S.out.at 0 rfl).frozen (i := 0)
    go_wp2_with fail
    replace S := Lib.hid (S.out.set 0 rfl (i := 0) (u := .slice A m c) (by simp) noint_slice rfl)
    have c0x0 := (S.out.at 0 rfl).cell (i := 0) rfl
    refine bodyPost_ret (v := .agg #[.slice A m c]) (by simp [results, Tryz.results71, go_sem, c0x0]) rfl ?_
    exact ⟨A, m, c, rfl, S.out.fact 0 rfl, S.out.low⟩

set_option maxRecDepth 100000 in
set_option maxHeartbeats 4000000 in
theorem integer_any {w : World} {b : Bool} {A : Option Addr} {n c k a : Nat} (h1 : NatB w (.agg #[.slice A n c]) k a) (ha1 : 1 ≤ a) (ha : a ≤ 400) :
    Calls Tryz.prog 72 #[.bool b, .agg #[.slice A n c]] w (OpQ w (mkRat (sg b k) 1) a) := by
  obtain ⟨w1, hw1, S⟩ := enter2 w [.slice A n c] 28 [.bool false, .slice none 0 0, .slice none 0 0] 30 (by decide) noint1 (by decide) noint3
  have hO := Lib.hid (fun W => ofN (W := W) 1 (k := 1) rfl (by omega))
  have hlt := Lib.hid (one_lt ha1)
  have hR := Lib.hid (fun W A2 n2 c2 (hw : Below w.heap.size w W) (h2 : NatB W (.agg #[.slice A2 n2 c2]) 1 a) => reduced_any (b := b) (h1.below hw) h2 ha (by omega) (Nat.coprime_one_right k))
  generalize mkRat (sg b k) 1 = q at hR ⊢
  clear h1
  go_enter Tryz.func72, Tryz.ntmps72
  go_wp2_with fail
  clear hw1
  refine wp_region_held_drew (S := fun W' => W'.cell? ⟨w.heap.size, 0, none⟩ = some (.slice A n c)) (by kernel_rfl) ((S.out.drew.at 1 rfl).cell (i := 0) rfl) (fun hHeld => ?_)
  replace S := Lib.hid S.out.drew
  generalize w1.drew = w2 at S hHeld ⊢
  refine wpAnyH_takeD 0 (v := ?_) rfl rfl (by kernel_rfl) (by kernel_rfl) (by kernel_rfl) (fun _ _ _ h => h) (Or.inl ⟨by rfl, ?_⟩) hHeld ?_
  rotate_left
  focus (intro w hSw; (try dsimp only at hSw); go_simp; try with_reducible rfl)
  simp only [List.setIfInBounds_toArray, List.set_cons_zero, List.set_cons_succ]
  refine wpAnyH_takeD 1 (v := ?_) rfl rfl (by kernel_rfl) (by kernel_rfl) (by kernel_rfl) (fun _ _ _ h => h) (Or.inl ⟨by rfl, ?_⟩) hHeld ?_
  rotate_left
  focus (intro w hSw; (try dsimp only at hSw); go_simp; try with_reducible rfl)
  simp only [List.setIfInBounds_toArray, List.set_cons_zero, List.set_cons_succ]
  refine wpAnyH_ready (rs := [2]) (by kernel_rfl) (by simp) ?_
  refine AllReadyH.cons rfl (fun K hK => ?_) AllReadyH.nil
  go_simp
  refine (hO.out _).mono ?_
  rintro e w3 ⟨A2, n2, c2, rfl, hx, hb⟩
  replace S := Lib.hid (S.out.below hb)
  refine hK.out _ _ ((S.out.at 1 rfl).cell (i := 0) rfl) (fun hHeld => ?_)
  clear hK K
  refine wpAnyH_ready (rs := [3]) (by kernel_rfl) (by simp) ?_
  refine AllReadyH.cons rfl (fun K hK => ?_) AllReadyH.nil
  go_simp
  refine (hR.out _ _ _ _ S.out.low ⟨hx.1, hlt.out⟩).mono ?_
  rintro e w4 ⟨b5, A5, n5, c5, A6, n6, c6, rfl, hq, hb2⟩
  replace S := Lib.hid ((S.out.below hb2).push (stab_ratP _ _ _) hq)
  clear hx hb hq hb2 hO hR
  refine hK.out _ _ ((S.out.at 1 rfl).cell (i := 0) rfl) (fun hHeld => ?_)
  clear hK K
  have c0x0 := (S.out.at 0 rfl).cell (i := 0) rfl
  have f0x0 := (S.out.at 0 rfl).frozen (i := 0)
  have c0x1 := (S.out.at 0 rfl).cell (i := 1) rfl
  have f0x1 := (S.out.at 0 rfl).frozen (i := 1)
  have c0x2 := (S.out.at 0 rfl).cell (i := 2) rfl
  have f0x2 := (S.out.at 0 rfl).frozen (i := 2)
  refine wpAnyH_ready (rs := [4]) (by kernel_rfl) (by simp) ?_
  refine AllReadyH.cons rfl (fun K hK => ?_) AllReadyH.nil
  go_simp
  replace S := Lib.hid (S.out.set3 0 rfl (noint_bool (b := b5)) (noint_slice (A := A5) (n := n5) (c := c5)) (noint_slice (A := A6) (n := n6) (c := c6)) rfl)
  refine hK.out _ _ ((S.out.at 1 rfl).cell (i := 0) rfl) (fun hHeld => ?_)
  clear hK K
  refine wpAnyH_done (by kernel_rfl) ?_ _
  have c0x0 := (S.out.at 0 rfl).cell (i := 0) rfl
  have c0x1 := (S.out.at 0 rfl).cell (i := 1) rfl
  have c0x2 := (S.out.at 0 rfl).cell (i := 2) rfl
  go_wp2_with fail
  refine bodyPost_ret (v := .agg #[.bool b5, .slice A5 n5 c5, .slice A6 n6 c6]) (by simp [results, Tryz.results72, go_sem, c0x0, c0x1, c0x2]) rfl ?_
  exact ⟨b5, A5, n5, c5, A6, n6, c6, rfl, S.out.fact 0 rfl, S.out.low⟩
theorem sg_int (n : Int) : sg (decide (n < 0)) n.natAbs = n := by unfold sg; split <;> simp_all <;> omega
set_option maxRecDepth 100000 in
set_option maxHeartbeats 4000000 in
theorem int_any {w : World} (n : Int) (h1 : -9223372036854775808 ≤ n) (h2 : n ≤ 9223372036854775807) :
    Calls Tryz.prog 27 #[.int .i64 n] w (OpQ w (mkRat n 1) 2) := by
  obtain ⟨w1, hw1, S⟩ := enter1 w [.bool false, .slice none 0 0, .slice none 0 0] 30 (by decide) noint3
  have hM := Lib.hid (fun W => magnitude_any (w := W) n h1 h2)
  have hI := Lib.hid (fun W A m c (h : NatB W (.agg #[.slice A m c]) n.natAbs 2) => integer_any (b := decide (n < 0)) h (by omega) (by omega))
  rw [sg_int] at hI
  generalize mkRat n 1 = q at hI ⊢
  by_cases hn : n < 0
  all_goals
    first | rw [decide_eq_true hn] at hI | rw [decide_eq_false hn] at hI
    go_enter Tryz.func27, Tryz.ntmps27
    go_wp2_with fail
    refine (hM.out _).mono ?_
    rintro e w2 ⟨A, m, c, rfl, hx, hb⟩
    replace S := Lib.hid (S.out.below hb)
    clear hb hw1
    go_wp2_with fail
    refine (hI.out _ _ _ _ hx).mono ?_
    rintro e w3 ⟨b5, A5, n5, c5, A6, n6, c6, rfl, hq, hb⟩
    replace S := Lib.hid ((S.out.below hb).push (stab_ratP _ _ _) hq)
    clear hb hx hq hM hI
    have c0x0 := (S.out.at 0 rfl).cell (i := 0) rfl
    have f0x0 := (S.out.at 0 rfl).frozen (i := 0)
    have c0x1 := (S.out.at 0 rfl).cell (i := 1) rfl
    have f0x1 := (S.out.at 0 rfl).frozen (i := 1)
    have c0x2 := (S.out.at 0 rfl).cell (i := 2) rfl
    have f0x2 := (S.out.at 0 rfl).frozen (i := 2)
    go_wp2_with fail
    replace S := Lib.hid (S.out.set3 0 rfl (noint_bool (b := b5)) (noint_slice (A := A5) (n := n5) (c := c5)) (noint_slice (A := A6) (n := n6) (c := c6)) rfl)
    have c0x0 := (S.out.at 0 rfl).cell (i := 0) rfl
    have c0x1 := (S.out.at 0 rfl).cell (i := 1) rfl
    have c0x2 := (S.out.at 0 rfl).cell (i := 2) rfl
    refine bodyPost_ret (v := .agg #[.bool b5, .slice A5 n5 c5, .slice A6 n6 c6]) (by simp [results, Tryz.results27, go_sem, c0x0, c0x1, c0x2]) rfl ?_
    exact ⟨b5, A5, n5, c5, A6, n6, c6, rfl, S.out.fact 0 rfl, S.out.low⟩
set_option maxRecDepth 100000 in
set_option maxHeartbeats 4000000 in
theorem of_raw {w : World} (n d : Int) (h1 : -9223372036854775808 ≤ n) (h2 : n ≤ 9223372036854775807) (h3 : -9223372036854775808 ≤ d) (h4 : d ≤ 9223372036854775807) :
    Calls Tryz.prog 25 #[.int .i64 n, .int .i64 d] w (if d = 0 then ErrT w 10 else OpT w (mkRat (sg (decide (n < 0) != decide (d < 0)) n.natAbs) d.natAbs) 2) := by
  obtain ⟨w1, hw1, S⟩ := enter1 w [.bool false, .slice none 0 0, .slice none 0 0] 30 (by decide) noint3
  have hM := Lib.hid (fun W => magnitude_any (w := W) n h1 h2)
  have hM2 := Lib.hid (fun W => magnitude_any (w := W) d h3 h4)
  obtain ⟨x, hx⟩ : ∃ x, x = decide (n < 0) := ⟨_, rfl⟩
  obtain ⟨y, hy⟩ : ∃ y, y = decide (d < 0) := ⟨_, rfl⟩
  rw [← hx, ← hy]
  by_cases hd : d = 0
  · rw [if_pos hd]
    have hI := Lib.hid (fun W b A m c A2 m2 c2 (h : NatB W (.agg #[.slice A2 m2 c2]) d.natAbs 2) => make_zero (w := W) (b := b) (A := A) (n := m) (c := c) (by rw [hd] at h; exact h) (by omega))
    clear hd
    go_enter Tryz.func25, Tryz.ntmps25
    go_wp2_with fail
    refine (hM.out _).mono ?_
    rintro e w2 ⟨A, m, c, rfl, -, hb⟩
    replace S := Lib.hid (S.out.below hb)
    clear hb hw1 hM
    go_wp2_with fail
    refine (hM2.out _).mono ?_
    rintro e w3 ⟨A2, m2, c2, rfl, hv, hb⟩
    replace S := Lib.hid (S.out.below hb)
    clear hb hM2
    go_wp2_with fail
    refine (hI.out _ _ _ _ _ _ _ _ hv).mono ?_
    rintro e w4 ⟨rfl, hb⟩
    replace S := Lib.hid (S.out.below hb)
    clear hb hv hI
    have c0x0 := (S.out.at 0 rfl).cell (i := 0) rfl
    have f0x0 := (S.out.at 0 rfl).frozen (i := 0)
    have c0x1 := (S.out.at 0 rfl).cell (i := 1) rfl
    have f0x1 := (S.out.at 0 rfl).frozen (i := 1)
    have c0x2 := (S.out.at 0 rfl).cell (i := 2) rfl
    have f0x2 := (S.out.at 0 rfl).frozen (i := 2)
    go_wp2_with fail
    replace S := Lib.hid (S.out.set3 0 rfl (noint_bool (b := false)) (noint_slice (A := none) (n := 0) (c := 0)) (noint_slice (A := none) (n := 0) (c := 0)) rfl)
    have c0x0 := (S.out.at 0 rfl).cell (i := 0) rfl
    have c0x1 := (S.out.at 0 rfl).cell (i := 1) rfl
    have c0x2 := (S.out.at 0 rfl).cell (i := 2) rfl
    refine bodyPost_ret (v := .tuple #[.agg #[.bool false, .slice none 0 0, .slice none 0 0], .int .i64 10]) (by simp [results, Tryz.results25, go_sem, c0x0, c0x1, c0x2]) rfl ?_
    exact ⟨rfl, S.out.low⟩
  · rw [if_neg hd]
    have hI := Lib.hid (fun W A m c A2 m2 c2 (hu : NatB W (.agg #[.slice A m c]) n.natAbs 2) (h : NatB W (.agg #[.slice A2 m2 c2]) d.natAbs 2) => make_ok (b := x != y) hu h (by omega) (by omega))
    generalize mkRat (sg (x != y) n.natAbs) d.natAbs = q at hI ⊢
    have hX := Lib.hid hx
    have hY := Lib.hid hy
    clear hd hx hy
    go_enter Tryz.func25, Tryz.ntmps25
    go_wp2_with fail
    refine (hM.out _).mono ?_
    rintro e w2 ⟨A, m, c, rfl, hu, hb⟩
    replace S := Lib.hid ((S.out.below hb).push (stab_natB _ _ _) hu)
    clear hb hw1 hM hu
    go_wp2_with fail
    refine (hM2.out _).mono ?_
    rintro e w3 ⟨A2, m2, c2, rfl, hv, hb⟩
    replace S := Lib.hid (S.out.below hb)
    clear hb hM2
    go_wp2_with fail
    rw [← hX.out, ← hY.out]
    refine (hI.out _ _ _ _ _ _ _ (S.out.fact 0 rfl) hv).mono ?_
    rintro e w4 ⟨b5, A5, n5, c5, A6, n6, c6, rfl, hq, hb⟩
    replace S := Lib.hid ((S.out.below hb).push (stab_ratP _ _ _) hq)
    clear hb hv hI
    have c0x0 := (S.out.at 0 rfl).cell (i := 0) rfl
    have f0x0 := (S.out.at 0 rfl).frozen (i := 0)
    have c0x1 := (S.out.at 0 rfl).cell (i := 1) rfl
    have f0x1 := (S.out.at 0 rfl).frozen (i := 1)
    have c0x2 := (S.out.at 0 rfl).cell (i := 2) rfl
    have f0x2 := (S.out.at 0 rfl).frozen (i := 2)
    go_wp2_with fail
    replace S := Lib.hid (S.out.set3 0 rfl (noint_bool (b := b5)) (noint_slice (A := A5) (n := n5) (c := c5)) (noint_slice (A := A6) (n := n6) (c := c6)) rfl)
    have c0x0 := (S.out.at 0 rfl).cell (i := 0) rfl
    have c0x1 := (S.out.at 0 rfl).cell (i := 1) rfl
    have c0x2 := (S.out.at 0 rfl).cell (i := 2) rfl
    refine bodyPost_ret (v := .tuple #[.agg #[.bool b5, .slice A5 n5 c5, .slice A6 n6 c6], .int .i64 0]) (by simp [results, Tryz.results25, go_sem, c0x0, c0x1, c0x2]) rfl ?_
    exact ⟨b5, A5, n5, c5, A6, n6, c6, rfl, S.out.fact 0 rfl, S.out.low⟩
end Go.Proofs.YthfjbpbgnoonpaaGreatDoor
