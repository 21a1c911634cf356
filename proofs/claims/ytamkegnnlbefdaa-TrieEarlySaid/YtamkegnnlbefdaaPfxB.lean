/- Contracts of the reference of package prefix: mask, Valid, Contains, Covers. -/
import Derived.Test.YtamkegnnlbefdaaPfxA
namespace Go.Proofs.Ytamkegnnlbefdaa
open Go.RowKit

theorem msk_lt {i : Nat} : msk i < 4294967296 := by unfold msk; have := Nat.two_pow_pos (32 - i); omega
theorem msk_step {i : Nat} (h : i < 32) : msk i ||| 2 ^ (31 - i) = msk (i + 1) := by
  have e : (2 : Nat) ^ (32 - i) = 2 ^ (31 - i) + 2 ^ (31 - i) := by rw [show 32 - i = (31 - i) + 1 by omega, Nat.pow_succ]; omega
  have hp := Nat.two_pow_pos (31 - i)
  have hle : (2 : Nat) ^ (32 - i) ≤ 2 ^ 32 := Nat.pow_le_pow_right (by omega) (by omega)
  rw [msk_eq i (by omega), Nat.mul_comm, ← Nat.two_pow_add_eq_or_of_lt (by rw [e]; omega), Nat.mul_comm, ← msk_eq i (by omega)]
  unfold msk
  rw [show 32 - (i + 1) = 31 - i by omega]
  have h32 : (2 : Nat) ^ 32 = 4294967296 := rfl
  omega
theorem msk_zero : msk 0 = 0 := by decide
theorem run_or_nat (x y : Nat) (hx : x < 4294967296) (hy : y < 4294967296) {z : Nat} (e : x ||| y = z) : bits BinOp.or IntKind.u32 (x : Int) (y : Int) = (z : Int) := by
  rw [u32_or_nat x y hx hy, e]
theorem run_and_nat (x y : Nat) (hx : x < 4294967296) (hy : y < 4294967296) {z : Nat} (e : x &&& y = z) : bits BinOp.and IntKind.u32 (x : Int) (y : Int) = (z : Int) := by
  rw [u32_and_nat x y hx hy, e]

theorem bits_step {k : Nat} (h : k < 32) : bits BinOp.or IntKind.u32 ((msk k : Nat) : Int) (2 ^ (31 - k) % 4294967296) = ((msk (k + 1) : Nat) : Int) := by
  have hl : 2 ^ (31 - k) < 4294967296 := Nat.lt_of_le_of_lt (Nat.pow_le_pow_right (by omega) (show 31 - k ≤ 31 by omega)) (by decide)
  have e : ((2 : Int) ^ (31 - k) % 4294967296) = ((2 ^ (31 - k) : Nat) : Int) := by
    have : ((2 : Int) ^ (31 - k)) = ((2 ^ (31 - k) : Nat) : Int) := by simp
    rw [this]
    generalize 2 ^ (31 - k) = x at hl ⊢
    omega
  rw [e]
  exact run_or_nat _ _ msk_lt hl (msk_step h)
set_option maxHeartbeats 1000000 in
theorem mask_any (n : Nat) (w : World) (hn : n ≤ 32) : Calls Try.prog 48 #[.int .i64 (n : Int)] w fun e w' => e = .returned (.int .u32 (msk n : Nat)) ∧ w' = w := by
  have hN := Lib.hid hn
  have hz : ((msk 0 : Nat) : Int) = 0 := by rw [msk_zero]; rfl
  have HZ := Lib.hid hz
  clear hz
  go_enter Try.func48, Try.ntmps48
  go_wp2
  go_loop [3, 4] (fun m i => ∃ k : Nat, k ≤ n ∧ i = .int .i64 k ∧ m = .int .u32 (msk k : Nat)) (fun _ i => n - (intOf i).toNat)
  case atStart => exact ⟨0, Nat.zero_le _, rfl, by rw [HZ.out]⟩
  case round =>
    obtain ⟨k, hk, rfl, rfl⟩ := hrel
    by_cases hlt : k < n
    · have hk32 : k < 32 := by omega
      have HS := Lib.hid (bits_step hk32)
      clear hk32
      go_wp2
      go_round
      case rel => exact ⟨k + 1, by omega, by go_num, by rw [HS.out]⟩
      case measure => simp [intOf]; omega
    · obtain rfl : k = n := by omega
      go_wp2
      go_ret
      exact ⟨rfl, rfl⟩

theorem vldB_and {a n : Nat} (h : n ≤ 32) : vldB a (n : Int) = decide (((fst a n : Nat) : Int) = (a : Int)) := by
  rw [vldB_nat h, decide_eq_decide]
  omega

set_option maxHeartbeats 1000000 in
theorem refValid_any (a : Nat) (l : Int) (w : World) (ha : a < 4294967296) : Calls Try.prog 27 #[pv a l] w fun e w' => e = .returned (.bool (vldB a l)) ∧ Below w.heap.size w w' := by
  by_cases h0 : 0 ≤ l
  · by_cases h1 : l ≤ 32
    · obtain ⟨n, rfl⟩ := Int.eq_ofNat_of_zero_le h0
      have hn : n ≤ 32 := by omega
      rw [vldB_and hn]
      have hF := Lib.hid (fun W => mask_any n W hn)
      have hE := run_and_nat a (msk n) ha msk_lt (and_msk a n ha hn)
      obtain ⟨m, hm⟩ : ∃ m, msk n = m := ⟨_, rfl⟩
      obtain ⟨f, hf⟩ : ∃ f, fst a n = f := ⟨_, rfl⟩
      rw [hm] at hF hE
      rw [hf] at hE ⊢
      clear hn hm hf
      go_enter Try.func27, Try.ntmps27
      go_wp2
      go_quiet ((go_at_call 48; exact Calls.quiet_of_same (hF.out _)))
      go_wp2_with fail
      go_ret
      exact ⟨rfl, bdrewN ((Below.refl _ _).alloc (Nat.le_refl _) _) _⟩
    · rw [vldB_big h1]
      have hB : decide (l ≤ 32) = false := by simpa using h1
      go_enter Try.func27, Try.ntmps27
      go_wp2
      go_quiet (fail)
      go_wp2_with fail
      go_ret
      exact ⟨rfl, bdrewN ((Below.refl _ _).alloc (Nat.le_refl _) _) _⟩
  · rw [vldB_neg h0]
    have hB : decide (0 ≤ l) = false := by simpa using h0
    go_enter Try.func27, Try.ntmps27
    go_wp2
    go_quiet (fail)
    go_wp2_with fail
    go_ret
    exact ⟨rfl, bdrewN ((Below.refl _ _).alloc (Nat.le_refl _) _) _⟩

set_option maxHeartbeats 1000000 in
theorem refContains_any (a : Nat) (l : Int) (x : Nat) (w : World) (ha : a < 4294967296) (hx : x < 4294967296) : Calls Try.prog 36 #[pv a l, .int .u32 (x : Int)] w fun e w' => e = .returned (.bool (hasB a l x)) ∧ Below w.heap.size w w' := by
  have hV := Lib.hid (fun W => refValid_any a l W ha)
  obtain ⟨w1, hw1⟩ : ∃ w1, w.alloc (.cells #[.int .u32 (a : Int), .int .i64 l] 35) = w1 := ⟨_, rfl⟩
  have hb1 : Below w.heap.size w w1 := by rw [← hw1]; exact (Below.refl _ _).alloc (Nat.le_refl _) _
  have hP : PB w1 w.heap.size a l := by rw [← hw1]; exact PB.new _ _ _
  have HP := Lib.hid (And.intro hP hb1)
  have c0 := hP.cell0
  have c1 := hP.cell1
  clear hP hb1
  cases hv : vldB a l with
  | true =>
    obtain ⟨n, rfl, hn, -⟩ := vldB_true hv
    rw [hasB_true hv]
    rw [hv] at hV
    have hF := Lib.hid (fun W => mask_any n W hn)
    have hE := run_and_nat x (msk n) hx msk_lt (and_msk x n hx hn)
    obtain ⟨m, hm⟩ : ∃ m, msk n = m := ⟨_, rfl⟩
    obtain ⟨f, hf⟩ : ∃ f, fst x n = f := ⟨_, rfl⟩
    rw [hm] at hF hE
    rw [hf] at hE ⊢
    clear hn hv hm hf
    go_enter Try.func36, Try.ntmps36
    go_wp2_with fail
    clear hw1
    go_region_held3 (fun W' => W'.cell? ⟨w.heap.size, 0, none⟩ = some (.int .u32 (a : Int)) ∧ W'.cell? ⟨w.heap.size, 1, none⟩ = some (.int .i64 (n : Int)))
      (first | exact ⟨c0, c1⟩ | exact ⟨d0, d1⟩ | go_keep)
      (first | (go_at_call 27; refine (hV.out _).mono ?_; rintro e w2 ⟨rfl, hb⟩; have HK := Lib.hid (And.intro (HP.out.1.drew.step hb) (HP.out.2.drew.trans (hb.mono HP.out.2.drew.size))); clear hb; have d0 := HK.out.1.cell0; have d1 := HK.out.1.cell1) | (go_at_call 48; refine (hF.out _).mono ?_; rintro e w3 ⟨rfl, rfl⟩))
    all_goals
      go_wp2_with fail
      go_ret
      exact ⟨rfl, HK.out.2⟩
  | false =>
    rw [hasB_false hv]
    rw [hv] at hV
    clear hv
    go_enter Try.func36, Try.ntmps36
    go_wp2_with fail
    clear hw1
    refine wp_region_held_drew (S := fun W' => W'.cell? ⟨w.heap.size, 0, none⟩ = some (.int .u32 (a : Int)) ∧ W'.cell? ⟨w.heap.size, 1, none⟩ = some (.int .i64 l)) (by kernel_rfl) ⟨c0, c1⟩ (fun hHeld => ?_)
    refine wpAnyH_takeD 0 (v := ?_) rfl rfl (by kernel_rfl) (by kernel_rfl) (by kernel_rfl) (fun _ _ _ h => h) (Or.inl ⟨by rfl, ?_⟩) hHeld ?_
    rotate_left
    focus (intro w hSw; (try dsimp only at hSw); go_simp; try with_reducible rfl)
    try simp only [List.setIfInBounds_toArray, List.set_cons_zero, List.set_cons_succ]
    refine wpAnyH_ready (rs := [1]) (by kernel_rfl) (by simp) ?_
    refine AllReadyH.cons rfl (fun K hK => ?_) AllReadyH.nil
    go_simp
    refine (hV.out _).mono ?_
    rintro e w2 ⟨rfl, hb⟩
    have HK := Lib.hid (And.intro (HP.out.1.drew.step hb) (HP.out.2.drew.trans (hb.mono HP.out.2.drew.size)))
    clear hb
    refine hK.out _ _ ⟨HK.out.1.cell0, HK.out.1.cell1⟩ (fun hHeld => ?_)
    clear hK K
    refine wpAnyH_takeD 2 (v := ?_) rfl rfl (by kernel_rfl) (by kernel_rfl) (by kernel_rfl) (fun _ _ _ h => h) (Or.inl ⟨by rfl, ?_⟩) hHeld ?_
    rotate_left
    focus (intro w hSw; (try dsimp only at hSw); go_simp; try with_reducible rfl)
    try simp only [List.setIfInBounds_toArray, List.set_cons_zero, List.set_cons_succ]
    refine wpAnyH_takeD 3 (v := undef) rfl rfl (by kernel_rfl) (by kernel_rfl) (by kernel_rfl) (fun _ _ _ h => h) (Or.inr ⟨by rfl, rfl⟩) hHeld ?_
    simp only [List.setIfInBounds_toArray, List.set_cons_zero, List.set_cons_succ]
    refine wpAnyH_takeD 4 (v := undef) rfl rfl (by kernel_rfl) (by kernel_rfl) (by kernel_rfl) (fun _ _ _ h => h) (Or.inr ⟨by rfl, rfl⟩) hHeld ?_
    simp only [List.setIfInBounds_toArray, List.set_cons_zero, List.set_cons_succ]
    refine wpAnyH_takeD 5 (v := undef) rfl rfl (by kernel_rfl) (by kernel_rfl) (by kernel_rfl) (fun _ _ _ h => h) (Or.inr ⟨by rfl, rfl⟩) hHeld ?_
    simp only [List.setIfInBounds_toArray, List.set_cons_zero, List.set_cons_succ]
    refine wpAnyH_takeD 6 (v := undef) rfl rfl (by kernel_rfl) (by kernel_rfl) (by kernel_rfl) (fun _ _ _ h => h) (Or.inr ⟨by rfl, rfl⟩) hHeld ?_
    simp only [List.setIfInBounds_toArray, List.set_cons_zero, List.set_cons_succ]
    refine wpAnyH_takeD 7 (v := undef) rfl rfl (by kernel_rfl) (by kernel_rfl) (by kernel_rfl) (fun _ _ _ h => h) (Or.inr ⟨by rfl, rfl⟩) hHeld ?_
    simp only [List.setIfInBounds_toArray, List.set_cons_zero, List.set_cons_succ]
    refine wpAnyH_takeD 8 (v := undef) rfl rfl (by kernel_rfl) (by kernel_rfl) (by kernel_rfl) (fun _ _ _ h => h) (Or.inr ⟨by rfl, rfl⟩) hHeld ?_
    simp only [List.setIfInBounds_toArray, List.set_cons_zero, List.set_cons_succ]
    refine wpAnyH_takeD 9 (v := undef) rfl rfl (by kernel_rfl) (by kernel_rfl) (by kernel_rfl) (fun _ _ _ h => h) (Or.inr ⟨by rfl, rfl⟩) hHeld ?_
    simp only [List.setIfInBounds_toArray, List.set_cons_zero, List.set_cons_succ]
    refine wpAnyH_takeD 10 (v := undef) rfl rfl (by kernel_rfl) (by kernel_rfl) (by kernel_rfl) (fun _ _ _ h => h) (Or.inr ⟨by rfl, rfl⟩) hHeld ?_
    simp only [List.setIfInBounds_toArray, List.set_cons_zero, List.set_cons_succ]
    refine wpAnyH_takeD 11 (v := ?_) rfl rfl (by kernel_rfl) (by kernel_rfl) (by kernel_rfl) (fun _ _ _ h => h) (Or.inl ⟨by rfl, ?_⟩) hHeld ?_
    rotate_left
    focus (intro w hSw; (try dsimp only at hSw); go_simp; try with_reducible rfl)
    try simp only [List.setIfInBounds_toArray, List.set_cons_zero, List.set_cons_succ]
    refine wpAnyH_takeD 12 (v := ?_) rfl rfl (by kernel_rfl) (by kernel_rfl) (by kernel_rfl) (fun _ _ _ h => h) (Or.inl ⟨by rfl, ?_⟩) hHeld ?_
    rotate_left
    focus (intro w hSw; (try dsimp only at hSw); go_simp; try with_reducible rfl)
    try simp only [List.setIfInBounds_toArray, List.set_cons_zero, List.set_cons_succ]
    refine wpAnyH_done (by kernel_rfl) ?_ _
    go_wp2_with fail
    go_ret
    exact ⟨rfl, HK.out.2⟩

set_option maxHeartbeats 1000000 in
theorem refCovers_any (a : Nat) (l : Int) (b : Nat) (m : Int) (w : World) (ha : a < 4294967296) (hb : b < 4294967296) : Calls Try.prog 43 #[pv a l, pv b m] w fun e w' => e = .returned (.bool (covB a l b m)) ∧ Below w.heap.size w w' := by
  have hV := Lib.hid (fun W => refValid_any b m W hb)
  have hC := Lib.hid (fun W => refContains_any a l b W ha hb)
  have hR : covB a l b m = (vldB b m && decide (l ≤ m) && hasB a l b) := rfl
  obtain ⟨r, hr⟩ : ∃ r, covB a l b m = r := ⟨_, rfl⟩
  obtain ⟨w1, hw1⟩ : ∃ w1, w.alloc (.cells #[.int .u32 (a : Int), .int .i64 l] 35) = w1 := ⟨_, rfl⟩
  have hP1 : PB w1 w.heap.size a l := by rw [← hw1]; exact PB.new _ _ _
  have hb1 : Below w.heap.size w w1 := by rw [← hw1]; exact (Below.refl _ _).alloc (Nat.le_refl _) _
  obtain ⟨w2, hw2⟩ : ∃ w2, w1.alloc (.cells #[.int .u32 (b : Int), .int .i64 m] 35) = w2 := ⟨_, rfl⟩
  have hQ2 : PB w2 w1.heap.size b m := by rw [← hw2]; exact PB.new _ _ _
  have hP2 : PB w2 w.heap.size a l := by rw [← hw2]; exact hP1.alloc _
  have hb2 : Below w.heap.size w w2 := by rw [← hw2]; exact hb1.alloc hb1.size _
  have c0 := hP2.cell0
  have c1 := hP2.cell1
  have d0 := hQ2.cell0
  have d1 := hQ2.cell1
  have H2 := Lib.hid (And.intro hP2 (And.intro hQ2 hb2))
  rw [hr]
  clear hP1 hb1 hQ2 hP2 hb2
  cases hv : vldB b m with
  | false =>
    have HR : Hid (r = false) := Lib.hid (by rw [← hr, hR, hv]; rfl)
    rw [hv] at hV
    clear hv hr hR hC
    go_enter Try.func43, Try.ntmps43
    go_wp2_with fail
    refine (hV.out _).mono ?_
    rintro e w3 ⟨rfl, hb3⟩
    have HB := Lib.hid (H2.out.2.2.trans (hb3.mono H2.out.2.2.size))
    clear hb3 hw1 hw2
    go_wp2_with fail
    go_ret
    exact ⟨by rw [HR.out]; rfl, HB.out⟩
  | true =>
    rw [hv] at hV
    by_cases hlm : l ≤ m
    · have HR : Hid (r = hasB a l b) := Lib.hid (by rw [← hr, hR, hv]; simp [hlm])
      obtain ⟨t, ht⟩ : ∃ t, hasB a l b = t := ⟨_, rfl⟩
      rw [ht] at HR hC
      clear hv hr hR ht
      go_enter Try.func43, Try.ntmps43
      go_wp2_with fail
      refine (hV.out _).mono ?_
      rintro e w3 ⟨rfl, hb3⟩
      have H3 := Lib.hid (And.intro (H2.out.1.step hb3) (And.intro (H2.out.2.1.step hb3) (H2.out.2.2.trans (hb3.mono H2.out.2.2.size))))
      clear hb3
      have c0 := H3.out.1.cell0
      have c1 := H3.out.1.cell1
      have d0 := H3.out.2.1.cell0
      have d1 := H3.out.2.1.cell1
      clear hw1 hw2
      go_wp2_with fail
      refine (hC.out _).mono ?_
      rintro e w4 ⟨rfl, hb4⟩
      have HB := Lib.hid (H3.out.2.2.trans (hb4.mono H3.out.2.2.size))
      clear hb4
      go_wp2_with fail
      go_ret
      exact ⟨by rw [HR.out]; rfl, HB.out⟩
    · have HR : Hid (r = false) := Lib.hid (by rw [← hr, hR, hv]; simp [hlm])
      have hlb : decide (l ≤ m) = false := by simpa using hlm
      clear hv hr hR hC
      go_enter Try.func43, Try.ntmps43
      go_wp2_with fail
      refine (hV.out _).mono ?_
      rintro e w3 ⟨rfl, hb3⟩
      have H3 := Lib.hid (And.intro (H2.out.1.step hb3) (And.intro (H2.out.2.1.step hb3) (H2.out.2.2.trans (hb3.mono H2.out.2.2.size))))
      clear hb3
      have c0 := H3.out.1.cell0
      have c1 := H3.out.1.cell1
      have d0 := H3.out.2.1.cell0
      have d1 := H3.out.2.1.cell1
      clear hw1 hw2
      go_wp2_with fail
      go_ret
      exact ⟨by rw [HR.out]; rfl, H3.out.2.2⟩
end Go.Proofs.Ytamkegnnlbefdaa
