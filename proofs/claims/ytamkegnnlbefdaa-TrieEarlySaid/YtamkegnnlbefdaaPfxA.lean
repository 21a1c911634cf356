/- Contracts of package prefix: first, Valid, Contains, Covers. -/
import Derived.Test.YtamkegnnlbefdaaPBridge
import Derived.Test.YtamkegnnlbefdaaPfxT
import Derived.BigQuiet
import Derived.Deep.QuietTactic
import Derived.Laws.BitsAllLaws
import Derived.IntWalk
import Derived.Deep.RegionHeld3
namespace Go.Proofs.Ytamkegnnlbefdaa
open Go.RowKit

theorem bdrewN {B : Nat} {a w : World} (h : Below B a w) (k : Nat) : Below B a (w.drewN k) := ⟨h.os, h.tape, h.output, h.size, h.block⟩
/-- The value of a prefix. -/
abbrev pv (a : Nat) (l : Int) : Value := .agg #[.int .u32 (a : Int), .int .i64 l]
def vldB (a : Nat) (l : Int) : Bool := decide (0 ≤ l ∧ l ≤ 32 ∧ fst a l.toNat = a)
def hasB (a : Nat) (l : Int) (x : Nat) : Bool := vldB a l && decide (fst x l.toNat = a)
def covB (a : Nat) (l : Int) (b : Nat) (m : Int) : Bool := vldB b m && decide (l ≤ m) && hasB a l b
theorem run_rest_shr (a n : Nat) (hn : n ≤ 32) : Op.shift .shr .u32 (a : Int) .i64 (32 - (n : Int)) = pure (.int .u32 ((a / 2 ^ (32 - n) : Nat) : Int)) := by
  have h0 : (0 : Int) ≤ 32 - (n : Int) := by omega
  have h1 : 32 - (n : Int) ≤ 32 := by omega
  refine (shift_shr .u32 .i64 (a : Int) (32 - (n : Int)) h0 h1).trans ?_
  rw [show (32 - (n : Int)).toNat = 32 - n by omega]
  congr 2
theorem run_rest_shl (b n : Nat) (hn : n ≤ 32) (hb : b * 2 ^ (32 - n) < 4294967296) : Op.shift .shl .u32 (b : Int) .i64 (32 - (n : Int)) = pure (.int .u32 ((b * 2 ^ (32 - n) : Nat) : Int)) := by
  have h0 : (0 : Int) ≤ 32 - (n : Int) := by omega
  have h1 : 32 - (n : Int) ≤ 32 := by omega
  refine (shift_shl .u32 .i64 (b : Int) (32 - (n : Int)) h0 h1).trans ?_
  rw [show (32 - (n : Int)).toNat = 32 - n by omega]
  congr 2
  have : ((b : Int) * 2 ^ (32 - n)) = ((b * 2 ^ (32 - n) : Nat) : Int) := by simp
  rw [this]
  generalize b * 2 ^ (32 - n) = x at hb
  simp only [IntKind.wrap, IntKind.bits, IntKind.signed]
  simp
  omega
theorem fst_lt {a l : Nat} (h : a < 4294967296) : fst a l < 4294967296 := Nat.lt_of_le_of_lt (fst_le a l) h

theorem first_any (a n : Nat) (w : World) (ha : a < 4294967296) (hn : n ≤ 32) : Calls Try.prog 52 #[.int .u32 (a : Int), .int .i64 (n : Int)] w fun e w' => e = .returned (.int .u32 (fst a n : Nat)) ∧ w' = w := by
  have hE1 := run_rest_shr a n hn
  have hE2 := run_rest_shl (a / 2 ^ (32 - n)) n hn (Nat.lt_of_le_of_lt (fst_le a n) ha)
  have hw3 : IntKind.i64.wrap (32 - (n : Int)) = 32 - (n : Int) := IntWalk.i64_in _ (by omega)
  obtain ⟨q, hq⟩ : ∃ q, q = a / 2 ^ (32 - n) := ⟨_, rfl⟩
  obtain ⟨r, hr⟩ : ∃ r, r = q * 2 ^ (32 - n) := ⟨_, rfl⟩
  rw [← hq] at hE1 hE2
  rw [← hr] at hE2
  have hf : fst a n = r := by unfold fst; rw [← hq, ← hr]
  rw [hf]
  have hN := Lib.hid hn
  clear hq hr hf hn
  go_enter Try.func52, Try.ntmps52
  go_wp2
  go_ret
  exact ⟨rfl, rfl⟩

theorem vldB_neg {a : Nat} {l : Int} (h : ¬ 0 ≤ l) : vldB a l = false := by unfold vldB; exact decide_eq_false fun ⟨h1, _⟩ => h h1
theorem vldB_big {a : Nat} {l : Int} (h : ¬ l ≤ 32) : vldB a l = false := by unfold vldB; exact decide_eq_false fun ⟨_, h1, _⟩ => h h1
theorem vldB_nat {a n : Nat} (h : n ≤ 32) : vldB a (n : Int) = decide ((a : Int) = ((fst a n : Nat) : Int)) := by
  unfold vldB
  rw [decide_eq_decide, Int.toNat_natCast]
  omega
theorem vldB_true {a : Nat} {l : Int} (h : vldB a l = true) : ∃ n : Nat, l = n ∧ n ≤ 32 ∧ fst a n = a := by
  unfold vldB at h
  obtain ⟨h1, h2, h3⟩ := of_decide_eq_true h
  exact ⟨l.toNat, by omega, by omega, h3⟩

set_option maxHeartbeats 1000000 in
theorem valid_any (a : Nat) (l : Int) (w : World) (ha : a < 4294967296) : Calls Try.prog 44 #[pv a l] w fun e w' => e = .returned (.bool (vldB a l)) ∧ Below w.heap.size w w' := by
  by_cases h0 : 0 ≤ l
  · by_cases h1 : l ≤ 32
    · obtain ⟨n, rfl⟩ := Int.eq_ofNat_of_zero_le h0
      have hn : n ≤ 32 := by omega
      rw [vldB_nat hn]
      have hF := Lib.hid (fun W => first_any a n W ha hn)
      clear hn
      go_enter Try.func44, Try.ntmps44
      go_wp2
      go_quiet ((go_at_call 52; exact Calls.quiet_of_same (hF.out _)))
      go_wp2_with fail
      go_ret
      exact ⟨rfl, bdrewN ((Below.refl _ _).alloc (Nat.le_refl _) _) _⟩
    · rw [vldB_big h1]
      have hB : decide (l ≤ 32) = false := by simpa using h1
      go_enter Try.func44, Try.ntmps44
      go_wp2
      go_quiet (fail)
      go_wp2_with fail
      go_ret
      exact ⟨rfl, bdrewN ((Below.refl _ _).alloc (Nat.le_refl _) _) _⟩
  · rw [vldB_neg h0]
    have hB : decide (0 ≤ l) = false := by simpa using h0
    go_enter Try.func44, Try.ntmps44
    go_wp2
    go_quiet (fail)
    go_wp2_with fail
    go_ret
    exact ⟨rfl, bdrewN ((Below.refl _ _).alloc (Nat.le_refl _) _) _⟩

/-- A box that holds a prefix. -/
def PB (w : World) (b : Nat) (a : Nat) (l : Int) : Prop := w.heap[b]? = some (.cells #[.int .u32 (a : Int), .int .i64 l] 35 (0, 0))
section
variable {w w' : World} {b a : Nat} {l : Int}
theorem PB.new (w : World) (a : Nat) (l : Int) : PB (w.alloc (.cells #[.int .u32 (a : Int), .int .i64 l] 35)) w.heap.size a l := heap_alloc_new w _
theorem PB.lt (h : PB w b a l) : b < w.heap.size := by
  rcases Nat.lt_or_ge b w.heap.size with hlt | hge
  · exact hlt
  · unfold PB at h; rw [Array.getElem?_eq_none hge] at h; cases h
theorem PB.cell0 (h : PB w b a l) : w.cell? ⟨b, 0, none⟩ = some (.int .u32 (a : Int)) := by rw [cell_of_row w b 0 _ _ (0, 0) h]; rfl
theorem PB.cell1 (h : PB w b a l) : w.cell? ⟨b, 1, none⟩ = some (.int .i64 l) := by rw [cell_of_row w b 1 _ _ (0, 0) h]; rfl
theorem PB.frozen (h : PB w b a l) (i : Nat) : w.frozen? ⟨b, i, none⟩ = false := by unfold PB at h; simp [World.frozen?, h]
theorem PB.step (h : PB w b a l) (hb : Below w.heap.size w w') : PB w' b a l := (hb.block b h.lt).trans h
theorem PB.below {B : Nat} (h : PB w b a l) (hb : Below B w w') (hB : b < B) : PB w' b a l := (hb.block b hB).trans h
theorem PB.alloc (h : PB w b a l) (o : Obj) : PB (w.alloc o) b a l := (Below.heap_alloc w o b h.lt).trans h
theorem PB.drew (h : PB w b a l) : PB w.drew b a l := h
theorem PB.drewN (h : PB w b a l) (k : Nat) : PB (w.drewN k) b a l := h
end

theorem hasB_true {a : Nat} {n x : Nat} (h : vldB a (n : Int) = true) : hasB a (n : Int) x = decide (((fst x n : Nat) : Int) = (a : Int)) := by
  unfold hasB
  rw [h, Bool.true_and, decide_eq_decide, Int.toNat_natCast]
  omega
theorem hasB_false {a x : Nat} {l : Int} (h : vldB a l = false) : hasB a l x = false := by unfold hasB; rw [h]; rfl

set_option maxHeartbeats 1000000 in
theorem contains_any (a : Nat) (l : Int) (x : Nat) (w : World) (ha : a < 4294967296) (hx : x < 4294967296) : Calls Try.prog 33 #[pv a l, .int .u32 (x : Int)] w fun e w' => e = .returned (.bool (hasB a l x)) ∧ Below w.heap.size w w' := by
  have hV := Lib.hid (fun W => valid_any a l W ha)
  obtain ⟨w1, hw1⟩ : ∃ w1, w.alloc (.cells #[.int .u32 (a : Int), .int .i64 l] 35) = w1 := ⟨_, rfl⟩
  have hb1 : Below w.heap.size w w1 := by rw [← hw1]; exact (Below.refl _ _).alloc (Nat.le_refl _) _
  cases hv : vldB a l with
  | true =>
    obtain ⟨n, rfl, hn, -⟩ := vldB_true hv
    rw [hasB_true hv]
    rw [hv] at hV
    have hF := Lib.hid (fun W => first_any x n W hx hn)
    clear hn hv
    have hP : PB w1 w.heap.size a n := by rw [← hw1]; exact PB.new _ _ _
    have HP := Lib.hid (And.intro hP hb1)
    have c0 := hP.cell0
    have c1 := hP.cell1
    clear hP hb1
    go_enter Try.func33, Try.ntmps33
    go_wp2_with fail
    clear hw1
    go_region_held3 (fun W' => W'.cell? ⟨w.heap.size, 0, none⟩ = some (.int .u32 (a : Int)) ∧ W'.cell? ⟨w.heap.size, 1, none⟩ = some (.int .i64 (n : Int)))
      (first | exact ⟨c0, c1⟩ | exact ⟨d0, d1⟩ | go_keep)
      (first | (go_at_call 44; refine (hV.out _).mono ?_; rintro e w2 ⟨rfl, hb⟩; have HK := Lib.hid (And.intro (HP.out.1.drew.step hb) (HP.out.2.drew.trans (hb.mono HP.out.2.drew.size))); clear hb; have d0 := HK.out.1.cell0; have d1 := HK.out.1.cell1) | (go_at_call 52; refine (hF.out _).mono ?_; rintro e w3 ⟨rfl, rfl⟩))
    all_goals
      go_wp2_with fail
      go_ret
      exact ⟨rfl, HK.out.2⟩
  | false =>
    rw [hasB_false hv]
    rw [hv] at hV
    clear hv
    have hP : PB w1 w.heap.size a l := by rw [← hw1]; exact PB.new _ _ _
    have HP := Lib.hid (And.intro hP hb1)
    have c0 := hP.cell0
    have c1 := hP.cell1
    clear hP hb1
    go_enter Try.func33, Try.ntmps33
    go_wp2_with fail
    clear hw1
    refine wp_region_held_drew (S := fun W' => W'.cell? ⟨w.heap.size, 0, none⟩ = some (.int .u32 (a : Int)) ∧ W'.cell? ⟨w.heap.size, 1, none⟩ = some (.int .i64 l)) (by kernel_rfl) ⟨c0, c1⟩ (fun hHeld => ?_)
    refine wpAnyH_takeD 0 (v := ?_) rfl rfl (by kernel_rfl) (by kernel_rfl) (by kernel_rfl) (fun _ _ _ h => h) (Or.inl ⟨by rfl, ?_⟩) hHeld ?_
    rotate_left
    focus (intro w hSw; (try dsimp only at hSw); go_simp; try with_reducible rfl)
    try simp only [List.setIfInBounds_toArray, List.set_cons_zero, List.set_cons_succ]
    refine wpAnyH_ready (rs := [1]) (by kernel_rfl) (by simp) ?_
    refine AllReadyH.cons rfl (fun K hK => ?_) AllReadyH.nil
    go_simp
    refine (hV.out _).mono ?_
    rintro e w2 ⟨rfl, hb⟩
    have HK := Lib.hid (And.intro (HP.out.1.drew.step hb) (HP.out.2.drew.trans (hb.mono HP.out.2.drew.size)))
    clear hb
    refine hK.out _ _ ⟨HK.out.1.cell0, HK.out.1.cell1⟩ (fun hHeld => ?_)
    clear hK K
    refine wpAnyH_takeD 2 (v := ?_) rfl rfl (by kernel_rfl) (by kernel_rfl) (by kernel_rfl) (fun _ _ _ h => h) (Or.inl ⟨by rfl, ?_⟩) hHeld ?_
    rotate_left
    focus (intro w hSw; (try dsimp only at hSw); go_simp; try with_reducible rfl)
    try simp only [List.setIfInBounds_toArray, List.set_cons_zero, List.set_cons_succ]
    refine wpAnyH_takeD 3 (v := undef) rfl rfl (by kernel_rfl) (by kernel_rfl) (by kernel_rfl) (fun _ _ _ h => h) (Or.inr ⟨by rfl, rfl⟩) hHeld ?_
    simp only [List.setIfInBounds_toArray, List.set_cons_zero, List.set_cons_succ]
    refine wpAnyH_takeD 4 (v := undef) rfl rfl (by kernel_rfl) (by kernel_rfl) (by kernel_rfl) (fun _ _ _ h => h) (Or.inr ⟨by rfl, rfl⟩) hHeld ?_
    simp only [List.setIfInBounds_toArray, List.set_cons_zero, List.set_cons_succ]
    refine wpAnyH_takeD 5 (v := undef) rfl rfl (by kernel_rfl) (by kernel_rfl) (by kernel_rfl) (fun _ _ _ h => h) (Or.inr ⟨by rfl, rfl⟩) hHeld ?_
    simp only [List.setIfInBounds_toArray, List.set_cons_zero, List.set_cons_succ]
    refine wpAnyH_takeD 6 (v := undef) rfl rfl (by kernel_rfl) (by kernel_rfl) (by kernel_rfl) (fun _ _ _ h => h) (Or.inr ⟨by rfl, rfl⟩) hHeld ?_
    simp only [List.setIfInBounds_toArray, List.set_cons_zero, List.set_cons_succ]
    refine wpAnyH_takeD 7 (v := undef) rfl rfl (by kernel_rfl) (by kernel_rfl) (by kernel_rfl) (fun _ _ _ h => h) (Or.inr ⟨by rfl, rfl⟩) hHeld ?_
    simp only [List.setIfInBounds_toArray, List.set_cons_zero, List.set_cons_succ]
    refine wpAnyH_takeD 8 (v := undef) rfl rfl (by kernel_rfl) (by kernel_rfl) (by kernel_rfl) (fun _ _ _ h => h) (Or.inr ⟨by rfl, rfl⟩) hHeld ?_
    simp only [List.setIfInBounds_toArray, List.set_cons_zero, List.set_cons_succ]
    refine wpAnyH_takeD 9 (v := undef) rfl rfl (by kernel_rfl) (by kernel_rfl) (by kernel_rfl) (fun _ _ _ h => h) (Or.inr ⟨by rfl, rfl⟩) hHeld ?_
    simp only [List.setIfInBounds_toArray, List.set_cons_zero, List.set_cons_succ]
    refine wpAnyH_takeD 10 (v := ?_) rfl rfl (by kernel_rfl) (by kernel_rfl) (by kernel_rfl) (fun _ _ _ h => h) (Or.inl ⟨by rfl, ?_⟩) hHeld ?_
    rotate_left
    focus (intro w hSw; (try dsimp only at hSw); go_simp; try with_reducible rfl)
    try simp only [List.setIfInBounds_toArray, List.set_cons_zero, List.set_cons_succ]
    refine wpAnyH_takeD 11 (v := ?_) rfl rfl (by kernel_rfl) (by kernel_rfl) (by kernel_rfl) (fun _ _ _ h => h) (Or.inl ⟨by rfl, ?_⟩) hHeld ?_
    rotate_left
    focus (intro w hSw; (try dsimp only at hSw); go_simp; try with_reducible rfl)
    try simp only [List.setIfInBounds_toArray, List.set_cons_zero, List.set_cons_succ]
    refine wpAnyH_done (by kernel_rfl) ?_ _
    go_wp2_with fail
    go_ret
    exact ⟨rfl, HK.out.2⟩

set_option maxHeartbeats 1000000 in
theorem covers_any (a : Nat) (l : Int) (b : Nat) (m : Int) (w : World) (ha : a < 4294967296) (hb : b < 4294967296) : Calls Try.prog 40 #[pv a l, pv b m] w fun e w' => e = .returned (.bool (covB a l b m)) ∧ Below w.heap.size w w' := by
  have hV := Lib.hid (fun W => valid_any b m W hb)
  have hC := Lib.hid (fun W => contains_any a l b W ha hb)
  have hR : covB a l b m = (vldB b m && decide (l ≤ m) && hasB a l b) := rfl
  obtain ⟨r, hr⟩ : ∃ r, covB a l b m = r := ⟨_, rfl⟩
  obtain ⟨w1, hw1⟩ : ∃ w1, w.alloc (.cells #[.int .u32 (a : Int), .int .i64 l] 35) = w1 := ⟨_, rfl⟩
  have hP1 : PB w1 w.heap.size a l := by rw [← hw1]; exact PB.new _ _ _
  have hb1 : Below w.heap.size w w1 := by rw [← hw1]; exact (Below.refl _ _).alloc (Nat.le_refl _) _
  obtain ⟨w2, hw2⟩ : ∃ w2, w1.alloc (.cells #[.int .u32 (b : Int), .int .i64 m] 35) = w2 := ⟨_, rfl⟩
  have hQ2 : PB w2 w1.heap.size b m := by rw [← hw2]; exact PB.new _ _ _
  have hP2 : PB w2 w.heap.size a l := by rw [← hw2]; exact hP1.alloc _
  have hb2 : Below w.heap.size w w2 := by rw [← hw2]; exact hb1.alloc hb1.size _
  have c0 := hP2.cell0
  have c1 := hP2.cell1
  have d0 := hQ2.cell0
  have d1 := hQ2.cell1
  have H2 := Lib.hid (And.intro hP2 (And.intro hQ2 hb2))
  rw [hr]
  clear hP1 hb1 hQ2 hP2 hb2
  cases hv : vldB b m with
  | false =>
    have HR : Hid (r = false) := Lib.hid (by rw [← hr, hR, hv]; rfl)
    rw [hv] at hV
    clear hv hr hR hC
    go_enter Try.func40, Try.ntmps40
    go_wp2_with fail
    refine (hV.out _).mono ?_
    rintro e w3 ⟨rfl, hb3⟩
    have HB := Lib.hid (H2.out.2.2.trans (hb3.mono H2.out.2.2.size))
    clear hb3 hw1 hw2
    go_wp2_with fail
    go_ret
    exact ⟨by rw [HR.out]; rfl, HB.out⟩
  | true =>
    rw [hv] at hV
    by_cases hlm : l ≤ m
    · have HR : Hid (r = hasB a l b) := Lib.hid (by rw [← hr, hR, hv]; simp [hlm])
      obtain ⟨t, ht⟩ : ∃ t, hasB a l b = t := ⟨_, rfl⟩
      rw [ht] at HR hC
      clear hv hr hR ht
      go_enter Try.func40, Try.ntmps40
      go_wp2_with fail
      refine (hV.out _).mono ?_
      rintro e w3 ⟨rfl, hb3⟩
      have H3 := Lib.hid (And.intro (H2.out.1.step hb3) (And.intro (H2.out.2.1.step hb3) (H2.out.2.2.trans (hb3.mono H2.out.2.2.size))))
      clear hb3
      have c0 := H3.out.1.cell0
      have c1 := H3.out.1.cell1
      have d0 := H3.out.2.1.cell0
      have d1 := H3.out.2.1.cell1
      clear hw1 hw2
      go_wp2_with fail
      refine (hC.out _).mono ?_
      rintro e w4 ⟨rfl, hb4⟩
      have HB := Lib.hid (H3.out.2.2.trans (hb4.mono H3.out.2.2.size))
      clear hb4
      go_wp2_with fail
      go_ret
      exact ⟨by rw [HR.out]; rfl, HB.out⟩
    · have HR : Hid (r = false) := Lib.hid (by rw [← hr, hR, hv]; simp [hlm])
      have hlb : decide (l ≤ m) = false := by simpa using hlm
      clear hv hr hR hC
      go_enter Try.func40, Try.ntmps40
      go_wp2_with fail
      refine (hV.out _).mono ?_
      rintro e w3 ⟨rfl, hb3⟩
      have H3 := Lib.hid (And.intro (H2.out.1.step hb3) (And.intro (H2.out.2.1.step hb3) (H2.out.2.2.trans (hb3.mono H2.out.2.2.size))))
      clear hb3
      have c0 := H3.out.1.cell0
      have c1 := H3.out.1.cell1
      have d0 := H3.out.2.1.cell0
      have d1 := H3.out.2.1.cell1
      clear hw1 hw2
      go_wp2_with fail
      go_ret
      exact ⟨by rw [HR.out]; rfl, H3.out.2.2⟩
end Go.Proofs.Ytamkegnnlbefdaa
