/- The walk of the law FletcherChanged. -/
import Derived.Test.YtlbckhapcnlmnabFlF
namespace Go.Proofs.Ytlbckhapcnlmnab
open Go.RowKit

set_option maxRecDepth 100000 in
set_option maxHeartbeats 8000000 in
theorem lawChanged_large {w : World} {A : Option Addr} {n c : Nat} {p q t : Int} (hn : n < 2 ∨ 600 < n) (hn2 : n ≤ 9223372036854775807) :
    Calls Try.prog 6 #[.slice A n c, .agg #[.int .u16 p, .int .u16 q], .int .u8 t] w fun e w' => e = .returned (.bool true) ∧ Below w.heap.size w w' := by
  obtain ⟨w0, hw0⟩ : ∃ w0, w.alloc (.cells #[.int .u16 p, .int .u16 q] 36) = w0 := ⟨_, rfl⟩
  have hG : Blk w0 w.heap.size [.int .u16 p, .int .u16 q] 36 := by rw [← hw0]; exact Blk.new w _ _
  have hb0 : Below w.heap.size w w0 := by rw [← hw0]; exact (Below.refl _ w).alloc (Nat.le_refl _) _
  have HA := Lib.hid (awake_any w0)
  have HB0 := Lib.hid hb0
  have HG := Lib.hid hG
  clear hb0 hG
  by_cases h1 : n < 2
  · have g1 : (n : Int) < 2 := by omega
    clear hn h1
    go_enter Try.func6, Try.ntmps6
    go_wp2_with fail
    refine HA.out.mono ?_
    rintro e w1 ⟨rfl, hb⟩
    have hG1 := HG.out.step hb
    have HB := Lib.hid (HB0.out.trans (hb.mono HB0.out.size))
    have c0 := hG1.cell (i := 0) rfl
    have c1 := hG1.cell (i := 1) rfl
    clear hb HA hG1 HG hw0
    go_wp2_with fail
    refine wp_region_held_drew (S := fun W' => W'.cell? ⟨w.heap.size, 0, none⟩ = some (.int .u16 p) ∧ W'.cell? ⟨w.heap.size, 1, none⟩ = some (.int .u16 q)) (by kernel_rfl) ⟨c0, c1⟩ (fun hHeld => ?_)
    generalize hw2 : w1.drew = w2 at hHeld ⊢
    have HB2 := Lib.hid (show Below w.heap.size w w2 by rw [← hw2]; exact HB.out.drew)
    clear hw2 c0 c1 HB
    refine wpAnyH_takeD 0 (v := ?_) rfl rfl (by kernel_rfl) (by kernel_rfl) (by kernel_rfl) (fun _ _ _ h => h) (Or.inl ⟨by rfl, ?_⟩) hHeld ?_
    rotate_left
    focus (intro w hSw; (try dsimp only at hSw); go_simp; try with_reducible rfl)
    try simp only [List.setIfInBounds_toArray, List.set_cons_zero, List.set_cons_succ]
    refine wpAnyH_takeD 1 (v := ?_) rfl rfl (by kernel_rfl) (by kernel_rfl) (by kernel_rfl) (fun _ _ _ h => h) (Or.inl ⟨by rfl, ?_⟩) hHeld ?_
    rotate_left
    focus (intro w hSw; (try dsimp only at hSw); go_simp; try with_reducible rfl)
    try simp only [List.setIfInBounds_toArray, List.set_cons_zero, List.set_cons_succ]
    refine wpAnyH_takeD 2 (v := ?_) rfl rfl (by kernel_rfl) (by kernel_rfl) (by kernel_rfl) (fun _ _ _ h => h) (Or.inl ⟨by rfl, ?_⟩) hHeld ?_
    rotate_left
    focus (intro w hSw; (try dsimp only at hSw); go_simp; try with_reducible rfl)
    try simp only [List.setIfInBounds_toArray, List.set_cons_zero, List.set_cons_succ]
    refine wpAnyH_takeD 3 (v := ?_) rfl rfl (by kernel_rfl) (by kernel_rfl) (by kernel_rfl) (fun _ _ _ h => h) (Or.inl ⟨by rfl, ?_⟩) hHeld ?_
    rotate_left
    focus (intro w hSw; (try dsimp only at hSw); go_simp; try with_reducible rfl)
    try simp only [List.setIfInBounds_toArray, List.set_cons_zero, List.set_cons_succ]
    refine wpAnyH_takeD 4 (v := ?_) rfl rfl (by kernel_rfl) (by kernel_rfl) (by kernel_rfl) (fun _ _ _ h => h) (Or.inl ⟨by rfl, ?_⟩) hHeld ?_
    rotate_left
    focus (intro w hSw; (try dsimp only at hSw); go_simp; try with_reducible rfl)
    try simp only [List.setIfInBounds_toArray, List.set_cons_zero, List.set_cons_succ]
    refine wpAnyH_takeD 5 (v := ?_) rfl rfl (by kernel_rfl) (by kernel_rfl) (by kernel_rfl) (fun _ _ _ h => h) (Or.inl ⟨by rfl, ?_⟩) hHeld ?_
    rotate_left
    focus (intro w hSw; (try dsimp only at hSw); go_simp; try with_reducible rfl)
    try simp only [List.setIfInBounds_toArray, List.set_cons_zero, List.set_cons_succ]
    refine wpAnyH_done (by kernel_rfl) ?_ _
    clear hHeld
    go_wp2_with fail
    go_ret
    exact ⟨rfl, HB2.out⟩
  · have g1 : ¬ ((n : Int) < 2) := by omega
    have g2 : (n : Int) > 600 := by omega
    clear hn h1
    go_enter Try.func6, Try.ntmps6
    go_wp2_with fail
    refine HA.out.mono ?_
    rintro e w1 ⟨rfl, hb⟩
    have hG1 := HG.out.step hb
    have HB := Lib.hid (HB0.out.trans (hb.mono HB0.out.size))
    have c0 := hG1.cell (i := 0) rfl
    have c1 := hG1.cell (i := 1) rfl
    clear hb HA hG1 HG hw0
    go_wp2_with fail
    refine wp_region_held_drew (S := fun W' => W'.cell? ⟨w.heap.size, 0, none⟩ = some (.int .u16 p) ∧ W'.cell? ⟨w.heap.size, 1, none⟩ = some (.int .u16 q)) (by kernel_rfl) ⟨c0, c1⟩ (fun hHeld => ?_)
    generalize hw2 : w1.drew = w2 at hHeld ⊢
    have HB2 := Lib.hid (show Below w.heap.size w w2 by rw [← hw2]; exact HB.out.drew)
    clear hw2 c0 c1 HB
    refine wpAnyH_takeD 0 (v := ?_) rfl rfl (by kernel_rfl) (by kernel_rfl) (by kernel_rfl) (fun _ _ _ h => h) (Or.inl ⟨by rfl, ?_⟩) hHeld ?_
    rotate_left
    focus (intro w hSw; (try dsimp only at hSw); go_simp; try with_reducible rfl)
    try simp only [List.setIfInBounds_toArray, List.set_cons_zero, List.set_cons_succ]
    refine wpAnyH_takeD 1 (v := ?_) rfl rfl (by kernel_rfl) (by kernel_rfl) (by kernel_rfl) (fun _ _ _ h => h) (Or.inl ⟨by rfl, ?_⟩) hHeld ?_
    rotate_left
    focus (intro w hSw; (try dsimp only at hSw); go_simp; try with_reducible rfl)
    try simp only [List.setIfInBounds_toArray, List.set_cons_zero, List.set_cons_succ]
    refine wpAnyH_takeD 2 (v := ?_) rfl rfl (by kernel_rfl) (by kernel_rfl) (by kernel_rfl) (fun _ _ _ h => h) (Or.inl ⟨by rfl, ?_⟩) hHeld ?_
    rotate_left
    focus (intro w hSw; (try dsimp only at hSw); go_simp; try with_reducible rfl)
    try simp only [List.setIfInBounds_toArray, List.set_cons_zero, List.set_cons_succ]
    refine wpAnyH_takeD 3 (v := ?_) rfl rfl (by kernel_rfl) (by kernel_rfl) (by kernel_rfl) (fun _ _ _ h => h) (Or.inl ⟨by rfl, ?_⟩) hHeld ?_
    rotate_left
    focus (intro w hSw; (try dsimp only at hSw); go_simp; try with_reducible rfl)
    try simp only [List.setIfInBounds_toArray, List.set_cons_zero, List.set_cons_succ]
    refine wpAnyH_takeD 4 (v := ?_) rfl rfl (by kernel_rfl) (by kernel_rfl) (by kernel_rfl) (fun _ _ _ h => h) (Or.inl ⟨by rfl, ?_⟩) hHeld ?_
    rotate_left
    focus (intro w hSw; (try dsimp only at hSw); go_simp; try with_reducible rfl)
    try simp only [List.setIfInBounds_toArray, List.set_cons_zero, List.set_cons_succ]
    refine wpAnyH_takeD 5 (v := ?_) rfl rfl (by kernel_rfl) (by kernel_rfl) (by kernel_rfl) (fun _ _ _ h => h) (Or.inl ⟨by rfl, ?_⟩) hHeld ?_
    rotate_left
    focus (intro w hSw; (try dsimp only at hSw); go_simp; try with_reducible rfl)
    try simp only [List.setIfInBounds_toArray, List.set_cons_zero, List.set_cons_succ]
    refine wpAnyH_done (by kernel_rfl) ?_ _
    clear hHeld
    go_wp2_with fail
    go_ret
    exact ⟨rfl, HB2.out⟩
theorem mod_ex (a n : Nat) (hn : 0 < n) : ∃ k : Nat, (a : Int) % (n : Int) = (k : Int) ∧ k < n := ⟨a % n, by simp, Nat.mod_lt _ hn⟩
set_option maxRecDepth 100000 in
set_option maxHeartbeats 16000000 in
theorem lawChanged {w : World} {A : Option Addr} {n c p q t : Nat} {l : List UInt8} (hp : p < 65536) (hq : q < 65536) (ht : t < 256) (h : By w (.slice A n c) l) :
    Calls Try.prog 6 #[.slice A n c, .agg #[.int .u16 (p : Int), .int .u16 (q : Int)], .int .u8 (t : Int)] w fun e w' => e = .returned (.bool true) ∧ Below w.heap.size w w' := by
  obtain ⟨hn, hc, hc2⟩ := h.len
  by_cases hl : n < 2 ∨ 600 < n
  · exact lawChanged_large hl (by omega)
  · have g1 : ¬ ((n : Int) < 2) := by omega
    have g2 : ¬ ((n : Int) > 600) := by omega
    obtain ⟨N1, hN1⟩ : ∃ N1, n - 1 = N1 := ⟨_, rfl⟩
    have g3 : IntKind.i64.wrap ((n : Int) - 1) = (N1 : Int) := by rw [IntWalk.i64_in _ (by omega)]; omega
    have g4 : ¬ (N1 : Int) = 0 := by omega
    obtain ⟨k, hk, hk2⟩ := mod_ex p N1 (by omega)
    obtain ⟨j, hj, hj2⟩ := mod_ex q n (by omega)
    have HS := Lib.hid (fun W (hW : Below w.heap.size w W) => seal_any (h.below hW) (k := k) (by omega) (by omega))
    have HQ := Lib.hid (seal_sealed l k (by omega))
    have HV := Lib.hid (sealB_len l k)
    have HLn := Lib.hid (show n = l.length ∧ n - 1 = N1 ∧ k < N1 ∧ j < n ∧ 1 < n ∧ n ≤ 600 by omega)
    obtain ⟨w0, hw0⟩ : ∃ w0, w.alloc (.cells #[.int .u16 (p : Int), .int .u16 (q : Int)] 36) = w0 := ⟨_, rfl⟩
    have hG : Blk w0 w.heap.size [.int .u16 (p : Int), .int .u16 (q : Int)] 36 := by rw [← hw0]; exact Blk.new w _ _
    have hb0 : Below w.heap.size w w0 := by rw [← hw0]; exact (Below.refl _ w).alloc (Nat.le_refl _) _
    have HA := Lib.hid (awake_any w0)
    have HB0 := Lib.hid hb0
    have HG := Lib.hid hG
    have k1 : IntKind.i64.wrap (p : Int) = (p : Int) := by simp [IntKind.wrap, IntKind.bits, IntKind.signed]; omega
    have k2 : IntKind.i64.wrap (q : Int) = (q : Int) := by simp [IntKind.wrap, IntKind.bits, IntKind.signed]; omega
    have hN2 : (N1 : Int) = (n : Int) - 1 := by omega
    rw [hN2] at hk g4
    clear hb0 hG h hl hN1 hk2 hj2 hn hN2 g3
    go_enter Try.func6, Try.ntmps6
    go_wp2_with fail
    refine HA.out.mono ?_
    rintro e w1 ⟨rfl, hb⟩
    have hG1 := HG.out.step hb
    have HB := Lib.hid (HB0.out.trans (hb.mono HB0.out.size))
    have c0 := hG1.cell (i := 0) rfl
    have c1 := hG1.cell (i := 1) rfl
    clear hb HA hG1 HG hw0
    go_wp2_with fail
    refine wp_region_held_drew (S := fun W' => W'.cell? ⟨w.heap.size, 0, none⟩ = some (.int .u16 (p : Int)) ∧ W'.cell? ⟨w.heap.size, 1, none⟩ = some (.int .u16 (q : Int))) (by kernel_rfl) ⟨c0, c1⟩ (fun hHeld => ?_)
    generalize hw2 : w1.drew = w2 at hHeld ⊢
    have HB2 := Lib.hid (show Below w.heap.size w w2 by rw [← hw2]; exact HB.out.drew)
    clear hw2 c0 c1 HB
    refine wpAnyH_takeD 0 (v := ?_) rfl rfl (by kernel_rfl) (by kernel_rfl) (by kernel_rfl) (fun _ _ _ h => h) (Or.inl ⟨by rfl, ?_⟩) hHeld ?_
    rotate_left
    focus (intro w hSw; (try dsimp only at hSw); go_simp; try with_reducible rfl)
    try simp only [List.setIfInBounds_toArray, List.set_cons_zero, List.set_cons_succ]
    refine wpAnyH_takeD 1 (v := ?_) rfl rfl (by kernel_rfl) (by kernel_rfl) (by kernel_rfl) (fun _ _ _ h => h) (Or.inl ⟨by rfl, ?_⟩) hHeld ?_
    rotate_left
    focus (intro w hSw; (try dsimp only at hSw); go_simp; try with_reducible rfl)
    try simp only [List.setIfInBounds_toArray, List.set_cons_zero, List.set_cons_succ]
    refine wpAnyH_takeD 2 (v := ?_) rfl rfl (by kernel_rfl) (by kernel_rfl) (by kernel_rfl) (fun _ _ _ h => h) (Or.inl ⟨by rfl, ?_⟩) hHeld ?_
    rotate_left
    focus (intro w hSw; (try dsimp only at hSw); go_simp; try with_reducible rfl)
    try simp only [List.setIfInBounds_toArray, List.set_cons_zero, List.set_cons_succ]
    refine wpAnyH_takeD 3 (v := ?_) rfl rfl (by kernel_rfl) (by kernel_rfl) (by kernel_rfl) (fun _ _ _ h => h) (Or.inl ⟨by rfl, ?_⟩) hHeld ?_
    rotate_left
    focus (intro w hSw; (try dsimp only at hSw); go_simp; try with_reducible rfl)
    try simp only [List.setIfInBounds_toArray, List.set_cons_zero, List.set_cons_succ]
    refine wpAnyH_takeD 4 (v := ?_) rfl rfl (by kernel_rfl) (by kernel_rfl) (by kernel_rfl) (fun _ _ _ h => h) (Or.inl ⟨by rfl, ?_⟩) hHeld ?_
    rotate_left
    focus (intro w hSw; (try dsimp only at hSw); go_simp; try with_reducible rfl)
    try simp only [List.setIfInBounds_toArray, List.set_cons_zero, List.set_cons_succ]
    refine wpAnyH_takeD 5 (v := ?_) rfl rfl (by kernel_rfl) (by kernel_rfl) (by kernel_rfl) (fun _ _ _ h => h) (Or.inl ⟨by rfl, ?_⟩) hHeld ?_
    rotate_left
    focus (intro w hSw; (try dsimp only at hSw); go_simp; try with_reducible rfl)
    try simp only [List.setIfInBounds_toArray, List.set_cons_zero, List.set_cons_succ]
    refine wpAnyH_done (by kernel_rfl) ?_ _
    clear hHeld
    go_wp2_with fail
    refine (HS.out _ HB2.out).mono ?_
    rintro e w3 ⟨ad, c', rfl, ho, hb⟩
    obtain ⟨L, hL⟩ : ∃ L, sealB l k = L := ⟨_, rfl⟩
    rw [hL] at HQ HV ho
    rw [← HLn.out.1] at ho HV ⊢
    have HO := Lib.hid ho
    have HB3 := Lib.hid (HB2.out.trans (hb.mono HB2.out.size))
    clear hL ho hb HS
    have HC := Lib.hid (show Calls Try.prog 12 #[.slice (some ad) n c'] w3 fun e w' => e = .returned (.bool true) ∧ w3 = w' by rw [← HQ.out]; exact check_any HO.out.by_)
    go_wp2_with fail
    refine HC.out.mono ?_
    rintro e w4 ⟨rfl, rfl⟩
    have hjl : j < L.length := by rw [HV.out]; exact HLn.out.2.2.2.1
    have t1 := HO.out.at2 hjl
    have c0 := t1.1
    have f0 := t1.2.1
    have g5 : (j : Int) < (n : Int) := by have := HLn.out.2.2.2.1; omega
    have et : Value.int .u8 (t : Int) = encB (UInt8.ofNat t) := by unfold encB; simp; omega
    have hO := t1.2.2.2 (UInt8.ofNat t) _ et
    have hch := changed L j hjl (UInt8.ofNat t) HQ.out
    have e9 : (UInt8.ofNat t).toNat = t := by simp; omega
    rw [e9] at hch
    have HC2 := Lib.hid (show Calls Try.prog 12 #[.slice (some ad) n c'] (w3.setCell (ad.add j) (.int .u8 (t : Int))) fun e w' => e = .returned (.bool (decide (L[j].toNat % 255 = t % 255))) ∧ w3.setCell (ad.add j) (.int .u8 (t : Int)) = w' by rw [← hch]; exact check_any hO.by_)
    have hF : L[j].toNat < 256 := L[j].toNat_lt
    have HB4 := Lib.hid (HB3.out.setCell (p := ad.add j) (Nat.le_trans HB2.out.size t1.2.2.1) (.int .u8 (t : Int)))
    generalize L[j].toNat = F at c0 HC2 hF
    clear t1 hO hch et e9 HC HQ HB3
    go_wp2_with fail
    clear c0 f0
    refine HC2.out.mono ?_
    rintro e w5 ⟨rfl, hw5⟩
    rw [hw5] at HB4
    clear hw5 HC2
    by_cases h1 : F = t
    · subst h1
      rw [show decide (F % 255 = F % 255) = true by simp]
      go_wp2_with fail
      go_ret
      exact ⟨rfl, HB4.out⟩
    · have e1 : ((F : Int) == (t : Int)) = false := by rw [beq_eq_false_iff_ne]; omega
      by_cases h2 : F = 0
      · subst h2
        by_cases h3 : t = 255
        · subst h3
          rw [show decide (0 % 255 = 255 % 255) = true from rfl]
          clear h1
          go_wp2_with fail
          go_ret
          exact ⟨rfl, HB4.out⟩
        · have e2 : ((t : Int) == 255) = false := by rw [beq_eq_false_iff_ne]; omega
          rw [show decide (0 % 255 = t % 255) = false by rw [decide_eq_false_iff_not]; omega]
          have e4 : ((0 : Int) == (t : Int)) = false := e1
          clear h1 h3 e1
          go_wp2_with fail
          go_ret
          exact ⟨rfl, HB4.out⟩
      · have e2 : ((F : Int) == 0) = false := by rw [beq_eq_false_iff_ne]; omega
        by_cases h3 : F = 255
        · subst h3
          by_cases h4 : t = 0
          · subst h4
            rw [show decide (255 % 255 = 0 % 255) = true from rfl]
            clear h1 h2
            go_wp2_with fail
            go_ret
            exact ⟨rfl, HB4.out⟩
          · have e3 : ((t : Int) == 0) = false := by rw [beq_eq_false_iff_ne]; omega
            rw [show decide (255 % 255 = t % 255) = false by rw [decide_eq_false_iff_not]; omega]
            have e4 : ((255 : Int) == (t : Int)) = false := e1
            clear h1 h2 h4 e1
            go_wp2_with fail
            go_ret
            exact ⟨rfl, HB4.out⟩
        · have e3 : ((F : Int) == 255) = false := by rw [beq_eq_false_iff_ne]; omega
          rw [show decide (F % 255 = t % 255) = false by rw [decide_eq_false_iff_not]; omega]
          clear h1 h2 h3
          go_wp2_with fail
          go_ret
          exact ⟨rfl, HB4.out⟩
end Go.Proofs.Ytlbckhapcnlmnab
