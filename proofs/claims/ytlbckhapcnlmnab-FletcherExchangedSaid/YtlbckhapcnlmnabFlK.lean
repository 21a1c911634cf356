/- The walk of the law FletcherExchanged. -/
import Derived.Test.YtlbckhapcnlmnabFlF
namespace Go.Proofs.Ytlbckhapcnlmnab
open Go.RowKit

set_option maxRecDepth 100000 in
set_option maxHeartbeats 8000000 in
theorem lawExchanged_large {w : World} {A : Option Addr} {n c : Nat} {p q : Int} (hn : n < 2 ∨ 600 < n) (hn2 : n ≤ 9223372036854775807) :
    Calls Try.prog 7 #[.slice A n c, .agg #[.int .u16 p, .int .u16 q]] w fun e w' => e = .returned (.bool true) ∧ Below w.heap.size w w' := by
  obtain ⟨w0, hw0⟩ : ∃ w0, w.alloc (.cells #[.int .u16 p, .int .u16 q] 36) = w0 := ⟨_, rfl⟩
  have hG : Blk w0 w.heap.size [.int .u16 p, .int .u16 q] 36 := by rw [← hw0]; exact Blk.new w _ _
  have hb0 : Below w.heap.size w w0 := by rw [← hw0]; exact (Below.refl _ w).alloc (Nat.le_refl _) _
  have HA := Lib.hid (awake_any w0)
  have HB0 := Lib.hid hb0
  have HG := Lib.hid hG
  clear hb0 hG
  by_cases h1 : n < 2
  · have g1 : (n : Int) < 2 := by omega
    clear hn h1
    go_enter Try.func7, Try.ntmps7
    go_wp2_with fail
    refine HA.out.mono ?_
    rintro e w1 ⟨rfl, hb⟩
    have hG1 := HG.out.step hb
    have HB := Lib.hid (HB0.out.trans (hb.mono HB0.out.size))
    have c0 := hG1.cell (i := 0) rfl
    have c1 := hG1.cell (i := 1) rfl
    clear hb HA hG1 HG hw0
    go_wp2_with fail
    refine wp_region_held_drew (S := fun W' => W'.cell? ⟨w.heap.size, 0, none⟩ = some (.int .u16 p) ∧ W'.cell? ⟨w.heap.size, 1, none⟩ = some (.int .u16 q)) (by kernel_rfl) ⟨c0, c1⟩ (fun hHeld => ?_)
    generalize hw2 : w1.drew = w2 at hHeld ⊢
    have HB2 := Lib.hid (show Below w.heap.size w w2 by rw [← hw2]; exact HB.out.drew)
    clear hw2 c0 c1 HB
    refine wpAnyH_takeD 0 (v := ?_) rfl rfl (by kernel_rfl) (by kernel_rfl) (by kernel_rfl) (fun _ _ _ h => h) (Or.inl ⟨by rfl, ?_⟩) hHeld ?_
    rotate_left
    focus (intro w hSw; (try dsimp only at hSw); go_simp; try with_reducible rfl)
    try simp only [List.setIfInBounds_toArray, List.set_cons_zero, List.set_cons_succ]
    refine wpAnyH_takeD 1 (v := ?_) rfl rfl (by kernel_rfl) (by kernel_rfl) (by kernel_rfl) (fun _ _ _ h => h) (Or.inl ⟨by rfl, ?_⟩) hHeld ?_
    rotate_left
    focus (intro w hSw; (try dsimp only at hSw); go_simp; try with_reducible rfl)
    try simp only [List.setIfInBounds_toArray, List.set_cons_zero, List.set_cons_succ]
    refine wpAnyH_takeD 2 (v := ?_) rfl rfl (by kernel_rfl) (by kernel_rfl) (by kernel_rfl) (fun _ _ _ h => h) (Or.inl ⟨by rfl, ?_⟩) hHeld ?_
    rotate_left
    focus (intro w hSw; (try dsimp only at hSw); go_simp; try with_reducible rfl)
    try simp only [List.setIfInBounds_toArray, List.set_cons_zero, List.set_cons_succ]
    refine wpAnyH_takeD 3 (v := ?_) rfl rfl (by kernel_rfl) (by kernel_rfl) (by kernel_rfl) (fun _ _ _ h => h) (Or.inl ⟨by rfl, ?_⟩) hHeld ?_
    rotate_left
    focus (intro w hSw; (try dsimp only at hSw); go_simp; try with_reducible rfl)
    try simp only [List.setIfInBounds_toArray, List.set_cons_zero, List.set_cons_succ]
    refine wpAnyH_takeD 4 (v := ?_) rfl rfl (by kernel_rfl) (by kernel_rfl) (by kernel_rfl) (fun _ _ _ h => h) (Or.inl ⟨by rfl, ?_⟩) hHeld ?_
    rotate_left
    focus (intro w hSw; (try dsimp only at hSw); go_simp; try with_reducible rfl)
    try simp only [List.setIfInBounds_toArray, List.set_cons_zero, List.set_cons_succ]
    refine wpAnyH_takeD 5 (v := ?_) rfl rfl (by kernel_rfl) (by kernel_rfl) (by kernel_rfl) (fun _ _ _ h => h) (Or.inl ⟨by rfl, ?_⟩) hHeld ?_
    rotate_left
    focus (intro w hSw; (try dsimp only at hSw); go_simp; try with_reducible rfl)
    try simp only [List.setIfInBounds_toArray, List.set_cons_zero, List.set_cons_succ]
    refine wpAnyH_done (by kernel_rfl) ?_ _
    clear hHeld
    go_wp2_with fail
    go_ret
    exact ⟨rfl, HB2.out⟩
  · have g1 : ¬ ((n : Int) < 2) := by omega
    have g2 : (n : Int) > 600 := by omega
    clear hn h1
    go_enter Try.func7, Try.ntmps7
    go_wp2_with fail
    refine HA.out.mono ?_
    rintro e w1 ⟨rfl, hb⟩
    have hG1 := HG.out.step hb
    have HB := Lib.hid (HB0.out.trans (hb.mono HB0.out.size))
    have c0 := hG1.cell (i := 0) rfl
    have c1 := hG1.cell (i := 1) rfl
    clear hb HA hG1 HG hw0
    go_wp2_with fail
    refine wp_region_held_drew (S := fun W' => W'.cell? ⟨w.heap.size, 0, none⟩ = some (.int .u16 p) ∧ W'.cell? ⟨w.heap.size, 1, none⟩ = some (.int .u16 q)) (by kernel_rfl) ⟨c0, c1⟩ (fun hHeld => ?_)
    generalize hw2 : w1.drew = w2 at hHeld ⊢
    have HB2 := Lib.hid (show Below w.heap.size w w2 by rw [← hw2]; exact HB.out.drew)
    clear hw2 c0 c1 HB
    refine wpAnyH_takeD 0 (v := ?_) rfl rfl (by kernel_rfl) (by kernel_rfl) (by kernel_rfl) (fun _ _ _ h => h) (Or.inl ⟨by rfl, ?_⟩) hHeld ?_
    rotate_left
    focus (intro w hSw; (try dsimp only at hSw); go_simp; try with_reducible rfl)
    try simp only [List.setIfInBounds_toArray, List.set_cons_zero, List.set_cons_succ]
    refine wpAnyH_takeD 1 (v := ?_) rfl rfl (by kernel_rfl) (by kernel_rfl) (by kernel_rfl) (fun _ _ _ h => h) (Or.inl ⟨by rfl, ?_⟩) hHeld ?_
    rotate_left
    focus (intro w hSw; (try dsimp only at hSw); go_simp; try with_reducible rfl)
    try simp only [List.setIfInBounds_toArray, List.set_cons_zero, List.set_cons_succ]
    refine wpAnyH_takeD 2 (v := ?_) rfl rfl (by kernel_rfl) (by kernel_rfl) (by kernel_rfl) (fun _ _ _ h => h) (Or.inl ⟨by rfl, ?_⟩) hHeld ?_
    rotate_left
    focus (intro w hSw; (try dsimp only at hSw); go_simp; try with_reducible rfl)
    try simp only [List.setIfInBounds_toArray, List.set_cons_zero, List.set_cons_succ]
    refine wpAnyH_takeD 3 (v := ?_) rfl rfl (by kernel_rfl) (by kernel_rfl) (by kernel_rfl) (fun _ _ _ h => h) (Or.inl ⟨by rfl, ?_⟩) hHeld ?_
    rotate_left
    focus (intro w hSw; (try dsimp only at hSw); go_simp; try with_reducible rfl)
    try simp only [List.setIfInBounds_toArray, List.set_cons_zero, List.set_cons_succ]
    refine wpAnyH_takeD 4 (v := ?_) rfl rfl (by kernel_rfl) (by kernel_rfl) (by kernel_rfl) (fun _ _ _ h => h) (Or.inl ⟨by rfl, ?_⟩) hHeld ?_
    rotate_left
    focus (intro w hSw; (try dsimp only at hSw); go_simp; try with_reducible rfl)
    try simp only [List.setIfInBounds_toArray, List.set_cons_zero, List.set_cons_succ]
    refine wpAnyH_takeD 5 (v := ?_) rfl rfl (by kernel_rfl) (by kernel_rfl) (by kernel_rfl) (fun _ _ _ h => h) (Or.inl ⟨by rfl, ?_⟩) hHeld ?_
    rotate_left
    focus (intro w hSw; (try dsimp only at hSw); go_simp; try with_reducible rfl)
    try simp only [List.setIfInBounds_toArray, List.set_cons_zero, List.set_cons_succ]
    refine wpAnyH_done (by kernel_rfl) ?_ _
    clear hHeld
    go_wp2_with fail
    go_ret
    exact ⟨rfl, HB2.out⟩
theorem mod_exK (a n : Nat) (hn : 0 < n) : ∃ k : Nat, (a : Int) % (n : Int) = (k : Int) ∧ k < n := ⟨a % n, by simp, Nat.mod_lt _ hn⟩
set_option maxRecDepth 100000 in
set_option maxHeartbeats 16000000 in
theorem lawExchanged {w : World} {A : Option Addr} {n c p q : Nat} {l : List UInt8} (hp : p < 65536) (hq : q < 65536) (h : By w (.slice A n c) l) :
    Calls Try.prog 7 #[.slice A n c, .agg #[.int .u16 (p : Int), .int .u16 (q : Int)]] w fun e w' => e = .returned (.bool true) ∧ Below w.heap.size w w' := by
  obtain ⟨hn, hc, hc2⟩ := h.len
  by_cases hl : n < 2 ∨ 600 < n
  · exact lawExchanged_large hl (by omega)
  · have g1 : ¬ ((n : Int) < 2) := by omega
    have g2 : ¬ ((n : Int) > 600) := by omega
    obtain ⟨N1, hN1⟩ : ∃ N1, n - 1 = N1 := ⟨_, rfl⟩
    have g3 : IntKind.i64.wrap ((n : Int) - 1) = (N1 : Int) := by rw [IntWalk.i64_in _ (by omega)]; omega
    have g4 : ¬ (N1 : Int) = 0 := by omega
    obtain ⟨k, hk, hk2⟩ := mod_exK p N1 (by omega)
    obtain ⟨j, hj, hj2⟩ := mod_exK q N1 (by omega)
    have HS := Lib.hid (fun W (hW : Below w.heap.size w W) => seal_any (h.below hW) (k := k) (by omega) (by omega))
    have HQ := Lib.hid (seal_sealed l k (by omega))
    have HV := Lib.hid (sealB_len l k)
    have HLn := Lib.hid (show n = l.length ∧ n - 1 = N1 ∧ k < N1 ∧ j < N1 ∧ 1 < n ∧ n ≤ 600 by omega)
    obtain ⟨w0, hw0⟩ : ∃ w0, w.alloc (.cells #[.int .u16 (p : Int), .int .u16 (q : Int)] 36) = w0 := ⟨_, rfl⟩
    have hG : Blk w0 w.heap.size [.int .u16 (p : Int), .int .u16 (q : Int)] 36 := by rw [← hw0]; exact Blk.new w _ _
    have hb0 : Below w.heap.size w w0 := by rw [← hw0]; exact (Below.refl _ w).alloc (Nat.le_refl _) _
    have HA := Lib.hid (awake_any w0)
    have HB0 := Lib.hid hb0
    have HG := Lib.hid hG
    have k1 : IntKind.i64.wrap (p : Int) = (p : Int) := by simp [IntKind.wrap, IntKind.bits, IntKind.signed]; omega
    have k2 : IntKind.i64.wrap (q : Int) = (q : Int) := by simp [IntKind.wrap, IntKind.bits, IntKind.signed]; omega
    have hN2 : (N1 : Int) = (n : Int) - 1 := by omega
    rw [hN2] at hk g4
    rw [hN2] at hj
    clear hb0 hG h hl hN1 hk2 hj2 hn hN2 g3
    go_enter Try.func7, Try.ntmps7
    go_wp2_with fail
    refine HA.out.mono ?_
    rintro e w1 ⟨rfl, hb⟩
    have hG1 := HG.out.step hb
    have HB := Lib.hid (HB0.out.trans (hb.mono HB0.out.size))
    have c0 := hG1.cell (i := 0) rfl
    have c1 := hG1.cell (i := 1) rfl
    clear hb HA hG1 HG hw0
    go_wp2_with fail
    refine wp_region_held_drew (S := fun W' => W'.cell? ⟨w.heap.size, 0, none⟩ = some (.int .u16 (p : Int)) ∧ W'.cell? ⟨w.heap.size, 1, none⟩ = some (.int .u16 (q : Int))) (by kernel_rfl) ⟨c0, c1⟩ (fun hHeld => ?_)
    generalize hw2 : w1.drew = w2 at hHeld ⊢
    have HB2 := Lib.hid (show Below w.heap.size w w2 by rw [← hw2]; exact HB.out.drew)
    clear hw2 c0 c1 HB
    refine wpAnyH_takeD 0 (v := ?_) rfl rfl (by kernel_rfl) (by kernel_rfl) (by kernel_rfl) (fun _ _ _ h => h) (Or.inl ⟨by rfl, ?_⟩) hHeld ?_
    rotate_left
    focus (intro w hSw; (try dsimp only at hSw); go_simp; try with_reducible rfl)
    try simp only [List.setIfInBounds_toArray, List.set_cons_zero, List.set_cons_succ]
    refine wpAnyH_takeD 1 (v := ?_) rfl rfl (by kernel_rfl) (by kernel_rfl) (by kernel_rfl) (fun _ _ _ h => h) (Or.inl ⟨by rfl, ?_⟩) hHeld ?_
    rotate_left
    focus (intro w hSw; (try dsimp only at hSw); go_simp; try with_reducible rfl)
    try simp only [List.setIfInBounds_toArray, List.set_cons_zero, List.set_cons_succ]
    refine wpAnyH_takeD 2 (v := ?_) rfl rfl (by kernel_rfl) (by kernel_rfl) (by kernel_rfl) (fun _ _ _ h => h) (Or.inl ⟨by rfl, ?_⟩) hHeld ?_
    rotate_left
    focus (intro w hSw; (try dsimp only at hSw); go_simp; try with_reducible rfl)
    try simp only [List.setIfInBounds_toArray, List.set_cons_zero, List.set_cons_succ]
    refine wpAnyH_takeD 3 (v := ?_) rfl rfl (by kernel_rfl) (by kernel_rfl) (by kernel_rfl) (fun _ _ _ h => h) (Or.inl ⟨by rfl, ?_⟩) hHeld ?_
    rotate_left
    focus (intro w hSw; (try dsimp only at hSw); go_simp; try with_reducible rfl)
    try simp only [List.setIfInBounds_toArray, List.set_cons_zero, List.set_cons_succ]
    refine wpAnyH_takeD 4 (v := ?_) rfl rfl (by kernel_rfl) (by kernel_rfl) (by kernel_rfl) (fun _ _ _ h => h) (Or.inl ⟨by rfl, ?_⟩) hHeld ?_
    rotate_left
    focus (intro w hSw; (try dsimp only at hSw); go_simp; try with_reducible rfl)
    try simp only [List.setIfInBounds_toArray, List.set_cons_zero, List.set_cons_succ]
    refine wpAnyH_takeD 5 (v := ?_) rfl rfl (by kernel_rfl) (by kernel_rfl) (by kernel_rfl) (fun _ _ _ h => h) (Or.inl ⟨by rfl, ?_⟩) hHeld ?_
    rotate_left
    focus (intro w hSw; (try dsimp only at hSw); go_simp; try with_reducible rfl)
    try simp only [List.setIfInBounds_toArray, List.set_cons_zero, List.set_cons_succ]
    refine wpAnyH_done (by kernel_rfl) ?_ _
    clear hHeld
    go_wp2_with fail
    refine (HS.out _ HB2.out).mono ?_
    rintro e w3 ⟨ad, c', rfl, ho, hb⟩
    obtain ⟨L, hL⟩ : ∃ L, sealB l k = L := ⟨_, rfl⟩
    rw [hL] at HQ HV ho
    rw [← HLn.out.1] at ho HV ⊢
    have HO := Lib.hid ho
    have HB3 := Lib.hid (HB2.out.trans (hb.mono HB2.out.size))
    clear hL ho hb HS
    have hjl : j < L.length := by rw [HV.out]; have := HLn.out; omega
    obtain ⟨j1, hj1⟩ : ∃ j1, j + 1 = j1 := ⟨_, rfl⟩
    have hjl1 : j1 < L.length := by rw [HV.out]; have := HLn.out; omega
    have g5 : (j : Int) < (n : Int) := by have := HLn.out; omega
    have g6 : (j1 : Int) < (n : Int) := by have := HLn.out; omega
    have g7 : IntKind.i64.wrap ((j : Int) + 1) = (j1 : Int) := by rw [← hj1]; exact IntWalk.i64_in _ (by have := HLn.out; omega)
    have t1 := HO.out.at2 hjl
    have t2 := HO.out.at2 hjl1
    have hch : sealedB ((L.set j L[j1]).set j1 L[j]) = decide (L[j].toNat % 255 = L[j1].toNat % 255) := by subst hj1; exact exchanged L j hjl1 HQ.out
    have hO := t1.2.2.2 L[j1] _ rfl
    have t3 := hO.at2 (i := j1) (by rw [List.length_set]; exact hjl1)
    have hO2 := t3.2.2.2 L[j] _ rfl
    have hd1 : w3.drew.cell? (ad.add j) = some (.int .u8 (L[j].toNat : Int)) := t1.1
    have hd2 : w3.drew.cell? (ad.add j1) = some (.int .u8 (L[j1].toNat : Int)) := t2.1
    have f0 : w3.drew.frozen? (ad.add j) = false := t1.2.1
    have f1 : w3.drew.frozen? (ad.add j1) = false := t2.2.1
    have c2 : (w3.drew.setCell (ad.add j) (.int .u8 (L[j1].toNat : Int))).cell? (ad.add j1) = some (.int .u8 (((L.set j L[j1])[j1]'(by rw [List.length_set]; exact hjl1)).toNat : Int)) := t3.1
    have hO3 : OwnB w2.heap.size ((w3.drew.setCell (ad.add j) (.int .u8 (L[j1].toNat : Int))).setCell (ad.add j1) (.int .u8 (L[j].toNat : Int))) (.slice (some ad) n c') ((L.set j L[j1]).set j1 L[j]) := hO2
    have HC2 := Lib.hid (show Calls Try.prog 12 #[.slice (some ad) n c'] ((w3.drew.setCell (ad.add j) (.int .u8 (L[j1].toNat : Int))).setCell (ad.add j1) (.int .u8 (L[j].toNat : Int))) fun e w' => e = .returned (.bool (decide (L[j].toNat % 255 = L[j1].toNat % 255))) ∧ (w3.drew.setCell (ad.add j) (.int .u8 (L[j1].toNat : Int))).setCell (ad.add j1) (.int .u8 (L[j].toNat : Int)) = w' by
      rw [← hch]
      exact check_any hO3.by_)
    have HB4 := Lib.hid ((HB3.out.drew.setCell (p := ad.add j) (Nat.le_trans HB2.out.size t1.2.2.1) (.int .u8 (L[j1].toNat : Int))).setCell (p := ad.add j1) (Nat.le_trans HB2.out.size t2.2.2.1) (.int .u8 (L[j].toNat : Int)))
    have c0 := t1.1
    have c1 := t2.1
    generalize (((L.set j L[j1])[j1]'(by rw [List.length_set]; exact hjl1)).toNat : Int) = Z at c2
    have hX8 : L[j].toNat < 256 := L[j].toNat_lt
    have hY8 : L[j1].toNat < 256 := L[j1].toNat_lt
    generalize L[j].toNat = X at c0 c2 HC2 HB4 hd1 hX8
    generalize L[j1].toNat = Y at c1 c2 HC2 HB4 hd2 hY8
    obtain ⟨a, hXa⟩ : ∃ a, X % 255 = a := ⟨_, rfl⟩
    obtain ⟨b, hYb⟩ : ∃ b, Y % 255 = b := ⟨_, rfl⟩
    have m1 : (X : Int) % 255 = (a : Int) := by omega
    have m2 : (Y : Int) % 255 = (b : Int) := by omega
    rw [hXa, hYb] at HC2
    clear hch hO hO2 hO3 t1 t2 t3 hXa hYb hj1 HQ HB3
    go_wp2_with fail
    refine wp_region_held_drew (S := fun W' => W'.cell? (ad.add j) = some (.int .u8 (X : Int)) ∧ W'.cell? (ad.add j1) = some (.int .u8 (Y : Int))) (by kernel_rfl) ⟨c0, c1⟩ (fun hHeld => ?_)
    clear c0 c1
    generalize w3.drew = w4 at *
    refine wpAnyH_takeD 0 (v := ?_) rfl rfl (by kernel_rfl) (by kernel_rfl) (by kernel_rfl) (fun _ _ _ h => h) (Or.inl ⟨by rfl, ?_⟩) hHeld ?_
    rotate_left
    focus (intro w hSw; (try dsimp only at hSw); go_simp; try with_reducible rfl)
    try simp only [List.setIfInBounds_toArray, List.set_cons_zero, List.set_cons_succ]
    refine wpAnyH_takeD 1 (v := ?_) rfl rfl (by kernel_rfl) (by kernel_rfl) (by kernel_rfl) (fun _ _ _ h => h) (Or.inl ⟨by rfl, ?_⟩) hHeld ?_
    rotate_left
    focus (intro w hSw; (try dsimp only at hSw); go_simp; try with_reducible rfl)
    try simp only [List.setIfInBounds_toArray, List.set_cons_zero, List.set_cons_succ]
    refine wpAnyH_takeD 2 (v := ?_) rfl rfl (by kernel_rfl) (by kernel_rfl) (by kernel_rfl) (fun _ _ _ h => h) (Or.inl ⟨by rfl, ?_⟩) hHeld ?_
    rotate_left
    focus (intro w hSw; (try dsimp only at hSw); go_simp; try with_reducible rfl)
    try simp only [List.setIfInBounds_toArray, List.set_cons_zero, List.set_cons_succ]
    refine wpAnyH_takeD 3 (v := ?_) rfl rfl (by kernel_rfl) (by kernel_rfl) (by kernel_rfl) (fun _ _ _ h => h) (Or.inl ⟨by rfl, ?_⟩) hHeld ?_
    rotate_left
    focus (intro w hSw; (try dsimp only at hSw); go_simp; try with_reducible rfl)
    try simp only [List.setIfInBounds_toArray, List.set_cons_zero, List.set_cons_succ]
    refine wpAnyH_takeD 4 (v := ?_) rfl rfl (by kernel_rfl) (by kernel_rfl) (by kernel_rfl) (fun _ _ _ h => h) (Or.inl ⟨by rfl, ?_⟩) hHeld ?_
    rotate_left
    focus (intro w hSw; (try dsimp only at hSw); go_simp; try with_reducible rfl)
    try simp only [List.setIfInBounds_toArray, List.set_cons_zero, List.set_cons_succ]
    refine wpAnyH_takeD 5 (v := ?_) rfl rfl (by kernel_rfl) (by kernel_rfl) (by kernel_rfl) (fun _ _ _ h => h) (Or.inl ⟨by rfl, ?_⟩) hHeld ?_
    rotate_left
    focus (intro w hSw; (try dsimp only at hSw); go_simp; try with_reducible rfl)
    try simp only [List.setIfInBounds_toArray, List.set_cons_zero, List.set_cons_succ]
    refine wpAnyH_takeD 6 (v := ?_) rfl rfl (by kernel_rfl) (by kernel_rfl) (by kernel_rfl) (fun _ _ _ h => h) (Or.inl ⟨by rfl, ?_⟩) hHeld ?_
    rotate_left
    focus (intro w hSw; (try dsimp only at hSw); go_simp; try with_reducible rfl)
    try simp only [List.setIfInBounds_toArray, List.set_cons_zero, List.set_cons_succ]
    refine wpAnyH_takeD 7 (v := ?_) rfl rfl (by kernel_rfl) (by kernel_rfl) (by kernel_rfl) (fun _ _ _ h => h) (Or.inl ⟨by rfl, ?_⟩) hHeld ?_
    rotate_left
    focus (intro w hSw; (try dsimp only at hSw); go_simp; try with_reducible rfl)
    try simp only [List.setIfInBounds_toArray, List.set_cons_zero, List.set_cons_succ]
    refine wpAnyH_takeD 8 (v := ?_) rfl rfl (by kernel_rfl) (by kernel_rfl) (by kernel_rfl) (fun _ _ _ h => h) (Or.inl ⟨by rfl, ?_⟩) hHeld ?_
    rotate_left
    focus (intro w hSw; (try dsimp only at hSw); go_simp; try with_reducible rfl)
    try simp only [List.setIfInBounds_toArray, List.set_cons_zero, List.set_cons_succ]
    refine wpAnyH_takeD 9 (v := ?_) rfl rfl (by kernel_rfl) (by kernel_rfl) (by kernel_rfl) (fun _ _ _ h => h) (Or.inl ⟨by rfl, ?_⟩) hHeld ?_
    rotate_left
    focus (intro w hSw; (try dsimp only at hSw); go_simp; try with_reducible rfl)
    try simp only [List.setIfInBounds_toArray, List.set_cons_zero, List.set_cons_succ]
    refine wpAnyH_takeD 10 (v := ?_) rfl rfl (by kernel_rfl) (by kernel_rfl) (by kernel_rfl) (fun _ _ _ h => h) (Or.inl ⟨by rfl, ?_⟩) hHeld ?_
    rotate_left
    focus (intro w hSw; (try dsimp only at hSw); go_simp; try with_reducible rfl)
    try simp only [List.setIfInBounds_toArray, List.set_cons_zero, List.set_cons_succ]
    refine wpAnyH_done (by kernel_rfl) ?_ _
    clear hHeld
    go_wp2_with fail
    clear hd1 hd2 f0 f1 c2
    refine HC2.out.mono ?_
    rintro e w5 ⟨rfl, hw5⟩
    rw [hw5] at HB4
    clear hw5 HC2
    by_cases h1 : a = b
    · subst h1
      rw [show decide (a = a) = true by simp]
      go_wp2_with fail
      go_ret
      exact ⟨rfl, HB4.out⟩
    · have e1 : ((a : Int) == (b : Int)) = false := by rw [beq_eq_false_iff_ne]; omega
      rw [show decide (a = b) = false by simpa using h1]
      clear h1
      go_wp2_with fail
      go_ret
      exact ⟨rfl, HB4.out⟩
end Go.Proofs.Ytlbckhapcnlmnab
