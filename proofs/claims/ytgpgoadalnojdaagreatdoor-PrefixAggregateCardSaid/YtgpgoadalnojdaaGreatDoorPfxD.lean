/- Contracts of the reference of package prefix: Split. -/
import Derived.Test.YtgpgoadalnojdaaGreatDoorPfxC
namespace Go.Proofs.YtgpgoadalnojdaaGreatDoor
open Go.RowKit

set_option maxHeartbeats 2000000 in
theorem refSplit_bad (a : Nat) (l : Int) (w : World) (ha : a < 4294967296) (hv : vldB a l = false) : Calls Tryz.prog 39 #[pv a l] w fun e w' => e = .returned (.tuple #[pv 0 0, pv 0 0, .int .i64 1]) ∧ Below w.heap.size w w' := by
  have hV := Lib.hid (fun W => refValid_any a l W ha)
  rw [hv] at hV
  obtain ⟨b1, b2, w3, e1, e2, hw3, hP, hT⟩ := start3 w a l
  have H3 := Lib.hid (And.intro hP hT)
  have c0 := hP.cell0
  have c1 := hP.cell1
  have E1 := Lib.hid e1.symm
  have E2 := Lib.hid e2.symm
  clear hv hP hT e1 e2
  go_enter Tryz.func39, Tryz.ntmps39
  go_wp2_with fail
  try simp only [E1.out, E2.out]
  refine (hV.out _).mono ?_
  rintro e w4 ⟨rfl, hb4⟩
  have H4 := Lib.hid (H3.out.2.step hb4)
  clear hb4 hw3 c0 c1
  have f0 := H4.out.1.frozen 0
  have f1 := H4.out.1.frozen 1
  have c0 : w4.cell? ⟨b1, 0, none⟩ = some (.int .u32 0) := H4.out.1.cell0
  have c1 := H4.out.1.cell1
  have HS := Lib.hid (H4.out.set1 0 0)
  have d0 : ((w4.setCell ⟨b1, 0, none⟩ (.int .u32 0)).setCell ⟨b1, 1, none⟩ (.int .i64 0)).cell? ⟨b2, 0, none⟩ = some (.int .u32 0) := HS.out.2.1.cell0
  have d1 : ((w4.setCell ⟨b1, 0, none⟩ (.int .u32 0)).setCell ⟨b1, 1, none⟩ (.int .i64 0)).cell? ⟨b2, 1, none⟩ = some (.int .i64 0) := HS.out.2.1.cell1
  have k0 : ((w4.setCell ⟨b1, 0, none⟩ (.int .u32 0)).setCell ⟨b1, 1, none⟩ (.int .i64 0)).frozen? ⟨b2, 0, none⟩ = false := HS.out.2.1.frozen 0
  have k1 : ((w4.setCell ⟨b1, 0, none⟩ (.int .u32 0)).setCell ⟨b1, 1, none⟩ (.int .i64 0)).frozen? ⟨b2, 1, none⟩ = false := HS.out.2.1.frozen 1
  go_wp2_with fail
  have HT := Lib.hid (show Two w b1 b2 0 0 0 0 ((((w4.setCell ⟨b1, 0, none⟩ (.int .u32 0)).setCell ⟨b1, 1, none⟩ (.int .i64 0)).setCell ⟨b2, 0, none⟩ (.int .u32 0)).setCell ⟨b2, 1, none⟩ (.int .i64 0)) from HS.out.set2 0 0)
  generalize ((((w4.setCell ⟨b1, 0, none⟩ (.int .u32 0)).setCell ⟨b1, 1, none⟩ (.int .i64 0)).setCell ⟨b2, 0, none⟩ (.int .u32 0)).setCell ⟨b2, 1, none⟩ (.int .i64 0)) = W7 at HT ⊢
  have z0 := HT.out.1.cell0
  have z1 := HT.out.1.cell1
  have z2 := HT.out.2.1.cell0
  have z3 := HT.out.2.1.cell1
  exact bodyPost_ret (v := .tuple #[pv 0 0, pv 0 0, .int .i64 1]) (by simp [results, Tryz.results39, go_sem, z0, z1, z2, z3]) rfl ⟨rfl, HT.out.2.2.2.2.2⟩

set_option maxHeartbeats 2000000 in
theorem refSplit_32 (a : Nat) (w : World) (ha : a < 4294967296) (hv : vldB a 32 = true) : Calls Tryz.prog 39 #[pv a 32] w fun e w' => e = .returned (.tuple #[pv 0 0, pv 0 0, .int .i64 2]) ∧ Below w.heap.size w w' := by
  have hV := Lib.hid (fun W => refValid_any a 32 W ha)
  rw [hv] at hV
  obtain ⟨b1, b2, w3, e1, e2, hw3, hP, hT⟩ := start3 w a 32
  have H3 := Lib.hid (And.intro hP hT)
  have c0 := hP.cell0
  have c1 := hP.cell1
  have E1 := Lib.hid e1.symm
  have E2 := Lib.hid e2.symm
  clear hv hP hT e1 e2
  go_enter Tryz.func39, Tryz.ntmps39
  go_wp2_with fail
  try simp only [E1.out, E2.out]
  refine (hV.out _).mono ?_
  rintro e w4 ⟨rfl, hb4⟩
  have H4 := Lib.hid (H3.out.2.step hb4)
  have p1 := (H3.out.1.step hb4).cell1
  clear hb4 hw3 c0 c1
  have f0 := H4.out.1.frozen 0
  have f1 := H4.out.1.frozen 1
  have c0 : w4.cell? ⟨b1, 0, none⟩ = some (.int .u32 0) := H4.out.1.cell0
  have c1 := H4.out.1.cell1
  have HS := Lib.hid (H4.out.set1 0 0)
  have d0 : ((w4.setCell ⟨b1, 0, none⟩ (.int .u32 0)).setCell ⟨b1, 1, none⟩ (.int .i64 0)).cell? ⟨b2, 0, none⟩ = some (.int .u32 0) := HS.out.2.1.cell0
  have d1 : ((w4.setCell ⟨b1, 0, none⟩ (.int .u32 0)).setCell ⟨b1, 1, none⟩ (.int .i64 0)).cell? ⟨b2, 1, none⟩ = some (.int .i64 0) := HS.out.2.1.cell1
  have k0 : ((w4.setCell ⟨b1, 0, none⟩ (.int .u32 0)).setCell ⟨b1, 1, none⟩ (.int .i64 0)).frozen? ⟨b2, 0, none⟩ = false := HS.out.2.1.frozen 0
  have k1 : ((w4.setCell ⟨b1, 0, none⟩ (.int .u32 0)).setCell ⟨b1, 1, none⟩ (.int .i64 0)).frozen? ⟨b2, 1, none⟩ = false := HS.out.2.1.frozen 1
  go_wp2_with fail
  have HT := Lib.hid (show Two w b1 b2 0 0 0 0 ((((w4.setCell ⟨b1, 0, none⟩ (.int .u32 0)).setCell ⟨b1, 1, none⟩ (.int .i64 0)).setCell ⟨b2, 0, none⟩ (.int .u32 0)).setCell ⟨b2, 1, none⟩ (.int .i64 0)) from HS.out.set2 0 0)
  generalize ((((w4.setCell ⟨b1, 0, none⟩ (.int .u32 0)).setCell ⟨b1, 1, none⟩ (.int .i64 0)).setCell ⟨b2, 0, none⟩ (.int .u32 0)).setCell ⟨b2, 1, none⟩ (.int .i64 0)) = W7 at HT ⊢
  have z0 := HT.out.1.cell0
  have z1 := HT.out.1.cell1
  have z2 := HT.out.2.1.cell0
  have z3 := HT.out.2.1.cell1
  exact bodyPost_ret (v := .tuple #[pv 0 0, pv 0 0, .int .i64 2]) (by simp [results, Tryz.results39, go_sem, z0, z1, z2, z3]) rfl ⟨rfl, HT.out.2.2.2.2.2⟩


theorem run_one_shl (i : Nat) (h : i < 32) : Op.shift .shl .u32 1 .u64 (31 - (i : Int)) = pure (.int .u32 ((2 ^ (31 - i) : Nat) : Int)) := by
  have h0 : (0 : Int) ≤ 31 - (i : Int) := by omega
  have h1 : 31 - (i : Int) ≤ 32 := by omega
  refine (shift_shl .u32 .u64 1 (31 - (i : Int)) h0 h1).trans ?_
  rw [show (31 - (i : Int)).toNat = 31 - i by omega, Int.one_mul]
  congr 2
  have hl : 2 ^ (31 - i) < 4294967296 := Nat.lt_of_le_of_lt (Nat.pow_le_pow_right (by omega) (show 31 - i ≤ 31 by omega)) (by decide)
  have : ((2 : Int) ^ (31 - i)) = ((2 ^ (31 - i) : Nat) : Int) := by simp
  rw [this]
  generalize 2 ^ (31 - i) = x at hl
  simp only [IntKind.wrap, IntKind.bits, IntKind.signed]
  simp
  omega
set_option maxHeartbeats 4000000 in
theorem refSplit_good (a n : Nat) (w : World) (ha : a < 4294967296) (hn : n < 32) (hv : vldB a (n : Int) = true) : Calls Tryz.prog 39 #[pv a n] w fun e w' => e = .returned (.tuple #[pv a ((n : Int) + 1), pv (a + 2 ^ (31 - n)) ((n : Int) + 1), .int .i64 0]) ∧ Below w.heap.size w w' := by
  have hV := Lib.hid (fun W => refValid_any a n W ha)
  obtain ⟨n', hn', hle, hfst⟩ := vldB_true hv
  obtain rfl : n = n' := by omega
  rw [hv] at hV
  have hO := half_or hn hfst ha
  have hE1 := run_one_shl n hn
  have hE2 := run_or_nat a (2 ^ (31 - n)) ha (by omega) hO.1
  have hW1 : IntKind.i64.wrap ((n : Int) + 1) = (n : Int) + 1 := IntWalk.i64_in _ (by omega)
  have hW2 : IntKind.i64.wrap (31 - (n : Int)) = 31 - (n : Int) := IntWalk.i64_in _ (by omega)
  have hW3 : IntKind.u64.wrap (31 - (n : Int)) = 31 - (n : Int) := by simp [IntKind.wrap, IntKind.bits, IntKind.signed]; omega
  have hB : decide ((n : Int) = 32) = false := decide_eq_false (by omega)
  have hB2 : ((n : Int) == 32) = false := by simp; omega
  obtain ⟨p, hp⟩ : ∃ p, 2 ^ (31 - n) = p := ⟨_, rfl⟩
  rw [hp] at hE1 hE2 ⊢
  obtain ⟨q, hq⟩ : ∃ q, a + p = q := ⟨_, rfl⟩
  rw [hq] at hE2 ⊢
  obtain ⟨b1, b2, w3, e1, e2, hw3, hP, hT⟩ := start3 w a n
  have H3 := Lib.hid (And.intro hP hT)
  have c0 := hP.cell0
  have c1 := hP.cell1
  have HN := Lib.hid (show w.heap.size ≠ b1 by omega)
  have E1 := Lib.hid e1.symm
  have E2 := Lib.hid e2.symm
  clear hv hP hT e1 e2 hn hn' hle hfst hO hp hq
  go_enter Tryz.func39, Tryz.ntmps39
  go_wp2_with fail
  try simp only [E1.out, E2.out]
  refine (hV.out _).mono ?_
  rintro e w4 ⟨rfl, hb4⟩
  have H4 := Lib.hid (H3.out.2.step hb4)
  have P4 := Lib.hid (H3.out.1.step hb4)
  clear hb4 hw3 c0 c1
  have p0 := P4.out.cell0
  have p1 := P4.out.cell1
  have f0 := H4.out.1.frozen 0
  have f1 := H4.out.1.frozen 1
  have c0 : w4.cell? ⟨b1, 0, none⟩ = some (.int .u32 0) := H4.out.1.cell0
  have c1 := H4.out.1.cell1
  have H5 := Lib.hid (H4.out.set1 a ((n : Int) + 1))
  have P5 := Lib.hid ((P4.out.far (p := ⟨b1, 0, none⟩) HN.out (.int .u32 (a : Int))).far (p := ⟨b1, 1, none⟩) HN.out (.int .i64 ((n : Int) + 1)))
  have q0 := P5.out.cell0
  have q1 := P5.out.cell1
  have d0 : ((w4.setCell ⟨b1, 0, none⟩ (.int .u32 (a : Int))).setCell ⟨b1, 1, none⟩ (.int .i64 ((n : Int) + 1))).cell? ⟨b2, 0, none⟩ = some (.int .u32 0) := H5.out.2.1.cell0
  have d1 := H5.out.2.1.cell1
  have k0 := H5.out.2.1.frozen 0
  have k1 := H5.out.2.1.frozen 1
  have H8 := Lib.hid (H5.out.set2 q ((n : Int) + 1)).drew
  go_wp2_with fail
  go_region
  all_goals
    generalize ((((w4.setCell ⟨b1, 0, none⟩ (.int .u32 (a : Int))).setCell ⟨b1, 1, none⟩ (.int .i64 ((n : Int) + 1))).setCell ⟨b2, 0, none⟩ (.int .u32 (q : Int))).setCell ⟨b2, 1, none⟩ (.int .i64 ((n : Int) + 1))).drew = W7 at H8 ⊢
    clear c0 c1 d0 d1 k0 k1 f0 f1 p0 p1 q0 q1 H5 P5
    go_wp2_with fail
    have z0 := H8.out.1.cell0
    have z1 := H8.out.1.cell1
    have z2 := H8.out.2.1.cell0
    have z3 := H8.out.2.1.cell1
    exact bodyPost_ret (v := .tuple #[pv a ((n : Int) + 1), pv q ((n : Int) + 1), .int .i64 0]) (by simp [results, Tryz.results39, go_sem, z0, z1, z2, z3]) rfl ⟨rfl, H8.out.2.2.2.2.2⟩

theorem refSplit_any (a : Nat) (l : Int) (w : World) (ha : a < 4294967296) : Calls Tryz.prog 39 #[pv a l] w fun e w' => e = .returned (splitV a l) ∧ Below w.heap.size w w' := by
  unfold splitV
  cases hv : vldB a l with
  | false => exact refSplit_bad a l w ha hv
  | true =>
    by_cases h : l = 32
    · subst h
      exact refSplit_32 a w ha hv
    · obtain ⟨n, rfl, hn, _⟩ := vldB_true hv
      simp only [if_true, if_neg h, Int.toNat_natCast]
      exact refSplit_good a n w ha (by omega) hv
end Go.Proofs.YtgpgoadalnojdaaGreatDoor
