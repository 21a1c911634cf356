/- Contracts of package prefix: Split, Parent; of its reference likewise. -/
import Derived.Test.YtiiielpcipdgjaaPfxB
import Derived.BigRegion
namespace Go.Proofs.Ytiiielpcipdgjaa
open Go.RowKit

def splitV (a : Nat) (l : Int) : Value :=
  if vldB a l then (if l = 32 then .tuple #[pv 0 0, pv 0 0, .int .i64 2] else .tuple #[pv a (l + 1), pv (a + 2 ^ (31 - l.toNat)) (l + 1), .int .i64 0]) else .tuple #[pv 0 0, pv 0 0, .int .i64 1]
def parentV (a : Nat) (l : Int) : Value :=
  if vldB a l then (if l = 0 then .tuple #[pv 0 0, .int .i64 2] else .tuple #[pv (fst a (l.toNat - 1)) (l - 1), .int .i64 0]) else .tuple #[pv 0 0, .int .i64 1]
theorem PB.set2 {w : World} {b a a' : Nat} {l l' : Int} (h : PB w b a l) : PB ((w.setCell ⟨b, 0, none⟩ (.int .u32 (a' : Int))).setCell ⟨b, 1, none⟩ (.int .i64 l')) b a' l' := by
  unfold PB at h ⊢
  simp [World.setCell, Array.getElem?_modify, h]
theorem PB.far {w : World} {b a : Nat} {l : Int} (h : PB w b a l) {p : Addr} (hp : b ≠ p.block) (u : Value) : PB (w.setCell p u) b a l := (Below.heap_setCell w p u b hp).trans h

/-- Two boxes for results, and what lay below. -/
def Two (w : World) (b1 b2 a1 a2 : Nat) (l1 l2 : Int) (W : World) : Prop := PB W b1 a1 l1 ∧ PB W b2 a2 l2 ∧ b1 ≠ b2 ∧ w.heap.size ≤ b1 ∧ w.heap.size ≤ b2 ∧ Below w.heap.size w W
section
variable {w W : World} {b1 b2 a1 a2 a : Nat} {l1 l2 l : Int}
theorem Two.set1 (h : Two w b1 b2 a1 a2 l1 l2 W) (a : Nat) (l : Int) : Two w b1 b2 a a2 l l2 ((W.setCell ⟨b1, 0, none⟩ (.int .u32 (a : Int))).setCell ⟨b1, 1, none⟩ (.int .i64 l)) := by
  obtain ⟨h1, h2, h3, h4, h5, h6⟩ := h
  exact ⟨h1.set2, (h2.far (p := ⟨b1, 0, none⟩) (Ne.symm h3) _).far (p := ⟨b1, 1, none⟩) (Ne.symm h3) _, h3, h4, h5, (h6.setCell (p := ⟨b1, 0, none⟩) h4 _).setCell (p := ⟨b1, 1, none⟩) h4 _⟩
theorem Two.set2 (h : Two w b1 b2 a1 a2 l1 l2 W) (a : Nat) (l : Int) : Two w b1 b2 a1 a l1 l ((W.setCell ⟨b2, 0, none⟩ (.int .u32 (a : Int))).setCell ⟨b2, 1, none⟩ (.int .i64 l)) := by
  obtain ⟨h1, h2, h3, h4, h5, h6⟩ := h
  exact ⟨(h1.far (p := ⟨b2, 0, none⟩) h3 _).far (p := ⟨b2, 1, none⟩) h3 _, h2.set2, h3, h4, h5, (h6.setCell (p := ⟨b2, 0, none⟩) h5 _).setCell (p := ⟨b2, 1, none⟩) h5 _⟩
theorem Two.step {W' : World} (h : Two w b1 b2 a1 a2 l1 l2 W) (hb : Below W.heap.size W W') : Two w b1 b2 a1 a2 l1 l2 W' := by
  obtain ⟨h1, h2, h3, h4, h5, h6⟩ := h
  exact ⟨h1.step hb, h2.step hb, h3, h4, h5, h6.trans (hb.mono h6.size)⟩
theorem Two.drew (h : Two w b1 b2 a1 a2 l1 l2 W) : Two w b1 b2 a1 a2 l1 l2 W.drew := ⟨h.1, h.2.1, h.2.2.1, h.2.2.2.1, h.2.2.2.2.1, h.2.2.2.2.2.drew⟩
theorem Two.drewN (h : Two w b1 b2 a1 a2 l1 l2 W) (k : Nat) : Two w b1 b2 a1 a2 l1 l2 (W.drewN k) := ⟨h.1, h.2.1, h.2.2.1, h.2.2.2.1, h.2.2.2.2.1, bdrewN h.2.2.2.2.2 k⟩
end
/-- The worlds in which Split begins: the argument's box and two for the results. -/
theorem start3 (w : World) (a : Nat) (l : Int) : ∃ b1 b2 w3, b1 = w.heap.size + 1 ∧ b2 = b1 + 1 ∧ ((w.alloc (.cells #[.int .u32 (a : Int), .int .i64 l] 35)).alloc (.cells #[.int .u32 0, .int .i64 0] 35)).alloc (.cells #[.int .u32 0, .int .i64 0] 35) = w3 ∧
    PB w3 w.heap.size a l ∧ Two w b1 b2 0 0 0 0 w3 := by
  have hP1 := PB.new w a l
  have hb1 : Below w.heap.size w (w.alloc (.cells #[.int .u32 (a : Int), .int .i64 l] 35)) := (Below.refl _ _).alloc (Nat.le_refl _) _
  refine ⟨_, _, _, rfl, rfl, rfl, (hP1.alloc _).alloc _, ?_, ?_, ?_, ?_, ?_, ?_⟩
  · have := (PB.new (w.alloc (.cells #[.int .u32 (a : Int), .int .i64 l] 35)) 0 0).alloc (.cells #[.int .u32 0, .int .i64 0] 35)
    simpa using this
  · have := PB.new ((w.alloc (.cells #[.int .u32 (a : Int), .int .i64 l] 35)).alloc (.cells #[.int .u32 0, .int .i64 0] 35)) 0 0
    simpa using this
  · omega
  · omega
  · omega
  · exact (hb1.alloc hb1.size _).alloc (Nat.le_trans hb1.size (by simp)) _

set_option maxHeartbeats 2000000 in
theorem split_bad (a : Nat) (l : Int) (w : World) (ha : a < 4294967296) (hv : vldB a l = false) : Calls Try.prog 87 #[pv a l] w fun e w' => e = .returned (.tuple #[pv 0 0, pv 0 0, .int .i64 1]) ∧ Below w.heap.size w w' := by
  have hV := Lib.hid (fun W => valid_any a l W ha)
  rw [hv] at hV
  obtain ⟨b1, b2, w3, e1, e2, hw3, hP, hT⟩ := start3 w a l
  have H3 := Lib.hid (And.intro hP hT)
  have c0 := hP.cell0
  have c1 := hP.cell1
  have E1 := Lib.hid e1.symm
  have E2 := Lib.hid e2.symm
  clear hv hP hT e1 e2
  go_enter Try.func87, Try.ntmps87
  go_wp2_with fail
  try simp only [E1.out, E2.out]
  refine (hV.out _).mono ?_
  rintro e w4 ⟨rfl, hb4⟩
  have H4 := Lib.hid (H3.out.2.step hb4)
  clear hb4 hw3 c0 c1
  have f0 := H4.out.1.frozen 0
  have f1 := H4.out.1.frozen 1
  have c0 : w4.cell? ⟨b1, 0, none⟩ = some (.int .u32 0) := H4.out.1.cell0
  have c1 := H4.out.1.cell1
  have HS := Lib.hid (H4.out.set1 0 0)
  have d0 : ((w4.setCell ⟨b1, 0, none⟩ (.int .u32 0)).setCell ⟨b1, 1, none⟩ (.int .i64 0)).cell? ⟨b2, 0, none⟩ = some (.int .u32 0) := HS.out.2.1.cell0
  have d1 : ((w4.setCell ⟨b1, 0, none⟩ (.int .u32 0)).setCell ⟨b1, 1, none⟩ (.int .i64 0)).cell? ⟨b2, 1, none⟩ = some (.int .i64 0) := HS.out.2.1.cell1
  have k0 : ((w4.setCell ⟨b1, 0, none⟩ (.int .u32 0)).setCell ⟨b1, 1, none⟩ (.int .i64 0)).frozen? ⟨b2, 0, none⟩ = false := HS.out.2.1.frozen 0
  have k1 : ((w4.setCell ⟨b1, 0, none⟩ (.int .u32 0)).setCell ⟨b1, 1, none⟩ (.int .i64 0)).frozen? ⟨b2, 1, none⟩ = false := HS.out.2.1.frozen 1
  go_wp2_with fail
  have HT := Lib.hid (show Two w b1 b2 0 0 0 0 ((((w4.setCell ⟨b1, 0, none⟩ (.int .u32 0)).setCell ⟨b1, 1, none⟩ (.int .i64 0)).setCell ⟨b2, 0, none⟩ (.int .u32 0)).setCell ⟨b2, 1, none⟩ (.int .i64 0)) from HS.out.set2 0 0)
  generalize ((((w4.setCell ⟨b1, 0, none⟩ (.int .u32 0)).setCell ⟨b1, 1, none⟩ (.int .i64 0)).setCell ⟨b2, 0, none⟩ (.int .u32 0)).setCell ⟨b2, 1, none⟩ (.int .i64 0)) = W7 at HT ⊢
  have z0 := HT.out.1.cell0
  have z1 := HT.out.1.cell1
  have z2 := HT.out.2.1.cell0
  have z3 := HT.out.2.1.cell1
  exact bodyPost_ret (v := .tuple #[pv 0 0, pv 0 0, .int .i64 1]) (by simp [results, Try.results87, go_sem, z0, z1, z2, z3]) rfl ⟨rfl, HT.out.2.2.2.2.2⟩

theorem Two.cell0 {w W : World} {b1 b2 a1 a2 : Nat} {l1 l2 : Int} (h : Two w b1 b2 a1 a2 l1 l2 W) : W.cell? ⟨b1, 0, none⟩ = some (.int .u32 (a1 : Int)) := h.1.cell0
theorem run_half_shl (n : Nat) (h : n < 32) : Op.shift .shl .u32 1 .i64 (32 - ((n : Int) + 1)) = pure (.int .u32 ((2 ^ (31 - n) : Nat) : Int)) := by
  have h0 : (0 : Int) ≤ 32 - ((n : Int) + 1) := by omega
  have h1 : 32 - ((n : Int) + 1) ≤ 32 := by omega
  refine (shift_shl .u32 .i64 1 (32 - ((n : Int) + 1)) h0 h1).trans ?_
  rw [show (32 - ((n : Int) + 1)).toNat = 31 - n by omega, Int.one_mul]
  congr 2
  have hl : 2 ^ (31 - n) < 4294967296 := Nat.lt_of_le_of_lt (Nat.pow_le_pow_right (by omega) (show 31 - n ≤ 31 by omega)) (by decide)
  have : ((2 : Int) ^ (31 - n)) = ((2 ^ (31 - n) : Nat) : Int) := by simp
  rw [this]
  generalize 2 ^ (31 - n) = x at hl
  simp only [IntKind.wrap, IntKind.bits, IntKind.signed]
  simp
  omega
theorem half_or {a n : Nat} (h : n < 32) (ha : fst a n = a) (hlt : a < 4294967296) : a ||| 2 ^ (31 - n) = a + 2 ^ (31 - n) ∧ a + 2 ^ (31 - n) < 4294967296 := by
  have e : (2 : Nat) ^ (32 - n) = 2 ^ (31 - n) + 2 ^ (31 - n) := by rw [show 32 - n = (31 - n) + 1 by omega, Nat.pow_succ]; omega
  have hp := Nat.two_pow_pos (31 - n)
  have hv : Vld (a, n) := (vld_iff hlt).2 ⟨by omega, ha⟩
  have h3 := hv.2.2
  simp only [sz] at h3
  refine ⟨?_, by omega⟩
  conv => lhs; rw [← ha]
  unfold fst
  rw [Nat.mul_comm, ← Nat.two_pow_add_eq_or_of_lt (by rw [e]; omega), Nat.mul_comm]
  have : a / 2 ^ (32 - n) * 2 ^ (32 - n) = a := ha
  rw [this]

set_option maxHeartbeats 2000000 in
theorem split_32 (a : Nat) (w : World) (ha : a < 4294967296) (hv : vldB a 32 = true) : Calls Try.prog 87 #[pv a 32] w fun e w' => e = .returned (.tuple #[pv 0 0, pv 0 0, .int .i64 2]) ∧ Below w.heap.size w w' := by
  have hV := Lib.hid (fun W => valid_any a 32 W ha)
  rw [hv] at hV
  obtain ⟨b1, b2, w3, e1, e2, hw3, hP, hT⟩ := start3 w a 32
  have H3 := Lib.hid (And.intro hP hT)
  have c0 := hP.cell0
  have c1 := hP.cell1
  have E1 := Lib.hid e1.symm
  have E2 := Lib.hid e2.symm
  clear hv hP hT e1 e2
  go_enter Try.func87, Try.ntmps87
  go_wp2_with fail
  try simp only [E1.out, E2.out]
  refine (hV.out _).mono ?_
  rintro e w4 ⟨rfl, hb4⟩
  have H4 := Lib.hid (H3.out.2.step hb4)
  have p1 := (H3.out.1.step hb4).cell1
  clear hb4 hw3 c0 c1
  have f0 := H4.out.1.frozen 0
  have f1 := H4.out.1.frozen 1
  have c0 : w4.cell? ⟨b1, 0, none⟩ = some (.int .u32 0) := H4.out.1.cell0
  have c1 := H4.out.1.cell1
  have HS := Lib.hid (H4.out.set1 0 0)
  have d0 : ((w4.setCell ⟨b1, 0, none⟩ (.int .u32 0)).setCell ⟨b1, 1, none⟩ (.int .i64 0)).cell? ⟨b2, 0, none⟩ = some (.int .u32 0) := HS.out.2.1.cell0
  have d1 : ((w4.setCell ⟨b1, 0, none⟩ (.int .u32 0)).setCell ⟨b1, 1, none⟩ (.int .i64 0)).cell? ⟨b2, 1, none⟩ = some (.int .i64 0) := HS.out.2.1.cell1
  have k0 : ((w4.setCell ⟨b1, 0, none⟩ (.int .u32 0)).setCell ⟨b1, 1, none⟩ (.int .i64 0)).frozen? ⟨b2, 0, none⟩ = false := HS.out.2.1.frozen 0
  have k1 : ((w4.setCell ⟨b1, 0, none⟩ (.int .u32 0)).setCell ⟨b1, 1, none⟩ (.int .i64 0)).frozen? ⟨b2, 1, none⟩ = false := HS.out.2.1.frozen 1
  go_wp2_with fail
  have HT := Lib.hid (show Two w b1 b2 0 0 0 0 ((((w4.setCell ⟨b1, 0, none⟩ (.int .u32 0)).setCell ⟨b1, 1, none⟩ (.int .i64 0)).setCell ⟨b2, 0, none⟩ (.int .u32 0)).setCell ⟨b2, 1, none⟩ (.int .i64 0)) from HS.out.set2 0 0)
  generalize ((((w4.setCell ⟨b1, 0, none⟩ (.int .u32 0)).setCell ⟨b1, 1, none⟩ (.int .i64 0)).setCell ⟨b2, 0, none⟩ (.int .u32 0)).setCell ⟨b2, 1, none⟩ (.int .i64 0)) = W7 at HT ⊢
  have z0 := HT.out.1.cell0
  have z1 := HT.out.1.cell1
  have z2 := HT.out.2.1.cell0
  have z3 := HT.out.2.1.cell1
  exact bodyPost_ret (v := .tuple #[pv 0 0, pv 0 0, .int .i64 2]) (by simp [results, Try.results87, go_sem, z0, z1, z2, z3]) rfl ⟨rfl, HT.out.2.2.2.2.2⟩

set_option maxHeartbeats 2000000 in
theorem split_good (a n : Nat) (w : World) (ha : a < 4294967296) (hn : n < 32) (hv : vldB a (n : Int) = true) : Calls Try.prog 87 #[pv a n] w fun e w' => e = .returned (.tuple #[pv a ((n : Int) + 1), pv (a + 2 ^ (31 - n)) ((n : Int) + 1), .int .i64 0]) ∧ Below w.heap.size w w' := by
  have hV := Lib.hid (fun W => valid_any a n W ha)
  obtain ⟨n', hn', hle, hfst⟩ := vldB_true hv
  obtain rfl : n = n' := by omega
  rw [hv] at hV
  have hO := half_or hn hfst ha
  have hE1 := run_half_shl n hn
  have hE2 := run_or_nat a (2 ^ (31 - n)) ha (by omega) hO.1
  have hW1 : IntKind.i64.wrap ((n : Int) + 1) = (n : Int) + 1 := IntWalk.i64_in _ (by omega)
  have hW2 : IntKind.i64.wrap (32 - ((n : Int) + 1)) = 32 - ((n : Int) + 1) := IntWalk.i64_in _ (by omega)
  have hB : decide ((n : Int) = 32) = false := decide_eq_false (by omega)
  have hB2 : ((n : Int) == 32) = false := by simp; omega
  obtain ⟨p, hp⟩ : ∃ p, 2 ^ (31 - n) = p := ⟨_, rfl⟩
  rw [hp] at hE1 hE2 ⊢
  obtain ⟨q, hq⟩ : ∃ q, a + p = q := ⟨_, rfl⟩
  rw [hq] at hE2 ⊢
  obtain ⟨b1, b2, w3, e1, e2, hw3, hP, hT⟩ := start3 w a n
  have H3 := Lib.hid (And.intro hP hT)
  have c0 := hP.cell0
  have c1 := hP.cell1
  have HN := Lib.hid (show w.heap.size ≠ b1 by omega)
  have HN2 := Lib.hid (show w.heap.size ≠ b2 by omega)
  have E1 := Lib.hid e1.symm
  have E2 := Lib.hid e2.symm
  clear hv hP hT e1 e2 hn hn' hle hfst hO hp hq
  go_enter Try.func87, Try.ntmps87
  go_wp2_with fail
  try simp only [E1.out, E2.out]
  refine (hV.out _).mono ?_
  rintro e w4 ⟨rfl, hb4⟩
  have H4 := Lib.hid (H3.out.2.step hb4)
  have P4 := Lib.hid (H3.out.1.step hb4)
  clear hb4 hw3 c0 c1
  have p0 := P4.out.cell0
  have p1 := P4.out.cell1
  have f0 := H4.out.1.frozen 0
  have f1 := H4.out.1.frozen 1
  have c0 : w4.cell? ⟨b1, 0, none⟩ = some (.int .u32 0) := H4.out.1.cell0
  have c1 := H4.out.1.cell1
  go_wp2_with fail
  have H5 := Lib.hid (H4.out.set1 a ((n : Int) + 1))
  have P5 := Lib.hid ((P4.out.far (p := ⟨b1, 0, none⟩) HN.out (.int .u32 (a : Int))).far (p := ⟨b1, 1, none⟩) HN.out (.int .i64 ((n : Int) + 1)))
  clear p0 p1 f0 f1 c0 c1
  generalize (w4.setCell ⟨b1, 0, none⟩ (.int .u32 (a : Int))).setCell ⟨b1, 1, none⟩ (.int .i64 ((n : Int) + 1)) = w5 at H5 P5 ⊢
  have p0 := P5.out.cell0
  have p1 := P5.out.cell1
  have c0 := H5.out.1.cell0
  have c1 := H5.out.1.cell1
  have d0 : w5.cell? ⟨b2, 0, none⟩ = some (.int .u32 0) := H5.out.2.1.cell0
  have d1 := H5.out.2.1.cell1
  have k0 := H5.out.2.1.frozen 0
  have k1 := H5.out.2.1.frozen 1
  refine wp_region_held_drew (S := fun W' => W'.cell? ⟨w.heap.size, 0, none⟩ = some (.int .u32 (a : Int)) ∧ W'.cell? ⟨b1, 1, none⟩ = some (.int .i64 ((n : Int) + 1))) (by kernel_rfl) ⟨p0, c1⟩ (fun hHeld => ?_)
  refine wpAnyH_takeD 0 (v := ?_) rfl rfl (by kernel_rfl) (by kernel_rfl) (by kernel_rfl) (fun _ _ _ h => h) (Or.inl ⟨by rfl, ?_⟩) hHeld ?_
  rotate_left
  focus (intro w hSw; (try dsimp only at hSw); go_simp; try with_reducible rfl)
  simp only [List.setIfInBounds_toArray, List.set_cons_zero, List.set_cons_succ]
  refine wpAnyH_takeD 1 (v := ?_) rfl rfl (by kernel_rfl) (by kernel_rfl) (by kernel_rfl) (fun _ _ _ h => h) (Or.inl ⟨by rfl, ?_⟩) hHeld ?_
  rotate_left
  focus (intro w hSw; (try dsimp only at hSw); go_simp; try with_reducible rfl)
  simp only [List.setIfInBounds_toArray, List.set_cons_zero, List.set_cons_succ]
  refine wpAnyH_takeD 2 (v := ?_) rfl rfl (by kernel_rfl) (by kernel_rfl) (by kernel_rfl) (fun _ _ _ h => h) (Or.inl ⟨by rfl, ?_⟩) hHeld ?_
  rotate_left
  focus (intro w hSw; (try dsimp only at hSw); go_simp; try with_reducible rfl)
  simp only [List.setIfInBounds_toArray, List.set_cons_zero, List.set_cons_succ]
  refine wpAnyH_takeD 3 (v := ?_) rfl rfl (by kernel_rfl) (by kernel_rfl) (by kernel_rfl) (fun _ _ _ h => h) (Or.inl ⟨by rfl, ?_⟩) hHeld ?_
  rotate_left
  focus (intro w hSw; (try dsimp only at hSw); go_simp; try with_reducible rfl)
  simp only [List.setIfInBounds_toArray, List.set_cons_zero, List.set_cons_succ]
  refine wpAnyH_takeD 4 (v := ?_) rfl rfl (by kernel_rfl) (by kernel_rfl) (by kernel_rfl) (fun _ _ _ h => h) (Or.inl ⟨by rfl, ?_⟩) hHeld ?_
  rotate_left
  focus (intro w hSw; (try dsimp only at hSw); go_simp; try with_reducible rfl)
  simp only [List.setIfInBounds_toArray, List.set_cons_zero, List.set_cons_succ]
  refine wpAnyH_takeD 5 (v := ?_) rfl rfl (by kernel_rfl) (by kernel_rfl) (by kernel_rfl) (fun _ _ _ h => h) (Or.inl ⟨by rfl, ?_⟩) hHeld ?_
  rotate_left
  focus (intro w hSw; (try dsimp only at hSw); go_simp; try with_reducible rfl)
  simp only [List.setIfInBounds_toArray, List.set_cons_zero, List.set_cons_succ]
  refine wpAnyH_takeD 6 (v := ?_) rfl rfl (by kernel_rfl) (by kernel_rfl) (by kernel_rfl) (fun _ _ _ h => h) (Or.inl ⟨by rfl, ?_⟩) hHeld ?_
  rotate_left
  focus (intro w hSw; (try dsimp only at hSw); go_simp; try with_reducible rfl)
  simp only [List.setIfInBounds_toArray, List.set_cons_zero, List.set_cons_succ]
  refine wpAnyH_takeD 7 (v := ?_) rfl rfl (by kernel_rfl) (by kernel_rfl) (by kernel_rfl) (fun _ _ _ h => h) (Or.inl ⟨by rfl, ?_⟩) hHeld ?_
  rotate_left
  focus (intro w hSw; (try dsimp only at hSw); go_simp; try with_reducible rfl)
  simp only [List.setIfInBounds_toArray, List.set_cons_zero, List.set_cons_succ]
  refine wpAnyH_takeD 8 (v := ?_) rfl rfl (by kernel_rfl) (by kernel_rfl) (by kernel_rfl) (fun _ _ _ h => h) (Or.inl ⟨by rfl, ?_⟩) hHeld ?_
  rotate_left
  focus (intro w hSw; (try dsimp only at hSw); go_simp; try with_reducible rfl)
  simp only [List.setIfInBounds_toArray, List.set_cons_zero, List.set_cons_succ]
  refine wpAnyH_takeD 9 (v := ?_) rfl rfl (by kernel_rfl) (by kernel_rfl) (by kernel_rfl) (fun _ _ _ h => h) (Or.inl ⟨by rfl, ?_⟩) hHeld ?_
  rotate_left
  focus (intro w hSw; (try dsimp only at hSw); go_simp; try with_reducible rfl)
  simp only [List.setIfInBounds_toArray, List.set_cons_zero, List.set_cons_succ]
  refine wpAnyH_ready (rs := [10]) (by kernel_rfl) (by simp) ?_
  refine AllReadyH.cons rfl (fun K hK => ?_) AllReadyH.nil
  go_simp
  have H6 := Lib.hid (H5.out.set2 q ((n : Int) + 1)).drew
  refine hK.out _ _ ⟨((P5.out.far (p := ⟨b2, 0, none⟩) HN2.out (.int .u32 (q : Int))).far (p := ⟨b2, 1, none⟩) HN2.out (.int .i64 ((n : Int) + 1))).cell0, H6.out.1.cell1⟩ (fun hHeld => ?_)
  clear hK K
  refine wpAnyH_done (by kernel_rfl) ?_ _
  clear hHeld p0 p1 c0 c1 d0 d1 k0 k1
  generalize ((w5.setCell ⟨b2, 0, none⟩ (.int .u32 (q : Int))).setCell ⟨b2, 1, none⟩ (.int .i64 ((n : Int) + 1))).drew = w6 at H6 ⊢
  have c0 := H6.out.1.cell0
  have c1 := H6.out.1.cell1
  have d0 := H6.out.2.1.cell0
  have d1 := H6.out.2.1.cell1
  have k0 := H6.out.2.1.frozen 0
  have k1 := H6.out.2.1.frozen 1
  have f0 := H6.out.1.frozen 0
  have f1 := H6.out.1.frozen 1
  have H7 := Lib.hid (H6.out.set1 a ((n : Int) + 1))
  have x0 := H7.out.2.1.cell0
  have x1 := H7.out.2.1.cell1
  have y0 := H7.out.2.1.frozen 0
  have y1 := H7.out.2.1.frozen 1
  have H8 := Lib.hid (H7.out.set2 q ((n : Int) + 1)).drew
  go_wp2_with fail
  go_region
  generalize ((((w6.setCell ⟨b1, 0, none⟩ (.int .u32 (a : Int))).setCell ⟨b1, 1, none⟩ (.int .i64 ((n : Int) + 1))).setCell ⟨b2, 0, none⟩ (.int .u32 (q : Int))).setCell ⟨b2, 1, none⟩ (.int .i64 ((n : Int) + 1))).drew = W7 at H8 ⊢
  clear c0 c1 d0 d1 k0 k1 f0 f1 x0 x1 y0 y1 H7
  go_wp2_with fail
  have z0 := H8.out.1.cell0
  have z1 := H8.out.1.cell1
  have z2 := H8.out.2.1.cell0
  have z3 := H8.out.2.1.cell1
  exact bodyPost_ret (v := .tuple #[pv a ((n : Int) + 1), pv q ((n : Int) + 1), .int .i64 0]) (by simp [results, Try.results87, go_sem, z0, z1, z2, z3]) rfl ⟨rfl, H8.out.2.2.2.2.2⟩

theorem split_any (a : Nat) (l : Int) (w : World) (ha : a < 4294967296) : Calls Try.prog 87 #[pv a l] w fun e w' => e = .returned (splitV a l) ∧ Below w.heap.size w w' := by
  unfold splitV
  cases hv : vldB a l with
  | false => exact split_bad a l w ha hv
  | true =>
    by_cases h : l = 32
    · subst h
      exact split_32 a w ha hv
    · obtain ⟨n, rfl, hn, _⟩ := vldB_true hv
      simp only [if_true, if_neg h, Int.toNat_natCast]
      exact split_good a n w ha (by omega) hv
end Go.Proofs.Ytiiielpcipdgjaa
