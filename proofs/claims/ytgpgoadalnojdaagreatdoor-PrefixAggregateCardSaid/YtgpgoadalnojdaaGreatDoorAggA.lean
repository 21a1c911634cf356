/- Boxes that hold prefixes. Contract of package prefix: join. -/
import Derived.Test.YtgpgoadalnojdaaGreatDoorPfxE
import Derived.Test.YtgpgoadalnojdaaGreatDoorPfxI
namespace Go.Proofs.YtgpgoadalnojdaaGreatDoor
open Go.RowKit

/-- Boxes that hold prefixes, in a world that has grown. -/
def Bx (w : World) (L : List (Nat × Nat × Int)) (W : World) : Prop := Below w.heap.size w W ∧ ∀ x ∈ L, PB W x.1 x.2.1 x.2.2
section
variable {w W W' : World} {L : List (Nat × Nat × Int)}
theorem Bx.step (h : Bx w L W) (hb : Below W.heap.size W W') : Bx w L W' := ⟨h.1.trans (hb.mono h.1.size), fun x hx => (h.2 x hx).step hb⟩
theorem Bx.drew (h : Bx w L W) : Bx w L W.drew := ⟨h.1.drew, fun x hx => (h.2 x hx).drew⟩
theorem Bx.alloc1 (h : Bx w L W) (a : Nat) (l : Int) : Bx w ((W.heap.size, a, l) :: L) (W.alloc (.cells #[.int .u32 (a : Int), .int .i64 l] 32)) := by
  refine ⟨h.1.alloc h.1.size _, fun x hx => ?_⟩
  rcases List.mem_cons.1 hx with rfl | hx
  · exact PB.new W a l
  · exact (h.2 x hx).alloc _
theorem Bx.alloc2 (h : Bx w L W) (a : Nat) (l : Int) (b : Nat) (m : Int) : Bx w ((W.heap.size + 1, b, m) :: (W.heap.size, a, l) :: L) ((W.alloc (.cells #[.int .u32 (a : Int), .int .i64 l] 32)).alloc (.cells #[.int .u32 (b : Int), .int .i64 m] 32)) := by
  have := (h.alloc1 a l).alloc1 b m
  simpa using this
theorem Bx.get (h : Bx w L W) {b a : Nat} {l : Int} (hx : (b, a, l) ∈ L) : PB W b a l := h.2 _ hx
end
theorem half_facts {a n : Nat} (ha : a < 4294967296) (hn : n < 32) (hf : fst a n = a) :
    vldB a ((n : Int) + 1) = true ∧ fst a (n + 1) = a ∧ vldB (a + 2 ^ (31 - n)) ((n : Int) + 1) = true ∧ fst (a + 2 ^ (31 - n)) n = a ∧ a + 2 ^ (31 - n) < 4294967296 := by
  have hv : Vld (a, n) := (vld_iff ha).2 ⟨by omega, hf⟩
  have hu := sz_up (l := n + 1) (by omega) (by omega)
  rw [Nat.add_sub_cancel] at hu
  have hs : sz (n + 1) = 2 ^ (31 - n) := by unfold sz; rw [show 32 - (n + 1) = 31 - n by omega]
  have hp := sz_pos (n + 1)
  have h3 := hv.2.2
  have hm := hv.2.1
  simp only at h3 hm
  rw [hu] at h3 hm
  obtain ⟨d, hd⟩ := of_mod hm
  have m1 : a % sz (n + 1) = 0 := by rw [hd, ← Nat.mul_assoc]; exact Nat.mul_mod_left _ _
  have m2 : (a + sz (n + 1)) % sz (n + 1) = 0 := by rw [Nat.add_mod_right]; exact m1
  have e1 : ((n : Int) + 1) = ((n + 1 : Nat) : Int) := by omega
  rw [← hs]
  have v2 : Vld (a + sz (n + 1), n + 1) := ⟨by simp; omega, m2, by simp only; omega⟩
  refine ⟨?_, fst_eq.2 m1, ?_, ?_, by omega⟩
  · rw [e1]; exact (vldB_vld ha).2 ⟨by simp; omega, m1, by simp only; omega⟩
  · rw [e1]; exact (vldB_vld (by omega)).2 v2
  · have := (has_fst (p := (a, n)) hv.2.1 (a + sz (n + 1))).2 ⟨by simp, by simp only; rw [hu]; omega⟩
    exact this

/-- What join answers. -/
def joinV (ok : Bool) (a n : Nat) : Value := if ok then .tuple #[pv a ((n : Int) - 1), .bool true] else .tuple #[pv 0 0, .bool false]
def JoinPost (w : World) (v : Value) (e : Ending) (w' : World) : Prop := e = .returned v ∧ Below w.heap.size w w'
theorem start_j (w : World) (a : Nat) (l : Int) (b : Nat) (m : Int) : ∃ b1 b2 w3, b1 = w.heap.size + 1 ∧ b2 = b1 + 1 ∧ ((w.alloc (.cells #[.int .u32 (a : Int), .int .i64 l] 32)).alloc (.cells #[.int .u32 (b : Int), .int .i64 m] 32)).alloc (.cells #[.int .u32 0, .int .i64 0] 32) = w3 ∧
    PB w3 w.heap.size a l ∧ PB w3 b1 b m ∧ Ret1 w b2 0 0 w3 := by
  obtain ⟨b1, w2, e1, hw2, hP, hQ, hb⟩ := start_pq w a l b m
  have hs : w2.heap.size = b1 + 1 := by rw [← hw2]; simp; omega
  refine ⟨b1, b1 + 1, _, e1, rfl, rfl, ?_, ?_, ?_, by omega, ?_⟩
  · rw [hw2]; exact hP.alloc _
  · rw [hw2]; exact hQ.alloc _
  · rw [hw2, ← hs]; exact PB.new w2 0 0
  · rw [hw2]; exact hb.alloc hb.size _
theorem parentV_0 (a : Nat) (h : vldB a 0 = true) : parentV a 0 = .tuple #[pv 0 0, .int .i64 2] := by
  unfold parentV
  rw [if_pos h, if_pos rfl]
theorem splitV_0 : splitV 0 0 = .tuple #[pv 0 1, pv 2147483648 1, .int .i64 0] := by
  unfold splitV
  rw [if_pos (by decide +kernel), if_neg (by decide)]
  rfl
theorem parent_vld {a n : Nat} (ha : a < 4294967296) (h0 : 0 < n) (hn : n ≤ 32) : vldB (fst a (n - 1)) ((n : Int) - 1) = true := by
  rw [show (n : Int) - 1 = ((n - 1 : Nat) : Int) by omega]
  refine (vldB_vld (fst_lt ha)).2 ((vld_iff (fst_lt ha)).2 ⟨by omega, ?_⟩)
  exact fst_fst a (n - 1) (n - 1) (Nat.le_refl _)
theorem parentV_pos {a n : Nat} (h0 : 0 < n) (h : vldB a (n : Int) = true) : parentV a n = .tuple #[pv (fst a (n - 1)) ((n : Int) - 1), .int .i64 0] := by
  unfold parentV
  rw [if_pos h, if_neg (by omega), Int.toNat_natCast]
theorem splitV_par {p n : Nat} (h0 : 0 < n) (hn : n ≤ 32) (h : vldB p ((n : Int) - 1) = true) : splitV p ((n : Int) - 1) = .tuple #[pv p n, pv (p + sz n) n, .int .i64 0] := by
  unfold splitV
  rw [if_pos h, if_neg (by omega), show (n : Int) - 1 + 1 = n by omega, show ((n : Int) - 1).toNat = n - 1 by omega]
  unfold sz
  rw [show 31 - (n - 1) = 32 - n by omega]

set_option maxRecDepth 100000 in
set_option maxHeartbeats 8000000 in
theorem join_zero (a b k : Nat) (w : World) (ha : a < 4294967296) (hv : vldB a 0 = true) :
    Calls Tryz.prog 37 #[pv a 0, pv b k] w (JoinPost w (.tuple #[pv 0 0, .bool false])) := by
  have hPa := Lib.hid (fun W => parent_any a 0 W ha)
  rw [parentV_0 a hv] at hPa
  have hSp := Lib.hid (fun W => split_any 0 0 W (by omega))
  rw [splitV_0] at hSp
  obtain ⟨b1, b2, w3, e1, e2, hw3, hP, hQ, hR⟩ := start_j w a 0 b k
  have H0 := Lib.hid (show Bx w [(b1, b, (k : Int)), (w.heap.size, a, (0 : Int))] w3 from ⟨hR.2.2, fun x hx => by
    simp only [List.mem_cons, List.not_mem_nil, or_false] at hx
    rcases hx with rfl | rfl
    · exact hQ
    · exact hP⟩)
  have R0 := Lib.hid hR
  have p0 := hP.cell0
  have p1 := hP.cell1
  have E1 := Lib.hid e1.symm
  have E2 := Lib.hid e2.symm
  have HBB := Lib.hid (show b2 < w3.heap.size from hR.1.lt)
  clear hP hQ hR e1 e2 ha
  go_enter Tryz.func37, Tryz.ntmps37
  go_wp2_with fail
  try simp only [E1.out, E2.out]
  refine (hPa.out _).mono ?_
  rintro en v1 ⟨rfl, hb⟩
  have H1 := Lib.hid (H0.out.step hb)
  have R1 := Lib.hid (R0.out.step hb)
  clear hb p0 p1 H0 R0 hw3 HBB
  go_upto_region 2 with fail
  have G1 := Lib.hid (H1.out.alloc1 0 (0))
  have S1 := Lib.hid (R1.out.step (Joins.below_alloc1 v1 (.cells #[.int .u32 0, .int .i64 (0)] 32)))
  rw [show (Obj.cells #[.int .u32 ((0 : Nat) : Int), .int .i64 0] 32) = Obj.cells #[.int .u32 0, .int .i64 0] 32 from rfl] at G1
  generalize v1.alloc (.cells #[.int .u32 0, .int .i64 (0)] 32) = u1 at G1 S1 ⊢
  obtain ⟨bp, hbp⟩ : ∃ b, v1.heap.size = b := ⟨_, rfl⟩
  rw [hbp] at G1 ⊢
  clear hbp H1 R1
  have p0 := (G1.out.get (b := bp) (a := 0) (l := 0) (by simp)).cell0
  have p1 := (G1.out.get (b := bp) (a := 0) (l := 0) (by simp)).cell1
  go_wp2_with fail
  refine (hSp.out _).mono ?_
  rintro en v2 ⟨rfl, hb⟩
  have H2 := Lib.hid (G1.out.step hb)
  have R2 := Lib.hid (S1.out.step hb)
  clear hb p0 p1 G1 S1
  go_upto_region 3 with fail
  have G2 := Lib.hid (H2.out.alloc2 0 1 2147483648 1)
  have S2 := Lib.hid (R2.out.step (Joins.below_alloc2 v2 (.cells #[.int .u32 0, .int .i64 1] 32) (.cells #[.int .u32 (2147483648 : Int), .int .i64 1] 32)))
  rw [show (Obj.cells #[.int .u32 ((0 : Nat) : Int), .int .i64 1] 32) = Obj.cells #[.int .u32 0, .int .i64 1] 32 from rfl, show (Obj.cells #[.int .u32 ((2147483648 : Nat) : Int), .int .i64 1] 32) = Obj.cells #[.int .u32 2147483648, .int .i64 1] 32 from rfl] at G2
  generalize (v2.alloc (.cells #[.int .u32 0, .int .i64 1] 32)).alloc (.cells #[.int .u32 (2147483648 : Int), .int .i64 1] 32) = v5 at G2 S2 ⊢
  obtain ⟨bz, hby⟩ : ∃ b, v2.heap.size + 1 = b := ⟨_, rfl⟩
  rw [hby] at G2 ⊢
  clear hby
  obtain ⟨bx, hbx⟩ : ∃ b, v2.heap.size = b := ⟨_, rfl⟩
  rw [hbx] at G2 ⊢
  clear hbx H2 R2
  have R5 := S2
  have p0 := (G2.out.get (b := w.heap.size) (a := a) (l := 0) (by simp)).cell0
  have p1 := (G2.out.get (b := w.heap.size) (a := a) (l := 0) (by simp)).cell1
  have q0 := (G2.out.get (b := b1) (a := b) (l := k) (by simp)).cell0
  have q1 := (G2.out.get (b := b1) (a := b) (l := k) (by simp)).cell1
  have r0 := (G2.out.get (b := bp) (a := 0) (l := 0) (by simp)).cell0
  have r1 := (G2.out.get (b := bp) (a := 0) (l := 0) (by simp)).cell1
  have s0 := (G2.out.get (b := bx) (a := 0) (l := 1) (by simp)).cell0
  have s1 := (G2.out.get (b := bx) (a := 0) (l := 1) (by simp)).cell1
  have t0 := (G2.out.get (b := bz) (a := 2147483648) (l := 1) (by simp)).cell0
  have t1 := (G2.out.get (b := bz) (a := 2147483648) (l := 1) (by simp)).cell1
  have f0 := R5.out.1.frozen 0
  have f1 := R5.out.1.frozen 1
  have c0 : v5.cell? ⟨b2, 0, none⟩ = some (.int .u32 0) := R5.out.1.cell0
  have c1 := R5.out.1.cell1
  go_wp2_with fail
  have HT := Lib.hid (show Ret1 w b2 0 0 ((v5.setCell ⟨b2, 0, none⟩ (.int .u32 0)).setCell ⟨b2, 1, none⟩ (.int .i64 0)) from R5.out.set1 0 0)
  generalize (v5.setCell ⟨b2, 0, none⟩ (.int .u32 0)).setCell ⟨b2, 1, none⟩ (.int .i64 0) = W7 at HT ⊢
  have z0 := HT.out.1.cell0
  have z1 := HT.out.1.cell1
  exact bodyPost_ret (v := .tuple #[pv 0 0, .bool false]) (by simp [results, Tryz.results37, go_sem, z0, z1]) rfl ⟨rfl, HT.out.2.2⟩

set_option maxRecDepth 100000 in
set_option maxHeartbeats 8000000 in
theorem join_f1 (a n b k : Nat) (w : World) (ha : a < 4294967296) (h0 : 0 < n) (hn : n ≤ 32) (hv : vldB a (n : Int) = true) (hne : fst a (n - 1) ≠ a) :
    Calls Tryz.prog 37 #[pv a n, pv b k] w (JoinPost w (.tuple #[pv 0 0, .bool false])) := by
  have hPa := Lib.hid (fun W => parent_any a n W ha)
  rw [parentV_pos h0 hv] at hPa
  have hlt := fst_lt (l := n - 1) ha
  obtain ⟨p, hp⟩ : ∃ p, fst a (n - 1) = p := ⟨_, rfl⟩
  have hpv : vldB p ((n : Int) - 1) = true := by rw [← hp]; exact parent_vld ha h0 hn
  rw [hp] at hPa hlt
  have hSp := Lib.hid (fun W => split_any p ((n : Int) - 1) W hlt)
  rw [splitV_par h0 hn hpv] at hSp
  rw [hp] at hne
  obtain ⟨x2, hx2⟩ : ∃ x2, p + sz n = x2 := ⟨_, rfl⟩
  rw [hx2] at hSp
  have h3 : (p == a) = false := by simp [hne]
  have h4 : ¬ p = a := hne
  clear hv h0 hn hpv hlt hp hne hx2
  obtain ⟨b1, b2, w3, e1, e2, hw3, hP, hQ, hR⟩ := start_j w a n b k
  have H0 := Lib.hid (show Bx w [(b1, b, (k : Int)), (w.heap.size, a, (n : Int))] w3 from ⟨hR.2.2, fun x hx => by
    simp only [List.mem_cons, List.not_mem_nil, or_false] at hx
    rcases hx with rfl | rfl
    · exact hQ
    · exact hP⟩)
  have R0 := Lib.hid hR
  have p0 := hP.cell0
  have p1 := hP.cell1
  have E1 := Lib.hid e1.symm
  have E2 := Lib.hid e2.symm
  have HBB := Lib.hid (show b2 < w3.heap.size from hR.1.lt)
  clear hP hQ hR e1 e2 ha
  go_enter Tryz.func37, Tryz.ntmps37
  go_wp2_with fail
  try simp only [E1.out, E2.out]
  refine (hPa.out _).mono ?_
  rintro en v1 ⟨rfl, hb⟩
  have H1 := Lib.hid (H0.out.step hb)
  have R1 := Lib.hid (R0.out.step hb)
  clear hb p0 p1 H0 R0 hw3 HBB
  go_upto_region 2 with fail
  have G1 := Lib.hid (H1.out.alloc1 p ((n : Int) - 1))
  have S1 := Lib.hid (R1.out.step (Joins.below_alloc1 v1 (.cells #[.int .u32 (p : Int), .int .i64 ((n : Int) - 1)] 32)))
  skip
  generalize v1.alloc (.cells #[.int .u32 (p : Int), .int .i64 ((n : Int) - 1)] 32) = u1 at G1 S1 ⊢
  obtain ⟨bp, hbp⟩ : ∃ b, v1.heap.size = b := ⟨_, rfl⟩
  rw [hbp] at G1 ⊢
  clear hbp H1 R1
  have p0 := (G1.out.get (b := bp) (a := p) (l := (n : Int) - 1) (by simp)).cell0
  have p1 := (G1.out.get (b := bp) (a := p) (l := (n : Int) - 1) (by simp)).cell1
  go_wp2_with fail
  refine (hSp.out _).mono ?_
  rintro en v2 ⟨rfl, hb⟩
  have H2 := Lib.hid (G1.out.step hb)
  have R2 := Lib.hid (S1.out.step hb)
  clear hb p0 p1 G1 S1
  go_upto_region 3 with fail
  have G2 := Lib.hid (H2.out.alloc2 p n x2 n)
  have S2 := Lib.hid (R2.out.step (Joins.below_alloc2 v2 (.cells #[.int .u32 (p : Int), .int .i64 n] 32) (.cells #[.int .u32 (x2 : Int), .int .i64 n] 32)))
  skip
  generalize (v2.alloc (.cells #[.int .u32 (p : Int), .int .i64 n] 32)).alloc (.cells #[.int .u32 (x2 : Int), .int .i64 n] 32) = v5 at G2 S2 ⊢
  obtain ⟨bz, hby⟩ : ∃ b, v2.heap.size + 1 = b := ⟨_, rfl⟩
  rw [hby] at G2 ⊢
  clear hby
  obtain ⟨bx, hbx⟩ : ∃ b, v2.heap.size = b := ⟨_, rfl⟩
  rw [hbx] at G2 ⊢
  clear hbx H2 R2
  have R5 := S2
  have p0 := (G2.out.get (b := w.heap.size) (a := a) (l := n) (by simp)).cell0
  have p1 := (G2.out.get (b := w.heap.size) (a := a) (l := n) (by simp)).cell1
  have q0 := (G2.out.get (b := b1) (a := b) (l := k) (by simp)).cell0
  have q1 := (G2.out.get (b := b1) (a := b) (l := k) (by simp)).cell1
  have r0 := (G2.out.get (b := bp) (a := p) (l := (n : Int) - 1) (by simp)).cell0
  have r1 := (G2.out.get (b := bp) (a := p) (l := (n : Int) - 1) (by simp)).cell1
  have s0 := (G2.out.get (b := bx) (a := p) (l := n) (by simp)).cell0
  have s1 := (G2.out.get (b := bx) (a := p) (l := n) (by simp)).cell1
  have t0 := (G2.out.get (b := bz) (a := x2) (l := n) (by simp)).cell0
  have t1 := (G2.out.get (b := bz) (a := x2) (l := n) (by simp)).cell1
  have f0 := R5.out.1.frozen 0
  have f1 := R5.out.1.frozen 1
  have c0 : v5.cell? ⟨b2, 0, none⟩ = some (.int .u32 0) := R5.out.1.cell0
  have c1 := R5.out.1.cell1
  go_wp2_with fail
  have HT := Lib.hid (show Ret1 w b2 0 0 ((v5.setCell ⟨b2, 0, none⟩ (.int .u32 0)).setCell ⟨b2, 1, none⟩ (.int .i64 0)) from R5.out.set1 0 0)
  generalize (v5.setCell ⟨b2, 0, none⟩ (.int .u32 0)).setCell ⟨b2, 1, none⟩ (.int .i64 0) = W7 at HT ⊢
  have z0 := HT.out.1.cell0
  have z1 := HT.out.1.cell1
  exact bodyPost_ret (v := .tuple #[pv 0 0, .bool false]) (by simp [results, Tryz.results37, go_sem, z0, z1]) rfl ⟨rfl, HT.out.2.2⟩

set_option maxRecDepth 100000 in
set_option maxHeartbeats 8000000 in
theorem join_f2 (a n b k : Nat) (w : World) (ha : a < 4294967296) (h0 : 0 < n) (hn : n ≤ 32) (hv : vldB a (n : Int) = true) (he : fst a (n - 1) = a) (hne : a + sz n ≠ b) :
    Calls Tryz.prog 37 #[pv a n, pv b k] w (JoinPost w (.tuple #[pv 0 0, .bool false])) := by
  have hPa := Lib.hid (fun W => parent_any a n W ha)
  rw [parentV_pos h0 hv] at hPa
  have hlt := fst_lt (l := n - 1) ha
  obtain ⟨p, hp⟩ : ∃ p, fst a (n - 1) = p := ⟨_, rfl⟩
  have hpv : vldB p ((n : Int) - 1) = true := by rw [← hp]; exact parent_vld ha h0 hn
  rw [hp] at hPa hlt
  have hSp := Lib.hid (fun W => split_any p ((n : Int) - 1) W hlt)
  rw [splitV_par h0 hn hpv] at hSp
  rw [hp] at he
  subst he
  obtain ⟨x2, hx2⟩ : ∃ x2, p + sz n = x2 := ⟨_, rfl⟩
  rw [hx2] at hSp hne
  have h3 : (x2 == b) = false := by simp [hne]
  have h4 : ¬ x2 = b := hne
  clear hv h0 hn hpv hlt hp hne hx2
  obtain ⟨b1, b2, w3, e1, e2, hw3, hP, hQ, hR⟩ := start_j w p n b k
  have H0 := Lib.hid (show Bx w [(b1, b, (k : Int)), (w.heap.size, p, (n : Int))] w3 from ⟨hR.2.2, fun x hx => by
    simp only [List.mem_cons, List.not_mem_nil, or_false] at hx
    rcases hx with rfl | rfl
    · exact hQ
    · exact hP⟩)
  have R0 := Lib.hid hR
  have p0 := hP.cell0
  have p1 := hP.cell1
  have E1 := Lib.hid e1.symm
  have E2 := Lib.hid e2.symm
  have HBB := Lib.hid (show b2 < w3.heap.size from hR.1.lt)
  clear hP hQ hR e1 e2 ha
  go_enter Tryz.func37, Tryz.ntmps37
  go_wp2_with fail
  try simp only [E1.out, E2.out]
  refine (hPa.out _).mono ?_
  rintro en v1 ⟨rfl, hb⟩
  have H1 := Lib.hid (H0.out.step hb)
  have R1 := Lib.hid (R0.out.step hb)
  clear hb p0 p1 H0 R0 hw3 HBB
  go_upto_region 2 with fail
  have G1 := Lib.hid (H1.out.alloc1 p ((n : Int) - 1))
  have S1 := Lib.hid (R1.out.step (Joins.below_alloc1 v1 (.cells #[.int .u32 (p : Int), .int .i64 ((n : Int) - 1)] 32)))
  skip
  generalize v1.alloc (.cells #[.int .u32 (p : Int), .int .i64 ((n : Int) - 1)] 32) = u1 at G1 S1 ⊢
  obtain ⟨bp, hbp⟩ : ∃ b, v1.heap.size = b := ⟨_, rfl⟩
  rw [hbp] at G1 ⊢
  clear hbp H1 R1
  have p0 := (G1.out.get (b := bp) (a := p) (l := (n : Int) - 1) (by simp)).cell0
  have p1 := (G1.out.get (b := bp) (a := p) (l := (n : Int) - 1) (by simp)).cell1
  go_wp2_with fail
  refine (hSp.out _).mono ?_
  rintro en v2 ⟨rfl, hb⟩
  have H2 := Lib.hid (G1.out.step hb)
  have R2 := Lib.hid (S1.out.step hb)
  clear hb p0 p1 G1 S1
  go_upto_region 3 with fail
  have G2 := Lib.hid (H2.out.alloc2 p n x2 n)
  have S2 := Lib.hid (R2.out.step (Joins.below_alloc2 v2 (.cells #[.int .u32 (p : Int), .int .i64 n] 32) (.cells #[.int .u32 (x2 : Int), .int .i64 n] 32)))
  skip
  generalize (v2.alloc (.cells #[.int .u32 (p : Int), .int .i64 n] 32)).alloc (.cells #[.int .u32 (x2 : Int), .int .i64 n] 32) = v5 at G2 S2 ⊢
  obtain ⟨bz, hby⟩ : ∃ b, v2.heap.size + 1 = b := ⟨_, rfl⟩
  rw [hby] at G2 ⊢
  clear hby
  obtain ⟨bx, hbx⟩ : ∃ b, v2.heap.size = b := ⟨_, rfl⟩
  rw [hbx] at G2 ⊢
  clear hbx H2 R2
  have R5 := S2
  have p0 := (G2.out.get (b := w.heap.size) (a := p) (l := n) (by simp)).cell0
  have p1 := (G2.out.get (b := w.heap.size) (a := p) (l := n) (by simp)).cell1
  have q0 := (G2.out.get (b := b1) (a := b) (l := k) (by simp)).cell0
  have q1 := (G2.out.get (b := b1) (a := b) (l := k) (by simp)).cell1
  have r0 := (G2.out.get (b := bp) (a := p) (l := (n : Int) - 1) (by simp)).cell0
  have r1 := (G2.out.get (b := bp) (a := p) (l := (n : Int) - 1) (by simp)).cell1
  have s0 := (G2.out.get (b := bx) (a := p) (l := n) (by simp)).cell0
  have s1 := (G2.out.get (b := bx) (a := p) (l := n) (by simp)).cell1
  have t0 := (G2.out.get (b := bz) (a := x2) (l := n) (by simp)).cell0
  have t1 := (G2.out.get (b := bz) (a := x2) (l := n) (by simp)).cell1
  have f0 := R5.out.1.frozen 0
  have f1 := R5.out.1.frozen 1
  have c0 : v5.cell? ⟨b2, 0, none⟩ = some (.int .u32 0) := R5.out.1.cell0
  have c1 := R5.out.1.cell1
  go_wp2_with fail
  have HT := Lib.hid (show Ret1 w b2 0 0 ((v5.setCell ⟨b2, 0, none⟩ (.int .u32 0)).setCell ⟨b2, 1, none⟩ (.int .i64 0)) from R5.out.set1 0 0)
  generalize (v5.setCell ⟨b2, 0, none⟩ (.int .u32 0)).setCell ⟨b2, 1, none⟩ (.int .i64 0) = W7 at HT ⊢
  have z0 := HT.out.1.cell0
  have z1 := HT.out.1.cell1
  exact bodyPost_ret (v := .tuple #[pv 0 0, .bool false]) (by simp [results, Tryz.results37, go_sem, z0, z1]) rfl ⟨rfl, HT.out.2.2⟩

set_option maxRecDepth 100000 in
set_option maxHeartbeats 8000000 in
theorem join_f3 (a n b k : Nat) (w : World) (ha : a < 4294967296) (h0 : 0 < n) (hn : n ≤ 32) (hv : vldB a (n : Int) = true) (he : fst a (n - 1) = a) (hb : a + sz n = b) (hne : n ≠ k) :
    Calls Tryz.prog 37 #[pv a n, pv b k] w (JoinPost w (.tuple #[pv 0 0, .bool false])) := by
  have hPa := Lib.hid (fun W => parent_any a n W ha)
  rw [parentV_pos h0 hv] at hPa
  have hlt := fst_lt (l := n - 1) ha
  obtain ⟨p, hp⟩ : ∃ p, fst a (n - 1) = p := ⟨_, rfl⟩
  have hpv : vldB p ((n : Int) - 1) = true := by rw [← hp]; exact parent_vld ha h0 hn
  rw [hp] at hPa hlt
  have hSp := Lib.hid (fun W => split_any p ((n : Int) - 1) W hlt)
  rw [splitV_par h0 hn hpv] at hSp
  rw [hp] at he
  subst he
  rw [hb] at hSp
  have h3 : (n == k) = false := by simp [hne]
  have h4 : ¬ n = k := hne
  clear hv h0 hn hpv hlt hp hne hb
  obtain ⟨b1, b2, w3, e1, e2, hw3, hP, hQ, hR⟩ := start_j w p n b k
  have H0 := Lib.hid (show Bx w [(b1, b, (k : Int)), (w.heap.size, p, (n : Int))] w3 from ⟨hR.2.2, fun x hx => by
    simp only [List.mem_cons, List.not_mem_nil, or_false] at hx
    rcases hx with rfl | rfl
    · exact hQ
    · exact hP⟩)
  have R0 := Lib.hid hR
  have p0 := hP.cell0
  have p1 := hP.cell1
  have E1 := Lib.hid e1.symm
  have E2 := Lib.hid e2.symm
  have HBB := Lib.hid (show b2 < w3.heap.size from hR.1.lt)
  clear hP hQ hR e1 e2 ha
  go_enter Tryz.func37, Tryz.ntmps37
  go_wp2_with fail
  try simp only [E1.out, E2.out]
  refine (hPa.out _).mono ?_
  rintro en v1 ⟨rfl, hb⟩
  have H1 := Lib.hid (H0.out.step hb)
  have R1 := Lib.hid (R0.out.step hb)
  clear hb p0 p1 H0 R0 hw3 HBB
  go_upto_region 2 with fail
  have G1 := Lib.hid (H1.out.alloc1 p ((n : Int) - 1))
  have S1 := Lib.hid (R1.out.step (Joins.below_alloc1 v1 (.cells #[.int .u32 (p : Int), .int .i64 ((n : Int) - 1)] 32)))
  skip
  generalize v1.alloc (.cells #[.int .u32 (p : Int), .int .i64 ((n : Int) - 1)] 32) = u1 at G1 S1 ⊢
  obtain ⟨bp, hbp⟩ : ∃ b, v1.heap.size = b := ⟨_, rfl⟩
  rw [hbp] at G1 ⊢
  clear hbp H1 R1
  have p0 := (G1.out.get (b := bp) (a := p) (l := (n : Int) - 1) (by simp)).cell0
  have p1 := (G1.out.get (b := bp) (a := p) (l := (n : Int) - 1) (by simp)).cell1
  go_wp2_with fail
  refine (hSp.out _).mono ?_
  rintro en v2 ⟨rfl, hb⟩
  have H2 := Lib.hid (G1.out.step hb)
  have R2 := Lib.hid (S1.out.step hb)
  clear hb p0 p1 G1 S1
  go_upto_region 3 with fail
  have G2 := Lib.hid (H2.out.alloc2 p n b n)
  have S2 := Lib.hid (R2.out.step (Joins.below_alloc2 v2 (.cells #[.int .u32 (p : Int), .int .i64 n] 32) (.cells #[.int .u32 (b : Int), .int .i64 n] 32)))
  skip
  generalize (v2.alloc (.cells #[.int .u32 (p : Int), .int .i64 n] 32)).alloc (.cells #[.int .u32 (b : Int), .int .i64 n] 32) = v5 at G2 S2 ⊢
  obtain ⟨bz, hby⟩ : ∃ b, v2.heap.size + 1 = b := ⟨_, rfl⟩
  rw [hby] at G2 ⊢
  clear hby
  obtain ⟨bx, hbx⟩ : ∃ b, v2.heap.size = b := ⟨_, rfl⟩
  rw [hbx] at G2 ⊢
  clear hbx H2 R2
  have R5 := S2
  have p0 := (G2.out.get (b := w.heap.size) (a := p) (l := n) (by simp)).cell0
  have p1 := (G2.out.get (b := w.heap.size) (a := p) (l := n) (by simp)).cell1
  have q0 := (G2.out.get (b := b1) (a := b) (l := k) (by simp)).cell0
  have q1 := (G2.out.get (b := b1) (a := b) (l := k) (by simp)).cell1
  have r0 := (G2.out.get (b := bp) (a := p) (l := (n : Int) - 1) (by simp)).cell0
  have r1 := (G2.out.get (b := bp) (a := p) (l := (n : Int) - 1) (by simp)).cell1
  have s0 := (G2.out.get (b := bx) (a := p) (l := n) (by simp)).cell0
  have s1 := (G2.out.get (b := bx) (a := p) (l := n) (by simp)).cell1
  have t0 := (G2.out.get (b := bz) (a := b) (l := n) (by simp)).cell0
  have t1 := (G2.out.get (b := bz) (a := b) (l := n) (by simp)).cell1
  have f0 := R5.out.1.frozen 0
  have f1 := R5.out.1.frozen 1
  have c0 : v5.cell? ⟨b2, 0, none⟩ = some (.int .u32 0) := R5.out.1.cell0
  have c1 := R5.out.1.cell1
  go_wp2_with fail
  have HT := Lib.hid (show Ret1 w b2 0 0 ((v5.setCell ⟨b2, 0, none⟩ (.int .u32 0)).setCell ⟨b2, 1, none⟩ (.int .i64 0)) from R5.out.set1 0 0)
  generalize (v5.setCell ⟨b2, 0, none⟩ (.int .u32 0)).setCell ⟨b2, 1, none⟩ (.int .i64 0) = W7 at HT ⊢
  have z0 := HT.out.1.cell0
  have z1 := HT.out.1.cell1
  exact bodyPost_ret (v := .tuple #[pv 0 0, .bool false]) (by simp [results, Tryz.results37, go_sem, z0, z1]) rfl ⟨rfl, HT.out.2.2⟩

set_option maxRecDepth 100000 in
set_option maxHeartbeats 8000000 in
theorem join_ok (a n b k : Nat) (w : World) (ha : a < 4294967296) (h0 : 0 < n) (hn : n ≤ 32) (hv : vldB a (n : Int) = true) (he : fst a (n - 1) = a) (hb : a + sz n = b) (hk : n = k) :
    Calls Tryz.prog 37 #[pv a n, pv b k] w (JoinPost w (.tuple #[pv a ((n : Int) - 1), .bool true])) := by
  have hPa := Lib.hid (fun W => parent_any a n W ha)
  rw [parentV_pos h0 hv] at hPa
  have hlt := fst_lt (l := n - 1) ha
  obtain ⟨p, hp⟩ : ∃ p, fst a (n - 1) = p := ⟨_, rfl⟩
  have hpv : vldB p ((n : Int) - 1) = true := by rw [← hp]; exact parent_vld ha h0 hn
  rw [hp] at hPa hlt
  have hSp := Lib.hid (fun W => split_any p ((n : Int) - 1) W hlt)
  rw [splitV_par h0 hn hpv] at hSp
  rw [hp] at he
  subst he
  subst hk
  rw [hb] at hSp
  clear hv h0 hn hpv hlt hp hb
  obtain ⟨b1, b2, w3, e1, e2, hw3, hP, hQ, hR⟩ := start_j w p n b n
  have H0 := Lib.hid (show Bx w [(b1, b, (n : Int)), (w.heap.size, p, (n : Int))] w3 from ⟨hR.2.2, fun x hx => by
    simp only [List.mem_cons, List.not_mem_nil, or_false] at hx
    rcases hx with rfl | rfl
    · exact hQ
    · exact hP⟩)
  have R0 := Lib.hid hR
  have p0 := hP.cell0
  have p1 := hP.cell1
  have E1 := Lib.hid e1.symm
  have E2 := Lib.hid e2.symm
  have HBB := Lib.hid (show b2 < w3.heap.size from hR.1.lt)
  clear hP hQ hR e1 e2 ha
  go_enter Tryz.func37, Tryz.ntmps37
  go_wp2_with fail
  try simp only [E1.out, E2.out]
  refine (hPa.out _).mono ?_
  rintro en v1 ⟨rfl, hb⟩
  have H1 := Lib.hid (H0.out.step hb)
  have R1 := Lib.hid (R0.out.step hb)
  clear hb p0 p1 H0 R0 hw3 HBB
  go_upto_region 2 with fail
  have G1 := Lib.hid (H1.out.alloc1 p ((n : Int) - 1))
  have S1 := Lib.hid (R1.out.step (Joins.below_alloc1 v1 (.cells #[.int .u32 (p : Int), .int .i64 ((n : Int) - 1)] 32)))
  skip
  generalize v1.alloc (.cells #[.int .u32 (p : Int), .int .i64 ((n : Int) - 1)] 32) = u1 at G1 S1 ⊢
  obtain ⟨bp, hbp⟩ : ∃ b, v1.heap.size = b := ⟨_, rfl⟩
  rw [hbp] at G1 ⊢
  clear hbp H1 R1
  have p0 := (G1.out.get (b := bp) (a := p) (l := (n : Int) - 1) (by simp)).cell0
  have p1 := (G1.out.get (b := bp) (a := p) (l := (n : Int) - 1) (by simp)).cell1
  go_wp2_with fail
  refine (hSp.out _).mono ?_
  rintro en v2 ⟨rfl, hb⟩
  have H2 := Lib.hid (G1.out.step hb)
  have R2 := Lib.hid (S1.out.step hb)
  clear hb p0 p1 G1 S1
  go_upto_region 3 with fail
  have G2 := Lib.hid (H2.out.alloc2 p n b n)
  have S2 := Lib.hid (R2.out.step (Joins.below_alloc2 v2 (.cells #[.int .u32 (p : Int), .int .i64 n] 32) (.cells #[.int .u32 (b : Int), .int .i64 n] 32)))
  skip
  generalize (v2.alloc (.cells #[.int .u32 (p : Int), .int .i64 n] 32)).alloc (.cells #[.int .u32 (b : Int), .int .i64 n] 32) = v5 at G2 S2 ⊢
  obtain ⟨bz, hby⟩ : ∃ b, v2.heap.size + 1 = b := ⟨_, rfl⟩
  rw [hby] at G2 ⊢
  clear hby
  obtain ⟨bx, hbx⟩ : ∃ b, v2.heap.size = b := ⟨_, rfl⟩
  rw [hbx] at G2 ⊢
  clear hbx H2 R2
  have R5 := S2
  have p0 := (G2.out.get (b := w.heap.size) (a := p) (l := n) (by simp)).cell0
  have p1 := (G2.out.get (b := w.heap.size) (a := p) (l := n) (by simp)).cell1
  have q0 := (G2.out.get (b := b1) (a := b) (l := n) (by simp)).cell0
  have q1 := (G2.out.get (b := b1) (a := b) (l := n) (by simp)).cell1
  have r0 := (G2.out.get (b := bp) (a := p) (l := (n : Int) - 1) (by simp)).cell0
  have r1 := (G2.out.get (b := bp) (a := p) (l := (n : Int) - 1) (by simp)).cell1
  have s0 := (G2.out.get (b := bx) (a := p) (l := n) (by simp)).cell0
  have s1 := (G2.out.get (b := bx) (a := p) (l := n) (by simp)).cell1
  have t0 := (G2.out.get (b := bz) (a := b) (l := n) (by simp)).cell0
  have t1 := (G2.out.get (b := bz) (a := b) (l := n) (by simp)).cell1
  have f0 := R5.out.1.frozen 0
  have f1 := R5.out.1.frozen 1
  have c0 : v5.cell? ⟨b2, 0, none⟩ = some (.int .u32 0) := R5.out.1.cell0
  have c1 := R5.out.1.cell1
  go_wp2_with fail
  have HT := Lib.hid (R5.out.set1 p ((n : Int) - 1))
  generalize (v5.setCell ⟨b2, 0, none⟩ (.int .u32 (p : Int))).setCell ⟨b2, 1, none⟩ (.int .i64 ((n : Int) - 1)) = W7 at HT ⊢
  have z0 := HT.out.1.cell0
  have z1 := HT.out.1.cell1
  exact bodyPost_ret (v := .tuple #[pv p ((n : Int) - 1), .bool true]) (by simp [results, Tryz.results37, go_sem, z0, z1]) rfl ⟨rfl, HT.out.2.2⟩

instance (p q : Px) : Decidable (Sib p q) := inferInstanceAs (Decidable (_ ∧ _ ∧ _ ∧ _))
theorem sib_iff {a n b k : Nat} : Sib (a, n) (b, k) ↔ n = k ∧ 0 < n ∧ b = a + sz n ∧ a % (2 * sz n) = 0 := Iff.rfl
theorem join_any (a n b k : Nat) (w : World) (hp : Vld (a, n)) :
    Calls Tryz.prog 37 #[pv a n, pv b k] w (JoinPost w (if Sib (a, n) (b, k) then .tuple #[pv a ((n : Int) - 1), .bool true] else .tuple #[pv 0 0, .bool false])) := by
  have ha := vld_lt hp
  simp only at ha
  have hv := (vldB_vld ha).2 hp
  have hn := hp.1
  simp only at hn
  rcases Nat.eq_zero_or_pos n with rfl | h0
  · rw [if_neg (fun h => by have := h.2.1; simp at this)]
    exact join_zero a b k w ha hv
  · have hfe : fst a (n - 1) = a ↔ a % (2 * sz n) = 0 := by rw [fst_eq, sz_up h0 hn]
    by_cases he : fst a (n - 1) = a
    · by_cases hb : a + sz n = b
      · by_cases hk : n = k
        · rw [if_pos ⟨hk, h0, hb.symm, hfe.1 he⟩]
          exact join_ok a n b k w ha h0 hn hv he hb hk
        · rw [if_neg (fun h => hk h.1)]
          exact join_f3 a n b k w ha h0 hn hv he hb hk
      · rw [if_neg (fun h => hb h.2.2.1.symm)]
        exact join_f2 a n b k w ha h0 hn hv he hb
    · rw [if_neg (fun h => he (hfe.2 h.2.2.2))]
      exact join_f1 a n b k w ha h0 hn hv he
end Go.Proofs.YtgpgoadalnojdaaGreatDoor
