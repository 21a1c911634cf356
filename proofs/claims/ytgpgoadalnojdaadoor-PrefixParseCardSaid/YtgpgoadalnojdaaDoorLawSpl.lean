/- Walk of the law PrefixSplit. -/
import Derived.Test.YtgpgoadalnojdaaDoorPfxK
import Derived.Test.YtgpgoadalnojdaaDoorPfxD
namespace Go.Proofs.YtgpgoadalnojdaaDoor
open Go.RowKit

/-- Boxes that hold prefixes, in a world that has grown. -/
def Bx (w : World) (L : List (Nat × Nat × Int)) (W : World) : Prop := Below w.heap.size w W ∧ ∀ x ∈ L, PB W x.1 x.2.1 x.2.2
section
variable {w W W' : World} {L : List (Nat × Nat × Int)}
theorem Bx.step (h : Bx w L W) (hb : Below W.heap.size W W') : Bx w L W' := ⟨h.1.trans (hb.mono h.1.size), fun x hx => (h.2 x hx).step hb⟩
theorem Bx.drew (h : Bx w L W) : Bx w L W.drew := ⟨h.1.drew, fun x hx => (h.2 x hx).drew⟩
theorem Bx.alloc1 (h : Bx w L W) (a : Nat) (l : Int) : Bx w ((W.heap.size, a, l) :: L) (W.alloc (.cells #[.int .u32 (a : Int), .int .i64 l] 24)) := by
  refine ⟨h.1.alloc h.1.size _, fun x hx => ?_⟩
  rcases List.mem_cons.1 hx with rfl | hx
  · exact PB.new W a l
  · exact (h.2 x hx).alloc _
theorem Bx.alloc2 (h : Bx w L W) (a : Nat) (l : Int) (b : Nat) (m : Int) : Bx w ((W.heap.size + 1, b, m) :: (W.heap.size, a, l) :: L) ((W.alloc (.cells #[.int .u32 (a : Int), .int .i64 l] 24)).alloc (.cells #[.int .u32 (b : Int), .int .i64 m] 24)) := by
  have := (h.alloc1 a l).alloc1 b m
  simpa using this
theorem Bx.get (h : Bx w L W) {b a : Nat} {l : Int} (hx : (b, a, l) ∈ L) : PB W b a l := h.2 _ hx
end
theorem half_facts {a n : Nat} (ha : a < 4294967296) (hn : n < 32) (hf : fst a n = a) :
    vldB a ((n : Int) + 1) = true ∧ fst a (n + 1) = a ∧ vldB (a + 2 ^ (31 - n)) ((n : Int) + 1) = true ∧ fst (a + 2 ^ (31 - n)) n = a ∧ a + 2 ^ (31 - n) < 4294967296 := by
  have hv : Vld (a, n) := (vld_iff ha).2 ⟨by omega, hf⟩
  have hu := sz_up (l := n + 1) (by omega) (by omega)
  rw [Nat.add_sub_cancel] at hu
  have hs : sz (n + 1) = 2 ^ (31 - n) := by unfold sz; rw [show 32 - (n + 1) = 31 - n by omega]
  have hp := sz_pos (n + 1)
  have h3 := hv.2.2
  have hm := hv.2.1
  simp only at h3 hm
  rw [hu] at h3 hm
  obtain ⟨d, hd⟩ := of_mod hm
  have m1 : a % sz (n + 1) = 0 := by rw [hd, ← Nat.mul_assoc]; exact Nat.mul_mod_left _ _
  have m2 : (a + sz (n + 1)) % sz (n + 1) = 0 := by rw [Nat.add_mod_right]; exact m1
  have e1 : ((n : Int) + 1) = ((n + 1 : Nat) : Int) := by omega
  rw [← hs]
  have v2 : Vld (a + sz (n + 1), n + 1) := ⟨by simp; omega, m2, by simp only; omega⟩
  refine ⟨?_, fst_eq.2 m1, ?_, ?_, by omega⟩
  · rw [e1]; exact (vldB_vld ha).2 ⟨by simp; omega, m1, by simp only; omega⟩
  · rw [e1]; exact (vldB_vld (by omega)).2 v2
  · have := (has_fst (p := (a, n)) hv.2.1 (a + sz (n + 1))).2 ⟨by simp, by simp only; rw [hu]; omega⟩
    exact this
theorem parent_lo {a n : Nat} (ha : a < 4294967296) (hn : n < 32) (hf : fst a n = a) : parentV a ((n : Int) + 1) = .tuple #[pv a n, .int .i64 0] := by
  obtain ⟨h1, h2, h3, h4, h5⟩ := half_facts ha hn hf
  unfold parentV
  rw [if_pos h1, if_neg (by omega), show ((n : Int) + 1).toNat - 1 = n by omega, hf, show (n : Int) + 1 - 1 = n by omega]
theorem parent_hi {a n : Nat} (ha : a < 4294967296) (hn : n < 32) (hf : fst a n = a) : parentV (a + 2 ^ (31 - n)) ((n : Int) + 1) = .tuple #[pv a n, .int .i64 0] := by
  obtain ⟨h1, h2, h3, h4, h5⟩ := half_facts ha hn hf
  unfold parentV
  rw [if_pos h3, if_neg (by omega), show ((n : Int) + 1).toNat - 1 = n by omega, h4, show (n : Int) + 1 - 1 = n by omega]
theorem splitV_form (a : Nat) (l : Int) (ha : a < 4294967296) : ∃ (a1 a2 : Nat) (l1 l2 e : Int), splitV a l = .tuple #[pv a1 l1, pv a2 l2, .int .i64 e] ∧ (e = 0 → a1 < 4294967296 ∧ a2 < 4294967296 ∧ parentV a1 l1 = .tuple #[pv a l, .int .i64 0] ∧ parentV a2 l2 = .tuple #[pv a l, .int .i64 0]) := by
  unfold splitV
  cases hv : vldB a l with
  | false => exact ⟨0, 0, 0, 0, 1, by simp, by omega⟩
  | true =>
    obtain ⟨n, rfl, hn, hf⟩ := vldB_true hv
    by_cases h : (n : Int) = 32
    · rw [if_pos rfl, if_pos h]
      exact ⟨0, 0, 0, 0, 2, rfl, by omega⟩
    · rw [if_pos rfl, if_neg h, Int.toNat_natCast]
      exact ⟨a, _, _, _, 0, rfl, fun _ => ⟨ha, (half_facts ha (by omega) hf).2.2.2.2, parent_lo ha (by omega) hf, parent_hi ha (by omega) hf⟩⟩
theorem parentV_form (a : Nat) (l : Int) : ∃ (a1 : Nat) (l1 e : Int), parentV a l = .tuple #[pv a1 l1, .int .i64 e] := by
  unfold parentV
  split
  · split
    · exact ⟨0, 0, 2, rfl⟩
    · exact ⟨_, _, 0, rfl⟩
  · exact ⟨0, 0, 1, rfl⟩

set_option maxRecDepth 100000 in
set_option maxHeartbeats 20000000 in
theorem lawSplit (a : Nat) (l : Int) (w : World) (ha : a < 4294967296) (hV : Vars w) :
    Calls Tryd.prog 6 #[pv a l] w fun e w' => e = .returned (.bool true) ∧ Below w.heap.size w w' := by
  have hAw := Lib.hid (fun (W : World) (hW : Below w.heap.size w W) => awake_any W (hV.below hW))
  have hS1 := Lib.hid (fun W => split_any a l W ha)
  have hS2 := Lib.hid (fun W => refSplit_any a l W ha)
  have hP1 := Lib.hid (fun W => parent_any a l W ha)
  have hP2 := Lib.hid (fun W => refParent_any a l W ha)
  obtain ⟨a1, a2, l1, l2, e, hs, hok⟩ := splitV_form a l ha
  obtain ⟨a3, l3, g, hp⟩ := parentV_form a l
  rw [hs] at hS1 hS2
  rw [hp] at hP1 hP2
  have hok2 : e = 0 → (∀ W, Calls Tryd.prog 23 #[pv a1 l1] W fun e w' => e = .returned (.tuple #[pv a l, .int .i64 0]) ∧ Below W.heap.size W w') ∧ (∀ W, Calls Tryd.prog 23 #[pv a2 l2] W fun e w' => e = .returned (.tuple #[pv a l, .int .i64 0]) ∧ Below W.heap.size W w') := fun he => by
    obtain ⟨h1, h2, h3, h4⟩ := hok he
    exact ⟨fun W => by have := parent_any a1 l1 W h1; rwa [h3] at this, fun W => by have := parent_any a2 l2 W h2; rwa [h4] at this⟩
  have HOK := Lib.hid hok2
  obtain ⟨w1, hw1, hB1, hb1⟩ := fresh_box w a l
  have H1 := Lib.hid (show Bx w [(w.heap.size, a, l)] w1 from ⟨hb1, fun x hx => by rw [List.mem_singleton] at hx; subst hx; exact hB1⟩)
  have p0 := hB1.cell0
  have p1 := hB1.cell1
  have H0 := H1
  clear H1 hs hp hok hok2 hB1 hb1 hV ha
  go_enter Tryd.func6, Tryd.ntmps6
  go_wp2_with fail
  refine (hS1.out _).mono ?_
  rintro en v1 ⟨rfl, hb⟩
  have H1 := Lib.hid (H0.out.step hb)
  clear hb p0 p1 H0
  go_upto_region 2 with fail
  have G1 := Lib.hid (H1.out.alloc2 a1 l1 a2 l2)
  generalize (v1.alloc (.cells #[.int .u32 (a1 : Int), .int .i64 l1] 24)).alloc (.cells #[.int .u32 (a2 : Int), .int .i64 l2] 24) = u1 at G1 ⊢
  obtain ⟨bb, hbb⟩ : ∃ b, v1.heap.size + 1 = b := ⟨_, rfl⟩
  rw [hbb] at G1 ⊢
  clear hbb
  obtain ⟨ba, hba⟩ : ∃ b, v1.heap.size = b := ⟨_, rfl⟩
  rw [hba] at G1 ⊢
  clear hba H1
  have H1 := G1
  clear G1
  have p0 := (H1.out.get (b := w.heap.size) (a := a) (l := l) (by simp)).cell0
  have p1 := (H1.out.get (b := w.heap.size) (a := a) (l := l) (by simp)).cell1
  go_wp2_with fail
  refine (hS2.out _).mono ?_
  rintro en v2 ⟨rfl, hb⟩
  have H2 := Lib.hid (H1.out.step hb)
  clear hb p0 p1 H1
  go_upto_region 3 with fail
  have G2 := Lib.hid (H2.out.alloc2 a1 l1 a2 l2)
  generalize (v2.alloc (.cells #[.int .u32 (a1 : Int), .int .i64 l1] 24)).alloc (.cells #[.int .u32 (a2 : Int), .int .i64 l2] 24) = u2 at G2 ⊢
  obtain ⟨bz, hbz⟩ : ∃ b, v2.heap.size + 1 = b := ⟨_, rfl⟩
  rw [hbz] at G2 ⊢
  clear hbz
  obtain ⟨bx, hbx⟩ : ∃ b, v2.heap.size = b := ⟨_, rfl⟩
  rw [hbx] at G2 ⊢
  clear hbx H2
  have H2 := G2
  clear G2
  have p0 := (H2.out.get (b := w.heap.size) (a := a) (l := l) (by simp)).cell0
  have p1 := (H2.out.get (b := w.heap.size) (a := a) (l := l) (by simp)).cell1
  go_wp2_with fail
  refine (hP1.out _).mono ?_
  rintro en v3 ⟨rfl, hb⟩
  have H3 := Lib.hid (H2.out.step hb)
  clear hb p0 p1 H2
  go_upto_region 4 with fail
  have G3 := Lib.hid (H3.out.alloc1 a3 l3)
  generalize v3.alloc (.cells #[.int .u32 (a3 : Int), .int .i64 l3] 24) = u3 at G3 ⊢
  obtain ⟨bq, hbq⟩ : ∃ b, v3.heap.size = b := ⟨_, rfl⟩
  rw [hbq] at G3 ⊢
  clear hbq H3
  have H3 := G3
  clear G3
  have p0 := (H3.out.get (b := w.heap.size) (a := a) (l := l) (by simp)).cell0
  have p1 := (H3.out.get (b := w.heap.size) (a := a) (l := l) (by simp)).cell1
  go_wp2_with fail
  refine (hP2.out _).mono ?_
  rintro en v4 ⟨rfl, hb⟩
  have H4 := Lib.hid (H3.out.step hb)
  clear hb p0 p1 H3
  go_upto_region 5 with fail
  have G4 := Lib.hid (H4.out.alloc1 a3 l3)
  generalize v4.alloc (.cells #[.int .u32 (a3 : Int), .int .i64 l3] 24) = u4 at G4 ⊢
  obtain ⟨br, hbr⟩ : ∃ b, v4.heap.size = b := ⟨_, rfl⟩
  rw [hbr] at G4 ⊢
  clear hbr H4
  have H4 := G4
  clear G4
  go_wp2_with fail
  refine (hAw.out _ H4.out.1).mono ?_
  rintro en v5 ⟨rfl, hb⟩
  have H5 := Lib.hid (H4.out.step hb)
  clear hb H4
  have p0 := (H5.out.get (b := w.heap.size) (a := a) (l := l) (by simp)).cell0
  have p1 := (H5.out.get (b := w.heap.size) (a := a) (l := l) (by simp)).cell1
  have q0 := (H5.out.get (b := ba) (a := a1) (l := l1) (by simp)).cell0
  have q1 := (H5.out.get (b := ba) (a := a1) (l := l1) (by simp)).cell1
  have r0 := (H5.out.get (b := bb) (a := a2) (l := l2) (by simp)).cell0
  have r1 := (H5.out.get (b := bb) (a := a2) (l := l2) (by simp)).cell1
  have s0 := (H5.out.get (b := bx) (a := a1) (l := l1) (by simp)).cell0
  have s1 := (H5.out.get (b := bx) (a := a1) (l := l1) (by simp)).cell1
  have t0 := (H5.out.get (b := bz) (a := a2) (l := l2) (by simp)).cell0
  have t1 := (H5.out.get (b := bz) (a := a2) (l := l2) (by simp)).cell1
  have x0 := (H5.out.get (b := bq) (a := a3) (l := l3) (by simp)).cell0
  have x1 := (H5.out.get (b := bq) (a := a3) (l := l3) (by simp)).cell1
  have y0 := (H5.out.get (b := br) (a := a3) (l := l3) (by simp)).cell0
  have y1 := (H5.out.get (b := br) (a := a3) (l := l3) (by simp)).cell1
  by_cases he : e = 0
  · subst he
    have hU1 := Lib.hid (HOK.out rfl).1
    have hU2 := Lib.hid (HOK.out rfl).2
    clear HOK
    go_wp2_with fail
    refine (hU1.out _).mono ?_
    rintro en v6 ⟨rfl, hb⟩
    have H6 := Lib.hid (H5.out.step hb)
    clear hb p0 p1 q0 q1 r0 r1 s0 s1 t0 t1 x0 x1 y0 y1 H5
    go_upto_region 10 with fail
    have G6 := Lib.hid (H6.out.alloc1 a l)
    generalize v6.alloc (.cells #[.int .u32 (a : Int), .int .i64 l] 24) = u6 at G6 ⊢
    obtain ⟨bu, hbu⟩ : ∃ b, v6.heap.size = b := ⟨_, rfl⟩
    rw [hbu] at G6 ⊢
    clear hbu H6
    have H6 := G6
    clear G6
    have p0 := (H6.out.get (b := bb) (a := a2) (l := l2) (by simp)).cell0
    have p1 := (H6.out.get (b := bb) (a := a2) (l := l2) (by simp)).cell1
    go_wp2_with fail
    refine (hU2.out _).mono ?_
    rintro en v7 ⟨rfl, hb⟩
    have H7 := Lib.hid (H6.out.step hb)
    clear hb p0 p1 H6
    go_upto_region 11 with fail
    have G7 := Lib.hid (H7.out.alloc1 a l)
    generalize v7.alloc (.cells #[.int .u32 (a : Int), .int .i64 l] 24) = u7 at G7 ⊢
    obtain ⟨bv, hbv⟩ : ∃ b, v7.heap.size = b := ⟨_, rfl⟩
    rw [hbv] at G7 ⊢
    clear hbv H7
    have H7 := G7
    clear G7
    have p0 := (H7.out.get (b := w.heap.size) (a := a) (l := l) (by simp)).cell0
    have p1 := (H7.out.get (b := w.heap.size) (a := a) (l := l) (by simp)).cell1
    have q0 := (H7.out.get (b := bu) (a := a) (l := l) (by simp)).cell0
    have q1 := (H7.out.get (b := bu) (a := a) (l := l) (by simp)).cell1
    have r0 := (H7.out.get (b := bv) (a := a) (l := l) (by simp)).cell0
    have r1 := (H7.out.get (b := bv) (a := a) (l := l) (by simp)).cell1
    go_wp2_with fail
    go_ret
    exact ⟨rfl, H7.out.1⟩
  · have hb1 : (e == 0) = false := by simp [he]
    have hb2 : (e != 0) = true := by simp [he]
    clear HOK
    go_wp2_with fail
    go_ret
    exact ⟨rfl, H5.out.1⟩
end Go.Proofs.YtgpgoadalnojdaaDoor
