/- A slice expression with three indexes, of a whole row. Contract of package nat's Mul. -/
import Derived.Test.YtapblmbjbpkieaaDoorMul
namespace Go.Proofs.YtapblmbjbpkieaaDoor
open Go.RowKit
/-- The offset of a cut: a cut without room keeps the old address. -/
def cutOff (i n : Nat) : Nat := if n = 0 then 0 else i
set_option maxHeartbeats 400000 in
theorem run_cut (g N i n : Nat) (h : i + n ≤ N) (_hN : N ≤ 1000000000) (w : World) :
    (Instr.slice 22 (.slice (some ⟨g, 0, none⟩) N N) (some (.int .i64 (i : Int))) (some (.int .i64 ((i : Int) + (n : Int)))) (some (.int .i64 ((i : Int) + (n : Int))))).run Tryd.prog w = .ok (.slice (some ⟨g, cutOff i n, none⟩) n n) w := by
  have hs : (Go.sizeOf 71).run Tryd.prog w = .ok 1 w := by kernel_rfl
  unfold Instr.slice Instr.sliceBounds
  simp [run_underlying Tryd.underlying22]
  have b (W : World) (k : Int) (y m : Nat) (c : BoundsCode) (e : k = (m : Int)) (hm : m ≤ y) : (Instr.sliceBound (.int .i64 k) y c).run Tryd.prog W = .ok m W := by
    subst e
    have := run_sliceBound (P := Tryd.prog) (w := W) .i64 (m : Int) y c (by omega) (by omega)
    simpa using this
  rw [b w _ N (i + n) _ (by omega) h]
  simp only [Result.andThen_ok]
  rw [b w _ (i + n) (i + n) _ (by omega) (Nat.le_refl _)]
  simp only [Result.andThen_ok]
  rw [b w _ (i + n) i _ rfl (by omega)]
  simp only [Result.andThen_ok, Nat.add_sub_cancel_left]
  unfold cutOff
  by_cases h0 : n = 0
  · rw [if_pos (by omega), if_pos h0]
  · rw [if_neg (by omega), if_neg h0, row_at]
end Go.Proofs.YtapblmbjbpkieaaDoor

namespace Go.Proofs.YtapblmbjbpkieaaDoor
open Go.RowKit

theorem prod_cell {w W : World} {g N off n m i c : Nat} {s : Nat → Nat} {ds : List Nat} (h : ProdI w g N off n s ds m i c W) (j : Nat) (hj : j < N) : (∃ z : Nat, W.cell? ⟨g, j, none⟩ = some (.int .u32 z)) ∧ W.frozen? ⟨g, j, none⟩ = false := by
  obtain ⟨t, h1, _⟩ := h
  exact ⟨⟨_, h1.cell j hj⟩, h1.frozen j⟩
set_option maxRecDepth 100000 in
set_option maxHeartbeats 1500000 in
theorem natMul_any {u v : Value} {x y : Nat} {w : World} (hlx : (digs 4294967296 x).length ≤ 1000) (hly : (digs 4294967296 y).length ≤ 1000) (hu : IsNat w u x) (hv : IsNat w v y) :
    Calls Tryd.prog 25 #[u, v] w (NewN w (x * y)) := by
  obtain ⟨s, rfl, A, ca, rfl, hca, hA⟩ := hu
  obtain ⟨t, rfl, B, cb, rfl, hcb, hB⟩ := hv
  obtain ⟨xs, hxs⟩ : ∃ xs, xs = digs 4294967296 x := ⟨_, rfl⟩
  obtain ⟨ys, hys⟩ : ∃ ys, ys = digs 4294967296 y := ⟨_, rfl⟩
  have hvx : Hid (val 4294967296 xs = x) := by rw [hxs]; exact val_digs (by omega) x
  have hvy : Hid (val 4294967296 ys = y) := by rw [hys]; exact val_digs (by omega) y
  have hdx : Hid (∀ d ∈ xs, d < 4294967296) := by rw [hxs]; exact digs_lt (by omega) x
  have hdy : Hid (∀ d ∈ ys, d < 4294967296) := by rw [hys]; exact digs_lt (by omega) y
  rw [← hxs] at hlx hca hA ⊢
  rw [← hys] at hly hcb hB ⊢
  clear hxs hys
  obtain ⟨i0, hi, hz0, hz1, hz2⟩ := info_parts infoU32
  have hb0 : Below w.heap.size w (((w.alloc (.cells #[.slice A xs.length ca] 26)).alloc (.cells #[.slice B ys.length cb] 26)).alloc (.cells #[.slice none 0 0] 26)) := (((Below.refl _ w).alloc (Nat.le_refl _) _).alloc (by simp) _).alloc (by simp; omega) _
  have hbA := (((One.new w (.slice A xs.length ca) 26).alloc (.cells #[.slice B ys.length cb] 26)).alloc (.cells #[.slice none 0 0] 26))
  have hbB := ((One.new (w.alloc (.cells #[.slice A xs.length ca] 26)) (.slice B ys.length cb) 26).alloc (.cells #[.slice none 0 0] 26))
  have hbR := One.new ((w.alloc (.cells #[.slice A xs.length ca] 26)).alloc (.cells #[.slice B ys.length cb] 26)) (.slice none 0 0) 26
  rw [World.size_alloc] at hbB
  rw [World.size_alloc, World.size_alloc] at hbR
  go_enter Tryd.func25, Tryd.ntmps25
  go_wp2_with (refine wpList_make_row rfl (.tmp 16) (.tmp 16) _ rfl 71 i0 _ Tryd.underlying22 hi hz0 hz1 rfl _ _ _ _ (xs.length + ys.length) rfl rfl (by rw [Int.natCast_add]) (by rw [Int.natCast_add]) (by rw [hz2]; omega) (by simp [maxLen]; omega) _ _ (Below.refl _ _) (Nat.le_refl _) ?_; intro w1 hrow hb1 hs1; have hA1 := (hbA.step hb1.out).cell; have hB1 := (hbB.step hb1.out).cell; have hR1 := (hbR.step hb1.out).cell)
  have hbl : Below w.heap.size w w1 := hb0.trans (hb1.out.mono hb0.size)
  obtain ⟨g, hg⟩ : ∃ g, g = w.heap.size + 1 + 1 + 1 := ⟨_, rfl⟩
  have hs0 : (((w.alloc (.cells #[.slice A xs.length ca] 26)).alloc (.cells #[.slice B ys.length cb] 26)).alloc (.cells #[.slice none 0 0] 26)).heap.size = g := by rw [hg]; simp
  have hoA := hbA.step hb1.out
  have hoB := hbB.step hb1.out
  have hoR := hbR.step hb1.out
  have hrow1 := hrow.out
  rw [hs0] at hrow1
  rw [← hg]
  have hcA : CellsT w1 71 A xs.length (u32f xs) := hA.step hbl
  have hcB : CellsT w1 71 B ys.length (u32f ys) := hB.step hbl
  have hgw : g < w1.heap.size := hrow1.lt
  have hM0 : MulI w1 g xs ys 0 w1 := ⟨fun _ => 0, hrow1, fun _ _ => rfl, fun _ => by show (0 : Nat) < 4294967296; decide, by
    have : ∀ n, val 4294967296 (seg (fun _ => 0) 0 n) = 0 := by
      intro n
      induction n with
      | zero => rfl
      | succ n ih => rw [seg_succ, val_snoc, ih]; simp
    rw [this]; simp [val], World.grownBy.refl _ _⟩
  have hg1 : w.heap.size + 3 ≤ g := by omega
  have hg2 : g ≤ w.heap.size + 3 := by omega
  clear hrow hb1 hs1 hbA hbB hbR hs0 hA1 hB1 hR1 hrow1 hg hb0
  go_loopw [21] (fun i wr => ∃ ni : Nat, i = .int .i64 ni ∧ ni ≤ xs.length ∧ MulI w1 g xs ys ni wr) (fun i _ => xs.length - (intOf i).toNat)
  case atStart => exact ⟨0, rfl, by omega, hM0⟩
  case round =>
    obtain ⟨i, rfl, hi, hM⟩ := hrel
    have hM2 := hM
    obtain ⟨t, hr, ht0, htB, htv, hgr⟩ := hM2
    by_cases hlt : i < xs.length
    · obtain ⟨ga, rfl, hrowa, hcella⟩ := hA.2 i hlt
      obtain ⟨d, hdd⟩ : ∃ d : Nat, d = xs.getD i 0 := ⟨_, rfl⟩
      have hd1 : d < 4294967296 := by rw [hdd]; exact getD_lt hdx.out i hlt
      have hold : ∀ b o, b < w1.heap.size → b ≠ g → wr.cell? ⟨b, o, none⟩ = w1.cell? ⟨b, o, none⟩ := fun b o hb hne => World.cell?_of_block (w := w1) (hgr.block b hb (by simpa using hne))
      have hc1 : wr.cell? ⟨ga, i, none⟩ = some (.int .u32 d) := by
        rw [hold ga i (by have := hrowa.lt; omega) (by have := hrowa.lt; omega), hbl.cell (p := ⟨ga, i, none⟩) hrowa.lt, hcella, hdd]; rfl
      have hbx : wr.cell? ⟨w.heap.size + 1, 0, none⟩ = some (.slice B ys.length cb) := by
        rw [hold _ _ hoB.lt (by omega)]; exact hoB.cell
      have hNi : ¬ (xs.length + ys.length = i) := by omega
      have hcg := hr.frozen (i + ys.length)
      obtain ⟨z, hz⟩ : ∃ z, wr.cell? ⟨g, i + ys.length, none⟩ = some z := ⟨_, hr.cell (i + ys.length) (by omega)⟩
      have he1 : IntKind.i64.wrap ((i : Int) + (ys.length : Int)) = (i : Int) + (ys.length : Int) := IntWalk.i64_in _ (by omega)
      have he2 : ((i : Int) + (ys.length : Int)).toNat = i + ys.length := by omega
      have hmx : Tryd.prog.follows .mixedOrders = true := by kernel_rfl
      have hbw : Below w.heap.size w wr := hbl.grown hgr (by omega) (fun k hk => by cases hk; omega)
      have hBc : Cells wr g B ys.length (u32f ys) := (hB.cells.below hbw).more (by omega)
      have HDD := Lib.hid hdd
      have HAP := Lib.hid (addProduct_any (w := wr.drew) (g := g) (N := xs.length + ys.length) (off := i) (n := ys.length) (cp := ys.length) (cb := cb) (B := B) (s := t) (ds := ys) (m := d) (by omega) rfl hd1 (by omega) (by omega) hdy.out htB hr hBc (Nat.le_refl _))
      have H1 := Lib.hid (And.intro hr (And.intro ht0 (And.intro htB (And.intro htv hgr))))
      clear hdd hM hr ht0 htB htv hgr hold hrowa hcella hcA hcB hA hB hoA hoB hoR hM0
      have HST : Hid (∀ (c : Nat) (W2 : World), ProdI wr.drew g (xs.length + ys.length) i ys.length t ys d ys.length c W2 → MulI w1 g xs ys (i + 1) (W2.setCell ⟨g, i + ys.length, none⟩ (.int .u32 (c : Nat)))) := by
        intro c W2 hP
        obtain ⟨q1, q2, q3, q4, q5⟩ := H1.out
        rw [HDD.out] at hP
        exact mul_step (W := wr.drew) hlt q1 q2 q4 q3 hP ⟨q5.os, q5.tape, q5.output, q5.size, q5.block⟩
      have HAP0 : Hid (ys = [] → Calls Tryd.prog 56 #[.slice (some ⟨g, 0, none⟩) 0 0, .slice B 0 cb, .int .u32 d] wr.drew fun e w' => ∃ c, e = .returned (.int .u32 (c : Nat)) ∧ ProdI wr.drew g (xs.length + ys.length) i ys.length t ys d ys.length c w') := by
        intro hys
        obtain ⟨q1, q2, q3, q4, q5⟩ := H1.out
        have := addProduct_any (w := wr.drew) (g := g) (N := xs.length + ys.length) (off := 0) (n := ys.length) (cp := ys.length) (cb := cb) (B := B) (s := t) (ds := ys) (m := d) (by omega) rfl hd1 (by omega) (by omega) hdy.out q3 q1 hBc (Nat.le_refl _)
        rw [hys] at this ⊢
        refine this.mono ?_
        rintro e w' ⟨c, rfl, t2, r1, r2, r3, r4, r5, r6⟩
        exact ⟨c, rfl, t2, r1, fun j _ => r2 j (by simp), fun j hj => by simp at hj, by simpa [seg, val] using r4, r5, r6⟩
      clear hBc
      by_cases hys : ys = []
      · have HA0 := Lib.hid (HAP0.out hys)
        clear HAP HAP0
        subst hys
        simp only [List.length_nil, Nat.add_zero, Int.natCast_zero, Int.add_zero] at *
        go_wp2
        go_region_with (go_at_call 56; refine HA0.out.mono ?_; rintro e w2 ⟨c, rfl, hP⟩; obtain ⟨⟨z2, hz2⟩, hf2⟩ := prod_cell hP i (by omega))
        all_goals go_wp2
        all_goals exact ⟨⟨i + 1, by go_num, by omega, HST.out _ _ hP⟩, by simp [intOf]; omega⟩
      · have hyl : 0 < ys.length := List.length_pos_iff.2 hys
        clear HAP0
        go_wp2
        go_region_with (go_at_call 56; refine HAP.out.mono ?_; rintro e w2 ⟨c, rfl, hP⟩; obtain ⟨⟨z2, hz2⟩, hf2⟩ := prod_cell hP (i + ys.length) (by omega))
        all_goals go_wp2
        all_goals exact ⟨⟨i + 1, by go_num, by omega, HST.out _ _ hP⟩, by simp [intOf]; omega⟩
    · obtain rfl : i = xs.length := by omega
      have hsz := hgr.size
      have hbw : Below w.heap.size w wr := hbl.grown hgr (by omega) (fun k hk => by cases hk; omega)
      have hoR2 : One wr (w.heap.size + 1 + 1) (.slice none 0 0) 26 := (hgr.block _ hoR.lt (by intro e; injection e; omega)).trans hoR
      have hL : LU wr (.slice (some ⟨g, 0, none⟩) (xs.length + ys.length) (xs.length + ys.length)) (seg t 0 (xs.length + ys.length)) :=
        LU.of_cells (seg_len _ _ _) (Nat.le_refl _) hr.cellsT (fun j hj => by
          unfold u32f
          simp [seg, List.getD, hj])
      have hcall := fromDigits_new (w := wr) (by rw [seg_len]; omega) (by
        intro d hd
        obtain ⟨j, _, rfl⟩ := List.mem_map.1 hd
        exact htB _) hL
      have hval : val 4294967296 (seg t 0 (xs.length + ys.length)) = x * y := by rw [htv, List.take_length, hvx.out, hvy.out]
      rw [hval] at hcall
      have HCALL := Lib.hid hcall
      clear hval hcall hL hM hr ht0 htB htv hgr hoA hoB hoR hcA hcB hA hB hM0
      go_wp2_with (go_at_call 42; refine HCALL.out.mono ?_; rintro e w3 ⟨v, rfl, ⟨s3, rfl, A3, c3, rfl, hc3, hA3⟩, hb⟩; have hone3 := hoR2.step hb; have hcc1 := hone3.cell; have hff1 := hone3.frozen; have hll1 := hone3.lt)
      have hone4 := hone3.set_ (.slice A3 (digs 4294967296 (x * y)).length c3)
      refine bodyPost_ret (v := .agg #[.slice A3 (digs 4294967296 (x * y)).length c3]) (by simp [results, Tryd.results25, go_sem, hone4.cell]) rfl ?_
      exact ⟨_, rfl, ⟨_, rfl, LU.far ⟨A3, c3, rfl, hc3, hA3⟩ hone3.row (by decide) _⟩, (hbw.trans (hb.mono hbw.size)).setCell (by show w.heap.size ≤ w.heap.size + 1 + 1; omega) _⟩
end Go.Proofs.YtapblmbjbpkieaaDoor
