/- The reference's meet. -/
import Derived.Test.YtamkegnnlbefdaaTrBh
namespace Go.Proofs.Ytamkegnnlbefdaa
open Go.RowKit

theorem size_alloc'' (w : World) (o : Obj) : (w.alloc o).heap.size = w.heap.size + 1 := by simp
def cellN (W : World) (a : Addr) : Nat := match W.cell? a with
  | some (.int _ z) => z.toNat
  | _ => 0
def MtJ (w : World) (p q : Px) (wr : World) : Prop := ∃ c : Px, Vld c ∧ meetP c.2 c q = meetP p.2 p q ∧ Hid (Sr w [] [(w.heap.size + 1 + 1, [.int .u32 0, .int .i64 0], pxT), (w.heap.size + 1, [.int .u32 (q.1 : Int), .int .i64 (q.2 : Int)], pxT), (w.heap.size, [.int .u32 (c.1 : Int), .int .i64 (c.2 : Int)], pxT)] wr)
set_option maxRecDepth 100000 in
set_option maxHeartbeats 4000000 in
theorem meet_any {w : World} {p q : Px} (hp : Vld p) (hq : Vld q) : Calls Try.prog 32 #[pv p.1 (p.2 : Int), pv q.1 (q.2 : Int)] w fun e W => e = .returned (pv (meet p q).1 ((meet p q).2 : Int)) ∧ Below w.heap.size w W := by
  obtain ⟨w1, hw1, S⟩ : ∃ w1, ((w.alloc (.cells #[.int .u32 (p.1 : Int), .int .i64 (p.2 : Int)] pxT)).alloc (.cells #[.int .u32 (q.1 : Int), .int .i64 (q.2 : Int)] pxT)).alloc (.cells #[.int .u32 0, .int .i64 0] pxT) = w1 ∧ Hid (Sr w [] [(w.heap.size + 1 + 1, [.int .u32 0, .int .i64 0], pxT), (w.heap.size + 1, [.int .u32 (q.1 : Int), .int .i64 (q.2 : Int)], pxT), (w.heap.size, [.int .u32 (p.1 : Int), .int .i64 (p.2 : Int)], pxT)] w1) := by
    have S := (((Sr.start w).alloc [.int .u32 (p.1 : Int), .int .i64 (p.2 : Int)] pxT).alloc [.int .u32 (q.1 : Int), .int .i64 (q.2 : Int)] pxT).alloc [.int .u32 0, .int .i64 0] pxT
    simp only [size_alloc''] at S
    exact ⟨_, rfl, S⟩
  have HP := Lib.hid hp
  have HV := Lib.hid hq
  unfold meet
  go_enter Try.func32, Try.ntmps32
  go_wp2_with fail
  try rw [hw1]
  clear hw1
  go_loopw [] (fun wr => MtJ w p q wr) (fun wr => cellN wr ⟨w.heap.size, 1, none⟩)
  case atStart => exact ⟨p, HP.out, rfl, S⟩
  case round =>
    clear S
    obtain ⟨wq, rfl⟩ : ∃ x, x = wr := ⟨_, rfl⟩
    obtain ⟨c, hc, hm, S⟩ := hrel
    have HC := Lib.hid (fun W => refCovers_any c.1 (c.2 : Int) q.1 (q.2 : Int) W (vld_lt hc) (vld_lt HV.out))
    have hcv := covB_vld hc HV.out
    have c2x0 := (S.out.at 2 rfl).cell (i := 0) rfl
    have c2x1 := (S.out.at 2 rfl).cell (i := 1) rfl
    have c1x0 := (S.out.at 1 rfl).cell (i := 0) rfl
    have c1x1 := (S.out.at 1 rfl).cell (i := 1) rfl
    by_cases hcq : Cov c q
    · rw [hcv.2 hcq] at HC
      have hme : meetP p.2 p q = c := by
        rw [← hm]
        cases hc2 : c.2 with
        | zero => rfl
        | succ k => rw [meetP, if_pos hcq]
      have HME := Lib.hid hme
      clear hme hm hcv hcq
      go_wp2_with fail
      refine (HC.out _).mono ?_
      rintro e w2 ⟨rfl, hb⟩
      replace S := Lib.hid (S.out.below hb)
      clear hb HC c2x0 c2x1 c1x0 c1x1
      have c2x0 := (S.out.at 2 rfl).cell (i := 0) rfl
      have c2x1 := (S.out.at 2 rfl).cell (i := 1) rfl
      have c0x0 := (S.out.at 0 rfl).cell (i := 0) rfl
      have f0x0 := (S.out.at 0 rfl).frozen (i := 0)
      have c0x1 := (S.out.at 0 rfl).cell (i := 1) rfl
      have f0x1 := (S.out.at 0 rfl).frozen (i := 1)
      go_wp2_with fail
      have S1 := (S.out.set 0 rfl (by omega) 0 (.int .u32 (c.1 : Int)) rfl).set 0 rfl (by omega) 1 (.int .i64 (c.2 : Int)) rfl
      simp only [List.set_cons_zero, List.set_cons_succ] at S1
      have T := Lib.hid S1
      clear S1 c2x0 c2x1
      have c0x0 := (T.out.at 0 rfl).cell (i := 0) rfl
      have c0x1 := (T.out.at 0 rfl).cell (i := 1) rfl
      refine bodyPost_ret (v := .agg #[.int .u32 (c.1 : Int), .int .i64 (c.2 : Int)]) (by simp [results, Try.results32, go_sem, c0x0, c0x1]) rfl ?_
      exact ⟨by rw [HME.out], T.out.low⟩
    · rw [show covB c.1 (c.2 : Int) q.1 (q.2 : Int) = false from by rw [← Bool.not_eq_true]; exact fun h => hcq (hcv.1 h)] at HC
      have hc0 : 0 < c.2 := by
        rcases Nat.eq_zero_or_pos c.2 with h0 | h0
        · exact absurd (root_cov hc HV.out h0) hcq
        · exact h0
      have hPr := Lib.hid (fun W => refParent_good c.1 c.2 W (vld_lt hc) hc0 ((vldB_vld (vld_lt hc)).2 hc))
      obtain ⟨d, hd⟩ : ∃ d, par c = d := ⟨_, rfl⟩
      rw [show fst c.1 (c.2 - 1) = d.1 by rw [← hd]; rfl, show (c.2 : Int) - 1 = (d.2 : Int) by rw [← hd]; show (c.2 : Int) - 1 = ((c.2 - 1 : Nat) : Int); omega] at hPr
      have HD := Lib.hid (show Vld d ∧ meetP d.2 d q = meetP p.2 p q ∧ d.2 < c.2 from ⟨by rw [← hd]; exact (par_facts hc).1, by
        rw [← hm, ← hd]
        cases hc2 : c.2 with
        | zero => omega
        | succ k =>
          rw [meetP, if_neg hcq]
          show meetP (c.2 - 1) (par c) q = _
          rw [hc2]
          rfl, by rw [← hd]; show c.2 - 1 < c.2; omega⟩)
      have HM0 := Lib.hid (show cellN wq ⟨w.heap.size, 1, none⟩ = c.2 from by unfold cellN; rw [c2x1]; simp)
      clear hd hc0 hcv hcq hm
      go_wp2_with fail
      refine (HC.out _).mono ?_
      rintro e w2 ⟨rfl, hb⟩
      replace S := Lib.hid (S.out.below hb)
      clear hb HC c2x0 c2x1 c1x0 c1x1
      have c2x0 := (S.out.at 2 rfl).cell (i := 0) rfl
      have c2x1 := (S.out.at 2 rfl).cell (i := 1) rfl
      go_wp2_with fail
      refine (hPr.out _).mono ?_
      rintro e w3 ⟨rfl, hb⟩
      replace S := Lib.hid (S.out.below hb)
      clear hb hPr c2x0 c2x1
      have c2x0 := (S.out.at 2 rfl).cell (i := 0) rfl
      have f2x0 := (S.out.at 2 rfl).frozen (i := 0)
      have c2x1 := (S.out.at 2 rfl).cell (i := 1) rfl
      have f2x1 := (S.out.at 2 rfl).frozen (i := 1)
      have S1 := (S.out.set 2 rfl (Nat.le_refl _) 0 (.int .u32 (d.1 : Int)) rfl).set 2 rfl (Nat.le_refl _) 1 (.int .i64 (d.2 : Int)) rfl
      simp only [List.set_cons_zero, List.set_cons_succ] at S1
      have T := Lib.hid S1
      have HM1 := Lib.hid (show cellN ((w3.setCell ⟨w.heap.size, 0, none⟩ (.int .u32 (d.1 : Int))).setCell ⟨w.heap.size, 1, none⟩ (.int .i64 (d.2 : Int))) ⟨w.heap.size, 1, none⟩ = d.2 from by unfold cellN; rw [(S1.at 2 rfl).cell (i := 1) rfl]; simp)
      clear S1
      go_wp2_with fail
      go_roundw
      case rel => exact ⟨d, HD.out.1, HD.out.2.1, T⟩
      case measure => rw [HM0.out, HM1.out]; exact HD.out.2.2
end Go.Proofs.Ytamkegnnlbefdaa
