/- Contracts of the reference: fits. -/
import Derived.Test.YtapblmbjbpkieaaDoorLawSums
namespace Go.Proofs.YtapblmbjbpkieaaDoor
open Go.RowKit

theorem cmpI_le {x y : Nat} (h : x ≤ y) : cmpI x y ≤ 0 := by
  unfold cmpI
  split
  · omega
  · rw [if_neg (by omega)]; omega
theorem cmpI_gt {x y : Nat} (h : y < x) : 0 < cmpI x y := by
  unfold cmpI
  rw [if_neg (by omega), if_pos h]; omega
theorem digs6_mul {y m L : Nat} (hl : (digs 1000000 y).length ≤ L) (hm : m < 1000000) : (digs 1000000 (y * m)).length ≤ L + 1 := by
  refine digs_len (by omega) ?_
  have h1 := val_lt (b := 1000000) (digs 1000000 y) (digs_lt (by omega) y)
  rw [val_digs (by omega)] at h1
  have h2 : (1000000 : Nat) ^ (digs 1000000 y).length ≤ 1000000 ^ L := Nat.pow_le_pow_right (by omega) hl
  rw [Nat.pow_succ]
  exact mul_lt (Nat.lt_of_lt_of_le h1 h2) hm
theorem times_new {v : Value} {y m : Nat} {M : Int} {w : World} (hM : M = (m : Int)) (hlen : (digs 1000000 y).length ≤ 1000000) (hm : m ≤ 4294967296) (hv : LI w v (digs 1000000 y)) :
    Calls Tryd.prog 59 #[v, .int .i64 M] w (NewI w (digs 1000000 (y * m))) := by
  subst hM
  have := times_any (m : Int) hlen (digs_lt (by omega) y) (by omega) (by omega) hv
  rwa [val_digs (by omega), Int.toNat_natCast] at this

set_option maxRecDepth 100000 in
set_option maxHeartbeats 1600000 in
theorem fits_any {u v : Value} {x y : Nat} {w : World} (hlx : (digs 1000000 x).length ≤ 1000) (hly : (digs 1000000 y).length ≤ 1000) (hy : 0 < y) (hq : x / y < 1000000) (hu : LI w u (digs 1000000 x)) (hv : LI w v (digs 1000000 y)) :
    Calls Tryd.prog 58 #[u, v] w fun e w' => e = .returned (.int .i64 ((x / y : Nat) : Int)) ∧ Below w.heap.size w w' := by
  have HT := Lib.hid (fun (W : World) (hb : Below w.heap.size w W) (m : Nat) (M : Int) (hM : M = (m : Int)) (hm : m < 1000000) => times_new (w := W) hM (by omega) (by omega) (hv.below hb))
  have HC := Lib.hid (fun (W : World) (hb : Below w.heap.size w W) (m : Nat) (hm : m < 1000000) (p : Value) (hp : LI W p (digs 1000000 (y * m))) => refCmp_any (w := W) (by have := digs6_mul hly hm; omega) (by omega) hp (hu.below hb))
  obtain ⟨A, ca, rfl, hca, hA⟩ := hu
  obtain ⟨B, cb, rfl, hcb, hB⟩ := hv
  obtain ⟨Q, hQ⟩ : ∃ Q, Q = x / y := ⟨_, rfl⟩
  rw [← hQ] at hq ⊢
  have HQ : Hid (∀ m, m ≤ Q ↔ y * m ≤ x) := by
    intro m
    rw [hQ, Nat.le_div_iff_mul_le hy, Nat.mul_comm]
  clear hQ hA hB hlx hly
  go_enter Tryd.func58, Tryd.ntmps58
  go_wp2
  go_loopw [5, 6] (fun l h wr => ∃ nl nh : Nat, l = .int .i64 nl ∧ h = .int .i64 nh ∧ nl ≤ Q ∧ Q ≤ nh ∧ nh ≤ 999999 ∧ Below w.heap.size w wr) (fun l h _ => (intOf h).toNat - (intOf l).toNat)
  case atStart => exact ⟨0, 999999, rfl, rfl, by omega, by omega, by omega, Below.refl _ _⟩
  case round =>
    obtain ⟨nl, nh, rfl, rfl, h1, h2, h3, hbw⟩ := hrel
    by_cases hlt : nl < nh
    · obtain ⟨mid, hmid⟩ : ∃ mid, mid = (nl + nh + 1) / 2 := ⟨_, rfl⟩
      have hm1 : mid < 1000000 := by omega
      have hm2 : nl < mid := by omega
      have hm3 : mid ≤ nh := by omega
      have hme : Hid (((nl : Int) + (nh : Int) + 1) / 2 = (mid : Int)) := by unfold Hid; omega
      clear hmid
      by_cases hle : mid ≤ Q
      · have hcp : Hid (cmpI (y * mid) x ≤ 0) := cmpI_le ((HQ.out mid).1 hle)
        go_wp2_with fail
        refine (HT.out _ hbw mid _ hme.out hm1).mono ?_
        rintro e w1 ⟨v1, rfl, hv1, hb1⟩
        have hbw1 := hbw.trans (hb1.mono hbw.size)
        go_wp2_with fail
        refine (HC.out _ hbw1 mid hm1 _ hv1).mono ?_
        rintro e w2 ⟨rfl, hb2⟩
        have hcp' := hcp.out
        generalize cmpI (y * mid) x = cc at *
        go_wp2_with fail
        go_roundw
        case rel => exact ⟨mid, nh, by rw [hme.out], rfl, hle, h2, h3, hbw1.trans (hb2.mono hbw1.size)⟩
        case measure => have := hme.out; simp [intOf]; omega
      · have hcp : Hid (0 < cmpI (y * mid) x) := cmpI_gt (by have := mt (HQ.out mid).2 hle; omega)
        go_wp2_with fail
        refine (HT.out _ hbw mid _ hme.out hm1).mono ?_
        rintro e w1 ⟨v1, rfl, hv1, hb1⟩
        have hbw1 := hbw.trans (hb1.mono hbw.size)
        go_wp2_with fail
        refine (HC.out _ hbw1 mid hm1 _ hv1).mono ?_
        rintro e w2 ⟨rfl, hb2⟩
        have hcp' := hcp.out
        generalize cmpI (y * mid) x = cc at *
        go_wp2_with fail
        go_roundw
        case rel => exact ⟨nl, mid - 1, rfl, by rw [hme.out]; congr 1; omega, h1, by omega, by omega, hbw1.trans (hb2.mono hbw1.size)⟩
        case measure => have := hme.out; simp [intOf]; omega
    · obtain rfl : nl = Q := by omega
      go_wp2
      go_ret
      exact ⟨rfl, hbw⟩
end Go.Proofs.YtapblmbjbpkieaaDoor
