/- Contracts of the reference: fits. Contract of the reference's DivMod. Contracts of the reference's DivMod and GCD. Contract of the reference's Parse. The walk of the law NatParse. -/
import Derived.Test.YthfjbpbgnoonpaaGreatDoorNF
namespace Go.Proofs.YthfjbpbgnoonpaaGreatDoor
open Go.RowKit

theorem cmpI_le {x y : Nat} (h : x ≤ y) : cmpI x y ≤ 0 := by
  unfold cmpI
  split
  · omega
  · rw [if_neg (by omega)]; omega
theorem cmpI_gt {x y : Nat} (h : y < x) : 0 < cmpI x y := by
  unfold cmpI
  rw [if_neg (by omega), if_pos h]; omega
theorem digs6_mul {y m L : Nat} (hl : (digs 1000000 y).length ≤ L) (hm : m < 1000000) : (digs 1000000 (y * m)).length ≤ L + 1 := by
  refine digs_len (by omega) ?_
  have h1 := val_lt (b := 1000000) (digs 1000000 y) (digs_lt (by omega) y)
  rw [val_digs (by omega)] at h1
  have h2 : (1000000 : Nat) ^ (digs 1000000 y).length ≤ 1000000 ^ L := Nat.pow_le_pow_right (by omega) hl
  rw [Nat.pow_succ]
  exact mul_lt (Nat.lt_of_lt_of_le h1 h2) hm
theorem times_new {v : Value} {y m : Nat} {M : Int} {w : World} (hM : M = (m : Int)) (hlen : (digs 1000000 y).length ≤ 1000000) (hm : m ≤ 4294967296) (hv : LI w v (digs 1000000 y)) :
    Calls Tryz.prog 86 #[v, .int .i64 M] w (NewI w (digs 1000000 (y * m))) := by
  subst hM
  have := times_any (m : Int) hlen (digs_lt (by omega) y) (by omega) (by omega) hv
  rwa [val_digs (by omega), Int.toNat_natCast] at this

set_option maxRecDepth 100000 in
set_option maxHeartbeats 1600000 in
theorem fits_any {u v : Value} {x y : Nat} {w : World} (hlx : (digs 1000000 x).length ≤ 1000) (hly : (digs 1000000 y).length ≤ 1000) (hy : 0 < y) (hq : x / y < 1000000) (hu : LI w u (digs 1000000 x)) (hv : LI w v (digs 1000000 y)) :
    Calls Tryz.prog 111 #[u, v] w fun e w' => e = .returned (.int .i64 ((x / y : Nat) : Int)) ∧ Below w.heap.size w w' := by
  have HT := Lib.hid (fun (W : World) (hb : Below w.heap.size w W) (m : Nat) (M : Int) (hM : M = (m : Int)) (hm : m < 1000000) => times_new (w := W) hM (by omega) (by omega) (hv.below hb))
  have HC := Lib.hid (fun (W : World) (hb : Below w.heap.size w W) (m : Nat) (hm : m < 1000000) (p : Value) (hp : LI W p (digs 1000000 (y * m))) => refCmp_any (w := W) (by have := digs6_mul hly hm; omega) (by omega) hp (hu.below hb))
  obtain ⟨A, ca, rfl, hca, hA⟩ := hu
  obtain ⟨B, cb, rfl, hcb, hB⟩ := hv
  obtain ⟨Q, hQ⟩ : ∃ Q, Q = x / y := ⟨_, rfl⟩
  rw [← hQ] at hq ⊢
  have HQ : Hid (∀ m, m ≤ Q ↔ y * m ≤ x) := by
    intro m
    rw [hQ, Nat.le_div_iff_mul_le hy, Nat.mul_comm]
  clear hQ hA hB hlx hly
  go_enter Tryz.func111, Tryz.ntmps111
  go_wp2
  go_loopw [5, 6] (fun l h wr => ∃ nl nh : Nat, l = .int .i64 nl ∧ h = .int .i64 nh ∧ nl ≤ Q ∧ Q ≤ nh ∧ nh ≤ 999999 ∧ Below w.heap.size w wr) (fun l h _ => (intOf h).toNat - (intOf l).toNat)
  case atStart => exact ⟨0, 999999, rfl, rfl, by omega, by omega, by omega, Below.refl _ _⟩
  case round =>
    obtain ⟨nl, nh, rfl, rfl, h1, h2, h3, hbw⟩ := hrel
    by_cases hlt : nl < nh
    · obtain ⟨mid, hmid⟩ : ∃ mid, mid = (nl + nh + 1) / 2 := ⟨_, rfl⟩
      have hm1 : mid < 1000000 := by omega
      have hm2 : nl < mid := by omega
      have hm3 : mid ≤ nh := by omega
      have hme : Hid (((nl : Int) + (nh : Int) + 1) / 2 = (mid : Int)) := by unfold Hid; omega
      clear hmid
      by_cases hle : mid ≤ Q
      · have hcp : Hid (cmpI (y * mid) x ≤ 0) := cmpI_le ((HQ.out mid).1 hle)
        go_wp2_with fail
        refine (HT.out _ hbw mid _ hme.out hm1).mono ?_
        rintro e w1 ⟨v1, rfl, hv1, hb1⟩
        have hbw1 := hbw.trans (hb1.mono hbw.size)
        go_wp2_with fail
        refine (HC.out _ hbw1 mid hm1 _ hv1).mono ?_
        rintro e w2 ⟨rfl, hb2⟩
        have hcp' := hcp.out
        generalize cmpI (y * mid) x = cc at *
        go_wp2_with fail
        go_roundw
        case rel => exact ⟨mid, nh, by rw [hme.out], rfl, hle, h2, h3, hbw1.trans (hb2.mono hbw1.size)⟩
        case measure => have := hme.out; simp [intOf]; omega
      · have hcp : Hid (0 < cmpI (y * mid) x) := cmpI_gt (by have := mt (HQ.out mid).2 hle; omega)
        go_wp2_with fail
        refine (HT.out _ hbw mid _ hme.out hm1).mono ?_
        rintro e w1 ⟨v1, rfl, hv1, hb1⟩
        have hbw1 := hbw.trans (hb1.mono hbw.size)
        go_wp2_with fail
        refine (HC.out _ hbw1 mid hm1 _ hv1).mono ?_
        rintro e w2 ⟨rfl, hb2⟩
        have hcp' := hcp.out
        generalize cmpI (y * mid) x = cc at *
        go_wp2_with fail
        go_roundw
        case rel => exact ⟨nl, mid - 1, rfl, by rw [hme.out]; congr 1; omega, h1, by omega, by omega, hbw1.trans (hb2.mono hbw1.size)⟩
        case measure => have := hme.out; simp [intOf]; omega
    · obtain rfl : nl = Q := by omega
      go_wp2
      go_ret
      exact ⟨rfl, hbw⟩
end Go.Proofs.YthfjbpbgnoonpaaGreatDoor

namespace Go.Proofs.YthfjbpbgnoonpaaGreatDoor
open Go.RowKit

theorem own_one (w : World) (u : Value) (e : TypeId) : (w.alloc (.cells #[u] e)).ownsRow w.heap.size e 1 (.slice (some ⟨w.heap.size, 0, none⟩) 1 1) 1 [u] :=
  ⟨rfl, .inr ⟨_, 1, #[u], rfl, Nat.le_refl _, heap_alloc_new w _, Nat.le_refl _, by simp [maxLen], rfl, rfl⟩⟩
/-- A value of the call's own that reads as a list. -/
def OwnNew (w : World) (ds : List Nat) (e : Ending) (w' : World) : Prop := ∃ v, e = .returned v ∧ OwnI w.heap.size w' v ds ∧ Below w.heap.size w w'
set_option maxHeartbeats 400000 in
theorem without_own {v : Value} {ds : List Nat} {w : World} (hlen : ds.length ≤ 2000000000000) (hv : LI w v ds) :
    Calls Tryz.prog 54 #[v] w (OwnNew w (strip ds)) := by
  obtain ⟨A, c, rfl, hc, hA⟩ := hv
  obtain ⟨i0, hi, hz0, hz1, hz2⟩ := info_parts infoInt
  have fin : ∀ (k : Nat) (hk : k ≤ ds.length) (hs : strip ds = ds.take k) (v' : Value) (w' : World), w'.ownsRow w.heap.size 3 1 v' (0 + k) ([] ++ vals (i64f ds) k) → (w.alloc (.cells #[] 3)).grownBy w' (some w.heap.size) → OwnNew w (strip ds) (.returned v') w' := by
    intro k hk hs v' w' h1 h2
    refine ⟨v', rfl, ?_, ((Below.refl _ _).alloc (Nat.le_refl _) _).grown h2 (by simp) (by simp)⟩
    rw [hs]
    unfold OwnI
    have hlk : (ds.take k).length = k := by simp; omega
    rw [map_vals_I, hlk, vals_same fun i hi => i64f_take ds k i hi]
    simpa using h1
  go_enter Tryz.func54, Tryz.ntmps54
  go_wp2
  go_loop [0] (fun v => ∃ k : Nat, k ≤ ds.length ∧ v = .slice A k c ∧ strip ds = strip (ds.take k)) (fun v => match v with | .slice _ k _ => k | _ => 0)
  case atStart => exact ⟨_, Nat.le_refl _, rfl, by rw [List.take_length]⟩
  case round =>
    obtain ⟨k, hk, rfl, hs⟩ := hrel
    have HS := Lib.hid hs
    clear hs
    have hA1 := (hA.less hk).below ((Below.refl _ w).alloc (Nat.le_refl _) (.cells #[] 3))
    by_cases h0 : 0 < k
    · obtain ⟨a, rfl, hab, hcell⟩ := hA (k - 1) (by omega)
      by_cases hx0 : ds.getD (k - 1) 0 = 0
      · have hcell' : w.cell? (a.add (k - 1)) = some (.int .i64 0) := by rw [hcell]; unfold i64f; rw [hx0]; rfl
        have hst := Lib.hid (strip_take_zero ds k hk h0 hx0)
        clear hcell hx0 hA1 fin
        go_wp2
        exact ⟨⟨k - 1, by omega, rfl, by rw [HS.out, hst.out]⟩, by simp; omega⟩
      · obtain ⟨x, hx⟩ : ∃ x : Nat, x = ds.getD (k - 1) 0 := ⟨_, rfl⟩
        have hcell' : w.cell? (a.add (k - 1)) = some (.int .i64 x) := by rw [hcell, hx]; rfl
        have hb : ((x : Int) == 0) = false := by simp; omega
        have hst := Lib.hid (strip_take_pos ds k hk h0 hx0)
        clear hcell hx0 hx
        go_wp2_with (at_builtin; refine wpList_append_cells _ rfl (.tmp 20) (.tmp 21) _ _ rfl w.heap.size 3 3 i0 _ 8 Tryz.underlying32 Tryz.underlying31 hi hz0 hz1 hz2 rfl _ 0 [] rfl (own_empty w 3) w.heap.size (some a) k c (i64f ds) rfl hA1 (fun _ _ => rfl) (by simp [maxLen]; omega) (by omega) (by simp) ?_; intro v' w1 hown1 hgrow1 _; have hf := Lib.hid (fin k hk (HS.out.trans hst.out) v' w1 hown1 hgrow1); clear fin hown1 hgrow1)
        go_ret
        exact hf.out
    · obtain rfl : k = 0 := by omega
      go_wp2_with (at_builtin; refine wpList_append_cells _ rfl (.tmp 20) (.tmp 21) _ _ rfl w.heap.size 3 3 i0 _ 8 Tryz.underlying32 Tryz.underlying31 hi hz0 hz1 hz2 rfl _ 0 [] rfl (own_empty w 3) w.heap.size A 0 c (i64f ds) rfl hA1 (fun _ _ => rfl) (by simp [maxLen]) (by omega) (by simp) ?_; intro v' w1 hown1 hgrow1 _; have hf := Lib.hid (fin 0 hk HS.out v' w1 hown1 hgrow1); clear fin hown1 hgrow1)
      go_ret
      exact hf.out

theorem OwnI.below {base : Nat} {w w' : World} {v : Value} {os : List Nat} (h : OwnI base w v os) (hb : Below w.heap.size w w') : OwnI base w' v os := by
  refine World.ownsRow.kept h (row := none) ⟨hb.os, hb.tape, hb.output, hb.size, fun k hk _ => hb.block k hk⟩ ?_
  rcases ho : v.ownBlock with _ | k
  · exact .inl rfl
  · exact .inr (by simp)
theorem OwnI.far {base : Nat} {w : World} {v : Value} {os : List Nat} (h : OwnI base w v os) {p : Addr} (hp : p.block < base) (u : Value) : OwnI base (w.setCell p u) v os := by
  refine World.ownsRow.kept h (row := some p.block) (grown_setCell (World.grownBy.refl _ _) (.inl rfl) u) ?_
  refine .inr (fun he => ?_)
  have := (World.ownsRow.lt h p.block he).1
  omega

def RefDm (w : World) (q r : Nat) (e : Ending) (w' : World) : Prop := ∃ vq vr, e = .returned (.tuple #[vq, vr, .int .i64 0]) ∧ LI w' vq (digs 1000000 q) ∧ LI w' vr (digs 1000000 r) ∧ Below w.heap.size w w'

set_option maxRecDepth 100000 in
set_option maxHeartbeats 1600000 in
theorem refDivMod_zero {u v : Value} {x : Nat} {w : World} (hu : LI w u (digs 1000000 x)) (hv : LI w v (digs 1000000 0)) :
    Calls Tryz.prog 85 #[u, v] w fun e w' => e = .returned (.tuple #[.slice none 0 0, .slice none 0 0, .int .i64 10]) ∧ w = w' := by
  obtain ⟨A, ca, rfl, hca, hA⟩ := hu
  obtain ⟨B, cb, rfl, hcb, hB⟩ := hv
  have h0 : (digs 1000000 0).length = 0 := rfl
  rw [h0] at hB ⊢
  clear h0 hA hB hca hcb
  go_enter Tryz.func85, Tryz.ntmps85
  go_wp2
  go_ret3
  exact ⟨rfl, rfl⟩

/-- At the head of DivMod's loop: k groups are still to be divided, vr is the rest. -/
def DmR (w : World) (g n : Nat) (ds : List Nat) (y k : Nat) (vr : Value) (W : World) : Prop :=
  ∃ (qs : List Nat) (r : Nat), Row W g 3 n (fun j => if j < k then .int .i64 0 else .int .i64 (qs.getD (j - k) 0 : Nat)) ∧ qs.length + k = n ∧ (∀ q ∈ qs, q < 1000000) ∧ LI W vr (digs 1000000 r) ∧ r < y ∧ val 1000000 qs * y + r = val 1000000 (ds.drop k) ∧ Below w.heap.size w W
theorem dm_math {v y r d q r2 rest : Nat} (h : v * y + r = rest) (hq : q * y + r2 = d + 1000000 * r) : (q + 1000000 * v) * y + r2 = d + 1000000 * rest := by
  rw [← h, Nat.add_mul, Nat.mul_add, ← Nat.mul_assoc]
  omega
theorem dm_next {w W : World} {g n : Nat} {ds : List Nat} {y k q r r2 d : Nat} {qs : List Nat} {vr : Value} (hk : k < ds.length) (hd : d = ds.getD k 0) (hql : qs.length + (k + 1) = n) (hqs : ∀ q ∈ qs, q < 1000000) (hq : q < 1000000) (hv : val 1000000 qs * y + r = val 1000000 (ds.drop (k + 1))) (he : q * y + r2 = d + 1000000 * r) (hr2 : r2 < y)
    (hrow : Row W g 3 n (fun j => if j = k then .int .i64 (q : Nat) else if j < k + 1 then .int .i64 0 else .int .i64 (qs.getD (j - (k + 1)) 0 : Nat))) (hvr : LI W vr (digs 1000000 r2)) (hb : Below w.heap.size w W) : DmR w g n ds y k vr W := by
  refine ⟨q :: qs, r2, hrow.same (fun j _ => ?_), by simp; omega, ?_, hvr, hr2, ?_, hb⟩
  · by_cases h1 : j = k
    · subst h1; simp
    · rw [if_neg h1]
      by_cases h2 : j < k
      · rw [if_pos (by omega), if_pos h2]
      · rw [if_neg (by omega), if_neg h2, show j - k = (j - (k + 1)) + 1 by omega]; simp
  · intro a ha
    rcases List.mem_cons.1 ha with rfl | ha
    · exact hq
    · exact hqs a ha
  · rw [drop_cons ds k hk, ← hd]
    simp only [val]
    exact dm_math hv he
theorem dm_head {d r : Nat} (hd : d < 1000000) : strip (d :: digs 1000000 r) = digs 1000000 (d + 1000000 * r) := by
  rw [strip_digs (b := 1000000) (by omega) _ (by
    intro a ha
    rcases List.mem_cons.1 ha with rfl | ha
    · exact hd
    · exact digs_lt (by omega) r a ha)]
  simp only [val, val_digs (b := 1000000) (by omega)]
theorem dm_list {w : World} {base d : Nat} {v : Value} {ds : List Nat} (h : w.ownsRow base 3 1 v (1 + ds.length) ([.int .i64 (d : Nat)] ++ vals (i64f ds) ds.length)) : LI w v (d :: ds) := by
  have e : [Value.int .i64 (d : Nat)] ++ vals (i64f ds) ds.length = vals (i64f (d :: ds)) (1 + ds.length) := by
    apply List.ext_getElem?
    intro i
    by_cases hi : i < 1 + ds.length
    · rw [vals_get _ _ i hi]
      cases i with
      | zero => rfl
      | succ i =>
        rw [List.getElem?_append_right (by simp), List.length_singleton, Nat.add_sub_cancel, vals_get _ _ i (by omega)]
        simp [i64f]
    · rw [List.getElem?_eq_none (by simp [vals_len]; omega), List.getElem?_eq_none (by simp [vals_len]; omega)]
  rw [e] at h
  exact own_vals_I (by simp; omega) h

theorem Row.grown {w w' : World} {g n b : Nat} {e : TypeId} {f : Nat → Value} (h : Row w g e n f) (hg : w.grownBy w' (some b)) (hne : g ≠ b) : Row w' g e n f :=
  (hg.block g h.lt (by intro e; injection e; omega)).trans h
theorem dm_len {X y L : Nat} (hl : (digs 1000000 y).length ≤ L) (h : X < y * 1000000) : (digs 1000000 X).length ≤ L + 1 := by
  refine digs_len (by omega) (Nat.lt_of_lt_of_le h ?_)
  have h1 := val_lt (b := 1000000) (digs 1000000 y) (digs_lt (by omega) y)
  rw [val_digs (by omega)] at h1
  have h2 : (1000000 : Nat) ^ (digs 1000000 y).length ≤ 1000000 ^ L := Nat.pow_le_pow_right (by omega) hl
  rw [Nat.pow_succ]
  exact Nat.mul_le_mul_right _ (by omega)

set_option maxRecDepth 100000 in
set_option maxHeartbeats 2400000 in
theorem refDivMod_long {u v : Value} {x y : Nat} {w : World} (hlx : (digs 1000000 x).length ≤ 500) (hly : (digs 1000000 y).length ≤ 500) (hy : 0 < y) (hbig : ¬ (x < 18446744073709551616 ∧ y < 18446744073709551616)) (hu : LI w u (digs 1000000 x)) (hv : LI w v (digs 1000000 y)) :
    Calls Tryz.prog 85 #[u, v] w (RefDm w (x / y) (x % y)) := by
  have HU := Lib.hid (refUint64_any (w := w) (by omega) hu)
  have HV := Lib.hid (refUint64_any (w := w) (by omega) hv)
  obtain ⟨a1, b1, hab⟩ := u64Spec_form x
  obtain ⟨a2, b2, hab2⟩ := u64Spec_form y
  have hb12 : b1 = false ∨ b2 = false := by
    unfold U64Spec at hab hab2
    by_cases h1 : x < 18446744073709551616
    · refine .inr ?_
      rw [if_neg (by omega)] at hab2
      simp at hab2
      exact hab2.2
    · refine .inl ?_
      rw [if_neg h1] at hab
      simp at hab
      exact hab.2
  rw [hab] at HU
  rw [hab2] at HV
  have hl0 : (((digs 1000000 y).length : Int) == 0) = false := by
    refine beq_eq_false_iff_ne.2 (fun h => ?_)
    have h1 : digs 1000000 y = [] := List.eq_nil_of_length_eq_zero (by omega)
    have h2 := val_digs (b := 1000000) (by omega) y
    rw [h1] at h2
    simp [val] at h2
    omega
  have HFi := Lib.hid (fun (W : World) (hb : Below w.heap.size w W) (p : Value) (r : Nat) (hlr : (digs 1000000 r).length ≤ 1000) (hq : r / y < 1000000) (hp : LI W p (digs 1000000 r)) => fits_any (w := W) hlr (by omega) hy hq hp (hv.below hb))
  have HTi := Lib.hid (fun (W : World) (hb : Below w.heap.size w W) (m : Nat) (hm : m < 1000000) => times_new (w := W) (M := (m : Int)) rfl (by omega) (by omega) (hv.below hb))
  obtain ⟨A, ca, rfl, hca, hA⟩ := hu
  obtain ⟨B, cb, rfl, hcb, hB⟩ := hv
  obtain ⟨ds, hds⟩ : ∃ ds, ds = digs 1000000 x := ⟨_, rfl⟩
  have HD : Hid (∀ d ∈ ds, d < 1000000) := by rw [hds]; exact digs_lt (by omega) x
  have HVX : Hid (val 1000000 ds = x) := by rw [hds]; exact val_digs (by omega) x
  rw [← hds] at hlx hca hA HU ⊢
  obtain ⟨i0, hi, hz0, hz1, hz2⟩ := info_parts infoInt
  clear hab hab2 hbig hB hds
  go_enter Tryz.func85, Tryz.ntmps85
  go_wp2_with fail
  refine HU.out.mono ?_
  rintro e w1 ⟨rfl, rfl⟩
  go_wp2_with fail
  refine HV.out.mono ?_
  rintro e w1 ⟨rfl, rfl⟩
  clear HU HV
  have hcases : (b1 = false ∧ b2 = false) ∨ (b1 = false ∧ b2 = true) ∨ (b1 = true ∧ b2 = false) := by cases b1 <;> cases b2 <;> simp at hb12 ⊢
  clear hb12
  rcases hcases with ⟨rfl, rfl⟩ | ⟨rfl, rfl⟩ | ⟨rfl, rfl⟩
  all_goals
    go_wp2_with (refine wpList_make_row rfl (.tmp 40) (.tmp 40) _ rfl 3 i0 _ Tryz.underlying31 hi hz0 hz1 rfl _ _ _ _ ds.length rfl rfl rfl rfl (by rw [hz2]; omega) (by simp [maxLen]; omega) _ _ (Below.refl _ _) (Nat.le_refl _) ?_; intro w2 hrow hb2 hs2)
    have hR0 : DmR w1 w1.heap.size ds.length ds y ds.length (.slice (some ⟨w2.heap.size, 0, none⟩) 0 0) (w2.alloc (.cells #[] 3)) := by
      have hba : Below w2.heap.size w2 (w2.alloc (.cells #[] 3)) := (Below.refl _ _).alloc (Nat.le_refl _) _
      refine ⟨[], 0, ((hrow.out.below hba hrow.out.lt).same (fun j hj => by rw [if_pos hj])), by simp, by simp, ⟨_, 0, rfl, Nat.le_refl _, Cells.zero⟩, hy, ?_, hb2.out.trans (hba.mono hb2.out.size)⟩
      rw [List.drop_of_length_le (Nat.le_refl _)]
      simp [val]
    clear hrow hb2 hs2
    go_loopw [12, 13] (fun vr i wr => ∃ k : Nat, i = .int .i64 ((k : Int) - 1) ∧ k ≤ ds.length ∧ DmR w1 w1.heap.size ds.length ds y k vr wr) (fun _ i _ => (intOf i + 1).toNat)
    case atStart => exact ⟨ds.length, rfl, Nat.le_refl _, hR0⟩
    case round =>
      obtain ⟨k, rfl, hk, hR⟩ := hrel
      clear hR0
      by_cases h0 : 0 < k
      · obtain ⟨j, rfl⟩ : ∃ j, k = j + 1 := ⟨k - 1, by omega⟩
        have hje : (((j + 1 : Nat) : Int) - 1) = (j : Int) := by omega
        rw [hje]
        clear hje
        obtain ⟨qs, r, hrow, hql, hqs, hvr, hry, hval, hbw⟩ := hR
        obtain ⟨P, c, rfl, hPc, hP⟩ := hvr
        obtain ⟨a, rfl, hab, hcell⟩ := hA j (by omega)
        obtain ⟨d, hdd⟩ : ∃ d : Nat, d = ds.getD j 0 := ⟨_, rfl⟩
        have hd1 : d < 1000000 := by rw [hdd]; exact getD_lt HD.out j (by omega)
        have hcell' : wr.cell? (a.add j) = some (.int .i64 d) := by rw [hbw.cell (by rw [add_block]; exact hab), hcell, hdd]; rfl
        obtain ⟨X, hX⟩ : ∃ X, X = d + 1000000 * r := ⟨_, rfl⟩
        have hXy : X < y * 1000000 := by
          have : 1000000 * (r + 1) ≤ 1000000 * y := Nat.mul_le_mul_left _ hry
          rw [Nat.mul_comm y]
          omega
        have hXl := dm_len hly hXy
        obtain ⟨q, hqe⟩ : ∃ q, q = X / y := ⟨_, rfl⟩
        obtain ⟨r2, hre⟩ : ∃ r2, r2 = X % y := ⟨_, rfl⟩
        have hq1 : q < 1000000 := by rw [hqe]; exact Nat.div_lt_of_lt_mul hXy
        have hdm := Nat.div_add_mod X y
        rw [← hqe, ← hre] at hdm
        have hXq : Hid (q * y + r2 = d + 1000000 * r) := by
          unfold Hid
          rw [← hX, Nat.mul_comm]
          exact hdm
        have hXs : Hid (X - y * q = r2) := by
          unfold Hid
          omega
        have hr2 : r2 < y := by rw [hre]; exact Nat.mod_lt _ hy
        have hrl : (digs 1000000 r).length ≤ 500 := by
          refine Nat.le_trans ?_ hly
          rcases Nat.lt_or_ge (digs 1000000 y).length (digs 1000000 r).length with h | h
          · have := digs6_shorter h; omega
          · exact h
        have hcL : Cells (wr.alloc (.cells #[.int .i64 (d : Nat)] 3)) wr.heap.size P (digs 1000000 r).length (i64f (digs 1000000 r)) := hP.below ((Below.refl _ wr).alloc (Nat.le_refl _) _)
        have HNX := Lib.hid (fun (W : World) vr' h1 h2 h3 => dm_next (w := w1) (W := W) (g := w1.heap.size) (n := ds.length) (ds := ds) (y := y) (k := j) (q := q) (r := r) (r2 := r2) (d := d) (qs := qs) (vr := vr') (by omega) hdd hql hqs hq1 hval hXq.out hr2 h1 h2 h3)
        have HROW := Lib.hid hrow
        have HX := Lib.hid (show strip (d :: digs 1000000 r) = digs 1000000 X by rw [hX]; exact dm_head hd1)
        have HFi2 := Lib.hid (fun (W : World) (hb : Below w1.heap.size w1 W) p hp => HFi.out W hb p X (by omega) (by rw [← hqe]; exact hq1) hp)
        rw [← hqe] at HFi2
        have HSb := Lib.hid (fun (W : World) (u v : Value) (hu : LI W u (digs 1000000 X)) (hv : LI W v (digs 1000000 (y * q))) => refSub_any (w := W) (by omega) (by have := digs6_mul hly hq1; omega) hu hv)
        rw [hXs.out] at HSb
        have hgl := hrow.lt
        have hwz := hbw.size
        clear hrow hql hqs hval hP hcell hdd hX hXq hXs hqe hre hdm
        go_wp2_with (first | (at_builtin; refine wpList_append_cells _ rfl (.tmp 54) (.tmp 55) _ _ rfl wr.heap.size 3 3 i0 _ 8 Tryz.underlying31 Tryz.underlying32 hi hz0 hz1 hz2 rfl _ 1 [.int .i64 (d : Nat)] rfl (own_one wr _ 3) wr.heap.size P (digs 1000000 r).length c (i64f (digs 1000000 r)) rfl hcL (fun _ _ => rfl) (by simp [maxLen]; omega) (by omega) (by simp) ?_; intro v3 w3 hown hgrow _; have hgr3 : Hid ((wr.alloc (.cells #[.int .i64 (d : Nat)] 3)).grownBy w3 (some wr.heap.size)) := hgrow; have hW3 := Lib.hid (without_own (w := w3) (by simp; omega) (dm_list hown)); rw [HX.out] at hW3; clear hown hgrow) | (go_at_call 54; refine hW3.out.mono ?_; rintro e w4 ⟨v4, rfl, ho4, hb4⟩; have hv4 := ho4.reads))
        have hbw3 : Below w1.heap.size w1 w3 := (hbw.alloc hwz _).grown hgr3.out (by simp; omega) (fun k hk => by cases hk; exact hwz)
        have hbw4 := hbw3.trans (hb4.mono hbw3.size)
        have hrow3 := Row.grown (HROW.out.below ((Below.refl wr.heap.size wr).alloc (Nat.le_refl _) (.cells #[.int .i64 (d : Nat)] 3)) hgl) hgr3.out (by omega)
        have hrow4 := hrow3.below hb4 hrow3.lt
        clear hrow3 hW3
        refine (HFi2.out _ hbw4 _ hv4).mono ?_
        rintro e w5 ⟨rfl, hb5⟩
        have hbw5 := hbw4.trans (hb5.mono hbw4.size)
        have hrow5 := hrow4.below hb5 hrow4.lt
        have hc5 := hrow5.cell j (by omega)
        have hf5 := hrow5.frozen j
        have ho5 := ho4.below hb5
        obtain ⟨w6, hw6⟩ : ∃ w6, w5.setCell ⟨w1.heap.size, j, none⟩ (.int .i64 (q : Int)) = w6 := ⟨_, rfl⟩
        have hrow6 : Row w6 w1.heap.size 3 ds.length (fun i => if i = j then .int .i64 (q : Nat) else if i < j + 1 then .int .i64 0 else .int .i64 (qs.getD (i - (j + 1)) 0 : Nat)) := by
          rw [← hw6]
          exact hrow5.set_ j _ (fun i _ => rfl)
        have hbw6 : Below w1.heap.size w1 w6 := by rw [← hw6]; exact hbw5.setCell (Nat.le_refl _) _
        have hv6 : LI w6 v4 (digs 1000000 X) := by
          rw [← hw6]
          exact (ho5.far (p := ⟨w1.heap.size, j, none⟩) (Nat.lt_of_lt_of_le hgl (by have := hgr3.out.size; simp at this; omega)) _).reads
        have hc6 : w6.cell? ⟨w1.heap.size, j, none⟩ = some (.int .i64 (q : Int)) := by rw [hrow6.cell j (by omega)]; simp
        clear hrow4 hrow5 hv4 ho4 ho5 hb4 hb5 HROW hgr3 hcL HX hbw hbw3 hbw4 hbw5
        go_wp2_with fail
        clear hw6 hc5 hf5
        refine (HTi.out _ hbw6 q hq1).mono ?_
        rintro e w7 ⟨v7, rfl, hv7, hb7⟩
        have hrow7 := hrow6.below hb7 hrow6.lt
        go_wp2_with fail
        refine (HSb.out _ _ _ (hv6.below hb7) hv7).mono ?_
        rintro e w8 ⟨v8, rfl, hv8, hb8⟩
        have hrow8 := hrow7.below hb8 hrow7.lt
        have hbw8 := (hbw6.trans (hb7.mono hbw6.size)).trans (hb8.mono (hbw6.trans (hb7.mono hbw6.size)).size)
        have hfin := Lib.hid (HNX.out w8 v8 hrow8 hv8 hbw8)
        clear hrow6 hrow7 hrow8 hv6 hv7 hv8 hb7 hb8 hbw8 hbw6 HNX
        go_wp2_with fail
        go_roundw
        case rel => exact ⟨j, rfl, by omega, hfin.out⟩
        case measure => simp [intOf]
      · obtain rfl : k = 0 := by omega
        obtain ⟨qs, r, hrow, hql, hqs, hvr, hry, hval, hbw⟩ := hR
        rw [List.drop_zero, HVX.out] at hval
        have hqe : Hid (val 1000000 qs = x / y) := by
          unfold Hid
          rw [← hval, Nat.mul_comm, Nat.mul_add_div hy, Nat.div_eq_of_lt hry, Nat.add_zero]
        have hre : Hid (r = x % y) := by
          unfold Hid
          rw [← hval, Nat.mul_comm, Nat.mul_add_mod, Nat.mod_eq_of_lt hry]
        have hL : LI wr (.slice (some ⟨w1.heap.size, 0, none⟩) ds.length ds.length) qs := LI.of_cells (by omega) (Nat.le_refl _) hrow.cells (fun i _ => by simp [i64f])
        have hs := strip_digs (b := 1000000) (by omega) qs hqs
        rw [hqe.out] at hs
        have HW := Lib.hid (without_any (by omega) hL)
        rw [hs] at HW
        rw [hre.out] at hvr
        clear hs hL hrow hql hqs hval hry
        go_wp2_with (go_at_call 54; refine HW.out.mono ?_; rintro e w3 ⟨v3, rfl, hv3, hb3⟩)
        go_ret3
        exact ⟨_, _, rfl, hv3, hvr.below hb3, hbw.trans (hb3.mono hbw.size)⟩
end Go.Proofs.YthfjbpbgnoonpaaGreatDoor

namespace Go.Proofs.YthfjbpbgnoonpaaGreatDoor
open Go.RowKit

set_option maxRecDepth 100000 in
set_option maxHeartbeats 2400000 in
theorem refDivMod_small {u v : Value} {x y : Nat} {w : World} (hx : x < 18446744073709551616) (hy : y < 18446744073709551616) (hy0 : 0 < y) (hu : LI w u (digs 1000000 x)) (hv : LI w v (digs 1000000 y)) :
    Calls Tryz.prog 85 #[u, v] w (RefDm w (x / y) (x % y)) := by
  have hl1 : (digs 1000000 x).length ≤ 4 := digs_len (by omega) (by omega)
  have hl2 : (digs 1000000 y).length ≤ 4 := digs_len (by omega) (by omega)
  have HU := Lib.hid (fun W (hw : W = w) => (by subst hw; exact refUint64_any (w := W) (by omega) hu : Calls Tryz.prog 110 #[u] W fun e w' => e = U64Spec x ∧ w' = W))
  have HV := Lib.hid (fun W (hw : W = w) => (by subst hw; exact refUint64_any (w := W) (by omega) hv : Calls Tryz.prog 110 #[v] W fun e w' => e = U64Spec y ∧ w' = W))
  have hux : U64Spec x = .returned (.tuple #[.int .u64 (x : Int), .bool true]) := by unfold U64Spec; rw [if_pos hx]
  have huy : U64Spec y = .returned (.tuple #[.int .u64 (y : Int), .bool true]) := by unfold U64Spec; rw [if_pos hy]
  rw [hux] at HU
  rw [huy] at HV
  have hq1 : x / y < 18446744073709551616 := Nat.lt_of_le_of_lt (Nat.div_le_self x y) hx
  have hr1 : x % y < 18446744073709551616 := Nat.lt_of_le_of_lt (Nat.mod_le x y) hx
  have hl0 : (((digs 1000000 y).length : Int) == 0) = false := by
    refine beq_eq_false_iff_ne.2 (fun h => ?_)
    have h1 : digs 1000000 y = [] := List.eq_nil_of_length_eq_zero (by omega)
    have h2 := val_digs (b := 1000000) (by omega) y
    rw [h1] at h2
    simp [val] at h2
    omega
  obtain ⟨A, ca, rfl, hca, hA⟩ := hu
  obtain ⟨B, cb, rfl, hcb, hB⟩ := hv
  obtain ⟨Q, hQ⟩ : ∃ Q : Nat, x / y = Q := ⟨_, rfl⟩
  obtain ⟨R, hR⟩ : ∃ R : Nat, x % y = R := ⟨_, rfl⟩
  have hQ' := Lib.hid hQ
  have hR' := Lib.hid hR
  rw [hQ] at hq1 ⊢
  rw [hR] at hr1 ⊢
  have hdq : (x : Int) / (y : Int) = (Q : Int) := by rw [← hQ, Int.natCast_ediv]
  have hdr : (x : Int) % (y : Int) = (R : Int) := by rw [← hR, Int.natCast_emod]
  have htq : (x : Int).tdiv (y : Int) = (Q : Int) := by rw [Int.tdiv_eq_ediv_of_nonneg (by omega), hdq]
  have htr : (x : Int).tmod (y : Int) = (R : Int) := by rw [Int.tmod_eq_emod_of_nonneg (by omega), hdr]
  have hwQ : IntKind.u64.wrap (Q : Int) = (Q : Int) := IntWalk.u64_in _ ⟨by omega, by omega⟩
  have hwR : IntKind.u64.wrap (R : Int) = (R : Int) := IntWalk.u64_in _ ⟨by omega, by omega⟩
  have hOQ := Lib.hid (fun W : World => refOf_any (w := W) (Q : Int) (by omega) (by omega))
  have hOR := Lib.hid (fun W : World => refOf_any (w := W) (R : Int) (by omega) (by omega))
  rw [Int.toNat_natCast] at hOQ hOR
  have hy1 : ((y : Int) == 0) = false := beq_eq_false_iff_ne.2 (by omega)
  have hy2 : 0 < (y : Int) := by omega
  clear hx hy hq1 hr1 hQ hR hux huy hA hB hQ' hR' hl1 hl2
  go_enter Tryz.func85, Tryz.ntmps85
  go_wp2_with fail
  refine (HU.out _ rfl).mono ?_
  rintro e w1 ⟨rfl, hw1⟩
  subst hw1
  go_wp2_with fail
  refine (HV.out _ rfl).mono ?_
  rintro e w2 ⟨rfl, hw2⟩
  subst hw2
  clear HU HV
  go_wp2_with fail
  go_region_with (first
    | (go_at_call_of 14 (Q : Int); refine (hOQ.out _).mono ?_; rintro e w9 ⟨vq, rfl, hvq, hb9⟩)
    | (go_at_call_of 14 (R : Int); refine (hOR.out _).mono ?_; rintro e w10 ⟨vr, rfl, hvr, hb10⟩))
  all_goals (try go_wp2)
  all_goals
    go_ret3
    exact ⟨_, _, rfl, hvq.below hb10, hvr, ((Below.refl _ _).drew.trans hb9).trans (hb10.mono hb9.size)⟩

theorem refDivMod_any {u v : Value} {x y : Nat} {w : World} (hlx : (digs 1000000 x).length ≤ 500) (hly : (digs 1000000 y).length ≤ 500) (hy0 : 0 < y) (hu : LI w u (digs 1000000 x)) (hv : LI w v (digs 1000000 y)) :
    Calls Tryz.prog 85 #[u, v] w (RefDm w (x / y) (x % y)) := by
  by_cases h : x < 18446744073709551616 ∧ y < 18446744073709551616
  · exact refDivMod_small h.1 h.2 hy0 hu hv
  · exact refDivMod_long hlx hly hy0 h hu hv

set_option maxRecDepth 100000 in
set_option maxHeartbeats 1600000 in
theorem refGCD_zero {u v : Value} {x : Nat} {w : World} (hu : LI w u (digs 1000000 x)) (hv : LI w v (digs 1000000 0)) :
    Calls Tryz.prog 87 #[u, v] w (NewI w (digs 1000000 (Nat.gcd x 0))) := by
  rw [Nat.gcd_zero_right]
  have HU := Lib.hid hu
  obtain ⟨A, ca, rfl, hca, hA⟩ := hu
  obtain ⟨B, cb, rfl, hcb, hB⟩ := hv
  have h0 : (digs 1000000 0).length = 0 := rfl
  rw [h0] at hB ⊢
  clear h0 hA hB hca hcb
  go_enter Tryz.func87, Tryz.ntmps87
  go_wp2
  go_ret
  exact ⟨_, rfl, HU.out, Below.refl _ _⟩
theorem digs6_le {x y L : Nat} (h : x ≤ y) (hl : (digs 1000000 y).length ≤ L) : (digs 1000000 x).length ≤ L := by
  rcases Nat.lt_or_ge (digs 1000000 y).length (digs 1000000 x).length with h1 | h1
  · have := digs6_shorter h1; omega
  · omega

set_option maxRecDepth 100000 in
set_option maxHeartbeats 1600000 in
theorem refGCD_step {u v : Value} {x y : Nat} {w : World} (hlx : (digs 1000000 x).length ≤ 500) (hly : (digs 1000000 y).length ≤ 500) (hy0 : 0 < y) (hu : LI w u (digs 1000000 x)) (hv : LI w v (digs 1000000 y))
    (ih : ∀ (W : World) (p q : Value), LI W p (digs 1000000 y) → LI W q (digs 1000000 (x % y)) → Calls Tryz.prog 87 #[p, q] W (NewI W (digs 1000000 (Nat.gcd y (x % y))))) :
    Calls Tryz.prog 87 #[u, v] w (NewI w (digs 1000000 (Nat.gcd x y))) := by
  have hg : Hid (Nat.gcd y (x % y) = Nat.gcd x y) := by
    unfold Hid
    rw [Nat.gcd_comm y, ← Nat.gcd_rec, Nat.gcd_comm]
  rw [hg.out] at ih
  have IH := Lib.hid ih
  have HD := Lib.hid (refDivMod_any hlx hly hy0 hu hv)
  have HV := Lib.hid hv
  have hl0 : (((digs 1000000 y).length : Int) == 0) = false := by
    refine beq_eq_false_iff_ne.2 (fun h => ?_)
    have h1 : digs 1000000 y = [] := List.eq_nil_of_length_eq_zero (by omega)
    have h2 := val_digs (b := 1000000) (by omega) y
    rw [h1] at h2
    simp [val] at h2
    omega
  obtain ⟨A, ca, rfl, hca, hA⟩ := hu
  obtain ⟨B, cb, rfl, hcb, hB⟩ := hv
  clear hg ih hA hB
  go_enter Tryz.func87, Tryz.ntmps87
  go_wp2_with fail
  refine HD.out.mono ?_
  rintro e w1 ⟨vq, vr, rfl, hvq, hvr, hb1⟩
  have hv1 := HV.out.below hb1
  clear HD HV hvq
  go_wp2_with fail
  refine (IH.out _ _ _ hv1 hvr).mono ?_
  rintro e w2 ⟨vg, rfl, hvg, hb2⟩
  go_wp2_with fail
  go_ret
  exact ⟨_, rfl, hvg, hb1.trans (hb2.mono hb1.size)⟩
theorem refGCD_any : ∀ (y x : Nat) (u v : Value) (w : World), (digs 1000000 x).length ≤ 500 → (digs 1000000 y).length ≤ 500 → LI w u (digs 1000000 x) → LI w v (digs 1000000 y) →
    Calls Tryz.prog 87 #[u, v] w (NewI w (digs 1000000 (Nat.gcd x y))) := by
  intro y
  induction y using Nat.strongRecOn with
  | ind y ih =>
    intro x u v w hlx hly hu hv
    by_cases h0 : y = 0
    · subst h0
      exact refGCD_zero hu hv
    · exact refGCD_step hlx hly (by omega) hu hv (fun W p q hp hq => ih (x % y) (Nat.mod_lt _ (by omega)) y p q W hly (digs6_le (Nat.le_of_lt (Nat.mod_lt _ (by omega))) hly) hp hq)
end Go.Proofs.YthfjbpbgnoonpaaGreatDoor

namespace Go.Proofs.YthfjbpbgnoonpaaGreatDoor
open Go.RowKit

def RefErr (w : World) (c : Int) (e : Ending) (w' : World) : Prop := e = .returned (.tuple #[.slice none 0 0, .int .i64 c]) ∧ w = w'
def RefOk (w : World) (k : Nat) (e : Ending) (w' : World) : Prop := ∃ v, e = .returned (.tuple #[v, .int .i64 0]) ∧ LI w' v (digs 1000000 k) ∧ Below w.heap.size w w'

set_option maxRecDepth 100000 in
set_option maxHeartbeats 1600000 in
theorem refParse_empty (s : ByteArray) (w : World) (h0 : s.size = 0) :
    Calls Tryz.prog 70 #[.string s] w (RefErr w 3) := by
  obtain rfl : s = ⟨#[]⟩ := by
    apply ByteArray.ext
    exact Array.eq_empty_of_size_eq_zero h0
  go_enter Tryz.func70, Tryz.ntmps70
  go_wp2
  go_ret2
  exact ⟨rfl, rfl⟩
set_option maxRecDepth 100000 in
set_option maxHeartbeats 1600000 in
theorem refParse_zero (s : ByteArray) (w : World) (hlen : s.size ≤ 9223372036854775807) (h1 : 1 < s.size) (hz : s[0].toNat = 48) :
    Calls Tryz.prog 70 #[.string s] w (RefErr w 3) := by
  obtain ⟨hne, hne2⟩ := str_ne (s := s) (by omega)
  have hs0 : ((s.size : Int) == 0) = false := beq_eq_false_iff_ne.2 (by omega)
  go_enter Tryz.func70, Tryz.ntmps70
  go_wp2
  go_ret2
  exact ⟨rfl, rfl⟩
set_option maxRecDepth 100000 in
set_option maxHeartbeats 1600000 in
theorem refParse_char (s : ByteArray) (w : World) (hlen : s.size ≤ 9223372036854775807) (h0 : 0 < s.size) (hz : s[0].toNat = 48 → s.size ≤ 1) (hbad : ¬ DigB s s.size) :
    Calls Tryz.prog 70 #[.string s] w (RefErr w 3) := by
  obtain ⟨hne, hne2⟩ := str_ne h0
  have HB := Lib.hid hbad
  have hs0 : ((s.size : Int) == 0) = false := beq_eq_false_iff_ne.2 (by omega)
  clear hbad
  have hcase : decide ((1 : Int) < (s.size : Int)) = false ∨ ((1 : Int) < (s.size : Int) ∧ ((s[0].toNat : Int) == 48) = false) := by
    by_cases h1 : 1 < s.size
    · refine .inr ⟨by omega, beq_eq_false_iff_ne.2 (fun h => ?_)⟩
      have := hz (by omega)
      omega
    · exact .inl (decide_eq_false (by omega))
  clear hz
  rcases hcase with hz3 | ⟨hz4, hz3⟩
  all_goals
    go_enter Tryz.func70, Tryz.ntmps70
    go_wp2_with fail
    go_loop [4] (fun i => ∃ k : Nat, i = .int .i64 k ∧ k ≤ s.size ∧ DigB s k) (fun i => s.size - (intOf i).toNat)
    case atStart => exact ⟨0, rfl, by omega, fun j _ h => by omega⟩
    case round =>
      obtain ⟨k, rfl, hk, hd⟩ := hrel
      by_cases hlt : k < s.size
      · by_cases h1 : (s[k].toNat : Int) < 48
        · go_wp2
          go_ret2
          exact ⟨rfl, rfl⟩
        · by_cases h2 : (57 : Int) < (s[k].toNat : Int)
          · go_wp2
            go_ret2
            exact ⟨rfl, rfl⟩
          · have hn := Lib.hid (hd.snoc hlt (by omega) (by omega))
            go_wp2
            go_round
            case rel => exact ⟨k + 1, by go_num, by omega, hn.out⟩
            case measure => simp [intOf]; omega
      · obtain rfl : k = s.size := by omega
        exact absurd hd HB.out
theorem refParse_bad {s : ByteArray} {w : World} (hlen : s.size ≤ 9223372036854775807) (hs : ¬ isTextB s) :
    Calls Tryz.prog 70 #[.string s] w (RefErr w 3) := by
  by_cases h0 : 0 < s.size
  · by_cases hz : s[0].toNat = 48 → s.size ≤ 1
    · exact refParse_char s w hlen h0 hz (fun h => hs ⟨h0, fun _ => hz, h⟩)
    · have hz' : s[0].toNat = 48 ∧ ¬ s.size ≤ 1 := Classical.not_imp.1 hz
      exact refParse_zero s w hlen (by omega) hz'.1
  · exact refParse_empty s w (by omega)

theorem numL_mid (b : ByteArray) (f k : Nat) (hf : f ≤ k) (h : k < b.size) : numL ((b.data.toList.take (k + 1)).drop f) = numL ((b.data.toList.take k).drop f) * 10 + (b[k].toNat - 48) := by
  have hl : k < b.data.toList.length := h
  rw [List.take_succ_eq_append_getElem hl, List.drop_append_of_le_length (by rw [List.length_take]; omega), numL_snoc]
  rfl
theorem numL_cut (b : ByteArray) (f : Nat) (_hf : f ≤ b.size) : numL b.data.toList = numL (b.extract 0 f).data.toList * 10 ^ (b.size - f) + numL (b.data.toList.drop f) := by
  have hl : b.data.toList.length = b.size := rfl
  rw [Lib.extract_data, List.drop_zero, Nat.sub_zero]
  have := numL_append (b.data.toList.take f) (b.data.toList.drop f)
  rw [List.take_append_drop, List.length_drop, hl] at this
  exact this
theorem numL_nil_extract (b : ByteArray) : numL (b.extract 0 0).data.toList = 0 := by rw [Lib.extract_data]; rfl
/-- At the head of Parse's loop: b is still to be read, os has been. -/
def ParR (w : World) (n : Nat) (b : ByteArray) (v : Value) (os : List Nat) (W : World) : Prop :=
  OwnI w.heap.size W v os ∧ (∀ d ∈ os, d < 1000000) ∧ n = numL b.data.toList * 10 ^ (6 * os.length) + val 1000000 os ∧ os.length + b.size ≤ 100 ∧ DigL b.data.toList ∧ Below w.heap.size w W ∧ w.heap.size ≤ W.heap.size
theorem parR_math (n x y g f sz l : Nat) (v : Nat) (h : n = x * 10 ^ (6 * l) + v) (hx : x = y * 10 ^ (sz - f) + g) (hc : sz - f = 6 ∨ y = 0) : n = y * 10 ^ (6 * (l + 1)) + (v + 1000000 ^ l * g) := by
  have e : (1000000 : Nat) ^ l = 10 ^ (6 * l) := by rw [show (1000000 : Nat) = 10 ^ 6 from rfl, ← Nat.pow_mul]
  rw [h, hx, e]
  rcases hc with hc | rfl
  · rw [hc, Nat.add_mul, Nat.mul_assoc, ← Nat.pow_add, show 6 + 6 * l = 6 * (l + 1) by omega, Nat.mul_comm g]
    omega
  · rw [Nat.zero_mul, Nat.zero_mul, Nat.zero_add, Nat.zero_add, Nat.mul_comm g]
    omega

set_option maxRecDepth 100000 in
set_option maxHeartbeats 1600000 in
theorem refParse_ok {s : ByteArray} {w : World} (hs : isTextB s) (hl : s.size ≤ 100) :
    Calls Tryz.prog 70 #[.string s] w (RefOk w (numL s.data.toList)) := by
  have h0 := hs.1
  obtain ⟨hne, hne2⟩ := str_ne h0
  have hdl := Lib.hid (hs.2.2.digL)
  have HD := Lib.hid hs.2.2
  have hs0 : ((s.size : Int) == 0) = false := beq_eq_false_iff_ne.2 (by omega)
  have hcase : decide ((1 : Int) < (s.size : Int)) = false ∨ ((1 : Int) < (s.size : Int) ∧ ((s[0].toNat : Int) == 48) = false) := by
    by_cases h1 : 1 < s.size
    · refine .inr ⟨by omega, beq_eq_false_iff_ne.2 (fun h => ?_)⟩
      have := hs.2.1 h0 (by omega)
      omega
    · exact .inl (decide_eq_false (by omega))
  clear hs
  rcases hcase with hz3 | ⟨hz4, hz3⟩
  all_goals
    go_enter Tryz.func70, Tryz.ntmps70
    go_wp2_with fail
    go_loop [4] (fun i => ∃ k : Nat, i = .int .i64 k ∧ k ≤ s.size) (fun i => s.size - (intOf i).toNat)
    case atStart => exact ⟨0, rfl, by omega⟩
    case round =>
      obtain ⟨k, rfl, hk⟩ := hrel
      by_cases hlt : k < s.size
      · obtain ⟨h1, h2⟩ := HD.out.at_ hlt hlt
        go_wp2
        go_round
        case rel => exact ⟨k + 1, by go_num, by omega⟩
        case measure => simp [intOf]; omega
      · go_wp2
        go_loopw [0, 5] (fun b v wr => ∃ (s' : ByteArray) (os : List Nat), b = .string s' ∧ ParR w (numL s.data.toList) s' v os wr) (fun b _ _ => match b with | .string s' => s'.size | _ => 0)
        case atStart => exact ⟨s, [], rfl, OwnI.nil _ _, by simp, by simp [val], by simpa using hl, hdl.out, Below.refl _ _, Nat.le_refl _⟩
        case round =>
          obtain ⟨b, os, rfl, hP⟩ := hrel
          obtain ⟨hown, hos, hn, hob, hbl, hbw, hsz⟩ := hP
          by_cases hb0 : 0 < b.size
          · obtain ⟨f, hf⟩ : ∃ f : Nat, f = b.size - 6 := ⟨_, rfl⟩
            have hfb : f < b.size := by omega
            have hfm : Hid (max (0 : Int) ((b.size : Int) - 6) = (f : Int)) := by unfold Hid; omega
            have hf6 : b.size ≤ f + 6 := by omega
            have hfe : Hid (b.size - f = 6 ∨ f = 0) := by unfold Hid; omega
            have HN := Lib.hid hn
            have HO := Lib.hid hos
            clear hf hn hos
            go_wp2_with fail
            rw [hfm.out]
            clear hfm
            go_loop [7, 8] (fun gv iv => ∃ (ng k : Nat), iv = .int .i64 k ∧ f ≤ k ∧ k ≤ b.size ∧ gv = .int .i64 ng ∧ ng = numL ((b.data.toList.take k).drop f) ∧ ng < 10 ^ (k - f)) (fun _ iv => b.size - (intOf iv).toNat)
            case atStart => exact ⟨0, f, rfl, Nat.le_refl _, by omega, rfl, by rw [List.drop_eq_nil_of_le (by rw [List.length_take]; omega)]; rfl, by simp⟩
            case round =>
              obtain ⟨g, j, rfl, hfj, hj, rfl, hgn, hg10⟩ := hrel
              have HG := Lib.hid hgn
              clear hgn
              have hg6 : g < 1000000 := Nat.lt_of_lt_of_le hg10 (Nat.pow_le_pow_right (n := 10) (by omega) (show j - f ≤ 6 by omega))
              by_cases hlt : j < b.size
              · have hx := (hbl.digB b.size).at_ hlt hlt
                have hn := Lib.hid (numL_mid b f j hfj hlt)
                have hc : Hid (g * 10 + (b[j].toNat - 48) < 10 ^ (j + 1 - f)) := by
                  unfold Hid
                  rw [show j + 1 - f = (j - f) + 1 by omega, Nat.pow_succ]
                  omega
                clear hg10
                go_wp2
                go_round
                case rel => exact ⟨g * 10 + (b[j].toNat - 48), j + 1, by go_num, by omega, by omega, by go_num, by rw [hn.out, HG.out], hc.out⟩
                case measure => simp [intOf]; omega
              · obtain rfl : j = b.size := by omega
                have hge : Hid (g = numL (b.data.toList.drop f)) := by
                  unfold Hid
                  have htk : b.data.toList.take b.size = b.data.toList := List.take_of_length_le (Nat.le_refl b.size)
                  rw [HG.out, htk]
                have Key : Hid (∀ v' w', OwnI w.heap.size w' v' (os ++ [g]) → Below w.heap.size w w' → w.heap.size ≤ w'.heap.size → ParR w (numL s.data.toList) (b.extract 0 f) v' (os ++ [g]) w') := by
                  intro v' w' h1 h2 h3
                  refine ⟨h1, all_snoc HO.out hg6, ?_, ?_, hbl.extract 0 f, h2, h3⟩
                  · rw [val_snoc, List.length_append]
                    refine parR_math _ _ _ _ f b.size os.length _ HN.out (by rw [hge.out]; exact numL_cut b f (by omega)) ?_
                    rcases hfe.out with h | h
                    · exact .inl h
                    · subst h; exact .inr (numL_nil_extract b)
                  · rw [List.length_append, ByteArray.size_extract]
                    simp
                    omega
                have hes : Hid ((b.extract 0 f).size < b.size) := by
                  unfold Hid
                  rw [ByteArray.size_extract]
                  omega
                have hosl : os.length ≤ 100 := by omega
                clear hg10 HG hge hfe
                go_wp2_with (at_builtin; go_loud (refine wpList_append_I rfl (.tmp 63) (.tmp 65) _ _ rfl Tryz.underlying31 Tryz.underlying31 w.heap.size _ os rfl hown g _ rfl rfl (by omega) w hbw hsz ?_; intro v' w1 hown1 hb1 hs1))
                go_roundw
                case rel => exact ⟨_, _, rfl, Key.out _ _ hown1.out hb1.out hs1.out⟩
                case measure => exact hes.out
          · have hbe : b.data.toList = [] := List.eq_nil_of_length_eq_zero (show b.data.toList.length = 0 by have : b.data.toList.length = b.size := rfl; omega)
            have hvo : Hid (numL s.data.toList = val 1000000 os) := by
              unfold Hid
              rw [hn, hbe]
              simp [numL]
            have hso := Lib.hid (strip_digs (b := 1000000) (by omega) os hos)
            have HW := Lib.hid (without_any (w := wr) (by omega) hown.reads)
            rw [hso.out, ← hvo.out] at HW
            clear hbe hn hos hvo hso
            go_wp2_with (go_at_call 54; refine HW.out.mono ?_; rintro e w3 ⟨v3, rfl, hv3, hb3⟩)
            go_ret2
            exact ⟨v3, rfl, hv3, hbw.trans (hb3.mono hsz)⟩
end Go.Proofs.YthfjbpbgnoonpaaGreatDoor

namespace Go.Proofs.YthfjbpbgnoonpaaGreatDoor
open Go.RowKit

def ParN (W : World) (k : Nat) (E : Int) (e : Ending) (w' : World) : Prop := ∃ A n c, e = .returned (.tuple #[.agg #[.slice A n c], .int .i64 E]) ∧ IsNat w' (.agg #[.slice A n c]) k ∧ Below W.heap.size W w'
def ParF (W : World) (k : Nat) (E : Int) (e : Ending) (w' : World) : Prop := ∃ v, e = .returned (.tuple #[v, .int .i64 E]) ∧ LI w' v (digs 1000000 k) ∧ Below W.heap.size W w'
theorem numL_bd (l : List UInt8) (h : DigL l) {n : Nat} (hn : l.length ≤ n) : numL l < 10 ^ n :=
  Nat.lt_of_lt_of_le (numL_lt l (fun c hc => (h c hc).2)) (Nat.pow_le_pow_right (by omega) hn)
/-- Both read a short string alike. -/
theorem parses (s : ByteArray) (hl : s.size ≤ 100) : ∃ (k : Nat) (E : Int), k < 10 ^ 100 ∧ (∀ W, Calls Tryz.prog 67 #[.string s] W (ParN W k E)) ∧ (∀ W, Calls Tryz.prog 70 #[.string s] W (ParF W k E)) := by
  by_cases hs : isTextB s
  · refine ⟨numL s.data.toList, 0, numL_bd _ hs.2.2.digL hl, fun W => ?_, fun W => ?_⟩
    · refine (parse_ok (w := W) hs (by omega)).mono ?_
      rintro e w' ⟨v, rfl, hv, hb⟩
      obtain ⟨A, n, c, -, rfl⟩ := isNat_digs hv
      exact ⟨A, n, c, rfl, hv, hb⟩
    · refine (refParse_ok (w := W) hs hl).mono ?_
      rintro e w' ⟨v, rfl, hv, hb⟩
      exact ⟨v, rfl, hv, hb⟩
  · refine ⟨0, 3, Nat.pow_pos (by omega), fun W => ?_, fun W => ?_⟩
    · refine (parse_bad (w := W) (by omega) hs).mono ?_
      rintro e w' ⟨rfl, hb⟩
      exact ⟨_, _, _, rfl, isNat_zero _, hb⟩
    · refine (refParse_bad (w := W) (by omega) hs).mono ?_
      rintro e w' ⟨rfl, rfl⟩
      exact ⟨_, rfl, ⟨none, 0, rfl, Nat.le_refl _, Cells.zero⟩, Below.refl _ _⟩

/-- A string of n digits 7. -/
def sevens (n : Nat) : List UInt8 := List.replicate n 55
theorem sevens_num (n : Nat) : numL (sevens (n + 1)) = numL (sevens n) * 10 + 7 := by
  unfold sevens
  rw [List.replicate_succ', numL_snoc]
  rfl
theorem sevens_dec (n : Nat) : dec (numL (sevens (n + 1))) = sevens (n + 1) := by
  induction n with
  | zero => rw [sevens_num]; rfl
  | succ n ih =>
    have h7 : 7 ≤ numL (sevens (n + 1)) := by rw [sevens_num]; omega
    rw [sevens_num, dec_big _ (by omega), show (numL (sevens (n + 1)) * 10 + 7) / 10 = numL (sevens (n + 1)) by omega, show (numL (sevens (n + 1)) * 10 + 7) % 10 = 7 by omega, ih]
    show sevens (n + 1) ++ [55] = sevens (n + 2)
    unfold sevens
    rw [List.replicate_succ' (n := n + 1)]
theorem sevens_text (n : Nat) (h : 0 < n) : isTextB (⟨(sevens n).toArray⟩ : ByteArray) := by
  have hget : ∀ j (hj : j < (⟨(sevens n).toArray⟩ : ByteArray).size), (⟨(sevens n).toArray⟩ : ByteArray)[j].toNat = 55 := by
    intro j hj
    show (((sevens n).toArray)[j]'hj).toNat = 55
    simp [sevens]
  refine ⟨by simpa [ByteArray.size, sevens] using h, fun h0 h1 => ?_, fun j hj _ => ?_⟩
  · rw [hget 0 h0] at h1; omega
  · rw [hget j hj]; omega
theorem sevens_small {n : Nat} (h : n ≤ 1000) : (digs 4294967296 (numL (sevens n))).length ≤ 1000 := by
  have h1 : numL (sevens n) < 10 ^ n := by
    have := numL_lt (sevens n) (fun c hc => by rw [List.eq_of_mem_replicate hc]; decide)
    rwa [show (sevens n).length = n from List.length_replicate] at this
  refine Nat.le_trans (digs_len (b := 4294967296) (n := n) (by omega) (Nat.lt_of_lt_of_le h1 (Nat.pow_le_pow_left (by omega) n))) h
theorem small10 {k : Nat} (h : k < 10 ^ 100) : (digs 4294967296 k).length ≤ 100 ∧ (digs 1000000 k).length ≤ 100 :=
  ⟨digs_len (by omega) (Nat.lt_of_lt_of_le h (Nat.pow_le_pow_left (by omega) 100)), digs_len (by omega) (Nat.lt_of_lt_of_le h (Nat.pow_le_pow_left (by omega) 100))⟩
theorem infoU8 : (Tryz.prog.info? 5).map (fun i => (i.zero, i.size, i.bytes)) = some (some (.int .u8 0), 1, 1) := by kernel_rfl
/-- The row of the long string when i bytes are laid. -/
def sevF (i j : Nat) : Value := if j < i then .int .u8 55 else .int .u8 0
theorem conv_sevens {W : World} {g n : Nat} (h : Row W g 5 n (sevF n)) : (convert 96 9 (.slice (some ⟨g, 0, none⟩) n n)).run Tryz.prog W = .ok (.string ⟨(sevens n).toArray⟩) W := by
  have hl : (sevens n).length = n := List.length_replicate
  have := run_convert_bytes_back (P := Tryz.prog) W 96 9 5 ⟨g, 0, none⟩ n (sevens n) Tryz.underlying96 Tryz.underlying5 Tryz.underlying9 (fun j hj => by
    rw [hl] at hj
    rw [row_at, h.cell j hj]
    simp [sevF, sevens, hj])
  rw [hl] at this
  exact this

end Go.Proofs.YthfjbpbgnoonpaaGreatDoor
