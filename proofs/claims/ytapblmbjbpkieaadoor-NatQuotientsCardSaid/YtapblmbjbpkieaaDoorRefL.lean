/- Contracts of the reference's DivMod and GCD. -/
import Derived.Test.YtapblmbjbpkieaaDoorRefK
namespace Go.Proofs.YtapblmbjbpkieaaDoor
open Go.RowKit

set_option maxRecDepth 100000 in
set_option maxHeartbeats 2400000 in
theorem refDivMod_small {u v : Value} {x y : Nat} {w : World} (hx : x < 18446744073709551616) (hy : y < 18446744073709551616) (hy0 : 0 < y) (hu : LI w u (digs 1000000 x)) (hv : LI w v (digs 1000000 y)) :
    Calls Tryd.prog 28 #[u, v] w (RefDm w (x / y) (x % y)) := by
  have hl1 : (digs 1000000 x).length ≤ 4 := digs_len (by omega) (by omega)
  have hl2 : (digs 1000000 y).length ≤ 4 := digs_len (by omega) (by omega)
  have HU := Lib.hid (fun W (hw : W = w) => (by subst hw; exact refUint64_any (w := W) (by omega) hu : Calls Tryd.prog 32 #[u] W fun e w' => e = U64Spec x ∧ w' = W))
  have HV := Lib.hid (fun W (hw : W = w) => (by subst hw; exact refUint64_any (w := W) (by omega) hv : Calls Tryd.prog 32 #[v] W fun e w' => e = U64Spec y ∧ w' = W))
  have hux : U64Spec x = .returned (.tuple #[.int .u64 (x : Int), .bool true]) := by unfold U64Spec; rw [if_pos hx]
  have huy : U64Spec y = .returned (.tuple #[.int .u64 (y : Int), .bool true]) := by unfold U64Spec; rw [if_pos hy]
  rw [hux] at HU
  rw [huy] at HV
  have hq1 : x / y < 18446744073709551616 := Nat.lt_of_le_of_lt (Nat.div_le_self x y) hx
  have hr1 : x % y < 18446744073709551616 := Nat.lt_of_le_of_lt (Nat.mod_le x y) hx
  have hl0 : (((digs 1000000 y).length : Int) == 0) = false := by
    refine beq_eq_false_iff_ne.2 (fun h => ?_)
    have h1 : digs 1000000 y = [] := List.eq_nil_of_length_eq_zero (by omega)
    have h2 := val_digs (b := 1000000) (by omega) y
    rw [h1] at h2
    simp [val] at h2
    omega
  obtain ⟨A, ca, rfl, hca, hA⟩ := hu
  obtain ⟨B, cb, rfl, hcb, hB⟩ := hv
  obtain ⟨Q, hQ⟩ : ∃ Q : Nat, x / y = Q := ⟨_, rfl⟩
  obtain ⟨R, hR⟩ : ∃ R : Nat, x % y = R := ⟨_, rfl⟩
  have hQ' := Lib.hid hQ
  have hR' := Lib.hid hR
  rw [hQ] at hq1 ⊢
  rw [hR] at hr1 ⊢
  have hdq : (x : Int) / (y : Int) = (Q : Int) := by rw [← hQ, Int.natCast_ediv]
  have hdr : (x : Int) % (y : Int) = (R : Int) := by rw [← hR, Int.natCast_emod]
  have htq : (x : Int).tdiv (y : Int) = (Q : Int) := by rw [Int.tdiv_eq_ediv_of_nonneg (by omega), hdq]
  have htr : (x : Int).tmod (y : Int) = (R : Int) := by rw [Int.tmod_eq_emod_of_nonneg (by omega), hdr]
  have hwQ : IntKind.u64.wrap (Q : Int) = (Q : Int) := IntWalk.u64_in _ ⟨by omega, by omega⟩
  have hwR : IntKind.u64.wrap (R : Int) = (R : Int) := IntWalk.u64_in _ ⟨by omega, by omega⟩
  have hOQ := Lib.hid (fun W : World => refOf_any (w := W) (Q : Int) (by omega) (by omega))
  have hOR := Lib.hid (fun W : World => refOf_any (w := W) (R : Int) (by omega) (by omega))
  rw [Int.toNat_natCast] at hOQ hOR
  have hy1 : ((y : Int) == 0) = false := beq_eq_false_iff_ne.2 (by omega)
  have hy2 : 0 < (y : Int) := by omega
  clear hx hy hq1 hr1 hQ hR hux huy hA hB hQ' hR' hl1 hl2
  go_enter Tryd.func28, Tryd.ntmps28
  go_wp2_with fail
  refine (HU.out _ rfl).mono ?_
  rintro e w1 ⟨rfl, hw1⟩
  subst hw1
  go_wp2_with fail
  refine (HV.out _ rfl).mono ?_
  rintro e w2 ⟨rfl, hw2⟩
  subst hw2
  clear HU HV
  go_wp2_with fail
  go_region_with (first
    | (go_at_call_of 34 (Q : Int); refine (hOQ.out _).mono ?_; rintro e w9 ⟨vq, rfl, hvq, hb9⟩)
    | (go_at_call_of 34 (R : Int); refine (hOR.out _).mono ?_; rintro e w10 ⟨vr, rfl, hvr, hb10⟩))
  all_goals (try go_wp2)
  all_goals
    go_ret3
    exact ⟨_, _, rfl, hvq.below hb10, hvr, ((Below.refl _ _).drew.trans hb9).trans (hb10.mono hb9.size)⟩

theorem refDivMod_any {u v : Value} {x y : Nat} {w : World} (hlx : (digs 1000000 x).length ≤ 500) (hly : (digs 1000000 y).length ≤ 500) (hy0 : 0 < y) (hu : LI w u (digs 1000000 x)) (hv : LI w v (digs 1000000 y)) :
    Calls Tryd.prog 28 #[u, v] w (RefDm w (x / y) (x % y)) := by
  by_cases h : x < 18446744073709551616 ∧ y < 18446744073709551616
  · exact refDivMod_small h.1 h.2 hy0 hu hv
  · exact refDivMod_long hlx hly hy0 h hu hv

set_option maxRecDepth 100000 in
set_option maxHeartbeats 1600000 in
theorem refGCD_zero {u v : Value} {x : Nat} {w : World} (hu : LI w u (digs 1000000 x)) (hv : LI w v (digs 1000000 0)) :
    Calls Tryd.prog 30 #[u, v] w (NewI w (digs 1000000 (Nat.gcd x 0))) := by
  rw [Nat.gcd_zero_right]
  have HU := Lib.hid hu
  obtain ⟨A, ca, rfl, hca, hA⟩ := hu
  obtain ⟨B, cb, rfl, hcb, hB⟩ := hv
  have h0 : (digs 1000000 0).length = 0 := rfl
  rw [h0] at hB ⊢
  clear h0 hA hB hca hcb
  go_enter Tryd.func30, Tryd.ntmps30
  go_wp2
  go_ret
  exact ⟨_, rfl, HU.out, Below.refl _ _⟩
theorem digs6_le {x y L : Nat} (h : x ≤ y) (hl : (digs 1000000 y).length ≤ L) : (digs 1000000 x).length ≤ L := by
  rcases Nat.lt_or_ge (digs 1000000 y).length (digs 1000000 x).length with h1 | h1
  · have := digs6_shorter h1; omega
  · omega

set_option maxRecDepth 100000 in
set_option maxHeartbeats 1600000 in
theorem refGCD_step {u v : Value} {x y : Nat} {w : World} (hlx : (digs 1000000 x).length ≤ 500) (hly : (digs 1000000 y).length ≤ 500) (hy0 : 0 < y) (hu : LI w u (digs 1000000 x)) (hv : LI w v (digs 1000000 y))
    (ih : ∀ (W : World) (p q : Value), LI W p (digs 1000000 y) → LI W q (digs 1000000 (x % y)) → Calls Tryd.prog 30 #[p, q] W (NewI W (digs 1000000 (Nat.gcd y (x % y))))) :
    Calls Tryd.prog 30 #[u, v] w (NewI w (digs 1000000 (Nat.gcd x y))) := by
  have hg : Hid (Nat.gcd y (x % y) = Nat.gcd x y) := by
    unfold Hid
    rw [Nat.gcd_comm y, ← Nat.gcd_rec, Nat.gcd_comm]
  rw [hg.out] at ih
  have IH := Lib.hid ih
  have HD := Lib.hid (refDivMod_any hlx hly hy0 hu hv)
  have HV := Lib.hid hv
  have hl0 : (((digs 1000000 y).length : Int) == 0) = false := by
    refine beq_eq_false_iff_ne.2 (fun h => ?_)
    have h1 : digs 1000000 y = [] := List.eq_nil_of_length_eq_zero (by omega)
    have h2 := val_digs (b := 1000000) (by omega) y
    rw [h1] at h2
    simp [val] at h2
    omega
  obtain ⟨A, ca, rfl, hca, hA⟩ := hu
  obtain ⟨B, cb, rfl, hcb, hB⟩ := hv
  clear hg ih hA hB
  go_enter Tryd.func30, Tryd.ntmps30
  go_wp2_with fail
  refine HD.out.mono ?_
  rintro e w1 ⟨vq, vr, rfl, hvq, hvr, hb1⟩
  have hv1 := HV.out.below hb1
  clear HD HV hvq
  go_wp2_with fail
  refine (IH.out _ _ _ hv1 hvr).mono ?_
  rintro e w2 ⟨vg, rfl, hvg, hb2⟩
  go_wp2_with fail
  go_ret
  exact ⟨_, rfl, hvg, hb1.trans (hb2.mono hb1.size)⟩
theorem refGCD_any : ∀ (y x : Nat) (u v : Value) (w : World), (digs 1000000 x).length ≤ 500 → (digs 1000000 y).length ≤ 500 → LI w u (digs 1000000 x) → LI w v (digs 1000000 y) →
    Calls Tryd.prog 30 #[u, v] w (NewI w (digs 1000000 (Nat.gcd x y))) := by
  intro y
  induction y using Nat.strongRecOn with
  | ind y ih =>
    intro x u v w hlx hly hu hv
    by_cases h0 : y = 0
    · subst h0
      exact refGCD_zero hu hv
    · exact refGCD_step hlx hly (by omega) hu hv (fun W p q hp hq => ih (x % y) (Nat.mod_lt _ (by omega)) y p q W hly (digs6_le (Nat.le_of_lt (Nat.mod_lt _ (by omega))) hly) hp hq)
end Go.Proofs.YtapblmbjbpkieaaDoor
