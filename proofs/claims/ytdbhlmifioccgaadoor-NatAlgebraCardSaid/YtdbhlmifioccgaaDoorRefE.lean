/- Contracts of the reference: Uint64. -/
import Derived.Test.YtdbhlmifioccgaaDoorRowKit
namespace Go.Proofs.YtdbhlmifioccgaaDoor
open Go.RowKit

theorem val_drop_step (b : Nat) (ds : List Nat) (j : Nat) (hj : j < ds.length) : val b (ds.drop j) = ds.getD j 0 + b * val b (ds.drop (j + 1)) := by
  rw [drop_cons ds j hj]; rfl
theorem val_drop_le (b : Nat) (hb : 1 ≤ b) (ds : List Nat) : ∀ j, val b (ds.drop j) ≤ val b ds := by
  intro j
  rcases Nat.lt_or_ge j ds.length with h | h
  · have h1 := val_append b (ds.take j) (ds.drop j)
    rw [List.take_append_drop] at h1
    have h2 : 1 ≤ b ^ (ds.take j).length := Nat.one_le_pow _ _ hb
    have h3 : 1 * val b (ds.drop j) ≤ b ^ (ds.take j).length * val b (ds.drop j) := Nat.mul_le_mul_right _ h2
    omega
  · rw [List.drop_of_length_le h]; simp [val]

set_option maxRecDepth 100000 in
set_option maxHeartbeats 2000000 in
theorem refUint64_any {v : Value} {k : Nat} {w : World} (hlen : (digs 1000000 k).length ≤ 100000) (hv : LI w v (digs 1000000 k)) :
    Calls Tryd.prog 32 #[v] w fun e w' => e = U64Spec k ∧ w' = w := by
  obtain ⟨A, c, rfl, hc, hA⟩ := hv
  obtain ⟨ds, hds⟩ : ∃ ds, ds = digs 1000000 k := ⟨_, rfl⟩
  have HD : Hid (∀ d ∈ ds, d < 1000000) := by rw [hds]; exact digs_lt (by omega) k
  have HV : Hid (val 1000000 ds = k) := by rw [hds]; exact val_digs (by omega) k
  rw [← hds] at hlen hc hA ⊢
  have HA := Lib.hid hA
  clear hds hA
  go_enter Tryd.func32, Tryd.ntmps32
  go_wp2
  go_loop [4, 5, 6] (fun n i _ => ∃ nn j : Nat, n = .int .u64 nn ∧ i = .int .i64 ((j : Int) - 1) ∧ j ≤ ds.length ∧ nn < 18446744073709551616 ∧ Hid (nn = val 1000000 (ds.drop j))) (fun _ i _ => (intOf i + 1).toNat)
  case atStart => exact ⟨0, ds.length, rfl, rfl, by omega, by omega, by unfold Hid; rw [List.drop_length]; rfl⟩
  case round =>
    obtain ⟨nn, j, rfl, rfl, hj, hnn, HN⟩ := hrel
    by_cases hj0 : 0 < j
    · obtain ⟨i, rfl⟩ : ∃ i, j = i + 1 := ⟨j - 1, by omega⟩
      obtain ⟨a, rfl, hab, hcell0⟩ := HA.out i (by omega)
      obtain ⟨g, hg⟩ : ∃ g, g = ds.getD i 0 := ⟨_, rfl⟩
      have hg1 : g < 1000000 := by rw [hg]; exact getD_lt HD.out i (by omega)
      have hst : val 1000000 (ds.drop i) = g + 1000000 * nn := by rw [val_drop_step 1000000 ds i (by omega), ← hg, ← HN.out]
      have hcell : w.cell? (a.add i) = some (.int .i64 g) := by rw [hcell0, hg]; rfl
      have hle := val_drop_le 1000000 (by omega) ds i
      rw [HV.out, hst] at hle
      have HST := Lib.hid hst
      have he0 : ((i + 1 : Nat) : Int) - 1 = (i : Int) := by omega
      have he1 : ((i : Int)).toNat = i := Int.toNat_natCast i
      have hgw : IntKind.u64.wrap (g : Int) = (g : Int) := IntWalk.u64_in _ ⟨by omega, by omega⟩
      have hgs : IntKind.u64.wrap (18446744073709551615 - (g : Int)) = 18446744073709551615 - (g : Int) := IntWalk.u64_in _ ⟨by omega, by omega⟩
      rw [he0]
      by_cases hbig : (18446744073709551615 - g) / 1000000 < nn
      · have hsp : U64Spec k = .returned (.tuple #[.int .u64 0, .bool false]) := by unfold U64Spec; rw [if_neg (by omega)]
        have HSP := Lib.hid hsp
        have hq : (18446744073709551615 - (g : Int)) / 1000000 < (nn : Int) := by omega
        clear hg hst hcell0 hle hsp he0 hbig
        go_wp2
        go_ret2
        exact ⟨HSP.out.symm, rfl⟩
      · have hq : ¬ (18446744073709551615 - (g : Int)) / 1000000 < (nn : Int) := by omega
        have hm1 : IntKind.u64.wrap ((nn : Int) * 1000000) = (nn : Int) * 1000000 := IntWalk.u64_in _ ⟨by omega, by omega⟩
        have hm2 : IntKind.u64.wrap ((nn : Int) * 1000000 + (g : Int)) = (nn : Int) * 1000000 + (g : Int) := IntWalk.u64_in _ ⟨by omega, by omega⟩
        have hfit : g + 1000000 * nn < 18446744073709551616 := by omega
        clear hg hst hcell0 hle he0 hbig
        go_wp2
        refine ⟨⟨nn * 1000000 + g, i, by rw [Int.natCast_add, Int.natCast_mul]; rfl, rfl, by omega, by omega, ?_⟩, ?_⟩
        · unfold Hid
          rw [HST.out]
          omega
        · show ((i : Int) - 1 + 1).toNat < ((i : Int) + 1).toNat
          omega
    · obtain rfl : j = 0 := by omega
      have hkn : nn = k := by rw [HN.out, ← HV.out]; rfl
      subst hkn
      have hsp : U64Spec nn = .returned (.tuple #[.int .u64 (nn : Int), .bool true]) := by unfold U64Spec; rw [if_pos hnn]
      have HSP := Lib.hid hsp
      clear hsp
      go_wp2
      go_ret2
      exact ⟨HSP.out.symm, rfl⟩
end Go.Proofs.YtdbhlmifioccgaaDoor
