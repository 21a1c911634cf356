/- The walk of the law NatBits. -/
import Derived.Test.YtapblmbjbpkieaaDoorRefF
namespace Go.Proofs.YtapblmbjbpkieaaDoor
open Go.RowKit

theorem bl_le : ∀ (m k : Nat), k < 2 ^ m → bl k ≤ m
  | 0, k, h => by obtain rfl : k = 0 := by simp at h; exact h
                  exact Nat.le_refl _
  | m + 1, k, h => by
    by_cases h0 : k = 0
    · subst h0; rw [bl_zero]; omega
    · rw [bl_half k (by omega)]
      have := bl_le m (k / 2) (by rw [Nat.pow_succ] at h; omega)
      omega
theorem bl_le32 (k m : Nat) (h : k < 4294967296 ^ m) : bl k ≤ 32 * m := by
  have e : (4294967296 : Nat) = 2 ^ 32 := rfl
  rw [e, ← Nat.pow_mul] at h
  exact bl_le _ _ h
theorem u64Spec_form (k : Nat) : ∃ (a : Nat) (b : Bool), U64Spec k = .returned (.tuple #[.int .u64 (a : Int), .bool b]) := by
  unfold U64Spec
  by_cases h : k < 18446744073709551616
  · rw [if_pos h]; exact ⟨k, true, rfl⟩
  · rw [if_neg h]; exact ⟨0, false, rfl⟩

set_option maxRecDepth 100000 in
set_option maxHeartbeats 4000000 in
theorem lawBits_small {v : Value} {ds : List Nat} {n : Nat} {w : World} (hn : n < 18446744073709551616) (hlen : ds.length ≤ 12) (hd : ∀ d ∈ ds, d < 4294967296) (hT : Tab w) (hv : LA w v ds) :
    Calls Tryd.prog 8 #[.int .u64 (n : Int), v] w fun e w' => e = .returned (.bool true) ∧ Below w.heap.size w w' := by
  have hk : val 4294967296 ds < 4294967296 ^ 12 := Nat.lt_of_lt_of_le (val_lt ds hd) (Nat.pow_le_pow_right (by omega) hlen)
  have hNu := Lib.hid (fun (W : World) (hb : Below w.heap.size w W) => number_any (w := W) hlen hd (hv.below hb))
  obtain ⟨k, hk0⟩ : ∃ k, k = val 4294967296 ds := ⟨_, rfl⟩
  rw [← hk0] at hk hNu
  have hd6 := digs6_len hk
  have hd2 : (digs 4294967296 k).length ≤ 12 := digs_len (by omega) hk
  have hblk : bl k ≤ 32 * 12 := bl_le32 k 12 hk
  have hbln : bl n ≤ 32 * 2 := bl_le32 n 2 hn
  have hn2 := digs_small hn
  have hn6 : (digs 1000000 n).length ≤ 4 := digs_len (by omega) (by omega)
  have hU := Lib.hid (fun (W : World) (v : Value) (h : IsNat W v k) => uint64_any (w := W) (by omega) h)
  have hRU := Lib.hid (fun (W : World) (v : Value) (h : LI W v (digs 1000000 k)) => refUint64_any (w := W) (by omega) h)
  obtain ⟨ka, kb, hkab⟩ := u64Spec_form k
  rw [hkab] at hU hRU
  have hUn := Lib.hid (fun (W : World) (v : Value) (h : IsNat W v n) => uint64_any (w := W) (by omega) h)
  have hsn : U64Spec n = .returned (.tuple #[.int .u64 (n : Int), .bool true]) := by unfold U64Spec; rw [if_pos hn]
  rw [hsn] at hUn
  have hOf := Lib.hid (fun (W : World) => of_new n n hn rfl (w := W))
  have hRO := Lib.hid (fun (W : World) => refOf_any (w := W) (n : Int) (by omega) (by omega))
  rw [Int.toNat_natCast] at hRO
  have hBt := Lib.hid (fun (W : World) (v : Value) (h : IsNat W v n) => natBits_any (w := W) (by omega) h)
  rw [bits_any] at hBt
  have hBk := Lib.hid (fun (W : World) (v : Value) (h : IsNat W v k) => natBits_any (w := W) (by omega) h)
  rw [bits_any] at hBk
  have hRBn := Lib.hid (fun (W : World) (v : Value) (h : LI W v (digs 1000000 n)) => refBits_any (w := W) (by omega) (by omega) h)
  have hRBk := Lib.hid (fun (W : World) (v : Value) (h : LI W v (digs 1000000 k)) => refBits_any (w := W) (by omega) (by omega) h)
  obtain ⟨zb, hzb⟩ : ∃ zb, decide (k = 0) = zb := ⟨_, rfl⟩
  obtain ⟨nb, hnb⟩ : ∃ nb, decide (n = 0) = nb := ⟨_, rfl⟩
  have hIk := Lib.hid (fun (W : World) (v : Value) (h : IsNat W v k) => isZero_any (w := W) (by omega) h)
  have hIn := Lib.hid (fun (W : World) (v : Value) (h : IsNat W v n) => isZero_any (w := W) (by omega) h)
  rw [hzb] at hIk
  rw [hnb] at hIn
  have hLiff : (((digs 1000000 k).length : Nat) : Int) = 0 ↔ k = 0 := by
    constructor
    · intro h
      apply Classical.byContradiction
      intro h0
      rw [digs_pos 1000000 k (by omega) (by omega)] at h
      simp at h
      omega
    · intro h; subst h; rw [digs_zero]; rfl
  have hL2 : ((((digs 1000000 k).length : Nat) : Int) == 0) = zb := by
    rw [← hzb]
    by_cases h0 : k = 0
    · rw [hLiff.2 h0]; simp [h0]
    · rw [decide_eq_false h0]; exact beq_eq_false_iff_ne.2 (fun h => h0 (hLiff.1 h))
  have hN2 : ((n : Int) == 0) = nb := by
    rw [← hnb]
    by_cases h0 : n = 0
    · subst h0; rfl
    · rw [decide_eq_false h0]; exact beq_eq_false_iff_ne.2 (by omega)
  have hIs := Lib.hid (fun (W : World) (u v : Value) (hb : Below w.heap.size w W) (hu : IsNat W u n) (h : LI W v (digs 1000000 n)) => is_any (w := W) (by omega) (by omega) (hT.below hb) hu h)
  have hbe : (dec n == dec n) = true := by simp
  rw [hbe] at hIs
  have hAw := awake_any hT
  obtain ⟨A, c, rfl, hA⟩ := hv
  have hSm := Lib.hid (fun W : World => small_any (w := W) (a := .slice A ds.length c) (b := .slice none 0 0) rfl rfl (by omega) (by omega))
  have hsm1 : (decide (ds.length ≤ 12) && decide (0 ≤ 12)) = true := by simp [hlen]
  rw [hsm1] at hSm
  clear hk hd hk0 hd6 hd2 hA hT hbe hsm1 hkab hsn hzb hnb hLiff hblk hbln hn2 hn6
  go_enter Tryd.func8, Tryd.ntmps8
  go_wp2_with fail
  refine hAw.mono ?_
  rintro e w1 ⟨rfl, hb1⟩
  clear hAw
  go_wp2_with fail
  refine (hSm.out _).mono ?_
  rintro e w1' ⟨rfl, rfl⟩
  go_wp2_with fail
  refine (hNu.out _ hb1).mono ?_
  rintro e w2 ⟨vn, vr, rfl, hn0, hr0, hb2⟩
  obtain ⟨An, nn, cn, -, rfl⟩ := isNat_digs hn0
  obtain ⟨Ar, cr, rfl, hcr, hAr⟩ := hr0
  have hr0 : LI w2 (.slice Ar (digs 1000000 k).length cr) (digs 1000000 k) := ⟨_, _, rfl, hcr, hAr⟩
  have B2 := hb1.trans (hb2.mono hb1.size)
  obtain ⟨w3, hw3⟩ : ∃ w3, w2.alloc (.cells #[.slice An nn cn] 26) = w3 := ⟨_, rfl⟩
  have hb23 : Below w2.heap.size w2 w3 := by rw [← hw3]; exact (Below.refl _ _).alloc (Nat.le_refl _) _
  have o3 : One w3 w2.heap.size (.slice An nn cn) 26 := by rw [← hw3]; exact One.new _ _ _
  have hx3 := hn0.below hb23
  have hu3 := hr0.below hb23
  have B3 := B2.trans (hb23.mono B2.size)
  have k3 := o3.cell
  clear hn0 hr0 hb2 hb23 hNu hSm hAr hcr
  go_wp2_with fail
  clear hw3
  refine (hU.out _ _ hx3).mono ?_
  rintro e w4 ⟨rfl, b4⟩
  go_wp2_with fail
  refine (hRU.out _ _ (hu3.below b4)).mono ?_
  rintro e w4' ⟨rfl, rfl⟩
  go_wp2_with fail
  refine (hOf.out _).mono ?_
  rintro e w5 ⟨v5, rfl, hn5, hb5⟩
  obtain ⟨A5, n5, c5, -, rfl⟩ := isNat_digs hn5
  have b5 := b4.trans (hb5.mono b4.size)
  go_wp2_with fail
  refine (hUn.out _ _ hn5).mono ?_
  rintro e w6 ⟨rfl, hb6⟩
  have b6 := b5.trans (hb6.mono b5.size)
  clear hn5 hb5 hb6 b5 b4
  go_wp2_with fail
  refine (hOf.out _).mono ?_
  rintro e w7 ⟨v7, rfl, hn7, hb7⟩
  obtain ⟨A7, n7, c7, -, rfl⟩ := isNat_digs hn7
  go_wp2_with fail
  refine (hRO.out _).mono ?_
  rintro e w8 ⟨v8, rfl, hr8, hb8⟩
  have b8 := (b6.trans (hb7.mono b6.size)).trans (hb8.mono (b6.trans (hb7.mono b6.size)).size)
  go_wp2_with fail
  refine (hIs.out _ _ _ (B3.trans (b8.mono B3.size)) (hn7.below hb8) hr8).mono ?_
  rintro e w9 ⟨rfl, hb9⟩
  have b9 := b8.trans (hb9.mono b8.size)
  clear hn7 hr8 hb7 hb8 hb9 b8 b6
  go_wp2_with fail
  refine (hOf.out _).mono ?_
  rintro e w10 ⟨v10, rfl, hn10, hb10⟩
  obtain ⟨A10, n10, c10, -, rfl⟩ := isNat_digs hn10
  go_wp2_with fail
  refine (hBt.out _ _ hn10).mono ?_
  rintro e w11 ⟨rfl, hb11⟩
  have b11 := (b9.trans (hb10.mono b9.size)).trans (hb11.mono (b9.trans (hb10.mono b9.size)).size)
  clear hn10 hb10 hb11 b9
  go_wp2_with fail
  refine (hRO.out _).mono ?_
  rintro e w12 ⟨v12, rfl, hr12, hb12⟩
  go_wp2_with fail
  refine (hRBn.out _ _ hr12).mono ?_
  rintro e w13 ⟨rfl, hb13⟩
  have b13 := (b11.trans (hb12.mono b11.size)).trans (hb13.mono (b11.trans (hb12.mono b11.size)).size)
  have k3 := (o3.step b13).cell
  clear hr12 hb12 hb13 b11
  go_wp2_with fail
  refine (hBk.out _ _ (hx3.below b13)).mono ?_
  rintro e w14 ⟨rfl, hb14⟩
  have b14 := b13.trans (hb14.mono b13.size)
  go_wp2_with fail
  refine (hRBk.out _ _ (hu3.below b14)).mono ?_
  rintro e w15 ⟨rfl, hb15⟩
  have b15 := b14.trans (hb15.mono b14.size)
  have k3 := (o3.step b15).cell
  clear b13 b14 hb14 hb15
  go_wp2_with fail
  refine (hIk.out _ _ (hx3.below b15)).mono ?_
  rintro e w16 ⟨rfl, hb16⟩
  have b16 := b15.trans (hb16.mono b15.size)
  go_wp2_with fail
  refine (hOf.out _).mono ?_
  rintro e w17 ⟨v17, rfl, hn17, hb17⟩
  obtain ⟨A17, n17, c17, -, rfl⟩ := isNat_digs hn17
  go_wp2_with fail
  refine (hIn.out _ _ hn17).mono ?_
  rintro e w18 ⟨rfl, hb18⟩
  have b18 := (b16.trans (hb17.mono b16.size)).trans (hb18.mono (b16.trans (hb17.mono b16.size)).size)
  have B18 := B3.trans (b18.mono B3.size)
  go_wp2_with fail
  go_ret
  exact ⟨rfl, B18⟩

set_option maxRecDepth 100000 in
theorem lawBits_large {A : Option Addr} {n c : Nat} {x : Value} {w : World} (hlen : 12 < n) (hn : n ≤ 9223372036854775807) (hT : Tab w) :
    Calls Tryd.prog 8 #[x, .slice A n c] w fun e w' => e = .returned (.bool true) ∧ Below w.heap.size w w' := by
  have hAw := awake_any hT
  have hSm := Lib.hid (fun W : World => small_any (w := W) (a := .slice A n c) (b := .slice none 0 0) rfl rfl hn (by omega))
  have hsm1 : (decide (n ≤ 12) && decide (0 ≤ 12)) = false := by simp; omega
  rw [hsm1] at hSm
  clear hT hsm1
  go_enter Tryd.func8, Tryd.ntmps8
  go_wp2_with fail
  refine hAw.mono ?_
  rintro e w1 ⟨rfl, hb1⟩
  clear hAw
  go_wp2_with fail
  refine (hSm.out _).mono ?_
  rintro e w1' ⟨rfl, rfl⟩
  go_wp2_with fail
  go_ret
  exact ⟨rfl, hb1⟩
end Go.Proofs.YtapblmbjbpkieaaDoor
