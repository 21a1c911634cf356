/- The walk of the law NatText. -/
import Derived.Test.YtapblmbjbpkieaaDoorAwake
namespace Go.Proofs.YtapblmbjbpkieaaDoor
open Go.RowKit

theorem dec_zero : (⟨(dec 0).toArray⟩ : ByteArray) = ⟨#[48]⟩ := rfl
theorem cmpI_self (k : Nat) : cmpI k k = 0 := by unfold cmpI; simp

set_option maxRecDepth 100000 in
set_option maxHeartbeats 4000000 in
theorem lawText_small {v : Value} {ds : List Nat} {w : World} (hlen : ds.length ≤ 12) (hd : ∀ d ∈ ds, d < 4294967296) (hT : Tab w) (hv : LA w v ds) :
    Calls Tryd.prog 3 #[v] w fun e w' => e = .returned (.bool true) ∧ Below w.heap.size w w' := by
  have hk : val 4294967296 ds < 4294967296 ^ 12 := Nat.lt_of_lt_of_le (val_lt ds hd) (Nat.pow_le_pow_right (by omega) hlen)
  have hNu := Lib.hid (fun (W : World) (hb : Below w.heap.size w W) => number_any (w := W) hlen hd (hv.below hb))
  obtain ⟨k, hk0⟩ : ∃ k, k = val 4294967296 ds := ⟨_, rfl⟩
  rw [← hk0] at hk hNu
  have hd6 := digs6_len hk
  have hd2 : (digs 4294967296 k).length ≤ 12 := digs_len (by omega) hk
  have hd4 : (dec k).length ≤ 116 := dec_len12 hk
  have hTx := Lib.hid (fun (W : World) (v : Value) (hb : Below w.heap.size w W) (h : IsNat W v k) => natText_any (w := W) (by omega) (hT.below hb) h)
  have hTz := Lib.hid (fun (W : World) (hb : Below w.heap.size w W) => natText_any (w := W) (by rw [digs_zero]; simp) (hT.below hb) (isNat_zero W))
  have hIz := Lib.hid (fun (W : World) => isZero_any (w := W) (by rw [digs_zero]; simp) (isNat_zero W))
  have hIs := Lib.hid (fun (W : World) (u v : Value) (hb : Below w.heap.size w W) (hu : IsNat W u k) (h : LI W v (digs 1000000 k)) => is_any (w := W) (by omega) (by omega) (hT.below hb) hu h)
  have hCm := Lib.hid (fun (W : World) (u v : Value) (hu : IsNat W u k) (hv : IsNat W v k) => cmp_any (w := W) (by omega) (by omega) hu hv)
  have hP := Lib.hid (fun (W : World) => parse_ok (s := ⟨(dec k).toArray⟩) (w := W) (dec_isText k) (by simp [ByteArray.size]; omega))
  have hnd : numL (⟨(dec k).toArray⟩ : ByteArray).data.toList = k := numL_dec k
  rw [hnd] at hP
  rw [cmpI_self] at hCm
  have hbe : (dec k == dec k) = true := by simp
  rw [hbe] at hIs
  have hde : decide ((0 : Nat) = 0) = true := rfl
  rw [hde] at hIz
  unfold str at hTz hTx
  rw [dec_zero] at hTz
  have hAw := awake_any hT
  obtain ⟨A, c, rfl, hA⟩ := hv
  have hSm := Lib.hid (fun W : World => small_any (w := W) (a := .slice A ds.length c) (b := .slice none 0 0) rfl rfl (by omega) (by omega))
  have hsm1 : (decide (ds.length ≤ 12) && decide (0 ≤ 12)) = true := by simp [hlen]
  rw [hsm1] at hSm
  clear hk hd hnd hk0 hd6 hd4 hd2 hA hT hbe hde hsm1
  go_enter Tryd.func3, Tryd.ntmps3
  go_wp2_with fail
  refine hAw.mono ?_
  rintro e w1 ⟨rfl, hb1⟩
  clear hAw
  go_wp2_with fail
  refine (hSm.out _).mono ?_
  rintro e w1' ⟨rfl, rfl⟩
  go_wp2_with fail
  refine (hNu.out _ hb1).mono ?_
  rintro e w2 ⟨vn, vr, rfl, hn, hr, hb2⟩
  obtain ⟨An, nn, cn, -, rfl⟩ := isNat_digs hn
  have B2 := hb1.trans (hb2.mono hb1.size)
  obtain ⟨w3, hw3⟩ : ∃ w3, w2.alloc (.cells #[.slice An nn cn] 26) = w3 := ⟨_, rfl⟩
  have hb23 : Below w2.heap.size w2 w3 := by rw [← hw3]; exact (Below.refl _ _).alloc (Nat.le_refl _) _
  have o3 : One w3 w2.heap.size (.slice An nn cn) 26 := by rw [← hw3]; exact One.new _ _ _
  have hn3 := hn.below hb23
  have hr3 := hr.below hb23
  have B3 := B2.trans (hb23.mono B2.size)
  have k3 := o3.cell
  clear hn hr hb2 hb23 hNu hSm
  go_wp2_with fail
  clear hw3
  refine (hTx.out _ _ B3 hn3).mono ?_
  rintro e w4 ⟨rfl, hb4⟩
  go_wp2_with fail
  refine (hP.out _).mono ?_
  rintro e w5 ⟨vm, rfl, hm, hb5⟩
  obtain ⟨Am, nm, cm, -, rfl⟩ := isNat_digs hm
  have hb35 := hb4.trans (hb5.mono hb4.size)
  obtain ⟨w6, hw6⟩ : ∃ w6, w5.alloc (.cells #[.slice Am nm cm] 26) = w6 := ⟨_, rfl⟩
  have hb56 : Below w5.heap.size w5 w6 := by rw [← hw6]; exact (Below.refl _ _).alloc (Nat.le_refl _) _
  have hs6 : w6.heap.size = w5.heap.size + 1 := by rw [← hw6]; simp
  have o5 : One w6 w5.heap.size (.slice Am nm cm) 26 := by rw [← hw6]; exact One.new _ _ _
  have hm6 := hm.below hb56
  have b36 := hb35.trans (hb56.mono hb35.size)
  have b37 := b36.alloc b36.size (.cells #[.slice none 0 0] 26)
  have b67 : Below w6.heap.size w6 (w6.alloc (.cells #[.slice none 0 0] 26)) := (Below.refl _ _).alloc (Nat.le_refl _) _
  have P3 := o3.step b37
  have P5 := o5.step b67
  have P7 := One.new w6 (.slice none 0 0) 26
  have hn7 := hn3.below b37
  have hr7 := hr3.below b37
  have hm7 := hm6.below b67
  have B7 := B3.trans (b37.mono B3.size)
  have k3 := P3.cell
  clear b67 b37 b36 hm6 o5 hb56 hb35 hn3 hr3 o3 hb5 hb4 hP hTx hm
  go_wp2_with fail
  rw [hs6] at P7
  clear hw6 hs6
  generalize hw7 : w6.alloc (.cells #[.slice none 0 0] 26) = w7 at *
  clear hw7 k3
  refine (hIs.out _ _ _ B7 hn7 hr7).mono ?_
  rintro e w8 ⟨rfl, hb8⟩
  have k3 := (P3.step hb8).cell
  have k5 := (P5.step hb8).cell
  go_wp2_with fail
  refine (hCm.out _ _ _ (hm7.below hb8) (hn7.below hb8)).mono ?_
  rintro e w9 ⟨rfl, hb9⟩
  have b9 := hb8.trans (hb9.mono hb8.size)
  have k7 := (P7.step b9).cell
  go_wp2_with fail
  refine (hTz.out _ (B7.trans (b9.mono B7.size))).mono ?_
  rintro e w10 ⟨rfl, hb10⟩
  have b10 := b9.trans (hb10.mono b9.size)
  have k7 := (P7.step b10).cell
  go_wp2_with fail
  refine (hIz.out _).mono ?_
  rintro e w11 ⟨rfl, hb11⟩
  have b11 := b10.trans (hb11.mono b10.size)
  have B11 := B7.trans (b11.mono B7.size)
  go_wp2_with fail
  go_ret
  exact ⟨rfl, B11⟩

set_option maxRecDepth 100000 in
theorem lawText_large {A : Option Addr} {n c : Nat} {w : World} (hlen : 12 < n) (hn : n ≤ 9223372036854775807) (hT : Tab w) :
    Calls Tryd.prog 3 #[.slice A n c] w fun e w' => e = .returned (.bool true) ∧ Below w.heap.size w w' := by
  have hAw := awake_any hT
  have hSm := Lib.hid (fun W : World => small_any (w := W) (a := .slice A n c) (b := .slice none 0 0) rfl rfl hn (by omega))
  have hsm1 : (decide (n ≤ 12) && decide (0 ≤ 12)) = false := by simp; omega
  rw [hsm1] at hSm
  clear hT hsm1
  go_enter Tryd.func3, Tryd.ntmps3
  go_wp2_with fail
  refine hAw.mono ?_
  rintro e w1 ⟨rfl, hb1⟩
  clear hAw
  go_wp2_with fail
  refine (hSm.out _).mono ?_
  rintro e w1' ⟨rfl, rfl⟩
  go_wp2_with fail
  go_ret
  exact ⟨rfl, hb1⟩
end Go.Proofs.YtapblmbjbpkieaaDoor
