/- Contract of the helper awake of layer 1's laws. -/
import Derived.Test.YtdbhlmifioccgaaDoorLaw
namespace Go.Proofs.YtdbhlmifioccgaaDoor
open Go.RowKit

theorem dec_of (ds : List Nat) (k : Nat) (h : ∀ d ∈ ds, d < 10) (hs : strip ds = ds) (hv : val 10 ds = k) (hk : k ≠ 0) : dec k = txt ds := by
  unfold dec
  rw [if_neg hk, ← hv, ← strip_digs (by omega) ds h, hs]
theorem dec_e19 : (⟨(dec (4294967296 * 4294967296)).toArray⟩ : ByteArray) = ⟨#[49, 56, 52, 52, 54, 55, 52, 52, 48, 55, 51, 55, 48, 57, 53, 53, 49, 54, 49, 54]⟩ := by
  rw [dec_of [6, 1, 6, 1, 5, 5, 9, 0, 7, 3, 7, 0, 4, 4, 7, 6, 4, 4, 8, 1] _ (by decide) (by decide) (by decide) (by decide)]
  rfl
theorem dec_e3 : (⟨(dec (17 / 5)).toArray⟩ : ByteArray) = ⟨#[51]⟩ := by
  rw [dec_of [3] _ (by decide) (by decide) (by decide) (by decide)]; rfl
theorem dec_e2 : (⟨(dec (17 % 5)).toArray⟩ : ByteArray) = ⟨#[50]⟩ := by
  rw [dec_of [2] _ (by decide) (by decide) (by decide) (by decide)]; rfl
theorem dec_e6 : (⟨(dec (Nat.gcd 12 18)).toArray⟩ : ByteArray) = ⟨#[54]⟩ := by
  rw [dec_of [6] _ (by decide) (by decide) (by decide) (by decide)]; rfl
theorem bits_65 : (if 4294967296 * 4294967296 = 0 then 0 else (bitsOf (4294967296 * 4294967296) : Int)) = 65 := by
  rw [if_neg (by decide)]
  unfold bitsOf
  have h : digs 4294967296 (4294967296 * 4294967296) = [0, 0, 1] := by
    rw [show (4294967296 * 4294967296 : Nat) = val 4294967296 [0, 0, 1] from rfl, ← strip_digs (by omega) _ (by decide)]
    rfl
  rw [h]
  rfl
theorem no_007 : ¬ isTextB (⟨#[48, 48, 55]⟩ : ByteArray) := by
  intro h
  exact absurd (h.2.1 (by decide) rfl) (by decide)

theorem isNat_digs {w : World} {v : Value} {k : Nat} (h : IsNat w v k) : ∃ A n c, n = (digs 4294967296 k).length ∧ v = .agg #[.slice A n c] := by
  obtain ⟨s, rfl, A, c, rfl, hc, hA⟩ := h
  exact ⟨A, _, c, rfl, rfl⟩
theorem of_new (n k : Nat) (h : n < 18446744073709551616) (hk : n = k) {w : World} : Calls Tryd.prog 33 #[.int .u64 (n : Int)] w (NewN w k) := by
  have := natOf_any (w := w) (n : Int) (by omega) (by omega)
  rw [Int.toNat_natCast, hk] at this
  rw [hk]
  exact this

set_option maxRecDepth 100000 in
set_option maxHeartbeats 4000000 in
theorem awake_any {w : World} (hT : Tab w) :
    Calls Tryd.prog 11 #[] w fun e w' => e = .returned (.bool true) ∧ Below w.heap.size w w' := by
  have h32 := Lib.hid (fun W : World => of_new (w := W) 4294967296 4294967296 (by omega) rfl)
  have h17 := Lib.hid (fun W : World => of_new (w := W) 17 17 (by omega) rfl)
  have h5 := Lib.hid (fun W : World => of_new (w := W) 5 5 (by omega) rfl)
  have h12 := Lib.hid (fun W : World => of_new (w := W) 12 12 (by omega) rfl)
  have h18 := Lib.hid (fun W : World => of_new (w := W) 18 18 (by omega) rfl)
  have hdm := Lib.hid (fun (W : World) u v (hu : IsNat W u 17) (hv : IsNat W v 5) => divMod_small (w := W) (by omega) (by omega) (by omega) hu hv)
  have hgc := Lib.hid (fun (W : World) u v (hu : IsNat W u 12) (hv : IsNat W v 18) => gcd_small (w := W) (by omega) (by omega) (by omega) hu hv)
  have hml := Lib.hid (fun (W : World) u v (hu : IsNat W u 4294967296) (hv : IsNat W v 4294967296) => natMul_any (w := W) (by have := digs_small (k := 4294967296) (by omega); omega) (by have := digs_small (k := 4294967296) (by omega); omega) hu hv)
  have hpb := Lib.hid (fun W : World => parse_bad (w := W) (s := ⟨#[48, 48, 55]⟩) (by decide) no_007)
  have hlb : (digs 4294967296 (4294967296 * 4294967296)).length ≤ 3 := digs_len (by omega) (by decide)
  have hbt := Lib.hid (fun (W : World) v (hv : IsNat W v (4294967296 * 4294967296)) => natBits_any (w := W) (by omega) hv)
  rw [bits_65] at hbt
  have hx1 := Lib.hid (fun (W : World) v (hb : Below w.heap.size w W) (hv : IsNat W v (4294967296 * 4294967296)) => natText_any (w := W) (by omega) (hT.below hb) hv)
  have hx2 := Lib.hid (fun (W : World) v (hb : Below w.heap.size w W) (hv : IsNat W v (17 / 5)) => natText_any (w := W) (by have := digs_small (k := 17 / 5) (by omega); omega) (hT.below hb) hv)
  have hx3 := Lib.hid (fun (W : World) v (hb : Below w.heap.size w W) (hv : IsNat W v (17 % 5)) => natText_any (w := W) (by have := digs_small (k := 17 % 5) (by omega); omega) (hT.below hb) hv)
  have hx4 := Lib.hid (fun (W : World) v (hb : Below w.heap.size w W) (hv : IsNat W v (Nat.gcd 12 18)) => natText_any (w := W) (by have := digs_small (k := Nat.gcd 12 18) (by decide); omega) (hT.below hb) hv)
  unfold str at hx1 hx2 hx3 hx4
  rw [dec_e19] at hx1
  rw [dec_e3] at hx2
  rw [dec_e2] at hx3
  rw [dec_e6] at hx4
  clear hlb hT
  go_enter Tryd.func11, Tryd.ntmps11
  go_wp2_with fail
  refine (h32.out _).mono ?_
  rintro e w1 ⟨vx, rfl, hx, hb1⟩
  obtain ⟨Ax, nx, cx, -, rfl⟩ := isNat_digs hx
  clear h32
  obtain ⟨w2, hw2⟩ : ∃ w2, w1.alloc (.cells #[.slice Ax nx cx] 26) = w2 := ⟨_, rfl⟩
  have hb12 : Below w1.heap.size w1 w2 := by rw [← hw2]; exact (Below.refl _ _).alloc (Nat.le_refl _) _
  have o1 : One w2 w1.heap.size (.slice Ax nx cx) 26 := by rw [← hw2]; exact One.new _ _ _
  have hx2' := hx.below hb12
  have B2 : Below w.heap.size w w2 := hb1.trans (hb12.mono hb1.size)
  clear hx
  go_wp2_with fail
  refine (h17.out _).mono ?_
  rintro e w3 ⟨v17, rfl, hn17, hb3⟩
  obtain ⟨A17, n17, c17, -, rfl⟩ := isNat_digs hn17
  go_wp2_with fail
  refine (h5.out _).mono ?_
  rintro e w4 ⟨v5, rfl, hn5, hb4⟩
  obtain ⟨A5, n5, c5, -, rfl⟩ := isNat_digs hn5
  clear hw2 h17 h5
  go_wp2_with fail
  refine (hdm.out _ _ _ (hn17.below hb4) hn5).mono ?_
  rintro e w5 ⟨vq, vr, rfl, hq, hr, hb5⟩
  obtain ⟨Aq, nq, cq, -, rfl⟩ := isNat_digs hq
  obtain ⟨Ar, nr, cr, -, rfl⟩ := isNat_digs hr
  have b25 : Below w2.heap.size w2 w5 := (hb3.trans (hb4.mono hb3.size)).trans (hb5.mono (hb3.trans (hb4.mono hb3.size)).size)
  clear hn17 hn5 hdm hb3 hb4 hb5
  obtain ⟨w6, hw6⟩ : ∃ w6, (w5.alloc (.cells #[.slice Aq nq cq] 26)).alloc (.cells #[.slice Ar nr cr] 26) = w6 := ⟨_, rfl⟩
  have hb56 : Below w5.heap.size w5 w6 := by rw [← hw6]; exact ((Below.refl _ _).alloc (Nat.le_refl _) _).alloc (by simp) _
  have o2 : One w6 w5.heap.size (.slice Aq nq cq) 26 := by rw [← hw6]; exact (One.new _ _ _).alloc _
  have o3 : One w6 (w5.heap.size + 1) (.slice Ar nr cr) 26 := by
    have := One.new (w5.alloc (.cells #[.slice Aq nq cq] 26)) (.slice Ar nr cr) 26
    rw [hw6] at this
    simpa using this
  have hq6 := hq.below hb56
  have hr6 := hr.below hb56
  have b26 : Below w2.heap.size w2 w6 := b25.trans (hb56.mono b25.size)
  have o16 := o1.step b26
  have hx6 := hx2'.below b26
  have B6 : Below w.heap.size w w6 := B2.trans (b26.mono B2.size)
  clear hq hr b25 b26 hb56 hx2' o1
  go_wp2_with fail
  refine (hpb.out _).mono ?_
  rintro e w7 ⟨rfl, hb7⟩
  clear hw6 hpb
  have hb68 : Below w6.heap.size w6 (w7.alloc (.cells #[.slice none 0 0] 26)) := hb7.alloc hb7.size _
  have P1 := o16.step hb68
  have P2 := o2.step hb68
  have P3 := o3.step hb68
  have hx8 := hx6.below hb68
  have hq8 := hq6.below hb68
  have hr8 := hr6.below hb68
  have B8 := B6.trans (hb68.mono B6.size)
  clear hb68 hb7 o16 o2 o3 hx6 hq6 hr6
  have k1 := P1.cell
  go_wp2_with fail
  generalize hw8 : w7.alloc (.cells #[.slice none 0 0] 26) = w8 at *
  clear hw8
  refine (hml.out _ _ _ hx8 hx8).mono ?_
  rintro e w9 ⟨v9, rfl, hn9, hb9⟩
  obtain ⟨A9, n9, c9, -, rfl⟩ := isNat_digs hn9
  go_wp2_with fail
  refine (hx1.out _ _ (B8.trans (hb9.mono B8.size)) hn9).mono ?_
  rintro e w10 ⟨rfl, hb10⟩
  have b10 : Below w8.heap.size w8 w10 := hb9.trans (hb10.mono hb9.size)
  have k1 := (P1.step b10).cell
  clear hn9 hb9 hb10
  go_wp2_with fail
  refine (hml.out _ _ _ (hx8.below b10) (hx8.below b10)).mono ?_
  rintro e w11 ⟨v11, rfl, hn11, hb11⟩
  obtain ⟨A11, n11, c11, -, rfl⟩ := isNat_digs hn11
  go_wp2_with fail
  refine (hbt.out _ _ hn11).mono ?_
  rintro e w12 ⟨rfl, hb12⟩
  have b12 : Below w8.heap.size w8 w12 := (b10.trans (hb11.mono b10.size)).trans (hb12.mono (b10.trans (hb11.mono b10.size)).size)
  have k2 := (P2.step b12).cell
  clear hn11 hb11 hb12 b10
  go_wp2_with fail
  refine (hx2.out _ _ (B8.trans (b12.mono B8.size)) (hq8.below b12)).mono ?_
  rintro e w13 ⟨rfl, hb13⟩
  have b13 : Below w8.heap.size w8 w13 := b12.trans (hb13.mono b12.size)
  have k3 := (P3.step b13).cell
  clear b12 hb13
  go_wp2_with fail
  refine (hx3.out _ _ (B8.trans (b13.mono B8.size)) (hr8.below b13)).mono ?_
  rintro e w14 ⟨rfl, hb14⟩
  have b14 : Below w8.heap.size w8 w14 := b13.trans (hb14.mono b13.size)
  clear b13 hb14
  go_wp2_with fail
  refine (h12.out _).mono ?_
  rintro e w15 ⟨v12, rfl, hn12, hb15⟩
  obtain ⟨A12, n12, c12, -, rfl⟩ := isNat_digs hn12
  go_wp2_with fail
  refine (h18.out _).mono ?_
  rintro e w16 ⟨v18, rfl, hn18, hb16⟩
  obtain ⟨A18, n18, c18, -, rfl⟩ := isNat_digs hn18
  have b16 : Below w8.heap.size w8 w16 := (b14.trans (hb15.mono b14.size)).trans (hb16.mono (b14.trans (hb15.mono b14.size)).size)
  go_wp2_with fail
  refine (hgc.out _ _ _ (hn12.below hb16) hn18).mono ?_
  rintro e w17 ⟨v6, rfl, hn6, hb17⟩
  obtain ⟨A6, n6, c6, -, rfl⟩ := isNat_digs hn6
  have b17 : Below w8.heap.size w8 w17 := b16.trans (hb17.mono b16.size)
  go_wp2_with fail
  refine (hx4.out _ _ (B8.trans (b17.mono B8.size)) hn6).mono ?_
  rintro e w18 ⟨rfl, hb18⟩
  have B18 := B8.trans ((b17.trans (hb18.mono b17.size)).mono B8.size)
  go_wp2_with fail
  go_ret
  exact ⟨rfl, B18⟩
end Go.Proofs.YtdbhlmifioccgaaDoor
