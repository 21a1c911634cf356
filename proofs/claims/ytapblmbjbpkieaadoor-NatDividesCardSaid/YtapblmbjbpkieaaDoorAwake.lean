/- Contracts of the helpers of layer 1's laws: small, number, is, same. Contract of the helper awake of layer 1's laws. -/
import Derived.Test.YtapblmbjbpkieaaDoorGcd
namespace Go.Proofs.YtapblmbjbpkieaaDoor
open Go.RowKit

def NumPost (w : World) (k : Nat) (e : Ending) (w' : World) : Prop := ∃ vn vr, e = .returned (.tuple #[vn, vr]) ∧ IsNat w' vn k ∧ LI w' vr (digs 1000000 k) ∧ Below w.heap.size w w'
theorem dec_len12 {k : Nat} (h : k < 4294967296 ^ 12) : (dec k).length ≤ 116 := (dec_len k 116 (by omega) (Nat.lt_of_lt_of_le h (by decide))).1
theorem LI.far {w : World} {v : Value} {ds : List Nat} (h : LI w v ds) {p : Addr} {P : Option Addr} {m n : Nat} (hp : w.cell? p = some (.slice P m n)) (u : Value) : LI (w.setCell p u) v ds := by
  obtain ⟨A, c, h1, h2, h3⟩ := h
  refine ⟨A, c, h1, h2, fun i hi => ?_⟩
  obtain ⟨a, ha, hlt, hcell⟩ := h3 i hi
  refine ⟨a, ha, by simpa using hlt, (World.cell?_setCell_other w p _ u ?_).trans hcell⟩
  intro e
  rw [← e, hp] at hcell
  simp [i64f] at hcell

set_option maxRecDepth 100000 in
set_option maxHeartbeats 2000000 in
theorem number_any {v : Value} {ds : List Nat} {w : World} (hlen : ds.length ≤ 12) (hd : ∀ d ∈ ds, d < 4294967296) (hv : LA w v ds) :
    Calls Tryd.prog 13 #[v] w (NumPost w (val 4294967296 ds)) := by
  have hk : val 4294967296 ds < 4294967296 ^ 12 := Nat.lt_of_lt_of_le (val_lt ds hd) (Nat.pow_le_pow_right (by omega) hlen)
  have hMk := Lib.hid (fun (W : World) (hb : Below w.heap.size w W) => make_any (w := W) hlen hd (hv.below hb))
  obtain ⟨k, hk0⟩ : ∃ k, k = val 4294967296 ds := ⟨_, rfl⟩
  rw [← hk0] at hk hMk ⊢
  have hd6 := digs6_len hk
  have hd4 : (dec k).length ≤ 116 := dec_len12 hk
  have hT := Lib.hid (fun (W : World) (v : Value) (h : LI W v (digs 1000000 k)) => refText_any (w := W) (by omega) h)
  have hP := Lib.hid (fun (W : World) => parse_ok (s := ⟨(dec k).toArray⟩) (w := W) (dec_isText k) (by simp [ByteArray.size]; omega))
  have hnd : numL (⟨(dec k).toArray⟩ : ByteArray).data.toList = k := numL_dec k
  rw [hnd] at hP
  obtain ⟨A, c, rfl, hA⟩ := hv
  have hb0 : Below w.heap.size w (w.alloc (.cells #[.slice none 0 0] 26)) := (Below.refl _ w).alloc (Nat.le_refl _) _
  have o2 := One.new w (.slice none 0 0) 26
  clear hk hd hnd hk0 hd6 hd4 hA
  go_enter Tryd.func13, Tryd.ntmps13
  go_wp2_with fail
  refine (hMk.out _ hb0).mono ?_
  rintro e w1 ⟨v1, rfl, hl1, hb1⟩
  have o21 := o2.step hb1
  have hbw1 := hb0.trans (hb1.mono hb0.size)
  go_wp2_with fail
  refine (hT.out _ _ hl1).mono ?_
  rintro e w2 ⟨rfl, hb2⟩
  unfold str
  have o22 := o21.step hb2
  have hbw2 := hbw1.trans (hb2.mono hbw1.size)
  go_wp2_with fail
  refine (hP.out _).mono ?_
  rintro e w3 ⟨v3, rfl, ⟨s3, rfl, A3, c3, rfl, hc3, hA3⟩, hb3⟩
  have hbw3 := hbw2.trans (hb3.mono hbw2.size)
  have hl3 := (hl1.below hb2).below hb3
  have o23 := o22.step hb3
  obtain ⟨w4, hw4⟩ : ∃ w4, w3.alloc (.cells #[.slice A3 (digs 4294967296 k).length c3] 26) = w4 := ⟨_, rfl⟩
  have hb34 : Below w3.heap.size w3 w4 := by rw [← hw4]; exact (Below.refl _ _).alloc (Nat.le_refl _) _
  have o5 : One w4 w3.heap.size (.slice A3 (digs 4294967296 k).length c3) 26 := by rw [← hw4]; exact One.new _ _ _
  have o24 := o23.step hb34
  have c5 := o5.cell
  have f2 := o24.frozen
  have c2 := o24.cell
  have hl4 := hl3.below hb34
  have hN4 : IsNat w4 (.agg #[.slice A3 (digs 4294967296 k).length c3]) k := IsNat.below ⟨_, rfl, A3, c3, rfl, hc3, hA3⟩ hb34
  have hbw4 := hbw3.trans (hb34.mono hbw3.size)
  go_wp2_with fail
  have r2 := o24.set_ (.slice A3 (digs 4294967296 k).length c3)
  refine bodyPost_ret (v := .tuple #[.agg #[.slice A3 (digs 4294967296 k).length c3], v1]) (by simp [results, Tryd.results13, go_sem, r2.cell]) rfl ?_
  exact ⟨_, _, rfl, hN4.far (p := ⟨w.heap.size, 0, none⟩) o24.row (by decide) _, hl4.far c2 _, hbw4.setCell (Nat.le_refl _) _⟩

set_option maxRecDepth 100000 in
set_option maxHeartbeats 2000000 in
theorem is_any {u v : Value} {k j : Nat} {w : World} (hlk : (digs 4294967296 k).length ≤ 1000) (hlj : (digs 1000000 j).length ≤ 1000) (hT : Tab w) (hu : IsNat w u k) (hv : LI w v (digs 1000000 j)) :
    Calls Tryd.prog 16 #[u, v] w fun e w' => e = .returned (.bool (dec k == dec j)) ∧ Below w.heap.size w w' := by
  have hTx := Lib.hid (fun (W : World) (hb : Below w.heap.size w W) => natText_any (w := W) hlk (hT.below hb) (hu.below hb))
  have hRt := Lib.hid (fun (W : World) (hb : Below w.heap.size w W) => refText_any (w := W) hlj (hv.below hb))
  obtain ⟨s, rfl, A, c, rfl, hc, hA⟩ := hu
  have hb0 : Below w.heap.size w (w.alloc (.cells #[.slice A (digs 4294967296 k).length c] 26)) := (Below.refl _ w).alloc (Nat.le_refl _) _
  have hq : ((⟨(dec k).toArray⟩ : ByteArray) == ⟨(dec j).toArray⟩) = (dec k == dec j) := by
    show ((dec k).toArray == (dec j).toArray) = _
    simp
  clear hA hc hlk hlj hT hv
  go_enter Tryd.func16, Tryd.ntmps16
  go_wp2_with fail
  refine (hTx.out _ hb0).mono ?_
  rintro e w1 ⟨rfl, hb1⟩
  have hbw1 := hb0.trans (hb1.mono hb0.size)
  unfold str
  go_wp2_with fail
  refine (hRt.out _ hbw1).mono ?_
  rintro e w2 ⟨rfl, hb2⟩
  unfold str
  go_wp2_with fail
  go_ret
  exact ⟨rfl, hbw1.trans (hb2.mono hbw1.size)⟩

set_option maxRecDepth 100000 in
theorem small_any {a b : Value} {A B : Option Addr} {n m ca cb : Nat} {w : World} (ha : a = .slice A n ca) (hb : b = .slice B m cb) (hn : n ≤ 9223372036854775807) (hm : m ≤ 9223372036854775807) :
    Calls Tryd.prog 12 #[a, b] w fun e w' => e = .returned (.bool (decide (n ≤ 12) && decide (m ≤ 12))) ∧ w' = w := by
  subst ha hb
  by_cases h1 : n ≤ 12
  · by_cases h2 : m ≤ 12
    · go_enter Tryd.func12, Tryd.ntmps12
      go_wp2
      go_ret
      simp [h1, h2]
      omega
    · go_enter Tryd.func12, Tryd.ntmps12
      go_wp2
      go_ret
      simp [h1, h2]
      omega
  · go_enter Tryd.func12, Tryd.ntmps12
    go_wp2
    go_ret
    simp
end Go.Proofs.YtapblmbjbpkieaaDoor

namespace Go.Proofs.YtapblmbjbpkieaaDoor
open Go.RowKit

theorem dec_of (ds : List Nat) (k : Nat) (h : ∀ d ∈ ds, d < 10) (hs : strip ds = ds) (hv : val 10 ds = k) (hk : k ≠ 0) : dec k = txt ds := by
  unfold dec
  rw [if_neg hk, ← hv, ← strip_digs (by omega) ds h, hs]
theorem dec_e19 : (⟨(dec (4294967296 * 4294967296)).toArray⟩ : ByteArray) = ⟨#[49, 56, 52, 52, 54, 55, 52, 52, 48, 55, 51, 55, 48, 57, 53, 53, 49, 54, 49, 54]⟩ := by
  rw [dec_of [6, 1, 6, 1, 5, 5, 9, 0, 7, 3, 7, 0, 4, 4, 7, 6, 4, 4, 8, 1] _ (by decide) (by decide) (by decide) (by decide)]
  rfl
theorem dec_e3 : (⟨(dec (17 / 5)).toArray⟩ : ByteArray) = ⟨#[51]⟩ := by
  rw [dec_of [3] _ (by decide) (by decide) (by decide) (by decide)]; rfl
theorem dec_e2 : (⟨(dec (17 % 5)).toArray⟩ : ByteArray) = ⟨#[50]⟩ := by
  rw [dec_of [2] _ (by decide) (by decide) (by decide) (by decide)]; rfl
theorem dec_e6 : (⟨(dec (Nat.gcd 12 18)).toArray⟩ : ByteArray) = ⟨#[54]⟩ := by
  rw [dec_of [6] _ (by decide) (by decide) (by decide) (by decide)]; rfl
theorem bits_65 : (if 4294967296 * 4294967296 = 0 then 0 else (bitsOf (4294967296 * 4294967296) : Int)) = 65 := by
  rw [if_neg (by decide)]
  unfold bitsOf
  have h : digs 4294967296 (4294967296 * 4294967296) = [0, 0, 1] := by
    rw [show (4294967296 * 4294967296 : Nat) = val 4294967296 [0, 0, 1] from rfl, ← strip_digs (by omega) _ (by decide)]
    rfl
  rw [h]
  rfl
theorem no_007 : ¬ isTextB (⟨#[48, 48, 55]⟩ : ByteArray) := by
  intro h
  exact absurd (h.2.1 (by decide) rfl) (by decide)

theorem isNat_digs {w : World} {v : Value} {k : Nat} (h : IsNat w v k) : ∃ A n c, n = (digs 4294967296 k).length ∧ v = .agg #[.slice A n c] := by
  obtain ⟨s, rfl, A, c, rfl, hc, hA⟩ := h
  exact ⟨A, _, c, rfl, rfl⟩
theorem of_new (n k : Nat) (h : n < 18446744073709551616) (hk : n = k) {w : World} : Calls Tryd.prog 33 #[.int .u64 (n : Int)] w (NewN w k) := by
  have := natOf_any (w := w) (n : Int) (by omega) (by omega)
  rw [Int.toNat_natCast, hk] at this
  rw [hk]
  exact this

set_option maxRecDepth 100000 in
set_option maxHeartbeats 4000000 in
theorem awake_any {w : World} (hT : Tab w) :
    Calls Tryd.prog 11 #[] w fun e w' => e = .returned (.bool true) ∧ Below w.heap.size w w' := by
  have h32 := Lib.hid (fun W : World => of_new (w := W) 4294967296 4294967296 (by omega) rfl)
  have h17 := Lib.hid (fun W : World => of_new (w := W) 17 17 (by omega) rfl)
  have h5 := Lib.hid (fun W : World => of_new (w := W) 5 5 (by omega) rfl)
  have h12 := Lib.hid (fun W : World => of_new (w := W) 12 12 (by omega) rfl)
  have h18 := Lib.hid (fun W : World => of_new (w := W) 18 18 (by omega) rfl)
  have hdm := Lib.hid (fun (W : World) u v (hu : IsNat W u 17) (hv : IsNat W v 5) => divMod_small (w := W) (by omega) (by omega) (by omega) hu hv)
  have hgc := Lib.hid (fun (W : World) u v (hu : IsNat W u 12) (hv : IsNat W v 18) => gcd_small (w := W) (by omega) (by omega) (by omega) hu hv)
  have hml := Lib.hid (fun (W : World) u v (hu : IsNat W u 4294967296) (hv : IsNat W v 4294967296) => natMul_any (w := W) (by have := digs_small (k := 4294967296) (by omega); omega) (by have := digs_small (k := 4294967296) (by omega); omega) hu hv)
  have hpb := Lib.hid (fun W : World => parse_bad (w := W) (s := ⟨#[48, 48, 55]⟩) (by decide) no_007)
  have hlb : (digs 4294967296 (4294967296 * 4294967296)).length ≤ 3 := digs_len (by omega) (by decide)
  have hbt := Lib.hid (fun (W : World) v (hv : IsNat W v (4294967296 * 4294967296)) => natBits_any (w := W) (by omega) hv)
  rw [bits_65] at hbt
  have hx1 := Lib.hid (fun (W : World) v (hb : Below w.heap.size w W) (hv : IsNat W v (4294967296 * 4294967296)) => natText_any (w := W) (by omega) (hT.below hb) hv)
  have hx2 := Lib.hid (fun (W : World) v (hb : Below w.heap.size w W) (hv : IsNat W v (17 / 5)) => natText_any (w := W) (by have := digs_small (k := 17 / 5) (by omega); omega) (hT.below hb) hv)
  have hx3 := Lib.hid (fun (W : World) v (hb : Below w.heap.size w W) (hv : IsNat W v (17 % 5)) => natText_any (w := W) (by have := digs_small (k := 17 % 5) (by omega); omega) (hT.below hb) hv)
  have hx4 := Lib.hid (fun (W : World) v (hb : Below w.heap.size w W) (hv : IsNat W v (Nat.gcd 12 18)) => natText_any (w := W) (by have := digs_small (k := Nat.gcd 12 18) (by decide); omega) (hT.below hb) hv)
  unfold str at hx1 hx2 hx3 hx4
  rw [dec_e19] at hx1
  rw [dec_e3] at hx2
  rw [dec_e2] at hx3
  rw [dec_e6] at hx4
  clear hlb hT
  go_enter Tryd.func11, Tryd.ntmps11
  go_wp2_with fail
  refine (h32.out _).mono ?_
  rintro e w1 ⟨vx, rfl, hx, hb1⟩
  obtain ⟨Ax, nx, cx, -, rfl⟩ := isNat_digs hx
  clear h32
  obtain ⟨w2, hw2⟩ : ∃ w2, w1.alloc (.cells #[.slice Ax nx cx] 26) = w2 := ⟨_, rfl⟩
  have hb12 : Below w1.heap.size w1 w2 := by rw [← hw2]; exact (Below.refl _ _).alloc (Nat.le_refl _) _
  have o1 : One w2 w1.heap.size (.slice Ax nx cx) 26 := by rw [← hw2]; exact One.new _ _ _
  have hx2' := hx.below hb12
  have B2 : Below w.heap.size w w2 := hb1.trans (hb12.mono hb1.size)
  clear hx
  go_wp2_with fail
  refine (h17.out _).mono ?_
  rintro e w3 ⟨v17, rfl, hn17, hb3⟩
  obtain ⟨A17, n17, c17, -, rfl⟩ := isNat_digs hn17
  go_wp2_with fail
  refine (h5.out _).mono ?_
  rintro e w4 ⟨v5, rfl, hn5, hb4⟩
  obtain ⟨A5, n5, c5, -, rfl⟩ := isNat_digs hn5
  clear hw2 h17 h5
  go_wp2_with fail
  refine (hdm.out _ _ _ (hn17.below hb4) hn5).mono ?_
  rintro e w5 ⟨vq, vr, rfl, hq, hr, hb5⟩
  obtain ⟨Aq, nq, cq, -, rfl⟩ := isNat_digs hq
  obtain ⟨Ar, nr, cr, -, rfl⟩ := isNat_digs hr
  have b25 : Below w2.heap.size w2 w5 := (hb3.trans (hb4.mono hb3.size)).trans (hb5.mono (hb3.trans (hb4.mono hb3.size)).size)
  clear hn17 hn5 hdm hb3 hb4 hb5
  obtain ⟨w6, hw6⟩ : ∃ w6, (w5.alloc (.cells #[.slice Aq nq cq] 26)).alloc (.cells #[.slice Ar nr cr] 26) = w6 := ⟨_, rfl⟩
  have hb56 : Below w5.heap.size w5 w6 := by rw [← hw6]; exact ((Below.refl _ _).alloc (Nat.le_refl _) _).alloc (by simp) _
  have o2 : One w6 w5.heap.size (.slice Aq nq cq) 26 := by rw [← hw6]; exact (One.new _ _ _).alloc _
  have o3 : One w6 (w5.heap.size + 1) (.slice Ar nr cr) 26 := by
    have := One.new (w5.alloc (.cells #[.slice Aq nq cq] 26)) (.slice Ar nr cr) 26
    rw [hw6] at this
    simpa using this
  have hq6 := hq.below hb56
  have hr6 := hr.below hb56
  have b26 : Below w2.heap.size w2 w6 := b25.trans (hb56.mono b25.size)
  have o16 := o1.step b26
  have hx6 := hx2'.below b26
  have B6 : Below w.heap.size w w6 := B2.trans (b26.mono B2.size)
  clear hq hr b25 b26 hb56 hx2' o1
  go_wp2_with fail
  refine (hpb.out _).mono ?_
  rintro e w7 ⟨rfl, hb7⟩
  clear hw6 hpb
  have hb68 : Below w6.heap.size w6 (w7.alloc (.cells #[.slice none 0 0] 26)) := hb7.alloc hb7.size _
  have P1 := o16.step hb68
  have P2 := o2.step hb68
  have P3 := o3.step hb68
  have hx8 := hx6.below hb68
  have hq8 := hq6.below hb68
  have hr8 := hr6.below hb68
  have B8 := B6.trans (hb68.mono B6.size)
  clear hb68 hb7 o16 o2 o3 hx6 hq6 hr6
  have k1 := P1.cell
  go_wp2_with fail
  generalize hw8 : w7.alloc (.cells #[.slice none 0 0] 26) = w8 at *
  clear hw8
  refine (hml.out _ _ _ hx8 hx8).mono ?_
  rintro e w9 ⟨v9, rfl, hn9, hb9⟩
  obtain ⟨A9, n9, c9, -, rfl⟩ := isNat_digs hn9
  go_wp2_with fail
  refine (hx1.out _ _ (B8.trans (hb9.mono B8.size)) hn9).mono ?_
  rintro e w10 ⟨rfl, hb10⟩
  have b10 : Below w8.heap.size w8 w10 := hb9.trans (hb10.mono hb9.size)
  have k1 := (P1.step b10).cell
  clear hn9 hb9 hb10
  go_wp2_with fail
  refine (hml.out _ _ _ (hx8.below b10) (hx8.below b10)).mono ?_
  rintro e w11 ⟨v11, rfl, hn11, hb11⟩
  obtain ⟨A11, n11, c11, -, rfl⟩ := isNat_digs hn11
  go_wp2_with fail
  refine (hbt.out _ _ hn11).mono ?_
  rintro e w12 ⟨rfl, hb12⟩
  have b12 : Below w8.heap.size w8 w12 := (b10.trans (hb11.mono b10.size)).trans (hb12.mono (b10.trans (hb11.mono b10.size)).size)
  have k2 := (P2.step b12).cell
  clear hn11 hb11 hb12 b10
  go_wp2_with fail
  refine (hx2.out _ _ (B8.trans (b12.mono B8.size)) (hq8.below b12)).mono ?_
  rintro e w13 ⟨rfl, hb13⟩
  have b13 : Below w8.heap.size w8 w13 := b12.trans (hb13.mono b12.size)
  have k3 := (P3.step b13).cell
  clear b12 hb13
  go_wp2_with fail
  refine (hx3.out _ _ (B8.trans (b13.mono B8.size)) (hr8.below b13)).mono ?_
  rintro e w14 ⟨rfl, hb14⟩
  have b14 : Below w8.heap.size w8 w14 := b13.trans (hb14.mono b13.size)
  clear b13 hb14
  go_wp2_with fail
  refine (h12.out _).mono ?_
  rintro e w15 ⟨v12, rfl, hn12, hb15⟩
  obtain ⟨A12, n12, c12, -, rfl⟩ := isNat_digs hn12
  go_wp2_with fail
  refine (h18.out _).mono ?_
  rintro e w16 ⟨v18, rfl, hn18, hb16⟩
  obtain ⟨A18, n18, c18, -, rfl⟩ := isNat_digs hn18
  have b16 : Below w8.heap.size w8 w16 := (b14.trans (hb15.mono b14.size)).trans (hb16.mono (b14.trans (hb15.mono b14.size)).size)
  go_wp2_with fail
  refine (hgc.out _ _ _ (hn12.below hb16) hn18).mono ?_
  rintro e w17 ⟨v6, rfl, hn6, hb17⟩
  obtain ⟨A6, n6, c6, -, rfl⟩ := isNat_digs hn6
  have b17 : Below w8.heap.size w8 w17 := b16.trans (hb17.mono b16.size)
  go_wp2_with fail
  refine (hx4.out _ _ (B8.trans (b17.mono B8.size)) hn6).mono ?_
  rintro e w18 ⟨rfl, hb18⟩
  have B18 := B8.trans ((b17.trans (hb18.mono b17.size)).mono B8.size)
  go_wp2_with fail
  go_ret
  exact ⟨rfl, B18⟩
end Go.Proofs.YtapblmbjbpkieaaDoor
