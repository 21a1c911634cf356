/- The walk of the law NatQuotients. -/
import Derived.Test.YtapblmbjbpkieaaDoorGcdM
import Derived.Test.YtapblmbjbpkieaaDoorRefL
import Derived.Test.YtapblmbjbpkieaaDoorLawSums
namespace Go.Proofs.YtapblmbjbpkieaaDoor
open Go.RowKit

set_option maxRecDepth 100000 in
set_option maxHeartbeats 2000000 in
theorem divMod_zero {u v : Value} {x : Nat} {w : World} (hu : IsNat w u x) (hv : IsNat w v 0) :
    Calls Tryd.prog 27 #[u, v] w fun e w' => e = .returned (.tuple #[.agg #[.slice none 0 0], .agg #[.slice none 0 0], .int .i64 10]) ∧ Below w.heap.size w w' := by
  obtain ⟨s, rfl, A, ca, rfl, hca, hA⟩ := hu
  obtain ⟨t, rfl, B, cb, rfl, hcb, hB⟩ := hv
  obtain ⟨n, hn⟩ : ∃ n, n = (digs 4294967296 x).length := ⟨_, rfl⟩
  obtain ⟨m, hm⟩ : ∃ m, m = (digs 4294967296 0).length := ⟨_, rfl⟩
  obtain ⟨w4, hw4, hb4, o1, o2, o3, o4⟩ := dm_boxes w A B n ca m cb
  have hyB : IsNat w4 (.agg #[.slice B m cb]) 0 := ⟨_, rfl, B, cb, by rw [hm], hcb, hB.step hb4⟩
  have hz := isZero_any (w := w4) (by simp [digs_zero]) hyB
  rw [decide_eq_true rfl] at hz
  rw [← hn] at hca hA ⊢
  rw [← hm] at hcb hB ⊢
  clear hA hB hn hm hyB
  have d2 := o2.cell
  go_enter Tryd.func27, Tryd.ntmps27
  go_wp2_with fail
  clear hw4
  refine hz.mono ?_
  rintro e w5 ⟨rfl, hb5⟩
  have p3 := o3.step hb5
  have p4 := o4.step hb5
  have c3 := p3.cell
  have c4 := p4.cell
  have f3 := p3.frozen
  have f4 := p4.frozen
  clear hz
  go_wp2_with fail
  have r3 := (p3.set_ (.slice none 0 0)).far (p := ⟨w.heap.size + 1 + 1 + 1, 0, none⟩) (by show w.heap.size + 1 + 1 ≠ w.heap.size + 1 + 1 + 1; omega) (.slice none 0 0)
  have r4 := (p4.far (p := ⟨w.heap.size + 1 + 1, 0, none⟩) (by show w.heap.size + 1 + 1 + 1 ≠ w.heap.size + 1 + 1; omega) (.slice none 0 0)).set_ (.slice none 0 0)
  refine bodyPost_ret (v := .tuple #[.agg #[.slice none 0 0], .agg #[.slice none 0 0], .int .i64 10]) (by simp [results, Tryd.results27, go_sem, r3.cell, r4.cell]) rfl ?_
  exact ⟨rfl, (((hb4.trans (hb5.mono hb4.size)).setCell (by show w.heap.size ≤ w.heap.size + 1 + 1; omega) _).setCell (by show w.heap.size ≤ w.heap.size + 1 + 1 + 1; omega) _)⟩

def remN (x y : Nat) : Nat := if y = 0 then 0 else x % y
def divE (y : Nat) : Int := if y = 0 then 10 else 0
def QuoN (w : World) (q r : Nat) (E : Int) (e : Ending) (w' : World) : Prop := ∃ A n c B m c2, e = .returned (.tuple #[.agg #[.slice A n c], .agg #[.slice B m c2], .int .i64 E]) ∧ IsNat w' (.agg #[.slice A n c]) q ∧ IsNat w' (.agg #[.slice B m c2]) r ∧ Below w.heap.size w w'
def QuoR (w : World) (q r : Nat) (E : Int) (e : Ending) (w' : World) : Prop := ∃ u v, e = .returned (.tuple #[u, v, .int .i64 E]) ∧ LI w' u (digs 1000000 q) ∧ LI w' v (digs 1000000 r) ∧ Below w.heap.size w w'
theorem natQuo_any {u v : Value} {x y : Nat} {w : World} (hlx : (digs 4294967296 x).length ≤ 1000) (hly : (digs 4294967296 y).length ≤ 1000) (hu : IsNat w u x) (hv : IsNat w v y) :
    Calls Tryd.prog 27 #[u, v] w (QuoN w (x / y) (remN x y) (divE y)) := by
  unfold remN divE
  by_cases h : y = 0
  · subst h
    rw [if_pos rfl, if_pos rfl, Nat.div_zero]
    refine (divMod_zero hu hv).mono ?_
    rintro e w' ⟨rfl, hb⟩
    exact ⟨_, _, _, _, _, _, rfl, isNat_zero _, isNat_zero _, hb⟩
  · rw [if_neg h, if_neg h]
    refine (divMod_any (by omega) (by omega) (by omega) hu hv).mono ?_
    rintro e w' ⟨vq, vr, rfl, hq, hr, hb⟩
    obtain ⟨A, n, c, -, rfl⟩ := isNat_digs hq
    obtain ⟨B, m, c2, -, rfl⟩ := isNat_digs hr
    exact ⟨_, _, _, _, _, _, rfl, hq, hr, hb⟩
theorem refQuo_any {u v : Value} {x y : Nat} {w : World} (hlx : (digs 1000000 x).length ≤ 500) (hly : (digs 1000000 y).length ≤ 500) (hu : LI w u (digs 1000000 x)) (hv : LI w v (digs 1000000 y)) :
    Calls Tryd.prog 28 #[u, v] w (QuoR w (x / y) (remN x y) (divE y)) := by
  unfold remN divE
  by_cases h : y = 0
  · subst h
    rw [if_pos rfl, if_pos rfl, Nat.div_zero]
    refine (refDivMod_zero hu hv).mono ?_
    rintro e w' ⟨rfl, rfl⟩
    exact ⟨_, _, rfl, ⟨none, 0, rfl, Nat.le_refl _, Cells.zero⟩, ⟨none, 0, rfl, Nat.le_refl _, Cells.zero⟩, Below.refl _ _⟩
  · rw [if_neg h, if_neg h]
    refine (refDivMod_any hlx hly (by omega) hu hv).mono ?_
    rintro e w' ⟨vq, vr, rfl, hq, hr, hb⟩
    exact ⟨_, _, rfl, hq, hr, hb⟩
theorem rem_le (x y : Nat) : remN x y ≤ x := by
  unfold remN
  split
  · omega
  · exact Nat.mod_le _ _
theorem gcd_lt {x y p : Nat} (hx : x < p) (hy : y < p) : Nat.gcd x y < p := by
  rcases Nat.eq_zero_or_pos x with rfl | h
  · rw [Nat.gcd_zero_left]; exact hy
  · exact Nat.lt_of_le_of_lt (Nat.le_of_dvd h (Nat.gcd_dvd_left _ _)) hx

set_option maxRecDepth 100000 in
set_option maxHeartbeats 4000000 in
theorem lawQuo_small {u v : Value} {ds es : List Nat} {w : World} (hl1 : ds.length ≤ 12) (hl2 : es.length ≤ 12) (hd : ∀ d ∈ ds, d < 4294967296) (he : ∀ d ∈ es, d < 4294967296) (hT : Tab w) (hu : LA w u ds) (hv : LA w v es) :
    Calls Tryd.prog 7 #[u, v] w fun e w' => e = .returned (.bool true) ∧ Below w.heap.size w w' := by
  have hk : val 4294967296 ds < 4294967296 ^ 12 := Nat.lt_of_lt_of_le (val_lt ds hd) (Nat.pow_le_pow_right (by omega) hl1)
  have hj : val 4294967296 es < 4294967296 ^ 12 := Nat.lt_of_lt_of_le (val_lt es he) (Nat.pow_le_pow_right (by omega) hl2)
  have hNu := Lib.hid (fun (W : World) (hb : Below w.heap.size w W) => number_any (w := W) hl1 hd (hu.below hb))
  have hNv := Lib.hid (fun (W : World) (hb : Below w.heap.size w W) => number_any (w := W) hl2 he (hv.below hb))
  obtain ⟨k, hk0⟩ : ∃ k, k = val 4294967296 ds := ⟨_, rfl⟩
  rw [← hk0] at hk hNu
  obtain ⟨j, hj0⟩ : ∃ j, j = val 4294967296 es := ⟨_, rfl⟩
  rw [← hj0] at hj hNv
  have hq : k / j < 4294967296 ^ 12 := Nat.lt_of_le_of_lt (Nat.div_le_self _ _) hk
  have hr : remN k j < 4294967296 ^ 12 := Nat.lt_of_le_of_lt (rem_le _ _) hk
  have hg : Nat.gcd k j < 4294967296 ^ 12 := gcd_lt hk hj
  have hd6 := digs6_len hk
  have he6 := digs6_len hj
  have hq6 := digs6_len hq
  have hr6 := digs6_len hr
  have hg6 := digs6_len hg
  have hd2 : (digs 4294967296 k).length ≤ 12 := digs_len (by omega) hk
  have he2 : (digs 4294967296 j).length ≤ 12 := digs_len (by omega) hj
  have hq2 : (digs 4294967296 (k / j)).length ≤ 12 := digs_len (by omega) hq
  have hr2 : (digs 4294967296 (remN k j)).length ≤ 12 := digs_len (by omega) hr
  have hg2 : (digs 4294967296 (Nat.gcd k j)).length ≤ 12 := digs_len (by omega) hg
  have hDm := Lib.hid (fun (W : World) (u v : Value) (hu : IsNat W u k) (hv : IsNat W v j) => natQuo_any (w := W) (by omega) (by omega) hu hv)
  have hRd := Lib.hid (fun (W : World) (u v : Value) (hu : LI W u (digs 1000000 k)) (hv : LI W v (digs 1000000 j)) => refQuo_any (w := W) (by omega) (by omega) hu hv)
  have hGc := Lib.hid (fun (W : World) (u v : Value) (hu : IsNat W u k) (hv : IsNat W v j) => gcd_any (w := W) (by omega) (by omega) hu hv)
  have hRg := Lib.hid (fun (W : World) (u v : Value) (hu : LI W u (digs 1000000 k)) (hv : LI W v (digs 1000000 j)) => refGCD_any j k u v W (by omega) (by omega) hu hv)
  have hIq := Lib.hid (fun (W : World) (u v : Value) (hb : Below w.heap.size w W) (hu : IsNat W u (k / j)) (h : LI W v (digs 1000000 (k / j))) => is_any (w := W) (by omega) (by omega) (hT.below hb) hu h)
  have hIr := Lib.hid (fun (W : World) (u v : Value) (hb : Below w.heap.size w W) (hu : IsNat W u (remN k j)) (h : LI W v (digs 1000000 (remN k j))) => is_any (w := W) (by omega) (by omega) (hT.below hb) hu h)
  have hIg := Lib.hid (fun (W : World) (u v : Value) (hb : Below w.heap.size w W) (hu : IsNat W u (Nat.gcd k j)) (h : LI W v (digs 1000000 (Nat.gcd k j))) => is_any (w := W) (by omega) (by omega) (hT.below hb) hu h)
  have hbq : (dec (k / j) == dec (k / j)) = true := by simp
  have hbr : (dec (remN k j) == dec (remN k j)) = true := by simp
  have hbg : (dec (Nat.gcd k j) == dec (Nat.gcd k j)) = true := by simp
  rw [hbq] at hIq
  rw [hbr] at hIr
  rw [hbg] at hIg
  obtain ⟨E, hE⟩ : ∃ E, divE j = E := ⟨_, rfl⟩
  rw [hE] at hDm hRd
  obtain ⟨Q, hQ⟩ : ∃ Q, k / j = Q := ⟨_, rfl⟩
  obtain ⟨R, hR⟩ : ∃ R, remN k j = R := ⟨_, rfl⟩
  obtain ⟨G, hG⟩ : ∃ G, Nat.gcd k j = G := ⟨_, rfl⟩
  rw [hQ] at hDm hRd hIq
  rw [hR] at hDm hRd hIr
  rw [hG] at hGc hRg hIg
  have hAw := awake_any hT
  obtain ⟨A, c, rfl, hA⟩ := hu
  obtain ⟨B, c2, rfl, hB⟩ := hv
  have hSm := Lib.hid (fun W : World => small_any (w := W) (a := .slice A ds.length c) (b := .slice B es.length c2) rfl rfl (by omega) (by omega))
  have hsm1 : (decide (ds.length ≤ 12) && decide (es.length ≤ 12)) = true := by simp [hl1, hl2]
  rw [hsm1] at hSm
  clear hk hj hq hr hg hd he hk0 hj0 hd6 he6 hq6 hr6 hg6 hd2 he2 hq2 hr2 hg2 hA hB hT hbq hbr hbg hsm1 hE hQ hR hG
  go_enter Tryd.func7, Tryd.ntmps7
  go_wp2_with fail
  refine hAw.mono ?_
  rintro e w1 ⟨rfl, hb1⟩
  clear hAw
  go_wp2_with fail
  refine (hSm.out _).mono ?_
  rintro e w1' ⟨rfl, rfl⟩
  go_wp2_with fail
  refine (hNu.out _ hb1).mono ?_
  rintro e w2 ⟨vn, vr, rfl, hn, hr, hb2⟩
  obtain ⟨An, nn, cn, -, rfl⟩ := isNat_digs hn
  have B2 := hb1.trans (hb2.mono hb1.size)
  obtain ⟨w3, hw3⟩ : ∃ w3, w2.alloc (.cells #[.slice An nn cn] 26) = w3 := ⟨_, rfl⟩
  have hb23 : Below w2.heap.size w2 w3 := by rw [← hw3]; exact (Below.refl _ _).alloc (Nat.le_refl _) _
  have o3 : One w3 w2.heap.size (.slice An nn cn) 26 := by rw [← hw3]; exact One.new _ _ _
  have hn3 := hn.below hb23
  have hr3 := hr.below hb23
  have B3 := B2.trans (hb23.mono B2.size)
  have k3 := o3.cell
  clear hn hr hb2 hb23 hNu hSm
  go_wp2_with fail
  clear hw3
  refine (hNv.out _ B3).mono ?_
  rintro e w4 ⟨vm, vs, rfl, hm, hs, hb4⟩
  obtain ⟨Am, nm, cm, -, rfl⟩ := isNat_digs hm
  obtain ⟨w5, hw5⟩ : ∃ w5, w4.alloc (.cells #[.slice Am nm cm] 26) = w5 := ⟨_, rfl⟩
  have hb45 : Below w4.heap.size w4 w5 := by rw [← hw5]; exact (Below.refl _ _).alloc (Nat.le_refl _) _
  have o5 : One w5 w4.heap.size (.slice Am nm cm) 26 := by rw [← hw5]; exact One.new _ _ _
  have hb35 := hb4.trans (hb45.mono hb4.size)
  have hm5 := hm.below hb45
  have hs5 := hs.below hb45
  have hn5 := hn3.below hb35
  have hr5 := hr3.below hb35
  replace o3 := o3.step hb35
  have B5 := B3.trans (hb35.mono B3.size)
  replace k3 := o3.cell
  have k5 := o5.cell
  clear hn3 hr3 hm hs hb4 hb45 hb35 hNv
  go_wp2_with fail
  clear hw5
  refine (hDm.out _ _ _ hn5 hm5).mono ?_
  rintro e w6 ⟨Aq, nq, cq, Ar, nr, cr, rfl, hq6, hr6, hb6⟩
  obtain ⟨w7, hw7⟩ : ∃ w7, ((w6.alloc (.cells #[.slice Aq nq cq] 26)).alloc (.cells #[.slice Ar nr cr] 26)) = w7 := ⟨_, rfl⟩
  have hb67 : Below w6.heap.size w6 w7 := by rw [← hw7]; exact ((Below.refl _ _).alloc (Nat.le_refl _) _).alloc (by simp) _
  have o7 : One w7 w6.heap.size (.slice Aq nq cq) 26 := by rw [← hw7]; exact (One.new _ _ _).alloc _
  have o8 : One w7 (w6.heap.size + 1) (.slice Ar nr cr) 26 := by
    have := One.new (w6.alloc (.cells #[.slice Aq nq cq] 26)) (.slice Ar nr cr) 26
    rw [hw7] at this
    simpa using this
  have hb57 := hb6.trans (hb67.mono hb6.size)
  have hq7 := hq6.below hb67
  have hr7' := hr6.below hb67
  have hn7 := hn5.below hb57
  have hr7 := hr5.below hb57
  have hm7 := hm5.below hb57
  have hs7 := hs5.below hb57
  replace o3 := o3.step hb57
  replace o5 := o5.step hb57
  have B7 := B5.trans (hb57.mono B5.size)
  clear hq6 hr6 hb6 hb67 hn5 hr5 hm5 hs5 hb57 k3 k5 hDm
  go_wp2_with fail
  clear hw7
  refine (hRd.out _ _ _ hr7 hs7).mono ?_
  rintro e w8 ⟨vq, vt, rfl, hq8, ht8, hb8⟩
  have k7 := (o7.step hb8).cell
  clear hRd
  go_wp2_with fail
  refine (hIq.out _ _ _ (B7.trans (hb8.mono B7.size)) (hq7.below hb8) hq8).mono ?_
  rintro e w9 ⟨rfl, hb9⟩
  have b9 := hb8.trans (hb9.mono hb8.size)
  have ht9 := ht8.below hb9
  have k8 := (o8.step b9).cell
  clear hIq k7 hq8 ht8
  go_wp2_with fail
  refine (hIr.out _ _ _ (B7.trans (b9.mono B7.size)) (hr7'.below b9) ht9).mono ?_
  rintro e w10 ⟨rfl, hb10⟩
  have b10 := b9.trans (hb10.mono b9.size)
  have k3 := (o3.step b10).cell
  have k5 := (o5.step b10).cell
  clear hIr k8 ht9
  go_wp2_with fail
  refine (hGc.out _ _ _ (hn7.below b10) (hm7.below b10)).mono ?_
  rintro e w11 ⟨vg, rfl, hg11, hb11⟩
  have b11 := b10.trans (hb11.mono b10.size)
  clear hGc
  go_wp2_with fail
  refine (hRg.out _ _ _ (hr7.below b11) (hs7.below b11)).mono ?_
  rintro e w12 ⟨vh, rfl, hh12, hb12⟩
  have b12 := b11.trans (hb12.mono b11.size)
  clear hRg
  go_wp2_with fail
  refine (hIg.out _ _ _ (B7.trans (b12.mono B7.size)) (hg11.below hb12) hh12).mono ?_
  rintro e w13 ⟨rfl, hb13⟩
  have b13 := b12.trans (hb13.mono b12.size)
  go_wp2_with fail
  go_ret
  exact ⟨rfl, B7.trans (b13.mono B7.size)⟩

set_option maxRecDepth 100000 in
theorem lawQuo_large {A B : Option Addr} {n m c c2 : Nat} {w : World} (hlen : 12 < n ∨ 12 < m) (hn : n ≤ 9223372036854775807) (hm : m ≤ 9223372036854775807) (hT : Tab w) :
    Calls Tryd.prog 7 #[.slice A n c, .slice B m c2] w fun e w' => e = .returned (.bool true) ∧ Below w.heap.size w w' := by
  have hAw := awake_any hT
  have hSm := Lib.hid (fun W : World => small_any (w := W) (a := .slice A n c) (b := .slice B m c2) rfl rfl hn hm)
  have hsm1 : (decide (n ≤ 12) && decide (m ≤ 12)) = false := by simp; omega
  rw [hsm1] at hSm
  clear hT hsm1
  go_enter Tryd.func7, Tryd.ntmps7
  go_wp2_with fail
  refine hAw.mono ?_
  rintro e w1 ⟨rfl, hb1⟩
  clear hAw
  go_wp2_with fail
  refine (hSm.out _).mono ?_
  rintro e w1' ⟨rfl, rfl⟩
  go_wp2_with fail
  go_ret
  exact ⟨rfl, hb1⟩
end Go.Proofs.YtapblmbjbpkieaaDoor
