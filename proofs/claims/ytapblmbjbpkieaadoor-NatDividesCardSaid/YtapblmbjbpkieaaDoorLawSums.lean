/- The walk of the law NatSums. -/
import Derived.Test.YtapblmbjbpkieaaDoorRefI
import Derived.Test.YtapblmbjbpkieaaDoorLawProd
namespace Go.Proofs.YtapblmbjbpkieaaDoor
open Go.RowKit

def DiffN (w : World) (k : Nat) (E : Int) (e : Ending) (w' : World) : Prop := ∃ A n c, e = .returned (.tuple #[.agg #[.slice A n c], .int .i64 E]) ∧ IsNat w' (.agg #[.slice A n c]) k ∧ Below w.heap.size w w'
def DiffR (w : World) (k : Nat) (E : Int) (e : Ending) (w' : World) : Prop := ∃ v, e = .returned (.tuple #[v, .int .i64 E]) ∧ LI w' v (digs 1000000 k) ∧ Below w.heap.size w w'
def subE (x y : Nat) : Int := if x < y then 2 else 0
theorem natSub_any {u v : Value} {x y : Nat} {w : World} (hlx : (digs 4294967296 x).length ≤ 1000) (hly : (digs 4294967296 y).length ≤ 1000) (hu : IsNat w u x) (hv : IsNat w v y) :
    Calls Tryd.prog 20 #[u, v] w (DiffN w (x - y) (subE x y)) := by
  unfold subE
  by_cases h : x < y
  · rw [if_pos h, show x - y = 0 by omega]
    refine (natSub_less hlx hly h hu hv).mono ?_
    rintro e w' ⟨rfl, hb⟩
    exact ⟨_, _, _, rfl, isNat_zero _, hb⟩
  · rw [if_neg h]
    refine (natSub_ge hlx hly (by omega) hu hv).mono ?_
    rintro e w' ⟨v, rfl, hv, hb⟩
    obtain ⟨A, n, c, -, rfl⟩ := isNat_digs hv
    exact ⟨_, _, _, rfl, hv, hb⟩
theorem refSub_any {u v : Value} {x y : Nat} {w : World} (hlx : (digs 1000000 x).length ≤ 1000) (hly : (digs 1000000 y).length ≤ 1000) (hu : LI w u (digs 1000000 x)) (hv : LI w v (digs 1000000 y)) :
    Calls Tryd.prog 21 #[u, v] w (DiffR w (x - y) (subE x y)) := by
  unfold subE
  by_cases h : x < y
  · rw [if_pos h, show x - y = 0 by omega]
    refine (refSub_less hlx hly h hu hv).mono ?_
    rintro e w' ⟨rfl, hb⟩
    exact ⟨_, rfl, ⟨none, 0, rfl, Nat.le_refl _, Cells.zero⟩, hb⟩
  · rw [if_neg h]
    refine (refSub_ge hlx hly (by omega) hu hv).mono ?_
    rintro e w' ⟨v, rfl, hv, hb⟩
    exact ⟨v, rfl, hv, hb⟩
theorem add12 {x y : Nat} (hx : x < 4294967296 ^ 12) (hy : y < 4294967296 ^ 12) : x + y < 4294967296 ^ 13 := by
  rw [Nat.pow_succ]
  have : 0 < 4294967296 ^ 12 := Nat.pow_pos (by omega)
  generalize 4294967296 ^ 12 = p at *
  omega

set_option maxRecDepth 100000 in
set_option maxHeartbeats 4000000 in
theorem lawSums_small {u v : Value} {ds es : List Nat} {w : World} (hl1 : ds.length ≤ 12) (hl2 : es.length ≤ 12) (hd : ∀ d ∈ ds, d < 4294967296) (he : ∀ d ∈ es, d < 4294967296) (hT : Tab w) (hu : LA w u ds) (hv : LA w v es) :
    Calls Tryd.prog 5 #[u, v] w fun e w' => e = .returned (.bool true) ∧ Below w.heap.size w w' := by
  have hk : val 4294967296 ds < 4294967296 ^ 12 := Nat.lt_of_lt_of_le (val_lt ds hd) (Nat.pow_le_pow_right (by omega) hl1)
  have hj : val 4294967296 es < 4294967296 ^ 12 := Nat.lt_of_lt_of_le (val_lt es he) (Nat.pow_le_pow_right (by omega) hl2)
  have hNu := Lib.hid (fun (W : World) (hb : Below w.heap.size w W) => number_any (w := W) hl1 hd (hu.below hb))
  have hNv := Lib.hid (fun (W : World) (hb : Below w.heap.size w W) => number_any (w := W) hl2 he (hv.below hb))
  obtain ⟨k, hk0⟩ : ∃ k, k = val 4294967296 ds := ⟨_, rfl⟩
  rw [← hk0] at hk hNu
  obtain ⟨j, hj0⟩ : ∃ j, j = val 4294967296 es := ⟨_, rfl⟩
  rw [← hj0] at hj hNv
  have hm := add12 hk hj
  have ht : k - j < 4294967296 ^ 12 := Nat.lt_of_le_of_lt (Nat.sub_le _ _) hk
  have hd6 := digs6_len hk
  have he6 := digs6_len hj
  have hm6 := digs6_len hm
  have ht6 := digs6_len ht
  have hd2 : (digs 4294967296 k).length ≤ 12 := digs_len (by omega) hk
  have he2 : (digs 4294967296 j).length ≤ 12 := digs_len (by omega) hj
  have hm2 : (digs 4294967296 (k + j)).length ≤ 13 := digs_len (by omega) hm
  have ht2 : (digs 4294967296 (k - j)).length ≤ 12 := digs_len (by omega) ht
  have hSb := Lib.hid (fun (W : World) (u v : Value) (hu : IsNat W u k) (hv : IsNat W v j) => natSub_any (w := W) (by omega) (by omega) hu hv)
  have hRs := Lib.hid (fun (W : World) (u v : Value) (hu : LI W u (digs 1000000 k)) (hv : LI W v (digs 1000000 j)) => refSub_any (w := W) (by omega) (by omega) hu hv)
  have hAd := Lib.hid (fun (W : World) (u v : Value) (hu : IsNat W u k) (hv : IsNat W v j) => natAdd_any (w := W) (by omega) (by omega) hu hv)
  have hRa := Lib.hid (fun (W : World) (u v : Value) (hu : LI W u (digs 1000000 k)) (hv : LI W v (digs 1000000 j)) => refAdd_any (w := W) (by omega) (by omega) (digs_lt (by omega) k) (digs_lt (by omega) j) hu hv)
  rw [val_digs (by omega), val_digs (by omega)] at hRa
  have hCm := Lib.hid (fun (W : World) (u v : Value) (hu : IsNat W u k) (hv : IsNat W v j) => cmp_any (w := W) (by omega) (by omega) hu hv)
  have hRc := Lib.hid (fun (W : World) (u v : Value) (hu : LI W u (digs 1000000 k)) (hv : LI W v (digs 1000000 j)) => refCmp_any (w := W) (by omega) (by omega) hu hv)
  have hIs := Lib.hid (fun (W : World) (u v : Value) (hb : Below w.heap.size w W) (hu : IsNat W u (k + j)) (h : LI W v (digs 1000000 (k + j))) => is_any (w := W) (by omega) (by omega) (hT.below hb) hu h)
  have hIt := Lib.hid (fun (W : World) (u v : Value) (hb : Below w.heap.size w W) (hu : IsNat W u (k - j)) (h : LI W v (digs 1000000 (k - j))) => is_any (w := W) (by omega) (by omega) (hT.below hb) hu h)
  have hbe : (dec (k + j) == dec (k + j)) = true := by simp
  have hbt : (dec (k - j) == dec (k - j)) = true := by simp
  rw [hbe] at hIs
  rw [hbt] at hIt
  obtain ⟨E, hE⟩ : ∃ E, subE k j = E := ⟨_, rfl⟩
  obtain ⟨C, hC⟩ : ∃ C, cmpI k j = C := ⟨_, rfl⟩
  rw [hE] at hSb hRs
  rw [hC] at hCm hRc
  have hAw := awake_any hT
  obtain ⟨A, c, rfl, hA⟩ := hu
  obtain ⟨B, c2, rfl, hB⟩ := hv
  have hSm := Lib.hid (fun W : World => small_any (w := W) (a := .slice A ds.length c) (b := .slice B es.length c2) rfl rfl (by omega) (by omega))
  have hsm1 : (decide (ds.length ≤ 12) && decide (es.length ≤ 12)) = true := by simp [hl1, hl2]
  rw [hsm1] at hSm
  clear hk hj hm ht hd he hk0 hj0 hd6 he6 hm6 ht6 hd2 he2 hm2 ht2 hA hB hT hbe hbt hsm1 hE hC
  go_enter Tryd.func5, Tryd.ntmps5
  go_wp2_with fail
  refine hAw.mono ?_
  rintro e w1 ⟨rfl, hb1⟩
  clear hAw
  go_wp2_with fail
  refine (hSm.out _).mono ?_
  rintro e w1' ⟨rfl, rfl⟩
  go_wp2_with fail
  refine (hNu.out _ hb1).mono ?_
  rintro e w2 ⟨vn, vr, rfl, hn, hr, hb2⟩
  obtain ⟨An, nn, cn, -, rfl⟩ := isNat_digs hn
  have B2 := hb1.trans (hb2.mono hb1.size)
  obtain ⟨w3, hw3⟩ : ∃ w3, w2.alloc (.cells #[.slice An nn cn] 26) = w3 := ⟨_, rfl⟩
  have hb23 : Below w2.heap.size w2 w3 := by rw [← hw3]; exact (Below.refl _ _).alloc (Nat.le_refl _) _
  have o3 : One w3 w2.heap.size (.slice An nn cn) 26 := by rw [← hw3]; exact One.new _ _ _
  have hn3 := hn.below hb23
  have hr3 := hr.below hb23
  have B3 := B2.trans (hb23.mono B2.size)
  have k3 := o3.cell
  clear hn hr hb2 hb23 hNu hSm
  go_wp2_with fail
  clear hw3
  refine (hNv.out _ B3).mono ?_
  rintro e w4 ⟨vm, vs, rfl, hm, hs, hb4⟩
  obtain ⟨Am, nm, cm, -, rfl⟩ := isNat_digs hm
  obtain ⟨w5, hw5⟩ : ∃ w5, w4.alloc (.cells #[.slice Am nm cm] 26) = w5 := ⟨_, rfl⟩
  have hb45 : Below w4.heap.size w4 w5 := by rw [← hw5]; exact (Below.refl _ _).alloc (Nat.le_refl _) _
  have o5 : One w5 w4.heap.size (.slice Am nm cm) 26 := by rw [← hw5]; exact One.new _ _ _
  have hb35 := hb4.trans (hb45.mono hb4.size)
  have hm5 := hm.below hb45
  have hs5 := hs.below hb45
  have hn5 := hn3.below hb35
  have hr5 := hr3.below hb35
  have o3 := o3.step hb35
  have B5 := B3.trans (hb35.mono B3.size)
  have k3 := o3.cell
  have k5 := o5.cell
  clear hn3 hr3 hm hs hb4 hb45 hb35 hNv
  go_wp2_with fail
  clear hw5
  refine (hSb.out _ _ _ hn5 hm5).mono ?_
  rintro e w6 ⟨Ad, nd, cd, rfl, hd6, hb6⟩
  obtain ⟨w7, hw7⟩ : ∃ w7, w6.alloc (.cells #[.slice Ad nd cd] 26) = w7 := ⟨_, rfl⟩
  have hb67 : Below w6.heap.size w6 w7 := by rw [← hw7]; exact (Below.refl _ _).alloc (Nat.le_refl _) _
  have o7 : One w7 w6.heap.size (.slice Ad nd cd) 26 := by rw [← hw7]; exact One.new _ _ _
  have hb57 := hb6.trans (hb67.mono hb6.size)
  have hd7 := hd6.below hb67
  have hn7 := hn5.below hb57
  have hr7 := hr5.below hb57
  have hm7 := hm5.below hb57
  have hs7 := hs5.below hb57
  have o3 := o3.step hb57
  have o5 := o5.step hb57
  have B7 := B5.trans (hb57.mono B5.size)
  clear hd6 hb6 hb67 hn5 hr5 hm5 hs5 hb57 k3 k5 hSb
  go_wp2_with fail
  clear hw7
  refine (hRs.out _ _ _ hr7 hs7).mono ?_
  rintro e w8 ⟨vt, rfl, ht8, hb8⟩
  have k3 := (o3.step hb8).cell
  have k5 := (o5.step hb8).cell
  clear hRs
  go_wp2_with fail
  refine (hAd.out _ _ _ (hn7.below hb8) (hm7.below hb8)).mono ?_
  rintro e w9 ⟨vp, rfl, hp9, hb9⟩
  have b9 := hb8.trans (hb9.mono hb8.size)
  clear k3 k5 hAd
  go_wp2_with fail
  refine (hRa.out _ _ _ (hr7.below b9) (hs7.below b9)).mono ?_
  rintro e w10 ⟨vq, rfl, hq10, hb10⟩
  have b10 := b9.trans (hb10.mono b9.size)
  clear hRa
  go_wp2_with fail
  refine (hIs.out _ _ _ (B7.trans (b10.mono B7.size)) (hp9.below hb10) hq10).mono ?_
  rintro e w11 ⟨rfl, hb11⟩
  have b11 := b10.trans (hb11.mono b10.size)
  have k7 := (o7.step b11).cell
  have ht11 := (ht8.below hb9).below (hb10.trans (hb11.mono hb10.size))
  clear hIs hp9 hq10 hb10 b9 b10
  go_wp2_with fail
  refine (hIt.out _ _ _ (B7.trans (b11.mono B7.size)) (hd7.below b11) ht11).mono ?_
  rintro e w12 ⟨rfl, hb12⟩
  have b12 := b11.trans (hb12.mono b11.size)
  have k3 := (o3.step b12).cell
  have k5 := (o5.step b12).cell
  clear hIt k7
  go_wp2_with fail
  refine (hCm.out _ _ _ (hn7.below b12) (hm7.below b12)).mono ?_
  rintro e w13 ⟨rfl, hb13⟩
  have b13 := b12.trans (hb13.mono b12.size)
  go_wp2_with fail
  refine (hRc.out _ _ _ (hr7.below b13) (hs7.below b13)).mono ?_
  rintro e w14 ⟨rfl, hb14⟩
  have b14 := b13.trans (hb14.mono b13.size)
  go_wp2_with fail
  go_ret
  exact ⟨rfl, B7.trans (b14.mono B7.size)⟩

set_option maxRecDepth 100000 in
theorem lawSums_large {A B : Option Addr} {n m c c2 : Nat} {w : World} (hlen : 12 < n ∨ 12 < m) (hn : n ≤ 9223372036854775807) (hm : m ≤ 9223372036854775807) (hT : Tab w) :
    Calls Tryd.prog 5 #[.slice A n c, .slice B m c2] w fun e w' => e = .returned (.bool true) ∧ Below w.heap.size w w' := by
  have hAw := awake_any hT
  have hSm := Lib.hid (fun W : World => small_any (w := W) (a := .slice A n c) (b := .slice B m c2) rfl rfl hn hm)
  have hsm1 : (decide (n ≤ 12) && decide (m ≤ 12)) = false := by simp; omega
  rw [hsm1] at hSm
  clear hT hsm1
  go_enter Tryd.func5, Tryd.ntmps5
  go_wp2_with fail
  refine hAw.mono ?_
  rintro e w1 ⟨rfl, hb1⟩
  clear hAw
  go_wp2_with fail
  refine (hSm.out _).mono ?_
  rintro e w1' ⟨rfl, rfl⟩
  go_wp2_with fail
  go_ret
  exact ⟨rfl, hb1⟩
end Go.Proofs.YtapblmbjbpkieaaDoor
