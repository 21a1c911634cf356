/- The walk of the law NatProducts. -/
import Derived.Test.YtapblmbjbpkieaaDoorRefH
import Derived.Test.YtapblmbjbpkieaaDoorLawBits
namespace Go.Proofs.YtapblmbjbpkieaaDoor
open Go.RowKit

theorem mul_lt {x y p q : Nat} (hx : x < p) (hy : y < q) : x * y < p * q := by
  rcases Nat.eq_zero_or_pos y with rfl | h
  · rw [Nat.mul_zero]; exact Nat.mul_pos (by omega) (by omega)
  · exact Nat.lt_of_lt_of_le (Nat.mul_lt_mul_of_pos_right hx h) (Nat.mul_le_mul_left _ (Nat.le_of_lt hy))
theorem mul12 {x y : Nat} (hx : x < 4294967296 ^ 12) (hy : y < 4294967296 ^ 12) : x * y < 4294967296 ^ 24 := by
  have := mul_lt hx hy
  rwa [← Nat.pow_add] at this

set_option maxRecDepth 100000 in
set_option maxHeartbeats 4000000 in
theorem lawProd_small {u v : Value} {ds es : List Nat} {w : World} (hl1 : ds.length ≤ 12) (hl2 : es.length ≤ 12) (hd : ∀ d ∈ ds, d < 4294967296) (he : ∀ d ∈ es, d < 4294967296) (hT : Tab w) (hu : LA w u ds) (hv : LA w v es) :
    Calls Tryd.prog 6 #[u, v] w fun e w' => e = .returned (.bool true) ∧ Below w.heap.size w w' := by
  have hk : val 4294967296 ds < 4294967296 ^ 12 := Nat.lt_of_lt_of_le (val_lt ds hd) (Nat.pow_le_pow_right (by omega) hl1)
  have hj : val 4294967296 es < 4294967296 ^ 12 := Nat.lt_of_lt_of_le (val_lt es he) (Nat.pow_le_pow_right (by omega) hl2)
  have hNu := Lib.hid (fun (W : World) (hb : Below w.heap.size w W) => number_any (w := W) hl1 hd (hu.below hb))
  have hNv := Lib.hid (fun (W : World) (hb : Below w.heap.size w W) => number_any (w := W) hl2 he (hv.below hb))
  obtain ⟨k, hk0⟩ : ∃ k, k = val 4294967296 ds := ⟨_, rfl⟩
  rw [← hk0] at hk hNu
  obtain ⟨j, hj0⟩ : ∃ j, j = val 4294967296 es := ⟨_, rfl⟩
  rw [← hj0] at hj hNv
  have hm := mul12 hk hj
  have hd6 := digs6_len hk
  have he6 := digs6_len hj
  have hm6 := digs6_len hm
  have hd2 : (digs 4294967296 k).length ≤ 12 := digs_len (by omega) hk
  have he2 : (digs 4294967296 j).length ≤ 12 := digs_len (by omega) hj
  have hm2 : (digs 4294967296 (k * j)).length ≤ 24 := digs_len (by omega) hm
  have hMl := Lib.hid (fun (W : World) (u v : Value) (hu : IsNat W u k) (hv : IsNat W v j) => natMul_any (w := W) (by omega) (by omega) hu hv)
  have hRm := Lib.hid (fun (W : World) (u v : Value) (hu : LI W u (digs 1000000 k)) (hv : LI W v (digs 1000000 j)) => refMul_any (w := W) (by omega) (by omega) (digs_lt (by omega) k) (digs_lt (by omega) j) hu hv)
  rw [val_digs (by omega), val_digs (by omega)] at hRm
  have hIs := Lib.hid (fun (W : World) (u v : Value) (hb : Below w.heap.size w W) (hu : IsNat W u (k * j)) (h : LI W v (digs 1000000 (k * j))) => is_any (w := W) (by omega) (by omega) (hT.below hb) hu h)
  have hbe : (dec (k * j) == dec (k * j)) = true := by simp
  rw [hbe] at hIs
  have hAw := awake_any hT
  obtain ⟨A, c, rfl, hA⟩ := hu
  obtain ⟨B, c2, rfl, hB⟩ := hv
  have hSm := Lib.hid (fun W : World => small_any (w := W) (a := .slice A ds.length c) (b := .slice B es.length c2) rfl rfl (by omega) (by omega))
  have hsm1 : (decide (ds.length ≤ 12) && decide (es.length ≤ 12)) = true := by simp [hl1, hl2]
  rw [hsm1] at hSm
  clear hk hj hm hd he hk0 hj0 hd6 he6 hm6 hd2 he2 hm2 hA hB hT hbe hsm1
  go_enter Tryd.func6, Tryd.ntmps6
  go_wp2_with fail
  refine hAw.mono ?_
  rintro e w1 ⟨rfl, hb1⟩
  clear hAw
  go_wp2_with fail
  refine (hSm.out _).mono ?_
  rintro e w1' ⟨rfl, rfl⟩
  go_wp2_with fail
  refine (hNu.out _ hb1).mono ?_
  rintro e w2 ⟨vn, vr, rfl, hn, hr, hb2⟩
  obtain ⟨An, nn, cn, -, rfl⟩ := isNat_digs hn
  have B2 := hb1.trans (hb2.mono hb1.size)
  obtain ⟨w3, hw3⟩ : ∃ w3, w2.alloc (.cells #[.slice An nn cn] 26) = w3 := ⟨_, rfl⟩
  have hb23 : Below w2.heap.size w2 w3 := by rw [← hw3]; exact (Below.refl _ _).alloc (Nat.le_refl _) _
  have o3 : One w3 w2.heap.size (.slice An nn cn) 26 := by rw [← hw3]; exact One.new _ _ _
  have hn3 := hn.below hb23
  have hr3 := hr.below hb23
  have B3 := B2.trans (hb23.mono B2.size)
  have k3 := o3.cell
  clear hn hr hb2 hb23 hNu hSm
  go_wp2_with fail
  clear hw3
  refine (hNv.out _ B3).mono ?_
  rintro e w4 ⟨vm, vs, rfl, hm, hs, hb4⟩
  obtain ⟨Am, nm, cm, -, rfl⟩ := isNat_digs hm
  obtain ⟨w5, hw5⟩ : ∃ w5, w4.alloc (.cells #[.slice Am nm cm] 26) = w5 := ⟨_, rfl⟩
  have hb45 : Below w4.heap.size w4 w5 := by rw [← hw5]; exact (Below.refl _ _).alloc (Nat.le_refl _) _
  have o5 : One w5 w4.heap.size (.slice Am nm cm) 26 := by rw [← hw5]; exact One.new _ _ _
  have hb35 := hb4.trans (hb45.mono hb4.size)
  have hm5 := hm.below hb45
  have hs5 := hs.below hb45
  have hn5 := hn3.below hb35
  have hr5 := hr3.below hb35
  have o3 := o3.step hb35
  have B5 := B3.trans (hb35.mono B3.size)
  have k3 := o3.cell
  have k5 := o5.cell
  clear hn3 hr3 hm hs hb4 hb45 hb35 hNv
  go_wp2_with fail
  clear hw5
  refine (hMl.out _ _ _ hn5 hm5).mono ?_
  rintro e w6 ⟨vp, rfl, hp6, hb6⟩
  obtain ⟨Ap, np, cp, -, rfl⟩ := isNat_digs hp6
  go_wp2_with fail
  refine (hRm.out _ _ _ (hr5.below hb6) (hs5.below hb6)).mono ?_
  rintro e w7 ⟨vq, rfl, hq7, hb7⟩
  have b57 := hb6.trans (hb7.mono hb6.size)
  have B7 := B5.trans (b57.mono B5.size)
  go_wp2_with fail
  refine (hIs.out _ _ _ B7 (hp6.below hb7) hq7).mono ?_
  rintro e w8 ⟨rfl, hb8⟩
  have B8 := B7.trans (hb8.mono B7.size)
  go_wp2_with fail
  go_ret
  exact ⟨rfl, B8⟩

set_option maxRecDepth 100000 in
theorem lawProd_large {A B : Option Addr} {n m c c2 : Nat} {w : World} (hlen : 12 < n ∨ 12 < m) (hn : n ≤ 9223372036854775807) (hm : m ≤ 9223372036854775807) (hT : Tab w) :
    Calls Tryd.prog 6 #[.slice A n c, .slice B m c2] w fun e w' => e = .returned (.bool true) ∧ Below w.heap.size w w' := by
  have hAw := awake_any hT
  have hSm := Lib.hid (fun W : World => small_any (w := W) (a := .slice A n c) (b := .slice B m c2) rfl rfl hn hm)
  have hsm1 : (decide (n ≤ 12) && decide (m ≤ 12)) = false := by simp; omega
  rw [hsm1] at hSm
  clear hT hsm1
  go_enter Tryd.func6, Tryd.ntmps6
  go_wp2_with fail
  refine hAw.mono ?_
  rintro e w1 ⟨rfl, hb1⟩
  clear hAw
  go_wp2_with fail
  refine (hSm.out _).mono ?_
  rintro e w1' ⟨rfl, rfl⟩
  go_wp2_with fail
  go_ret
  exact ⟨rfl, hb1⟩
end Go.Proofs.YtapblmbjbpkieaaDoor
