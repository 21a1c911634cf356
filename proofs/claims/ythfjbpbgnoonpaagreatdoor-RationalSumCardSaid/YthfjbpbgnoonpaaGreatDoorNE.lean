/- Contract of package nat's DivMod on numbers below 2^64. Contract of package nat's GCD on numbers below 2^64. Contracts of the helpers of layer 1's laws: small, number, is, same. Contract of the helper awake of layer 1's laws. The walk of the law NatText. Contracts of the reference: Uint64. The number of bits, as the reference counts it. Contracts of the reference: Bits. The walk of the law NatBits. Contracts of the reference: Cmp. -/
import Derived.Test.YthfjbpbgnoonpaaGreatDoorND
import Derived.Test.YthfjbpbgnoonpaaGreatDoorNC
namespace Go.Proofs.YthfjbpbgnoonpaaGreatDoor
open Go.RowKit

def DivOk (w : World) (q r : Nat) (e : Ending) (w' : World) : Prop := ∃ vq vr, e = .returned (.tuple #[vq, vr, .int .i64 0]) ∧ IsNat w' vq q ∧ IsNat w' vr r ∧ Below w.heap.size w w'
theorem isNat_zero (w : World) : IsNat w (.agg #[.slice none 0 0]) 0 := ⟨_, rfl, none, 0, rfl, Nat.le_refl _, .inl rfl, fun i hi => by simp [digs_zero] at hi⟩
theorem digs_small {k : Nat} (h : k < 18446744073709551616) : (digs 4294967296 k).length ≤ 2 := digs_len (by omega) (by rw [show (4294967296 : Nat) ^ 2 = 18446744073709551616 from rfl]; exact h)
theorem IsNat.far {w : World} {v : Value} {k : Nat} (h : IsNat w v k) {p : Addr} {e' : TypeId} (hp : IsRow w e' p.block) (hne : 90 ≠ e') (u : Value) : IsNat (w.setCell p u) v k := by
  obtain ⟨s, rfl, hs⟩ := h
  exact ⟨s, rfl, hs.far hp hne u⟩
theorem IsNat.drew {w : World} {v : Value} {k : Nat} (h : IsNat w v k) : IsNat w.drew v k := h
theorem IsNat.drewN {w : World} {v : Value} {k : Nat} (h : IsNat w v k) (n : Nat) : IsNat (w.drewN n) v k := h

set_option maxRecDepth 100000 in
set_option maxHeartbeats 2000000 in
theorem divMod_less {u v : Value} {x y : Nat} {w : World} (hx : x < 18446744073709551616) (hy : y < 18446744073709551616) (hlt : x < y) (hu : IsNat w u x) (hv : IsNat w v y) :
    Calls Tryz.prog 83 #[u, v] w (DivOk w 0 x) := by
  obtain ⟨s, rfl, A, ca, rfl, hca, hA⟩ := hu
  obtain ⟨t, rfl, B, cb, rfl, hcb, hB⟩ := hv
  have hlx := digs_small hx
  have hly := digs_small hy
  obtain ⟨n, hn⟩ : ∃ n, n = (digs 4294967296 x).length := ⟨_, rfl⟩
  obtain ⟨m, hm⟩ : ∃ m, m = (digs 4294967296 y).length := ⟨_, rfl⟩
  obtain ⟨w4, hw4⟩ : ∃ w4, ((((w.alloc (.cells #[.slice A n ca] 28)).alloc (.cells #[.slice B m cb] 28)).alloc (.cells #[.slice none 0 0] 28)).alloc (.cells #[.slice none 0 0] 28)) = w4 := ⟨_, rfl⟩
  have hb4 : Below w.heap.size w w4 := by
    rw [← hw4]
    exact ((((Below.refl _ w).alloc (Nat.le_refl _) _).alloc (by simp) _).alloc (by simp; omega) _).alloc (by simp; omega) _
  have o1 : One w4 w.heap.size (.slice A n ca) 28 := by rw [← hw4]; exact (((One.new w _ _).alloc _).alloc _).alloc _
  have o2 : One w4 (w.heap.size + 1) (.slice B m cb) 28 := by
    have := ((One.new (w.alloc (.cells #[.slice A n ca] 28)) (.slice B m cb) 28).alloc (.cells #[.slice none 0 0] 28)).alloc (.cells #[.slice none 0 0] 28)
    rw [hw4] at this
    simpa using this
  have o3 : One w4 (w.heap.size + 1 + 1) (.slice none 0 0) 28 := by
    have := (One.new ((w.alloc (.cells #[.slice A n ca] 28)).alloc (.cells #[.slice B m cb] 28)) (.slice none 0 0) 28).alloc (.cells #[.slice none 0 0] 28)
    rw [hw4] at this
    simpa using this
  have o4 : One w4 (w.heap.size + 1 + 1 + 1) (.slice none 0 0) 28 := by
    have := One.new (((w.alloc (.cells #[.slice A n ca] 28)).alloc (.cells #[.slice B m cb] 28)).alloc (.cells #[.slice none 0 0] 28)) (.slice none 0 0) 28
    rw [hw4] at this
    simpa using this
  have hxA : IsNat w4 (.agg #[.slice A n ca]) x := ⟨_, rfl, A, ca, by rw [hn], hca, hA.step hb4⟩
  have hyB : IsNat w4 (.agg #[.slice B m cb]) y := ⟨_, rfl, B, cb, by rw [hm], hcb, hB.step hb4⟩
  have hz := isZero_any (w := w4) (by omega) hyB
  rw [decide_eq_false (show ¬ y = 0 by omega)] at hz
  have HCMP := Lib.hid (fun (W : World) (hb : Below w4.heap.size w4 W) => cmp_any (w := W) (by omega) (by omega) (hxA.below hb) (hyB.below hb))
  have hci : cmpI x y = -1 := by unfold cmpI; rw [if_pos hlt]
  rw [hci] at HCMP
  have HX := Lib.hid hxA
  rw [← hn] at hca hA ⊢
  rw [← hm] at hcb hB ⊢
  clear hA hB hci hn hm hxA hyB hlt
  have d1 := o1.cell
  have d2 := o2.cell
  go_enter Tryz.func83, Tryz.ntmps83
  go_wp2_with fail
  clear hw4
  refine hz.mono ?_
  rintro e w5 ⟨rfl, hb5⟩
  have c1 := (o1.step hb5).cell
  have c2 := (o2.step hb5).cell
  clear hz
  go_wp2_with fail
  refine (HCMP.out _ hb5).mono ?_
  rintro e w6 ⟨rfl, hb6⟩
  have hb46 := hb5.trans (hb6.mono hb5.size)
  have c1 := (o1.step hb46).cell
  have c3 := (o3.step hb46).cell
  have c4 := (o4.step hb46).cell
  have f3 := (o3.step hb46).frozen
  have f4 := (o4.step hb46).frozen
  go_wp2_with fail
  go_region
  all_goals (try go_wp2)
  all_goals
    have r3 := ((o3.step hb46).set_ (.slice none 0 0)).far (p := ⟨w.heap.size + 1 + 1 + 1, 0, none⟩) (by show w.heap.size + 1 + 1 ≠ w.heap.size + 1 + 1 + 1; omega) (.slice A n ca)
    have r4 := ((o4.step hb46).far (p := ⟨w.heap.size + 1 + 1, 0, none⟩) (by show w.heap.size + 1 + 1 + 1 ≠ w.heap.size + 1 + 1; omega) (.slice none 0 0)).set_ (.slice A n ca)
    refine bodyPost_ret (v := .tuple #[.agg #[.slice none 0 0], .agg #[.slice A n ca], .int .i64 0]) (by simp [results, Tryz.results83, go_sem, r3.cell, r4.cell]) rfl ?_
    refine ⟨_, _, rfl, isNat_zero _, ?_, ?_⟩
    · exact ((((HX.out.below hb46).far (p := ⟨w.heap.size + 1 + 1, 0, none⟩) (o3.step hb46).row (by decide) _).far (p := ⟨w.heap.size + 1 + 1 + 1, 0, none⟩) ((o4.step hb46).far (p := ⟨w.heap.size + 1 + 1, 0, none⟩) (by show w.heap.size + 1 + 1 + 1 ≠ w.heap.size + 1 + 1; omega) _).row (by decide) _)).drew
    · exact ((((hb4.trans (hb46.mono hb4.size)).setCell (by show w.heap.size ≤ w.heap.size + 1 + 1; omega) _).setCell (by show w.heap.size ≤ w.heap.size + 1 + 1 + 1; omega) _)).drew
set_option maxRecDepth 100000 in
set_option maxHeartbeats 2000000 in
theorem divMod_ge {u v : Value} {x y : Nat} {w : World} (hx : x < 18446744073709551616) (hy : y < 18446744073709551616) (hlt : y ≤ x) (hy0 : 0 < y) (hu : IsNat w u x) (hv : IsNat w v y) :
    Calls Tryz.prog 83 #[u, v] w (DivOk w (x / y) (x % y)) := by
  obtain ⟨s, rfl, A, ca, rfl, hca, hA⟩ := hu
  obtain ⟨t, rfl, B, cb, rfl, hcb, hB⟩ := hv
  have hlx := digs_small hx
  have hly := digs_small hy
  obtain ⟨n, hn⟩ : ∃ n, n = (digs 4294967296 x).length := ⟨_, rfl⟩
  obtain ⟨m, hm⟩ : ∃ m, m = (digs 4294967296 y).length := ⟨_, rfl⟩
  obtain ⟨w4, hw4⟩ : ∃ w4, ((((w.alloc (.cells #[.slice A n ca] 28)).alloc (.cells #[.slice B m cb] 28)).alloc (.cells #[.slice none 0 0] 28)).alloc (.cells #[.slice none 0 0] 28)) = w4 := ⟨_, rfl⟩
  have hb4 : Below w.heap.size w w4 := by
    rw [← hw4]
    exact ((((Below.refl _ w).alloc (Nat.le_refl _) _).alloc (by simp) _).alloc (by simp; omega) _).alloc (by simp; omega) _
  have o1 : One w4 w.heap.size (.slice A n ca) 28 := by rw [← hw4]; exact (((One.new w _ _).alloc _).alloc _).alloc _
  have o2 : One w4 (w.heap.size + 1) (.slice B m cb) 28 := by
    have := ((One.new (w.alloc (.cells #[.slice A n ca] 28)) (.slice B m cb) 28).alloc (.cells #[.slice none 0 0] 28)).alloc (.cells #[.slice none 0 0] 28)
    rw [hw4] at this
    simpa using this
  have o3 : One w4 (w.heap.size + 1 + 1) (.slice none 0 0) 28 := by
    have := (One.new ((w.alloc (.cells #[.slice A n ca] 28)).alloc (.cells #[.slice B m cb] 28)) (.slice none 0 0) 28).alloc (.cells #[.slice none 0 0] 28)
    rw [hw4] at this
    simpa using this
  have o4 : One w4 (w.heap.size + 1 + 1 + 1) (.slice none 0 0) 28 := by
    have := One.new (((w.alloc (.cells #[.slice A n ca] 28)).alloc (.cells #[.slice B m cb] 28)).alloc (.cells #[.slice none 0 0] 28)) (.slice none 0 0) 28
    rw [hw4] at this
    simpa using this
  have hxA : IsNat w4 (.agg #[.slice A n ca]) x := ⟨_, rfl, A, ca, by rw [hn], hca, hA.step hb4⟩
  have hyB : IsNat w4 (.agg #[.slice B m cb]) y := ⟨_, rfl, B, cb, by rw [hm], hcb, hB.step hb4⟩
  have hz := isZero_any (w := w4) (by omega) hyB
  rw [decide_eq_false (show ¬ y = 0 by omega)] at hz
  have HCMP := Lib.hid (fun (W : World) (hb : Below w4.heap.size w4 W) => cmp_any (w := W) (by omega) (by omega) (hxA.below hb) (hyB.below hb))
  have hci : (cmpI x y = 0 ∨ cmpI x y = 1) := by unfold cmpI; rw [if_neg (by omega)]; split <;> simp
  have HU := Lib.hid (fun (W : World) (hb : Below w4.heap.size w4 W) => uint64_any (w := W) (by omega) (hxA.below hb))
  have HV := Lib.hid (fun (W : World) (hb : Below w4.heap.size w4 W) => uint64_any (w := W) (by omega) (hyB.below hb))
  have hux : U64Spec x = .returned (.tuple #[.int .u64 (x : Int), .bool true]) := by unfold U64Spec; rw [if_pos hx]
  have huy : U64Spec y = .returned (.tuple #[.int .u64 (y : Int), .bool true]) := by unfold U64Spec; rw [if_pos hy]
  rw [hux] at HU
  rw [huy] at HV
  have hq1 : x / y < 18446744073709551616 := Nat.lt_of_le_of_lt (Nat.div_le_self x y) hx
  have hr1 : x % y < 18446744073709551616 := Nat.lt_of_le_of_lt (Nat.mod_le x y) hx
  obtain ⟨c, hcI⟩ : ∃ c, cmpI x y = c := ⟨_, rfl⟩
  rw [hcI] at HCMP hci
  have hc0 : 0 ≤ c := by omega
  rw [← hn] at hca hA ⊢
  rw [← hm] at hcb hB ⊢
  clear hA hB hci hn hm hxA hyB hlt hux huy hcI
  have d1 := o1.cell
  have d2 := o2.cell
  go_enter Tryz.func83, Tryz.ntmps83
  go_wp2_with fail
  clear hw4
  refine hz.mono ?_
  rintro e w5 ⟨rfl, hb5⟩
  have c1 := (o1.step hb5).cell
  have c2 := (o2.step hb5).cell
  clear hz
  go_wp2_with fail
  refine (HCMP.out _ hb5).mono ?_
  rintro e w6 ⟨rfl, hb6⟩
  have hb46 := hb5.trans (hb6.mono hb5.size)
  have c1 := (o1.step hb46).cell
  go_wp2_with fail
  refine (HU.out _ hb46).mono ?_
  rintro e w7 ⟨rfl, hb7⟩
  have hb47 := hb46.trans (hb7.mono hb46.size)
  have c2 := (o2.step hb47).cell
  go_wp2_with fail
  refine (HV.out _ hb47).mono ?_
  rintro e w8 ⟨rfl, hb8⟩
  have hb48 := hb47.trans (hb8.mono hb47.size)
  have H3 := o3.step hb48
  have H4 := o4.step hb48
  have hlow : Below w.heap.size w w8 := hb4.trans (hb48.mono hb4.size)
  obtain ⟨Q, hQ⟩ : ∃ Q : Nat, x / y = Q := ⟨_, rfl⟩
  obtain ⟨R, hR⟩ : ∃ R : Nat, x % y = R := ⟨_, rfl⟩
  have hQ' := Lib.hid hQ
  have hR' := Lib.hid hR
  rw [hQ] at hq1
  rw [hR] at hr1
  have hdq : (x : Int) / (y : Int) = (Q : Int) := by rw [← hQ, Int.natCast_ediv]
  have hdr : (x : Int) % (y : Int) = (R : Int) := by rw [← hR, Int.natCast_emod]
  have htq : (x : Int).tdiv (y : Int) = (Q : Int) := by rw [Int.tdiv_eq_ediv_of_nonneg (by omega), hdq]
  have htr : (x : Int).tmod (y : Int) = (R : Int) := by rw [Int.tmod_eq_emod_of_nonneg (by omega), hdr]
  have hwQ : IntKind.u64.wrap (Q : Int) = (Q : Int) := IntWalk.u64_in _ ⟨by omega, by omega⟩
  have hwR : IntKind.u64.wrap (R : Int) = (R : Int) := IntWalk.u64_in _ ⟨by omega, by omega⟩
  have hOQ := Lib.hid (fun W : World => natOf_any (w := W) (Q : Int) (by omega) (by omega))
  have hOR := Lib.hid (fun W : World => natOf_any (w := W) (R : Int) (by omega) (by omega))
  rw [Int.toNat_natCast] at hOQ hOR
  have hy1 : ((y : Int) == 0) = false := beq_eq_false_iff_ne.2 (by omega)
  have hy2 : 0 < (y : Int) := by omega
  clear hx hy hq1 hr1 hQ hR hlx hly hb48 hb47 hb46 hb8 hb7 hb6 hb5 HU HV HCMP o1 o2 o3 o4 c1 c2
  go_wp2_with fail
  go_region_with (first
    | (go_at_call_of 26 (Q : Int); refine (hOQ.out _).mono ?_; rintro e w9 ⟨vq, rfl, ⟨sq, rfl, Aq, cq, rfl, hcq, hAq⟩, hb9⟩; have K3 : One w9 _ _ _ := One.step (w := w8.drew) H3 hb9; have K4 : One w9 _ _ _ := One.step (w := w8.drew) H4 hb9)
    | (go_at_call_of 26 (R : Int); refine (hOR.out _).mono ?_; rintro e w10 ⟨vr, rfl, ⟨sr, rfl, Ar, cr, rfl, hcr, hAr⟩, hb10⟩; have L3 : One w10 _ _ _ := K3.step hb10; have L4 : One w10 _ _ _ := K4.step hb10; have l3 := L3.frozen; have l4 := L4.frozen; have l5 := L3.cell; have l6 := L4.cell))
  all_goals (try go_wp2)
  all_goals
    have r3 := (L3.set_ (.slice Aq (digs 4294967296 Q).length cq)).far (p := ⟨w.heap.size + 1 + 1 + 1, 0, none⟩) (by show w.heap.size + 1 + 1 ≠ w.heap.size + 1 + 1 + 1; omega) (.slice Ar (digs 4294967296 R).length cr)
    have r4 := (L4.far (p := ⟨w.heap.size + 1 + 1, 0, none⟩) (by show w.heap.size + 1 + 1 + 1 ≠ w.heap.size + 1 + 1; omega) (.slice Aq (digs 4294967296 Q).length cq)).set_ (.slice Ar (digs 4294967296 R).length cr)
    refine bodyPost_ret (v := .tuple #[.agg #[.slice Aq (digs 4294967296 Q).length cq], .agg #[.slice Ar (digs 4294967296 R).length cr], .int .i64 0]) (by simp [results, Tryz.results83, go_sem, r3.cell, r4.cell]) rfl ?_
    have hQf := hQ'.out
    have hRf := hR'.out
    have hlo9 : Below w.heap.size w w9 := hlow.drew.trans (Below.mono (w := w8.drew) hb9 hlow.size)
    have hlo10 : Below w.heap.size w w10 := hlo9.trans (hb10.mono hlo9.size)
    refine ⟨_, _, rfl, ?_, ?_, ?_⟩
    · rw [hQf]
      exact (IsNat.far (IsNat.far (IsNat.below ⟨_, rfl, Aq, cq, rfl, hcq, hAq⟩ hb10) (p := ⟨w.heap.size + 1 + 1, 0, none⟩) L3.row (by decide) _) (p := ⟨w.heap.size + 1 + 1 + 1, 0, none⟩) (L4.far (p := ⟨w.heap.size + 1 + 1, 0, none⟩) (by show w.heap.size + 1 + 1 + 1 ≠ w.heap.size + 1 + 1; omega) _).row (by decide) _)
    · rw [hRf]
      exact (IsNat.far (IsNat.far ⟨_, rfl, Ar, cr, rfl, hcr, hAr⟩ (p := ⟨w.heap.size + 1 + 1, 0, none⟩) L3.row (by decide) _) (p := ⟨w.heap.size + 1 + 1 + 1, 0, none⟩) (L4.far (p := ⟨w.heap.size + 1 + 1, 0, none⟩) (by show w.heap.size + 1 + 1 + 1 ≠ w.heap.size + 1 + 1; omega) _).row (by decide) _)
    · exact ((hlo10.setCell (by show w.heap.size ≤ w.heap.size + 1 + 1; omega) _).setCell (by show w.heap.size ≤ w.heap.size + 1 + 1 + 1; omega) _)
end Go.Proofs.YthfjbpbgnoonpaaGreatDoor

namespace Go.Proofs.YthfjbpbgnoonpaaGreatDoor
open Go.RowKit

theorem divMod_small {u v : Value} {x y : Nat} {w : World} (hx : x < 18446744073709551616) (hy : y < 18446744073709551616) (hy0 : 0 < y) (hu : IsNat w u x) (hv : IsNat w v y) :
    Calls Tryz.prog 83 #[u, v] w (DivOk w (x / y) (x % y)) := by
  by_cases h : x < y
  · rw [Nat.div_eq_of_lt h, Nat.mod_eq_of_lt h]
    exact divMod_less hx hy h hu hv
  · exact divMod_ge hx hy (by omega) hy0 hu hv
def GcdR (G : Nat) (X Y : Value) : Prop := ∃ nx ny : Nat, X = .int .u64 nx ∧ Y = .int .u64 ny ∧ nx < 18446744073709551616 ∧ ny < 18446744073709551616 ∧ Nat.gcd nx ny = G

set_option maxRecDepth 100000 in
set_option maxHeartbeats 2000000 in
theorem gcd_small {u v : Value} {x y : Nat} {w : World} (hx : x < 18446744073709551616) (hy : y < 18446744073709551616) (hy0 : 0 < y) (hu : IsNat w u x) (hv : IsNat w v y) :
    Calls Tryz.prog 88 #[u, v] w (NewN w (Nat.gcd x y)) := by
  obtain ⟨s, rfl, A, ca, rfl, hca, hA⟩ := hu
  obtain ⟨t, rfl, B, cb, rfl, hcb, hB⟩ := hv
  have hlx := digs_small hx
  have hly := digs_small hy
  obtain ⟨n, hn⟩ : ∃ n, n = (digs 4294967296 x).length := ⟨_, rfl⟩
  obtain ⟨m, hm⟩ : ∃ m, m = (digs 4294967296 y).length := ⟨_, rfl⟩
  obtain ⟨w3, hw3⟩ : ∃ w3, (((w.alloc (.cells #[.slice A n ca] 28)).alloc (.cells #[.slice B m cb] 28)).alloc (.cells #[.slice none 0 0] 28)) = w3 := ⟨_, rfl⟩
  have hb3 : Below w.heap.size w w3 := by
    rw [← hw3]
    exact (((Below.refl _ w).alloc (Nat.le_refl _) _).alloc (by simp) _).alloc (by simp; omega) _
  have hs3 : w3.heap.size = w.heap.size + 3 := by rw [← hw3]; simp
  have o1 : One w3 w.heap.size (.slice A n ca) 28 := by rw [← hw3]; exact ((One.new w _ _).alloc _).alloc _
  have o2 : One w3 (w.heap.size + 1) (.slice B m cb) 28 := by
    have := (One.new (w.alloc (.cells #[.slice A n ca] 28)) (.slice B m cb) 28).alloc (.cells #[.slice none 0 0] 28)
    rw [hw3] at this
    simpa using this
  have o3 : One w3 (w.heap.size + 1 + 1) (.slice none 0 0) 28 := by
    have := One.new ((w.alloc (.cells #[.slice A n ca] 28)).alloc (.cells #[.slice B m cb] 28)) (.slice none 0 0) 28
    rw [hw3] at this
    simpa using this
  have hxA : IsNat w3 (.agg #[.slice A n ca]) x := ⟨_, rfl, A, ca, by rw [hn], hca, hA.step hb3⟩
  have hyB : IsNat w3 (.agg #[.slice B m cb]) y := ⟨_, rfl, B, cb, by rw [hm], hcb, hB.step hb3⟩
  have hz := isZero_any (w := w3) (by omega) hyB
  rw [decide_eq_false (show ¬ y = 0 by omega)] at hz
  have HD := Lib.hid (fun (W : World) (hb : Below w3.heap.size w3 W) => divMod_small (w := W) hx hy hy0 (hxA.below hb) (hyB.below hb))
  have HV := Lib.hid (fun (W : World) (hb : Below w3.heap.size w3 W) => uint64_any (w := W) (by omega) (hyB.below hb))
  have huy : U64Spec y = .returned (.tuple #[.int .u64 (y : Int), .bool true]) := by unfold U64Spec; rw [if_pos hy]
  rw [huy] at HV
  obtain ⟨R, hR⟩ : ∃ R : Nat, R = x % y := ⟨_, rfl⟩
  have hr1 : R < 18446744073709551616 := by rw [hR]; exact Nat.lt_of_le_of_lt (Nat.mod_le x y) hx
  have HR := Lib.hid (fun (W : World) (v : Value) (h : IsNat W v R) => uint64_any (w := W) (by have := digs_small hr1; omega) h)
  have hur : U64Spec R = .returned (.tuple #[.int .u64 (R : Int), .bool true]) := by unfold U64Spec; rw [if_pos hr1]
  rw [hur] at HR
  have hG0 : Nat.gcd y R = Nat.gcd x y := by rw [hR, Nat.gcd_comm y, ← Nat.gcd_rec, Nat.gcd_comm]
  have hG := Lib.hid hG0
  clear hG0
  rw [← hR] at HD
  have Hr1 := Lib.hid hr1
  have Hy := Lib.hid hy
  have hm2 : m ≤ 2 := by omega
  rw [← hn] at hca hA ⊢
  rw [← hm] at hcb hB ⊢
  clear hA hB hn hm hxA hyB huy hur hR hr1 hx hy hlx hly
  have d1 := o1.cell
  have d2 := o2.cell
  go_enter Tryz.func88, Tryz.ntmps88
  go_wp2_with fail
  refine wp_loop_rounds 1 ?_
  rw [rounds_succ]
  clear hw3
  go_wp2_with fail
  refine hz.mono ?_
  rintro e w5 ⟨rfl, hb5⟩
  have c1 := (o1.step hb5).cell
  have c2 := (o2.step hb5).cell
  clear hz
  go_wp2_with fail
  refine (HD.out _ hb5).mono ?_
  rintro e w6 ⟨vq, vr, rfl, ⟨sq, rfl, Aq, cq, rfl, hcq, hAq⟩, ⟨sr, rfl, Ar, cr, rfl, hcr, hAr⟩, hb6⟩
  have hb36 := hb5.trans (hb6.mono hb5.size)
  have hs6 : w.heap.size + 3 ≤ w6.heap.size := by have := hb36.size; omega
  obtain ⟨w7, hw7⟩ : ∃ w7, ((w6.alloc (.cells #[.slice Aq (digs 4294967296 (x / y)).length cq] 28)).alloc (.cells #[.slice Ar (digs 4294967296 R).length cr] 28)) = w7 := ⟨_, rfl⟩
  have hb67 : Below w6.heap.size w6 w7 := by
    rw [← hw7]
    exact ((Below.refl _ w6).alloc (Nat.le_refl _) _).alloc (by simp) _
  have o9 : One w7 (w6.heap.size + 1) (.slice Ar (digs 4294967296 R).length cr) 28 := by
    have := One.new (w6.alloc (.cells #[.slice Aq (digs 4294967296 (x / y)).length cq] 28)) (.slice Ar (digs 4294967296 R).length cr) 28
    rw [hw7] at this
    simpa using this
  have hb37 := hb36.trans (hb67.mono (by omega))
  have hNr : IsNat w7 (.agg #[.slice Ar (digs 4294967296 R).length cr]) R := IsNat.below ⟨_, rfl, Ar, cr, rfl, hcr, hAr⟩ hb67
  have c2 := (o2.step hb37).cell
  go_wp2_with fail
  clear hw7
  refine (HV.out _ hb37).mono ?_
  rintro e w8 ⟨rfl, hb8⟩
  have hb38 := hb37.trans (hb8.mono hb37.size)
  have c9 := (o9.step hb8).cell
  go_wp2_with fail
  refine (HR.out _ _ (hNr.below hb8)).mono ?_
  rintro e w9 ⟨rfl, hb9⟩
  have hb39 := hb38.trans (hb9.mono hb38.size)
  go_wp2_with fail
  have O3 := o3.step hb39
  have hlow : Below w.heap.size w w9 := hb3.trans (hb39.mono hb3.size)
  clear hb39 hb38 hb37 hb36 hb9 hb8 hb67 hNr o9 c9 c2 c1 hAr hAq d1 d2 HD HV HR hb6 hb5 o1 o2
  go_loopw [11, 13] (fun X Y wr => GcdR (Nat.gcd x y) X Y ∧ Below w9.heap.size w9 wr) (fun _ Y _ => (intOf Y).toNat)
  case atStart => exact ⟨⟨y, R, rfl, rfl, Hy.out, Hr1.out, hG.out⟩, Below.refl _ _⟩
  case round =>
    obtain ⟨⟨X, Y, rfl, rfl, hX, hY, hgc⟩, hbr⟩ := hrel
    by_cases h0 : Y = 0
    · subst h0
      have hO := natOf_any (w := wr) (X : Int) (by omega) (by omega)
      rw [Int.toNat_natCast] at hO
      rw [Nat.gcd_zero_right] at hgc
      subst hgc
      have o3r := O3.step hbr
      have hlr : Below w.heap.size w wr := hlow.trans (hbr.mono hlow.size)
      clear hX hY hG
      go_wp2_with fail
      refine hO.mono ?_
      rintro e w10 ⟨v, rfl, ⟨sg, rfl, Ag, cg, rfl, hcg, hAg⟩, hb10⟩
      have c3 := (o3r.step hb10).cell
      have f3 := (o3r.step hb10).frozen
      go_wp2_with fail
      have r3 := (o3r.step hb10).set_ (.slice Ag (digs 4294967296 (Nat.gcd x y)).length cg)
      refine bodyPost_ret (v := .agg #[.slice Ag (digs 4294967296 (Nat.gcd x y)).length cg]) (by simp [results, Tryz.results88, go_sem, r3.cell]) rfl ?_
      refine ⟨_, rfl, ?_, ?_⟩
      · exact IsNat.far ⟨_, rfl, Ag, cg, rfl, hcg, hAg⟩ (p := ⟨w.heap.size + 1 + 1, 0, none⟩) (o3r.step hb10).row (by decide) _
      · exact (hlr.trans (hb10.mono hlr.size)).setCell (by show w.heap.size ≤ w.heap.size + 1 + 1; omega) _
    · have hp : ¬ ((Y : Int) = 0) := by omega
      have ht : (X : Int).tmod (Y : Int) = ((X % Y : Nat) : Int) := by rw [Int.tmod_eq_emod_of_nonneg (by omega), Int.natCast_emod]
      have hlt : X % Y < Y := Nat.mod_lt _ (by omega)
      have hy2 : 0 < (Y : Int) := by omega
      have hy1 : ((Y : Int) == 0) = false := beq_eq_false_iff_ne.2 (by omega)
      go_wp2_with fail
      go_region
      all_goals (try go_wp2)
      all_goals
        rw [← Int.natCast_emod]
        refine ⟨⟨⟨Y, X % Y, rfl, rfl, hY, by omega, ?_⟩, hbr.drew⟩, ?_⟩
        · rw [← hgc, Nat.gcd_comm Y, ← Nat.gcd_rec, Nat.gcd_comm]
        · show (((X % Y : Nat) : Int)).toNat < ((Y : Nat) : Int).toNat
          rw [Int.toNat_natCast, Int.toNat_natCast]; exact hlt
end Go.Proofs.YthfjbpbgnoonpaaGreatDoor

namespace Go.Proofs.YthfjbpbgnoonpaaGreatDoor
open Go.RowKit

def NumPost (w : World) (k : Nat) (e : Ending) (w' : World) : Prop := ∃ vn vr, e = .returned (.tuple #[vn, vr]) ∧ IsNat w' vn k ∧ LI w' vr (digs 1000000 k) ∧ Below w.heap.size w w'
theorem dec_len12 {k : Nat} (h : k < 4294967296 ^ 12) : (dec k).length ≤ 116 := (dec_len k 116 (by omega) (Nat.lt_of_lt_of_le h (by decide))).1
theorem LI.far {w : World} {v : Value} {ds : List Nat} (h : LI w v ds) {p : Addr} {P : Option Addr} {m n : Nat} (hp : w.cell? p = some (.slice P m n)) (u : Value) : LI (w.setCell p u) v ds := by
  obtain ⟨A, c, h1, h2, h3⟩ := h
  refine ⟨A, c, h1, h2, fun i hi => ?_⟩
  obtain ⟨a, ha, hlt, hcell⟩ := h3 i hi
  refine ⟨a, ha, by simpa using hlt, (World.cell?_setCell_other w p _ u ?_).trans hcell⟩
  intro e
  rw [← e, hp] at hcell
  simp [i64f] at hcell

end Go.Proofs.YthfjbpbgnoonpaaGreatDoor

namespace Go.Proofs.YthfjbpbgnoonpaaGreatDoor
open Go.RowKit

theorem dec_of (ds : List Nat) (k : Nat) (h : ∀ d ∈ ds, d < 10) (hs : strip ds = ds) (hv : val 10 ds = k) (hk : k ≠ 0) : dec k = txt ds := by
  unfold dec
  rw [if_neg hk, ← hv, ← strip_digs (by omega) ds h, hs]
theorem dec_e19 : (⟨(dec (4294967296 * 4294967296)).toArray⟩ : ByteArray) = ⟨#[49, 56, 52, 52, 54, 55, 52, 52, 48, 55, 51, 55, 48, 57, 53, 53, 49, 54, 49, 54]⟩ := by
  rw [dec_of [6, 1, 6, 1, 5, 5, 9, 0, 7, 3, 7, 0, 4, 4, 7, 6, 4, 4, 8, 1] _ (by decide) (by decide) (by decide) (by decide)]
  rfl
theorem dec_e3 : (⟨(dec (17 / 5)).toArray⟩ : ByteArray) = ⟨#[51]⟩ := by
  rw [dec_of [3] _ (by decide) (by decide) (by decide) (by decide)]; rfl
theorem dec_e2 : (⟨(dec (17 % 5)).toArray⟩ : ByteArray) = ⟨#[50]⟩ := by
  rw [dec_of [2] _ (by decide) (by decide) (by decide) (by decide)]; rfl
theorem dec_e6 : (⟨(dec (Nat.gcd 12 18)).toArray⟩ : ByteArray) = ⟨#[54]⟩ := by
  rw [dec_of [6] _ (by decide) (by decide) (by decide) (by decide)]; rfl
theorem bits_65 : (if 4294967296 * 4294967296 = 0 then 0 else (bitsOf (4294967296 * 4294967296) : Int)) = 65 := by
  rw [if_neg (by decide)]
  unfold bitsOf
  have h : digs 4294967296 (4294967296 * 4294967296) = [0, 0, 1] := by
    rw [show (4294967296 * 4294967296 : Nat) = val 4294967296 [0, 0, 1] from rfl, ← strip_digs (by omega) _ (by decide)]
    rfl
  rw [h]
  rfl
theorem no_007 : ¬ isTextB (⟨#[48, 48, 55]⟩ : ByteArray) := by
  intro h
  exact absurd (h.2.1 (by decide) rfl) (by decide)

theorem isNat_digs {w : World} {v : Value} {k : Nat} (h : IsNat w v k) : ∃ A n c, n = (digs 4294967296 k).length ∧ v = .agg #[.slice A n c] := by
  obtain ⟨s, rfl, A, c, rfl, hc, hA⟩ := h
  exact ⟨A, _, c, rfl, rfl⟩
theorem of_new (n k : Nat) (h : n < 18446744073709551616) (hk : n = k) {w : World} : Calls Tryz.prog 26 #[.int .u64 (n : Int)] w (NewN w k) := by
  have := natOf_any (w := w) (n : Int) (by omega) (by omega)
  rw [Int.toNat_natCast, hk] at this
  rw [hk]
  exact this

end Go.Proofs.YthfjbpbgnoonpaaGreatDoor

namespace Go.Proofs.YthfjbpbgnoonpaaGreatDoor
open Go.RowKit

theorem dec_zero : (⟨(dec 0).toArray⟩ : ByteArray) = ⟨#[48]⟩ := rfl
theorem cmpI_self (k : Nat) : cmpI k k = 0 := by unfold cmpI; simp

end Go.Proofs.YthfjbpbgnoonpaaGreatDoor

namespace Go.Proofs.YthfjbpbgnoonpaaGreatDoor
open Go.RowKit

theorem val_drop_step (b : Nat) (ds : List Nat) (j : Nat) (hj : j < ds.length) : val b (ds.drop j) = ds.getD j 0 + b * val b (ds.drop (j + 1)) := by
  rw [drop_cons ds j hj]; rfl
theorem val_drop_le (b : Nat) (hb : 1 ≤ b) (ds : List Nat) : ∀ j, val b (ds.drop j) ≤ val b ds := by
  intro j
  rcases Nat.lt_or_ge j ds.length with h | h
  · have h1 := val_append b (ds.take j) (ds.drop j)
    rw [List.take_append_drop] at h1
    have h2 : 1 ≤ b ^ (ds.take j).length := Nat.one_le_pow _ _ hb
    have h3 : 1 * val b (ds.drop j) ≤ b ^ (ds.take j).length * val b (ds.drop j) := Nat.mul_le_mul_right _ h2
    omega
  · rw [List.drop_of_length_le h]; simp [val]

set_option maxRecDepth 100000 in
set_option maxHeartbeats 2000000 in
theorem refUint64_any {v : Value} {k : Nat} {w : World} (hlen : (digs 1000000 k).length ≤ 100000) (hv : LI w v (digs 1000000 k)) :
    Calls Tryz.prog 110 #[v] w fun e w' => e = U64Spec k ∧ w' = w := by
  obtain ⟨A, c, rfl, hc, hA⟩ := hv
  obtain ⟨ds, hds⟩ : ∃ ds, ds = digs 1000000 k := ⟨_, rfl⟩
  have HD : Hid (∀ d ∈ ds, d < 1000000) := by rw [hds]; exact digs_lt (by omega) k
  have HV : Hid (val 1000000 ds = k) := by rw [hds]; exact val_digs (by omega) k
  rw [← hds] at hlen hc hA ⊢
  have HA := Lib.hid hA
  clear hds hA
  go_enter Tryz.func110, Tryz.ntmps110
  go_wp2
  go_loop [4, 5, 6] (fun n i _ => ∃ nn j : Nat, n = .int .u64 nn ∧ i = .int .i64 ((j : Int) - 1) ∧ j ≤ ds.length ∧ nn < 18446744073709551616 ∧ Hid (nn = val 1000000 (ds.drop j))) (fun _ i _ => (intOf i + 1).toNat)
  case atStart => exact ⟨0, ds.length, rfl, rfl, by omega, by omega, by unfold Hid; rw [List.drop_length]; rfl⟩
  case round =>
    obtain ⟨nn, j, rfl, rfl, hj, hnn, HN⟩ := hrel
    by_cases hj0 : 0 < j
    · obtain ⟨i, rfl⟩ : ∃ i, j = i + 1 := ⟨j - 1, by omega⟩
      obtain ⟨a, rfl, hab, hcell0⟩ := HA.out i (by omega)
      obtain ⟨g, hg⟩ : ∃ g, g = ds.getD i 0 := ⟨_, rfl⟩
      have hg1 : g < 1000000 := by rw [hg]; exact getD_lt HD.out i (by omega)
      have hst : val 1000000 (ds.drop i) = g + 1000000 * nn := by rw [val_drop_step 1000000 ds i (by omega), ← hg, ← HN.out]
      have hcell : w.cell? (a.add i) = some (.int .i64 g) := by rw [hcell0, hg]; rfl
      have hle := val_drop_le 1000000 (by omega) ds i
      rw [HV.out, hst] at hle
      have HST := Lib.hid hst
      have he0 : ((i + 1 : Nat) : Int) - 1 = (i : Int) := by omega
      have he1 : ((i : Int)).toNat = i := Int.toNat_natCast i
      have hgw : IntKind.u64.wrap (g : Int) = (g : Int) := IntWalk.u64_in _ ⟨by omega, by omega⟩
      have hgs : IntKind.u64.wrap (18446744073709551615 - (g : Int)) = 18446744073709551615 - (g : Int) := IntWalk.u64_in _ ⟨by omega, by omega⟩
      rw [he0]
      by_cases hbig : (18446744073709551615 - g) / 1000000 < nn
      · have hsp : U64Spec k = .returned (.tuple #[.int .u64 0, .bool false]) := by unfold U64Spec; rw [if_neg (by omega)]
        have HSP := Lib.hid hsp
        have hq : (18446744073709551615 - (g : Int)) / 1000000 < (nn : Int) := by omega
        clear hg hst hcell0 hle hsp he0 hbig
        go_wp2
        go_ret2
        exact ⟨HSP.out.symm, rfl⟩
      · have hq : ¬ (18446744073709551615 - (g : Int)) / 1000000 < (nn : Int) := by omega
        have hm1 : IntKind.u64.wrap ((nn : Int) * 1000000) = (nn : Int) * 1000000 := IntWalk.u64_in _ ⟨by omega, by omega⟩
        have hm2 : IntKind.u64.wrap ((nn : Int) * 1000000 + (g : Int)) = (nn : Int) * 1000000 + (g : Int) := IntWalk.u64_in _ ⟨by omega, by omega⟩
        have hfit : g + 1000000 * nn < 18446744073709551616 := by omega
        clear hg hst hcell0 hle he0 hbig
        go_wp2
        refine ⟨⟨nn * 1000000 + g, i, by rw [Int.natCast_add, Int.natCast_mul]; rfl, rfl, by omega, by omega, ?_⟩, ?_⟩
        · unfold Hid
          rw [HST.out]
          omega
        · show ((i : Int) - 1 + 1).toNat < ((i : Int) + 1).toNat
          omega
    · obtain rfl : j = 0 := by omega
      have hkn : nn = k := by rw [HN.out, ← HV.out]; rfl
      subst hkn
      have hsp : U64Spec nn = .returned (.tuple #[.int .u64 (nn : Int), .bool true]) := by unfold U64Spec; rw [if_pos hnn]
      have HSP := Lib.hid hsp
      clear hsp
      go_wp2
      go_ret2
      exact ⟨HSP.out.symm, rfl⟩
end Go.Proofs.YthfjbpbgnoonpaaGreatDoor

namespace Go.Proofs.YthfjbpbgnoonpaaGreatDoor
open Go.RowKit

def bl (k : Nat) : Nat := if k = 0 then 0 else Nat.log2 k + 1
theorem bl_zero : bl 0 = 0 := rfl
theorem bl_half (k : Nat) (h : 0 < k) : bl k = bl (k / 2) + 1 := by
  unfold bl
  rw [if_neg (by omega)]
  rw [Nat.log2_def]
  by_cases h2 : 2 ≤ k
  · rw [if_pos h2, if_neg (by omega)]
  · rw [if_neg h2, if_pos (by omega)]
theorem bl_shift : ∀ (j k : Nat), 2 ^ j ≤ k → bl k = j + bl (k / 2 ^ j)
  | 0, k, _ => by simp
  | j + 1, k, h => by
    have hp : 0 < 2 ^ j := Nat.pow_pos (by omega)
    have h1 : 2 ^ j ≤ k / 2 := by rw [Nat.le_div_iff_mul_le (by omega)]; rw [Nat.pow_succ] at h; omega
    rw [bl_half k (by rw [Nat.pow_succ] at h; omega), bl_shift j (k / 2) h1, Nat.div_div_eq_div_mul, show 2 * 2 ^ j = 2 ^ (j + 1) by rw [Nat.pow_succ, Nat.mul_comm]]
    omega
theorem bitLen_bl : ∀ (f x : Nat), x ≤ f → x < 18446744073709551616 → Lib.bitLen x = bl x
  | 0, x, h, _ => by obtain rfl : x = 0 := by omega
                     rfl
  | f + 1, x, h, hx => by
    by_cases h0 : x = 0
    · subst h0; rfl
    · rw [Lib.bitLen_half x h0 hx, bl_half x (by omega), bitLen_bl f (x / 2) (by omega) (by omega)]
      omega
theorem bitsOf_small {k : Nat} (h0 : 0 < k) (h : k < 4294967296) : bitsOf k = bl k := by
  unfold bitsOf
  rw [digs_one h0 h]
  show (1 - 1) * 32 + Lib.bitLen k = bl k
  rw [bitLen_bl k k (Nat.le_refl _) (by omega)]
  omega
theorem bitsOf_bl : ∀ (f k : Nat), k ≤ f → 0 < k → bitsOf k = bl k
  | 0, k, h, h0 => by omega
  | f + 1, k, h, h0 => by
    by_cases hs : k < 4294967296
    · exact bitsOf_small h0 hs
    · have hr := bitsOf_bl f (k / 4294967296) (by omega) (by omega)
      have hp := digs_pos 4294967296 k (by omega) h0
      have hq : 0 < (digs 4294967296 (k / 4294967296)).length := by rw [digs_pos 4294967296 (k / 4294967296) (by omega) (by omega)]; simp
      rw [bl_shift 32 k (by show (4294967296 : Nat) ≤ k; omega), show (2 : Nat) ^ 32 = 4294967296 from rfl, ← hr]
      unfold bitsOf
      rw [hp]
      obtain ⟨d, ds, hd⟩ : ∃ d ds, digs 4294967296 (k / 4294967296) = d :: ds := by
        cases hc : digs 4294967296 (k / 4294967296) with
        | nil => rw [hc] at hq; simp at hq
        | cons d ds => exact ⟨d, ds, rfl⟩
      rw [hd]
      simp only [List.length_cons, List.getLast?_cons_cons]
      omega
theorem bits_any (k : Nat) : (if k = 0 then 0 else (bitsOf k : Int)) = (bl k : Int) := by
  by_cases h : k = 0
  · subst h; rfl
  · rw [if_neg h, bitsOf_bl k k (Nat.le_refl _) (by omega)]
end Go.Proofs.YthfjbpbgnoonpaaGreatDoor

namespace Go.Proofs.YthfjbpbgnoonpaaGreatDoor
open Go.RowKit

def halfN (ds : List Nat) (i : Nat) : Nat := val 1000000 (ds.drop i) / 2 % 1000000
def halfF (ds : List Nat) (j i : Nat) : Value := .int .i64 ((if i < j then 0 else halfN ds i : Nat) : Int)
def halves (ds : List Nat) : List Nat := (List.range ds.length).map (halfN ds)
theorem halves_len (ds : List Nat) : (halves ds).length = ds.length := by simp [halves]
theorem halves_lt (ds : List Nat) : ∀ d ∈ halves ds, d < 1000000 := by
  intro d hd
  obtain ⟨i, _, rfl⟩ := List.mem_map.1 hd
  exact Nat.mod_lt _ (by omega)
theorem halves_at (ds : List Nat) (i : Nat) (hi : i < ds.length) : (halves ds).getD i 0 = halfN ds i := by
  simp [halves, List.getD, hi]
theorem halves_drop (ds : List Nat) (hd : ∀ d ∈ ds, d < 1000000) : ∀ (n i : Nat), i + n = ds.length → val 1000000 ((halves ds).drop i) = val 1000000 (ds.drop i) / 2
  | 0, i, h => by
    rw [List.drop_of_length_le (by rw [halves_len]; omega), List.drop_of_length_le (by omega)]
    rfl
  | n + 1, i, h => by
    have ih := halves_drop ds hd n (i + 1) (by omega)
    have hlt := getD_lt hd i (by omega)
    rw [val_drop_step 1000000 (halves ds) i (by rw [halves_len]; omega), halves_at ds i (by omega), ih]
    unfold halfN
    rw [val_drop_step 1000000 ds i (by omega)]
    omega
theorem halves_val (ds : List Nat) (hd : ∀ d ∈ ds, d < 1000000) : val 1000000 (halves ds) = val 1000000 ds / 2 := halves_drop ds hd ds.length 0 (by omega)

end Go.Proofs.YthfjbpbgnoonpaaGreatDoor

namespace Go.Proofs.YthfjbpbgnoonpaaGreatDoor
open Go.RowKit

theorem bl_le : ∀ (m k : Nat), k < 2 ^ m → bl k ≤ m
  | 0, k, h => by obtain rfl : k = 0 := by simp at h; exact h
                  exact Nat.le_refl _
  | m + 1, k, h => by
    by_cases h0 : k = 0
    · subst h0; rw [bl_zero]; omega
    · rw [bl_half k (by omega)]
      have := bl_le m (k / 2) (by rw [Nat.pow_succ] at h; omega)
      omega
theorem bl_le32 (k m : Nat) (h : k < 4294967296 ^ m) : bl k ≤ 32 * m := by
  have e : (4294967296 : Nat) = 2 ^ 32 := rfl
  rw [e, ← Nat.pow_mul] at h
  exact bl_le _ _ h
theorem u64Spec_form (k : Nat) : ∃ (a : Nat) (b : Bool), U64Spec k = .returned (.tuple #[.int .u64 (a : Int), .bool b]) := by
  unfold U64Spec
  by_cases h : k < 18446744073709551616
  · rw [if_pos h]; exact ⟨k, true, rfl⟩
  · rw [if_neg h]; exact ⟨0, false, rfl⟩

end Go.Proofs.YthfjbpbgnoonpaaGreatDoor

namespace Go.Proofs.YthfjbpbgnoonpaaGreatDoor
open Go.RowKit

theorem val_less {b : Nat} {xs ys : List Nat} (hx : ∀ d ∈ xs, d < b) (k : Nat) (hkx : k < xs.length) (hky : k < ys.length) (ht : xs.drop (k + 1) = ys.drop (k + 1)) (hlt : xs.getD k 0 < ys.getD k 0) : val b xs < val b ys := by
  rw [val_at b xs k hkx, val_at b ys k hky, ht]
  have h1 := val_lt (b := b) (xs.take k) (fun d hd => hx d (List.mem_of_mem_take hd))
  rw [List.length_take, Nat.min_eq_left (by omega)] at h1
  have h2 : b ^ k * (xs.getD k 0 + 1 + b * val b (ys.drop (k + 1))) ≤ b ^ k * (ys.getD k 0 + b * val b (ys.drop (k + 1))) := Nat.mul_le_mul_left _ (by omega)
  have h3 : b ^ k * (xs.getD k 0 + 1 + b * val b (ys.drop (k + 1))) = b ^ k * (xs.getD k 0 + b * val b (ys.drop (k + 1))) + b ^ k := by
    rw [Nat.add_right_comm, Nat.mul_add, Nat.mul_one]
  omega
theorem digs6_shorter {x y : Nat} (h : (digs 1000000 x).length < (digs 1000000 y).length) : x < y := by
  have h1 := val_lt (b := 1000000) (digs 1000000 x) (digs_lt (by omega) x)
  have hne : digs 1000000 y ≠ [] := by intro e; rw [e] at h; simp at h
  have h2 := val_ge (b := 1000000) (by omega) (digs_canon (by omega) y).1 hne
  rw [val_digs (by omega)] at h1 h2
  have h3 : (1000000 : Nat) ^ (digs 1000000 x).length ≤ 1000000 ^ ((digs 1000000 y).length - 1) := Nat.pow_le_pow_right (by omega) (by omega)
  omega

set_option maxRecDepth 100000 in
set_option maxHeartbeats 2000000 in
theorem refCmp_any {u v : Value} {x y : Nat} {w : World} (hlx : (digs 1000000 x).length ≤ 100000) (_hly : (digs 1000000 y).length ≤ 100000) (hu : LI w u (digs 1000000 x)) (hv : LI w v (digs 1000000 y)) :
    Calls Tryz.prog 80 #[u, v] w fun e w' => e = .returned (.int .i64 (cmpI x y)) ∧ Below w.heap.size w w' := by
  obtain ⟨A, ca, rfl, hca, hA⟩ := hu
  obtain ⟨B, cb, rfl, hcb, hB⟩ := hv
  by_cases hs : (digs 1000000 x).length < (digs 1000000 y).length
  · have hlt := digs6_shorter hs
    have hci : cmpI x y = -1 := by unfold cmpI; rw [if_pos hlt]
    rw [hci]
    clear hA hB hlt hci
    go_enter Tryz.func80, Tryz.ntmps80
    go_wp2
    go_ret
    exact ⟨rfl, Below.refl _ _⟩
  · by_cases hg : (digs 1000000 y).length < (digs 1000000 x).length
    · have hlt := digs6_shorter hg
      have hci : cmpI x y = 1 := by unfold cmpI; rw [if_neg (by omega), if_pos hlt]
      rw [hci]
      clear hA hB hlt hci
      go_enter Tryz.func80, Tryz.ntmps80
      go_wp2
      go_ret
      exact ⟨rfl, Below.refl _ _⟩
    · obtain ⟨xs, hxs⟩ : ∃ xs, xs = digs 1000000 x := ⟨_, rfl⟩
      obtain ⟨ys, hys⟩ : ∃ ys, ys = digs 1000000 y := ⟨_, rfl⟩
      have HX : Hid (∀ d ∈ xs, d < 1000000) := by rw [hxs]; exact digs_lt (by omega) x
      have HY : Hid (∀ d ∈ ys, d < 1000000) := by rw [hys]; exact digs_lt (by omega) y
      have VX : Hid (val 1000000 xs = x) := by rw [hxs]; exact val_digs (by omega) x
      have VY : Hid (val 1000000 ys = y) := by rw [hys]; exact val_digs (by omega) y
      rw [← hxs] at hlx hca hA hs hg ⊢
      rw [← hys] at hcb hB hs hg ⊢
      have hl : Hid (xs.length = ys.length) := by unfold Hid; omega
      have HA := Lib.hid hA
      have HB := Lib.hid hB
      clear hxs hys hA hB
      go_enter Tryz.func80, Tryz.ntmps80
      go_wp2
      go_loopw [5] (fun i wr => ∃ j : Nat, i = .int .i64 ((j : Int) - 1) ∧ j ≤ xs.length ∧ Hid (xs.drop j = ys.drop j) ∧ Below w.heap.size w wr) (fun i _ => (intOf i + 1).toNat)
      case atStart => exact ⟨xs.length, rfl, Nat.le_refl _, by unfold Hid; rw [List.drop_length, hl.out, List.drop_length], Below.refl _ _⟩
      case round =>
        obtain ⟨j, rfl, hj, HE, hbw⟩ := hrel
        by_cases hj0 : 0 < j
        · obtain ⟨i, rfl⟩ : ∃ i, j = i + 1 := ⟨j - 1, by omega⟩
          obtain ⟨a, rfl, hab, hcella⟩ := HA.out i (by omega)
          obtain ⟨b, rfl, hbb, hcellb⟩ := HB.out i (by have := hl.out; omega)
          obtain ⟨p, hp⟩ : ∃ p, p = xs.getD i 0 := ⟨_, rfl⟩
          obtain ⟨q, hq⟩ : ∃ q, q = ys.getD i 0 := ⟨_, rfl⟩
          have hca1 : wr.cell? (a.add i) = some (.int .i64 p) := by rw [hbw.cell (by rw [add_block]; exact hab), hcella, hp]; rfl
          have hcb1 : wr.cell? (b.add i) = some (.int .i64 q) := by rw [hbw.cell (by rw [add_block]; exact hbb), hcellb, hq]; rfl
          have hca2 : wr.drew.cell? (a.add i) = some (.int .i64 p) := hca1
          have hcb2 : wr.drew.cell? (b.add i) = some (.int .i64 q) := hcb1
          have hca3 : wr.drew.drew.cell? (a.add i) = some (.int .i64 p) := hca1
          have hcb3 : wr.drew.drew.cell? (b.add i) = some (.int .i64 q) := hcb1
          have he0 : ((i + 1 : Nat) : Int) - 1 = (i : Int) := by omega
          have he1 : ((i : Int)).toNat = i := Int.toNat_natCast i
          have hiy : i < ys.length := by have := hl.out; omega
          have hLT : p < q → cmpI x y = -1 := fun h => by
            have := val_less HX.out i (by omega) hiy HE.out (by rw [← hp, ← hq]; exact h)
            rw [VX.out, VY.out] at this
            unfold cmpI; rw [if_pos this]
          have hGT : q < p → cmpI x y = 1 := fun h => by
            have := val_less HY.out i hiy (by omega) HE.out.symm (by rw [← hp, ← hq]; exact h)
            rw [VX.out, VY.out] at this
            unfold cmpI; rw [if_neg (by omega), if_pos this]
          have hEQ : p = q → Hid (xs.drop i = ys.drop i) := fun h => by
            unfold Hid
            rw [drop_cons xs i (by omega), drop_cons ys i hiy, ← hp, ← hq, h, HE.out]
          have HLT := Lib.hid hLT
          have HGT := Lib.hid hGT
          have HEQ := Lib.hid hEQ
          rw [he0]
          clear hp hq hcella hcellb hLT hGT hEQ he0
          by_cases h1 : p < q
          · have hr := HLT.out h1
            go_wp2
            go_region
            all_goals (try go_wp2)
            all_goals go_ret
            all_goals exact ⟨by rw [hr]; rfl, hbw.drew⟩
          · by_cases h2 : q < p
            · have hr := HGT.out h2
              go_wp2
              go_region
              all_goals (try go_wp2)
              all_goals go_region
              all_goals (try go_wp2)
              all_goals go_ret
              all_goals exact ⟨by rw [hr]; rfl, hbw.drew.drew⟩
            · have he := HEQ.out (by omega)
              go_wp2
              go_region
              all_goals (try go_wp2)
              all_goals go_region
              all_goals (try go_wp2)
              all_goals
                refine ⟨⟨i, rfl, by omega, he, hbw.drew.drew⟩, ?_⟩
                show ((i : Int) - 1 + 1).toNat < ((i : Int) + 1).toNat
                omega
        · obtain rfl : j = 0 := by omega
          have hxy : x = y := by
            have := HE.out
            rw [← VX.out, ← VY.out]
            simpa using congrArg (val 1000000) this
          have hci : cmpI x y = 0 := by rw [hxy]; exact cmpI_self y
          have HCI := Lib.hid hci
          clear hci hxy
          go_wp2
          go_ret
          exact ⟨by rw [HCI.out]; rfl, hbw⟩
end Go.Proofs.YthfjbpbgnoonpaaGreatDoor
