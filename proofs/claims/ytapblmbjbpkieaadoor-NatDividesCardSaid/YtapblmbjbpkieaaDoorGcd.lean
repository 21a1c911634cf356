/- Contract of package nat's DivMod on numbers below 2^64. Contract of package nat's GCD on numbers below 2^64. -/
import Derived.Test.YtapblmbjbpkieaaDoorMulB
namespace Go.Proofs.YtapblmbjbpkieaaDoor
open Go.RowKit

def DivOk (w : World) (q r : Nat) (e : Ending) (w' : World) : Prop := ∃ vq vr, e = .returned (.tuple #[vq, vr, .int .i64 0]) ∧ IsNat w' vq q ∧ IsNat w' vr r ∧ Below w.heap.size w w'
theorem isNat_zero (w : World) : IsNat w (.agg #[.slice none 0 0]) 0 := ⟨_, rfl, none, 0, rfl, Nat.le_refl _, .inl rfl, fun i hi => by simp [digs_zero] at hi⟩
theorem digs_small {k : Nat} (h : k < 18446744073709551616) : (digs 4294967296 k).length ≤ 2 := digs_len (by omega) (by rw [show (4294967296 : Nat) ^ 2 = 18446744073709551616 from rfl]; exact h)
theorem IsNat.far {w : World} {v : Value} {k : Nat} (h : IsNat w v k) {p : Addr} {e' : TypeId} (hp : IsRow w e' p.block) (hne : 71 ≠ e') (u : Value) : IsNat (w.setCell p u) v k := by
  obtain ⟨s, rfl, hs⟩ := h
  exact ⟨s, rfl, hs.far hp hne u⟩
theorem IsNat.drew {w : World} {v : Value} {k : Nat} (h : IsNat w v k) : IsNat w.drew v k := h
theorem IsNat.drewN {w : World} {v : Value} {k : Nat} (h : IsNat w v k) (n : Nat) : IsNat (w.drewN n) v k := h

set_option maxRecDepth 100000 in
set_option maxHeartbeats 2000000 in
theorem divMod_less {u v : Value} {x y : Nat} {w : World} (hx : x < 18446744073709551616) (hy : y < 18446744073709551616) (hlt : x < y) (hu : IsNat w u x) (hv : IsNat w v y) :
    Calls Tryd.prog 27 #[u, v] w (DivOk w 0 x) := by
  obtain ⟨s, rfl, A, ca, rfl, hca, hA⟩ := hu
  obtain ⟨t, rfl, B, cb, rfl, hcb, hB⟩ := hv
  have hlx := digs_small hx
  have hly := digs_small hy
  obtain ⟨n, hn⟩ : ∃ n, n = (digs 4294967296 x).length := ⟨_, rfl⟩
  obtain ⟨m, hm⟩ : ∃ m, m = (digs 4294967296 y).length := ⟨_, rfl⟩
  obtain ⟨w4, hw4⟩ : ∃ w4, ((((w.alloc (.cells #[.slice A n ca] 26)).alloc (.cells #[.slice B m cb] 26)).alloc (.cells #[.slice none 0 0] 26)).alloc (.cells #[.slice none 0 0] 26)) = w4 := ⟨_, rfl⟩
  have hb4 : Below w.heap.size w w4 := by
    rw [← hw4]
    exact ((((Below.refl _ w).alloc (Nat.le_refl _) _).alloc (by simp) _).alloc (by simp; omega) _).alloc (by simp; omega) _
  have o1 : One w4 w.heap.size (.slice A n ca) 26 := by rw [← hw4]; exact (((One.new w _ _).alloc _).alloc _).alloc _
  have o2 : One w4 (w.heap.size + 1) (.slice B m cb) 26 := by
    have := ((One.new (w.alloc (.cells #[.slice A n ca] 26)) (.slice B m cb) 26).alloc (.cells #[.slice none 0 0] 26)).alloc (.cells #[.slice none 0 0] 26)
    rw [hw4] at this
    simpa using this
  have o3 : One w4 (w.heap.size + 1 + 1) (.slice none 0 0) 26 := by
    have := (One.new ((w.alloc (.cells #[.slice A n ca] 26)).alloc (.cells #[.slice B m cb] 26)) (.slice none 0 0) 26).alloc (.cells #[.slice none 0 0] 26)
    rw [hw4] at this
    simpa using this
  have o4 : One w4 (w.heap.size + 1 + 1 + 1) (.slice none 0 0) 26 := by
    have := One.new (((w.alloc (.cells #[.slice A n ca] 26)).alloc (.cells #[.slice B m cb] 26)).alloc (.cells #[.slice none 0 0] 26)) (.slice none 0 0) 26
    rw [hw4] at this
    simpa using this
  have hxA : IsNat w4 (.agg #[.slice A n ca]) x := ⟨_, rfl, A, ca, by rw [hn], hca, hA.step hb4⟩
  have hyB : IsNat w4 (.agg #[.slice B m cb]) y := ⟨_, rfl, B, cb, by rw [hm], hcb, hB.step hb4⟩
  have hz := isZero_any (w := w4) (by omega) hyB
  rw [decide_eq_false (show ¬ y = 0 by omega)] at hz
  have HCMP := Lib.hid (fun (W : World) (hb : Below w4.heap.size w4 W) => cmp_any (w := W) (by omega) (by omega) (hxA.below hb) (hyB.below hb))
  have hci : cmpI x y = -1 := by unfold cmpI; rw [if_pos hlt]
  rw [hci] at HCMP
  have HX := Lib.hid hxA
  rw [← hn] at hca hA ⊢
  rw [← hm] at hcb hB ⊢
  clear hA hB hci hn hm hxA hyB hlt
  have d1 := o1.cell
  have d2 := o2.cell
  go_enter Tryd.func27, Tryd.ntmps27
  go_wp2_with fail
  clear hw4
  refine hz.mono ?_
  rintro e w5 ⟨rfl, hb5⟩
  have c1 := (o1.step hb5).cell
  have c2 := (o2.step hb5).cell
  clear hz
  go_wp2_with fail
  refine (HCMP.out _ hb5).mono ?_
  rintro e w6 ⟨rfl, hb6⟩
  have hb46 := hb5.trans (hb6.mono hb5.size)
  have c1 := (o1.step hb46).cell
  have c3 := (o3.step hb46).cell
  have c4 := (o4.step hb46).cell
  have f3 := (o3.step hb46).frozen
  have f4 := (o4.step hb46).frozen
  go_wp2_with fail
  go_region
  all_goals (try go_wp2)
  all_goals
    have r3 := ((o3.step hb46).set_ (.slice none 0 0)).far (p := ⟨w.heap.size + 1 + 1 + 1, 0, none⟩) (by show w.heap.size + 1 + 1 ≠ w.heap.size + 1 + 1 + 1; omega) (.slice A n ca)
    have r4 := ((o4.step hb46).far (p := ⟨w.heap.size + 1 + 1, 0, none⟩) (by show w.heap.size + 1 + 1 + 1 ≠ w.heap.size + 1 + 1; omega) (.slice none 0 0)).set_ (.slice A n ca)
    refine bodyPost_ret (v := .tuple #[.agg #[.slice none 0 0], .agg #[.slice A n ca], .int .i64 0]) (by simp [results, Tryd.results27, go_sem, r3.cell, r4.cell]) rfl ?_
    refine ⟨_, _, rfl, isNat_zero _, ?_, ?_⟩
    · exact ((((HX.out.below hb46).far (p := ⟨w.heap.size + 1 + 1, 0, none⟩) (o3.step hb46).row (by decide) _).far (p := ⟨w.heap.size + 1 + 1 + 1, 0, none⟩) ((o4.step hb46).far (p := ⟨w.heap.size + 1 + 1, 0, none⟩) (by show w.heap.size + 1 + 1 + 1 ≠ w.heap.size + 1 + 1; omega) _).row (by decide) _)).drew
    · exact ((((hb4.trans (hb46.mono hb4.size)).setCell (by show w.heap.size ≤ w.heap.size + 1 + 1; omega) _).setCell (by show w.heap.size ≤ w.heap.size + 1 + 1 + 1; omega) _)).drew
set_option maxRecDepth 100000 in
set_option maxHeartbeats 2000000 in
theorem divMod_ge {u v : Value} {x y : Nat} {w : World} (hx : x < 18446744073709551616) (hy : y < 18446744073709551616) (hlt : y ≤ x) (hy0 : 0 < y) (hu : IsNat w u x) (hv : IsNat w v y) :
    Calls Tryd.prog 27 #[u, v] w (DivOk w (x / y) (x % y)) := by
  obtain ⟨s, rfl, A, ca, rfl, hca, hA⟩ := hu
  obtain ⟨t, rfl, B, cb, rfl, hcb, hB⟩ := hv
  have hlx := digs_small hx
  have hly := digs_small hy
  obtain ⟨n, hn⟩ : ∃ n, n = (digs 4294967296 x).length := ⟨_, rfl⟩
  obtain ⟨m, hm⟩ : ∃ m, m = (digs 4294967296 y).length := ⟨_, rfl⟩
  obtain ⟨w4, hw4⟩ : ∃ w4, ((((w.alloc (.cells #[.slice A n ca] 26)).alloc (.cells #[.slice B m cb] 26)).alloc (.cells #[.slice none 0 0] 26)).alloc (.cells #[.slice none 0 0] 26)) = w4 := ⟨_, rfl⟩
  have hb4 : Below w.heap.size w w4 := by
    rw [← hw4]
    exact ((((Below.refl _ w).alloc (Nat.le_refl _) _).alloc (by simp) _).alloc (by simp; omega) _).alloc (by simp; omega) _
  have o1 : One w4 w.heap.size (.slice A n ca) 26 := by rw [← hw4]; exact (((One.new w _ _).alloc _).alloc _).alloc _
  have o2 : One w4 (w.heap.size + 1) (.slice B m cb) 26 := by
    have := ((One.new (w.alloc (.cells #[.slice A n ca] 26)) (.slice B m cb) 26).alloc (.cells #[.slice none 0 0] 26)).alloc (.cells #[.slice none 0 0] 26)
    rw [hw4] at this
    simpa using this
  have o3 : One w4 (w.heap.size + 1 + 1) (.slice none 0 0) 26 := by
    have := (One.new ((w.alloc (.cells #[.slice A n ca] 26)).alloc (.cells #[.slice B m cb] 26)) (.slice none 0 0) 26).alloc (.cells #[.slice none 0 0] 26)
    rw [hw4] at this
    simpa using this
  have o4 : One w4 (w.heap.size + 1 + 1 + 1) (.slice none 0 0) 26 := by
    have := One.new (((w.alloc (.cells #[.slice A n ca] 26)).alloc (.cells #[.slice B m cb] 26)).alloc (.cells #[.slice none 0 0] 26)) (.slice none 0 0) 26
    rw [hw4] at this
    simpa using this
  have hxA : IsNat w4 (.agg #[.slice A n ca]) x := ⟨_, rfl, A, ca, by rw [hn], hca, hA.step hb4⟩
  have hyB : IsNat w4 (.agg #[.slice B m cb]) y := ⟨_, rfl, B, cb, by rw [hm], hcb, hB.step hb4⟩
  have hz := isZero_any (w := w4) (by omega) hyB
  rw [decide_eq_false (show ¬ y = 0 by omega)] at hz
  have HCMP := Lib.hid (fun (W : World) (hb : Below w4.heap.size w4 W) => cmp_any (w := W) (by omega) (by omega) (hxA.below hb) (hyB.below hb))
  have hci : (cmpI x y = 0 ∨ cmpI x y = 1) := by unfold cmpI; rw [if_neg (by omega)]; split <;> simp
  have HU := Lib.hid (fun (W : World) (hb : Below w4.heap.size w4 W) => uint64_any (w := W) (by omega) (hxA.below hb))
  have HV := Lib.hid (fun (W : World) (hb : Below w4.heap.size w4 W) => uint64_any (w := W) (by omega) (hyB.below hb))
  have hux : U64Spec x = .returned (.tuple #[.int .u64 (x : Int), .bool true]) := by unfold U64Spec; rw [if_pos hx]
  have huy : U64Spec y = .returned (.tuple #[.int .u64 (y : Int), .bool true]) := by unfold U64Spec; rw [if_pos hy]
  rw [hux] at HU
  rw [huy] at HV
  have hq1 : x / y < 18446744073709551616 := Nat.lt_of_le_of_lt (Nat.div_le_self x y) hx
  have hr1 : x % y < 18446744073709551616 := Nat.lt_of_le_of_lt (Nat.mod_le x y) hx
  obtain ⟨c, hcI⟩ : ∃ c, cmpI x y = c := ⟨_, rfl⟩
  rw [hcI] at HCMP hci
  have hc0 : 0 ≤ c := by omega
  rw [← hn] at hca hA ⊢
  rw [← hm] at hcb hB ⊢
  clear hA hB hci hn hm hxA hyB hlt hux huy hcI
  have d1 := o1.cell
  have d2 := o2.cell
  go_enter Tryd.func27, Tryd.ntmps27
  go_wp2_with fail
  clear hw4
  refine hz.mono ?_
  rintro e w5 ⟨rfl, hb5⟩
  have c1 := (o1.step hb5).cell
  have c2 := (o2.step hb5).cell
  clear hz
  go_wp2_with fail
  refine (HCMP.out _ hb5).mono ?_
  rintro e w6 ⟨rfl, hb6⟩
  have hb46 := hb5.trans (hb6.mono hb5.size)
  have c1 := (o1.step hb46).cell
  go_wp2_with fail
  refine (HU.out _ hb46).mono ?_
  rintro e w7 ⟨rfl, hb7⟩
  have hb47 := hb46.trans (hb7.mono hb46.size)
  have c2 := (o2.step hb47).cell
  go_wp2_with fail
  refine (HV.out _ hb47).mono ?_
  rintro e w8 ⟨rfl, hb8⟩
  have hb48 := hb47.trans (hb8.mono hb47.size)
  have H3 := o3.step hb48
  have H4 := o4.step hb48
  have hlow : Below w.heap.size w w8 := hb4.trans (hb48.mono hb4.size)
  obtain ⟨Q, hQ⟩ : ∃ Q : Nat, x / y = Q := ⟨_, rfl⟩
  obtain ⟨R, hR⟩ : ∃ R : Nat, x % y = R := ⟨_, rfl⟩
  have hQ' := Lib.hid hQ
  have hR' := Lib.hid hR
  rw [hQ] at hq1
  rw [hR] at hr1
  have hdq : (x : Int) / (y : Int) = (Q : Int) := by rw [← hQ, Int.natCast_ediv]
  have hdr : (x : Int) % (y : Int) = (R : Int) := by rw [← hR, Int.natCast_emod]
  have htq : (x : Int).tdiv (y : Int) = (Q : Int) := by rw [Int.tdiv_eq_ediv_of_nonneg (by omega), hdq]
  have htr : (x : Int).tmod (y : Int) = (R : Int) := by rw [Int.tmod_eq_emod_of_nonneg (by omega), hdr]
  have hwQ : IntKind.u64.wrap (Q : Int) = (Q : Int) := IntWalk.u64_in _ ⟨by omega, by omega⟩
  have hwR : IntKind.u64.wrap (R : Int) = (R : Int) := IntWalk.u64_in _ ⟨by omega, by omega⟩
  have hOQ := Lib.hid (fun W : World => natOf_any (w := W) (Q : Int) (by omega) (by omega))
  have hOR := Lib.hid (fun W : World => natOf_any (w := W) (R : Int) (by omega) (by omega))
  rw [Int.toNat_natCast] at hOQ hOR
  have hy1 : ((y : Int) == 0) = false := beq_eq_false_iff_ne.2 (by omega)
  have hy2 : 0 < (y : Int) := by omega
  clear hx hy hq1 hr1 hQ hR hlx hly hb48 hb47 hb46 hb8 hb7 hb6 hb5 HU HV HCMP o1 o2 o3 o4 c1 c2
  go_wp2_with fail
  go_region_with (first
    | (go_at_call_of 33 (Q : Int); refine (hOQ.out _).mono ?_; rintro e w9 ⟨vq, rfl, ⟨sq, rfl, Aq, cq, rfl, hcq, hAq⟩, hb9⟩; have K3 : One w9 _ _ _ := One.step (w := w8.drew) H3 hb9; have K4 : One w9 _ _ _ := One.step (w := w8.drew) H4 hb9)
    | (go_at_call_of 33 (R : Int); refine (hOR.out _).mono ?_; rintro e w10 ⟨vr, rfl, ⟨sr, rfl, Ar, cr, rfl, hcr, hAr⟩, hb10⟩; have L3 : One w10 _ _ _ := K3.step hb10; have L4 : One w10 _ _ _ := K4.step hb10; have l3 := L3.frozen; have l4 := L4.frozen; have l5 := L3.cell; have l6 := L4.cell))
  all_goals (try go_wp2)
  all_goals
    have r3 := (L3.set_ (.slice Aq (digs 4294967296 Q).length cq)).far (p := ⟨w.heap.size + 1 + 1 + 1, 0, none⟩) (by show w.heap.size + 1 + 1 ≠ w.heap.size + 1 + 1 + 1; omega) (.slice Ar (digs 4294967296 R).length cr)
    have r4 := (L4.far (p := ⟨w.heap.size + 1 + 1, 0, none⟩) (by show w.heap.size + 1 + 1 + 1 ≠ w.heap.size + 1 + 1; omega) (.slice Aq (digs 4294967296 Q).length cq)).set_ (.slice Ar (digs 4294967296 R).length cr)
    refine bodyPost_ret (v := .tuple #[.agg #[.slice Aq (digs 4294967296 Q).length cq], .agg #[.slice Ar (digs 4294967296 R).length cr], .int .i64 0]) (by simp [results, Tryd.results27, go_sem, r3.cell, r4.cell]) rfl ?_
    have hQf := hQ'.out
    have hRf := hR'.out
    have hlo9 : Below w.heap.size w w9 := hlow.drew.trans (Below.mono (w := w8.drew) hb9 hlow.size)
    have hlo10 : Below w.heap.size w w10 := hlo9.trans (hb10.mono hlo9.size)
    refine ⟨_, _, rfl, ?_, ?_, ?_⟩
    · rw [hQf]
      exact (IsNat.far (IsNat.far (IsNat.below ⟨_, rfl, Aq, cq, rfl, hcq, hAq⟩ hb10) (p := ⟨w.heap.size + 1 + 1, 0, none⟩) L3.row (by decide) _) (p := ⟨w.heap.size + 1 + 1 + 1, 0, none⟩) (L4.far (p := ⟨w.heap.size + 1 + 1, 0, none⟩) (by show w.heap.size + 1 + 1 + 1 ≠ w.heap.size + 1 + 1; omega) _).row (by decide) _)
    · rw [hRf]
      exact (IsNat.far (IsNat.far ⟨_, rfl, Ar, cr, rfl, hcr, hAr⟩ (p := ⟨w.heap.size + 1 + 1, 0, none⟩) L3.row (by decide) _) (p := ⟨w.heap.size + 1 + 1 + 1, 0, none⟩) (L4.far (p := ⟨w.heap.size + 1 + 1, 0, none⟩) (by show w.heap.size + 1 + 1 + 1 ≠ w.heap.size + 1 + 1; omega) _).row (by decide) _)
    · exact ((hlo10.setCell (by show w.heap.size ≤ w.heap.size + 1 + 1; omega) _).setCell (by show w.heap.size ≤ w.heap.size + 1 + 1 + 1; omega) _)
end Go.Proofs.YtapblmbjbpkieaaDoor

namespace Go.Proofs.YtapblmbjbpkieaaDoor
open Go.RowKit

theorem divMod_small {u v : Value} {x y : Nat} {w : World} (hx : x < 18446744073709551616) (hy : y < 18446744073709551616) (hy0 : 0 < y) (hu : IsNat w u x) (hv : IsNat w v y) :
    Calls Tryd.prog 27 #[u, v] w (DivOk w (x / y) (x % y)) := by
  by_cases h : x < y
  · rw [Nat.div_eq_of_lt h, Nat.mod_eq_of_lt h]
    exact divMod_less hx hy h hu hv
  · exact divMod_ge hx hy (by omega) hy0 hu hv
def GcdR (G : Nat) (X Y : Value) : Prop := ∃ nx ny : Nat, X = .int .u64 nx ∧ Y = .int .u64 ny ∧ nx < 18446744073709551616 ∧ ny < 18446744073709551616 ∧ Nat.gcd nx ny = G

set_option maxRecDepth 100000 in
set_option maxHeartbeats 2000000 in
theorem gcd_small {u v : Value} {x y : Nat} {w : World} (hx : x < 18446744073709551616) (hy : y < 18446744073709551616) (hy0 : 0 < y) (hu : IsNat w u x) (hv : IsNat w v y) :
    Calls Tryd.prog 29 #[u, v] w (NewN w (Nat.gcd x y)) := by
  obtain ⟨s, rfl, A, ca, rfl, hca, hA⟩ := hu
  obtain ⟨t, rfl, B, cb, rfl, hcb, hB⟩ := hv
  have hlx := digs_small hx
  have hly := digs_small hy
  obtain ⟨n, hn⟩ : ∃ n, n = (digs 4294967296 x).length := ⟨_, rfl⟩
  obtain ⟨m, hm⟩ : ∃ m, m = (digs 4294967296 y).length := ⟨_, rfl⟩
  obtain ⟨w3, hw3⟩ : ∃ w3, (((w.alloc (.cells #[.slice A n ca] 26)).alloc (.cells #[.slice B m cb] 26)).alloc (.cells #[.slice none 0 0] 26)) = w3 := ⟨_, rfl⟩
  have hb3 : Below w.heap.size w w3 := by
    rw [← hw3]
    exact (((Below.refl _ w).alloc (Nat.le_refl _) _).alloc (by simp) _).alloc (by simp; omega) _
  have hs3 : w3.heap.size = w.heap.size + 3 := by rw [← hw3]; simp
  have o1 : One w3 w.heap.size (.slice A n ca) 26 := by rw [← hw3]; exact ((One.new w _ _).alloc _).alloc _
  have o2 : One w3 (w.heap.size + 1) (.slice B m cb) 26 := by
    have := (One.new (w.alloc (.cells #[.slice A n ca] 26)) (.slice B m cb) 26).alloc (.cells #[.slice none 0 0] 26)
    rw [hw3] at this
    simpa using this
  have o3 : One w3 (w.heap.size + 1 + 1) (.slice none 0 0) 26 := by
    have := One.new ((w.alloc (.cells #[.slice A n ca] 26)).alloc (.cells #[.slice B m cb] 26)) (.slice none 0 0) 26
    rw [hw3] at this
    simpa using this
  have hxA : IsNat w3 (.agg #[.slice A n ca]) x := ⟨_, rfl, A, ca, by rw [hn], hca, hA.step hb3⟩
  have hyB : IsNat w3 (.agg #[.slice B m cb]) y := ⟨_, rfl, B, cb, by rw [hm], hcb, hB.step hb3⟩
  have hz := isZero_any (w := w3) (by omega) hyB
  rw [decide_eq_false (show ¬ y = 0 by omega)] at hz
  have HD := Lib.hid (fun (W : World) (hb : Below w3.heap.size w3 W) => divMod_small (w := W) hx hy hy0 (hxA.below hb) (hyB.below hb))
  have HV := Lib.hid (fun (W : World) (hb : Below w3.heap.size w3 W) => uint64_any (w := W) (by omega) (hyB.below hb))
  have huy : U64Spec y = .returned (.tuple #[.int .u64 (y : Int), .bool true]) := by unfold U64Spec; rw [if_pos hy]
  rw [huy] at HV
  obtain ⟨R, hR⟩ : ∃ R : Nat, R = x % y := ⟨_, rfl⟩
  have hr1 : R < 18446744073709551616 := by rw [hR]; exact Nat.lt_of_le_of_lt (Nat.mod_le x y) hx
  have HR := Lib.hid (fun (W : World) (v : Value) (h : IsNat W v R) => uint64_any (w := W) (by have := digs_small hr1; omega) h)
  have hur : U64Spec R = .returned (.tuple #[.int .u64 (R : Int), .bool true]) := by unfold U64Spec; rw [if_pos hr1]
  rw [hur] at HR
  have hG0 : Nat.gcd y R = Nat.gcd x y := by rw [hR, Nat.gcd_comm y, ← Nat.gcd_rec, Nat.gcd_comm]
  have hG := Lib.hid hG0
  clear hG0
  rw [← hR] at HD
  have Hr1 := Lib.hid hr1
  have Hy := Lib.hid hy
  have hm2 : m ≤ 2 := by omega
  rw [← hn] at hca hA ⊢
  rw [← hm] at hcb hB ⊢
  clear hA hB hn hm hxA hyB huy hur hR hr1 hx hy hlx hly
  have d1 := o1.cell
  have d2 := o2.cell
  go_enter Tryd.func29, Tryd.ntmps29
  go_wp2_with fail
  refine wp_loop_rounds 1 ?_
  rw [rounds_succ]
  clear hw3
  go_wp2_with fail
  refine hz.mono ?_
  rintro e w5 ⟨rfl, hb5⟩
  have c1 := (o1.step hb5).cell
  have c2 := (o2.step hb5).cell
  clear hz
  go_wp2_with fail
  refine (HD.out _ hb5).mono ?_
  rintro e w6 ⟨vq, vr, rfl, ⟨sq, rfl, Aq, cq, rfl, hcq, hAq⟩, ⟨sr, rfl, Ar, cr, rfl, hcr, hAr⟩, hb6⟩
  have hb36 := hb5.trans (hb6.mono hb5.size)
  have hs6 : w.heap.size + 3 ≤ w6.heap.size := by have := hb36.size; omega
  obtain ⟨w7, hw7⟩ : ∃ w7, ((w6.alloc (.cells #[.slice Aq (digs 4294967296 (x / y)).length cq] 26)).alloc (.cells #[.slice Ar (digs 4294967296 R).length cr] 26)) = w7 := ⟨_, rfl⟩
  have hb67 : Below w6.heap.size w6 w7 := by
    rw [← hw7]
    exact ((Below.refl _ w6).alloc (Nat.le_refl _) _).alloc (by simp) _
  have o9 : One w7 (w6.heap.size + 1) (.slice Ar (digs 4294967296 R).length cr) 26 := by
    have := One.new (w6.alloc (.cells #[.slice Aq (digs 4294967296 (x / y)).length cq] 26)) (.slice Ar (digs 4294967296 R).length cr) 26
    rw [hw7] at this
    simpa using this
  have hb37 := hb36.trans (hb67.mono (by omega))
  have hNr : IsNat w7 (.agg #[.slice Ar (digs 4294967296 R).length cr]) R := IsNat.below ⟨_, rfl, Ar, cr, rfl, hcr, hAr⟩ hb67
  have c2 := (o2.step hb37).cell
  go_wp2_with fail
  clear hw7
  refine (HV.out _ hb37).mono ?_
  rintro e w8 ⟨rfl, hb8⟩
  have hb38 := hb37.trans (hb8.mono hb37.size)
  have c9 := (o9.step hb8).cell
  go_wp2_with fail
  refine (HR.out _ _ (hNr.below hb8)).mono ?_
  rintro e w9 ⟨rfl, hb9⟩
  have hb39 := hb38.trans (hb9.mono hb38.size)
  go_wp2_with fail
  have O3 := o3.step hb39
  have hlow : Below w.heap.size w w9 := hb3.trans (hb39.mono hb3.size)
  clear hb39 hb38 hb37 hb36 hb9 hb8 hb67 hNr o9 c9 c2 c1 hAr hAq d1 d2 HD HV HR hb6 hb5 o1 o2
  go_loopw [11, 13] (fun X Y wr => GcdR (Nat.gcd x y) X Y ∧ Below w9.heap.size w9 wr) (fun _ Y _ => (intOf Y).toNat)
  case atStart => exact ⟨⟨y, R, rfl, rfl, Hy.out, Hr1.out, hG.out⟩, Below.refl _ _⟩
  case round =>
    obtain ⟨⟨X, Y, rfl, rfl, hX, hY, hgc⟩, hbr⟩ := hrel
    by_cases h0 : Y = 0
    · subst h0
      have hO := natOf_any (w := wr) (X : Int) (by omega) (by omega)
      rw [Int.toNat_natCast] at hO
      rw [Nat.gcd_zero_right] at hgc
      subst hgc
      have o3r := O3.step hbr
      have hlr : Below w.heap.size w wr := hlow.trans (hbr.mono hlow.size)
      clear hX hY hG
      go_wp2_with fail
      refine hO.mono ?_
      rintro e w10 ⟨v, rfl, ⟨sg, rfl, Ag, cg, rfl, hcg, hAg⟩, hb10⟩
      have c3 := (o3r.step hb10).cell
      have f3 := (o3r.step hb10).frozen
      go_wp2_with fail
      have r3 := (o3r.step hb10).set_ (.slice Ag (digs 4294967296 (Nat.gcd x y)).length cg)
      refine bodyPost_ret (v := .agg #[.slice Ag (digs 4294967296 (Nat.gcd x y)).length cg]) (by simp [results, Tryd.results29, go_sem, r3.cell]) rfl ?_
      refine ⟨_, rfl, ?_, ?_⟩
      · exact IsNat.far ⟨_, rfl, Ag, cg, rfl, hcg, hAg⟩ (p := ⟨w.heap.size + 1 + 1, 0, none⟩) (o3r.step hb10).row (by decide) _
      · exact (hlr.trans (hb10.mono hlr.size)).setCell (by show w.heap.size ≤ w.heap.size + 1 + 1; omega) _
    · have hp : ¬ ((Y : Int) = 0) := by omega
      have ht : (X : Int).tmod (Y : Int) = ((X % Y : Nat) : Int) := by rw [Int.tmod_eq_emod_of_nonneg (by omega), Int.natCast_emod]
      have hlt : X % Y < Y := Nat.mod_lt _ (by omega)
      have hy2 : 0 < (Y : Int) := by omega
      have hy1 : ((Y : Int) == 0) = false := beq_eq_false_iff_ne.2 (by omega)
      go_wp2_with fail
      go_region
      all_goals (try go_wp2)
      all_goals
        rw [← Int.natCast_emod]
        refine ⟨⟨⟨Y, X % Y, rfl, rfl, hY, by omega, ?_⟩, hbr.drew⟩, ?_⟩
        · rw [← hgc, Nat.gcd_comm Y, ← Nat.gcd_rec, Nat.gcd_comm]
        · show (((X % Y : Nat) : Int)).toNat < ((Y : Nat) : Int).toNat
          rw [Int.toNat_natCast, Int.toNat_natCast]; exact hlt
end Go.Proofs.YtapblmbjbpkieaaDoor
