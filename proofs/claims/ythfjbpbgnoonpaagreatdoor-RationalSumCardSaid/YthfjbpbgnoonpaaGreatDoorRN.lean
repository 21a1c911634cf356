/- Package nat's functions over numbers below a power of the base; the reference's likewise. -/
import Derived.Test.YthfjbpbgnoonpaaGreatDoorNH
import Derived.Test.YthfjbpbgnoonpaaGreatDoorNI
import Derived.Test.YthfjbpbgnoonpaaGreatDoorRA
namespace Go.Proofs.YthfjbpbgnoonpaaGreatDoor
open Go.RowKit

/-- A value of package nat that stands for k, which is below a power of the base. -/
def NatB (W : World) (v : Value) (k a : Nat) : Prop := IsNat W v k ∧ k < 4294967296 ^ a
theorem stab_natB (v : Value) (k a : Nat) : Stab (fun W => NatB W v k a) := stab_and (stab_nat v k) stab_true
theorem NatB.below {W W' : World} {v : Value} {k a : Nat} (h : NatB W v k a) (hb : Below W.heap.size W W') : NatB W' v k a := ⟨h.1.below hb, h.2⟩
theorem NatB.drew {W : World} {v : Value} {k a : Nat} (h : NatB W v k a) : NatB W.drew v k a := h
theorem NatB.shape {W : World} {v : Value} {k a : Nat} (h : NatB W v k a) : ∃ A n c, v = .agg #[.slice A n c] := by
  obtain ⟨A, n, c, -, rfl⟩ := isNat_digs h.1
  exact ⟨A, n, c, rfl⟩
theorem NatB.more {W : World} {v : Value} {k a b : Nat} (h : NatB W v k a) (hab : a ≤ b) : NatB W v k b := ⟨h.1, Nat.lt_of_lt_of_le h.2 (Nat.pow_le_pow_right (by omega) hab)⟩
theorem NatB.len {W : World} {v : Value} {k a : Nat} (h : NatB W v k a) : (digs 4294967296 k).length ≤ a := digs_len (by omega) h.2
def OpN (W : World) (k a : Nat) (e : Ending) (w' : World) : Prop := ∃ A n c, e = .returned (.agg #[.slice A n c]) ∧ NatB w' (.agg #[.slice A n c]) k a ∧ Below W.heap.size W w'
def OpN2 (W : World) (k a j b : Nat) (e : Ending) (w' : World) : Prop := ∃ A n c A2 n2 c2, e = .returned (.tuple #[.agg #[.slice A n c], .agg #[.slice A2 n2 c2], .int .i64 0]) ∧ NatB w' (.agg #[.slice A n c]) k a ∧ NatB w' (.agg #[.slice A2 n2 c2]) j b ∧ Below W.heap.size W w'
section
variable {W : World} {u v : Value} {k j a b : Nat}
theorem addN (hu : NatB W u k a) (hv : NatB W v j b) (ha : a ≤ 400) (hb : b ≤ 400) : Calls Tryz.prog 84 #[u, v] W (OpN W (k + j) (a + b + 1)) := by
  have l1 := hu.len
  have l2 := hv.len
  refine (natAdd_any (by omega) (by omega) hu.1 hv.1).mono ?_
  rintro e w' ⟨r, rfl, hr, hb⟩
  obtain ⟨A, n, c, -, rfl⟩ := isNat_digs hr
  exact ⟨A, n, c, rfl, ⟨hr, pow_sum hu.2 hv.2⟩, hb⟩
theorem mulN (hu : NatB W u k a) (hv : NatB W v j b) (ha : a ≤ 400) (hb : b ≤ 400) : Calls Tryz.prog 76 #[u, v] W (OpN W (k * j) (a + b)) := by
  have l1 := hu.len
  have l2 := hv.len
  refine (natMul_any (by omega) (by omega) hu.1 hv.1).mono ?_
  rintro e w' ⟨r, rfl, hr, hb⟩
  obtain ⟨A, n, c, -, rfl⟩ := isNat_digs hr
  exact ⟨A, n, c, rfl, ⟨hr, by rw [Nat.pow_add]; exact Nat.mul_lt_mul'' hu.2 hv.2⟩, hb⟩
theorem gcdN (hu : NatB W u k a) (hv : NatB W v j b) (ha : a ≤ 400) (hb : b ≤ 400) (hj : 0 < j) : Calls Tryz.prog 88 #[u, v] W (OpN W (Nat.gcd k j) b) := by
  have l1 := hu.len
  have l2 := hv.len
  refine (gcd_any (by omega) (by omega) hu.1 hv.1).mono ?_
  rintro e w' ⟨r, rfl, hr, hb⟩
  obtain ⟨A, n, c, -, rfl⟩ := isNat_digs hr
  exact ⟨A, n, c, rfl, ⟨hr, Nat.lt_of_le_of_lt (Nat.gcd_le_right k hj) hv.2⟩, hb⟩
theorem divN (hu : NatB W u k a) (hv : NatB W v j b) (ha : a ≤ 400) (hb : b ≤ 400) (hj : 0 < j) : Calls Tryz.prog 83 #[u, v] W (OpN2 W (k / j) a (k % j) b) := by
  have l1 := hu.len
  have l2 := hv.len
  refine (divMod_any (by omega) (by omega) hj hu.1 hv.1).mono ?_
  rintro e w' ⟨q, r, rfl, hq, hr, hb⟩
  obtain ⟨A, n, c, -, rfl⟩ := isNat_digs hq
  obtain ⟨A2, n2, c2, -, rfl⟩ := isNat_digs hr
  exact ⟨A, n, c, A2, n2, c2, rfl, ⟨hq, Nat.lt_of_le_of_lt (Nat.div_le_self k j) hu.2⟩, ⟨hr, Nat.lt_trans (Nat.mod_lt k hj) hv.2⟩, hb⟩
theorem cmpN (hu : NatB W u k a) (hv : NatB W v j b) (ha : a ≤ 400) (hb : b ≤ 400) : Calls Tryz.prog 82 #[u, v] W fun e w' => e = .returned (.int .i64 (cmpI k j)) ∧ Below W.heap.size W w' := by
  have l1 := hu.len
  have l2 := hv.len
  exact cmp_any (by omega) (by omega) hu.1 hv.1
theorem zeroN (hu : NatB W u k a) (ha : a ≤ 400) : Calls Tryz.prog 55 #[u] W fun e w' => e = .returned (.bool (decide (k = 0))) ∧ Below W.heap.size W w' := by
  have l1 := hu.len
  exact isZero_any (by omega) hu.1
theorem zeroN_yes (hu : NatB W u k a) (ha : a ≤ 400) (h : k = 0) : Calls Tryz.prog 55 #[u] W fun e w' => e = .returned (.bool true) ∧ Below W.heap.size W w' := by
  have := zeroN hu ha
  rwa [decide_eq_true h] at this
theorem zeroN_no (hu : NatB W u k a) (ha : a ≤ 400) (h : 0 < k) : Calls Tryz.prog 55 #[u] W fun e w' => e = .returned (.bool false) ∧ Below W.heap.size W w' := by
  have := zeroN hu ha
  rwa [decide_eq_false (Nat.ne_of_gt h)] at this
theorem subN (hu : NatB W u k a) (hv : NatB W v j b) (ha : a ≤ 400) (hb : b ≤ 400) (hle : j ≤ k) : Calls Tryz.prog 103 #[u, v] W fun e w' => ∃ A n c, e = .returned (.tuple #[.agg #[.slice A n c], .int .i64 0]) ∧ NatB w' (.agg #[.slice A n c]) (k - j) a ∧ Below W.heap.size W w' := by
  have l1 := hu.len
  have l2 := hv.len
  refine (natSub_ge (by omega) (by omega) hle hu.1 hv.1).mono ?_
  rintro e w' ⟨r, rfl, hr, hb⟩
  obtain ⟨A, n, c, -, rfl⟩ := isNat_digs hr
  exact ⟨A, n, c, rfl, ⟨hr, Nat.lt_of_le_of_lt (Nat.sub_le k j) hu.2⟩, hb⟩
theorem uintN (hu : NatB W u k a) (ha : a ≤ 400) : Calls Tryz.prog 89 #[u] W fun e w' => e = U64Spec k ∧ Below W.heap.size W w' := by
  have l1 := hu.len
  exact uint64_any (by omega) hu.1
theorem textN (hT : Tab W) (hu : NatB W u k a) (ha : a ≤ 400) : Calls Tryz.prog 19 #[u] W fun e w' => e = .returned (str (dec k)) ∧ Below W.heap.size W w' := by
  have l1 := hu.len
  exact natText_any (by omega) hT hu.1
theorem ofN (n : Int) {k : Nat} (hn : n = (k : Int)) (hk : k < 18446744073709551616) : Calls Tryz.prog 26 #[.int .u64 n] W (OpN W k 2) := by
  subst hn
  refine (of_new k k hk rfl).mono ?_
  rintro e w' ⟨r, rfl, hr, hb⟩
  obtain ⟨A, n, c, -, rfl⟩ := isNat_digs hr
  exact ⟨A, n, c, rfl, ⟨hr, by rw [show (4294967296 : Nat) ^ 2 = 18446744073709551616 from rfl]; exact hk⟩, hb⟩
end
/-- The reference's numbers. -/
def RefB (W : World) (v : Value) (k a : Nat) : Prop := (∃ A n c, v = .slice A n c) ∧ LI W v (digs 1000000 k) ∧ k < 4294967296 ^ a
theorem stab_refB (v : Value) (k a : Nat) : Stab (fun W => RefB W v k a) := stab_and stab_true (stab_and (stab_li v _) stab_true)
theorem RefB.below {W W' : World} {v : Value} {k a : Nat} (h : RefB W v k a) (hb : Below W.heap.size W W') : RefB W' v k a := ⟨h.1, h.2.1.below hb, h.2.2⟩
theorem RefB.mk {W : World} {v : Value} {k a : Nat} (h : LI W v (digs 1000000 k)) (hk : k < 4294967296 ^ a) : RefB W v k a := by
  refine ⟨?_, h, hk⟩
  obtain ⟨A, c, rfl, _⟩ := h
  exact ⟨A, _, c, rfl⟩
theorem RefB.len {W : World} {v : Value} {k a : Nat} (h : RefB W v k a) : (digs 1000000 k).length ≤ 2 * a := by
  refine digs_len (by omega) (Nat.lt_of_lt_of_le h.2.2 ?_)
  rw [Nat.pow_mul]
  exact Nat.pow_le_pow_left (by decide) a
theorem RefB.more {W : World} {v : Value} {k a b : Nat} (h : RefB W v k a) (hab : a ≤ b) : RefB W v k b := ⟨h.1, h.2.1, Nat.lt_of_lt_of_le h.2.2 (Nat.pow_le_pow_right (by omega) hab)⟩
def OpF (W : World) (k a : Nat) (e : Ending) (w' : World) : Prop := ∃ A n c, e = .returned (.slice A n c) ∧ RefB w' (.slice A n c) k a ∧ Below W.heap.size W w'
theorem opF {W w' : World} {k a : Nat} {e : Ending} (h : NewI W (digs 1000000 k) e w') (hk : k < 4294967296 ^ a) : OpF W k a e w' := by
  obtain ⟨v, rfl, h1, h2⟩ := h
  have h3 := RefB.mk h1 hk
  obtain ⟨A, n, c, rfl⟩ := h3.1
  exact ⟨A, n, c, rfl, h3, h2⟩
section
variable {W : World} {u v : Value} {k j a b : Nat}
theorem addF_ (hu : RefB W u k a) (hv : RefB W v j b) (ha : a ≤ 200) (hb : b ≤ 200) : Calls Tryz.prog 79 #[u, v] W (OpF W (k + j) (a + b + 1)) := by
  have l1 := hu.len
  have l2 := hv.len
  have := refAdd_any (w := W) (by omega) (by omega) (digs_lt (b := 1000000) (by omega) k) (digs_lt (b := 1000000) (by omega) j) hu.2.1 hv.2.1
  rw [val_digs (by omega), val_digs (by omega)] at this
  exact this.mono fun e w' h => opF h (pow_sum hu.2.2 hv.2.2)
theorem mulF_ (hu : RefB W u k a) (hv : RefB W v j b) (ha : a ≤ 200) (hb : b ≤ 200) : Calls Tryz.prog 77 #[u, v] W (OpF W (k * j) (a + b)) := by
  have l1 := hu.len
  have l2 := hv.len
  have := refMul_any (w := W) (by omega) (by omega) (digs_lt (b := 1000000) (by omega) k) (digs_lt (b := 1000000) (by omega) j) hu.2.1 hv.2.1
  rw [val_digs (by omega), val_digs (by omega)] at this
  exact this.mono fun e w' h => opF h (by rw [Nat.pow_add]; exact Nat.mul_lt_mul'' hu.2.2 hv.2.2)
theorem gcdF (hu : RefB W u k a) (hv : RefB W v j b) (ha : a ≤ 200) (hb : b ≤ 200) (hj : 0 < j) : Calls Tryz.prog 87 #[u, v] W (OpF W (Nat.gcd k j) b) := by
  have l1 := hu.len
  have l2 := hv.len
  exact (refGCD_any j k u v W (by omega) (by omega) hu.2.1 hv.2.1).mono fun e w' h => opF h (Nat.lt_of_le_of_lt (Nat.gcd_le_right k hj) hv.2.2)
theorem divF (hu : RefB W u k a) (hv : RefB W v j b) (ha : a ≤ 200) (hb : b ≤ 200) (hj : 0 < j) : Calls Tryz.prog 85 #[u, v] W fun e w' => ∃ A n c A2 n2 c2, e = .returned (.tuple #[.slice A n c, .slice A2 n2 c2, .int .i64 0]) ∧ RefB w' (.slice A n c) (k / j) a ∧ RefB w' (.slice A2 n2 c2) (k % j) b ∧ Below W.heap.size W w' := by
  have l1 := hu.len
  have l2 := hv.len
  refine (refDivMod_any (by omega) (by omega) hj hu.2.1 hv.2.1).mono ?_
  rintro e w' ⟨q, r, rfl, hq, hr, hb⟩
  have h3 := RefB.mk hq (Nat.lt_of_le_of_lt (Nat.div_le_self k j) hu.2.2)
  have h4 := RefB.mk hr (Nat.lt_trans (Nat.mod_lt k hj) hv.2.2)
  obtain ⟨A, n, c, rfl⟩ := h3.1
  obtain ⟨A2, n2, c2, rfl⟩ := h4.1
  exact ⟨A, n, c, A2, n2, c2, rfl, h3, h4, hb⟩
theorem cmpF (hu : RefB W u k a) (hv : RefB W v j b) (ha : a ≤ 200) (hb : b ≤ 200) : Calls Tryz.prog 80 #[u, v] W fun e w' => e = .returned (.int .i64 (cmpI k j)) ∧ Below W.heap.size W w' := by
  have l1 := hu.len
  have l2 := hv.len
  exact refCmp_any (by omega) (by omega) hu.2.1 hv.2.1
theorem subF_ (hu : RefB W u k a) (hv : RefB W v j b) (ha : a ≤ 200) (hb : b ≤ 200) (hle : j ≤ k) : Calls Tryz.prog 81 #[u, v] W fun e w' => ∃ A n c, e = .returned (.tuple #[.slice A n c, .int .i64 0]) ∧ RefB w' (.slice A n c) (k - j) a ∧ Below W.heap.size W w' := by
  have l1 := hu.len
  have l2 := hv.len
  refine (refSub_ge (by omega) (by omega) hle hu.2.1 hv.2.1).mono ?_
  rintro e w' ⟨r, rfl, hr, hb⟩
  have h3 := RefB.mk hr (Nat.lt_of_le_of_lt (Nat.sub_le k j) hu.2.2)
  obtain ⟨A, n, c, rfl⟩ := h3.1
  exact ⟨A, n, c, rfl, h3, hb⟩
theorem textF (hu : RefB W u k a) (ha : a ≤ 400) : Calls Tryz.prog 20 #[u] W fun e w' => e = .returned (str (dec k)) ∧ Below W.heap.size W w' := by
  have l1 := hu.len
  exact refText_any (by omega) hu.2.1
theorem ofF (n : Int) {k : Nat} (hn : n = (k : Int)) (hk : k < 18446744073709551616) : Calls Tryz.prog 14 #[.int .u64 n] W (OpF W k 2) := by
  subst hn
  have := refOf_any (w := W) (k : Int) (by omega) (by omega)
  rw [Int.toNat_natCast] at this
  exact this.mono fun e w' h => opF h (by rw [show (4294967296 : Nat) ^ 2 = 18446744073709551616 from rfl]; exact hk)
end
end Go.Proofs.YthfjbpbgnoonpaaGreatDoor
