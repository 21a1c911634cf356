/- Contracts of package nat: Uint64, Bits. -/
import Derived.Test.YtdbhlmifioccgaaDoorMake
namespace Go.Proofs.YtdbhlmifioccgaaDoor
open Go.RowKit

theorem digs_one {k : Nat} (h0 : 0 < k) (h : k < 4294967296) : digs 4294967296 k = [k] := by
  rw [digs_pos 4294967296 k (by omega) h0, Nat.mod_eq_of_lt h, Nat.div_eq_of_lt h]; rfl
theorem digs_two {k : Nat} (h0 : 4294967296 ≤ k) (h : k < 18446744073709551616) : digs 4294967296 k = [k % 4294967296, k / 4294967296] := by
  rw [digs_pos 4294967296 k (by omega) (by omega), digs_one (by omega) (by omega)]
theorem digs_ab {a b : Nat} (ha : a < 4294967296) (hb : 0 < b) (hb2 : b < 4294967296) : digs 4294967296 (a + b * 4294967296) = [a, b] := by
  rw [digs_two (by omega) (by omega)]
  congr 1
  · omega
  · congr 1
    omega
theorem digs_more {k : Nat} (h : 18446744073709551616 ≤ k) : 2 < (digs 4294967296 k).length := by
  rw [digs_pos 4294967296 k (by omega) (by omega), digs_pos 4294967296 (k / 4294967296) (by omega) (by omega), digs_pos 4294967296 (k / 4294967296 / 4294967296) (by omega) (by omega)]
  simp
def U64Spec (k : Nat) : Ending := if k < 18446744073709551616 then .returned (.tuple #[.int .u64 (k : Int), .bool true]) else .returned (.tuple #[.int .u64 0, .bool false])

theorem u64_join (a b : Int) (ha : 0 ≤ a ∧ a < 4294967296) (hb : 0 ≤ b ∧ b < 4294967296) : bits BinOp.or IntKind.u64 a (b * 4294967296) = a + b * 4294967296 := by
  rw [u64_or _ _ ha.1 (by omega) (by omega) (by omega), Nat.or_comm, nat_join 32 _ _ (by omega) (by omega)]
  omega
theorem u64_zero (a : Int) (ha : 0 ≤ a ∧ a < 4294967296) : bits BinOp.or IntKind.u64 0 a = a := by
  rw [u64_or _ _ (by omega) (by omega) (by omega) (by omega)]
  simp
  omega

set_option maxRecDepth 100000 in
set_option maxHeartbeats 2000000 in
theorem uint64_any {v : Value} {k : Nat} {w : World} (hlen : (digs 4294967296 k).length ≤ 1000000) (hv : IsNat w v k) :
    Calls Tryd.prog 31 #[v] w fun e w' => e = U64Spec k ∧ Below w.heap.size w w' := by
  obtain ⟨s, rfl, A, c, rfl, hc, hA⟩ := hv
  have hA1 := hA.step ((Below.refl _ _).alloc (Nat.le_refl _) (.cells #[.slice A (digs 4294967296 k).length c] 26))
  have hb := (Below.refl w.heap.size w).alloc (Nat.le_refl _) (.cells #[.slice A (digs 4294967296 k).length c] 26)
  unfold U64Spec
  by_cases h2 : k < 18446744073709551616
  · rw [if_pos h2]
    by_cases h0 : k = 0
    · subst h0
      rw [digs_zero] at *
      simp only [List.length_nil] at *
      go_enter Tryd.func31, Tryd.ntmps31
      go_wp2
      refine wp_loop_rounds 1 ?_
      rw [rounds_succ]
      go_wp2
      go_ret2
      exact ⟨rfl, hb⟩
    · by_cases h1 : k < 4294967296
      · rw [digs_one (by omega) h1] at *
        simp only [List.length_cons, List.length_nil, Nat.zero_add] at *
        obtain ⟨g, rfl, _, hcell⟩ := hA1.2 0 (by omega)
        have hc0 : (w.alloc (.cells #[.slice (some ⟨g, 0, none⟩) 1 c] 26)).cell? ⟨g, 0, none⟩ = some (.int .u32 k) := hcell
        have hj := u64_zero (k : Int) (by omega)
        clear hA1 hA hcell
        go_enter Tryd.func31, Tryd.ntmps31
        go_wp2
        refine wp_loop_rounds 2 ?_
        rw [rounds_succ]
        go_wp2
        rw [rounds_succ]
        go_wp2
        go_ret2
        exact ⟨rfl, hb⟩
      · obtain ⟨a, b, rfl, hab⟩ : ∃ a b, k = a + b * 4294967296 ∧ a < 4294967296 ∧ b < 4294967296 ∧ 0 < b := ⟨k % 4294967296, k / 4294967296, by omega, by omega, by omega, by omega⟩
        rw [digs_ab hab.1 hab.2.2 hab.2.1] at *
        simp only [List.length_cons, List.length_nil, Nat.zero_add, Nat.reduceAdd] at *
        obtain ⟨g, rfl, _, hcell⟩ := hA1.2 0 (by omega)
        obtain ⟨g2, hg2, _, hcell2⟩ := hA1.2 1 (by omega)
        obtain rfl : g = g2 := by simpa using hg2
        have hc0 : (w.alloc (.cells #[.slice (some ⟨g, 0, none⟩) 2 c] 26)).cell? ⟨g, 0, none⟩ = some (.int .u32 a) := hcell
        have hc1 : (w.alloc (.cells #[.slice (some ⟨g, 0, none⟩) 2 c] 26)).cell? ⟨g, 1, none⟩ = some (.int .u32 b) := hcell2
        have hj := u64_zero (a : Int) (by omega)
        have hj2 := u64_join (a : Int) (b : Int) (by omega) (by omega)
        clear hA1 hA hcell hcell2 hg2
        go_enter Tryd.func31, Tryd.ntmps31
        go_wp2
        refine wp_loop_rounds 3 ?_
        rw [rounds_succ]
        go_wp2
        rw [rounds_succ]
        go_wp2
        rw [rounds_succ]
        go_wp2
        go_ret2
        refine ⟨?_, hb⟩
        rw [Int.natCast_add, Int.natCast_mul]
        rfl
  · rw [if_neg h2]
    have hm := digs_more (k := k) (by omega)
    go_enter Tryd.func31, Tryd.ntmps31
    go_wp2
    go_ret2
    exact ⟨rfl, hb⟩

theorem bitLenAux_le : ∀ (f x : Nat), Lib.bitLenAux f x ≤ f
  | 0, x => by simp [Lib.bitLenAux]
  | f + 1, x => by
    unfold Lib.bitLenAux
    have := bitLenAux_le f (x / 2)
    split <;> omega
theorem bitLen_le (x : Nat) : Lib.bitLen x ≤ 64 := bitLenAux_le 64 x
/-- How many binary digits a number has. -/
def bitsOf (k : Nat) : Nat := ((digs 4294967296 k).length - 1) * 32 + Lib.bitLen ((digs 4294967296 k).getLast?.getD 0)
set_option maxRecDepth 100000 in
set_option maxHeartbeats 2000000 in
theorem natBits_any {v : Value} {k : Nat} {w : World} (hlen : (digs 4294967296 k).length ≤ 1000000) (hv : IsNat w v k) :
    Calls Tryd.prog 35 #[v] w fun e w' => e = .returned (.int .i64 (if k = 0 then 0 else (bitsOf k : Int))) ∧ Below w.heap.size w w' := by
  obtain ⟨s, rfl, A, c, rfl, hc, hA⟩ := hv
  have hb := (Below.refl w.heap.size w).alloc (Nat.le_refl _) (.cells #[.slice A (digs 4294967296 k).length c] 26)
  have hA1 := hA.step hb
  have hz := isZero_any (w := w.alloc (.cells #[.slice A (digs 4294967296 k).length c] 26)) hlen ⟨_, rfl, A, c, rfl, hc, hA1⟩
  have hone := One.new w (.slice A (digs 4294967296 k).length c) 26
  by_cases h0 : k = 0
  · rw [decide_eq_true h0] at hz
    rw [if_pos h0]
    clear h0
    go_enter Tryd.func35, Tryd.ntmps35
    go_wp2_with fail
    refine hz.mono ?_
    rintro e w1 ⟨rfl, hb1⟩
    go_wp2_with fail
    go_ret
    exact ⟨rfl, hb.trans (hb1.mono (by simp))⟩
  · rw [decide_eq_false h0] at hz
    rw [if_neg h0]
    have hlp : 0 < (digs 4294967296 k).length := by rw [digs_pos 4294967296 k (by omega) (by omega)]; simp
    obtain ⟨n, hn⟩ : ∃ n, (digs 4294967296 k).length = n + 1 := ⟨_, (Nat.sub_add_cancel hlp).symm⟩
    obtain ⟨x, hx⟩ : ∃ x, (digs 4294967296 k).getD n 0 = x := ⟨_, rfl⟩
    have hx1 : x < 4294967296 := by rw [← hx]; exact getD_lt (digs_lt (by omega) k) n (by omega)
    have hbo : Hid (bitsOf k = n * 32 + Lib.bitLen x) := by
      unfold Hid bitsOf
      rw [hn, ← hx, List.getLast?_eq_getElem?, hn]
      rfl
    have hlb : Lib.bitLen x ≤ 64 := bitLen_le x
    obtain ⟨g, hg, _, hcell⟩ := hA1.2 n (by omega)
    have hcx : u32f (digs 4294967296 k) n = .int .u32 x := by unfold u32f; rw [hx]
    rw [hcx] at hcell
    rw [hn] at hz hone hcell hb hlen
    subst hg
    clear hx hcx hA1 hA hc
    go_enter Tryd.func35, Tryd.ntmps35
    rw [hn]
    go_wp2_with fail
    refine hz.mono ?_
    rintro e w1 ⟨rfl, hb1⟩
    have hone1 := (hone.step hb1).cell
    have hcell1 : w1.cell? ⟨g, n, none⟩ = some (.int .u32 x) := (hb1.cell (p := ⟨g, n, none⟩) (by
      have := hcell
      rcases Nat.lt_or_ge g (w.alloc (.cells #[.slice (some ⟨g, 0, none⟩) (n + 1) c] 26)).heap.size with h | h
      · exact h
      · simp [World.cell?, Array.getElem?_eq_none h] at this)).trans hcell
    have hLen := Tryd.bits_Len32 (x : Int) w1 (by omega) (by omega)
    rw [Int.toNat_natCast] at hLen
    clear hone hcell
    go_wp2_with fail
    refine hLen.mono ?_
    rintro e w2 ⟨rfl, rfl⟩
    go_wp2_with fail
    go_ret
    refine ⟨?_, hb.trans (hb1.mono (by simp))⟩
    rw [hbo.out, Int.natCast_add, Int.natCast_mul]
    rfl
end Go.Proofs.YtdbhlmifioccgaaDoor
