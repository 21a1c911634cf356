/- Contracts of package trie: route, common. -/
import Derived.Test.YtamkegnnlbefdaaTrB
import Derived.Test.YtamkegnnlbefdaaShelf
import Derived.BigRegion
namespace Go.Proofs.Ytamkegnnlbefdaa
open Go.RowKit

theorem size_alloc' (w : World) (o : Obj) : (w.alloc o).heap.size = w.heap.size + 1 := by simp
abbrev rtV (p : Px) (x : Int) : Value := .agg #[.int .u32 (p.1 : Int), .int .i64 (p.2 : Int), .int .i64 x]
set_option maxRecDepth 100000 in
set_option maxHeartbeats 2000000 in
theorem route_any {w : World} {g : Nat} {p : Px} {x : Int} {h : Bool} {u v : Value} (hb : Blk w g (ndC p x h u v) ndT) :
    Calls Try.prog 35 #[ptr g] w fun e w' => e = .returned (rtV p x) ∧ Below w.heap.size w w' := by
  obtain ⟨w1, hw1, S⟩ : ∃ w1, w.alloc (.cells #[.int .u32 0, .int .i64 0, .int .i64 0] 37) = w1 ∧ Hid (Sr w [] [(w.heap.size, [.int .u32 0, .int .i64 0, .int .i64 0], 37), (g, ndC p x h u v, ndT)] w1) :=
    ⟨_, rfl, ((Sr.start w).add hb (fun q hq => by simp at hq)).alloc [.int .u32 0, .int .i64 0, .int .i64 0] 37⟩
  unfold ndC at S
  clear hb
  unfold ptr
  have c1x0 := (S.out.at 1 rfl).cell (i := 0) rfl
  have c1x1 := (S.out.at 1 rfl).cell (i := 1) rfl
  have c1x2 := (S.out.at 1 rfl).cell (i := 2) rfl
  have c0x0 := (S.out.at 0 rfl).cell (i := 0) rfl
  have f0x0 := (S.out.at 0 rfl).frozen (i := 0)
  have c0x1 := (S.out.at 0 rfl).cell (i := 1) rfl
  have f0x1 := (S.out.at 0 rfl).frozen (i := 1)
  have c0x2 := (S.out.at 0 rfl).cell (i := 2) rfl
  have f0x2 := (S.out.at 0 rfl).frozen (i := 2)
  go_enter Try.func35, Try.ntmps35
  go_wp2_with fail
  clear hw1
  go_region
  go_wp2_with fail
  have S1 := (((S.out.set 0 rfl (Nat.le_refl _) 0 (.int .u32 (p.1 : Int)) rfl).set 0 rfl (Nat.le_refl _) 1 (.int .i64 (p.2 : Int)) rfl).set 0 rfl (Nat.le_refl _) 2 (.int .i64 x) rfl).drew
  simp only [List.set_cons_zero, List.set_cons_succ] at S1
  have T := Lib.hid S1
  clear S1
  have c0x0 := (T.out.at 0 rfl).cell (i := 0) rfl
  have c0x1 := (T.out.at 0 rfl).cell (i := 1) rfl
  have c0x2 := (T.out.at 0 rfl).cell (i := 2) rfl
  refine bodyPost_ret (v := rtV p x) (by simp [results, Try.results35, go_sem, c0x0, c0x1, c0x2]) rfl ?_
  exact ⟨rfl, T.out.low⟩
def bl (k : Nat) : Nat := if k = 0 then 0 else Nat.log2 k + 1
theorem bl_zero : bl 0 = 0 := rfl
theorem bl_half (k : Nat) (h : 0 < k) : bl k = bl (k / 2) + 1 := by
  unfold bl
  rw [if_neg (by omega)]
  rw [Nat.log2_def]
  by_cases h2 : 2 ≤ k
  · rw [if_pos h2, if_neg (by omega)]
  · rw [if_neg h2, if_pos (by omega)]
theorem bl_shift : ∀ (j k : Nat), 2 ^ j ≤ k → bl k = j + bl (k / 2 ^ j)
  | 0, k, _ => by simp
  | j + 1, k, h => by
    have hp : 0 < 2 ^ j := Nat.pow_pos (by omega)
    have h1 : 2 ^ j ≤ k / 2 := by rw [Nat.le_div_iff_mul_le (by omega)]; rw [Nat.pow_succ] at h; omega
    rw [bl_half k (by rw [Nat.pow_succ] at h; omega), bl_shift j (k / 2) h1, Nat.div_div_eq_div_mul, show 2 * 2 ^ j = 2 ^ (j + 1) by rw [Nat.pow_succ, Nat.mul_comm]]
    omega
theorem bitLen_bl : ∀ (f x : Nat), x ≤ f → x < 18446744073709551616 → Lib.bitLen x = bl x
  | 0, x, h, _ => by obtain rfl : x = 0 := by omega
                     rfl
  | f + 1, x, h, hx => by
    by_cases h0 : x = 0
    · subst h0; rfl
    · rw [Lib.bitLen_half x h0 hx, bl_half x (by omega), bitLen_bl f (x / 2) (by omega) (by omega)]
      omega
theorem clz_bl {x : Nat} (h : x < 4294967296) : (32 - (Lib.bitLen ((x : Nat) : Int).toNat : Int)) = (clz x : Int) ∧ clz x ≤ 32 := by
  rw [Int.toNat_natCast, bitLen_bl x x (Nat.le_refl _) (by omega)]
  unfold bl clz
  by_cases h0 : x = 0
  · rw [if_pos h0, if_pos h0]; omega
  · rw [if_neg h0, if_neg h0]
    have : Nat.log2 x < 32 := (Nat.log2_lt h0).2 h
    omega
theorem run_xor_nat (x y : Nat) (hx : x < 4294967296) (hy : y < 4294967296) {z : Nat} (e : x ^^^ y = z) : bits BinOp.xor IntKind.u32 (x : Int) (y : Int) = (z : Int) := by
  rw [u32_xor_nat x y hx hy, e]
set_option maxRecDepth 100000 in
set_option maxHeartbeats 2000000 in
theorem common_any {w : World} (p q : Px) (hp : p.1 < 4294967296) (hq : q.1 < 4294967296) :
    Calls Try.prog 55 #[pv p.1 p.2, pv q.1 q.2] w fun e w' => e = .returned (pv (comF p q).1 (comF p q).2) ∧ Below w.heap.size w w' := by
  obtain ⟨X, hX⟩ : ∃ X, p.1 ^^^ q.1 = X := ⟨_, rfl⟩
  have hE0 := run_xor_nat p.1 q.1 hp hq hX
  have hXl : X < 4294967296 := by rw [← hX]; exact Nat.xor_lt_two_pow (n := 32) hp hq
  obtain ⟨hc, hc32⟩ := clz_bl hXl
  have HLZ := Lib.hid (fun W : World => Try.bits_LeadingZeros32 (X : Int) W (by omega) (by omega))
  rw [hc] at HLZ
  have eq : comF p q = (p.1 / 2 ^ (32 - clz X) * 2 ^ (32 - clz X), clz X) := by unfold comF; rw [hX]
  rw [eq]
  generalize clz X = n at *
  have hE1 := run_rest_shr p.1 n hc32
  have hE2 := run_rest_shl (p.1 / 2 ^ (32 - n)) n hc32 (Nat.lt_of_le_of_lt (Nat.div_mul_le_self _ _) hp)
  have hw3 : IntKind.i64.wrap (32 - (n : Int)) = 32 - (n : Int) := IntWalk.i64_in _ (by omega)
  generalize p.1 / 2 ^ (32 - n) = a at hE1 hE2 ⊢
  generalize a * 2 ^ (32 - n) = r at hE2 ⊢
  obtain ⟨w1, hw1, S⟩ : ∃ w1, ((w.alloc (.cells #[.int .u32 (p.1 : Int), .int .i64 (p.2 : Int)] 35)).alloc (.cells #[.int .u32 (q.1 : Int), .int .i64 (q.2 : Int)] 35)).alloc (.cells #[.int .u32 0, .int .i64 0] 35) = w1 ∧
      Hid (Sr w [] [(w.heap.size + 1 + 1, [.int .u32 0, .int .i64 0], 35), (w.heap.size + 1, [.int .u32 (q.1 : Int), .int .i64 (q.2 : Int)], 35), (w.heap.size, [.int .u32 (p.1 : Int), .int .i64 (p.2 : Int)], 35)] w1) := by
    refine ⟨_, rfl, ?_⟩
    have := (((Sr.start w).alloc [.int .u32 (p.1 : Int), .int .i64 (p.2 : Int)] 35).alloc [.int .u32 (q.1 : Int), .int .i64 (q.2 : Int)] 35).alloc [.int .u32 0, .int .i64 0] 35
    simp only [size_alloc'] at this
    exact this
  clear hX hXl hc hp hq eq
  have HC := Lib.hid hc32
  clear hc32
  have c2x0 := (S.out.at 2 rfl).cell (i := 0) rfl
  have c2x1 := (S.out.at 2 rfl).cell (i := 1) rfl
  have c1x0 := (S.out.at 1 rfl).cell (i := 0) rfl
  have c1x1 := (S.out.at 1 rfl).cell (i := 1) rfl
  have c0x0 := (S.out.at 0 rfl).cell (i := 0) rfl
  have f0x0 := (S.out.at 0 rfl).frozen (i := 0)
  have c0x1 := (S.out.at 0 rfl).cell (i := 1) rfl
  have f0x1 := (S.out.at 0 rfl).frozen (i := 1)
  go_enter Try.func55, Try.ntmps55
  go_wp2_with fail
  refine (HLZ.out _).mono ?_
  rintro e w' ⟨rfl, rfl⟩
  clear hw1 HLZ
  go_wp2_with fail
  have S1 := (S.out.set 0 rfl (by omega) 0 (.int .u32 (r : Int)) rfl).set 0 rfl (by omega) 1 (.int .i64 (n : Int)) rfl
  simp only [List.set_cons_zero, List.set_cons_succ] at S1
  have T := Lib.hid S1
  clear S1
  have c0x0 := (T.out.at 0 rfl).cell (i := 0) rfl
  have c0x1 := (T.out.at 0 rfl).cell (i := 1) rfl
  refine bodyPost_ret (v := pv r n) (by simp [results, Try.results55, go_sem, c0x0, c0x1]) rfl ?_
  exact ⟨rfl, T.out.low⟩
end Go.Proofs.Ytamkegnnlbefdaa
