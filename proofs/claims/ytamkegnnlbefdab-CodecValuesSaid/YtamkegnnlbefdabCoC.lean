/- Contracts: appendNumber, the reference's Number. -/
import Derived.Test.YtamkegnnlbefdabCoB
namespace Go.Proofs.Ytamkegnnlbefdab
open Go.RowKit

theorem conv_u8 (x : Nat) : IntKind.u8.wrap (x : Int) = ((UInt8.ofNat x).toNat : Int) := by
  simp [IntKind.wrap, IntKind.bits, IntKind.signed]
theorem shr_cell (n k : Nat) : Value.int .u8 ((n : Int) / 2 ^ (8 * k) % 256) = encB (UInt8.ofNat (n / 256 ^ k)) := by
  have e : (2 : Int) ^ (8 * k) = ((256 ^ k : Nat) : Int) := by rw [Int.pow_mul]; simp
  rw [e]
  unfold encB
  congr 1
set_option maxRecDepth 100000 in
set_option maxHeartbeats 4000000 in
theorem appendNumber_any {w : World} {base : Nat} {v : Value} {l : List UInt8} {n s : Nat} (h : OwnB base w v l) (hb : base ≤ w.heap.size) (hl : l.length ≤ 50000000000000) (hs : s ≤ 8) (_hn : n < 18446744073709551616) :
    Calls Try.prog 26 #[v, .int .u64 (n : Int), .int .i64 (s : Int)] w fun e w' => ∃ v', e = .returned v' ∧ OwnB base w' v' (l ++ be n s) ∧ Gr w w' v v' := by
  have HB := Lib.hid hb
  have HL := Lib.hid hl
  have H0 := Lib.hid h
  have hw0 : IntKind.i64.wrap ((s : Int) - 1) = (s : Int) - 1 := IntWalk.i64_in _ (by omega)
  clear h hb hl
  go_enter Try.func26, Try.ntmps26
  go_wp2_with fail
  go_loopw [0, 7] (fun x i wr => ∃ (k : Nat) (y : Value) (z : Int) (l2 : List UInt8), y = x ∧ i = .int .i64 z ∧ Hid (z = (k : Int) - 1) ∧ k ≤ s ∧ Hid (OwnB base wr y l2 ∧ l2 ++ be n k = l ++ be n s ∧ Gr w wr v y)) (fun _ i _ => (intOf i + 1).toNat)
  case atStart => exact ⟨s, v, _, l, rfl, rfl, rfl, Nat.le_refl _, H0.out, rfl, Gr.refl _ _⟩
  case round =>
    obtain ⟨wq, rfl⟩ : ∃ x, x = wr := ⟨_, rfl⟩
    obtain ⟨k, y, z, l2, rfl, rfl, hz, hk, HS⟩ := hrel
    clear H0 hw0
    cases k with
    | zero =>
      have hz' : ¬ (0 ≤ z) := by have := hz.out; omega
      go_wp2_with fail
      go_ret
      obtain ⟨h1, h2, h3⟩ := HS.out
      exact ⟨_, rfl, by rw [← h2]; simpa [be] using h1, h3⟩
    | succ k =>
      obtain rfl : z = (k : Int) := by have := hz.out; omega
      have hz1 : (0 : Int) ≤ (k : Int) := by omega
      have hz2 : (k : Int) ≤ 7 := by omega
      have hlen : l2.length ≤ 50000000000008 := by
        have := congrArg List.length HS.out.2.1
        have := HL.out
        simp [be_len] at *
        omega
      obtain ⟨v', W', hr, h1, h2⟩ := run_app1 27 _ _ (shr_cell n k) HS.out.1 (by omega) (Nat.le_trans HB.out HS.out.2.2.1.size)
      have HR := Lib.hid hr
      have H2 := Lib.hid h1
      have H3 := Lib.hid h2
      clear hr h1 h2 hlen
      go_wp2_with (at_builtin; go_loud (refine wpList_app rfl (.tmp 14) (.tmp 20) _ rfl rfl rfl HR.out ?_))
      go_roundw
      case rel => exact ⟨k, v', _, l2 ++ [UInt8.ofNat (n / 256 ^ k)], rfl, rfl, rfl, by omega, H2.out, by rw [← HS.out.2.1, be]; simp, HS.out.2.2.trans H3.out⟩
      case measure => simp [intOf]
def nf (n s i j : Nat) : Value := if i ≤ j then encB (UInt8.ofNat (n / 256 ^ (s - 1 - j))) else .int .u8 0
theorem num_cell (x : Nat) : Value.int .u8 ((x : Int) % 256) = encB (UInt8.ofNat x) := by
  unfold encB
  congr 1
set_option maxRecDepth 100000 in
set_option maxHeartbeats 4000000 in
theorem refNumber_any {w : World} {n s : Nat} (hs : s ≤ 8) (hn : n < 18446744073709551616) :
    Calls Try.prog 22 #[.int .u64 (n : Int), .int .i64 (s : Int)] w fun e w' => ∃ v', e = .returned v' ∧ By w' v' (be n s) ∧ Below w.heap.size w w' := by
  obtain ⟨i0, hi, hz0, hz1, hz2⟩ := info_parts infoB
  have hw0 : IntKind.i64.wrap ((s : Int) - 1) = (s : Int) - 1 := IntWalk.i64_in _ (by omega)
  go_enter Try.func22, Try.ntmps22
  go_wp2_with (refine wpList_make_row rfl (.tmp 7) (.tmp 7) _ rfl u8T i0 _ uSl hi hz0 hz1 rfl _ _ _ _ s rfl rfl rfl rfl (by rw [hz2]; omega) (by simp [maxLen]; omega) _ _ (Below.refl _ _) (Nat.le_refl _) ?_; intro w6 hrow hb6 hs6)
  have hr0 : Row w6 w.heap.size u8T s (nf n s s) := hrow.out.same (fun j hj => by simp [nf]; omega)
  have HB0 := Lib.hid hb6.out
  have hg6 := hr0.lt
  have HR0 := Lib.hid hr0
  clear hrow hb6 hs6 hi hz0 hz1 hz2 hr0
  go_loopw [0, 6] (fun m i wr => ∃ (x k : Nat) (z : Int), m = .int .u64 (x : Int) ∧ x < 18446744073709551616 ∧ i = .int .i64 z ∧ Hid (z = (k : Int) - 1) ∧ k ≤ s ∧ Hid (x = n / 256 ^ (s - k)) ∧ Hid (Row wr w.heap.size u8T s (nf n s k) ∧ Below w.heap.size w wr)) (fun _ i _ => (intOf i + 1).toNat)
  case atStart => exact ⟨n, s, _, rfl, hn, rfl, rfl, Nat.le_refl _, (by rw [Nat.sub_self, Nat.pow_zero, Nat.div_one] : n = n / 256 ^ (s - s)), HR0.out, HB0.out⟩
  case round =>
    obtain ⟨wq, rfl⟩ : ∃ x, x = wr := ⟨_, rfl⟩
    obtain ⟨x, k, z, rfl, hx, rfl, hz, hk, HX, HS⟩ := hrel
    clear HR0 HB0 hw0
    cases k with
    | zero =>
      have hz' : ¬ (0 ≤ z) := by have := hz.out; omega
      go_wp2_with fail
      go_ret
      obtain ⟨h1, h2⟩ := HS.out
      refine ⟨.slice (some ⟨w.heap.size, 0, none⟩) s s, rfl, ⟨some ⟨w.heap.size, 0, none⟩, s, by rw [be_len], by rw [be_len]; omega, by omega, ?_⟩, h2⟩
      rw [be_len]
      refine h1.cells.same fun j hj => ?_
      rw [bf_get _ (by rw [be_len]; exact hj), be_get n s j hj]
      simp [nf]
    | succ k =>
      obtain rfl : z = (k : Int) := by have := hz.out; omega
      have hz1 : (0 : Int) ≤ (k : Int) := by omega
      have hlt : (k : Int) < (s : Int) := by omega
      have hc0 := HS.out.1.cell k (by omega)
      have hf0 := HS.out.1.frozen k
      have HC := Lib.hid (num_cell x)
      go_wp2_with fail
      go_roundw
      case rel =>
        refine ⟨x / 256, k, _, by go_num, by omega, rfl, rfl, by omega, (?_ : x / 256 = n / 256 ^ (s - k)), ?_, HS.out.2.setCell (Nat.le_refl _) _⟩
        · rw [HX.out, Nat.div_div_eq_div_mul, ← Nat.pow_succ]; congr 2; omega
        · refine HS.out.1.set_ k _ (fun j hj => ?_)
          rw [HC.out, HX.out]
          unfold nf
          by_cases h1 : j = k
          · subst h1
            rw [if_pos (Nat.le_refl _), if_pos rfl]
            congr 4
            omega
          · rw [if_neg h1]
            by_cases h2 : k ≤ j
            · rw [if_pos h2, if_pos (by omega)]
            · rw [if_neg h2, if_neg (by omega)]
      case measure => simp [intOf]
end Go.Proofs.Ytamkegnnlbefdab
