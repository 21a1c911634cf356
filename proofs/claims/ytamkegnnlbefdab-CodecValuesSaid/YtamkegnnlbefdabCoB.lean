/- Contracts of package codec and of its reference: number, check, Uint, Fits. -/
import Derived.Test.YtamkegnnlbefdabCoA
import Derived.LoopTactic
import Derived.Laws.Shifts
import Derived.Laws.Bits64b
namespace Go.Proofs.Ytamkegnnlbefdab
open Go.RowKit

theorem shl8 (n : Nat) (h : n * 256 < 18446744073709551616) : Op.shift .shl .u64 (n : Int) .u64 8 = pure (.int .u64 ((n * 256 : Nat) : Int)) := by
  refine (shift_shl .u64 .u64 (n : Int) 8 (by omega) (by decide)).trans ?_
  have e : (8 : Int).toNat = 8 := rfl
  rw [e]
  congr 2
  simp [IntKind.wrap, IntKind.bits, IntKind.signed]
  omega
set_option maxRecDepth 100000 in
theorem or_byte (n d : Nat) (hd : d < 256) (h : n * 256 + d < 18446744073709551616) : bits .or .u64 ((n : Int) * 256) (d : Int) = ((n * 256 + d : Nat) : Int) := by
  have e1 : ((n : Int) * 256) = ((n * 256 : Nat) : Int) := by omega
  have e2 : (n * 256) ||| d = n * 256 + d := by
    have := Nat.shiftLeft_add_eq_or_of_lt (b := d) (i := 8) hd n
    rw [Nat.shiftLeft_eq] at this
    exact this.symm
  rw [e1, bits_or_u64_nat _ _ (by omega) (by omega), e2]
set_option maxRecDepth 100000 in
set_option maxHeartbeats 2000000 in
theorem number_any {w : World} {A : Option Addr} {n c : Nat} {l : List UInt8} (h : By w (.slice A n c) l) (hl : l.length ≤ 8) :
    Calls Try.prog 30 #[.slice A n c] w fun e w' => e = .returned (.int .u64 (numB l : Nat)) ∧ w = w' := by
  obtain ⟨hn, hc, hc2⟩ := h.len
  have HL := Lib.hid hl
  have HB := Lib.hid h
  obtain rfl := hn
  clear h
  go_enter Try.func30, Try.ntmps30
  go_wp2_with fail
  go_loop [3, 8] (fun n i => ∃ k : Nat, k ≤ l.length ∧ i = .int .i64 k ∧ n = .int .u64 (numB (l.take k) : Nat)) (fun _ i => l.length - (intOf i).toNat)
  case atStart => exact ⟨0, Nat.zero_le _, rfl, rfl⟩
  case round =>
    obtain ⟨k, hk, rfl, rfl⟩ := hrel
    by_cases hlt : k < l.length
    · have hlt' : (k : Int) < (l.length : Int) := by omega
      obtain ⟨a, rfl, -, hcell⟩ := HB.out.at_ hlt
      have hs := numB_take l k hlt
      have hb := numB_lt8 (l := l.take k) (k := 7) (by rw [List.length_take]; have := HL.out; omega)
      have hx : l[k].toNat < 256 := l[k].toNat_lt
      have hw0 : IntKind.u64.wrap (l[k].toNat : Int) = (l[k].toNat : Int) := by simp [IntKind.wrap, IntKind.bits, IntKind.signed]; omega
      have hsh := shl8 (numB (l.take k)) (by omega)
      have hor := Lib.hid (or_byte (numB (l.take k)) l[k].toNat hx (by omega))
      have HS := Lib.hid hs
      clear hs hb
      go_wp2_with fail
      go_round
      case rel => exact ⟨k + 1, by omega, by go_num, by rw [hor.out, HS.out]⟩
      case measure => simp [intOf]; omega
    · obtain rfl : k = l.length := by omega
      rw [List.take_length]
      go_wp2_with fail
      go_ret
      exact ⟨rfl, rfl⟩
set_option maxRecDepth 100000 in
set_option maxHeartbeats 2000000 in
theorem refUint_any {w : World} {A : Option Addr} {n c : Nat} {l : List UInt8} (h : By w (.slice A n c) l) (hl : l.length ≤ 8) :
    Calls Try.prog 24 #[.slice A n c] w fun e w' => e = .returned (.int .u64 (numB l : Nat)) ∧ w = w' := by
  obtain ⟨hn, hc, hc2⟩ := h.len
  have HL := Lib.hid hl
  have HB := Lib.hid h
  obtain rfl := hn
  clear h
  go_enter Try.func24, Try.ntmps24
  go_wp2_with fail
  go_loop [3, 4] (fun n i => ∃ k : Nat, k ≤ l.length ∧ i = .int .i64 k ∧ n = .int .u64 (numB (l.take k) : Nat)) (fun _ i => l.length - (intOf i).toNat)
  case atStart => exact ⟨0, Nat.zero_le _, rfl, rfl⟩
  case round =>
    obtain ⟨k, hk, rfl, rfl⟩ := hrel
    by_cases hlt : k < l.length
    · have hlt' : (k : Int) < (l.length : Int) := by omega
      obtain ⟨a, rfl, -, hcell⟩ := HB.out.at_ hlt
      have hs := numB_take l k hlt
      have hb := numB_lt8 (l := l.take k) (k := 7) (by rw [List.length_take]; have := HL.out; omega)
      have hx : l[k].toNat < 256 := l[k].toNat_lt
      have hw0 : IntKind.u64.wrap (l[k].toNat : Int) = (l[k].toNat : Int) := by simp [IntKind.wrap, IntKind.bits, IntKind.signed]; omega
      have hw1 : IntKind.u64.wrap ((numB (l.take k) : Int) * 256) = (numB (l.take k) : Int) * 256 := by simp [IntKind.wrap, IntKind.bits, IntKind.signed]; omega
      have hw2 : IntKind.u64.wrap ((numB (l.take k) : Int) * 256 + (l[k].toNat : Int)) = (numB (l.take k) : Int) * 256 + (l[k].toNat : Int) := by simp [IntKind.wrap, IntKind.bits, IntKind.signed]; omega
      have HS := Lib.hid hs
      clear hs hb
      go_wp2_with fail
      go_round
      case rel => exact ⟨k + 1, by omega, by go_num, by rw [HS.out]; go_num⟩
      case measure => simp [intOf]; omega
    · obtain rfl : k = l.length := by omega
      rw [List.take_length]
      go_wp2_with fail
      go_ret
      exact ⟨rfl, rfl⟩
set_option maxRecDepth 100000 in
set_option maxHeartbeats 2000000 in
theorem uint_any {w : World} {A : Option Addr} {n c : Nat} {l : List UInt8} (h : By w (.slice A n c) l) (h1 : 1 ≤ n) (h8 : n ≤ 8) :
    Calls Try.prog 23 #[.slice A n c] w fun e w' => e = .returned (.tuple #[.int .u64 (numB l : Nat), .int .i64 0]) ∧ w = w' := by
  obtain ⟨hn, hc, hc2⟩ := h.len
  have hN := Lib.hid (number_any h (by omega))
  have g1 : ¬ ((n : Int) < 1) := by omega
  have g2 : ¬ ((n : Int) > 8) := by omega
  clear h hn
  go_enter Try.func23, Try.ntmps23
  go_wp2_with fail
  refine hN.out.mono ?_
  rintro e w' ⟨rfl, rfl⟩
  go_wp2_with fail
  go_ret2
  exact ⟨rfl, rfl⟩
set_option maxRecDepth 100000 in
set_option maxHeartbeats 2000000 in
theorem uint_bad {w : World} {A : Option Addr} {n c : Nat} (h : n < 1 ∨ 8 < n) (hc : n ≤ 9223372036854775807) :
    Calls Try.prog 23 #[.slice A n c] w fun e w' => e = .returned (.tuple #[.int .u64 0, .int .i64 4]) ∧ w = w' := by
  rcases h with h | h
  · have g1 : ((n : Int) < 1) := by omega
    go_enter Try.func23, Try.ntmps23
    go_wp2_with fail
    go_ret2
    exact ⟨rfl, rfl⟩
  · have g1 : ¬ ((n : Int) < 1) := by omega
    have g2 : ((n : Int) > 8) := by omega
    go_enter Try.func23, Try.ntmps23
    go_wp2_with fail
    go_ret2
    exact ⟨rfl, rfl⟩
set_option maxRecDepth 100000 in
set_option maxHeartbeats 2000000 in
theorem check_any (t : Int) (A : Option Addr) (n c : Nat) (w : World) (hn : n ≤ 9223372036854775807) :
    Calls Try.prog 25 #[.agg #[.int .i64 t, .slice A n c]] w fun e w' => e = .returned (.int .i64 (errN t n)) ∧ Below w.heap.size w w' := by
  have hb : Below w.heap.size w (w.alloc (.cells #[.int .i64 t, .slice A n c] 56)) := (Below.refl _ w).alloc (Nat.le_refl _) _
  have HB := Lib.hid hb
  clear hb
  by_cases h1 : t < 1
  · have he : errN t n = 1 := by unfold errN; rw [if_pos (.inl h1)]
    rw [he]
    clear he
    go_enter Try.func25, Try.ntmps25
    go_wp2_with fail
    go_ret
    exact ⟨rfl, HB.out⟩
  · by_cases h2 : t > 255
    · have he : errN t n = 1 := by unfold errN; rw [if_pos (.inr (by omega))]
      rw [he]
      clear he
      go_enter Try.func25, Try.ntmps25
      go_wp2_with fail
      go_ret
      exact ⟨rfl, HB.out⟩
    · by_cases h3 : 65535 < n
      · have he : errN t n = 6 := by unfold errN; rw [if_neg (by omega), if_pos h3]
        have h3' : (n : Int) > 65535 := by omega
        rw [he]
        clear he h3
        go_enter Try.func25, Try.ntmps25
        go_wp2_with fail
        go_ret
        exact ⟨rfl, HB.out⟩
      · have he : errN t n = 0 := by unfold errN; rw [if_neg (by omega), if_neg h3]
        have h3' : ¬ ((n : Int) > 65535) := by omega
        rw [he]
        clear he h3
        go_enter Try.func25, Try.ntmps25
        go_wp2_with fail
        go_ret
        exact ⟨rfl, HB.out⟩
def fitsB (n s : Nat) : Bool := decide (n / 256 ^ s = 0)
set_option maxRecDepth 100000 in
set_option maxHeartbeats 2000000 in
theorem fits_any {n s : Nat} (hn : n < 18446744073709551616) (hs : s ≤ 8) (w : World) :
    Calls Try.prog 21 #[.int .u64 (n : Int), .int .i64 (s : Int)] w fun e w' => e = .returned (.bool (fitsB n s)) ∧ w = w' := by
  go_enter Try.func21, Try.ntmps21
  go_wp2_with fail
  go_loop [0, 5] (fun m i => ∃ k x : Nat, k ≤ s ∧ i = .int .i64 k ∧ m = .int .u64 (x : Int) ∧ x < 18446744073709551616 ∧ Hid (x = n / 256 ^ k)) (fun _ i => s - (intOf i).toNat)
  case atStart => exact ⟨0, n, Nat.zero_le _, rfl, rfl, hn, (by rw [Nat.pow_zero, Nat.div_one] : n = n / 256 ^ 0)⟩
  case round =>
    obtain ⟨k, x, hk, rfl, rfl, hx, hX⟩ := hrel
    by_cases hlt : k < s
    · have hlt' : (k : Int) < (s : Int) := by omega
      go_wp2_with fail
      go_round
      case rel => exact ⟨k + 1, x / 256, by omega, by go_num, by go_num, by omega, (by rw [hX.out, Nat.pow_succ, Nat.div_div_eq_div_mul] : x / 256 = n / 256 ^ (k + 1))⟩
      case measure => simp [intOf]; omega
    · obtain rfl : k = s := by omega
      have hF : fitsB n k = ((x : Int) == 0) := by
        unfold fitsB
        rw [← hX.out, Bool.eq_iff_iff]
        simp
      have HF := Lib.hid hF
      clear hF
      go_wp2_with fail
      go_ret
      refine ⟨?_, rfl⟩
      rw [HF.out]
      rfl
end Go.Proofs.Ytamkegnnlbefdab
