/- Contracts of package fletcher: reduce, add, Update, Sum, Check. -/
import Derived.Test.YtlbckhapcnlmnabFlA
import Derived.LoopTactic
import Derived.Test.YtlbckhapcnlmnabShelf
namespace Go.Proofs.Ytlbckhapcnlmnab
open Go.RowKit

theorem tmod_255 (n : Int) : (n.tmod 255 + 255).tmod 255 = n % 255 := by
  have h : -255 < n.tmod 255 ∧ n.tmod 255 < 255 ∧ (n.tmod 255) % 255 = n % 255 := by
    rcases Int.le_total 0 n with h | h
    · rw [Int.tmod_eq_emod_of_nonneg h]
      omega
    · obtain ⟨m, rfl⟩ : ∃ m, n = -m := ⟨-n, by omega⟩
      rw [Int.neg_tmod, Int.tmod_eq_emod_of_nonneg (by omega)]
      omega
  rw [Int.tmod_eq_emod_of_nonneg (by omega)]
  omega
theorem tmod_in (n : Int) : -255 < n.tmod 255 ∧ n.tmod 255 < 255 := by
  rcases Int.le_total 0 n with h | h
  · rw [Int.tmod_eq_emod_of_nonneg h]
    omega
  · obtain ⟨m, rfl⟩ : ∃ m, n = -m := ⟨-n, by omega⟩
    rw [Int.neg_tmod, Int.tmod_eq_emod_of_nonneg (by omega)]
    omega
set_option maxRecDepth 100000 in
set_option maxHeartbeats 2000000 in
theorem reduce_any (n : Int) (w : World) :
    Calls Try.prog 17 #[.int .i64 n] w fun e w' => e = .returned (.int .i64 (n % 255)) ∧ w = w' := by
  have hb : -255 < n.tmod 255 ∧ n.tmod 255 < 255 := tmod_in n
  have hw : wrap64 (n.tmod 255 + 255) = n.tmod 255 + 255 := by unfold wrap64; omega
  have ht := tmod_255 n
  clear hb
  go_enter Try.func17, Try.ntmps17
  go_wp2_with fail
  go_ret
  exact ⟨rfl, rfl⟩
set_option maxRecDepth 100000 in
set_option maxHeartbeats 2000000 in
theorem reduced_any (n : Int) (w : World) :
    Calls Try.prog 15 #[.int .i64 n] w fun e w' => e = .returned (.int .i64 (n % 255)) ∧ w = w' := by
  have hb : -255 < n.tmod 255 ∧ n.tmod 255 < 255 := tmod_in n
  have hw : wrap64 (n.tmod 255 + 255) = n.tmod 255 + 255 := by unfold wrap64; omega
  have ht := tmod_255 n
  clear hb
  go_enter Try.func15, Try.ntmps15
  go_wp2_with fail
  go_ret
  exact ⟨rfl, rfl⟩
abbrev nV (n : Nat) : Value := .int .i64 (n : Int)
theorem mod_nat (n : Nat) : (n : Int) % 255 = ((n % 255 : Nat) : Int) := by omega
set_option maxRecDepth 100000 in
set_option maxHeartbeats 2000000 in
theorem add_any (a b : Nat) (x : UInt8) (ha : a < 255) (hb : b < 255) (w : World) :
    Calls Try.prog 18 #[.int .i64 (a : Int), .int .i64 (b : Int), .int .u8 (x.toNat : Int)] w fun e w' => e = .returned (.tuple #[.int .i64 (((a + x.toNat) % 255 : Nat) : Int), .int .i64 (((b + (a + x.toNat) % 255) % 255 : Nat) : Int)]) ∧ w = w' := by
  have hx : x.toNat < 256 := x.toNat_lt
  have r1 := Lib.hid (fun W => reduce_any (((a + x.toNat : Nat) : Int)) W)
  have r2 := Lib.hid (fun W => reduce_any (((b + (a + x.toNat) % 255 : Nat) : Int)) W)
  rw [mod_nat, Int.natCast_add] at r1
  rw [mod_nat, Int.natCast_add] at r2
  obtain ⟨s, hs⟩ : ∃ s, (a + x.toNat) % 255 = s := ⟨_, rfl⟩
  have hs2 : s < 255 := by omega
  rw [hs] at r1 r2 ⊢
  clear hs
  obtain ⟨X, hX⟩ : ∃ X, x.toNat = X := ⟨_, rfl⟩
  rw [hX] at r1 hx ⊢
  clear hX
  go_enter Try.func18, Try.ntmps18
  go_wp2_with fail
  refine (r1.out _).mono ?_
  rintro e w1 ⟨rfl, rfl⟩
  go_wp2_with fail
  refine (r2.out _).mono ?_
  rintro e w1 ⟨rfl, rfl⟩
  go_wp2_with fail
  go_ret2
  exact ⟨rfl, rfl⟩
/-- The sums of bytes behind sums a, b. -/
def U1 (a : Nat) (l : List UInt8) : Nat := (a + s1 l) % 255
def U2 (a b : Nat) (l : List UInt8) : Nat := (b + l.length * a + s2 l) % 255
theorem U1_lt (a : Nat) (l : List UInt8) : U1 a l < 255 := Nat.mod_lt _ (by decide)
theorem U2_lt (a b : Nat) (l : List UInt8) : U2 a b l < 255 := Nat.mod_lt _ (by decide)
theorem U1_take (a : Nat) (l : List UInt8) (k : Nat) (h : k < l.length) : (U1 a (l.take k) + l[k].toNat) % 255 = U1 a (l.take (k + 1)) := by
  unfold U1
  rw [s1_take l k h]
  omega
theorem U2_take (a b : Nat) (l : List UInt8) (k : Nat) (h : k < l.length) : (U2 a b (l.take k) + U1 a (l.take (k + 1))) % 255 = U2 a b (l.take (k + 1)) := by
  unfold U1 U2
  rw [s2_take l k h, List.length_take, List.length_take, Nat.min_eq_left (by omega), Nat.min_eq_left (by omega), Nat.add_mul]
  omega
set_option maxRecDepth 100000 in
set_option maxHeartbeats 4000000 in
theorem update_any {w : World} {A : Option Addr} {n c : Nat} {l : List UInt8} (f s : Int) (a b : Nat) (hf : f % 255 = (a : Int)) (hs : s % 255 = (b : Int)) (h : By w (.slice A n c) l) :
    Calls Try.prog 13 #[.int .i64 f, .int .i64 s, .slice A n c] w fun e w' => e = .returned (.tuple #[.int .i64 (U1 a l : Int), .int .i64 (U2 a b l : Int)]) ∧ w = w' := by
  obtain ⟨hn, hc, hc2⟩ := h.len
  have r1 := Lib.hid (reduce_any f w)
  have r2 := Lib.hid (reduce_any s w)
  rw [hf] at r1
  rw [hs] at r2
  have HAB := Lib.hid (show a < 255 ∧ b < 255 by omega)
  have HB := Lib.hid h
  obtain rfl := hn
  clear h hf hs
  go_enter Try.func13, Try.ntmps13
  go_wp2_with fail
  refine r1.out.mono ?_
  rintro e w1 ⟨rfl, rfl⟩
  go_wp2_with fail
  refine r2.out.mono ?_
  rintro e w1 ⟨rfl, rfl⟩
  clear r1 r2
  go_wp2_with fail
  go_loop [0, 1, 16] (fun x y i => ∃ k X Y : Nat, k ≤ l.length ∧ i = .int .i64 (k : Int) ∧ x = .int .i64 (X : Int) ∧ y = .int .i64 (Y : Int) ∧ Hid (X = U1 a (l.take k) ∧ Y = U2 a b (l.take k))) (fun _ _ i => l.length - (intOf i).toNat)
  case atStart => exact ⟨0, a, b, Nat.zero_le _, rfl, rfl, rfl, by have := HAB.out; constructor <;> simp [U1, U2, s1, s2] <;> omega⟩
  case round =>
    obtain ⟨k, X, Y, hk, rfl, rfl, rfl, HX⟩ := hrel
    by_cases hlt : k < l.length
    · have hlt' : (k : Int) < (l.length : Int) := by omega
      obtain ⟨ad, rfl, -, hcell⟩ := HB.out.at_ hlt
      have hk1 : IntKind.i64.wrap ((k : Int) + 1) = (k : Int) + 1 := IntWalk.i64_in _ (by omega)
      have HA := Lib.hid (fun W => add_any X Y l[k] (by rw [HX.out.1]; exact U1_lt _ _) (by rw [HX.out.2]; exact U2_lt _ _ _) W)
      have e1 : (X + l[k].toNat) % 255 = U1 a (l.take (k + 1)) := by rw [HX.out.1]; exact U1_take a l k hlt
      have e2 : (Y + (X + l[k].toNat) % 255) % 255 = U2 a b (l.take (k + 1)) := by rw [e1, HX.out.2]; exact U2_take a b l k hlt
      rw [e2, e1] at HA
      obtain ⟨X1, hX1⟩ : ∃ X1, U1 a (l.take (k + 1)) = X1 := ⟨_, rfl⟩
      obtain ⟨Y1, hY1⟩ : ∃ Y1, U2 a b (l.take (k + 1)) = Y1 := ⟨_, rfl⟩
      rw [hX1, hY1] at HA
      have HX1 := Lib.hid (show X1 = U1 a (l.take (k + 1)) ∧ Y1 = U2 a b (l.take (k + 1)) from ⟨hX1.symm, hY1.symm⟩)
      clear e1 e2 hX1 hY1
      generalize l[k].toNat = x0 at hcell HA
      clear HX
      go_wp2_with fail
      refine (HA.out _).mono ?_
      rintro e w1 ⟨rfl, rfl⟩
      go_wp2_with fail
      go_round
      case rel => exact ⟨k + 1, X1, Y1, by omega, by go_num, rfl, rfl, HX1⟩
      case measure => simp [intOf]; omega
    · obtain rfl : k = l.length := by omega
      have HX1 := Lib.hid (show X = U1 a l ∧ Y = U2 a b l by have := HX.out; rw [List.take_length] at this; exact this)
      clear HX
      go_wp2_with fail
      go_ret2
      rw [HX1.out.1, HX1.out.2]
      exact ⟨rfl, rfl⟩
set_option maxRecDepth 100000 in
set_option maxHeartbeats 2000000 in
theorem sum_any {w : World} {A : Option Addr} {n c : Nat} {l : List UInt8} (h : By w (.slice A n c) l) :
    Calls Try.prog 10 #[.slice A n c] w fun e w' => e = .returned (.tuple #[.int .i64 ((s1 l % 255 : Nat) : Int), .int .i64 ((s2 l % 255 : Nat) : Int)]) ∧ w = w' := by
  have r := Lib.hid (update_any 0 0 0 0 rfl rfl h)
  have e1 : U1 0 l = s1 l % 255 := by simp [U1]
  have e2 : U2 0 0 l = s2 l % 255 := by simp [U2]
  rw [e1, e2] at r
  clear e1 e2 h
  go_enter Try.func10, Try.ntmps10
  go_wp2_with fail
  refine r.out.mono ?_
  rintro e w1 ⟨rfl, rfl⟩
  go_wp2_with fail
  go_ret2
  exact ⟨rfl, rfl⟩
set_option maxRecDepth 100000 in
set_option maxHeartbeats 2000000 in
theorem check_any {w : World} {A : Option Addr} {n c : Nat} {l : List UInt8} (h : By w (.slice A n c) l) :
    Calls Try.prog 12 #[.slice A n c] w fun e w' => e = .returned (.bool (sealedB l)) ∧ w = w' := by
  have r := Lib.hid (sum_any h)
  clear h
  obtain ⟨X, hX⟩ : ∃ X, s1 l % 255 = X := ⟨_, rfl⟩
  obtain ⟨Y, hY⟩ : ∃ Y, s2 l % 255 = Y := ⟨_, rfl⟩
  have hb : sealedB l = decide (X = 0 ∧ Y = 0) := by unfold sealedB; rw [hX, hY]
  rw [hX, hY] at r
  rw [hb]
  clear hb hX hY
  by_cases h0 : X = 0
  · subst h0
    by_cases h1 : Y = 0
    · subst h1
      go_enter Try.func12, Try.ntmps12
      go_wp2_with fail
      refine r.out.mono ?_
      rintro e w1 ⟨rfl, rfl⟩
      go_wp2_with fail
      go_ret
      exact ⟨rfl, rfl⟩
    · have hy : ((Y : Int) == 0) = false := by simpa using h1
      rw [show decide ((0 : Nat) = 0 ∧ Y = 0) = false by simpa using h1]
      clear h1
      go_enter Try.func12, Try.ntmps12
      go_wp2_with fail
      refine r.out.mono ?_
      rintro e w1 ⟨rfl, rfl⟩
      go_wp2_with fail
      go_ret
      exact ⟨rfl, rfl⟩
  · have hx : ((X : Int) == 0) = false := by simpa using h0
    rw [show decide (X = 0 ∧ Y = 0) = false by simp [h0]]
    clear h0
    go_enter Try.func12, Try.ntmps12
    go_wp2_with fail
    refine r.out.mono ?_
    rintro e w1 ⟨rfl, rfl⟩
    go_wp2_with fail
    go_ret
    exact ⟨rfl, rfl⟩
end Go.Proofs.Ytlbckhapcnlmnab
