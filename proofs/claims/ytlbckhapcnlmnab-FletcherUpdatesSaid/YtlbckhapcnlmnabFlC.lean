/- Contracts: the reference's Sum, balance, Join. -/
import Derived.Test.YtlbckhapcnlmnabFlB
namespace Go.Proofs.Ytlbckhapcnlmnab
open Go.RowKit

/-- The reference's second sum after k bytes. -/
def R2 (l : List UInt8) (k : Nat) : Nat := (s2 (l.take k) + (l.length - k) * s1 (l.take k)) % 255
theorem R2_zero (l : List UInt8) : R2 l 0 = 0 := by simp [R2, s1, s2]
theorem R2_end (l : List UInt8) : R2 l l.length = s2 l % 255 := by simp [R2]
theorem R2_step (l : List UInt8) (k : Nat) (h : k < l.length) : (R2 l k + (l.length - k) % 255 * l[k].toNat) % 255 = R2 l (k + 1) := by
  unfold R2
  rw [s2_take l k h, s1_take l k h]
  obtain ⟨d, hd⟩ : ∃ d, l.length - k = d + 1 := ⟨l.length - k - 1, by omega⟩
  have hd' : l.length - (k + 1) = d := by omega
  have hm : (d + 1) % 255 * l[k].toNat % 255 = (d + 1) * l[k].toNat % 255 := by rw [Nat.mul_mod, Nat.mod_mod, ← Nat.mul_mod]
  rw [hd, hd']
  rw [Nat.add_mul] at hm ⊢
  rw [Nat.mul_add]
  generalize (d + 1) % 255 * l[k].toNat = p at *
  generalize d * l[k].toNat = q at *
  generalize d * s1 (l.take k) = r at *
  omega
set_option maxRecDepth 100000 in
set_option maxHeartbeats 4000000 in
theorem refSum_any {w : World} {A : Option Addr} {n c : Nat} {l : List UInt8} (h : By w (.slice A n c) l) :
    Calls Try.prog 11 #[.slice A n c] w fun e w' => e = .returned (.tuple #[.int .i64 ((s1 l % 255 : Nat) : Int), .int .i64 ((s2 l % 255 : Nat) : Int)]) ∧ w = w' := by
  obtain ⟨hn, hc, hc2⟩ := h.len
  have HB := Lib.hid h
  obtain rfl := hn
  clear h
  go_enter Try.func11, Try.ntmps11
  go_wp2_with fail
  go_loop [4, 5, 6] (fun x y i => ∃ k X Y : Nat, k ≤ l.length ∧ i = .int .i64 (k : Int) ∧ x = .int .i64 (X : Int) ∧ y = .int .i64 (Y : Int) ∧ X < 255 ∧ Y < 255 ∧ Hid (X = s1 (l.take k) % 255 ∧ Y = R2 l k)) (fun _ _ i => l.length - (intOf i).toNat)
  case atStart => exact ⟨0, 0, 0, Nat.zero_le _, rfl, rfl, rfl, by omega, by omega, by simp [s1], (R2_zero l).symm⟩
  case round =>
    obtain ⟨k, X, Y, hk, rfl, rfl, rfl, hX, hY, HX⟩ := hrel
    by_cases hlt : k < l.length
    · have hlt' : (k : Int) < (l.length : Int) := by omega
      obtain ⟨ad, rfl, -, hcell⟩ := HB.out.at_ hlt
      have hx : l[k].toNat < 256 := l[k].toNat_lt
      have e1 : (X + l[k].toNat) % 255 = s1 (l.take (k + 1)) % 255 := by rw [HX.out.1, s1_take l k hlt]; omega
      have e2 : (Y + (l.length - k) % 255 * l[k].toNat) % 255 = R2 l (k + 1) := by rw [HX.out.2]; exact R2_step l k hlt
      obtain ⟨x0, hx0⟩ : ∃ x0, l[k].toNat = x0 := ⟨_, rfl⟩
      rw [hx0] at hcell hx e1 e2
      clear hx0
      obtain ⟨d, hd⟩ : ∃ d, (l.length - k) % 255 = d := ⟨_, rfl⟩
      have hd1 : ((l.length : Int) - (k : Int)) % 255 = (d : Int) := by omega
      have hd2 : d < 255 := by omega
      have hm : d * x0 ≤ 255 * 256 := Nat.mul_le_mul (by omega) (by omega)
      obtain ⟨M, hM⟩ : ∃ M, d * x0 = M := ⟨_, rfl⟩
      have hM' : (d : Int) * (x0 : Int) = (M : Int) := by rw [← hM]; simp
      have hMI : (M : Int) ≤ 65280 := by omega
      have HN := Lib.hid (show (X + x0) % 255 = s1 (l.take (k + 1)) % 255 ∧ (Y + M) % 255 = R2 l (k + 1) from ⟨e1, by rw [← hM, ← hd]; exact e2⟩)
      have hw1 : IntKind.i64.wrap ((d : Int) * (x0 : Int)) = (M : Int) := by rw [hM']; exact IntWalk.i64_in _ (by omega)
      have hw2 : IntKind.i64.wrap ((Y : Int) + (M : Int)) = (Y : Int) + (M : Int) := IntWalk.i64_in _ (by omega)
      clear e1 e2 hM hd HX hm hM'
      go_wp2_with fail
      go_round
      case rel => exact ⟨k + 1, (X + x0) % 255, (Y + M) % 255, by omega, by go_num, by go_num, by go_num, by omega, by omega, HN⟩
      case measure => simp [intOf]; omega
    · obtain rfl : k = l.length := by omega
      have HX1 := Lib.hid (show X = s1 l % 255 ∧ Y = s2 l % 255 by have := HX.out; rw [List.take_length, R2_end] at this; exact this)
      clear HX
      go_wp2_with fail
      go_ret2
      rw [HX1.out.1, HX1.out.2]
      exact ⟨rfl, rfl⟩
end Go.Proofs.Ytlbckhapcnlmnab
