/- Contracts of package nat: guessDigit. -/
import Derived.Test.YtapblmbjbpkieaaDoorSubP
namespace Go.Proofs.YtapblmbjbpkieaaDoor
open Go.RowKit

theorem top3 (t : Nat → Nat) (n : Nat) (h2 : 2 ≤ n) : val 4294967296 (seg t 0 (n + 1)) = ((t n * 4294967296 + t (n - 1)) * 4294967296 + t (n - 2)) * 4294967296 ^ (n - 2) + val 4294967296 (seg t 0 (n - 2)) := by
  obtain ⟨k, rfl⟩ : ∃ k, n = k + 2 := ⟨n - 2, by omega⟩
  rw [show k + 2 - 2 = k by omega, show k + 2 - 1 = k + 1 by omega, seg_succ, val_snoc, seg_len, seg_succ, val_snoc, seg_len, seg_succ, val_snoc, seg_len]
  simp only [Nat.zero_add, Nat.pow_succ]
  generalize 4294967296 ^ k = P
  generalize val 4294967296 (seg t 0 k) = s
  have e1 : P * 4294967296 * t (k + 1) = 4294967296 * (P * t (k + 1)) := by rw [Nat.mul_comm P, Nat.mul_assoc]
  have e2 : P * 4294967296 * 4294967296 * t (k + 2) = 4294967296 * (4294967296 * (P * t (k + 2))) := by rw [Nat.mul_comm P, Nat.mul_comm (4294967296 * P), Nat.mul_assoc, Nat.mul_assoc]
  have e3 : ((t (k + 2) * 4294967296 + t (k + 1)) * 4294967296 + t k) * P = 4294967296 * (4294967296 * (P * t (k + 2))) + 4294967296 * (P * t (k + 1)) + P * t k := by
    rw [Nat.add_mul, Nat.add_mul, Nat.add_mul, Nat.mul_comm (t k), Nat.mul_assoc (t (k + 2) * 4294967296), Nat.mul_assoc (t (k + 2)), Nat.mul_assoc (t (k + 1))]
    rw [show t (k + 2) * (4294967296 * (4294967296 * P)) = 4294967296 * (4294967296 * (P * t (k + 2))) by rw [Nat.mul_comm (t (k + 2)), Nat.mul_assoc, Nat.mul_assoc], show t (k + 1) * (4294967296 * P) = 4294967296 * (P * t (k + 1)) by rw [Nat.mul_comm (t (k + 1)), Nat.mul_assoc]]
  omega
theorem top2 (t : Nat → Nat) (n : Nat) (h2 : 2 ≤ n) : val 4294967296 (seg t 0 n) = (t (n - 1) * 4294967296 + t (n - 2)) * 4294967296 ^ (n - 2) + val 4294967296 (seg t 0 (n - 2)) := by
  obtain ⟨k, rfl⟩ : ∃ k, n = k + 2 := ⟨n - 2, by omega⟩
  rw [show k + 2 - 2 = k by omega, show k + 2 - 1 = k + 1 by omega, seg_succ, val_snoc, seg_len, seg_succ, val_snoc, seg_len, Nat.pow_succ]
  simp only [Nat.zero_add]
  generalize 4294967296 ^ k = P
  generalize val 4294967296 (seg t 0 k) = s
  have e1 : P * 4294967296 * t (k + 1) = 4294967296 * (P * t (k + 1)) := by rw [Nat.mul_comm P, Nat.mul_assoc]
  have e3 : (t (k + 1) * 4294967296 + t k) * P = 4294967296 * (P * t (k + 1)) + P * t k := by
    rw [Nat.add_mul, Nat.mul_comm (t k), Nat.mul_assoc (t (k + 1)), show t (k + 1) * (4294967296 * P) = 4294967296 * (P * t (k + 1)) by rw [Nat.mul_comm (t (k + 1)), Nat.mul_assoc]]
  omega
theorem seg_val_lt {t : Nat → Nat} (h : ∀ j, t j < 4294967296) (o n : Nat) : val 4294967296 (seg t o n) < 4294967296 ^ n := by
  have := val_lt (seg t o n) (seg_lt h o n)
  rwa [seg_len] at this
/-- The top digit of the part is at most the divisor's. -/
theorem top_le {t d : Nat → Nat} {n : Nat} (h1 : 1 ≤ n) (hd : ∀ j, d j < 4294967296) (h : val 4294967296 (seg t 1 n) < val 4294967296 (seg d 0 n)) : t n ≤ d (n - 1) := by
  obtain ⟨k, rfl⟩ : ∃ k, n = k + 1 := ⟨n - 1, by omega⟩
  rw [seg_succ, val_snoc, seg_succ, val_snoc, seg_len, seg_len, Nat.zero_add, Nat.add_comm 1 k] at h
  rw [Nat.add_sub_cancel]
  have h2 := seg_val_lt hd 0 k
  rcases Nat.lt_or_ge (d k) (t (k + 1)) with h3 | h3
  · have h4 : 4294967296 ^ k * (d k + 1) ≤ 4294967296 ^ k * t (k + 1) := Nat.mul_le_mul_left _ h3
    rw [Nat.mul_add, Nat.mul_one] at h4
    omega
  · exact h3
theorem part_lt {t : Nat → Nat} {n v : Nat} (h0 : t 0 < 4294967296) (h : val 4294967296 (seg t 1 n) < v) : val 4294967296 (seg t 0 (n + 1)) < 4294967296 * v := by
  have e : val 4294967296 (seg t 0 (n + 1)) = t 0 + 4294967296 * val 4294967296 (seg t 1 n) := by
    rw [show n + 1 = 1 + n by omega, seg_append, val_append, seg_len]
    simp [seg, val]
  omega

/-- What holds at the head of guessDigit's loop. -/
def GI (p v u p1 v1 q r : Nat) : Prop := p < (q + 1) * v ∧ q * v1 + r = u * 4294967296 + p1
/-- The digits at hand: p is the part, v is the divisor. -/
def GT (p v u p1 p2 v1 v2 : Nat) : Prop := ∃ P plo vlo, p = ((u * 4294967296 + p1) * 4294967296 + p2) * P + plo ∧ plo < P ∧ v = (v1 * 4294967296 + v2) * P + vlo ∧ vlo < P
theorem gi_exit {p v u p1 p2 v1 v2 q r : Nat} (hT : GT p v u p1 p2 v1 v2) (hI : GI p v u p1 v1 q r) (hle : q * v2 ≤ r * 4294967296 + p2) (hv : 1 ≤ v1) (hq : q < 4294967296) : Guess p v q := by
  obtain ⟨P, plo, vlo, rfl, h1, rfl, h2⟩ := hT
  refine ⟨hI.1, fun h0 => guess_exit h2 ((guess_test hI.2).1 hle) (by omega) h0⟩
theorem gi_next {p v u p1 p2 v1 v2 q r : Nat} (hT : GT p v u p1 p2 v1 v2) (hI : GI p v u p1 v1 q r) (hgt : r * 4294967296 + p2 < q * v2) : 1 ≤ q ∧ GI p v u p1 v1 (q - 1) (r + v1) := by
  have hq : 1 ≤ q := by
    rcases Nat.eq_zero_or_pos q with rfl | h
    · omega
    · exact h
  obtain ⟨k, rfl⟩ : ∃ k, q = k + 1 := ⟨q - 1, by omega⟩
  have h3 := hI.2
  have h4 : ¬ ((k + 1) * (v1 * 4294967296 + v2) ≤ (u * 4294967296 + p1) * 4294967296 + p2) := fun h => by
    have := (guess_test h3).2 h
    omega
  obtain ⟨P, plo, vlo, rfl, h1, rfl, h2⟩ := hT
  refine ⟨hq, guess_fail h1 (Nat.lt_of_not_le h4), ?_⟩
  rw [Nat.add_sub_cancel]
  rw [Nat.add_mul, Nat.one_mul] at h3
  omega
theorem gi_over {p v u p1 p2 v1 v2 q r : Nat} (hT : GT p v u p1 p2 v1 v2) (hI : GI p v u p1 v1 q r) (hr : 4294967296 ≤ r) (hv : 1 ≤ v1) (hv2 : v2 < 4294967296) (hq : q < 4294967296) : Guess p v q := by
  refine gi_exit hT hI ?_ hv hq
  have h1 : q * v2 ≤ 4294967296 * 4294967296 := Nat.mul_le_mul (by omega) (by omega)
  have h2 : 4294967296 * 4294967296 ≤ r * 4294967296 := Nat.mul_le_mul_right _ hr
  omega
theorem gi_start {p v u p1 p2 v1 v2 : Nat} (hT : GT p v u p1 p2 v1 v2) (hv : 0 < v1) (hp2 : p2 < 4294967296) : GI p v u p1 v1 ((u * 4294967296 + p1) / v1) ((u * 4294967296 + p1) % v1) := by
  obtain ⟨P, plo, vlo, rfl, h1, rfl, h2⟩ := hT
  refine ⟨guess_init hp2 h1 hv, ?_⟩
  rw [Nat.mul_comm]
  exact Nat.div_add_mod _ _
theorem gt_of {t d : Nat → Nat} {n : Nat} (h2 : 2 ≤ n) (ht : ∀ j, t j < 4294967296) (hd : ∀ j, d j < 4294967296) : GT (val 4294967296 (seg t 0 (n + 1))) (val 4294967296 (seg d 0 n)) (t n) (t (n - 1)) (t (n - 2)) (d (n - 1)) (d (n - 2)) :=
  ⟨4294967296 ^ (n - 2), _, _, top3 t n h2, seg_val_lt ht 0 (n - 2), top2 d n h2, seg_val_lt hd 0 (n - 2)⟩
theorem guess_top {t d : Nat → Nat} {n : Nat} (h2 : 2 ≤ n) (ht : ∀ j, t j < 4294967296) (hd : ∀ j, d j < 4294967296) (htop : 2147483648 ≤ d (n - 1)) (he : d (n - 1) ≤ t n) (h : val 4294967296 (seg t 1 n) < val 4294967296 (seg d 0 n)) : Guess (val 4294967296 (seg t 0 (n + 1))) (val 4294967296 (seg d 0 n)) 4294967295 := by
  have h1 := top_le (by omega) hd h
  have hv : val 4294967296 (seg d 0 n) < (d (n - 1) + 1) * 4294967296 ^ (n - 1) := by
    obtain ⟨k, rfl⟩ : ∃ k, n = k + 1 := ⟨n - 1, by omega⟩
    rw [seg_succ, val_snoc, seg_len, Nat.zero_add, Nat.add_sub_cancel, Nat.add_mul, Nat.one_mul, Nat.mul_comm (d k)]
    have := seg_val_lt hd 0 k
    omega
  have hp : val 4294967296 (seg t 0 (n + 1)) = d (n - 1) * (4294967296 * 4294967296 ^ (n - 1)) + val 4294967296 (seg t 0 n) := by
    rw [seg_succ, val_snoc, seg_len, Nat.zero_add, show t n = d (n - 1) by omega]
    have : 4294967296 ^ n = 4294967296 * 4294967296 ^ (n - 1) := by
      obtain ⟨k, rfl⟩ : ∃ k, n = k + 1 := ⟨n - 1, by omega⟩
      rw [Nat.add_sub_cancel, Nat.pow_succ, Nat.mul_comm]
    rw [this, Nat.mul_comm (d (n - 1))]
    omega
  exact guess_max (B := 4294967296) (by omega) (by omega) hv hp (part_lt (ht 0) h)
theorem add32_none (x y l : Nat) (w : World) (hl : l = x + y) (h : x + y < 4294967296) :
    Calls Tryd.prog 62 #[.int .u32 (x : Int), .int .u32 (y : Int), .int .u32 0] w fun e w' => e = .returned (.tuple #[.int .u32 (l : Int), .int .u32 0]) ∧ w = w' := by
  refine (add32_nat x y l 0 w (by omega) (by omega) (by omega) (by omega)).mono ?_
  rintro e w' ⟨rfl, rfl⟩
  exact ⟨rfl, rfl⟩
theorem add32_over (x y l : Nat) (w : World) (hx : x < 4294967296) (hy : y < 4294967296) (hl : l + 4294967296 = x + y) :
    Calls Tryd.prog 62 #[.int .u32 (x : Int), .int .u32 (y : Int), .int .u32 0] w fun e w' => e = .returned (.tuple #[.int .u32 (l : Int), .int .u32 1]) ∧ w = w' := by
  refine (add32_nat x y l 1 w (by omega) (by omega) (by omega) (by omega)).mono ?_
  rintro e w' ⟨rfl, rfl⟩
  exact ⟨rfl, rfl⟩
theorem div32_nat (x y c q r : Nat) (w : World) (hx : x < c) (hy : y < 4294967296) (hc : c < 4294967296) (e1 : (x * 4294967296 + y) / c = q) (e2 : (x * 4294967296 + y) % c = r) :
    Calls Tryd.prog 64 #[.int .u32 (x : Int), .int .u32 (y : Int), .int .u32 (c : Int)] w fun e w' => e = .returned (.tuple #[.int .u32 (q : Int), .int .u32 (r : Int)]) ∧ ∃ n, w' = w.drewN n := by
  refine (div32_any x y c w ⟨by omega, by omega⟩ ⟨by omega, by omega⟩ (by omega)).mono ?_
  rintro e w' ⟨rfl, hn⟩
  refine ⟨ret2_int ?_ ?_, hn⟩
  · rw [← e1, Int.natCast_ediv, Int.natCast_add, Int.natCast_mul]; rfl
  · rw [← e2, Int.natCast_emod, Int.natCast_add, Int.natCast_mul]; rfl

def GuessPost (w : World) (p v : Nat) (e : Ending) (w' : World) : Prop := ∃ q : Nat, e = .returned (.int .u32 (q : Int)) ∧ Guess p v q ∧ q < 4294967296 ∧ ∃ k, w' = w.drewN k

set_option maxRecDepth 100000 in
set_option maxHeartbeats 2000000 in
theorem guessDigit_any {g off n m cp cb : Nat} {B : Option Addr} {t d : Nat → Nat} {w : World} (hm : m = n + 1) (h2 : 2 ≤ n) (hnn : n ≤ 1000000) (_hoff : off ≤ 1000000)
    (hA : ∀ j, j ≤ n → w.cell? ⟨g, off + j, none⟩ = some (.int .u32 (t j : Nat))) (ht : ∀ j, t j < 4294967296) (hd : ∀ j, d j < 4294967296) (htop : 2147483648 ≤ d (n - 1))
    {B0 : Nat} (hB : Cells w B0 B n (fun j => .int .u32 (d j : Nat))) (hlt : val 4294967296 (seg t 1 n) < val 4294967296 (seg d 0 n)) (hcp : m ≤ cp) :
    Calls Tryd.prog 84 #[.slice (some ⟨g, off, none⟩) m cp, .slice B n cb] w (GuessPost w (val 4294967296 (seg t 0 (n + 1))) (val 4294967296 (seg d 0 n))) := by
  subst hm
  obtain ⟨a, rfl, -, hc1⟩ := hB (n - 1) (by omega)
  obtain ⟨a', ha', -, hc2⟩ := hB (n - 2) (by omega)
  obtain rfl : a = a' := Option.some.inj ha'
  replace hc1 : w.cell? (a.add (n - 1)) = some (.int .u32 (d (n - 1) : Nat)) := hc1
  replace hc2 : w.cell? (a.add (n - 2)) = some (.int .u32 (d (n - 2) : Nat)) := hc2
  have hcu := hA n (Nat.le_refl _)
  have hcp1 := hA (n - 1) (by omega)
  have hcp2 := hA (n - 2) (by omega)
  have hT := gt_of h2 ht hd
  have hGT := guess_top h2 ht hd htop
  have hle := top_le (by omega) hd hlt
  obtain ⟨p, hp⟩ : ∃ p, p = val 4294967296 (seg t 0 (n + 1)) := ⟨_, rfl⟩
  obtain ⟨v, hv⟩ : ∃ v, v = val 4294967296 (seg d 0 n) := ⟨_, rfl⟩
  rw [← hp, ← hv] at hT
  rw [← hp] at hGT
  rw [← hv] at hGT hlt
  rw [← hp, ← hv]
  have bu := ht n
  have bp1 := ht (n - 1)
  have bp2 := ht (n - 2)
  have bv1 := hd (n - 1)
  have bv2 := hd (n - 2)
  have HG := Lib.hid (fun h => hGT h hlt)
  have HT := Lib.hid hT
  generalize t n = u at *
  generalize t (n - 1) = p1 at *
  generalize t (n - 2) = p2 at *
  generalize d (n - 1) = v1 at *
  generalize d (n - 2) = v2 at *
  clear hA ht hd hB ha' hT hGT hlt hp hv
  have hw1 : IntKind.i64.wrap ((n : Int) - 1) = (n : Int) - 1 := IntWalk.i64_in _ (by omega)
  have hw2 : IntKind.i64.wrap ((n : Int) - 2) = (n : Int) - 2 := IntWalk.i64_in _ (by omega)
  have hn1 : ((n : Int) - 1).toNat = n - 1 := by omega
  have hn2 : ((n : Int) - 2).toNat = n - 2 := by omega
  have hz1 : (0 : Int) ≤ (n : Int) - 1 := by omega
  have hz2 : (0 : Int) ≤ (n : Int) - 2 := by omega
  by_cases hge : v1 ≤ u
  · have HQ := Lib.hid (HG.out hge)
    go_enter Tryd.func84, Tryd.ntmps84
    go_wp2_with fail
    go_quiet (fail)
    go_wp2_with fail
    go_ret
    exact ⟨4294967295, rfl, HQ.out, by omega, _, rfl⟩
  · have hult : u < v1 := by omega
    clear HG hle
    obtain ⟨q0, e1⟩ : ∃ q0, (u * 4294967296 + p1) / v1 = q0 := ⟨_, rfl⟩
    obtain ⟨r0, e2⟩ : ∃ r0, (u * 4294967296 + p1) % v1 = r0 := ⟨_, rfl⟩
    have hI0 := gi_start HT.out (by omega) bp2
    have hq0 : q0 < 4294967296 := by
      rw [← e1, Nat.div_lt_iff_lt_mul (by omega)]
      have : (u + 1) * 4294967296 ≤ v1 * 4294967296 := Nat.mul_le_mul_right _ hult
      rw [Nat.mul_comm 4294967296]
      omega
    have hr0 : r0 < 4294967296 := by
      have := Nat.mod_lt (u * 4294967296 + p1) (show 0 < v1 by omega)
      omega
    rw [e1, e2] at hI0
    have HI0 := Lib.hid hI0
    have HDv := Lib.hid (fun W : World => div32_nat u p1 v1 q0 r0 W hult bp1 bv1 e1 e2)
    clear e1 e2 hI0
    go_enter Tryd.func84, Tryd.ntmps84
    go_wp2_with fail
    go_quiet (fail)
    go_wp2_with fail
    obtain ⟨W, hW⟩ : ∃ W, W = w.drewN nq := ⟨_, rfl⟩
    have kcu : W.cell? ⟨g, off + n, none⟩ = some (.int .u32 (u : Nat)) := by rw [hW]; exact hcu
    have kcp1 : W.cell? ⟨g, off + (n - 1), none⟩ = some (.int .u32 (p1 : Nat)) := by rw [hW]; exact hcp1
    have kcp2 : W.cell? ⟨g, off + (n - 2), none⟩ = some (.int .u32 (p2 : Nat)) := by rw [hW]; exact hcp2
    rw [← hW]
    have HW := Lib.hid hW
    clear hW hcu hcp1 hcp2 hc1 hc2
    go_quiet ((go_at_call 64; exact Calls.quiet_of (HDv.out _)))
    go_wp2_with fail
    obtain ⟨W2, hW2⟩ : ∃ x, x = W.drewN nq := ⟨_, rfl⟩
    have mcp2 : W2.cell? ⟨g, off + (n - 2), none⟩ = some (.int .u32 (p2 : Nat)) := by rw [hW2]; exact kcp2
    have HK : Hid (∃ k, W2 = w.drewN k) := ⟨_, by rw [hW2, HW.out, World.drewN_drewN]⟩
    rw [← hW2]
    clear hW2 HW kcu kcp1 kcp2
    go_loop [8, 9] (fun gv rv => ∃ q r : Nat, gv = .int .u32 q ∧ rv = .int .u32 r ∧ q < 4294967296 ∧ r < 4294967296 ∧ GI p v u p1 v1 q r) (fun gv _ => (intOf gv).toNat)
    case atStart => exact ⟨q0, r0, rfl, rfl, hq0, hr0, HI0.out⟩
    case round =>
      obtain ⟨q, r, rfl, rfl, hq, hr, hI⟩ := hrel
      clear hq0 hr0 HI0 HDv
      obtain ⟨h0, e1⟩ : ∃ h0, q * v2 / 4294967296 = h0 := ⟨_, rfl⟩
      obtain ⟨l0, e2⟩ : ∃ l0, q * v2 % 4294967296 = l0 := ⟨_, rfl⟩
      have hl0 : l0 < 4294967296 := by rw [← e2]; exact Nat.mod_lt _ (by omega)
      have hh0 : h0 < 4294967296 := by
        rw [← e1, Nat.div_lt_iff_lt_mul (by omega)]
        have : q * v2 ≤ 4294967295 * 4294967295 := Nat.mul_le_mul (by omega) (by omega)
        omega
      have hqv : Hid (q * v2 = h0 * 4294967296 + l0) := by unfold Hid; omega
      have E1 := Lib.hid e1
      have E2 := Lib.hid e2
      clear e1 e2
      by_cases ha : h0 < r
      · have hG := Lib.hid (gi_exit HT.out hI (by rw [hqv.out]; omega) (by omega) hq)
        clear hI
        go_wp2_with (go_at_call 61; refine (mul32_nat q v2 h0 l0 _ hq bv2 E1.out E2.out).mono ?_; rintro e w1 ⟨rfl, rfl⟩)
        go_ret
        exact ⟨q, rfl, hG.out, hq, HK.out⟩
      · by_cases hb : h0 = r ∧ l0 ≤ p2
        · obtain ⟨hb1, hb2⟩ := hb
          have hG := Lib.hid (gi_exit HT.out hI (by rw [hqv.out]; omega) (by omega) hq)
          have hbe : ((h0 : Int) == (r : Int)) = true := by simp; omega
          clear hI hb1
          go_wp2_with (go_at_call 61; refine (mul32_nat q v2 h0 l0 _ hq bv2 E1.out E2.out).mono ?_; rintro e w1 ⟨rfl, rfl⟩)
          go_ret
          exact ⟨q, rfl, hG.out, hq, HK.out⟩
        · obtain ⟨hq1, hN⟩ := gi_next HT.out hI (by rw [hqv.out]; omega)
          have hfalse : ((h0 : Int) == (r : Int)) = false ∨ (((h0 : Int) == (r : Int)) = true ∧ p2 < l0) := by
            by_cases hbr : h0 = r
            · exact .inr ⟨by simp; omega, by omega⟩
            · exact .inl (beq_eq_false_iff_ne.2 (by omega))
          clear hI
          by_cases hov : r + v1 < 4294967296
          · obtain ⟨l, hl⟩ : ∃ l, l = r + v1 := ⟨_, rfl⟩
            rw [← hl] at hN
            have hlB : l < 4294967296 := by omega
            have HL := Lib.hid hl
            have HNX := Lib.hid hN
            clear hl hN hb
            rcases hfalse with hf | ⟨hf, hlp⟩
            all_goals
              go_wp2_with (first | (go_at_call 61; refine (mul32_nat q v2 h0 l0 _ hq bv2 E1.out E2.out).mono ?_; rintro e w1 ⟨rfl, rfl⟩) | (go_at_call 62; refine (add32_none r v1 l _ HL.out hov).mono ?_; rintro e w1 ⟨rfl, rfl⟩))
              go_round
              case rel => exact ⟨q - 1, l, by congr 1; omega, rfl, by omega, hlB, HNX.out⟩
              case measure => simp [intOf]; omega
          · obtain ⟨l, hl⟩ : ∃ l, l + 4294967296 = r + v1 := ⟨r + v1 - 4294967296, by omega⟩
            have hG := Lib.hid (gi_over HT.out hN (by omega) (by omega) bv2 (by omega))
            have HL := Lib.hid hl
            clear hl hN hb
            rcases hfalse with hf | ⟨hf, hlp⟩
            all_goals
              go_wp2_with (first | (go_at_call 61; refine (mul32_nat q v2 h0 l0 _ hq bv2 E1.out E2.out).mono ?_; rintro e w1 ⟨rfl, rfl⟩) | (go_at_call 62; refine (add32_over r v1 l _ hr bv1 HL.out).mono ?_; rintro e w1 ⟨rfl, rfl⟩))
              go_ret
              exact ⟨q - 1, ret_int (by omega), hG.out, by omega, HK.out⟩
end Go.Proofs.YtapblmbjbpkieaaDoor
