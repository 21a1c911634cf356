/- Plain facts: long division digit by digit. Contracts of package nat: subtractProduct. Contracts of package nat: guessDigit. Contract of package nat's divideStep. Contracts of package nat: shiftLeft. Contract of package nat's shiftRight. (Made by wip/gen/mkshr.py.) Plain facts: long division, the whole of it. A region that draws its order, inside the fence that binds nothing: walked with held cells. Contract of package nat's divideLong. -/
import Derived.Test.YthfjbpbgnoonpaaGreatDoorNF
import Derived.Test.YthfjbpbgnoonpaaGreatDoorNB
import Derived.Test.YthfjbpbgnoonpaaGreatDoorNA
import Derived.Deep.RegionHeld3
namespace Go.Proofs.YthfjbpbgnoonpaaGreatDoor

/-- The guess g for the quotient of p by v is right, or too great by one. -/
def Guess (p v g : Nat) : Prop := p < (g + 1) * v ∧ (0 < g → (g - 1) * v ≤ p)
/-- p: the top three digits T before P; v: the top two digits V before P. -/
theorem guess_fail {P T V vlo plo g : Nat} (hp : plo < P) (h : T < g * V) : T * P + plo < g * (V * P + vlo) := by
  have h1 : (T + 1) * P ≤ g * V * P := Nat.mul_le_mul_right _ h
  rw [Nat.add_mul, Nat.one_mul] at h1
  rw [Nat.mul_add, ← Nat.mul_assoc]
  omega
theorem guess_exit {P T V vlo plo g : Nat} (hv : vlo < P) (h : g * V ≤ T) (hg : g ≤ V + 1) (h0 : 0 < g) : (g - 1) * (V * P + vlo) ≤ T * P + plo := by
  obtain ⟨k, rfl⟩ : ∃ k, g = k + 1 := ⟨g - 1, by omega⟩
  rw [Nat.add_sub_cancel]
  have h1 : (k + 1) * V * P ≤ T * P := Nat.mul_le_mul_right _ h
  have h2 : k * vlo ≤ V * P := Nat.mul_le_mul (by omega) (Nat.le_of_lt hv)
  rw [Nat.mul_add, ← Nat.mul_assoc]
  rw [Nat.add_mul, Nat.one_mul, Nat.add_mul] at h1
  omega
theorem guess_init_at {B P X p2 v1 v2 vlo plo g : Nat} (hB : p2 < B) (hp : plo < P) (h1 : X < (g + 1) * v1) : (X * B + p2) * P + plo < (g + 1) * ((v1 * B + v2) * P + vlo) := by
  generalize g + 1 = G at *
  have h2 : (X + 1) * B ≤ G * v1 * B := Nat.mul_le_mul_right _ h1
  have h3 : (X * B + p2 + 1) * P ≤ G * v1 * B * P := Nat.mul_le_mul_right _ (by rw [Nat.add_mul, Nat.one_mul] at h2; omega)
  have e : (v1 * B + v2) * P + vlo = v1 * B * P + (v2 * P + vlo) := by rw [Nat.add_mul]; omega
  rw [e, Nat.mul_add, ← Nat.mul_assoc, ← Nat.mul_assoc]
  rw [Nat.add_mul, Nat.one_mul] at h3
  omega
theorem guess_init {B P u p1 p2 v1 v2 vlo plo : Nat} (hB : p2 < B) (hp : plo < P) (hv : 0 < v1) : ((u * B + p1) * B + p2) * P + plo < ((u * B + p1) / v1 + 1) * ((v1 * B + v2) * P + vlo) :=
  guess_init_at hB hp (by have := Nat.lt_mul_div_succ (u * B + p1) hv; rw [Nat.mul_comm v1] at this; exact this)
/-- The test of the guess, in the digits' own words: r is what is left of the two top digits. -/
theorem guess_test {B u p1 p2 v1 v2 g r : Nat} (hr : g * v1 + r = u * B + p1) : (g * v2 ≤ r * B + p2) ↔ (g * (v1 * B + v2) ≤ (u * B + p1) * B + p2) := by
  rw [← hr, Nat.mul_add, Nat.add_mul, ← Nat.mul_assoc]
  omega
theorem guess_max {B Q v1 w1 plo p : Nat} (hB : B ≤ 2 * v1 + 2) (hB2 : 2 ≤ B) (hv : w1 < (v1 + 1) * Q) (hp : p = v1 * (B * Q) + plo) (hlt : p < B * w1) : Guess p w1 (B - 1) := by
  refine ⟨by rw [Nat.sub_add_cancel (by omega)]; exact hlt, fun _ => ?_⟩
  obtain ⟨k, rfl⟩ : ∃ k, B = k + 2 := ⟨B - 2, by omega⟩
  have e : k + 2 - 1 - 1 = k := by omega
  rw [e, hp]
  have h1 : k * w1 ≤ k * ((v1 + 1) * Q) := Nat.mul_le_mul_left _ (Nat.le_of_lt hv)
  have h2 : k * (v1 + 1) ≤ v1 * (k + 2) := by
    rw [Nat.mul_add, Nat.mul_add, Nat.mul_comm k v1]
    omega
  have h3 : k * (v1 + 1) * Q ≤ v1 * (k + 2) * Q := Nat.mul_le_mul_right _ h2
  rw [← Nat.mul_assoc] at h1
  rw [← Nat.mul_assoc]
  omega
/-- The quotient's digit behind the correction. -/
def Digit (p v q r : Nat) : Prop := r + q * v = p ∧ r < v
/-- No borrow: the guess is the digit. -/
theorem digit_good {p v g r M : Nat} (hg : Guess p v g) (h : r + g * v = p + M * 0) : Digit p v g r := by
  refine ⟨by omega, ?_⟩
  have := hg.1
  rw [Nat.add_mul, Nat.one_mul] at this
  omega
/-- A borrow: the guess is too great by one, and the sum's carry undoes the borrow. -/
theorem digit_back {p v g r s c M : Nat} (hg : Guess p v g) (hr : r < M) (hs : s < M) (hc : c ≤ 1) (h : r + g * v = p + M * 1) (h2 : s + M * c = r + v) : 0 < g ∧ Digit p v (g - 1) s := by
  have h0 : 0 < g := by
    rcases Nat.eq_zero_or_pos g with rfl | h0
    · omega
    · exact h0
  have h3 := hg.2 h0
  obtain ⟨k, rfl⟩ : ∃ k, g = k + 1 := ⟨g - 1, by omega⟩
  rw [Nat.add_sub_cancel] at *
  rw [Nat.add_mul, Nat.one_mul] at h
  have h4 : c = 1 := by
    rcases Nat.eq_zero_or_pos c with rfl | hc1
    · omega
    · omega
  subst h4
  refine ⟨h0, by omega, by omega⟩
end Go.Proofs.YthfjbpbgnoonpaaGreatDoor

namespace Go.Proofs.YthfjbpbgnoonpaaGreatDoor
open Go.RowKit

theorem mul32_nat (x y h l : Nat) (w : World) (hx : x < 4294967296) (hy : y < 4294967296) (e1 : x * y / 4294967296 = h) (e2 : x * y % 4294967296 = l) :
    Calls Tryz.prog 114 #[.int .u32 (x : Int), .int .u32 (y : Int)] w fun e w' => e = .returned (.tuple #[.int .u32 (h : Int), .int .u32 (l : Int)]) ∧ w = w' := by
  refine (mul32_any x y w (by omega) (by omega)).mono ?_
  rintro e w' ⟨rfl, rfl⟩
  refine ⟨ret2_int ?_ ?_, rfl⟩
  · rw [← e1, ← Int.natCast_mul]; rfl
  · rw [← e2, ← Int.natCast_mul]; rfl
theorem add32_nat (x y l k : Nat) (w : World) (hx : x < 4294967296) (hy : y < 4294967296) (e1 : (x + y) % 4294967296 = l) (e2 : (x + y) / 4294967296 = k) :
    Calls Tryz.prog 120 #[.int .u32 (x : Int), .int .u32 (y : Int), .int .u32 0] w fun e w' => e = .returned (.tuple #[.int .u32 (l : Int), .int .u32 (k : Int)]) ∧ w = w' := by
  refine (add32_any x y 0 w (by omega) (by omega) (by omega)).mono ?_
  rintro e w' ⟨rfl, rfl⟩
  refine ⟨ret2_int ?_ ?_, rfl⟩
  · rw [← e1]; omega
  · rw [← e2]; omega
theorem sub32_nat (x y q b : Nat) (w : World) (hx : x < 4294967296) (hy : y < 4294967296) (e1 : subD x y 0 = q) (e2 : subB x y 0 = b) :
    Calls Tryz.prog 138 #[.int .u32 (x : Int), .int .u32 (y : Int), .int .u32 0] w fun e w' => e = .returned (.tuple #[.int .u32 (q : Int), .int .u32 (b : Int)]) ∧ w = w' := by
  refine (sub32_any x y 0 w (by omega) (by omega) (by omega)).mono ?_
  rintro e w' ⟨rfl, rfl⟩
  refine ⟨ret2_int ?_ ?_, rfl⟩
  · rw [← e1, ← subD_int hx hy (by omega)]; rfl
  · rw [← e2, ← subB_int]; rfl

/-- At the head of subtractProduct's loop: i digits are done, c is the borrow. -/
def SbpI (w : World) (g N : Nat) (f : Nat → Value) (off n : Nat) (s : Nat → Nat) (ds : List Nat) (m i c : Nat) (W : World) : Prop :=
  ∃ t : Nat → Nat, RowP W g N f off n t ∧ (∀ j, i ≤ j → t j = s j) ∧ (∀ j, t j < 4294967296) ∧
    val 4294967296 (seg t 0 i) + val 4294967296 (ds.take i) * m = val 4294967296 (seg s 0 i) + 4294967296 ^ i * c ∧ c < 4294967296 ∧ w.grownBy W (some g)
theorem sbp_math {t p v m o s d c q c' b : Nat} (h : t + v * m = o + p * c) (hq : q + (d * m + c) = s + b * c') : (t + p * q) + (v + p * d) * m = (o + p * s) + (p * b) * c' := by
  have h2 : p * (q + (d * m + c)) = p * (s + b * c') := by rw [hq]
  rw [Nat.mul_add, Nat.mul_add, Nat.mul_add, ← Nat.mul_assoc, ← Nat.mul_assoc] at h2
  have h4 : (v + p * d) * m = v * m + p * d * m := Nat.add_mul _ _ _
  omega
/-- One digit: what is left, and the next borrow. -/
theorem sbp_digit {x d m c : Nat} (hx : x < 4294967296) (hd : d < 4294967296) (hm : m < 4294967296) (hc : c < 4294967296) :
    ∃ h l lo k q b : Nat, d * m / 4294967296 = h ∧ d * m % 4294967296 = l ∧ (l + c) % 4294967296 = lo ∧ (l + c) / 4294967296 = k ∧ subD x lo 0 = q ∧ subB x lo 0 = b ∧
      l < 4294967296 ∧ lo < 4294967296 ∧ q < 4294967296 ∧ h + k + b < 4294967296 ∧ q + (d * m + c) = x + 4294967296 * (h + k + b) := by
  have hp : d * m ≤ 4294967295 * 4294967295 := Nat.mul_le_mul (by omega) (by omega)
  generalize d * m = p at *
  refine ⟨_, _, _, _, _, _, rfl, rfl, rfl, rfl, rfl, rfl, ?_, ?_, ?_, ?_, ?_⟩
  · omega
  · omega
  · unfold subD; omega
  · unfold subB; split <;> omega
  · unfold subD subB; split <;> omega

set_option maxRecDepth 100000 in
set_option maxHeartbeats 2000000 in
theorem subtractProduct_any {g N off n m cp cb : Nat} {k : Nat} {B : Option Addr} {f : Nat → Value} {s : Nat → Nat} {ds : List Nat} {w : World} (hk : k = ds.length) (hn : n = ds.length) (hlen : ds.length ≤ 1000000) (hm : m < 4294967296) (_hoff : off ≤ 1000000) (hfit : off + n ≤ N) (hd : ∀ d ∈ ds, d < 4294967296)
    (hs : ∀ j, s j < 4294967296) (hrow : RowP w g N f off n s) (hB : Cells w g B ds.length (u32f ds)) (hcp : n ≤ cp) :
    Calls Tryz.prog 141 #[.slice (some ⟨g, off, none⟩) n cp, .slice B k cb, .int .u32 (m : Int)] w fun e w' => ∃ c, e = .returned (.int .u32 (c : Nat)) ∧ SbpI w g N f off n s ds m ds.length c w' := by
  subst hk hn
  have HD := Lib.hid hd
  have HS := Lib.hid hs
  clear hd hs
  have hgl := hrow.lt
  go_enter Tryz.func141, Tryz.ntmps141
  go_wp2
  go_loopw [7, 15] (fun c i wr => ∃ (nc ni : Nat), i = .int .i64 ni ∧ c = .int .u32 nc ∧ ni ≤ ds.length ∧ nc < 4294967296 ∧ SbpI w g N f off ds.length s ds m ni nc wr) (fun _ i _ => ds.length - (intOf i).toNat)
  case atStart => exact ⟨0, 0, rfl, rfl, by omega, by omega, s, hrow, fun _ _ => rfl, HS.out, by simp [seg, val], by omega, World.grownBy.refl _ _⟩
  case round =>
    obtain ⟨c, i, rfl, rfl, hi, hc, hP⟩ := hrel
    by_cases hlt : i < ds.length
    · have hP2 := hP
      obtain ⟨t, hr, ht, hb, hv, _, hgr⟩ := hP2
      obtain ⟨a, rfl, hab, hcell⟩ := hB i hlt
      obtain ⟨d, hdd⟩ : ∃ d : Nat, d = ds.getD i 0 := ⟨_, rfl⟩
      have hd1 : d < 4294967296 := by rw [hdd]; exact getD_lt HD.out i hlt
      have hcell' : wr.cell? (a.add i) = some (.int .u32 d) := by
        have h0 : wr.heap[(a.add i).block]? = w.heap[(a.add i).block]? := hgr.block _ (by rw [add_block]; omega) (by rw [add_block]; intro e; injection e; omega)
        rw [World.cell?_of_block h0, hcell, hdd]; rfl
      obtain ⟨x, hx⟩ : ∃ x : Nat, x = s i := ⟨_, rfl⟩
      have hx1 : x < 4294967296 := by rw [hx]; exact HS.out _
      have hcs : wr.cell? ⟨g, off + i, none⟩ = some (.int .u32 x) := by
        rw [hr.cell hfit i (by omega), ht i (Nat.le_refl _), hx]
      have hfs := hr.frozen (off + i)
      obtain ⟨h0, l0, lo, k0, q, b, e1, e2, e3, e4, e5, e6, hl, hlo, hq, hb0, hqe⟩ := sbp_digit hx1 hd1 hm hc
      have hnext : Hid (SbpI w g N f off ds.length s ds m (i + 1) (h0 + k0 + b) (wr.setCell ⟨g, off + i, none⟩ (.int .u32 (q : Int)))) := by
        refine ⟨fun j => if j = i then q else t j, ?_, ?_, ?_, ?_, hb0, grown_setCell hgr (.inl rfl) _⟩
        · exact hr.set_ i hlt _ (fun j _ => rfl)
        · intro j hj
          show (if j = i then _ else t j) = s j
          rw [if_neg (by omega)]
          exact ht j (by omega)
        · intro j
          show (if j = i then _ else t j) < _
          by_cases h : j = i
          · rw [if_pos h]; exact hq
          · rw [if_neg h]; exact hb j
        · rw [seg_succ, val_snoc, seg_len, seg_succ, val_snoc, seg_len, take_snoc ds i hlt, val_snoc, List.length_take, Nat.min_eq_left (by omega), Nat.pow_succ]
          have e1 : seg (fun j => if j = i then q else t j) 0 i = seg t 0 i := seg_same fun j hj => if_neg (by omega)
          rw [e1]
          simp only [Nat.zero_add, if_true]
          rw [hdd, hx] at hqe
          exact sbp_math hv hqe
      have E1 := Lib.hid e1
      have E2 := Lib.hid e2
      have E3 := Lib.hid e3
      have E4 := Lib.hid e4
      have E5 := Lib.hid e5
      have E6 := Lib.hid e6
      clear hP hr ht hb hv hgr hcell hdd hx hrow hB e1 e2 e3 e4 e5 e6 hqe
      go_wp2_with (first | (go_at_call 114; refine (mul32_nat d m h0 l0 _ hd1 hm E1.out E2.out).mono ?_; rintro e w1 ⟨rfl, rfl⟩) | (go_at_call 120; refine (add32_nat l0 c lo k0 _ hl hc E3.out E4.out).mono ?_; rintro e w1 ⟨rfl, rfl⟩) | (go_at_call 138; refine (sub32_nat x lo q b _ hx1 hlo E5.out E6.out).mono ?_; rintro e w1 ⟨rfl, rfl⟩))
      go_roundw
      case rel => exact ⟨h0 + k0 + b, i + 1, by go_num, by go_num, by omega, hb0, hnext.out⟩
      case measure => simp [intOf]; omega
    · obtain rfl : i = ds.length := by omega
      go_wp2
      go_ret
      exact ⟨c, rfl, hP⟩
end Go.Proofs.YthfjbpbgnoonpaaGreatDoor

namespace Go.Proofs.YthfjbpbgnoonpaaGreatDoor
open Go.RowKit

theorem top3 (t : Nat → Nat) (n : Nat) (h2 : 2 ≤ n) : val 4294967296 (seg t 0 (n + 1)) = ((t n * 4294967296 + t (n - 1)) * 4294967296 + t (n - 2)) * 4294967296 ^ (n - 2) + val 4294967296 (seg t 0 (n - 2)) := by
  obtain ⟨k, rfl⟩ : ∃ k, n = k + 2 := ⟨n - 2, by omega⟩
  rw [show k + 2 - 2 = k by omega, show k + 2 - 1 = k + 1 by omega, seg_succ, val_snoc, seg_len, seg_succ, val_snoc, seg_len, seg_succ, val_snoc, seg_len]
  simp only [Nat.zero_add, Nat.pow_succ]
  generalize 4294967296 ^ k = P
  generalize val 4294967296 (seg t 0 k) = s
  have e1 : P * 4294967296 * t (k + 1) = 4294967296 * (P * t (k + 1)) := by rw [Nat.mul_comm P, Nat.mul_assoc]
  have e2 : P * 4294967296 * 4294967296 * t (k + 2) = 4294967296 * (4294967296 * (P * t (k + 2))) := by rw [Nat.mul_comm P, Nat.mul_comm (4294967296 * P), Nat.mul_assoc, Nat.mul_assoc]
  have e3 : ((t (k + 2) * 4294967296 + t (k + 1)) * 4294967296 + t k) * P = 4294967296 * (4294967296 * (P * t (k + 2))) + 4294967296 * (P * t (k + 1)) + P * t k := by
    rw [Nat.add_mul, Nat.add_mul, Nat.add_mul, Nat.mul_comm (t k), Nat.mul_assoc (t (k + 2) * 4294967296), Nat.mul_assoc (t (k + 2)), Nat.mul_assoc (t (k + 1))]
    rw [show t (k + 2) * (4294967296 * (4294967296 * P)) = 4294967296 * (4294967296 * (P * t (k + 2))) by rw [Nat.mul_comm (t (k + 2)), Nat.mul_assoc, Nat.mul_assoc], show t (k + 1) * (4294967296 * P) = 4294967296 * (P * t (k + 1)) by rw [Nat.mul_comm (t (k + 1)), Nat.mul_assoc]]
  omega
theorem top2 (t : Nat → Nat) (n : Nat) (h2 : 2 ≤ n) : val 4294967296 (seg t 0 n) = (t (n - 1) * 4294967296 + t (n - 2)) * 4294967296 ^ (n - 2) + val 4294967296 (seg t 0 (n - 2)) := by
  obtain ⟨k, rfl⟩ : ∃ k, n = k + 2 := ⟨n - 2, by omega⟩
  rw [show k + 2 - 2 = k by omega, show k + 2 - 1 = k + 1 by omega, seg_succ, val_snoc, seg_len, seg_succ, val_snoc, seg_len, Nat.pow_succ]
  simp only [Nat.zero_add]
  generalize 4294967296 ^ k = P
  generalize val 4294967296 (seg t 0 k) = s
  have e1 : P * 4294967296 * t (k + 1) = 4294967296 * (P * t (k + 1)) := by rw [Nat.mul_comm P, Nat.mul_assoc]
  have e3 : (t (k + 1) * 4294967296 + t k) * P = 4294967296 * (P * t (k + 1)) + P * t k := by
    rw [Nat.add_mul, Nat.mul_comm (t k), Nat.mul_assoc (t (k + 1)), show t (k + 1) * (4294967296 * P) = 4294967296 * (P * t (k + 1)) by rw [Nat.mul_comm (t (k + 1)), Nat.mul_assoc]]
  omega
theorem seg_val_lt {t : Nat → Nat} (h : ∀ j, t j < 4294967296) (o n : Nat) : val 4294967296 (seg t o n) < 4294967296 ^ n := by
  have := val_lt (seg t o n) (seg_lt h o n)
  rwa [seg_len] at this
/-- The top digit of the part is at most the divisor's. -/
theorem top_le {t d : Nat → Nat} {n : Nat} (h1 : 1 ≤ n) (hd : ∀ j, d j < 4294967296) (h : val 4294967296 (seg t 1 n) < val 4294967296 (seg d 0 n)) : t n ≤ d (n - 1) := by
  obtain ⟨k, rfl⟩ : ∃ k, n = k + 1 := ⟨n - 1, by omega⟩
  rw [seg_succ, val_snoc, seg_succ, val_snoc, seg_len, seg_len, Nat.zero_add, Nat.add_comm 1 k] at h
  rw [Nat.add_sub_cancel]
  have h2 := seg_val_lt hd 0 k
  rcases Nat.lt_or_ge (d k) (t (k + 1)) with h3 | h3
  · have h4 : 4294967296 ^ k * (d k + 1) ≤ 4294967296 ^ k * t (k + 1) := Nat.mul_le_mul_left _ h3
    rw [Nat.mul_add, Nat.mul_one] at h4
    omega
  · exact h3
theorem part_lt {t : Nat → Nat} {n v : Nat} (h0 : t 0 < 4294967296) (h : val 4294967296 (seg t 1 n) < v) : val 4294967296 (seg t 0 (n + 1)) < 4294967296 * v := by
  have e : val 4294967296 (seg t 0 (n + 1)) = t 0 + 4294967296 * val 4294967296 (seg t 1 n) := by
    rw [show n + 1 = 1 + n by omega, seg_append, val_append, seg_len]
    simp [seg, val]
  omega

/-- What holds at the head of guessDigit's loop. -/
def GI (p v u p1 v1 q r : Nat) : Prop := p < (q + 1) * v ∧ q * v1 + r = u * 4294967296 + p1
/-- The digits at hand: p is the part, v is the divisor. -/
def GT (p v u p1 p2 v1 v2 : Nat) : Prop := ∃ P plo vlo, p = ((u * 4294967296 + p1) * 4294967296 + p2) * P + plo ∧ plo < P ∧ v = (v1 * 4294967296 + v2) * P + vlo ∧ vlo < P
theorem gi_exit {p v u p1 p2 v1 v2 q r : Nat} (hT : GT p v u p1 p2 v1 v2) (hI : GI p v u p1 v1 q r) (hle : q * v2 ≤ r * 4294967296 + p2) (hv : 1 ≤ v1) (hq : q < 4294967296) : Guess p v q := by
  obtain ⟨P, plo, vlo, rfl, h1, rfl, h2⟩ := hT
  refine ⟨hI.1, fun h0 => guess_exit h2 ((guess_test hI.2).1 hle) (by omega) h0⟩
theorem gi_next {p v u p1 p2 v1 v2 q r : Nat} (hT : GT p v u p1 p2 v1 v2) (hI : GI p v u p1 v1 q r) (hgt : r * 4294967296 + p2 < q * v2) : 1 ≤ q ∧ GI p v u p1 v1 (q - 1) (r + v1) := by
  have hq : 1 ≤ q := by
    rcases Nat.eq_zero_or_pos q with rfl | h
    · omega
    · exact h
  obtain ⟨k, rfl⟩ : ∃ k, q = k + 1 := ⟨q - 1, by omega⟩
  have h3 := hI.2
  have h4 : ¬ ((k + 1) * (v1 * 4294967296 + v2) ≤ (u * 4294967296 + p1) * 4294967296 + p2) := fun h => by
    have := (guess_test h3).2 h
    omega
  obtain ⟨P, plo, vlo, rfl, h1, rfl, h2⟩ := hT
  refine ⟨hq, guess_fail h1 (Nat.lt_of_not_le h4), ?_⟩
  rw [Nat.add_sub_cancel]
  rw [Nat.add_mul, Nat.one_mul] at h3
  omega
theorem gi_over {p v u p1 p2 v1 v2 q r : Nat} (hT : GT p v u p1 p2 v1 v2) (hI : GI p v u p1 v1 q r) (hr : 4294967296 ≤ r) (hv : 1 ≤ v1) (hv2 : v2 < 4294967296) (hq : q < 4294967296) : Guess p v q := by
  refine gi_exit hT hI ?_ hv hq
  have h1 : q * v2 ≤ 4294967296 * 4294967296 := Nat.mul_le_mul (by omega) (by omega)
  have h2 : 4294967296 * 4294967296 ≤ r * 4294967296 := Nat.mul_le_mul_right _ hr
  omega
theorem gi_start {p v u p1 p2 v1 v2 : Nat} (hT : GT p v u p1 p2 v1 v2) (hv : 0 < v1) (hp2 : p2 < 4294967296) : GI p v u p1 v1 ((u * 4294967296 + p1) / v1) ((u * 4294967296 + p1) % v1) := by
  obtain ⟨P, plo, vlo, rfl, h1, rfl, h2⟩ := hT
  refine ⟨guess_init hp2 h1 hv, ?_⟩
  rw [Nat.mul_comm]
  exact Nat.div_add_mod _ _
theorem gt_of {t d : Nat → Nat} {n : Nat} (h2 : 2 ≤ n) (ht : ∀ j, t j < 4294967296) (hd : ∀ j, d j < 4294967296) : GT (val 4294967296 (seg t 0 (n + 1))) (val 4294967296 (seg d 0 n)) (t n) (t (n - 1)) (t (n - 2)) (d (n - 1)) (d (n - 2)) :=
  ⟨4294967296 ^ (n - 2), _, _, top3 t n h2, seg_val_lt ht 0 (n - 2), top2 d n h2, seg_val_lt hd 0 (n - 2)⟩
theorem guess_top {t d : Nat → Nat} {n : Nat} (h2 : 2 ≤ n) (ht : ∀ j, t j < 4294967296) (hd : ∀ j, d j < 4294967296) (htop : 2147483648 ≤ d (n - 1)) (he : d (n - 1) ≤ t n) (h : val 4294967296 (seg t 1 n) < val 4294967296 (seg d 0 n)) : Guess (val 4294967296 (seg t 0 (n + 1))) (val 4294967296 (seg d 0 n)) 4294967295 := by
  have h1 := top_le (by omega) hd h
  have hv : val 4294967296 (seg d 0 n) < (d (n - 1) + 1) * 4294967296 ^ (n - 1) := by
    obtain ⟨k, rfl⟩ : ∃ k, n = k + 1 := ⟨n - 1, by omega⟩
    rw [seg_succ, val_snoc, seg_len, Nat.zero_add, Nat.add_sub_cancel, Nat.add_mul, Nat.one_mul, Nat.mul_comm (d k)]
    have := seg_val_lt hd 0 k
    omega
  have hp : val 4294967296 (seg t 0 (n + 1)) = d (n - 1) * (4294967296 * 4294967296 ^ (n - 1)) + val 4294967296 (seg t 0 n) := by
    rw [seg_succ, val_snoc, seg_len, Nat.zero_add, show t n = d (n - 1) by omega]
    have : 4294967296 ^ n = 4294967296 * 4294967296 ^ (n - 1) := by
      obtain ⟨k, rfl⟩ : ∃ k, n = k + 1 := ⟨n - 1, by omega⟩
      rw [Nat.add_sub_cancel, Nat.pow_succ, Nat.mul_comm]
    rw [this, Nat.mul_comm (d (n - 1))]
    omega
  exact guess_max (B := 4294967296) (by omega) (by omega) hv hp (part_lt (ht 0) h)
theorem add32_none (x y l : Nat) (w : World) (hl : l = x + y) (h : x + y < 4294967296) :
    Calls Tryz.prog 120 #[.int .u32 (x : Int), .int .u32 (y : Int), .int .u32 0] w fun e w' => e = .returned (.tuple #[.int .u32 (l : Int), .int .u32 0]) ∧ w = w' := by
  refine (add32_nat x y l 0 w (by omega) (by omega) (by omega) (by omega)).mono ?_
  rintro e w' ⟨rfl, rfl⟩
  exact ⟨rfl, rfl⟩
theorem add32_over (x y l : Nat) (w : World) (hx : x < 4294967296) (hy : y < 4294967296) (hl : l + 4294967296 = x + y) :
    Calls Tryz.prog 120 #[.int .u32 (x : Int), .int .u32 (y : Int), .int .u32 0] w fun e w' => e = .returned (.tuple #[.int .u32 (l : Int), .int .u32 1]) ∧ w = w' := by
  refine (add32_nat x y l 1 w (by omega) (by omega) (by omega) (by omega)).mono ?_
  rintro e w' ⟨rfl, rfl⟩
  exact ⟨rfl, rfl⟩
theorem div32_nat (x y c q r : Nat) (w : World) (hx : x < c) (hy : y < 4294967296) (hc : c < 4294967296) (e1 : (x * 4294967296 + y) / c = q) (e2 : (x * 4294967296 + y) % c = r) :
    Calls Tryz.prog 92 #[.int .u32 (x : Int), .int .u32 (y : Int), .int .u32 (c : Int)] w fun e w' => e = .returned (.tuple #[.int .u32 (q : Int), .int .u32 (r : Int)]) ∧ ∃ n, w' = w.drewN n := by
  refine (div32_any x y c w ⟨by omega, by omega⟩ ⟨by omega, by omega⟩ (by omega)).mono ?_
  rintro e w' ⟨rfl, hn⟩
  refine ⟨ret2_int ?_ ?_, hn⟩
  · rw [← e1, Int.natCast_ediv, Int.natCast_add, Int.natCast_mul]; rfl
  · rw [← e2, Int.natCast_emod, Int.natCast_add, Int.natCast_mul]; rfl

def GuessPost (w : World) (p v : Nat) (e : Ending) (w' : World) : Prop := ∃ q : Nat, e = .returned (.int .u32 (q : Int)) ∧ Guess p v q ∧ q < 4294967296 ∧ ∃ k, w' = w.drewN k

set_option maxRecDepth 100000 in
set_option maxHeartbeats 2000000 in
theorem guessDigit_any {g off n m cp cb : Nat} {B : Option Addr} {t d : Nat → Nat} {w : World} (hm : m = n + 1) (h2 : 2 ≤ n) (hnn : n ≤ 1000000) (_hoff : off ≤ 1000000)
    (hA : ∀ j, j ≤ n → w.cell? ⟨g, off + j, none⟩ = some (.int .u32 (t j : Nat))) (ht : ∀ j, t j < 4294967296) (hd : ∀ j, d j < 4294967296) (htop : 2147483648 ≤ d (n - 1))
    {B0 : Nat} (hB : Cells w B0 B n (fun j => .int .u32 (d j : Nat))) (hlt : val 4294967296 (seg t 1 n) < val 4294967296 (seg d 0 n)) (hcp : m ≤ cp) :
    Calls Tryz.prog 140 #[.slice (some ⟨g, off, none⟩) m cp, .slice B n cb] w (GuessPost w (val 4294967296 (seg t 0 (n + 1))) (val 4294967296 (seg d 0 n))) := by
  subst hm
  obtain ⟨a, rfl, -, hc1⟩ := hB (n - 1) (by omega)
  obtain ⟨a', ha', -, hc2⟩ := hB (n - 2) (by omega)
  obtain rfl : a = a' := Option.some.inj ha'
  replace hc1 : w.cell? (a.add (n - 1)) = some (.int .u32 (d (n - 1) : Nat)) := hc1
  replace hc2 : w.cell? (a.add (n - 2)) = some (.int .u32 (d (n - 2) : Nat)) := hc2
  have hcu := hA n (Nat.le_refl _)
  have hcp1 := hA (n - 1) (by omega)
  have hcp2 := hA (n - 2) (by omega)
  have hT := gt_of h2 ht hd
  have hGT := guess_top h2 ht hd htop
  have hle := top_le (by omega) hd hlt
  obtain ⟨p, hp⟩ : ∃ p, p = val 4294967296 (seg t 0 (n + 1)) := ⟨_, rfl⟩
  obtain ⟨v, hv⟩ : ∃ v, v = val 4294967296 (seg d 0 n) := ⟨_, rfl⟩
  rw [← hp, ← hv] at hT
  rw [← hp] at hGT
  rw [← hv] at hGT hlt
  rw [← hp, ← hv]
  have bu := ht n
  have bp1 := ht (n - 1)
  have bp2 := ht (n - 2)
  have bv1 := hd (n - 1)
  have bv2 := hd (n - 2)
  have HG := Lib.hid (fun h => hGT h hlt)
  have HT := Lib.hid hT
  generalize t n = u at *
  generalize t (n - 1) = p1 at *
  generalize t (n - 2) = p2 at *
  generalize d (n - 1) = v1 at *
  generalize d (n - 2) = v2 at *
  clear hA ht hd hB ha' hT hGT hlt hp hv
  have hw1 : IntKind.i64.wrap ((n : Int) - 1) = (n : Int) - 1 := IntWalk.i64_in _ (by omega)
  have hw2 : IntKind.i64.wrap ((n : Int) - 2) = (n : Int) - 2 := IntWalk.i64_in _ (by omega)
  have hn1 : ((n : Int) - 1).toNat = n - 1 := by omega
  have hn2 : ((n : Int) - 2).toNat = n - 2 := by omega
  have hz1 : (0 : Int) ≤ (n : Int) - 1 := by omega
  have hz2 : (0 : Int) ≤ (n : Int) - 2 := by omega
  by_cases hge : v1 ≤ u
  · have HQ := Lib.hid (HG.out hge)
    go_enter Tryz.func140, Tryz.ntmps140
    go_wp2_with fail
    go_quiet (fail)
    go_wp2_with fail
    go_ret
    exact ⟨4294967295, rfl, HQ.out, by omega, _, rfl⟩
  · have hult : u < v1 := by omega
    clear HG hle
    obtain ⟨q0, e1⟩ : ∃ q0, (u * 4294967296 + p1) / v1 = q0 := ⟨_, rfl⟩
    obtain ⟨r0, e2⟩ : ∃ r0, (u * 4294967296 + p1) % v1 = r0 := ⟨_, rfl⟩
    have hI0 := gi_start HT.out (by omega) bp2
    have hq0 : q0 < 4294967296 := by
      rw [← e1, Nat.div_lt_iff_lt_mul (by omega)]
      have : (u + 1) * 4294967296 ≤ v1 * 4294967296 := Nat.mul_le_mul_right _ hult
      rw [Nat.mul_comm 4294967296]
      omega
    have hr0 : r0 < 4294967296 := by
      have := Nat.mod_lt (u * 4294967296 + p1) (show 0 < v1 by omega)
      omega
    rw [e1, e2] at hI0
    have HI0 := Lib.hid hI0
    have HDv := Lib.hid (fun W : World => div32_nat u p1 v1 q0 r0 W hult bp1 bv1 e1 e2)
    clear e1 e2 hI0
    go_enter Tryz.func140, Tryz.ntmps140
    go_wp2_with fail
    go_quiet (fail)
    go_wp2_with fail
    obtain ⟨W, hW⟩ : ∃ W, W = w.drewN nq := ⟨_, rfl⟩
    have kcu : W.cell? ⟨g, off + n, none⟩ = some (.int .u32 (u : Nat)) := by rw [hW]; exact hcu
    have kcp1 : W.cell? ⟨g, off + (n - 1), none⟩ = some (.int .u32 (p1 : Nat)) := by rw [hW]; exact hcp1
    have kcp2 : W.cell? ⟨g, off + (n - 2), none⟩ = some (.int .u32 (p2 : Nat)) := by rw [hW]; exact hcp2
    rw [← hW]
    have HW := Lib.hid hW
    clear hW hcu hcp1 hcp2 hc1 hc2
    go_quiet ((go_at_call 92; exact Calls.quiet_of (HDv.out _)))
    go_wp2_with fail
    obtain ⟨W2, hW2⟩ : ∃ x, x = W.drewN nq := ⟨_, rfl⟩
    have mcp2 : W2.cell? ⟨g, off + (n - 2), none⟩ = some (.int .u32 (p2 : Nat)) := by rw [hW2]; exact kcp2
    have HK : Hid (∃ k, W2 = w.drewN k) := ⟨_, by rw [hW2, HW.out, World.drewN_drewN]⟩
    rw [← hW2]
    clear hW2 HW kcu kcp1 kcp2
    go_loop [8, 9] (fun gv rv => ∃ q r : Nat, gv = .int .u32 q ∧ rv = .int .u32 r ∧ q < 4294967296 ∧ r < 4294967296 ∧ GI p v u p1 v1 q r) (fun gv _ => (intOf gv).toNat)
    case atStart => exact ⟨q0, r0, rfl, rfl, hq0, hr0, HI0.out⟩
    case round =>
      obtain ⟨q, r, rfl, rfl, hq, hr, hI⟩ := hrel
      clear hq0 hr0 HI0 HDv
      obtain ⟨h0, e1⟩ : ∃ h0, q * v2 / 4294967296 = h0 := ⟨_, rfl⟩
      obtain ⟨l0, e2⟩ : ∃ l0, q * v2 % 4294967296 = l0 := ⟨_, rfl⟩
      have hl0 : l0 < 4294967296 := by rw [← e2]; exact Nat.mod_lt _ (by omega)
      have hh0 : h0 < 4294967296 := by
        rw [← e1, Nat.div_lt_iff_lt_mul (by omega)]
        have : q * v2 ≤ 4294967295 * 4294967295 := Nat.mul_le_mul (by omega) (by omega)
        omega
      have hqv : Hid (q * v2 = h0 * 4294967296 + l0) := by unfold Hid; omega
      have E1 := Lib.hid e1
      have E2 := Lib.hid e2
      clear e1 e2
      by_cases ha : h0 < r
      · have hG := Lib.hid (gi_exit HT.out hI (by rw [hqv.out]; omega) (by omega) hq)
        clear hI
        go_wp2_with (go_at_call 114; refine (mul32_nat q v2 h0 l0 _ hq bv2 E1.out E2.out).mono ?_; rintro e w1 ⟨rfl, rfl⟩)
        go_ret
        exact ⟨q, rfl, hG.out, hq, HK.out⟩
      · by_cases hb : h0 = r ∧ l0 ≤ p2
        · obtain ⟨hb1, hb2⟩ := hb
          have hG := Lib.hid (gi_exit HT.out hI (by rw [hqv.out]; omega) (by omega) hq)
          have hbe : ((h0 : Int) == (r : Int)) = true := by simp; omega
          clear hI hb1
          go_wp2_with (go_at_call 114; refine (mul32_nat q v2 h0 l0 _ hq bv2 E1.out E2.out).mono ?_; rintro e w1 ⟨rfl, rfl⟩)
          go_ret
          exact ⟨q, rfl, hG.out, hq, HK.out⟩
        · obtain ⟨hq1, hN⟩ := gi_next HT.out hI (by rw [hqv.out]; omega)
          have hfalse : ((h0 : Int) == (r : Int)) = false ∨ (((h0 : Int) == (r : Int)) = true ∧ p2 < l0) := by
            by_cases hbr : h0 = r
            · exact .inr ⟨by simp; omega, by omega⟩
            · exact .inl (beq_eq_false_iff_ne.2 (by omega))
          clear hI
          by_cases hov : r + v1 < 4294967296
          · obtain ⟨l, hl⟩ : ∃ l, l = r + v1 := ⟨_, rfl⟩
            rw [← hl] at hN
            have hlB : l < 4294967296 := by omega
            have HL := Lib.hid hl
            have HNX := Lib.hid hN
            clear hl hN hb
            rcases hfalse with hf | ⟨hf, hlp⟩
            all_goals
              go_wp2_with (first | (go_at_call 114; refine (mul32_nat q v2 h0 l0 _ hq bv2 E1.out E2.out).mono ?_; rintro e w1 ⟨rfl, rfl⟩) | (go_at_call 120; refine (add32_none r v1 l _ HL.out hov).mono ?_; rintro e w1 ⟨rfl, rfl⟩))
              go_round
              case rel => exact ⟨q - 1, l, by congr 1; omega, rfl, by omega, hlB, HNX.out⟩
              case measure => simp [intOf]; omega
          · obtain ⟨l, hl⟩ : ∃ l, l + 4294967296 = r + v1 := ⟨r + v1 - 4294967296, by omega⟩
            have hG := Lib.hid (gi_over HT.out hN (by omega) (by omega) bv2 (by omega))
            have HL := Lib.hid hl
            clear hl hN hb
            rcases hfalse with hf | ⟨hf, hlp⟩
            all_goals
              go_wp2_with (first | (go_at_call 114; refine (mul32_nat q v2 h0 l0 _ hq bv2 E1.out E2.out).mono ?_; rintro e w1 ⟨rfl, rfl⟩) | (go_at_call 120; refine (add32_over r v1 l _ hr bv1 HL.out).mono ?_; rintro e w1 ⟨rfl, rfl⟩))
              go_ret
              exact ⟨q - 1, ret_int (by omega), hG.out, by omega, HK.out⟩
end Go.Proofs.YthfjbpbgnoonpaaGreatDoor

namespace Go.Proofs.YthfjbpbgnoonpaaGreatDoor
open Go.RowKit

/-- The same row, with one digit fewer told. -/
theorem RowP.fewer {w : World} {g N off n : Nat} {f : Nat → Value} {t : Nat → Nat} (h : RowP w g N f off (n + 1) t) : RowP w g N (patch f off (n + 1) t) off n t := by
  refine Row.same h (fun j _ => ?_)
  unfold patch
  by_cases h1 : off ≤ j ∧ j < off + n
  · rw [if_pos (by omega), if_pos h1]
  · rw [if_neg h1]
/-- The top digit joined again. -/
theorem RowP.join {w : World} {g N off n : Nat} {f : Nat → Value} {t t2 : Nat → Nat} (h : RowP w g N (patch f off (n + 1) t) off n t2) : RowP w g N f off (n + 1) (fun j => if j < n then t2 j else t j) := by
  refine Row.same h (fun j _ => ?_)
  unfold patch
  by_cases h1 : off ≤ j ∧ j < off + n
  · rw [if_pos h1, if_pos (by omega)]
    dsimp only
    rw [if_pos (by omega)]
  · rw [if_neg h1]
    by_cases h2 : off ≤ j ∧ j < off + (n + 1)
    · rw [if_pos h2, if_pos h2]
      dsimp only
      rw [if_neg (by omega)]
    · rw [if_neg h2, if_neg h2]
theorem top_digit {x c : Nat} (hx : x < 4294967296) (hc : c < 4294967296) : ∃ q b : Nat, subD x c 0 = q ∧ subB x c 0 = b ∧ q < 4294967296 ∧ b ≤ 1 ∧ q + c = x + 4294967296 * b := by
  refine ⟨_, _, rfl, rfl, ?_, ?_, ?_⟩
  · unfold subD; omega
  · unfold subB; split <;> omega
  · unfold subD subB; split <;> omega
theorem step_math {T2 v q T P bw qd x b : Nat} (h : T2 + v * q = T + P * bw) (hq : qd + bw = x + 4294967296 * b) : (T2 + P * qd) + q * v = (T + P * x) + (P * 4294967296) * b := by
  have h2 : P * (qd + bw) = P * (x + 4294967296 * b) := by rw [hq]
  rw [Nat.mul_add, Nat.mul_add, ← Nat.mul_assoc] at h2
  rw [Nat.mul_comm q v]
  omega

def StepPost (w : World) (g N : Nat) (f : Nat → Value) (off n : Nat) (t : Nat → Nat) (v : Nat) (e : Ending) (w' : World) : Prop :=
  ∃ (q : Nat) (t' : Nat → Nat), e = .returned (.int .u32 (q : Int)) ∧ RowP w' g N f off (n + 1) t' ∧ (∀ j, t' j < 4294967296) ∧ Digit (val 4294967296 (seg t 0 (n + 1))) v q (val 4294967296 (seg t' 0 (n + 1))) ∧ q < 4294967296 ∧ w.grownBy w' (some g)

theorem step_top {W w2 : World} {g N off n q c : Nat} {f : Nat → Value} {t : Nat → Nat} {ds : List Nat} (hfit : off + (n + 1) ≤ N) (hP : SbpI W g N (patch f off (n + 1) t) off n t ds q n c w2) :
    w2.cell? ⟨g, off + n, none⟩ = some (.int .u32 (t n : Nat)) ∧ w2.frozen? ⟨g, off + n, none⟩ = false ∧ c < 4294967296 := by
  obtain ⟨t2, h1, _, _, _, h5, _⟩ := hP
  refine ⟨?_, h1.frozen _, h5⟩
  rw [h1.join.cell hfit n (by omega)]
  simp
/-- Behind the subtraction: the row, and what it stands for. -/
theorem step_row {W w2 : World} {g N off n q c qd b x : Nat} {f : Nat → Value} {t : Nat → Nat} {ds : List Nat} (hn : ds.length = n) (ht : ∀ j, t j < 4294967296) (hxt : x = t n) (hP : SbpI W g N (patch f off (n + 1) t) off n t ds q n c w2) (hqd : qd < 4294967296) (hqe : qd + c = x + 4294967296 * b) :
    ∃ t3 : Nat → Nat, RowP (w2.setCell ⟨g, off + n, none⟩ (.int .u32 (qd : Int))) g N f off (n + 1) t3 ∧ (∀ j, t3 j < 4294967296) ∧
      val 4294967296 (seg t3 0 (n + 1)) + q * val 4294967296 ds = val 4294967296 (seg t 0 (n + 1)) + 4294967296 ^ (n + 1) * b ∧ W.grownBy (w2.setCell ⟨g, off + n, none⟩ (.int .u32 (qd : Int))) (some g) := by
  obtain ⟨t2, hr, _, hb2, hv, _, hgr⟩ := hP
  refine ⟨fun j => if j = n then qd else if j < n then t2 j else t j, hr.join.set_ n (by omega) qd (fun j _ => rfl), ?_, ?_, grown_setCell hgr (.inl rfl) _⟩
  · intro j
    show (if j = n then qd else if j < n then t2 j else t j) < _
    split
    · exact hqd
    · split
      · exact hb2 j
      · exact ht j
  · rw [seg_succ, val_snoc, seg_len, seg_succ, val_snoc, seg_len, Nat.zero_add, Nat.pow_succ]
    have e1 : seg (fun j => if j = n then qd else if j < n then t2 j else t j) 0 n = seg t2 0 n := seg_same fun j hj => by
      show (if 0 + j = n then qd else if 0 + j < n then t2 (0 + j) else t (0 + j)) = _
      rw [if_neg (by omega), if_pos (by omega)]
    rw [e1, if_pos rfl, ← hxt]
    rw [List.take_of_length_le (by omega)] at hv
    exact step_math hv hqe

theorem grown_drew {a w : World} {row : Option Nat} (h : a.grownBy w row) : a.grownBy w.drew row := ⟨h.os, h.tape, h.output, h.size, h.block⟩
theorem cells_grown {w w' : World} {g n : Nat} {B : Option Addr} {f : Nat → Value} (h : Cells w g B n f) (hg : w.grownBy w' (some g)) (hgl : g ≤ w.heap.size) : Cells w' g B n f :=
  h.keep fun p hp => World.cell?_of_block (hg.block p.block (by omega) (by intro e; injection e; omega))
/-- The end without a borrow. -/
theorem step_good {w w1 w3 : World} {g N off n q : Nat} {f : Nat → Value} {t : Nat → Nat} {v : Nat} {B : Option Addr} {u : Nat → Value} (hq : Guess (val 4294967296 (seg t 0 (n + 1))) v q) (hq1 : q < 4294967296) (HR : RowP w1 g N f off (n + 1) t ∧ Cells w1 g B n u ∧ w.grownBy w1 (some g))
    (HS : ∃ t3 : Nat → Nat, RowP w3 g N f off (n + 1) t3 ∧ (∀ j, t3 j < 4294967296) ∧ val 4294967296 (seg t3 0 (n + 1)) + q * v = val 4294967296 (seg t 0 (n + 1)) + 4294967296 ^ (n + 1) * 0 ∧ w1.drew.grownBy w3 (some g)) :
    StepPost w g N f off n t v (.returned (.int .u32 (q : Int))) w3 := by
  obtain ⟨t3, h1, h2, h3, h4⟩ := HS
  exact ⟨q, t3, rfl, h1, h2, digit_good hq h3, hq1, (grown_drew HR.2.2).trans h4⟩
theorem step_pos {q v p M : Nat} {t3 : Nat → Nat} {n : Nat} (hM : M = 4294967296 ^ (n + 1)) (h2 : ∀ j, t3 j < 4294967296) (h3 : val 4294967296 (seg t3 0 (n + 1)) + q * v = p + M * 1) : 0 < q := by
  rcases Nat.eq_zero_or_pos q with rfl | h
  · have := seg_val_lt h2 0 (n + 1)
    rw [← hM] at this
    omega
  · exact h
/-- The end behind a borrow. -/
theorem step_back {w w1 w3 w4 : World} {g N off n q : Nat} {f : Nat → Value} {t t3 : Nat → Nat} {v : Nat} {B : Option Addr} {u : Nat → Value} {e : Ending} (hq : Guess (val 4294967296 (seg t 0 (n + 1))) v q) (hq1 : q < 4294967296) (HR : RowP w1 g N f off (n + 1) t ∧ Cells w1 g B n u ∧ w.grownBy w1 (some g))
    (h2 : ∀ j, t3 j < 4294967296) (h3 : val 4294967296 (seg t3 0 (n + 1)) + q * v = val 4294967296 (seg t 0 (n + 1)) + 4294967296 ^ (n + 1) * 1) (h4 : w1.drew.grownBy w3 (some g)) (hA : AddPost w3 g N f off (n + 1) t3 v e w4) :
    StepPost w g N f off n t v (.returned (.int .u32 ((q : Int) - 1))) w4 := by
  obtain ⟨c, t4, -, a1, a2, a3, a4, a5⟩ := hA
  obtain ⟨hq0, hD⟩ := digit_back hq (seg_val_lt h2 0 (n + 1)) (seg_val_lt a2 0 (n + 1)) a4 h3 a3
  exact ⟨q - 1, t4, ret_int (by omega), a1, a2, hD, by omega, ((grown_drew HR.2.2).trans h4).trans a5⟩

set_option maxRecDepth 100000 in
set_option maxHeartbeats 3000000 in
theorem divideStep_any {g N off n m k cp cb : Nat} {B : Option Addr} {f : Nat → Value} {t : Nat → Nat} {ds : List Nat} {w : World} (hm : m = n + 1) (hk : k = n) (hn : ds.length = n) (h2 : 2 ≤ n) (hnn : n ≤ 900000) (hoff : off ≤ 1000000) (hfit : off + (n + 1) ≤ N)
    (ht : ∀ j, t j < 4294967296) (hd : ∀ d ∈ ds, d < 4294967296) (htop : 2147483648 ≤ ds.getD (n - 1) 0) (hrow : RowP w g N f off (n + 1) t)
    (hB : Cells w g B n (u32f ds)) (hlt : val 4294967296 (seg t 1 n) < val 4294967296 ds) (hcp : m ≤ cp) :
    Calls Tryz.prog 126 #[.slice (some ⟨g, off, none⟩) m cp, .slice B k cb] w (StepPost w g N f off n t (val 4294967296 ds)) := by
  subst hm hk
  have hvd : val 4294967296 (seg (fun j => ds.getD j 0) 0 k) = val 4294967296 ds := by rw [← hn, seg_getD]
  have hG := guessDigit_any (w := w) (g := g) (off := off) (n := k) (cp := cp) (cb := cb) (B := B) (t := t) (d := fun j => ds.getD j 0) rfl h2 (by omega) hoff (fun j hj => hrow.cell hfit j (by omega)) ht (fun j => getD_lt0 (by omega) hd j) htop hB (by rw [hvd]; exact hlt) hcp
  rw [hvd] at hG
  have HG := Lib.hid hG
  have HTT := Lib.hid ht
  have HDD := Lib.hid hd
  have HN := Lib.hid hn
  have hgl := hrow.lt
  obtain ⟨x, hx⟩ : ∃ x, x = t k := ⟨_, rfl⟩
  have hx1 : x < 4294967296 := by rw [hx]; exact ht k
  have HX := Lib.hid hx
  clear hG hvd htop hlt ht hd hn hx
  go_enter Tryz.func126, Tryz.ntmps126
  go_wp2_with fail
  refine HG.out.mono ?_
  rintro e w1 ⟨q, rfl, hq, hq1, kk, hw1⟩
  have HQ := Lib.hid hq
  have hrow1 : RowP w1 g N f off (k + 1) t := by rw [hw1]; exact hrow
  have hB1 : Cells w1 g B k (u32f ds) := by rw [hw1]; exact hB
  have hgr1 : w.grownBy w1 (some g) := by rw [hw1]; exact grown_drewN (World.grownBy.refl _ _) kk
  have hcn : w1.cell? ⟨g, off + k, none⟩ = some (.int .u32 (x : Nat)) := by rw [hrow1.cell hfit k (by omega), HX.out]
  have hfn := hrow1.frozen (off + k)
  have hcd : w1.drew.cell? ⟨g, off + k, none⟩ = some (.int .u32 (x : Nat)) := hcn
  have hfd : w1.drew.frozen? ⟨g, off + k, none⟩ = false := hfn
  have HSP := Lib.hid (subtractProduct_any (w := w1.drew) (g := g) (N := N) (off := off) (n := k) (m := q) (cp := k) (cb := cb) (k := k) (B := B) (f := patch f off (k + 1) t) (s := t) (ds := ds) HN.out.symm HN.out.symm (by rw [HN.out]; omega) hq1 hoff (by omega) HDD.out HTT.out hrow1.fewer (by rw [HN.out]; exact hB1) (Nat.le_refl _))
  have HR1 := Lib.hid (And.intro hrow1 (And.intro hB1 hgr1))
  clear hq hw1 hrow hB hrow1 hB1 hgr1 HG
  rw [HN.out] at HSP
  have hk0 : ¬ (cp = 0) := by omega
  go_wp2_with fail
  go_region_with (first | (go_at_call 141; go_loud (refine HSP.out.mono ?_; rintro e w2 ⟨c, rfl, hP⟩; obtain ⟨hc2, hf2, hc1⟩ := step_top hfit hP; rw [← HX.out] at hc2; obtain ⟨qd, b, e5, e6, hqd, hb1, hqe⟩ := top_digit (x := x) (c := c) hx1 hc1; have E5 := Lib.hid e5; have E6 := Lib.hid e6; have HS := Lib.hid (step_row HN.out HTT.out HX.out hP hqd hqe); clear e5 e6 hqe hP)) | (go_at_call 138; refine (sub32_nat x _ _ _ _ hx1 hc1 E5.out E6.out).mono ?_; rintro e w3 ⟨rfl, rfl⟩))
  all_goals
    have hb : b = 0 ∨ b = 1 := by omega
    clear HSP hcn hfn hcd hfd hc2 hf2 E5 E6
    rcases hb with rfl | rfl
    · have hfin := Lib.hid (step_good HQ.out hq1 HR1.out HS.out)
      clear HS
      go_wp2_with fail
      go_ret
      exact hfin.out
    · obtain ⟨t3, h1, h2, h3, h4⟩ := HS.out
      have hq0 := step_pos rfl h2 h3
      have hA := Lib.hid (addTo_any (n := k + 1) (cp := cp) (cb := cb) HN.out.symm (by rw [HN.out]; omega) (by omega) hoff hfit HDD.out h2 h1 (by rw [HN.out]; exact cells_grown (w := w1.drew) HR1.out.2.1 h4 (by have := HR1.out.1.lt; exact Nat.le_of_lt this)) hcp)
      have hfin := Lib.hid (fun e w4 h => step_back (e := e) (w4 := w4) HQ.out hq1 HR1.out h2 h3 h4 h)
      clear HS h1 h2 h3 h4
      go_wp2_with (go_at_call 109; refine hA.out.mono ?_; rintro e w4 hp; obtain ⟨c4, rfl⟩ : ∃ c4 : Nat, e = .returned (.int .u32 (c4 : Int)) := (by obtain ⟨c4, _, h, _⟩ := hp; exact ⟨c4, h⟩); have HP4 := Lib.hid hp; clear hp)
      go_ret
      exact hfin.out _ _ HP4.out
end Go.Proofs.YthfjbpbgnoonpaaGreatDoor

namespace Go.Proofs.YthfjbpbgnoonpaaGreatDoor
open Go.RowKit

theorem pow_split {s : Nat} (hs : s ≤ 32) : 2 ^ (32 - s) * 2 ^ s = 4294967296 := by
  rw [← Nat.pow_add, Nat.sub_add_cancel hs]
theorem shift_hi (d : Nat) {s : Nat} (hs : s ≤ 32) : d / 2 ^ (32 - s) = d * 2 ^ s / 4294967296 := by
  rw [← pow_split hs, Nat.mul_div_mul_right _ _ (Nat.pow_pos (by omega))]
/-- The parts of a digit's product by a power of two. -/
theorem shift_parts {d c s : Nat} (hs : s ≤ 31) (hd : d < 4294967296) (hc : c < 2 ^ s) : ∃ lo hi : Nat, d * 2 ^ s % 4294967296 = lo ∧ d * 2 ^ s / 4294967296 = hi ∧ lo ||| c = c + lo ∧ lo < 4294967296 ∧ c + lo < 4294967296 ∧ hi < 2 ^ s ∧ hi < 4294967296 ∧ c < 4294967296 ∧ (c + lo) + 4294967296 * hi = c + d * 2 ^ s := by
  have h2 : (2 : Nat) ^ s ≤ 2 ^ 31 := Nat.pow_le_pow_right (by omega) hs
  have h31 : (2 : Nat) ^ 31 = 2147483648 := rfl
  have hp : 0 < 2 ^ s := Nat.pow_pos (by omega)
  have hsp := pow_split (s := s) (by omega)
  have hlo : d * 2 ^ s % 4294967296 = (d % 2 ^ (32 - s)) * 2 ^ s := by
    rw [← hsp, Nat.mul_mod_mul_right]
  have hm : d % 2 ^ (32 - s) < 2 ^ (32 - s) := Nat.mod_lt _ (Nat.pow_pos (by omega))
  have hlt : (d % 2 ^ (32 - s) + 1) * 2 ^ s ≤ 2 ^ (32 - s) * 2 ^ s := Nat.mul_le_mul_right _ hm
  rw [Nat.add_mul, Nat.one_mul, hsp, ← hlo] at hlt
  have hhi : d * 2 ^ s / 4294967296 < 2 ^ s := by
    rw [Nat.div_lt_iff_lt_mul (by omega), Nat.mul_comm]
    exact Nat.mul_lt_mul_of_pos_left hd hp
  have hor : d * 2 ^ s % 4294967296 ||| c = c + d * 2 ^ s % 4294967296 := by
    rw [hlo, Nat.mul_comm, ← Nat.two_pow_add_eq_or_of_lt hc, Nat.add_comm]
  refine ⟨_, _, rfl, rfl, hor, Nat.mod_lt _ (by omega), by omega, hhi, by omega, by omega, by omega⟩
theorem run_shl (d s lo : Nat) (hs : s ≤ 32) (e : d * 2 ^ s % 4294967296 = lo) : Op.shift .shl .u32 (d : Int) .i64 (s : Int) = pure (.int .u32 (lo : Int)) := by
  have h0 : (0 : Int) ≤ (s : Int) := by omega
  have h1 : (s : Int) ≤ 32 := by omega
  refine (shift_shl .u32 .i64 (d : Int) (s : Int) h0 h1).trans ?_
  rw [Int.toNat_natCast]
  congr 2
  rw [← e]
  show IntKind.u32.wrap ((d : Int) * 2 ^ s) = _
  have : ((d : Int) * 2 ^ s) = ((d * 2 ^ s : Nat) : Int) := by simp
  rw [this]
  generalize d * 2 ^ s = x
  simp [IntKind.wrap, IntKind.bits, IntKind.signed]
theorem run_shr (d s hi : Nat) (hs : s ≤ 32) (e : d * 2 ^ s / 4294967296 = hi) : Op.shift .shr .u32 (d : Int) .i64 (32 - (s : Int)) = pure (.int .u32 (hi : Int)) := by
  have h0 : (0 : Int) ≤ 32 - (s : Int) := by omega
  have h1 : 32 - (s : Int) ≤ 32 := by omega
  refine (shift_shr .u32 .i64 (d : Int) (32 - (s : Int)) h0 h1).trans ?_
  rw [show (32 - (s : Int)).toNat = 32 - s by omega]
  congr 2
  rw [← e, ← shift_hi d hs]
  simp
theorem run_or (x y : Nat) (hx : x < 4294967296) (hy : y < 4294967296) {z : Nat} (e : y ||| x = z) : bits BinOp.or IntKind.u32 (x : Int) (y : Int) = (z : Int) := by
  rw [u32_or_nat x y hx hy, Nat.or_comm, e]

/-- At the head of shiftLeft's loop: i digits are shifted, the carry is laid. -/
def ShlI (w : World) (g m s : Nat) (ds : List Nat) (i : Nat) (W : World) : Prop :=
  ∃ t : Nat → Nat, RowU W g (m + 1) t ∧ (∀ j, t j < 4294967296) ∧ (∀ j, i < j → t j = 0) ∧ t i < 2 ^ s ∧ val 4294967296 (seg t 0 (i + 1)) = val 4294967296 (ds.take i) * 2 ^ s ∧ Below w.heap.size w W
def ShlPost (w : World) (m s : Nat) (ds : List Nat) (e : Ending) (w' : World) : Prop := e = .returned (.slice (some ⟨w.heap.size, 0, none⟩) (m + 1) (m + 1)) ∧ ShlI w w.heap.size m s ds m w'
theorem shl_math {T P v s c lo hi d : Nat} (h : T + P * c = v * s) (e : (c + lo) + 4294967296 * hi = c + d * s) : T + P * (c + lo) + P * 4294967296 * hi = (v + P * d) * s := by
  have h2 : P * ((c + lo) + 4294967296 * hi) = P * (c + d * s) := by rw [e]
  rw [Nat.mul_add, Nat.mul_add P c (d * s), ← Nat.mul_assoc, ← Nat.mul_assoc] at h2
  rw [Nat.add_mul]
  omega

set_option maxRecDepth 100000 in
set_option maxHeartbeats 2000000 in
theorem shiftLeft_any {A : Option Addr} {n c s : Nat} {ds : List Nat} {w : World} (hn : n = ds.length) (hlen : ds.length ≤ 900000) (hs : s ≤ 31) (hd : ∀ d ∈ ds, d < 4294967296) (hA : Cells w w.heap.size A ds.length (u32f ds)) :
    Calls Tryz.prog 125 #[.slice A n c, .int .i64 (s : Int)] w (ShlPost w ds.length s ds) := by
  subst hn
  obtain ⟨i0, hi, hz0, hz1, hz2⟩ := info_parts infoU32
  have HD := Lib.hid hd
  have HS := Lib.hid hs
  have hw3 : IntKind.i64.wrap (32 - (s : Int)) = 32 - (s : Int) := IntWalk.i64_in _ (by omega)
  clear hd hs
  go_enter Tryz.func125, Tryz.ntmps125
  go_wp2_with (refine wpList_make_row rfl (.tmp 10) (.tmp 10) _ rfl 90 i0 _ Tryz.underlying22 hi hz0 hz1 rfl _ _ _ _ (ds.length + 1) rfl rfl (by rw [Int.natCast_add]; rfl) (by rw [Int.natCast_add]; rfl) (by rw [hz2]; omega) (by simp [maxLen]; omega) w w.heap.size (Below.refl _ _) (Nat.le_refl _) ?_; intro w1 hrow hb1 hs1)
  have hI0 : ShlI w w.heap.size ds.length s ds 0 w1 := ⟨fun _ => 0, hrow.out, fun _ => by show (0 : Nat) < 4294967296; decide, fun _ _ => rfl, Nat.pow_pos (by omega), by simp [seg, val], hb1.out⟩
  clear hrow hb1 hs1 hi hz0 hz1 hz2
  go_loopw [14] (fun i wr => ∃ ni : Nat, i = .int .i64 ni ∧ ni ≤ ds.length ∧ ShlI w w.heap.size ds.length s ds ni wr) (fun i _ => ds.length - (intOf i).toNat)
  case atStart => exact ⟨0, rfl, by omega, hI0⟩
  case round =>
    obtain ⟨i, rfl, hil, hI⟩ := hrel
    clear hI0
    by_cases hlt : i < ds.length
    · obtain ⟨t, hr, htB, ht0, htc, hv, hbw⟩ := hI
      obtain ⟨a, rfl, hab, hcell⟩ := hA i hlt
      obtain ⟨d, hdd⟩ : ∃ d : Nat, d = ds.getD i 0 := ⟨_, rfl⟩
      have hd1 : d < 4294967296 := by rw [hdd]; exact getD_lt HD.out i hlt
      have hcell' : wr.cell? (a.add i) = some (.int .u32 d) := by rw [hbw.cell (by rw [add_block]; exact hab), hcell, hdd]; rfl
      obtain ⟨cy, hcy⟩ : ∃ cy, cy = t i := ⟨_, rfl⟩
      rw [← hcy] at htc
      have hc0 : wr.cell? ⟨w.heap.size, i, none⟩ = some (.int .u32 (cy : Nat)) := by rw [hr.cell i (by omega), hcy]
      have hf0 := hr.frozen i
      have hc1 : wr.cell? ⟨w.heap.size, i + 1, none⟩ = some (.int .u32 0) := by rw [hr.cell (i + 1) (by omega), ht0 (i + 1) (by omega)]; rfl
      have hf1 := hr.frozen (i + 1)
      obtain ⟨lo, hi2, e1, e2, e3, hlo, hcl, hhi, hhi2, hcyB, he⟩ := shift_parts HS.out hd1 htc
      have hE1 := run_shl d s lo (by have := HS.out; omega) e1
      have hE2 := run_shr d s hi2 (by have := HS.out; omega) e2
      have hE3 := run_or cy lo hcyB hlo e3
      have hnext : Hid (∀ W' : World, W' = ((wr.setCell ⟨w.heap.size, i, none⟩ (.int .u32 ((cy + lo : Nat) : Int))).setCell ⟨w.heap.size, i + 1, none⟩ (.int .u32 (hi2 : Int))).drew → ShlI w w.heap.size ds.length s ds (i + 1) W') := by
        rintro W' rfl
        refine ⟨fun j => if j = i + 1 then hi2 else if j = i then cy + lo else t j, ?_, ?_, ?_, ?_, ?_, ((hbw.setCell (Nat.le_refl _) _).setCell (Nat.le_refl _) _).drew⟩
        · exact ((hr.set_ i _ (fun _ _ => rfl)).set_ (i + 1) _ (fun j _ => by by_cases h1 : j = i + 1 <;> by_cases h2 : j = i <;> simp [h1, h2])).drew
        · intro j
          show (if j = i + 1 then hi2 else if j = i then cy + lo else t j) < _
          split
          · exact hhi2
          · split
            · exact hcl
            · exact htB j
        · intro j hj
          show (if j = i + 1 then hi2 else if j = i then cy + lo else t j) = 0
          rw [if_neg (by omega), if_neg (by omega)]
          exact ht0 j (by omega)
        · show (if i + 1 = i + 1 then hi2 else _) < _
          rw [if_pos rfl]; exact hhi
        · rw [seg_succ, val_snoc, seg_len, seg_succ, val_snoc, seg_len, take_snoc ds i hlt, val_snoc, List.length_take, Nat.min_eq_left (by omega), Nat.pow_succ, ← hdd]
          have e4 : seg (fun j => if j = i + 1 then hi2 else if j = i then cy + lo else t j) 0 i = seg t 0 i := seg_same fun j hj => by
            show (if 0 + j = i + 1 then hi2 else if 0 + j = i then cy + lo else t (0 + j)) = _
            rw [if_neg (by omega), if_neg (by omega)]
          rw [seg_succ, val_snoc, seg_len, Nat.zero_add, ← hcy] at hv
          rw [e4]
          simp only [Nat.zero_add]
          rw [if_neg (show ¬ i = i + 1 by omega), if_pos True.intro, if_pos True.intro]
          exact shl_math hv he
      clear hr htB ht0 htc hv hcell hdd hcy e1 e2 e3 he
      go_wp2
      go_region
      all_goals
        go_wp2
        exact ⟨⟨i + 1, by go_num, by omega, hnext.out _ (by rw [Int.natCast_add])⟩, by simp [intOf]; omega⟩
    · obtain rfl : i = ds.length := by omega
      go_wp2
      go_ret
      exact ⟨rfl, hI⟩
end Go.Proofs.YthfjbpbgnoonpaaGreatDoor

namespace Go.Proofs.YthfjbpbgnoonpaaGreatDoor
open Go.RowKit Go.Shelf
attribute [local go_sem] Oper.semAt_some

/-- A digit shifted right, with the low bits of the digit above it. -/
def shrD (s d e : Nat) : Nat := d / 2 ^ s + (e * 2 ^ (32 - s)) % 4294967296
theorem shr_parts {d e s : Nat} (hs : s ≤ 31) (hd : d < 4294967296) : ∃ hi lo x : Nat, d / 2 ^ s = hi ∧ e * 2 ^ (32 - s) % 4294967296 = lo ∧ lo ||| hi = x ∧ hi < 4294967296 ∧ lo < 4294967296 ∧ x = shrD s d e ∧ x < 4294967296 := by
  have hsp := pow_split (s := s) (by omega)
  have hsp2 : 2 ^ s * 2 ^ (32 - s) = 4294967296 := by rw [Nat.mul_comm]; exact hsp
  have hhi : d / 2 ^ s < 2 ^ (32 - s) := by
    rw [Nat.div_lt_iff_lt_mul (Nat.pow_pos (by omega)), hsp]
    exact hd
  have hle : (2 : Nat) ^ (32 - s) ≤ 4294967296 := by
    have := Nat.pow_le_pow_right (n := 2) (by omega) (show 32 - s ≤ 32 by omega)
    exact this
  have hlo : e * 2 ^ (32 - s) % 4294967296 = (e % 2 ^ s) * 2 ^ (32 - s) := by
    rw [← hsp2, Nat.mul_mod_mul_right]
  have hm : e % 2 ^ s < 2 ^ s := Nat.mod_lt _ (Nat.pow_pos (by omega))
  have hlt : (e % 2 ^ s + 1) * 2 ^ (32 - s) ≤ 2 ^ s * 2 ^ (32 - s) := Nat.mul_le_mul_right _ hm
  rw [Nat.add_mul, Nat.one_mul, hsp2, ← hlo] at hlt
  have hor : e * 2 ^ (32 - s) % 4294967296 ||| d / 2 ^ s = d / 2 ^ s + e * 2 ^ (32 - s) % 4294967296 := by
    rw [hlo, Nat.mul_comm (e % 2 ^ s), ← Nat.two_pow_add_eq_or_of_lt hhi, Nat.add_comm]
  exact ⟨_, _, _, rfl, rfl, hor, by omega, Nat.mod_lt _ (by omega), rfl, by omega⟩
theorem run_shr2 (d s hi : Nat) (hs : s ≤ 32) (e : d / 2 ^ s = hi) : Op.shift .shr .u32 (d : Int) .i64 (s : Int) = pure (.int .u32 (hi : Int)) := by
  have h0 : (0 : Int) ≤ (s : Int) := by omega
  have h1 : (s : Int) ≤ 32 := by omega
  refine (shift_shr .u32 .i64 (d : Int) (s : Int) h0 h1).trans ?_
  rw [Int.toNat_natCast]
  congr 2
  rw [← e]
  simp
theorem run_shl2 (d s lo : Nat) (hs : s ≤ 32) (e : d * 2 ^ (32 - s) % 4294967296 = lo) : Op.shift .shl .u32 (d : Int) .i64 (32 - (s : Int)) = pure (.int .u32 (lo : Int)) := by
  have := run_shl d (32 - s) lo (by omega) e
  rw [show ((32 - s : Nat) : Int) = 32 - (s : Int) by omega] at this
  exact this

/-- What holds when all but k digits have been shifted. -/
def ShrI (w : World) (g N n c : Nat) (A : Option Addr) (f : Nat → Value) (ds : List Nat) (s k : Nat) (W : World) : Prop :=
  ∃ f' : Nat → Value, One W (w.heap.size + 1 + 1) (.int .u32 (ds.getD k 0 : Nat)) 90 ∧ Row W g 90 N f' ∧
    (∀ i, f' i = if i < k then f i else if i < n then .int .u32 (shrD s (ds.getD i 0) (ds.getD (i + 1) 0) : Nat) else f i) ∧
    One W w.heap.size (.slice A n c) 22 ∧ One W (w.heap.size + 1) (.int .i64 (s : Nat)) 3 ∧ One W (w.heap.size + 1 + 1 + 1) (.slice A n c) 22 ∧ w.grownBy W (some g)
theorem shrI_own {w : World} {g N n c : Nat} {A : Option Addr} {f : Nat → Value} {ds : List Nat} {s B : Nat} (hB : w.heap.size ≤ B) : OwnFrom B (fun (pre : List Nat) W => ShrI w g N n c A f ds s (n - pre.length) W) := by
  refine ownFrom_of ?_
  rintro pre W W' ⟨f', h1, h3, h4, h8, h9, h10, h11⟩ hc hb hsz ho ht hp
  refine ⟨f', hc _ _ h1 rfl, hc _ _ h3 rfl, h4, hc _ _ h8 rfl, hc _ _ h9 rfl, hc _ _ h10 rfl, ho.trans h11.os, ht.trans h11.tape, hp.trans h11.output, Nat.le_trans h11.size hsz, ?_⟩
  intro k hk hne
  exact (hb k (by omega) (by have := h11.size; omega)).trans (h11.block k hk hne)
theorem shr_leaf {w : World} {g N n c : Nat} {A : Option Addr} {f : Nat → Value} {ds : List Nat} {s k d x : Nat} {f' : Nat → Value} {pre : List Nat} {W : World} (hg : g < w.heap.size) (_hN : n ≤ N) (hdl : ds.length = n)
    (hK : n - pre.length = k + 1) (H : One W (w.heap.size + 1 + 1) (.int .u32 (ds.getD (k + 1) 0 : Nat)) 90 ∧ Row W g 90 N f' ∧ One W w.heap.size (.slice A n c) 22 ∧ One W (w.heap.size + 1) (.int .i64 (s : Nat)) 3 ∧ One W (w.heap.size + 1 + 1 + 1) (.slice A n c) 22 ∧ w.grownBy W (some g))
    (h4 : ∀ i, f' i = if i < k + 1 then f i else if i < n then .int .u32 (shrD s (ds.getD i 0) (ds.getD (i + 1) 0) : Nat) else f i) (hx : d = ds.getD k 0 ∧ x = shrD s (ds.getD k 0) (ds.getD (k + 1) 0)) (W2 : World)
    (hW2 : W2 = (W.drew.setCell ⟨g, k, none⟩ (.int .u32 (x : Nat))).setCell ⟨w.heap.size + 1 + 1, 0, none⟩ (.int .u32 (d : Nat)) := by rfl) :
    KeepsOthers W W2 ∧ ShrI w g N n c A f ds s (n - (pre ++ [k]).length) W2 := by
  subst hW2
  obtain ⟨h1, h3, h8, h9, h10, h11⟩ := H
  obtain ⟨rfl, rfl⟩ := hx
  have ek : n - (pre ++ [k]).length = k := by simp; omega
  rw [ek]
  refine ⟨(show KeepsOthers W W.drew from ⟨Nat.le_refl _, fun _ _ h _ => h⟩).trans ((KeepsOthers.setCell W.drew _ _).trans (KeepsOthers.setCell _ _ _)), fun j => if j = k then .int .u32 (shrD s (ds.getD k 0) (ds.getD (k + 1) 0) : Nat) else f' j, ?_, ?_, ?_, ?_, ?_, ?_, ?_⟩
  · exact ((show One W.drew _ _ _ from h1).far (p := ⟨g, k, none⟩) (by simp; omega) _).set_ _
  · exact (((show Row W.drew _ _ _ _ from h3).set_ k _ (fun j _ => rfl))).far (p := ⟨w.heap.size + 1 + 1, 0, none⟩) (by simp; omega) _
  · intro i
    by_cases hi : i = k
    · subst hi; simp; omega
    · show (if i = k then _ else f' i) = _
      rw [if_neg hi, h4 i]
      by_cases h : i < k
      · rw [if_pos h, if_pos (by omega)]
      · rw [if_neg h, if_neg (by omega)]
  · exact ((show One W.drew _ _ _ from h8).far (p := ⟨g, k, none⟩) (by show w.heap.size ≠ g; omega) _).far (p := ⟨w.heap.size + 1 + 1, 0, none⟩) (by show w.heap.size ≠ w.heap.size + 1 + 1; omega) _
  · exact ((show One W.drew _ _ _ from h9).far (p := ⟨g, k, none⟩) (by show w.heap.size + 1 ≠ g; omega) _).far (p := ⟨w.heap.size + 1 + 1, 0, none⟩) (by show w.heap.size + 1 ≠ w.heap.size + 1 + 1; omega) _
  · exact ((show One W.drew _ _ _ from h10).far (p := ⟨g, k, none⟩) (by show w.heap.size + 1 + 1 + 1 ≠ g; omega) _).far (p := ⟨w.heap.size + 1 + 1, 0, none⟩) (by show w.heap.size + 1 + 1 + 1 ≠ w.heap.size + 1 + 1; omega) _
  · exact grown_setCell (grown_setCell (grown_drew h11) (.inl rfl) _) (.inr (by show w.heap.size ≤ w.heap.size + 1 + 1; omega)) _

def ShrPost (w : World) (g N : Nat) (f : Nat → Value) (ds : List Nat) (s : Nat) (e : Ending) (w' : World) : Prop :=
  ∃ (v : Value) (f' : Nat → Value), e = .returned v ∧ Row w' g 90 N f' ∧ (∀ i, f' i = if i < ds.length then .int .u32 (shrD s (ds.getD i 0) (ds.getD (i + 1) 0) : Nat) else f i) ∧ w.grownBy w' (some g)

set_option maxRecDepth 100000 in
set_option maxHeartbeats 4000000 in
theorem shiftRight_any {g N c : Nat} {A : Option Addr} {f : Nat → Value} {ds : List Nat} (s : Nat) {w : World} (hlen : ds.length ≤ 900000) (hs : s ≤ 31) (hd : ∀ d ∈ ds, d < 4294967296)
    (hA : 0 < ds.length → A = some ⟨g, 0, none⟩) (hN : ds.length ≤ N) (hrow : Row w g 90 N f) (hf : ∀ i, i < ds.length → f i = u32f ds i) :
    Calls Tryz.prog 127 #[.slice A ds.length c, .int .i64 (s : Int)] w (ShrPost w g N f ds s) := by
  have hgl := hrow.lt
  have HF := Lib.hid hf
  have HD := Lib.hid hd
  have HS := Lib.hid hs
  have hw3 : IntKind.i64.wrap (32 - (s : Int)) = 32 - (s : Int) := IntWalk.i64_in _ (by omega)
  clear hf hd hs
  refine (callsIn_wide (n := 5)).1 ?_
  refine callsIn_of_wp_marks Tryz.func127 rfl trivial ?_ rfl
  simp only [Tryz.ntmps127, List.size_toArray, List.length_cons, List.length_nil, Nat.reduceAdd, Nat.reduceSub, Array.replicate_succ, Array.replicate_zero, List.push_toArray, List.append_toArray, List.nil_append, List.cons_append]
  have h50 : Fence.wide.fn 91 := trivial
  gi_wp2_with (gi_at_call 91; refine (backward_in Fence.wide _ trivial rfl _ _ _ _).mono ?_; rintro e w' ⟨rfl, rfl⟩)
  obtain ⟨w0, hw0⟩ : ∃ w0, ((((w.alloc (.cells #[.slice A ds.length c] 22)).alloc (.cells #[.int .i64 (s : Int)] 3)).alloc (.cells #[.int .u32 0] 90)).alloc (.cells #[.slice A ds.length c] 22)) = w0 := ⟨_, rfl⟩
  have hs0 : w0.heap.size = w.heap.size + 1 + 1 + 1 + 1 := by subst hw0; simp
  have hI0 : ShrI w g N ds.length c A f ds s ds.length w0 := by
    subst hw0
    have b1 : Below w.heap.size w ((((w.alloc (.cells #[.slice A ds.length c] 22)).alloc (.cells #[.int .i64 (s : Int)] 3)).alloc (.cells #[.int .u32 0] 90)).alloc (.cells #[.slice A ds.length c] 22)) :=
      ((((Below.refl _ w).alloc (Nat.le_refl _) _).alloc (by simp) _).alloc (by simp; omega) _).alloc (by simp; omega) _
    refine ⟨f, ?_, hrow.below b1 hgl, fun i => ?_, ?_, ?_, ?_, ⟨b1.os, b1.tape, b1.output, b1.size, fun k hk _ => b1.block k hk⟩⟩
    · have := (One.new ((w.alloc (.cells #[.slice A ds.length c] 22)).alloc (.cells #[.int .i64 (s : Int)] 3)) (.int .u32 0) 90).alloc (.cells #[.slice A ds.length c] 22)
      simpa [List.getD] using this
    · split
      · rfl
      · rfl
    · exact (((One.new w (.slice A ds.length c) 22).alloc _).alloc _).alloc _
    · have := ((One.new (w.alloc (.cells #[.slice A ds.length c] 22)) (.int .i64 (s : Int)) 3).alloc (.cells #[.int .u32 0] 90)).alloc (.cells #[.slice A ds.length c] 22)
      simpa using this
    · have := One.new (((w.alloc (.cells #[.slice A ds.length c] 22)).alloc (.cells #[.int .i64 (s : Int)] 3)).alloc (.cells #[.int .u32 0] 90)) (.slice A ds.length c) 22
      simpa using this
  rw [hw0]
  clear hw0
  refine wpIn_iterate rfl (by omega) (gf := 113) (lb := #[.pointer (some ⟨w.heap.size + 1 + 1 + 1, 0, none⟩)]) (by simp [go_sem]) trivial (enters_of Tryz.func113 (by kernel_rfl) rfl)
    (back_iter Fence.wide _ trivial rfl (by omega) _ A ds.length c (digF ds) (by omega) _) (fun _ => rfl)
    (fun pre W => ShrI w g N ds.length c A f ds s (ds.length - pre.length) W) (fun _ _ _ => False) (shrI_own (by omega)) (fun c => by intro s W W' row hs; exact hs.elim) ?IR hI0 ?a1 ?assign ?body ?done ?stop
  case assign =>
    intro l x W K hK
    gi_wp2
    exact hK
  case IR =>
    rintro pre W ⟨f', h1, h3, h4, h8, h9, h10, h11⟩
    refine ⟨h10.cell, fun hp => ⟨⟨g, 0, none⟩, hA (by omega), ?_⟩⟩
    have hc := h3.cell (ds.length - 1 - pre.length) (by omega)
    rw [h4, if_pos (by omega), HF.out _ (by omega)] at hc
    rw [row_at]
    exact hc
  case body =>
    rintro l pre x0 W ⟨f', h1, h3, h4, h8, h9, h10, h11⟩ hpl ⟨_, rfl⟩
    obtain ⟨k, hk⟩ : ∃ k, k = ds.length - 1 - pre.length := ⟨_, rfl⟩
    have hkn : ds.length - pre.length = k + 1 := by omega
    rw [hkn] at h4 h1
    rw [← hk]
    have hcg := h3.cell k (by omega)
    have hfg := h3.frozen k
    obtain rfl := hA (by omega)
    obtain ⟨d, hdd⟩ : ∃ d : Nat, d = ds.getD k 0 := ⟨_, rfl⟩
    have hd1 : d < 4294967296 := by rw [hdd]; exact getD_lt HD.out k (by omega)
    obtain ⟨ab, hab⟩ : ∃ ab : Nat, ab = ds.getD (k + 1) 0 := ⟨_, rfl⟩
    obtain ⟨hi1, lo1, x, e1, e2, e3, hhi, hlo, hxe, hxB⟩ := shr_parts (e := ab) HS.out hd1
    have Hx : Hid (d = ds.getD k 0 ∧ x = shrD s (ds.getD k 0) (ds.getD (k + 1) 0)) := ⟨hdd, by rw [hxe, hdd, hab]⟩
    have hdf : digF ds k = d := by rw [hdd]; rfl
    have hc1 : W.cell? ⟨w.heap.size + 1 + 1, 0, none⟩ = some (.int .u32 (ab : Nat)) := by rw [hab]; exact h1.cell
    have hf1 := h1.frozen
    have hc8 := h8.cell
    have hc9 := h9.cell
    have hE1 := run_shr2 d s hi1 (by have := HS.out; omega) e1
    have hE2 := run_shl2 ab s lo1 (by have := HS.out; omega) e2
    have hE3 := run_or hi1 lo1 hhi hlo e3
    have hmx : Tryz.prog.follows .mixedOrders = true := by kernel_rfl
    have h31 : 1 ≤ 5 - 1 - 1 := by omega
    have hkl : k < ds.length := by omega
    have H4 := Lib.hid h4
    have HK := Lib.hid hkn
    clear h4 hkn hk e1 e2 e3 hxe hdd hab
    have HALL := Lib.hid (And.intro h1 (And.intro h3 (And.intro h8 (And.intro h9 (And.intro h10 h11)))))
    clear h1 h3 h8 h9 h10 h11 hrow hlen hpl hI0 hA
    rw [hdf]
    clear hdf
    gi_wp2
    refine wpIn_region_any (by assumption) ?_
    try (change wpAnyIn _ _ _ _ _ _ _ _ _ (World.drew _))
    refine wpAnyIn_inRound rfl (no_defer (by kernel_rfl)) _ _ _ _ ?_
    refine wpAnyIn_take (i := 1) (v := ?_) rfl rfl (by kernel_rfl) (by kernel_rfl) (by kernel_rfl) (fun _ _ _ h => h) ⟨Or.inl ⟨by rfl, ?_⟩, fun _ => rfl⟩ ?_
    rotate_left
    focus (intro w; go_simp; try with_reducible rfl)
    refine wpAnyIn_take (i := 2) (v := ?_) rfl rfl (by kernel_rfl) (by kernel_rfl) (by kernel_rfl) (fun _ _ _ h => h) ⟨Or.inl ⟨by rfl, ?_⟩, fun _ => rfl⟩ ?_
    rotate_left
    focus (intro w; go_simp; try with_reducible rfl)
    refine wpAnyIn_ready (rs := [0, 3, 5, 6]) (by kernel_rfl) (by simp) ?_
    refine AllReadyIn.cons rfl (fun K hK => ?_) ?_
    · go_simp
      refine hK _ _ ?_
      clear hK K
      refine wpAnyIn_ready (rs := [3, 5, 6]) (by kernel_rfl) (by simp) ?_
      refine AllReadyIn.cons rfl (fun K hK => ?_) ?_
      · go_simp
        refine hK _ _ ?_
        clear hK K
        refine wpAnyIn_take (i := 4) (v := ?_) rfl rfl (by kernel_rfl) (by kernel_rfl) (by kernel_rfl) (fun _ _ _ h => h) ⟨Or.inl ⟨by rfl, ?_⟩, fun _ => rfl⟩ ?_
        rotate_left
        focus (intro w; go_simp; try with_reducible rfl)
        refine wpAnyIn_ready (rs := [5, 6]) (by kernel_rfl) (by simp) ?_
        refine AllReadyIn.cons rfl (fun K hK => ?_) ?_
        · go_simp
          refine hK _ _ ?_
          clear hK K
          refine wpAnyIn_ready (rs := [6]) (by kernel_rfl) (by simp) ?_
          refine AllReadyIn.cons rfl (fun K hK => ?_) ?_
          · go_simp
            refine hK _ _ ?_
            clear hK K
            refine wpAnyIn_take (i := 7) (v := ?_) rfl rfl (by kernel_rfl) (by kernel_rfl) (by kernel_rfl) (fun _ _ _ h => h) ⟨Or.inl ⟨by rfl, ?_⟩, fun _ => rfl⟩ ?_
            rotate_left
            focus (intro w; go_simp; try with_reducible rfl)
            refine wpAnyIn_take (i := 8) (v := ?_) rfl rfl (by kernel_rfl) (by kernel_rfl) (by kernel_rfl) (fun _ _ _ h => h) ⟨Or.inl ⟨by rfl, ?_⟩, fun _ => rfl⟩ ?_
            rotate_left
            focus (intro w; go_simp; try with_reducible rfl)
            refine wpAnyIn_take (i := 9) (v := ?_) rfl rfl (by kernel_rfl) (by kernel_rfl) (by kernel_rfl) (fun _ _ _ h => h) ⟨Or.inl ⟨by rfl, ?_⟩, fun _ => rfl⟩ ?_
            rotate_left
            focus (intro w; go_simp; try with_reducible rfl)
            refine wpAnyIn_take (i := 10) (v := ?_) rfl rfl (by kernel_rfl) (by kernel_rfl) (by kernel_rfl) (fun _ _ _ h => h) ⟨Or.inl ⟨by rfl, ?_⟩, fun _ => rfl⟩ ?_
            rotate_left
            focus (intro w; go_simp; try with_reducible rfl)
            refine wpAnyIn_ready (rs := [11]) (by kernel_rfl) (by simp) ?_
            refine AllReadyIn.cons rfl (fun K hK => ?_) ?_
            · go_simp
              refine hK _ _ ?_
              clear hK K
              refine wpAnyIn_done (by kernel_rfl) ?_ _
              gi_wp2
              exact shr_leaf hgl hN rfl HK.out HALL.out H4.out Hx.out _
            exact AllReadyIn.nil
          exact AllReadyIn.nil
        refine AllReadyIn.cons rfl (fun K hK => ?_) ?_
        · go_simp
          refine hK _ _ ?_
          clear hK K
          refine wpAnyIn_take (i := 7) (v := ?_) rfl rfl (by kernel_rfl) (by kernel_rfl) (by kernel_rfl) (fun _ _ _ h => h) ⟨Or.inl ⟨by rfl, ?_⟩, fun _ => rfl⟩ ?_
          rotate_left
          focus (intro w; go_simp; try with_reducible rfl)
          refine wpAnyIn_ready (rs := [5]) (by kernel_rfl) (by simp) ?_
          refine AllReadyIn.cons rfl (fun K hK => ?_) ?_
          · go_simp
            refine hK _ _ ?_
            clear hK K
            refine wpAnyIn_take (i := 8) (v := ?_) rfl rfl (by kernel_rfl) (by kernel_rfl) (by kernel_rfl) (fun _ _ _ h => h) ⟨Or.inl ⟨by rfl, ?_⟩, fun _ => rfl⟩ ?_
            rotate_left
            focus (intro w; go_simp; try with_reducible rfl)
            refine wpAnyIn_take (i := 9) (v := ?_) rfl rfl (by kernel_rfl) (by kernel_rfl) (by kernel_rfl) (fun _ _ _ h => h) ⟨Or.inl ⟨by rfl, ?_⟩, fun _ => rfl⟩ ?_
            rotate_left
            focus (intro w; go_simp; try with_reducible rfl)
            refine wpAnyIn_take (i := 10) (v := ?_) rfl rfl (by kernel_rfl) (by kernel_rfl) (by kernel_rfl) (fun _ _ _ h => h) ⟨Or.inl ⟨by rfl, ?_⟩, fun _ => rfl⟩ ?_
            rotate_left
            focus (intro w; go_simp; try with_reducible rfl)
            refine wpAnyIn_ready (rs := [11]) (by kernel_rfl) (by simp) ?_
            refine AllReadyIn.cons rfl (fun K hK => ?_) ?_
            · go_simp
              refine hK _ _ ?_
              clear hK K
              refine wpAnyIn_done (by kernel_rfl) ?_ _
              gi_wp2
              exact shr_leaf hgl hN rfl HK.out HALL.out H4.out Hx.out _
            exact AllReadyIn.nil
          exact AllReadyIn.nil
        exact AllReadyIn.nil
      refine AllReadyIn.cons rfl (fun K hK => ?_) ?_
      · go_simp
        refine hK _ _ ?_
        clear hK K
        refine wpAnyIn_ready (rs := [3, 6]) (by kernel_rfl) (by simp) ?_
        refine AllReadyIn.cons rfl (fun K hK => ?_) ?_
        · go_simp
          refine hK _ _ ?_
          clear hK K
          refine wpAnyIn_take (i := 4) (v := ?_) rfl rfl (by kernel_rfl) (by kernel_rfl) (by kernel_rfl) (fun _ _ _ h => h) ⟨Or.inl ⟨by rfl, ?_⟩, fun _ => rfl⟩ ?_
          rotate_left
          focus (intro w; go_simp; try with_reducible rfl)
          refine wpAnyIn_ready (rs := [6]) (by kernel_rfl) (by simp) ?_
          refine AllReadyIn.cons rfl (fun K hK => ?_) ?_
          · go_simp
            refine hK _ _ ?_
            clear hK K
            refine wpAnyIn_take (i := 7) (v := ?_) rfl rfl (by kernel_rfl) (by kernel_rfl) (by kernel_rfl) (fun _ _ _ h => h) ⟨Or.inl ⟨by rfl, ?_⟩, fun _ => rfl⟩ ?_
            rotate_left
            focus (intro w; go_simp; try with_reducible rfl)
            refine wpAnyIn_take (i := 8) (v := ?_) rfl rfl (by kernel_rfl) (by kernel_rfl) (by kernel_rfl) (fun _ _ _ h => h) ⟨Or.inl ⟨by rfl, ?_⟩, fun _ => rfl⟩ ?_
            rotate_left
            focus (intro w; go_simp; try with_reducible rfl)
            refine wpAnyIn_take (i := 9) (v := ?_) rfl rfl (by kernel_rfl) (by kernel_rfl) (by kernel_rfl) (fun _ _ _ h => h) ⟨Or.inl ⟨by rfl, ?_⟩, fun _ => rfl⟩ ?_
            rotate_left
            focus (intro w; go_simp; try with_reducible rfl)
            refine wpAnyIn_take (i := 10) (v := ?_) rfl rfl (by kernel_rfl) (by kernel_rfl) (by kernel_rfl) (fun _ _ _ h => h) ⟨Or.inl ⟨by rfl, ?_⟩, fun _ => rfl⟩ ?_
            rotate_left
            focus (intro w; go_simp; try with_reducible rfl)
            refine wpAnyIn_ready (rs := [11]) (by kernel_rfl) (by simp) ?_
            refine AllReadyIn.cons rfl (fun K hK => ?_) ?_
            · go_simp
              refine hK _ _ ?_
              clear hK K
              refine wpAnyIn_done (by kernel_rfl) ?_ _
              gi_wp2
              exact shr_leaf hgl hN rfl HK.out HALL.out H4.out Hx.out _
            exact AllReadyIn.nil
          exact AllReadyIn.nil
        refine AllReadyIn.cons rfl (fun K hK => ?_) ?_
        · go_simp
          refine hK _ _ ?_
          clear hK K
          refine wpAnyIn_take (i := 7) (v := ?_) rfl rfl (by kernel_rfl) (by kernel_rfl) (by kernel_rfl) (fun _ _ _ h => h) ⟨Or.inl ⟨by rfl, ?_⟩, fun _ => rfl⟩ ?_
          rotate_left
          focus (intro w; go_simp; try with_reducible rfl)
          refine wpAnyIn_take (i := 8) (v := ?_) rfl rfl (by kernel_rfl) (by kernel_rfl) (by kernel_rfl) (fun _ _ _ h => h) ⟨Or.inl ⟨by rfl, ?_⟩, fun _ => rfl⟩ ?_
          rotate_left
          focus (intro w; go_simp; try with_reducible rfl)
          refine wpAnyIn_ready (rs := [3]) (by kernel_rfl) (by simp) ?_
          refine AllReadyIn.cons rfl (fun K hK => ?_) ?_
          · go_simp
            refine hK _ _ ?_
            clear hK K
            refine wpAnyIn_take (i := 4) (v := ?_) rfl rfl (by kernel_rfl) (by kernel_rfl) (by kernel_rfl) (fun _ _ _ h => h) ⟨Or.inl ⟨by rfl, ?_⟩, fun _ => rfl⟩ ?_
            rotate_left
            focus (intro w; go_simp; try with_reducible rfl)
            refine wpAnyIn_take (i := 9) (v := ?_) rfl rfl (by kernel_rfl) (by kernel_rfl) (by kernel_rfl) (fun _ _ _ h => h) ⟨Or.inl ⟨by rfl, ?_⟩, fun _ => rfl⟩ ?_
            rotate_left
            focus (intro w; go_simp; try with_reducible rfl)
            refine wpAnyIn_take (i := 10) (v := ?_) rfl rfl (by kernel_rfl) (by kernel_rfl) (by kernel_rfl) (fun _ _ _ h => h) ⟨Or.inl ⟨by rfl, ?_⟩, fun _ => rfl⟩ ?_
            rotate_left
            focus (intro w; go_simp; try with_reducible rfl)
            refine wpAnyIn_ready (rs := [11]) (by kernel_rfl) (by simp) ?_
            refine AllReadyIn.cons rfl (fun K hK => ?_) ?_
            · go_simp
              refine hK _ _ ?_
              clear hK K
              refine wpAnyIn_done (by kernel_rfl) ?_ _
              gi_wp2
              exact shr_leaf hgl hN rfl HK.out HALL.out H4.out Hx.out _
            exact AllReadyIn.nil
          exact AllReadyIn.nil
        exact AllReadyIn.nil
      refine AllReadyIn.cons rfl (fun K hK => ?_) ?_
      · go_simp
        refine hK _ _ ?_
        clear hK K
        refine wpAnyIn_take (i := 7) (v := ?_) rfl rfl (by kernel_rfl) (by kernel_rfl) (by kernel_rfl) (fun _ _ _ h => h) ⟨Or.inl ⟨by rfl, ?_⟩, fun _ => rfl⟩ ?_
        rotate_left
        focus (intro w; go_simp; try with_reducible rfl)
        refine wpAnyIn_ready (rs := [3, 5]) (by kernel_rfl) (by simp) ?_
        refine AllReadyIn.cons rfl (fun K hK => ?_) ?_
        · go_simp
          refine hK _ _ ?_
          clear hK K
          refine wpAnyIn_take (i := 4) (v := ?_) rfl rfl (by kernel_rfl) (by kernel_rfl) (by kernel_rfl) (fun _ _ _ h => h) ⟨Or.inl ⟨by rfl, ?_⟩, fun _ => rfl⟩ ?_
          rotate_left
          focus (intro w; go_simp; try with_reducible rfl)
          refine wpAnyIn_ready (rs := [5]) (by kernel_rfl) (by simp) ?_
          refine AllReadyIn.cons rfl (fun K hK => ?_) ?_
          · go_simp
            refine hK _ _ ?_
            clear hK K
            refine wpAnyIn_take (i := 8) (v := ?_) rfl rfl (by kernel_rfl) (by kernel_rfl) (by kernel_rfl) (fun _ _ _ h => h) ⟨Or.inl ⟨by rfl, ?_⟩, fun _ => rfl⟩ ?_
            rotate_left
            focus (intro w; go_simp; try with_reducible rfl)
            refine wpAnyIn_take (i := 9) (v := ?_) rfl rfl (by kernel_rfl) (by kernel_rfl) (by kernel_rfl) (fun _ _ _ h => h) ⟨Or.inl ⟨by rfl, ?_⟩, fun _ => rfl⟩ ?_
            rotate_left
            focus (intro w; go_simp; try with_reducible rfl)
            refine wpAnyIn_take (i := 10) (v := ?_) rfl rfl (by kernel_rfl) (by kernel_rfl) (by kernel_rfl) (fun _ _ _ h => h) ⟨Or.inl ⟨by rfl, ?_⟩, fun _ => rfl⟩ ?_
            rotate_left
            focus (intro w; go_simp; try with_reducible rfl)
            refine wpAnyIn_ready (rs := [11]) (by kernel_rfl) (by simp) ?_
            refine AllReadyIn.cons rfl (fun K hK => ?_) ?_
            · go_simp
              refine hK _ _ ?_
              clear hK K
              refine wpAnyIn_done (by kernel_rfl) ?_ _
              gi_wp2
              exact shr_leaf hgl hN rfl HK.out HALL.out H4.out Hx.out _
            exact AllReadyIn.nil
          exact AllReadyIn.nil
        refine AllReadyIn.cons rfl (fun K hK => ?_) ?_
        · go_simp
          refine hK _ _ ?_
          clear hK K
          refine wpAnyIn_take (i := 8) (v := ?_) rfl rfl (by kernel_rfl) (by kernel_rfl) (by kernel_rfl) (fun _ _ _ h => h) ⟨Or.inl ⟨by rfl, ?_⟩, fun _ => rfl⟩ ?_
          rotate_left
          focus (intro w; go_simp; try with_reducible rfl)
          refine wpAnyIn_ready (rs := [3]) (by kernel_rfl) (by simp) ?_
          refine AllReadyIn.cons rfl (fun K hK => ?_) ?_
          · go_simp
            refine hK _ _ ?_
            clear hK K
            refine wpAnyIn_take (i := 4) (v := ?_) rfl rfl (by kernel_rfl) (by kernel_rfl) (by kernel_rfl) (fun _ _ _ h => h) ⟨Or.inl ⟨by rfl, ?_⟩, fun _ => rfl⟩ ?_
            rotate_left
            focus (intro w; go_simp; try with_reducible rfl)
            refine wpAnyIn_take (i := 9) (v := ?_) rfl rfl (by kernel_rfl) (by kernel_rfl) (by kernel_rfl) (fun _ _ _ h => h) ⟨Or.inl ⟨by rfl, ?_⟩, fun _ => rfl⟩ ?_
            rotate_left
            focus (intro w; go_simp; try with_reducible rfl)
            refine wpAnyIn_take (i := 10) (v := ?_) rfl rfl (by kernel_rfl) (by kernel_rfl) (by kernel_rfl) (fun _ _ _ h => h) ⟨Or.inl ⟨by rfl, ?_⟩, fun _ => rfl⟩ ?_
            rotate_left
            focus (intro w; go_simp; try with_reducible rfl)
            refine wpAnyIn_ready (rs := [11]) (by kernel_rfl) (by simp) ?_
            refine AllReadyIn.cons rfl (fun K hK => ?_) ?_
            · go_simp
              refine hK _ _ ?_
              clear hK K
              refine wpAnyIn_done (by kernel_rfl) ?_ _
              gi_wp2
              exact shr_leaf hgl hN rfl HK.out HALL.out H4.out Hx.out _
            exact AllReadyIn.nil
          exact AllReadyIn.nil
        exact AllReadyIn.nil
      exact AllReadyIn.nil
    refine AllReadyIn.cons rfl (fun K hK => ?_) ?_
    · go_simp
      refine hK _ _ ?_
      clear hK K
      refine wpAnyIn_take (i := 4) (v := ?_) rfl rfl (by kernel_rfl) (by kernel_rfl) (by kernel_rfl) (fun _ _ _ h => h) ⟨Or.inl ⟨by rfl, ?_⟩, fun _ => rfl⟩ ?_
      rotate_left
      focus (intro w; go_simp; try with_reducible rfl)
      refine wpAnyIn_ready (rs := [0, 5, 6]) (by kernel_rfl) (by simp) ?_
      refine AllReadyIn.cons rfl (fun K hK => ?_) ?_
      · go_simp
        refine hK _ _ ?_
        clear hK K
        refine wpAnyIn_ready (rs := [5, 6]) (by kernel_rfl) (by simp) ?_
        refine AllReadyIn.cons rfl (fun K hK => ?_) ?_
        · go_simp
          refine hK _ _ ?_
          clear hK K
          refine wpAnyIn_ready (rs := [6]) (by kernel_rfl) (by simp) ?_
          refine AllReadyIn.cons rfl (fun K hK => ?_) ?_
          · go_simp
            refine hK _ _ ?_
            clear hK K
            refine wpAnyIn_take (i := 7) (v := ?_) rfl rfl (by kernel_rfl) (by kernel_rfl) (by kernel_rfl) (fun _ _ _ h => h) ⟨Or.inl ⟨by rfl, ?_⟩, fun _ => rfl⟩ ?_
            rotate_left
            focus (intro w; go_simp; try with_reducible rfl)
            refine wpAnyIn_take (i := 8) (v := ?_) rfl rfl (by kernel_rfl) (by kernel_rfl) (by kernel_rfl) (fun _ _ _ h => h) ⟨Or.inl ⟨by rfl, ?_⟩, fun _ => rfl⟩ ?_
            rotate_left
            focus (intro w; go_simp; try with_reducible rfl)
            refine wpAnyIn_take (i := 9) (v := ?_) rfl rfl (by kernel_rfl) (by kernel_rfl) (by kernel_rfl) (fun _ _ _ h => h) ⟨Or.inl ⟨by rfl, ?_⟩, fun _ => rfl⟩ ?_
            rotate_left
            focus (intro w; go_simp; try with_reducible rfl)
            refine wpAnyIn_take (i := 10) (v := ?_) rfl rfl (by kernel_rfl) (by kernel_rfl) (by kernel_rfl) (fun _ _ _ h => h) ⟨Or.inl ⟨by rfl, ?_⟩, fun _ => rfl⟩ ?_
            rotate_left
            focus (intro w; go_simp; try with_reducible rfl)
            refine wpAnyIn_ready (rs := [11]) (by kernel_rfl) (by simp) ?_
            refine AllReadyIn.cons rfl (fun K hK => ?_) ?_
            · go_simp
              refine hK _ _ ?_
              clear hK K
              refine wpAnyIn_done (by kernel_rfl) ?_ _
              gi_wp2
              exact shr_leaf hgl hN rfl HK.out HALL.out H4.out Hx.out _
            exact AllReadyIn.nil
          exact AllReadyIn.nil
        refine AllReadyIn.cons rfl (fun K hK => ?_) ?_
        · go_simp
          refine hK _ _ ?_
          clear hK K
          refine wpAnyIn_take (i := 7) (v := ?_) rfl rfl (by kernel_rfl) (by kernel_rfl) (by kernel_rfl) (fun _ _ _ h => h) ⟨Or.inl ⟨by rfl, ?_⟩, fun _ => rfl⟩ ?_
          rotate_left
          focus (intro w; go_simp; try with_reducible rfl)
          refine wpAnyIn_ready (rs := [5]) (by kernel_rfl) (by simp) ?_
          refine AllReadyIn.cons rfl (fun K hK => ?_) ?_
          · go_simp
            refine hK _ _ ?_
            clear hK K
            refine wpAnyIn_take (i := 8) (v := ?_) rfl rfl (by kernel_rfl) (by kernel_rfl) (by kernel_rfl) (fun _ _ _ h => h) ⟨Or.inl ⟨by rfl, ?_⟩, fun _ => rfl⟩ ?_
            rotate_left
            focus (intro w; go_simp; try with_reducible rfl)
            refine wpAnyIn_take (i := 9) (v := ?_) rfl rfl (by kernel_rfl) (by kernel_rfl) (by kernel_rfl) (fun _ _ _ h => h) ⟨Or.inl ⟨by rfl, ?_⟩, fun _ => rfl⟩ ?_
            rotate_left
            focus (intro w; go_simp; try with_reducible rfl)
            refine wpAnyIn_take (i := 10) (v := ?_) rfl rfl (by kernel_rfl) (by kernel_rfl) (by kernel_rfl) (fun _ _ _ h => h) ⟨Or.inl ⟨by rfl, ?_⟩, fun _ => rfl⟩ ?_
            rotate_left
            focus (intro w; go_simp; try with_reducible rfl)
            refine wpAnyIn_ready (rs := [11]) (by kernel_rfl) (by simp) ?_
            refine AllReadyIn.cons rfl (fun K hK => ?_) ?_
            · go_simp
              refine hK _ _ ?_
              clear hK K
              refine wpAnyIn_done (by kernel_rfl) ?_ _
              gi_wp2
              exact shr_leaf hgl hN rfl HK.out HALL.out H4.out Hx.out _
            exact AllReadyIn.nil
          exact AllReadyIn.nil
        exact AllReadyIn.nil
      refine AllReadyIn.cons rfl (fun K hK => ?_) ?_
      · go_simp
        refine hK _ _ ?_
        clear hK K
        refine wpAnyIn_ready (rs := [0, 6]) (by kernel_rfl) (by simp) ?_
        refine AllReadyIn.cons rfl (fun K hK => ?_) ?_
        · go_simp
          refine hK _ _ ?_
          clear hK K
          refine wpAnyIn_ready (rs := [6]) (by kernel_rfl) (by simp) ?_
          refine AllReadyIn.cons rfl (fun K hK => ?_) ?_
          · go_simp
            refine hK _ _ ?_
            clear hK K
            refine wpAnyIn_take (i := 7) (v := ?_) rfl rfl (by kernel_rfl) (by kernel_rfl) (by kernel_rfl) (fun _ _ _ h => h) ⟨Or.inl ⟨by rfl, ?_⟩, fun _ => rfl⟩ ?_
            rotate_left
            focus (intro w; go_simp; try with_reducible rfl)
            refine wpAnyIn_take (i := 8) (v := ?_) rfl rfl (by kernel_rfl) (by kernel_rfl) (by kernel_rfl) (fun _ _ _ h => h) ⟨Or.inl ⟨by rfl, ?_⟩, fun _ => rfl⟩ ?_
            rotate_left
            focus (intro w; go_simp; try with_reducible rfl)
            refine wpAnyIn_take (i := 9) (v := ?_) rfl rfl (by kernel_rfl) (by kernel_rfl) (by kernel_rfl) (fun _ _ _ h => h) ⟨Or.inl ⟨by rfl, ?_⟩, fun _ => rfl⟩ ?_
            rotate_left
            focus (intro w; go_simp; try with_reducible rfl)
            refine wpAnyIn_take (i := 10) (v := ?_) rfl rfl (by kernel_rfl) (by kernel_rfl) (by kernel_rfl) (fun _ _ _ h => h) ⟨Or.inl ⟨by rfl, ?_⟩, fun _ => rfl⟩ ?_
            rotate_left
            focus (intro w; go_simp; try with_reducible rfl)
            refine wpAnyIn_ready (rs := [11]) (by kernel_rfl) (by simp) ?_
            refine AllReadyIn.cons rfl (fun K hK => ?_) ?_
            · go_simp
              refine hK _ _ ?_
              clear hK K
              refine wpAnyIn_done (by kernel_rfl) ?_ _
              gi_wp2
              exact shr_leaf hgl hN rfl HK.out HALL.out H4.out Hx.out _
            exact AllReadyIn.nil
          exact AllReadyIn.nil
        refine AllReadyIn.cons rfl (fun K hK => ?_) ?_
        · go_simp
          refine hK _ _ ?_
          clear hK K
          refine wpAnyIn_take (i := 7) (v := ?_) rfl rfl (by kernel_rfl) (by kernel_rfl) (by kernel_rfl) (fun _ _ _ h => h) ⟨Or.inl ⟨by rfl, ?_⟩, fun _ => rfl⟩ ?_
          rotate_left
          focus (intro w; go_simp; try with_reducible rfl)
          refine wpAnyIn_take (i := 8) (v := ?_) rfl rfl (by kernel_rfl) (by kernel_rfl) (by kernel_rfl) (fun _ _ _ h => h) ⟨Or.inl ⟨by rfl, ?_⟩, fun _ => rfl⟩ ?_
          rotate_left
          focus (intro w; go_simp; try with_reducible rfl)
          refine wpAnyIn_take (i := 9) (v := ?_) rfl rfl (by kernel_rfl) (by kernel_rfl) (by kernel_rfl) (fun _ _ _ h => h) ⟨Or.inl ⟨by rfl, ?_⟩, fun _ => rfl⟩ ?_
          rotate_left
          focus (intro w; go_simp; try with_reducible rfl)
          refine wpAnyIn_ready (rs := [0]) (by kernel_rfl) (by simp) ?_
          refine AllReadyIn.cons rfl (fun K hK => ?_) ?_
          · go_simp
            refine hK _ _ ?_
            clear hK K
            refine wpAnyIn_take (i := 10) (v := ?_) rfl rfl (by kernel_rfl) (by kernel_rfl) (by kernel_rfl) (fun _ _ _ h => h) ⟨Or.inl ⟨by rfl, ?_⟩, fun _ => rfl⟩ ?_
            rotate_left
            focus (intro w; go_simp; try with_reducible rfl)
            refine wpAnyIn_ready (rs := [11]) (by kernel_rfl) (by simp) ?_
            refine AllReadyIn.cons rfl (fun K hK => ?_) ?_
            · go_simp
              refine hK _ _ ?_
              clear hK K
              refine wpAnyIn_done (by kernel_rfl) ?_ _
              gi_wp2
              exact shr_leaf hgl hN rfl HK.out HALL.out H4.out Hx.out _
            exact AllReadyIn.nil
          exact AllReadyIn.nil
        exact AllReadyIn.nil
      refine AllReadyIn.cons rfl (fun K hK => ?_) ?_
      · go_simp
        refine hK _ _ ?_
        clear hK K
        refine wpAnyIn_take (i := 7) (v := ?_) rfl rfl (by kernel_rfl) (by kernel_rfl) (by kernel_rfl) (fun _ _ _ h => h) ⟨Or.inl ⟨by rfl, ?_⟩, fun _ => rfl⟩ ?_
        rotate_left
        focus (intro w; go_simp; try with_reducible rfl)
        refine wpAnyIn_ready (rs := [0, 5]) (by kernel_rfl) (by simp) ?_
        refine AllReadyIn.cons rfl (fun K hK => ?_) ?_
        · go_simp
          refine hK _ _ ?_
          clear hK K
          refine wpAnyIn_ready (rs := [5]) (by kernel_rfl) (by simp) ?_
          refine AllReadyIn.cons rfl (fun K hK => ?_) ?_
          · go_simp
            refine hK _ _ ?_
            clear hK K
            refine wpAnyIn_take (i := 8) (v := ?_) rfl rfl (by kernel_rfl) (by kernel_rfl) (by kernel_rfl) (fun _ _ _ h => h) ⟨Or.inl ⟨by rfl, ?_⟩, fun _ => rfl⟩ ?_
            rotate_left
            focus (intro w; go_simp; try with_reducible rfl)
            refine wpAnyIn_take (i := 9) (v := ?_) rfl rfl (by kernel_rfl) (by kernel_rfl) (by kernel_rfl) (fun _ _ _ h => h) ⟨Or.inl ⟨by rfl, ?_⟩, fun _ => rfl⟩ ?_
            rotate_left
            focus (intro w; go_simp; try with_reducible rfl)
            refine wpAnyIn_take (i := 10) (v := ?_) rfl rfl (by kernel_rfl) (by kernel_rfl) (by kernel_rfl) (fun _ _ _ h => h) ⟨Or.inl ⟨by rfl, ?_⟩, fun _ => rfl⟩ ?_
            rotate_left
            focus (intro w; go_simp; try with_reducible rfl)
            refine wpAnyIn_ready (rs := [11]) (by kernel_rfl) (by simp) ?_
            refine AllReadyIn.cons rfl (fun K hK => ?_) ?_
            · go_simp
              refine hK _ _ ?_
              clear hK K
              refine wpAnyIn_done (by kernel_rfl) ?_ _
              gi_wp2
              exact shr_leaf hgl hN rfl HK.out HALL.out H4.out Hx.out _
            exact AllReadyIn.nil
          exact AllReadyIn.nil
        refine AllReadyIn.cons rfl (fun K hK => ?_) ?_
        · go_simp
          refine hK _ _ ?_
          clear hK K
          refine wpAnyIn_take (i := 8) (v := ?_) rfl rfl (by kernel_rfl) (by kernel_rfl) (by kernel_rfl) (fun _ _ _ h => h) ⟨Or.inl ⟨by rfl, ?_⟩, fun _ => rfl⟩ ?_
          rotate_left
          focus (intro w; go_simp; try with_reducible rfl)
          refine wpAnyIn_take (i := 9) (v := ?_) rfl rfl (by kernel_rfl) (by kernel_rfl) (by kernel_rfl) (fun _ _ _ h => h) ⟨Or.inl ⟨by rfl, ?_⟩, fun _ => rfl⟩ ?_
          rotate_left
          focus (intro w; go_simp; try with_reducible rfl)
          refine wpAnyIn_ready (rs := [0]) (by kernel_rfl) (by simp) ?_
          refine AllReadyIn.cons rfl (fun K hK => ?_) ?_
          · go_simp
            refine hK _ _ ?_
            clear hK K
            refine wpAnyIn_take (i := 10) (v := ?_) rfl rfl (by kernel_rfl) (by kernel_rfl) (by kernel_rfl) (fun _ _ _ h => h) ⟨Or.inl ⟨by rfl, ?_⟩, fun _ => rfl⟩ ?_
            rotate_left
            focus (intro w; go_simp; try with_reducible rfl)
            refine wpAnyIn_ready (rs := [11]) (by kernel_rfl) (by simp) ?_
            refine AllReadyIn.cons rfl (fun K hK => ?_) ?_
            · go_simp
              refine hK _ _ ?_
              clear hK K
              refine wpAnyIn_done (by kernel_rfl) ?_ _
              gi_wp2
              exact shr_leaf hgl hN rfl HK.out HALL.out H4.out Hx.out _
            exact AllReadyIn.nil
          exact AllReadyIn.nil
        exact AllReadyIn.nil
      exact AllReadyIn.nil
    refine AllReadyIn.cons rfl (fun K hK => ?_) ?_
    · go_simp
      refine hK _ _ ?_
      clear hK K
      refine wpAnyIn_ready (rs := [0, 3, 6]) (by kernel_rfl) (by simp) ?_
      refine AllReadyIn.cons rfl (fun K hK => ?_) ?_
      · go_simp
        refine hK _ _ ?_
        clear hK K
        refine wpAnyIn_ready (rs := [3, 6]) (by kernel_rfl) (by simp) ?_
        refine AllReadyIn.cons rfl (fun K hK => ?_) ?_
        · go_simp
          refine hK _ _ ?_
          clear hK K
          refine wpAnyIn_take (i := 4) (v := ?_) rfl rfl (by kernel_rfl) (by kernel_rfl) (by kernel_rfl) (fun _ _ _ h => h) ⟨Or.inl ⟨by rfl, ?_⟩, fun _ => rfl⟩ ?_
          rotate_left
          focus (intro w; go_simp; try with_reducible rfl)
          refine wpAnyIn_ready (rs := [6]) (by kernel_rfl) (by simp) ?_
          refine AllReadyIn.cons rfl (fun K hK => ?_) ?_
          · go_simp
            refine hK _ _ ?_
            clear hK K
            refine wpAnyIn_take (i := 7) (v := ?_) rfl rfl (by kernel_rfl) (by kernel_rfl) (by kernel_rfl) (fun _ _ _ h => h) ⟨Or.inl ⟨by rfl, ?_⟩, fun _ => rfl⟩ ?_
            rotate_left
            focus (intro w; go_simp; try with_reducible rfl)
            refine wpAnyIn_take (i := 8) (v := ?_) rfl rfl (by kernel_rfl) (by kernel_rfl) (by kernel_rfl) (fun _ _ _ h => h) ⟨Or.inl ⟨by rfl, ?_⟩, fun _ => rfl⟩ ?_
            rotate_left
            focus (intro w; go_simp; try with_reducible rfl)
            refine wpAnyIn_take (i := 9) (v := ?_) rfl rfl (by kernel_rfl) (by kernel_rfl) (by kernel_rfl) (fun _ _ _ h => h) ⟨Or.inl ⟨by rfl, ?_⟩, fun _ => rfl⟩ ?_
            rotate_left
            focus (intro w; go_simp; try with_reducible rfl)
            refine wpAnyIn_take (i := 10) (v := ?_) rfl rfl (by kernel_rfl) (by kernel_rfl) (by kernel_rfl) (fun _ _ _ h => h) ⟨Or.inl ⟨by rfl, ?_⟩, fun _ => rfl⟩ ?_
            rotate_left
            focus (intro w; go_simp; try with_reducible rfl)
            refine wpAnyIn_ready (rs := [11]) (by kernel_rfl) (by simp) ?_
            refine AllReadyIn.cons rfl (fun K hK => ?_) ?_
            · go_simp
              refine hK _ _ ?_
              clear hK K
              refine wpAnyIn_done (by kernel_rfl) ?_ _
              gi_wp2
              exact shr_leaf hgl hN rfl HK.out HALL.out H4.out Hx.out _
            exact AllReadyIn.nil
          exact AllReadyIn.nil
        refine AllReadyIn.cons rfl (fun K hK => ?_) ?_
        · go_simp
          refine hK _ _ ?_
          clear hK K
          refine wpAnyIn_take (i := 7) (v := ?_) rfl rfl (by kernel_rfl) (by kernel_rfl) (by kernel_rfl) (fun _ _ _ h => h) ⟨Or.inl ⟨by rfl, ?_⟩, fun _ => rfl⟩ ?_
          rotate_left
          focus (intro w; go_simp; try with_reducible rfl)
          refine wpAnyIn_take (i := 8) (v := ?_) rfl rfl (by kernel_rfl) (by kernel_rfl) (by kernel_rfl) (fun _ _ _ h => h) ⟨Or.inl ⟨by rfl, ?_⟩, fun _ => rfl⟩ ?_
          rotate_left
          focus (intro w; go_simp; try with_reducible rfl)
          refine wpAnyIn_ready (rs := [3]) (by kernel_rfl) (by simp) ?_
          refine AllReadyIn.cons rfl (fun K hK => ?_) ?_
          · go_simp
            refine hK _ _ ?_
            clear hK K
            refine wpAnyIn_take (i := 4) (v := ?_) rfl rfl (by kernel_rfl) (by kernel_rfl) (by kernel_rfl) (fun _ _ _ h => h) ⟨Or.inl ⟨by rfl, ?_⟩, fun _ => rfl⟩ ?_
            rotate_left
            focus (intro w; go_simp; try with_reducible rfl)
            refine wpAnyIn_take (i := 9) (v := ?_) rfl rfl (by kernel_rfl) (by kernel_rfl) (by kernel_rfl) (fun _ _ _ h => h) ⟨Or.inl ⟨by rfl, ?_⟩, fun _ => rfl⟩ ?_
            rotate_left
            focus (intro w; go_simp; try with_reducible rfl)
            refine wpAnyIn_take (i := 10) (v := ?_) rfl rfl (by kernel_rfl) (by kernel_rfl) (by kernel_rfl) (fun _ _ _ h => h) ⟨Or.inl ⟨by rfl, ?_⟩, fun _ => rfl⟩ ?_
            rotate_left
            focus (intro w; go_simp; try with_reducible rfl)
            refine wpAnyIn_ready (rs := [11]) (by kernel_rfl) (by simp) ?_
            refine AllReadyIn.cons rfl (fun K hK => ?_) ?_
            · go_simp
              refine hK _ _ ?_
              clear hK K
              refine wpAnyIn_done (by kernel_rfl) ?_ _
              gi_wp2
              exact shr_leaf hgl hN rfl HK.out HALL.out H4.out Hx.out _
            exact AllReadyIn.nil
          exact AllReadyIn.nil
        exact AllReadyIn.nil
      refine AllReadyIn.cons rfl (fun K hK => ?_) ?_
      · go_simp
        refine hK _ _ ?_
        clear hK K
        refine wpAnyIn_take (i := 4) (v := ?_) rfl rfl (by kernel_rfl) (by kernel_rfl) (by kernel_rfl) (fun _ _ _ h => h) ⟨Or.inl ⟨by rfl, ?_⟩, fun _ => rfl⟩ ?_
        rotate_left
        focus (intro w; go_simp; try with_reducible rfl)
        refine wpAnyIn_ready (rs := [0, 6]) (by kernel_rfl) (by simp) ?_
        refine AllReadyIn.cons rfl (fun K hK => ?_) ?_
        · go_simp
          refine hK _ _ ?_
          clear hK K
          refine wpAnyIn_ready (rs := [6]) (by kernel_rfl) (by simp) ?_
          refine AllReadyIn.cons rfl (fun K hK => ?_) ?_
          · go_simp
            refine hK _ _ ?_
            clear hK K
            refine wpAnyIn_take (i := 7) (v := ?_) rfl rfl (by kernel_rfl) (by kernel_rfl) (by kernel_rfl) (fun _ _ _ h => h) ⟨Or.inl ⟨by rfl, ?_⟩, fun _ => rfl⟩ ?_
            rotate_left
            focus (intro w; go_simp; try with_reducible rfl)
            refine wpAnyIn_take (i := 8) (v := ?_) rfl rfl (by kernel_rfl) (by kernel_rfl) (by kernel_rfl) (fun _ _ _ h => h) ⟨Or.inl ⟨by rfl, ?_⟩, fun _ => rfl⟩ ?_
            rotate_left
            focus (intro w; go_simp; try with_reducible rfl)
            refine wpAnyIn_take (i := 9) (v := ?_) rfl rfl (by kernel_rfl) (by kernel_rfl) (by kernel_rfl) (fun _ _ _ h => h) ⟨Or.inl ⟨by rfl, ?_⟩, fun _ => rfl⟩ ?_
            rotate_left
            focus (intro w; go_simp; try with_reducible rfl)
            refine wpAnyIn_take (i := 10) (v := ?_) rfl rfl (by kernel_rfl) (by kernel_rfl) (by kernel_rfl) (fun _ _ _ h => h) ⟨Or.inl ⟨by rfl, ?_⟩, fun _ => rfl⟩ ?_
            rotate_left
            focus (intro w; go_simp; try with_reducible rfl)
            refine wpAnyIn_ready (rs := [11]) (by kernel_rfl) (by simp) ?_
            refine AllReadyIn.cons rfl (fun K hK => ?_) ?_
            · go_simp
              refine hK _ _ ?_
              clear hK K
              refine wpAnyIn_done (by kernel_rfl) ?_ _
              gi_wp2
              exact shr_leaf hgl hN rfl HK.out HALL.out H4.out Hx.out _
            exact AllReadyIn.nil
          exact AllReadyIn.nil
        refine AllReadyIn.cons rfl (fun K hK => ?_) ?_
        · go_simp
          refine hK _ _ ?_
          clear hK K
          refine wpAnyIn_take (i := 7) (v := ?_) rfl rfl (by kernel_rfl) (by kernel_rfl) (by kernel_rfl) (fun _ _ _ h => h) ⟨Or.inl ⟨by rfl, ?_⟩, fun _ => rfl⟩ ?_
          rotate_left
          focus (intro w; go_simp; try with_reducible rfl)
          refine wpAnyIn_take (i := 8) (v := ?_) rfl rfl (by kernel_rfl) (by kernel_rfl) (by kernel_rfl) (fun _ _ _ h => h) ⟨Or.inl ⟨by rfl, ?_⟩, fun _ => rfl⟩ ?_
          rotate_left
          focus (intro w; go_simp; try with_reducible rfl)
          refine wpAnyIn_take (i := 9) (v := ?_) rfl rfl (by kernel_rfl) (by kernel_rfl) (by kernel_rfl) (fun _ _ _ h => h) ⟨Or.inl ⟨by rfl, ?_⟩, fun _ => rfl⟩ ?_
          rotate_left
          focus (intro w; go_simp; try with_reducible rfl)
          refine wpAnyIn_ready (rs := [0]) (by kernel_rfl) (by simp) ?_
          refine AllReadyIn.cons rfl (fun K hK => ?_) ?_
          · go_simp
            refine hK _ _ ?_
            clear hK K
            refine wpAnyIn_take (i := 10) (v := ?_) rfl rfl (by kernel_rfl) (by kernel_rfl) (by kernel_rfl) (fun _ _ _ h => h) ⟨Or.inl ⟨by rfl, ?_⟩, fun _ => rfl⟩ ?_
            rotate_left
            focus (intro w; go_simp; try with_reducible rfl)
            refine wpAnyIn_ready (rs := [11]) (by kernel_rfl) (by simp) ?_
            refine AllReadyIn.cons rfl (fun K hK => ?_) ?_
            · go_simp
              refine hK _ _ ?_
              clear hK K
              refine wpAnyIn_done (by kernel_rfl) ?_ _
              gi_wp2
              exact shr_leaf hgl hN rfl HK.out HALL.out H4.out Hx.out _
            exact AllReadyIn.nil
          exact AllReadyIn.nil
        exact AllReadyIn.nil
      refine AllReadyIn.cons rfl (fun K hK => ?_) ?_
      · go_simp
        refine hK _ _ ?_
        clear hK K
        refine wpAnyIn_take (i := 7) (v := ?_) rfl rfl (by kernel_rfl) (by kernel_rfl) (by kernel_rfl) (fun _ _ _ h => h) ⟨Or.inl ⟨by rfl, ?_⟩, fun _ => rfl⟩ ?_
        rotate_left
        focus (intro w; go_simp; try with_reducible rfl)
        refine wpAnyIn_take (i := 8) (v := ?_) rfl rfl (by kernel_rfl) (by kernel_rfl) (by kernel_rfl) (fun _ _ _ h => h) ⟨Or.inl ⟨by rfl, ?_⟩, fun _ => rfl⟩ ?_
        rotate_left
        focus (intro w; go_simp; try with_reducible rfl)
        refine wpAnyIn_ready (rs := [0, 3]) (by kernel_rfl) (by simp) ?_
        refine AllReadyIn.cons rfl (fun K hK => ?_) ?_
        · go_simp
          refine hK _ _ ?_
          clear hK K
          refine wpAnyIn_ready (rs := [3]) (by kernel_rfl) (by simp) ?_
          refine AllReadyIn.cons rfl (fun K hK => ?_) ?_
          · go_simp
            refine hK _ _ ?_
            clear hK K
            refine wpAnyIn_take (i := 4) (v := ?_) rfl rfl (by kernel_rfl) (by kernel_rfl) (by kernel_rfl) (fun _ _ _ h => h) ⟨Or.inl ⟨by rfl, ?_⟩, fun _ => rfl⟩ ?_
            rotate_left
            focus (intro w; go_simp; try with_reducible rfl)
            refine wpAnyIn_take (i := 9) (v := ?_) rfl rfl (by kernel_rfl) (by kernel_rfl) (by kernel_rfl) (fun _ _ _ h => h) ⟨Or.inl ⟨by rfl, ?_⟩, fun _ => rfl⟩ ?_
            rotate_left
            focus (intro w; go_simp; try with_reducible rfl)
            refine wpAnyIn_take (i := 10) (v := ?_) rfl rfl (by kernel_rfl) (by kernel_rfl) (by kernel_rfl) (fun _ _ _ h => h) ⟨Or.inl ⟨by rfl, ?_⟩, fun _ => rfl⟩ ?_
            rotate_left
            focus (intro w; go_simp; try with_reducible rfl)
            refine wpAnyIn_ready (rs := [11]) (by kernel_rfl) (by simp) ?_
            refine AllReadyIn.cons rfl (fun K hK => ?_) ?_
            · go_simp
              refine hK _ _ ?_
              clear hK K
              refine wpAnyIn_done (by kernel_rfl) ?_ _
              gi_wp2
              exact shr_leaf hgl hN rfl HK.out HALL.out H4.out Hx.out _
            exact AllReadyIn.nil
          exact AllReadyIn.nil
        refine AllReadyIn.cons rfl (fun K hK => ?_) ?_
        · go_simp
          refine hK _ _ ?_
          clear hK K
          refine wpAnyIn_take (i := 4) (v := ?_) rfl rfl (by kernel_rfl) (by kernel_rfl) (by kernel_rfl) (fun _ _ _ h => h) ⟨Or.inl ⟨by rfl, ?_⟩, fun _ => rfl⟩ ?_
          rotate_left
          focus (intro w; go_simp; try with_reducible rfl)
          refine wpAnyIn_take (i := 9) (v := ?_) rfl rfl (by kernel_rfl) (by kernel_rfl) (by kernel_rfl) (fun _ _ _ h => h) ⟨Or.inl ⟨by rfl, ?_⟩, fun _ => rfl⟩ ?_
          rotate_left
          focus (intro w; go_simp; try with_reducible rfl)
          refine wpAnyIn_ready (rs := [0]) (by kernel_rfl) (by simp) ?_
          refine AllReadyIn.cons rfl (fun K hK => ?_) ?_
          · go_simp
            refine hK _ _ ?_
            clear hK K
            refine wpAnyIn_take (i := 10) (v := ?_) rfl rfl (by kernel_rfl) (by kernel_rfl) (by kernel_rfl) (fun _ _ _ h => h) ⟨Or.inl ⟨by rfl, ?_⟩, fun _ => rfl⟩ ?_
            rotate_left
            focus (intro w; go_simp; try with_reducible rfl)
            refine wpAnyIn_ready (rs := [11]) (by kernel_rfl) (by simp) ?_
            refine AllReadyIn.cons rfl (fun K hK => ?_) ?_
            · go_simp
              refine hK _ _ ?_
              clear hK K
              refine wpAnyIn_done (by kernel_rfl) ?_ _
              gi_wp2
              exact shr_leaf hgl hN rfl HK.out HALL.out H4.out Hx.out _
            exact AllReadyIn.nil
          exact AllReadyIn.nil
        exact AllReadyIn.nil
      exact AllReadyIn.nil
    refine AllReadyIn.cons rfl (fun K hK => ?_) ?_
    · go_simp
      refine hK _ _ ?_
      clear hK K
      refine wpAnyIn_take (i := 7) (v := ?_) rfl rfl (by kernel_rfl) (by kernel_rfl) (by kernel_rfl) (fun _ _ _ h => h) ⟨Or.inl ⟨by rfl, ?_⟩, fun _ => rfl⟩ ?_
      rotate_left
      focus (intro w; go_simp; try with_reducible rfl)
      refine wpAnyIn_ready (rs := [0, 3, 5]) (by kernel_rfl) (by simp) ?_
      refine AllReadyIn.cons rfl (fun K hK => ?_) ?_
      · go_simp
        refine hK _ _ ?_
        clear hK K
        refine wpAnyIn_ready (rs := [3, 5]) (by kernel_rfl) (by simp) ?_
        refine AllReadyIn.cons rfl (fun K hK => ?_) ?_
        · go_simp
          refine hK _ _ ?_
          clear hK K
          refine wpAnyIn_take (i := 4) (v := ?_) rfl rfl (by kernel_rfl) (by kernel_rfl) (by kernel_rfl) (fun _ _ _ h => h) ⟨Or.inl ⟨by rfl, ?_⟩, fun _ => rfl⟩ ?_
          rotate_left
          focus (intro w; go_simp; try with_reducible rfl)
          refine wpAnyIn_ready (rs := [5]) (by kernel_rfl) (by simp) ?_
          refine AllReadyIn.cons rfl (fun K hK => ?_) ?_
          · go_simp
            refine hK _ _ ?_
            clear hK K
            refine wpAnyIn_take (i := 8) (v := ?_) rfl rfl (by kernel_rfl) (by kernel_rfl) (by kernel_rfl) (fun _ _ _ h => h) ⟨Or.inl ⟨by rfl, ?_⟩, fun _ => rfl⟩ ?_
            rotate_left
            focus (intro w; go_simp; try with_reducible rfl)
            refine wpAnyIn_take (i := 9) (v := ?_) rfl rfl (by kernel_rfl) (by kernel_rfl) (by kernel_rfl) (fun _ _ _ h => h) ⟨Or.inl ⟨by rfl, ?_⟩, fun _ => rfl⟩ ?_
            rotate_left
            focus (intro w; go_simp; try with_reducible rfl)
            refine wpAnyIn_take (i := 10) (v := ?_) rfl rfl (by kernel_rfl) (by kernel_rfl) (by kernel_rfl) (fun _ _ _ h => h) ⟨Or.inl ⟨by rfl, ?_⟩, fun _ => rfl⟩ ?_
            rotate_left
            focus (intro w; go_simp; try with_reducible rfl)
            refine wpAnyIn_ready (rs := [11]) (by kernel_rfl) (by simp) ?_
            refine AllReadyIn.cons rfl (fun K hK => ?_) ?_
            · go_simp
              refine hK _ _ ?_
              clear hK K
              refine wpAnyIn_done (by kernel_rfl) ?_ _
              gi_wp2
              exact shr_leaf hgl hN rfl HK.out HALL.out H4.out Hx.out _
            exact AllReadyIn.nil
          exact AllReadyIn.nil
        refine AllReadyIn.cons rfl (fun K hK => ?_) ?_
        · go_simp
          refine hK _ _ ?_
          clear hK K
          refine wpAnyIn_take (i := 8) (v := ?_) rfl rfl (by kernel_rfl) (by kernel_rfl) (by kernel_rfl) (fun _ _ _ h => h) ⟨Or.inl ⟨by rfl, ?_⟩, fun _ => rfl⟩ ?_
          rotate_left
          focus (intro w; go_simp; try with_reducible rfl)
          refine wpAnyIn_ready (rs := [3]) (by kernel_rfl) (by simp) ?_
          refine AllReadyIn.cons rfl (fun K hK => ?_) ?_
          · go_simp
            refine hK _ _ ?_
            clear hK K
            refine wpAnyIn_take (i := 4) (v := ?_) rfl rfl (by kernel_rfl) (by kernel_rfl) (by kernel_rfl) (fun _ _ _ h => h) ⟨Or.inl ⟨by rfl, ?_⟩, fun _ => rfl⟩ ?_
            rotate_left
            focus (intro w; go_simp; try with_reducible rfl)
            refine wpAnyIn_take (i := 9) (v := ?_) rfl rfl (by kernel_rfl) (by kernel_rfl) (by kernel_rfl) (fun _ _ _ h => h) ⟨Or.inl ⟨by rfl, ?_⟩, fun _ => rfl⟩ ?_
            rotate_left
            focus (intro w; go_simp; try with_reducible rfl)
            refine wpAnyIn_take (i := 10) (v := ?_) rfl rfl (by kernel_rfl) (by kernel_rfl) (by kernel_rfl) (fun _ _ _ h => h) ⟨Or.inl ⟨by rfl, ?_⟩, fun _ => rfl⟩ ?_
            rotate_left
            focus (intro w; go_simp; try with_reducible rfl)
            refine wpAnyIn_ready (rs := [11]) (by kernel_rfl) (by simp) ?_
            refine AllReadyIn.cons rfl (fun K hK => ?_) ?_
            · go_simp
              refine hK _ _ ?_
              clear hK K
              refine wpAnyIn_done (by kernel_rfl) ?_ _
              gi_wp2
              exact shr_leaf hgl hN rfl HK.out HALL.out H4.out Hx.out _
            exact AllReadyIn.nil
          exact AllReadyIn.nil
        exact AllReadyIn.nil
      refine AllReadyIn.cons rfl (fun K hK => ?_) ?_
      · go_simp
        refine hK _ _ ?_
        clear hK K
        refine wpAnyIn_take (i := 4) (v := ?_) rfl rfl (by kernel_rfl) (by kernel_rfl) (by kernel_rfl) (fun _ _ _ h => h) ⟨Or.inl ⟨by rfl, ?_⟩, fun _ => rfl⟩ ?_
        rotate_left
        focus (intro w; go_simp; try with_reducible rfl)
        refine wpAnyIn_ready (rs := [0, 5]) (by kernel_rfl) (by simp) ?_
        refine AllReadyIn.cons rfl (fun K hK => ?_) ?_
        · go_simp
          refine hK _ _ ?_
          clear hK K
          refine wpAnyIn_ready (rs := [5]) (by kernel_rfl) (by simp) ?_
          refine AllReadyIn.cons rfl (fun K hK => ?_) ?_
          · go_simp
            refine hK _ _ ?_
            clear hK K
            refine wpAnyIn_take (i := 8) (v := ?_) rfl rfl (by kernel_rfl) (by kernel_rfl) (by kernel_rfl) (fun _ _ _ h => h) ⟨Or.inl ⟨by rfl, ?_⟩, fun _ => rfl⟩ ?_
            rotate_left
            focus (intro w; go_simp; try with_reducible rfl)
            refine wpAnyIn_take (i := 9) (v := ?_) rfl rfl (by kernel_rfl) (by kernel_rfl) (by kernel_rfl) (fun _ _ _ h => h) ⟨Or.inl ⟨by rfl, ?_⟩, fun _ => rfl⟩ ?_
            rotate_left
            focus (intro w; go_simp; try with_reducible rfl)
            refine wpAnyIn_take (i := 10) (v := ?_) rfl rfl (by kernel_rfl) (by kernel_rfl) (by kernel_rfl) (fun _ _ _ h => h) ⟨Or.inl ⟨by rfl, ?_⟩, fun _ => rfl⟩ ?_
            rotate_left
            focus (intro w; go_simp; try with_reducible rfl)
            refine wpAnyIn_ready (rs := [11]) (by kernel_rfl) (by simp) ?_
            refine AllReadyIn.cons rfl (fun K hK => ?_) ?_
            · go_simp
              refine hK _ _ ?_
              clear hK K
              refine wpAnyIn_done (by kernel_rfl) ?_ _
              gi_wp2
              exact shr_leaf hgl hN rfl HK.out HALL.out H4.out Hx.out _
            exact AllReadyIn.nil
          exact AllReadyIn.nil
        refine AllReadyIn.cons rfl (fun K hK => ?_) ?_
        · go_simp
          refine hK _ _ ?_
          clear hK K
          refine wpAnyIn_take (i := 8) (v := ?_) rfl rfl (by kernel_rfl) (by kernel_rfl) (by kernel_rfl) (fun _ _ _ h => h) ⟨Or.inl ⟨by rfl, ?_⟩, fun _ => rfl⟩ ?_
          rotate_left
          focus (intro w; go_simp; try with_reducible rfl)
          refine wpAnyIn_take (i := 9) (v := ?_) rfl rfl (by kernel_rfl) (by kernel_rfl) (by kernel_rfl) (fun _ _ _ h => h) ⟨Or.inl ⟨by rfl, ?_⟩, fun _ => rfl⟩ ?_
          rotate_left
          focus (intro w; go_simp; try with_reducible rfl)
          refine wpAnyIn_ready (rs := [0]) (by kernel_rfl) (by simp) ?_
          refine AllReadyIn.cons rfl (fun K hK => ?_) ?_
          · go_simp
            refine hK _ _ ?_
            clear hK K
            refine wpAnyIn_take (i := 10) (v := ?_) rfl rfl (by kernel_rfl) (by kernel_rfl) (by kernel_rfl) (fun _ _ _ h => h) ⟨Or.inl ⟨by rfl, ?_⟩, fun _ => rfl⟩ ?_
            rotate_left
            focus (intro w; go_simp; try with_reducible rfl)
            refine wpAnyIn_ready (rs := [11]) (by kernel_rfl) (by simp) ?_
            refine AllReadyIn.cons rfl (fun K hK => ?_) ?_
            · go_simp
              refine hK _ _ ?_
              clear hK K
              refine wpAnyIn_done (by kernel_rfl) ?_ _
              gi_wp2
              exact shr_leaf hgl hN rfl HK.out HALL.out H4.out Hx.out _
            exact AllReadyIn.nil
          exact AllReadyIn.nil
        exact AllReadyIn.nil
      refine AllReadyIn.cons rfl (fun K hK => ?_) ?_
      · go_simp
        refine hK _ _ ?_
        clear hK K
        refine wpAnyIn_take (i := 8) (v := ?_) rfl rfl (by kernel_rfl) (by kernel_rfl) (by kernel_rfl) (fun _ _ _ h => h) ⟨Or.inl ⟨by rfl, ?_⟩, fun _ => rfl⟩ ?_
        rotate_left
        focus (intro w; go_simp; try with_reducible rfl)
        refine wpAnyIn_ready (rs := [0, 3]) (by kernel_rfl) (by simp) ?_
        refine AllReadyIn.cons rfl (fun K hK => ?_) ?_
        · go_simp
          refine hK _ _ ?_
          clear hK K
          refine wpAnyIn_ready (rs := [3]) (by kernel_rfl) (by simp) ?_
          refine AllReadyIn.cons rfl (fun K hK => ?_) ?_
          · go_simp
            refine hK _ _ ?_
            clear hK K
            refine wpAnyIn_take (i := 4) (v := ?_) rfl rfl (by kernel_rfl) (by kernel_rfl) (by kernel_rfl) (fun _ _ _ h => h) ⟨Or.inl ⟨by rfl, ?_⟩, fun _ => rfl⟩ ?_
            rotate_left
            focus (intro w; go_simp; try with_reducible rfl)
            refine wpAnyIn_take (i := 9) (v := ?_) rfl rfl (by kernel_rfl) (by kernel_rfl) (by kernel_rfl) (fun _ _ _ h => h) ⟨Or.inl ⟨by rfl, ?_⟩, fun _ => rfl⟩ ?_
            rotate_left
            focus (intro w; go_simp; try with_reducible rfl)
            refine wpAnyIn_take (i := 10) (v := ?_) rfl rfl (by kernel_rfl) (by kernel_rfl) (by kernel_rfl) (fun _ _ _ h => h) ⟨Or.inl ⟨by rfl, ?_⟩, fun _ => rfl⟩ ?_
            rotate_left
            focus (intro w; go_simp; try with_reducible rfl)
            refine wpAnyIn_ready (rs := [11]) (by kernel_rfl) (by simp) ?_
            refine AllReadyIn.cons rfl (fun K hK => ?_) ?_
            · go_simp
              refine hK _ _ ?_
              clear hK K
              refine wpAnyIn_done (by kernel_rfl) ?_ _
              gi_wp2
              exact shr_leaf hgl hN rfl HK.out HALL.out H4.out Hx.out _
            exact AllReadyIn.nil
          exact AllReadyIn.nil
        refine AllReadyIn.cons rfl (fun K hK => ?_) ?_
        · go_simp
          refine hK _ _ ?_
          clear hK K
          refine wpAnyIn_take (i := 4) (v := ?_) rfl rfl (by kernel_rfl) (by kernel_rfl) (by kernel_rfl) (fun _ _ _ h => h) ⟨Or.inl ⟨by rfl, ?_⟩, fun _ => rfl⟩ ?_
          rotate_left
          focus (intro w; go_simp; try with_reducible rfl)
          refine wpAnyIn_take (i := 9) (v := ?_) rfl rfl (by kernel_rfl) (by kernel_rfl) (by kernel_rfl) (fun _ _ _ h => h) ⟨Or.inl ⟨by rfl, ?_⟩, fun _ => rfl⟩ ?_
          rotate_left
          focus (intro w; go_simp; try with_reducible rfl)
          refine wpAnyIn_ready (rs := [0]) (by kernel_rfl) (by simp) ?_
          refine AllReadyIn.cons rfl (fun K hK => ?_) ?_
          · go_simp
            refine hK _ _ ?_
            clear hK K
            refine wpAnyIn_take (i := 10) (v := ?_) rfl rfl (by kernel_rfl) (by kernel_rfl) (by kernel_rfl) (fun _ _ _ h => h) ⟨Or.inl ⟨by rfl, ?_⟩, fun _ => rfl⟩ ?_
            rotate_left
            focus (intro w; go_simp; try with_reducible rfl)
            refine wpAnyIn_ready (rs := [11]) (by kernel_rfl) (by simp) ?_
            refine AllReadyIn.cons rfl (fun K hK => ?_) ?_
            · go_simp
              refine hK _ _ ?_
              clear hK K
              refine wpAnyIn_done (by kernel_rfl) ?_ _
              gi_wp2
              exact shr_leaf hgl hN rfl HK.out HALL.out H4.out Hx.out _
            exact AllReadyIn.nil
          exact AllReadyIn.nil
        exact AllReadyIn.nil
      exact AllReadyIn.nil
    exact AllReadyIn.nil
  case done =>
    rintro D xs W hD rfl hDI hK
    have hE := (shrI_own (w := w) (g := g) (N := N) (n := ds.length) (c := c) (A := A) (f := f) (ds := ds) (s := s) (B := w0.heap.size) (by omega)).putObj (.deferred none) hDI hD hK rfl
    have HE := Lib.hid hE
    clear hE hDI
    gi_wp2
    refine ⟨by simp, .inl ⟨_, _, rfl, run_takeDeferred hK, ?_⟩⟩
    refine ⟨_, results_none rfl _ _ _, ?_⟩
    obtain ⟨f', h1, h3, h4, h8, h9, h10, h11⟩ := HE.out
    rw [dn_len, Nat.sub_self] at h4
    exact ⟨_, f', rfl, h3, fun i => by rw [h4 i]; simp, h11⟩
  case stop =>
    rintro D c pre W _ _ h _
    exact h.elim
end Go.Proofs.YthfjbpbgnoonpaaGreatDoor

namespace Go.Proofs.YthfjbpbgnoonpaaGreatDoor

/-- At the head of the loop: k digits of the quotient are still to come. r: the digits of what is left; q: the digits of the quotient; V: the divisor; X: the dividend. -/
def LongV (b n L V X : Nat) (r q : Nat → Nat) (k : Nat) : Prop :=
  (∀ j, r j < b) ∧ (∀ j, q j < b) ∧ (∀ j, k + n ≤ j → r j = 0) ∧ val b (seg r k n) < V ∧ val b (seg r 0 (k + n)) + V * (b ^ k * val b (seg q k (L - k))) = X
theorem seg_shift (s : Nat → Nat) (k i n : Nat) : seg (fun j => s (k + j)) i n = seg s (k + i) n := by
  unfold seg
  exact List.map_congr_left fun j _ => by show s (k + (i + j)) = s (k + i + j); rw [Nat.add_assoc]
theorem seg_front (s : Nat → Nat) (off n : Nat) : seg s off (n + 1) = s off :: seg s (off + 1) n := by
  unfold seg
  rw [List.range_succ_eq_map, List.map_cons, List.map_map]
  rw [Nat.add_zero]
  refine congrArg _ (List.map_congr_left fun j _ => ?_)
  show s (off + (j + 1)) = s (off + 1 + j)
  rw [show off + (j + 1) = off + 1 + j by omega]
theorem val_cut {b : Nat} (s : Nat → Nat) (k n : Nat) : val b (seg s 0 (k + n)) = val b (seg s 0 k) + b ^ k * val b (seg s k n) := by
  rw [seg_append, val_append, seg_len]
/-- The loop begins: the top digits of the shifted dividend are less than the shifted divisor. -/
theorem long_init {b n L V X m S y : Nat} {r : Nat → Nat} (hb : 2 ≤ b) (hr : ∀ j, r j < b) (hz : ∀ j, m < j → r j = 0) (hm : m + 1 = L + n) (h1 : 1 ≤ n) (hX : val b (seg r 0 (m + 1)) = X) (hx : y < b ^ m) (hXs : X = y * S) (hV : b ^ (n - 1) * S ≤ V) (hS : 0 < S) : LongV b n L V X r (fun _ => 0) L := by
  refine ⟨hr, fun _ => by show 0 < b; omega, fun j hj => hz j (by omega), ?_, ?_⟩
  · refine Nat.lt_of_lt_of_le ?_ hV
    have e : val b (seg r 0 (L + n)) = y * S := by rw [← hm, hX, hXs]
    rw [val_cut] at e
    have h3 : y * S < b ^ m * S := Nat.mul_lt_mul_of_pos_right hx hS
    have h4 : b ^ m = b ^ L * b ^ (n - 1) := by rw [← Nat.pow_add]; congr 1; omega
    rw [h4, Nat.mul_assoc] at h3
    exact Nat.lt_of_mul_lt_mul_left (Nat.lt_of_le_of_lt (by omega) h3)
  · rw [Nat.sub_self, ← hm, hX]
    simp [seg, val]
theorem long_next {b n L V X k p q1 : Nat} {r q t : Nat → Nat} (_hb : 2 ≤ b) (hk : k < L) (hVb : V ≤ b ^ n) (h : LongV b n L V X r q (k + 1)) (ht : ∀ j, t j < b) (hq1 : q1 < b) (hp : p = val b (seg r k (n + 1))) (hD : val b (seg t 0 (n + 1)) + q1 * V = p ∧ val b (seg t 0 (n + 1)) < V) :
    LongV b n L V X (fun j => if k ≤ j ∧ j < k + (n + 1) then t (j - k) else r j) (fun j => if j = k then q1 else q j) k := by
  obtain ⟨hr, hq, hz, hlt, hX⟩ := h
  obtain ⟨hD1, hD2⟩ := hD
  have htn : t n = 0 := by
    rw [seg_succ, val_snoc, seg_len, Nat.zero_add] at hD2
    rcases Nat.eq_zero_or_pos (t n) with h | h
    · exact h
    · have : b ^ n * 1 ≤ b ^ n * t n := Nat.mul_le_mul_left _ h
      omega
  have e0 : val b (seg t 0 (n + 1)) = val b (seg t 0 n) := by rw [seg_succ, val_snoc, seg_len, Nat.zero_add, htn]; omega
  have e1 : seg (fun j => if k ≤ j ∧ j < k + (n + 1) then t (j - k) else r j) k n = seg t 0 n := by
    unfold seg
    refine List.map_congr_left fun j hj => ?_
    have hj := List.mem_range.1 hj
    show (if k ≤ k + j ∧ k + j < k + (n + 1) then t (k + j - k) else r (k + j)) = t (0 + j)
    rw [if_pos (by omega), show k + j - k = 0 + j by omega]
  have e2 : seg (fun j => if k ≤ j ∧ j < k + (n + 1) then t (j - k) else r j) 0 k = seg r 0 k := seg_same fun j hj => by
    show (if k ≤ 0 + j ∧ 0 + j < k + (n + 1) then t (0 + j - k) else r (0 + j)) = _
    rw [if_neg (by omega)]
  refine ⟨fun j => ?_, fun j => ?_, fun j hj => ?_, ?_, ?_⟩
  · show (if k ≤ j ∧ j < k + (n + 1) then t (j - k) else r j) < b
    split
    · exact ht _
    · exact hr j
  · show (if j = k then q1 else q j) < b
    split
    · exact hq1
    · exact hq j
  · show (if k ≤ j ∧ j < k + (n + 1) then t (j - k) else r j) = 0
    split
    · rw [show j - k = n by omega]; exact htn
    · exact hz j (by omega)
  · rw [e1, ← e0]; exact hD2
  · obtain ⟨d, hd⟩ : ∃ d, L - k = d + 1 := ⟨L - k - 1, by omega⟩
    have hd2 : L - (k + 1) = d := by omega
    rw [hd2] at hX
    rw [hd, val_cut, e1, e2, ← e0, seg_front (fun j => if j = k then q1 else q j), if_pos rfl]
    have e3 : seg (fun j => if j = k then q1 else q j) (k + 1) d = seg q (k + 1) d := by
      unfold seg
      refine List.map_congr_left fun j _ => ?_
      show (if k + 1 + j = k then q1 else q (k + 1 + j)) = _
      rw [if_neg (by omega)]
    rw [e3]
    show val b (seg r 0 k) + b ^ k * val b (seg t 0 (n + 1)) + V * (b ^ k * (q1 + b * val b (seg q (k + 1) d))) = X
    rw [show k + 1 + n = k + (n + 1) by omega, val_cut, ← hp, ← hD1] at hX
    rw [← hX, Nat.pow_succ]
    generalize val b (seg q (k + 1) d) = Y
    generalize val b (seg t 0 (n + 1)) = T
    generalize b ^ k = K
    rw [Nat.mul_add, Nat.mul_add, Nat.mul_add, ← Nat.mul_assoc K b Y]
    have : V * (K * q1) = K * (q1 * V) := by rw [Nat.mul_left_comm, Nat.mul_comm q1 V]
    omega
/-- The end: quotient and remainder of the shifted numbers, and of the numbers. -/
theorem long_end {b n L v V X x S : Nat} {r q : Nat → Nat} (h : LongV b n L V X r q 0) (hS : 0 < S) (hV : V = v * S) (hX : X = x * S) : val b (seg q 0 L) = x / v ∧ val b (seg r 0 n) / S = x % v ∧ val b (seg r 0 n) = (x % v) * S := by
  obtain ⟨-, -, -, hlt, he⟩ := h
  rw [Nat.zero_add, Nat.pow_zero, Nat.one_mul, Nat.sub_zero] at he
  subst hV hX
  have hv : 0 < v := by
    rcases Nat.eq_zero_or_pos v with rfl | h
    · omega
    · exact h
  have h0 : 0 < v * S := Nat.mul_pos hv hS
  have hq : val b (seg q 0 L) = x / v := by
    rw [← Nat.mul_div_mul_right x v hS, ← he, Nat.add_mul_div_left _ _ h0, Nat.div_eq_of_lt hlt, Nat.zero_add]
  have hr : val b (seg r 0 n) = (x % v) * S := by
    rw [← Nat.mul_mod_mul_right, ← he, Nat.add_mul_mod_self_left, Nat.mod_eq_of_lt hlt]
  refine ⟨hq, ?_, hr⟩
  rw [hr, Nat.mul_div_cancel _ hS]
/-- What shiftRight does to one digit, and to all of them. -/
theorem shr_digit {s d e : Nat} (hs : s ≤ 31) : shrD s d e * 2 ^ s + d % 2 ^ s = d + 4294967296 * (e % 2 ^ s) := by
  have hsp := pow_split (s := s) (by omega)
  have hsp2 : 2 ^ s * 2 ^ (32 - s) = 4294967296 := by rw [Nat.mul_comm]; exact hsp
  have hlo : e * 2 ^ (32 - s) % 4294967296 = (e % 2 ^ s) * 2 ^ (32 - s) := by
    rw [← hsp2, Nat.mul_mod_mul_right]
  unfold shrD
  rw [hlo, Nat.add_mul, Nat.mul_assoc, hsp]
  have := Nat.div_add_mod d (2 ^ s)
  rw [Nat.mul_comm] at this
  omega
theorem shr_val {s : Nat} (hs : s ≤ 31) (f : Nat → Nat) : ∀ n, val 4294967296 (seg (fun i => shrD s (f i) (f (i + 1))) 0 n) * 2 ^ s + f 0 % 2 ^ s = val 4294967296 (seg f 0 n) + 4294967296 ^ n * (f n % 2 ^ s)
  | 0 => by simp [seg, val]
  | n + 1 => by
    have h := shr_val hs f n
    have h2 := shr_digit (d := f n) (e := f (n + 1)) hs
    have h3 : 4294967296 ^ n * (shrD s (f n) (f (n + 1)) * 2 ^ s + f n % 2 ^ s) = 4294967296 ^ n * (f n + 4294967296 * (f (n + 1) % 2 ^ s)) := by rw [h2]
    rw [seg_succ, val_snoc, seg_len, Nat.zero_add, seg_succ, val_snoc, seg_len, Nat.zero_add, Nat.pow_succ, Nat.add_mul]
    rw [Nat.mul_add, Nat.mul_add, ← Nat.mul_assoc, ← Nat.mul_assoc] at h3
    generalize (4294967296 : Nat) ^ n = P at *
    omega
theorem shr_end {s n R : Nat} {f : Nat → Nat} (hs : s ≤ 31) (hn : f n = 0) (h : val 4294967296 (seg f 0 n) = R * 2 ^ s) : val 4294967296 (seg (fun i => shrD s (f i) (f (i + 1))) 0 n) = R := by
  have h1 := shr_val hs f n
  have hp : 0 < 2 ^ s := Nat.pow_pos (by omega)
  rw [hn, Nat.zero_mod, Nat.mul_zero, Nat.add_zero, h] at h1
  have h2 : f 0 % 2 ^ s < 2 ^ s := Nat.mod_lt _ hp
  generalize f 0 % 2 ^ s = c at *
  generalize 2 ^ s = S at *
  generalize val 4294967296 (seg (fun i => shrD s (f i) (f (i + 1))) 0 n) = T at *
  rcases Nat.lt_trichotomy T R with h3 | h3 | h3
  · have : (T + 1) * S ≤ R * S := Nat.mul_le_mul_right _ h3
    rw [Nat.add_mul] at this
    omega
  · exact h3
  · have : (R + 1) * S ≤ T * S := Nat.mul_le_mul_right _ h3
    rw [Nat.add_mul] at this
    omega
/-- The shift that sets the highest bit. -/
theorem log_shift {top : Nat} (h0 : 0 < top) (h1 : top < 4294967296) : Nat.log2 top ≤ 31 ∧ 2147483648 ≤ top * 2 ^ (31 - Nat.log2 top) ∧ (top + 1) * 2 ^ (31 - Nat.log2 top) ≤ 4294967296 := by
  have hl : 2 ^ Nat.log2 top ≤ top := Nat.log2_self_le (by omega)
  have hu : top < 2 ^ (Nat.log2 top + 1) := Nat.lt_log2_self
  obtain ⟨b, hb⟩ : ∃ b, Nat.log2 top = b := ⟨_, rfl⟩
  rw [hb] at hl hu ⊢
  have hb31 : b ≤ 31 := by
    rcases Nat.lt_or_ge 31 b with h | h
    · have h3 : (2 : Nat) ^ (31 + 1) ≤ 2 ^ b := Nat.pow_le_pow_right (by omega) h
      have e : (2 : Nat) ^ (31 + 1) = 4294967296 := by decide
      rw [e] at h3
      exact absurd (Nat.lt_of_le_of_lt (Nat.le_trans h3 hl) h1) (Nat.lt_irrefl _)
    · exact h
  have e1 : (2 : Nat) ^ b * 2 ^ (31 - b) = 2147483648 := by rw [← Nat.pow_add, show b + (31 - b) = 31 by omega]
  have e2 : (2 : Nat) ^ (b + 1) * 2 ^ (31 - b) = 4294967296 := by rw [← Nat.pow_add, show b + 1 + (31 - b) = 32 by omega]
  refine ⟨hb31, ?_, ?_⟩
  · rw [← e1]; exact Nat.mul_le_mul_right _ hl
  · rw [← e2]; exact Nat.mul_le_mul_right _ hu
theorem top_shift {top : Nat} (h0 : 0 < top) (h1 : top < 4294967296) : ∃ s : Nat, s ≤ 31 ∧ (32 - (Lib.bitLen ((top : Nat) : Int).toNat : Int)) = (s : Int) ∧ 2147483648 ≤ top * 2 ^ s ∧ (top + 1) * 2 ^ s ≤ 4294967296 := by
  obtain ⟨a, b, c⟩ := log_shift h0 h1
  refine ⟨31 - Nat.log2 top, by omega, ?_, b, c⟩
  rw [Int.toNat_natCast, bitLen_bl top top (Nat.le_refl _) (by omega)]
  unfold bl
  rw [if_neg (by omega)]
  omega
theorem long_div_at {B H P top v S d1 d0 low : Nat} (h : low + P * d0 + P * B * d1 = v * S) (hlow : low < P) (hlo : top * P ≤ v) (hhi : v < (top + 1) * P) (hS : 0 < S) (hS1 : H ≤ top * S) (hS2 : (top + 1) * S ≤ B) : d1 = 0 ∧ H ≤ d0 ∧ low + P * d0 = v * S := by
  have a1 : v * S < (top + 1) * P * S := Nat.mul_lt_mul_of_pos_right hhi hS
  have a2 : top * P * S ≤ v * S := Nat.mul_le_mul_right _ hlo
  have a3 : P * ((top + 1) * S) ≤ P * B := Nat.mul_le_mul_left _ hS2
  have a4 : P * H ≤ P * (top * S) := Nat.mul_le_mul_left _ hS1
  rw [Nat.mul_comm _ P, Nat.mul_assoc] at a1 a2
  have hd1 : d1 = 0 := by
    rcases Nat.eq_zero_or_pos d1 with h1 | h1
    · exact h1
    · have : P * B * 1 ≤ P * B * d1 := Nat.mul_le_mul_left _ h1
      omega
  subst hd1
  refine ⟨rfl, ?_, by omega⟩
  rcases Nat.lt_or_ge d0 H with h1 | h1
  · have : P * (d0 + 1) ≤ P * H := Nat.mul_le_mul_left _ h1
    rw [Nat.mul_add] at this
    omega
  · exact h1
/-- The shifted divisor: its top digit has its highest bit set, and nothing is carried out of it. -/
theorem long_div {b H n v S top : Nat} {dv : Nat → Nat} (h1 : 1 ≤ n) (hd : ∀ j, dv j < b) (hv : val b (seg dv 0 (n + 1)) = v * S) (hlo : top * b ^ (n - 1) ≤ v) (hhi : v < (top + 1) * b ^ (n - 1)) (hS : 0 < S) (hS1 : H ≤ top * S) (hS2 : (top + 1) * S ≤ b) :
    dv n = 0 ∧ H ≤ dv (n - 1) ∧ val b (seg dv 0 n) = v * S := by
  obtain ⟨m, rfl⟩ : ∃ m, n = m + 1 := ⟨n - 1, by omega⟩
  rw [Nat.add_sub_cancel] at *
  rw [seg_succ, val_snoc, seg_len, Nat.zero_add, seg_succ, val_snoc, seg_len, Nat.zero_add, Nat.pow_succ] at hv
  have hlow : val b (seg dv 0 m) < b ^ m := by
    have := val_lt (b := b) (seg dv 0 m) (fun d hdd => by
      obtain ⟨j, _, rfl⟩ := List.mem_map.1 hdd
      exact hd _)
    rwa [seg_len] at this
  rw [seg_succ, val_snoc, seg_len, Nat.zero_add]
  exact long_div_at hv hlow hlo hhi hS hS1 hS2
end Go.Proofs.YthfjbpbgnoonpaaGreatDoor

namespace Go.Proofs.YthfjbpbgnoonpaaGreatDoor
open Go.RowKit

theorem oper_wide {n : Nat} {P : Program} {o : Oper} {a : Act} {w : World} {K : Act → World → Prop} {Q : Exit → Act → World → Prop} (h : o.wp P a w K Q) : o.wpIn Fence.wide n P a w K Q := by
  unfold Oper.wp at h
  unfold Oper.wpIn
  refine ⟨fun _ _ => trivial, ?_⟩
  have e : o.semAt Fence.wide.round a.eval = execOp a.eval o := Oper.semAt_none _ _
  rw [e]
  generalize (execOp a.eval o).run P w = r at h ⊢
  cases r with
  | ok x w' =>
    cases x with
    | value v => exact h
    | skip => exact h
    | defer d => exact h
    | enter f args => exact ⟨fun hd => (by cases hd), callsIn_wide.2 h⟩
    | row row args => exact ⟨fun hd => (by cases hd), fun c cs _ => let ⟨v, w', r, s⟩ := h c cs; ⟨v, w', r, stepsIn_wide.2 s⟩⟩
    | _ => exact h.elim
  | halt x w' =>
    cases x with
    | panic v => exact h
    | _ => exact h.elim
theorem wpAnyIn_of_any {n : Nat} {P : Program} {md : Region.Mode} {ops : Array Oper} {Q : Exit → Act → World → Prop} (hQ : ¬ LetsOut Q) :
    ∀ (fuel : Nat) (listed : Array Bool) (a : Act) (w : World), wpAny P md ops Q fuel listed a w → wpAnyIn Fence.wide n P md ops Q fuel listed a w := by
  intro fuel
  induction fuel with
  | zero => intro listed a w h; exact h
  | succ fuel ih =>
    intro listed a w h
    refine ⟨h.1, fun i hi => ?_⟩
    have h1 := h.2 i hi
    unfold wpOp at h1
    unfold wpOpIn
    cases ho : ops[i]? with
    | none => simp only [ho] at h1 ⊢; exact ih _ _ _ h1
    | some o =>
      simp only [ho] at h1 ⊢
      split
      · rename_i hw
        rw [if_pos hw] at h1
        rcases h1 with h1 | h1
        · exact Oper.wpIn_mono (fun a w h => ih _ _ _ h) (oper_wide h1)
        · exact absurd h1.2 hQ
      · rename_i hw
        rw [if_neg hw] at h1
        exact ⟨fun _ _ => trivial, ih _ _ _ h1⟩
theorem wpAnyIn_of_held {n : Nat} {P : Program} {md : Region.Mode} {ops : Array Oper} {Q : Exit → Act → World → Prop} (S : World → Prop) (hQ : ¬ LetsOut Q) {fuel : Nat} {listed : Array Bool} {a : Act} {w : World}
    (hS : S w) (h : S w → wpAnyH P md ops Q S fuel listed a w) : wpAnyIn Fence.wide n P md ops Q fuel listed a w :=
  wpAnyIn_of_any hQ _ _ _ _ (wpAny_of_held _ _ _ _ (h hS))
/-- The code ends normally, whatever the post says of other ends. -/
theorem wpIn_calm {F : Fence} {n : Nat} {P : Program} {c : Code} {Q : Exit → Act → World → Prop} {a : Act} {w : World} (h : c.wpIn F n P (Exit.then (fun a w => Q .normal a w) (fun _ _ _ => False)) a w) : c.wpIn F n P Q a w :=
  wpIn_mono h (by rintro e a w h; cases e <;> first | exact h | exact h.elim)
/-- A region that draws its order, with held cells: inside the fence that binds nothing. -/
theorem wpIn_region_held {id n : Nat} {P : Program} {ops : Array Oper} {Q : Exit → Act → World → Prop} {a : Act} {w : World} (S : World → Prop) (hm : P.follows .mixedOrders = true) (hS : S w.drew)
    (h : S w.drew → wpAnyH P .any ops (Exit.then (fun a w => Q .normal a w) (fun _ _ _ => False)) S ops.size (Array.replicate ops.size false) a w.drew) : (Code.region id ops true).wpIn Fence.wide n P Q a w :=
  wpIn_calm (wpIn_region_any hm (wpAnyIn_of_held S (by rintro ⟨a, w', h⟩; exact h) hS h))
/-- The same in a round of a range over a function. -/
theorem wpIn_region_round {id n l : Nat} {P : Program} {ops : Array Oper} {Q : Exit → Act → World → Prop} {a : Act} {w : World} (S : World → Prop) (hnd : noDefer ops = true) (hm : P.follows .mixedOrders = true) (hS : S w.drew)
    (h : S w.drew → wpAnyH P .any ops (Exit.then (fun a w => Q .normal a w) (fun _ _ _ => False)) S ops.size (Array.replicate ops.size false) a w.drew) : (Code.region id ops true).wpIn (Fence.wide.inRound l) n P Q a w :=
  wpIn_calm (wpIn_region_any hm (wpAnyIn_inRound rfl (no_defer hnd) _ _ _ _ (wpAnyIn_of_held S (by rintro ⟨a, w', h⟩; exact h) hS h)))
/-- wpAnyH_take, with the slot told by itself: the state stays written out. -/
theorem wpAnyH_takeD {P : Program} {ops : Array Oper} {Q : Exit → Act → World → Prop} {md : Region.Mode} {S : World → Prop} (i : Nat) {oi : Oper} {v : Value} {d : Tmp} {fuel : Nat} {listed : Array Bool} {a : Act} {w : World} (hi : ops[i]? = some oi)
    (hd : (ops[i]?.bind fun o => o.dst) = some d)
    (hs : Region.noSelect ops = true) (hf : Region.free md ops listed i = true) (hr : (Region.ready md ops listed).contains i = true)
    (hQ : ∀ c a w, Q (.panic c) (a.put oi.dst v) w → Q (.panic c) a w) (hy : YieldsIf P ops S oi v a) (hS : S w)
    (h : wpAnyH P md ops Q S fuel (listed.setIfInBounds i true) { tmps := a.tmps.setIfInBounds d v, defers := a.defers } w) : wpAnyH P md ops Q S (fuel + 1) listed a w := by
  have e : oi.dst = some d := by
    rw [hi] at hd
    exact hd
  refine wpAnyH_take hi hs hf hr hQ hy hS ?_
  unfold Act.put
  rw [e]
  exact h
theorem row_of_make {w w' : World} {base n : Nat} {e : TypeId} {z : Value} (hz : z.cells = #[z]) (hown : w'.ownsRow base e 1 (.slice (some ⟨w.heap.size, 0, none⟩) n n) n (madeCells z.cells (n * 1)).toList) : Row w' w.heap.size e n (fun _ => z) := by
  rcases hown.2 with ⟨h0, _⟩ | ⟨g, cap, cur, h0, _, hh, hcap, _, hcs, htake⟩
  · cases h0
  · obtain ⟨h5, _, rfl⟩ := Value.slice.inj h0
    injection h5 with h5
    injection h5 with h5
    subst h5
    unfold Row
    rw [hh]
    have hcur : cur = (vals (fun _ => z) n).toArray := by
      apply Array.ext'
      have h6 : cur.toList.take (n * 1) = cur.toList := List.take_of_length_le (by rw [Array.length_toList, hcs]; exact Nat.le_refl _)
      rw [← h6, htake]
      rw [hz]
      simp only [madeCells, Nat.mul_one, Array.toList_map, Array.toList_range, vals]
      exact List.map_congr_left fun j _ => by simp [Nat.mod_one]
    rw [hcur]
/-- make, inside a fence. -/
theorem wpListIn_make_row {F : Fence} {nn : Nat} {P : Program} {w : World} {ops : Array Oper} {rest : List Oper} {o : Oper} {a : Act} {Q : Exit → Act → World → Prop} (hg : o.guard = none) (l c : Operand) (t : TypeId) (hop : o.op = Op.makeSlice t l c)
    (e : TypeId) (i : TypeInfo) (z : Value) (h1 : P.underlying t = some (.slice e)) (h2 : P.info? e = some i) (h3 : i.zero = some z) (h4 : i.size = 1) (hz : z.cells = #[z])
    (kl kc : IntKind) (L C : Int) (n : Nat) (hl : a.eval l = .int kl L) (hc : a.eval c = .int kc C) (hL : L = (n : Int)) (hC : C = (n : Int)) (b2 : i.bytes * n ≤ 281474976710656) (b3 : n ≤ maxLen)
    (w0 : World) (base : Nat) (hb : Below base w0 w) (hbase : base ≤ w.heap.size)
    (hK : ∀ w', Hid (Row w' w.heap.size e n (fun _ => z)) → Hid (Below base w0 w') → Hid (w.heap.size < w'.heap.size) → wpListIn F nn P ops Q rest (a.put o.dst (.slice (some ⟨w.heap.size, 0, none⟩) n n)) w') :
    wpListIn F nn P ops Q (o :: rest) a w := by
  refine wpListIn_plain hg fun K hK' => ?_
  obtain ⟨w', hrun, r1, r2⟩ := run_make_full (P := P) w w.heap.size t e i z 1 h1 h2 h3 h4 kl kc n b2 b3 (Nat.le_refl _)
  subst hL
  subst hC
  unfold Oper.wpIn
  refine ⟨?_, ?_⟩
  · simp [Oper.about, hop]
  · rw [Oper.semAt_plain F _ _ (by rw [hop]; intro c hc'; cases hc')]
    simp [execOp, hop, hl, hc, hrun, Result.andThen]
    have hrow := row_of_make hz r1
    exact hK' _ _ (hK w' hrow (hb.grown r2 hbase (fun k hk => by cases hk)) hrow.lt)
end Go.Proofs.YthfjbpbgnoonpaaGreatDoor

namespace Go.Proofs.YthfjbpbgnoonpaaGreatDoor
open Go.RowKit Go.Shelf
attribute [local go_sem] Oper.semAt_some

/-- The boxes and rows of divideLong: S has the length, bd, br, bq, bs the divisor, the rest, the quotient, the iterator's slice. -/
def LongS (S m n L bd br bq bs gd gr gq : Nat) (dv r q : Nat → Nat) (W : World) : Prop :=
  One W S (.int .i64 (n : Nat)) 3 ∧ One W bd (.slice (some ⟨gd, 0, none⟩) n n) 22 ∧ One W br (.slice (some ⟨gr, 0, none⟩) (m + 1) (m + 1)) 22 ∧ One W bq (.slice (some ⟨gq, 0, none⟩) L L) 22 ∧ One W bs (.slice (some ⟨gq, 0, none⟩) L L) 22 ∧ RowU W gd (n + 1) dv ∧ RowU W gr (m + 1) r ∧ RowU W gq L q
def LongI (w : World) (m n L V X bd br bq bs gd gr gq : Nat) (dv : Nat → Nat) (k : Nat) (W : World) : Prop :=
  ∃ r q : Nat → Nat, LongS w.heap.size m n L bd br bq bs gd gr gq dv r q W ∧ LongV 4294967296 n L V X r q k ∧ (∀ j, j < k → q j = 0) ∧ Below w.heap.size w W
/-- Where the blocks lie. -/
def LongO (S bd br bq bs gd gr gq : Nat) : Prop := S < bd ∧ S < gd ∧ bd ≠ gd ∧ bd < gr ∧ gd < gr ∧ gr < br ∧ br < gq ∧ gq < bq ∧ bq < bs
theorem long_own {w : World} {m n L V X bd br bq bs gd gr gq : Nat} {dv : Nat → Nat} {B : Nat} (hB : w.heap.size ≤ B) : OwnFrom B (fun (pre : List Nat) W => LongI w m n L V X bd br bq bs gd gr gq dv (L - pre.length) W) := by
  refine ownFrom_of ?_
  rintro pre W W' ⟨r, q, ⟨h1, h2, h3, h4, h5, h6, h7, h8⟩, hV, hz, hb⟩ hc hk hsz ho ht hp
  refine ⟨r, q, ⟨hc _ _ h1 rfl, hc _ _ h2 rfl, hc _ _ h3 rfl, hc _ _ h4 rfl, hc _ _ h5 rfl, hc _ _ h6 rfl, hc _ _ h7 rfl, hc _ _ h8 rfl⟩, hV, hz, ho.trans hb.os, ht.trans hb.tape, hp.trans hb.output, Nat.le_trans hb.size hsz, ?_⟩
  intro k hkk
  exact (hk k (by omega) (by have := hb.size; omega)).trans (hb.block k hkk)
theorem keeps_grown {W W' : World} {g n : Nat} {e : TypeId} {f : Nat → Value} (h : Row W g e n f) (hg : W.grownBy W' (some g)) : KeepsOthers W W' := by
  refine ⟨hg.size, fun k o hk ho => ?_⟩
  refine (hg.block k (Array.getElem?_eq_some_iff.1 hk).1 ?_).trans hk
  intro e
  injection e with e
  subst e
  unfold Row at h
  rw [h] at hk
  cases hk
  cases ho
theorem row_grown {w w' : World} {g n b : Nat} {e : TypeId} {f : Nat → Value} (h : Row w g e n f) (hg : w.grownBy w' (some b)) (hne : g ≠ b) : Row w' g e n f :=
  (hg.block g h.lt (by intro e; injection e with e; exact hne e)).trans h
/-- What divideLong returns: the digits of the quotient and of the rest. -/
def LongPost (w : World) (n L x v : Nat) (e : Ending) (w' : World) : Prop :=
  ∃ (gq gr N : Nat) (q r : Nat → Nat) (f : Nat → Value), e = .returned (.tuple #[.slice (some ⟨gq, 0, none⟩) L L, .slice (some ⟨gr, 0, none⟩) n n]) ∧ RowU w' gq L q ∧ Row w' gr 90 N f ∧ (∀ j, j < n → f j = .int .u32 (r j : Nat)) ∧ n ≤ N ∧
    (∀ j, q j < 4294967296) ∧ (∀ j, r j < 4294967296) ∧ val 4294967296 (seg q 0 L) = x / v ∧ val 4294967296 (seg r 0 n) = x % v ∧ Below w.heap.size w w'
theorem row_putObj {w : World} {g n D : Nat} {e : TypeId} {f : Nat → Value} {o : Obj} (h : Row w g e n f) (hne : g ≠ D) : Row (w.putObj D o) g e n f := (World.putObj_heap_other hne).trans h
theorem below_putObj {B D : Nat} {w W : World} {o : Obj} (h : Below B w W) (hB : B ≤ D) : Below B w (W.putObj D o) :=
  ⟨h.os, h.tape, h.output, by have := h.size; simpa [World.putObj] using this, fun k hk => (World.putObj_heap_other (by omega)).trans (h.block k hk)⟩
theorem row_not_deferred {w : World} {g n D : Nat} {e : TypeId} {f : Nat → Value} {ds : Option (List Deferred)} (h : Row w g e n f) (hD : w.heap[D]? = some (.deferred ds)) : g ≠ D := by
  rintro rfl
  unfold Row at h
  rw [h] at hD
  cases hD
/-- What is left at the end of divideLong. -/
theorem long_finish {w Wd w9 : World} {m n L D s bd br bq bs gd gr gq x v : Nat} {r q : Nat → Nat} {v9 : Value} (hs : s ≤ 31) (hO : LongO w.heap.size bd br bq bs gd gr gq) (hDw : w.heap.size ≤ D) (hmL : m + 1 = L + n) (hL : 1 ≤ L)
    (h7 : RowU Wd gr (m + 1) r) (h8 : RowU Wd gq L q) (hV : LongV 4294967296 n L (v * 2 ^ s) (x * 2 ^ s) r q 0) (hb : Below w.heap.size w Wd) (hK : Wd.heap[D]? = some (.deferred (some [])))
    (hP : ShrPost Wd gr (m + 1) (fun j => .int .u32 (r j : Nat)) (seg r 0 n) s (.returned v9) w9) :
    w9.drew.heap[D]? = some (.deferred (some [])) ∧ LongPost w n L x v (.returned (.tuple #[.slice (some ⟨gq, 0, none⟩) L L, .slice (some ⟨gr, 0, none⟩) n n])) (w9.drew.putObj D (.deferred none)) := by
  obtain ⟨v', f', -, hr9, hf9, hg9⟩ := hP
  have hD := (Array.getElem?_eq_some_iff.1 hK).1
  have ne1 := row_not_deferred h7 hK
  have ne2 := row_not_deferred h8 hK
  unfold LongO at hO
  have hS := hb.size
  have hq9 := row_grown h8 hg9 (by omega)
  have hK9 : w9.heap[D]? = some (.deferred (some [])) := (hg9.block D hD (by intro e; injection e with e; exact ne1 e.symm)).trans hK
  obtain ⟨e1, -, e3⟩ := long_end hV (Nat.pow_pos (by omega)) rfl rfl
  rw [seg_len] at hf9
  have hfr : ∀ i, (seg r 0 n).getD i 0 < 4294967296 := fun i => getD_lt0 (by omega) (by intro d hd; obtain ⟨j, _, rfl⟩ := List.mem_map.1 hd; exact hV.1 _) i
  have hfn : (seg r 0 n).getD n 0 = 0 := by simp [seg, List.getD]
  have hsg : val 4294967296 (seg (fun i => (seg r 0 n).getD i 0) 0 n) = (x % v) * 2 ^ s := by
    have := seg_getD (seg r 0 n)
    rw [seg_len] at this
    rw [this]; exact e3
  refine ⟨hK9, gq, gr, m + 1, q, fun i => shrD s ((seg r 0 n).getD i 0) ((seg r 0 n).getD (i + 1) 0), f', rfl, row_putObj (w := w9.drew) hq9 ne2, row_putObj (w := w9.drew) hr9 ne1, fun j hj => by rw [hf9 j, if_pos hj], by omega, hV.2.1, fun j => ?_, e1, shr_end hs hfn hsg, ?_⟩
  · obtain ⟨_, _, y, _, _, _, _, _, hy, hy2⟩ := shr_parts (s := s) (d := (seg r 0 n).getD j 0) (e := (seg r 0 n).getD (j + 1) 0) hs (hfr j)
    dsimp only
    rw [← hy]; exact hy2
  · exact below_putObj (W := w9.drew) (below_of_grown hb hS hg9 (by omega)).drew hDw
theorem long_leaf {w W w3 : World} {m n L V X bd br bq bs gd gr gq k q1 : Nat} {dv r q : Nat → Nat} {pre : List Nat} (hO : LongO w.heap.size bd br bq bs gd gr gq) (hk : L - pre.length = k + 1) (_hmL : m + 1 = L + n) (hVb : V ≤ 4294967296 ^ n)
    (h : LongS w.heap.size m n L bd br bq bs gd gr gq dv r q W) (hI : LongV 4294967296 n L V X r q (k + 1)) (hz : ∀ j, j < k + 1 → q j = 0) (hb : Below w.heap.size w W)
    (hP : StepPost W.drew gr (m + 1) (fun j => .int .u32 (r j : Nat)) k n (fun j => r (k + j)) V (.returned (.int .u32 (q1 : Int))) w3) (W2 : World) (hW2 : W2 = w3.setCell ⟨gq, k, none⟩ (.int .u32 (q1 : Int)) := by rfl) :
    KeepsOthers W W2 ∧ LongI w m n L V X bd br bq bs gd gr gq dv (L - (pre ++ [k]).length) W2 := by
  subst hW2
  obtain ⟨o1, o2, o3, o4, o5, o6, o7, o8, o9⟩ := hO
  obtain ⟨h1, h2, h3, h4, h5, h6, h7, h8⟩ := h
  obtain ⟨q2, t', e, hr, ht, hD, hq2, hg⟩ := hP
  have e2 : q2 = q1 := by injection e with e; injection e with _ e; omega
  subst e2
  have ek : L - (pre ++ [k]).length = k := by simp; omega
  rw [ek]
  have hS := hb.size
  refine ⟨(show KeepsOthers W W.drew from ⟨Nat.le_refl _, fun _ _ h _ => h⟩).trans ((keeps_grown (W := W.drew) h7 hg).trans (KeepsOthers.setCell _ _ _)), fun j => if k ≤ j ∧ j < k + (n + 1) then t' (j - k) else r j, fun j => if j = k then q2 else q j, ⟨?_, ?_, ?_, ?_, ?_, ?_, ?_, ?_⟩, ?_, ?_, ?_⟩
  · exact (One.grown (w := W.drew) h1 hg (by omega)).far (p := ⟨gq, k, none⟩) (by show w.heap.size ≠ gq; omega) _
  · exact (One.grown (w := W.drew) h2 hg (by omega)).far (p := ⟨gq, k, none⟩) (by show bd ≠ gq; omega) _
  · exact (One.grown (w := W.drew) h3 hg (by omega)).far (p := ⟨gq, k, none⟩) (by show br ≠ gq; omega) _
  · exact (One.grown (w := W.drew) h4 hg (by omega)).far (p := ⟨gq, k, none⟩) (by show bq ≠ gq; omega) _
  · exact (One.grown (w := W.drew) h5 hg (by omega)).far (p := ⟨gq, k, none⟩) (by show bs ≠ gq; omega) _
  · exact Row.far (row_grown (w := W.drew) h6 hg (by omega)) (p := ⟨gq, k, none⟩) (by show gd ≠ gq; omega) _
  · refine Row.far (Row.same hr fun j _ => ?_) (p := ⟨gq, k, none⟩) (by show gr ≠ gq; omega) _
    unfold patch
    by_cases hj : k ≤ j ∧ j < k + (n + 1)
    · dsimp only; rw [if_pos hj, if_pos hj]
    · dsimp only; rw [if_neg hj, if_neg hj]
  · exact Row.set_ (row_grown (w := W.drew) h8 hg (by omega)) k _ (fun j _ => by dsimp only; by_cases hj : j = k <;> simp [hj])
  · exact long_next (by omega) (by omega) hVb hI ht hq2 (by rw [seg_shift, Nat.add_zero]) hD
  · intro j hj
    show (if j = k then q2 else q j) = 0
    rw [if_neg (by omega)]
    exact hz j (by omega)
  · exact ((below_of_grown (w := W.drew) hb.drew hS hg (by omega)).setCell (by show w.heap.size ≤ gq; omega) _)

/-- The divisor's row. -/
def DivV (n V : Nat) (dv : Nat → Nat) : Prop := (∀ j, dv j < 4294967296) ∧ dv n = 0 ∧ 2147483648 ≤ dv (n - 1) ∧ val 4294967296 (seg dv 0 n) = V
theorem div_of_shl {w W : World} {g n s top : Nat} {ys : List Nat} (h : ShlI w g n s ys n W) (hn : ys.length = n) (h2 : 2 ≤ n) (hdy : ∀ d ∈ ys, d < 4294967296) (htp : top = ys.getD (n - 1) 0) (hsA : 2147483648 ≤ top * 2 ^ s) (hsB : (top + 1) * 2 ^ s ≤ 4294967296) :
    ∃ dv : Nat → Nat, RowU W g (n + 1) dv ∧ DivV n (val 4294967296 ys * 2 ^ s) dv ∧ Below w.heap.size w W := by
  obtain ⟨t, hr, htB, -, -, hv, hb⟩ := h
  rw [List.take_of_length_le (by omega)] at hv
  have e : ys = ys.take (n - 1) ++ [top] := by
    have := take_snoc ys (n - 1) (by omega)
    rw [show n - 1 + 1 = n by omega, List.take_of_length_le (by omega), ← htp] at this
    exact this
  have hlen : (ys.take (n - 1)).length = n - 1 := by rw [List.length_take]; omega
  have hve : val 4294967296 ys = val 4294967296 (ys.take (n - 1)) + 4294967296 ^ (n - 1) * top := by
    have := val_snoc 4294967296 (ys.take (n - 1)) top
    rw [← e, hlen] at this
    exact this
  have hlt : val 4294967296 (ys.take (n - 1)) < 4294967296 ^ (n - 1) := by
    have := val_lt (b := 4294967296) (ys.take (n - 1)) (fun d hd => hdy d (List.mem_of_mem_take hd))
    rwa [hlen] at this
  obtain ⟨d1, d2, d3⟩ := long_div (b := 4294967296) (H := 2147483648) (n := n) (v := val 4294967296 ys) (S := 2 ^ s) (top := top) (by omega) htB hv
    (by rw [hve, Nat.mul_comm]; exact Nat.le_add_left _ _) (by rw [hve, Nat.mul_comm, Nat.mul_comm (top + 1), Nat.mul_add, Nat.mul_one, Nat.mul_comm top]; omega) (Nat.pow_pos (by omega)) hsA hsB
  exact ⟨t, hr, ⟨htB, d1, d2, d3⟩, hb⟩

theorem val_top {n top : Nat} {ys : List Nat} (hn : ys.length = n) (h2 : 2 ≤ n) (htp : top = ys.getD (n - 1) 0) (ht0 : 0 < top) : 4294967296 ^ (n - 1) ≤ val 4294967296 ys := by
  have e : ys = ys.take (n - 1) ++ [top] := by
    have := take_snoc ys (n - 1) (by omega)
    rw [show n - 1 + 1 = n by omega, List.take_of_length_le (by omega), ← htp] at this
    exact this
  have hlen : (ys.take (n - 1)).length = n - 1 := by rw [List.length_take]; omega
  have hve : val 4294967296 ys = val 4294967296 (ys.take (n - 1)) + 4294967296 ^ (n - 1) * top := by
    have := val_snoc 4294967296 (ys.take (n - 1)) top
    rw [← e, hlen] at this
    exact this
  have : 4294967296 ^ (n - 1) * 1 ≤ 4294967296 ^ (n - 1) * top := Nat.mul_le_mul_left _ ht0
  omega
/-- The loop's beginning. -/
theorem long_start {w W w4 w6 : World} {m n L s bd gd : Nat} {xs ys : List Nat} {dv t : Nat → Nat} (hmL : m + 1 = L + n) (hxs : xs.length = m) (h2 : 2 ≤ n) (hdx : ∀ d ∈ xs, d < 4294967296) (htop : 4294967296 ^ (n - 1) ≤ val 4294967296 ys)
    (F1 : One W w.heap.size (.int .i64 (n : Nat)) 3) (F2 : One W bd (.slice (some ⟨gd, 0, none⟩) n n) 22) (F3 : RowU W gd (n + 1) dv) (F5 : w.heap.size < bd) (F6 : w.heap.size < gd) (F7 : bd ≠ gd) (FB : Below w.heap.size w W)
    (hr4 : RowU w4 W.heap.size (m + 1) t) (htB : ∀ j, t j < 4294967296) (htz : ∀ j, m < j → t j = 0) (hv4 : val 4294967296 (seg t 0 (m + 1)) = val 4294967296 (xs.take m) * 2 ^ s) (hb4 : Below W.heap.size W w4)
    (hrow6 : Row w6 (w4.alloc (.cells #[.slice (some ⟨W.heap.size, 0, none⟩) (m + 1) (m + 1)] 22)).heap.size 90 L (fun _ => .int .u32 0)) (hb6 : Below (w4.alloc (.cells #[.slice (some ⟨W.heap.size, 0, none⟩) (m + 1) (m + 1)] 22)).heap.size (w4.alloc (.cells #[.slice (some ⟨W.heap.size, 0, none⟩) (m + 1) (m + 1)] 22)) w6) :
    LongO w.heap.size bd w4.heap.size w6.heap.size (w6.heap.size + 1) gd W.heap.size (w4.heap.size + 1) ∧
    LongI w m n L (val 4294967296 ys * 2 ^ s) (val 4294967296 xs * 2 ^ s) bd w4.heap.size w6.heap.size (w6.heap.size + 1) gd W.heap.size (w4.heap.size + 1) dv L
      ((w6.alloc (.cells #[.slice (some ⟨w4.heap.size + 1, 0, none⟩) L L] 22)).alloc (.cells #[.slice (some ⟨w4.heap.size + 1, 0, none⟩) L L] 22)) := by
  have lgr := hr4.lt
  have l1 := F2.lt
  have l2 := F3.lt
  have e5 : (w4.alloc (.cells #[.slice (some ⟨W.heap.size, 0, none⟩) (m + 1) (m + 1)] 22)).heap.size = w4.heap.size + 1 := by simp
  have bz4 := (Below.refl w4.heap.size w4).alloc (Nat.le_refl _) (.cells #[.slice (some ⟨W.heap.size, 0, none⟩) (m + 1) (m + 1)] 22)
  rw [e5] at hrow6
  have lgq := hrow6.lt
  have hb46 : Below w4.heap.size w4 w6 := bz4.trans (hb6.mono (by rw [e5]; omega))
  have hbW6 : Below W.heap.size W w6 := hb4.trans (hb46.mono (by omega))
  obtain ⟨V7, hV7⟩ : ∃ V7, ((w6.alloc (.cells #[.slice (some ⟨w4.heap.size + 1, 0, none⟩) L L] 22)).alloc (.cells #[.slice (some ⟨w4.heap.size + 1, 0, none⟩) L L] 22)) = V7 := ⟨_, rfl⟩
  have b67 : Below w6.heap.size w6 V7 := by rw [← hV7]; exact ((Below.refl _ w6).alloc (Nat.le_refl _) _).alloc (by simp) _
  have q1 : One V7 w6.heap.size (.slice (some ⟨w4.heap.size + 1, 0, none⟩) L L) 22 := by rw [← hV7]; exact (One.new w6 _ _).alloc _
  have q2 : One V7 (w6.heap.size + 1) (.slice (some ⟨w4.heap.size + 1, 0, none⟩) L L) 22 := by
    have := One.new (w6.alloc (.cells #[.slice (some ⟨w4.heap.size + 1, 0, none⟩) L L] 22)) (.slice (some ⟨w4.heap.size + 1, 0, none⟩) L L) 22
    rw [hV7] at this
    simpa using this
  have hbr : One w6 w4.heap.size (.slice (some ⟨W.heap.size, 0, none⟩) (m + 1) (m + 1)) 22 := (One.new w4 _ _).step hb6
  rw [hV7]
  have hbW7 : Below W.heap.size W V7 := hbW6.trans (b67.mono (by omega))
  have hpow : val 4294967296 xs < 4294967296 ^ m := by
    have := val_lt (b := 4294967296) xs hdx
    rwa [hxs] at this
  rw [List.take_of_length_le (by omega)] at hv4
  refine ⟨⟨F5, F6, F7, l1, l2, lgr, by omega, lgq, by omega⟩, t, fun _ => 0, ⟨F1.step hbW7, F2.step hbW7, ?_, q1, q2, Row.below F3 hbW7 l2, ?_, ?_⟩, ?_, fun _ _ => rfl, FB.trans (hbW7.mono FB.size)⟩
  · exact hbr.step b67
  · exact Row.below hr4 (hb46.trans (b67.mono (by omega))) hr4.lt
  · exact Row.same (Row.below hrow6 b67 lgq) (fun _ _ => rfl)
  · exact long_init (by omega) htB htz hmL (by omega) hv4 hpow rfl (Nat.mul_le_mul_right _ htop) (Nat.pow_pos (by omega))

set_option maxRecDepth 100000 in
set_option maxHeartbeats 4000000 in
theorem divideLong_any {A B : Option Addr} {m n L ca cb : Nat} {xs ys : List Nat} {w : World} (hm : xs.length = m) (hn : ys.length = n) (h2 : 2 ≤ n) (hmL : m + 1 = L + n) (hL : 1 ≤ L) (hmm : m ≤ 400000) (hdx : ∀ d ∈ xs, d < 4294967296) (hdy : ∀ d ∈ ys, d < 4294967296) (htop : ys.getD (n - 1) 0 ≠ 0)
    (hA : Cells w w.heap.size A m (u32f xs)) (hB : Cells w w.heap.size B n (u32f ys)) :
    Calls Tryz.prog 108 #[.slice A m ca, .slice B n cb] w (LongPost w n L (val 4294967296 xs) (val 4294967296 ys)) := by
  have HB := Lib.hid hB
  obtain ⟨b, rfl, hbb, hbc⟩ := hB (n - 1) (by omega)
  obtain ⟨top, htp⟩ : ∃ top, top = ys.getD (n - 1) 0 := ⟨_, rfl⟩
  have ht0 : 0 < top := by omega
  have ht1 : top < 4294967296 := by rw [htp]; exact getD_lt0 (by omega) hdy _
  have hct : (w.alloc (.cells #[.int .i64 (n : Nat)] 3)).cell? (b.add (n - 1)) = some (.int .u32 (top : Nat)) := by
    rw [((Below.refl w.heap.size w).alloc (Nat.le_refl _) _).cell (by rw [add_block]; exact hbb), hbc, htp]; rfl
  have HLZ := Lib.hid (fun W : World => Tryz.bits_LeadingZeros32 (top : Int) W (by omega) (by omega))
  obtain ⟨s, hs31, hs, hsA, hsB⟩ := top_shift ht0 ht1
  rw [hs] at HLZ
  have hw1 : IntKind.i64.wrap ((n : Int) - 1) = (n : Int) - 1 := IntWalk.i64_in _ (by omega)
  have hn1 : ((n : Int) - 1).toNat = n - 1 := by omega
  have hz1 : (0 : Int) ≤ (n : Int) - 1 := by omega
  -- the two shifts
  have HD := Lib.hid (fun (W : World) (hb : Below w.heap.size w W) => (shiftLeft_any (c := cb) (ds := ys) (w := W) hn.symm (by omega) hs31 hdy (by rw [hn]; exact HB.out.step hb hb.size)).mono (fun e w' (h : ShlPost W ys.length s ys e w') => (⟨h.1, div_of_shl (by rw [hn] at h; exact h.2) hn h2 hdy htp hsA hsB⟩ : _ ∧ _)))
  have HR := Lib.hid (fun (W : World) (hb : Below w.heap.size w W) => shiftLeft_any (c := ca) (ds := xs) (w := W) hm.symm (by omega) hs31 hdx (by rw [hm]; exact hA.step hb hb.size))
  rw [hn] at HD
  rw [hm] at HR
  have HTP := Lib.hid htp
  have HDX := Lib.hid hdx
  have HDY := Lib.hid hdy
  have HSA := Lib.hid hsA
  have HSB := Lib.hid hsB
  have HML := Lib.hid hmL
  have HN := Lib.hid (And.intro hm hn)
  clear hmL hm hn
  clear hs htp hbc htop hdx hdy hsA hsB hA hB
  refine (callsIn_wide (n := 5)).1 ?_
  refine callsIn_of_wp_marks Tryz.func108 rfl trivial ?_ rfl
  simp only [Tryz.ntmps108, List.size_toArray, List.length_cons, List.length_nil, Nat.reduceAdd, Nat.reduceSub, Array.replicate_succ, Array.replicate_zero, List.push_toArray, List.append_toArray, List.nil_append, List.cons_append]
  have h75 : Fence.wide.fn 124 := trivial
  have h31 : 1 ≤ 5 := by omega
  gi_wp2_with (gi_at_call 124; refine (callsIn_wide.2 (HLZ.out _)).mono ?_; rintro e w1 ⟨rfl, rfl⟩)
  obtain ⟨w1, hw1e⟩ : ∃ w1, w.alloc (.cells #[.int .i64 (n : Nat)] 3) = w1 := ⟨_, rfl⟩
  have o1 : One w1 w.heap.size (.int .i64 (n : Nat)) 3 := by rw [← hw1e]; exact One.new _ _ _
  have b1 : Below w.heap.size w w1 := by rw [← hw1e]; exact (Below.refl _ w).alloc (Nat.le_refl _) _
  have s1 : w1.heap.size = w.heap.size + 1 := by rw [← hw1e]; simp
  rw [hw1e]
  clear hw1e hct HLZ
  rename_i K0 hK0
  have cut : ∀ (W : World) (gd bd : Nat) (dv : Nat → Nat), One W w.heap.size (.int .i64 (n : Nat)) 3 → One W bd (.slice (some ⟨gd, 0, none⟩) n n) 22 → RowU W gd (n + 1) dv → DivV n (val 4294967296 ys * 2 ^ s) dv → w.heap.size < bd → w.heap.size < gd → bd ≠ gd → Below w.heap.size w W →
      K0 { tmps := #[.slice A m ca, .slice (some b) n cb, undef, undef, .slice none 0 0, .slice none 0 0, .pointer (some ⟨w.heap.size, 0, none⟩), .int .i64 s, .pointer (some ⟨bd, 0, none⟩), undef, undef, undef, .slice (some b) n cb, .int .i64 n, .slice (some b) n cb, .int .i64 n, .int .i64 ((n : Int) - 1), .pointer (some (b.add (n - 1))), .int .u32 top, .int .i64 s, .slice (some b) n cb, .int .i64 s, .slice (some ⟨gd, 0, none⟩) (n + 1) (n + 1), .int .i64 n, .int .i64 n, .slice (some ⟨gd, 0, none⟩) n n, undef, undef, undef, undef, undef, undef, undef, undef, undef, undef, undef, undef, undef, undef, undef, undef, undef, undef, undef, undef, undef, undef, undef, undef, undef, undef, undef, undef, undef, undef, undef, undef, undef, undef, undef, undef, undef, undef, undef, undef], defers := [] } W := by
    intro W gd bd dv F1 F2 F3 F4 F5 F6 F7 FB
    refine hK0 _ _ ?_
    clear hK0 K0
    have lbd := F2.lt
    have lgd := F3.lt
    obtain ⟨i0, hi, hz0, hz1, hz2⟩ := info_parts infoU32
    have hw5 : IntKind.i64.wrap ((m : Int) - (n : Int)) = (m : Int) - (n : Int) := IntWalk.i64_in _ (by have := HML.out; omega)
    have hw6 : IntKind.i64.wrap ((m : Int) - (n : Int) + 1) = (L : Int) := by rw [show (m : Int) - (n : Int) + 1 = (L : Int) by have := HML.out; omega]; exact IntWalk.i64_in _ (by have := HML.out; omega)
    have h76 : Fence.wide.fn 125 := trivial
    have h50 : Fence.wide.fn 91 := trivial
    gi_wp2_with (first
      | (gi_at_call 125; refine (callsIn_wide.2 (HR.out _ FB)).mono ?_; rintro e w4 ⟨rfl, t, hr4, htB, htz, -, hv4, hb4⟩; have bz4 := (Below.refl w4.heap.size w4).alloc (Nat.le_refl _) (.cells #[.slice (some ⟨W.heap.size, 0, none⟩) (m + 1) (m + 1)] 22); have g1 := ((F1.step hb4).step bz4).cell)
      | (gi_at_make; refine wpListIn_make_row rfl (.tmp 33) (.tmp 33) _ rfl 90 i0 _ Tryz.underlying22 hi hz0 hz1 rfl _ _ _ _ L rfl rfl rfl rfl (by rw [hz2]; have := HML.out; omega) (by simp [maxLen]; have := HML.out; omega) _ _ (Below.refl _ _) (Nat.le_refl _) ?_; intro w6 hrow6 hb6 hs6)
      | (gi_at_call 91; refine (backward_in Fence.wide _ trivial rfl _ _ _ _).mono ?_; rintro e w' ⟨rfl, rfl⟩))
    obtain ⟨hO, hI0⟩ := long_start HML.out HN.out.1 h2 HDX.out (val_top HN.out.2 h2 HTP.out ht0) F1 F2 F3 F5 F6 F7 FB hr4 htB htz hv4 hb4 hrow6.out hb6.out
    have hOs := hO
    obtain ⟨-, -, -, -, -, lo6, lo7, lo8, lo9⟩ := hOs
    clear F1 F2 F3 F5 F6 F7 FB hr4 htB htz hv4 hb4 hrow6 hb6 hs6 hi hz0 hz1 hz2 hw5 hw6 g1 bz4 lbd lgd
    generalize W.heap.size = gr at hO hI0 lo6 lo7 lo8 lo9 ⊢
    generalize w4.heap.size = br at hO hI0 lo6 lo7 lo8 lo9 ⊢
    generalize w6.heap.size = bq at hO hI0 lo6 lo7 lo8 lo9 ⊢
    obtain ⟨w7, hw7⟩ : ∃ w7, ((w6.alloc (.cells #[.slice (some ⟨br + 1, 0, none⟩) L L] 22)).alloc (.cells #[.slice (some ⟨br + 1, 0, none⟩) L L] 22)) = w7 := ⟨_, rfl⟩
    rw [hw7] at hI0 ⊢
    clear hw7
    generalize br + 1 = gq at hO hI0 lo7 lo8 lo9 ⊢
    generalize bq + 1 = bs at hO hI0 lo9 ⊢
    have hVb : val 4294967296 ys * 2 ^ s ≤ 4294967296 ^ n := by rw [← F4.2.2.2]; exact Nat.le_of_lt (seg_val_lt F4.1 0 n)
    have hs7 : w.heap.size ≤ w7.heap.size := by obtain ⟨_, _, _, _, _, hb⟩ := hI0; exact hb.size
    refine wpIn_iterate rfl (by omega) (gf := 113) (lb := #[.pointer (some ⟨bs, 0, none⟩)]) (by simp [go_sem]) trivial (enters_of Tryz.func113 (by kernel_rfl) rfl)
      (back_iter Fence.wide _ trivial rfl (by omega) _ (some ⟨gq, 0, none⟩) L L (fun _ => 0) (by have := HML.out; omega) _) (fun _ => rfl)
      (fun pre W => LongI w m n L (val 4294967296 ys * 2 ^ s) (val 4294967296 xs * 2 ^ s) bd br bq bs gd gr gq dv (L - pre.length) W) (fun _ _ _ => False) (long_own hs7) (fun c => by intro s W W' row hs; exact hs.elim) ?IR hI0 ?a1 ?assign ?body ?done ?stop
    case assign =>
      intro l x W K hK
      gi_wp2
      exact hK
    case IR =>
      rintro pre W ⟨r, q, ⟨h1, h2, h3, h4, h5, h6, h7, h8⟩, hV, hq0, hb⟩
      refine ⟨h5.cell, fun hp => ⟨⟨gq, 0, none⟩, rfl, ?_⟩⟩
      have hc := Row.cell h8 (L - 1 - pre.length) (by omega)
      rw [hq0 _ (by omega)] at hc
      rw [row_at]
      exact hc
    case body =>
      rintro l pre x0 Wl ⟨r, q, hS, hV, hq0, hb⟩ hpl ⟨_, rfl⟩
      obtain ⟨k, hk⟩ : ∃ k, k = L - 1 - pre.length := ⟨_, rfl⟩
      have hkn : L - pre.length = k + 1 := by omega
      rw [hkn] at hV hq0
      rw [← hk]
      clear hk
      have hkL : k < L := by omega
      have hkm : k + (n + 1) ≤ m + 1 := by have := HML.out; omega
      have HS := Lib.hid hS
      obtain ⟨h1, h2', h3, h4, h5, h6, h7, h8⟩ := hS
      have c1 := h1.cell
      have c2 := h2'.cell
      have c3 := h3.cell
      have c4 := h4.cell
      have hcq := Row.cell h8 k hkL
      have hfq := Row.frozen h8 k
      have hdd : ∀ j, (seg dv 0 n).getD j 0 = if j < n then dv j else 0 := by
        intro j
        by_cases hj : j < n
        · rw [if_pos hj]
          simp [seg, List.getD, hj]
        · rw [if_neg hj]
          simp [seg, List.getD, hj]
      have HST := Lib.hid (divideStep_any (w := Wl.drew) (g := gr) (N := m + 1) (off := k) (n := n) (m := n + 1) (k := n) (cp := n + 1) (cb := n) (B := some ⟨gd, 0, none⟩) (f := fun j => .int .u32 (r j : Nat)) (t := fun j => r (k + j)) (ds := seg dv 0 n) rfl rfl (seg_len _ _ _) h2 (by omega) (by omega) hkm
        (fun j => hV.1 _) (by intro d hd; obtain ⟨j, _, rfl⟩ := List.mem_map.1 hd; exact F4.1 _) (by rw [hdd, if_pos (by omega)]; exact F4.2.2.1) (RowP.of (show Row Wl.drew gr _ (m + 1) _ from h7) (fun j _ => rfl))
        (Cells.same ((Row.cellsB (show Row Wl.drew gd _ (n + 1) _ from h6) (by have := hO.2.2.2.2.1; omega)).less (by omega)) (fun j hj => by show Value.int .u32 (dv j : Nat) = .int .u32 ((seg dv 0 n).getD j 0 : Nat); rw [hdd, if_pos hj])) (by rw [seg_shift, F4.2.2.2]; exact hV.2.2.2.1) (Nat.le_refl _))
      rw [F4.2.2.2] at HST
      have hwa : IntKind.i64.wrap ((k : Int) + (n : Int)) = (k : Int) + (n : Int) := IntWalk.i64_in _ (by omega)
      have hwb : IntKind.i64.wrap ((k : Int) + (n : Int) + 1) = (k : Int) + (n : Int) + 1 := IntWalk.i64_in _ (by omega)
      have hz0 : (0 : Int) ≤ (k : Int) := by omega
      have hz1 : (k : Int) ≤ (k : Int) + (n : Int) + 1 := by omega
      have hz2 : (k : Int) + (n : Int) + 1 ≤ ((m + 1 : Nat) : Int) := by omega
      have hz3 : ((k : Int) + (n : Int) + 1).toNat = k + (n + 1) := by omega
      have hz4 : k + (n + 1) - k = n + 1 := by omega
      have hz5 : (k : Int) < (L : Int) := by omega
      have hz6 : (0 : Int) ≤ (k : Int) + (n : Int) + 1 := by omega
      have hz7 : (k : Int) + (n : Int) ≤ (m : Int) := by omega
      have hz8 : (k : Int) + (n : Int) + 1 ≤ (k : Int) + ((n : Int) + 1) := by omega
      have HV := Lib.hid hV
      have HQ0 := Lib.hid hq0
      have HKN := Lib.hid hkn
      have HB := Lib.hid hb
      clear h1 h2' h3 h4 h5 h6 h7 h8 hV hq0 hkn hb hdd hI0
      gi_wp2
      refine wpIn_region_round (fun W' => W'.cell? ⟨w.heap.size, 0, none⟩ = some (.int .i64 (n : Nat)) ∧ W'.cell? ⟨bd, 0, none⟩ = some (.slice (some ⟨gd, 0, none⟩) n n) ∧ W'.cell? ⟨br, 0, none⟩ = some (.slice (some ⟨gr, 0, none⟩) (m + 1) (m + 1)) ∧ W'.cell? ⟨bq, 0, none⟩ = some (.slice (some ⟨gq, 0, none⟩) L L)) (by kernel_rfl) (by kernel_rfl) ⟨c1, c2, c3, c4⟩ (fun hHeld => ?_)
      refine wpAnyH_takeD 0 (v := ?_) rfl rfl (by kernel_rfl) (by kernel_rfl) (by kernel_rfl) (fun _ _ _ h => h) (Or.inl ⟨by rfl, ?_⟩) hHeld ?_
      rotate_left
      focus (intro w hSw; (try dsimp only at hSw); go_simp; try with_reducible rfl)
      simp only [List.setIfInBounds_toArray, List.set_cons_zero, List.set_cons_succ]
      refine wpAnyH_takeD 1 (v := ?_) rfl rfl (by kernel_rfl) (by kernel_rfl) (by kernel_rfl) (fun _ _ _ h => h) (Or.inl ⟨by rfl, ?_⟩) hHeld ?_
      rotate_left
      focus (intro w hSw; (try dsimp only at hSw); go_simp; try with_reducible rfl)
      simp only [List.setIfInBounds_toArray, List.set_cons_zero, List.set_cons_succ]
      refine wpAnyH_takeD 2 (v := ?_) rfl rfl (by kernel_rfl) (by kernel_rfl) (by kernel_rfl) (fun _ _ _ h => h) (Or.inl ⟨by rfl, ?_⟩) hHeld ?_
      rotate_left
      focus (intro w hSw; (try dsimp only at hSw); go_simp; try with_reducible rfl)
      simp only [List.setIfInBounds_toArray, List.set_cons_zero, List.set_cons_succ]
      refine wpAnyH_takeD 3 (v := ?_) rfl rfl (by kernel_rfl) (by kernel_rfl) (by kernel_rfl) (fun _ _ _ h => h) (Or.inl ⟨by rfl, ?_⟩) hHeld ?_
      rotate_left
      focus (intro w hSw; (try dsimp only at hSw); go_simp; try with_reducible rfl)
      simp only [List.setIfInBounds_toArray, List.set_cons_zero, List.set_cons_succ]
      refine wpAnyH_takeD 4 (v := ?_) rfl rfl (by kernel_rfl) (by kernel_rfl) (by kernel_rfl) (fun _ _ _ h => h) (Or.inl ⟨by rfl, ?_⟩) hHeld ?_
      rotate_left
      focus (intro w hSw; (try dsimp only at hSw); go_simp; try with_reducible rfl)
      simp only [List.setIfInBounds_toArray, List.set_cons_zero, List.set_cons_succ]
      refine wpAnyH_takeD 5 (v := ?_) rfl rfl (by kernel_rfl) (by kernel_rfl) (by kernel_rfl) (fun _ _ _ h => h) (Or.inl ⟨by rfl, ?_⟩) hHeld ?_
      rotate_left
      focus (intro w hSw; (try dsimp only at hSw); go_simp; try with_reducible rfl)
      simp only [List.setIfInBounds_toArray, List.set_cons_zero, List.set_cons_succ]
      refine wpAnyH_takeD 6 (v := ?_) rfl rfl (by kernel_rfl) (by kernel_rfl) (by kernel_rfl) (fun _ _ _ h => h) (Or.inl ⟨by rfl, ?_⟩) hHeld ?_
      rotate_left
      focus (intro w hSw; (try dsimp only at hSw); go_simp; try with_reducible rfl)
      simp only [List.setIfInBounds_toArray, List.set_cons_zero, List.set_cons_succ]
      refine wpAnyH_takeD 7 (v := ?_) rfl rfl (by kernel_rfl) (by kernel_rfl) (by kernel_rfl) (fun _ _ _ h => h) (Or.inl ⟨by rfl, ?_⟩) hHeld ?_
      rotate_left
      focus (intro w hSw; (try dsimp only at hSw); go_simp; try with_reducible rfl)
      simp only [List.setIfInBounds_toArray, List.set_cons_zero, List.set_cons_succ]
      refine wpAnyH_takeD 8 (v := ?_) rfl rfl (by kernel_rfl) (by kernel_rfl) (by kernel_rfl) (fun _ _ _ h => h) (Or.inl ⟨by rfl, ?_⟩) hHeld ?_
      rotate_left
      focus (intro w hSw; (try dsimp only at hSw); go_simp; try with_reducible rfl)
      simp only [List.setIfInBounds_toArray, List.set_cons_zero, List.set_cons_succ]
      refine wpAnyH_takeD 9 (v := ?_) rfl rfl (by kernel_rfl) (by kernel_rfl) (by kernel_rfl) (fun _ _ _ h => h) (Or.inl ⟨by rfl, ?_⟩) hHeld ?_
      rotate_left
      focus (intro w hSw; (try dsimp only at hSw); go_simp; try with_reducible rfl)
      simp only [List.setIfInBounds_toArray, List.set_cons_zero, List.set_cons_succ]
      refine wpAnyH_takeD 10 (v := ?_) rfl rfl (by kernel_rfl) (by kernel_rfl) (by kernel_rfl) (fun _ _ _ h => h) (Or.inl ⟨by rfl, ?_⟩) hHeld ?_
      rotate_left
      focus (intro w hSw; (try dsimp only at hSw); go_simp; try with_reducible rfl)
      simp only [List.setIfInBounds_toArray, List.set_cons_zero, List.set_cons_succ]
      refine wpAnyH_takeD 11 (v := ?_) rfl rfl (by kernel_rfl) (by kernel_rfl) (by kernel_rfl) (fun _ _ _ h => h) (Or.inl ⟨by rfl, ?_⟩) hHeld ?_
      rotate_left
      focus (intro w hSw; (try dsimp only at hSw); go_simp; try with_reducible rfl)
      simp only [List.setIfInBounds_toArray, List.set_cons_zero, List.set_cons_succ]
      refine wpAnyH_takeD 12 (v := ?_) rfl rfl (by kernel_rfl) (by kernel_rfl) (by kernel_rfl) (fun _ _ _ h => h) (Or.inl ⟨by rfl, ?_⟩) hHeld ?_
      rotate_left
      focus (intro w hSw; (try dsimp only at hSw); go_simp; try with_reducible rfl)
      simp only [List.setIfInBounds_toArray, List.set_cons_zero, List.set_cons_succ]
      refine wpAnyH_takeD 13 (v := ?_) rfl rfl (by kernel_rfl) (by kernel_rfl) (by kernel_rfl) (fun _ _ _ h => h) (Or.inl ⟨by rfl, ?_⟩) hHeld ?_
      rotate_left
      focus (intro w hSw; (try dsimp only at hSw); go_simp; try with_reducible rfl)
      simp only [List.setIfInBounds_toArray, List.set_cons_zero, List.set_cons_succ]
      refine wpAnyH_ready (rs := [14]) (by kernel_rfl) (by simp) ?_
      refine AllReadyH.cons rfl (fun K hK => ?_) AllReadyH.nil
      go_simp
      refine HST.out.mono ?_
      rintro e w3 hP
      obtain ⟨q1, rfl⟩ : ∃ q1 : Nat, e = .returned (.int .u32 (q1 : Int)) := (by obtain ⟨q1, _, h, _⟩ := hP; exact ⟨q1, h⟩)
      have hg3 : Wl.drew.grownBy w3 (some gr) := by obtain ⟨_, _, _, _, _, _, _, h⟩ := hP; exact h
      have HP := Lib.hid hP
      obtain ⟨h1, h2', h3, h4, h5, h6, h7, h8⟩ := HS.out
      have hO2 := hO
      unfold LongO at hO2
      have k1 := One.grown (w := Wl.drew) h1 hg3 (by omega)
      have k2 := One.grown (w := Wl.drew) h2' hg3 (by omega)
      have k3 := One.grown (w := Wl.drew) h3 hg3 (by omega)
      have k4 := One.grown (w := Wl.drew) h4 hg3 (by omega)
      have K1 := Lib.hid (k1.far (p := ⟨gq, k, none⟩) (by show w.heap.size ≠ gq; omega) (.int .u32 (q1 : Nat))).cell
      have K2 := Lib.hid (k2.far (p := ⟨gq, k, none⟩) (by show bd ≠ gq; omega) (.int .u32 (q1 : Nat))).cell
      have K3 := Lib.hid (k3.far (p := ⟨gq, k, none⟩) (by show br ≠ gq; omega) (.int .u32 (q1 : Nat))).cell
      have K4 := Lib.hid (k4.far (p := ⟨gq, k, none⟩) (by show bq ≠ gq; omega) (.int .u32 (q1 : Nat))).cell
      have d1 := k1.cell
      have d2 := k2.cell
      have d3 := k3.cell
      have d4 := k4.cell
      have d8 := row_grown (w := Wl.drew) h8 hg3 (by omega)
      have d5 := Row.cell d8 k hkL
      have d6 := Row.frozen d8 k
      clear hP hg3 h1 h2' h3 h4 h5 h6 h7 h8 d8 c1 c2 c3 c4 hcq hfq k1 k2 k3 k4 hO2
      refine hK.out _ _ ⟨d1, d2, d3, d4⟩ (fun hHeld => ?_)
      clear hK K
      refine wpAnyH_takeD 15 (v := ?_) rfl rfl (by kernel_rfl) (by kernel_rfl) (by kernel_rfl) (fun _ _ _ h => h) (Or.inl ⟨by rfl, ?_⟩) hHeld ?_
      rotate_left
      focus (intro w hSw; (try dsimp only at hSw); go_simp; try with_reducible rfl)
      simp only [List.setIfInBounds_toArray, List.set_cons_zero, List.set_cons_succ]
      refine wpAnyH_ready (rs := [16]) (by kernel_rfl) (by simp) ?_
      refine AllReadyH.cons rfl (fun K hK => ?_) AllReadyH.nil
      go_simp
      refine hK.out _ _ ⟨K1.out, K2.out, K3.out, K4.out⟩ (fun hHeld => ?_)
      refine wpAnyH_done (by kernel_rfl) ?_ _
      exact long_leaf hO HKN.out HML.out hVb HS.out HV.out HQ0.out HB.out HP.out _ rfl
    case done =>
      rintro D xs' Wd hD rfl hDI hK
      obtain ⟨r, q, hS, hV, -, hb⟩ := hDI
      rw [dn_len, Nat.sub_self] at hV
      have hDs := (Array.getElem?_eq_some_iff.1 hK).1
      obtain ⟨h1, h2', h3, h4, h5, h6, h7, h8⟩ := hS
      have c1 := h1.cell
      have c3 := h3.cell
      have hSR := shiftRight_any (w := Wd) (g := gr) (N := m + 1) (c := n) (A := some ⟨gr, 0, none⟩) (f := fun j => .int .u32 (r j : Nat)) (ds := seg r 0 n) s (by rw [seg_len]; have := HML.out; omega) hs31 (by intro d hd; obtain ⟨j, _, rfl⟩ := List.mem_map.1 hd; exact hV.1 _) (fun _ => rfl) (by rw [seg_len]; have := HML.out; omega) h7
        (fun i hi => by rw [seg_len] at hi; show Value.int .u32 (r i : Nat) = .int .u32 ((seg r 0 n).getD i 0 : Nat); simp [seg, List.getD, hi])
      rw [seg_len] at hSR
      have HSR := Lib.hid hSR
      have HALL := Lib.hid (And.intro h1 (And.intro h3 (And.intro h4 (And.intro h7 (And.intro h8 (And.intro hV (And.intro hb hK)))))))
      have hz0 : (0 : Int) ≤ (n : Int) := by omega
      have hz1 : (n : Int) ≤ ((m + 1 : Nat) : Int) := by have := HML.out; omega
      have hz2 : (n : Int) ≤ (m : Int) + 1 := by have := HML.out; omega
      have hz3 : n ≤ m + 1 := by have := HML.out; omega
      have h78 : Fence.wide.fn 127 := trivial
      clear hSR h1 h2' h3 h4 h5 h6 h7 h8 hV hb hK hDs hI0
      gi_wp2_with (gi_at_call 127; refine (callsIn_wide.2 HSR.out).mono ?_; rintro e w9 hP9; obtain ⟨v9, rfl⟩ : ∃ v9, e = .returned v9 := (by obtain ⟨v9, _, h, _⟩ := hP9; exact ⟨v9, h⟩); have HP9 := Lib.hid hP9; clear hP9)
      obtain ⟨k1, k3, k4, k7, k8, kV, kb, kK⟩ := HALL.out
      have hg9 : Wd.grownBy w9 (some gr) := by obtain ⟨_, _, _, _, _, h⟩ := HP9.out; exact h
      have hO2 := hO
      unfold LongO at hO2
      have c5 := (k1.grown hg9 (by omega)).cell
      have c6 := (k3.grown hg9 (by omega)).cell
      have c7 := (k4.grown hg9 (by omega)).cell
      obtain ⟨hK9, hfin⟩ := long_finish hs31 hO (Nat.le_trans hs7 hD) HML.out hL k7 k8 kV kb kK HP9.out
      have HF := Lib.hid hfin
      have HK9 := Lib.hid hK9
      clear k1 k3 k4 k7 k8 kV kb kK hg9 hO2 hfin hK9 HALL HP9 HSR c1 c3
      refine wpIn_region_held (fun W' => W'.cell? ⟨w.heap.size, 0, none⟩ = some (.int .i64 (n : Nat)) ∧ W'.cell? ⟨br, 0, none⟩ = some (.slice (some ⟨gr, 0, none⟩) (m + 1) (m + 1)) ∧ W'.cell? ⟨bq, 0, none⟩ = some (.slice (some ⟨gq, 0, none⟩) L L)) (by kernel_rfl) ⟨c5, c6, c7⟩ (fun hHeld => ?_)
      refine wpAnyH_takeD 0 (v := ?_) rfl rfl (by kernel_rfl) (by kernel_rfl) (by kernel_rfl) (fun _ _ _ h => h) (Or.inl ⟨by rfl, ?_⟩) hHeld ?_
      rotate_left
      focus (intro w hSw; (try dsimp only at hSw); go_simp; try with_reducible rfl)
      simp only [List.setIfInBounds_toArray, List.set_cons_zero, List.set_cons_succ]
      refine wpAnyH_takeD 1 (v := ?_) rfl rfl (by kernel_rfl) (by kernel_rfl) (by kernel_rfl) (fun _ _ _ h => h) (Or.inl ⟨by rfl, ?_⟩) hHeld ?_
      rotate_left
      focus (intro w hSw; (try dsimp only at hSw); go_simp; try with_reducible rfl)
      simp only [List.setIfInBounds_toArray, List.set_cons_zero, List.set_cons_succ]
      refine wpAnyH_takeD 2 (v := ?_) rfl rfl (by kernel_rfl) (by kernel_rfl) (by kernel_rfl) (fun _ _ _ h => h) (Or.inl ⟨by rfl, ?_⟩) hHeld ?_
      rotate_left
      focus (intro w hSw; (try dsimp only at hSw); go_simp; try with_reducible rfl)
      simp only [List.setIfInBounds_toArray, List.set_cons_zero, List.set_cons_succ]
      refine wpAnyH_takeD 3 (v := ?_) rfl rfl (by kernel_rfl) (by kernel_rfl) (by kernel_rfl) (fun _ _ _ h => h) (Or.inl ⟨by rfl, ?_⟩) hHeld ?_
      rotate_left
      focus (intro w hSw; (try dsimp only at hSw); go_simp; try with_reducible rfl)
      simp only [List.setIfInBounds_toArray, List.set_cons_zero, List.set_cons_succ]
      refine wpAnyH_takeD 4 (v := ?_) rfl rfl (by kernel_rfl) (by kernel_rfl) (by kernel_rfl) (fun _ _ _ h => h) (Or.inl ⟨by rfl, ?_⟩) hHeld ?_
      rotate_left
      focus (intro w hSw; (try dsimp only at hSw); go_simp; try with_reducible rfl)
      simp only [List.setIfInBounds_toArray, List.set_cons_zero, List.set_cons_succ]
      refine wpAnyH_takeD 5 (v := ?_) rfl rfl (by kernel_rfl) (by kernel_rfl) (by kernel_rfl) (fun _ _ _ h => h) (Or.inl ⟨by rfl, ?_⟩) hHeld ?_
      rotate_left
      focus (intro w hSw; (try dsimp only at hSw); go_simp; try with_reducible rfl)
      simp only [List.setIfInBounds_toArray, List.set_cons_zero, List.set_cons_succ]
      refine wpAnyH_takeD 6 (v := ?_) rfl rfl (by kernel_rfl) (by kernel_rfl) (by kernel_rfl) (fun _ _ _ h => h) (Or.inl ⟨by rfl, ?_⟩) hHeld ?_
      rotate_left
      focus (intro w hSw; (try dsimp only at hSw); go_simp; try with_reducible rfl)
      simp only [List.setIfInBounds_toArray, List.set_cons_zero, List.set_cons_succ]
      refine wpAnyH_done (by kernel_rfl) ?_ _
      rename_i K9 hK9'
      show K9 _ _
      refine hK9' _ _ ?_
      clear hK9' K9
      try gi_wp2
      refine ⟨by simp, .inl ⟨_, _, rfl, run_takeDeferred HK9.out, ?_⟩⟩
      exact ⟨_, (by simp [results, Tryz.results108, go_sem]), HF.out⟩
    case stop =>
      rintro D c pre W _ _ h _
      exact h.elim
  clear hK0
  refine wpIn_mono (Q := Exit.then K0 (fun _ _ _ => False)) ?_ (by rintro e a w h; cases e <;> first | exact h | exact h.elim)
  refine wpIn_region_any (by kernel_rfl) ?_
  change wpAnyIn _ _ _ _ _ _ _ _ _ (World.drew _)
  refine wpAnyIn_of_held (fun W' => W'.cell? ⟨w.heap.size, 0, none⟩ = some (.int .i64 (n : Nat))) (by rintro ⟨a, w', h⟩; exact h) (o1.cell) (fun hHeld => ?_)
  refine wpAnyH_takeD 0 (v := ?_) rfl rfl (by kernel_rfl) (by kernel_rfl) (by kernel_rfl) (fun _ _ _ h => h) (Or.inl ⟨by rfl, ?_⟩) hHeld ?_
  rotate_left
  focus (intro w hSw; go_simp; try with_reducible rfl)
  refine wpAnyH_takeD 1 (v := ?_) rfl rfl (by kernel_rfl) (by kernel_rfl) (by kernel_rfl) (fun _ _ _ h => h) (Or.inl ⟨by rfl, ?_⟩) hHeld ?_
  rotate_left
  focus (intro w hSw; go_simp; try with_reducible rfl)
  refine wpAnyH_takeD 3 (v := ?_) rfl rfl (by kernel_rfl) (by kernel_rfl) (by kernel_rfl) (fun _ _ _ h => h) (Or.inl ⟨by rfl, ?_⟩) hHeld ?_
  rotate_left
  focus (intro w hSw; go_simp; try with_reducible rfl)
  refine wpAnyH_takeD 4 (v := ?_) rfl rfl (by kernel_rfl) (by kernel_rfl) (by kernel_rfl) (fun _ _ _ h => h) (Or.inl ⟨by rfl, ?_⟩) hHeld ?_
  rotate_left
  focus (intro w hSw; go_simp; try with_reducible rfl)
  refine wpAnyH_ready (rs := [2, 6]) (by kernel_rfl) (by simp) ?_
  have hle1 : (n : Int) ≤ (n : Int) + 1 := by omega
  have hle0 : (0 : Int) ≤ (n : Int) := by omega
  have hle2 : n ≤ n + 1 := by omega
  refine AllReadyH.cons rfl (fun K hK => ?_) ?_
  · go_simp
    refine (HD.out _ b1.drew).mono ?_
    rintro e w2 ⟨rfl, dv, hdv, hDV, hb2⟩
    have o2 : One w2 w.heap.size (.int .i64 (n : Nat)) 3 := One.step (w := w1.drew) o1 hb2
    have b2 : Below w.heap.size w w2 := b1.drew.trans (hb2.mono (by show w.heap.size ≤ w1.heap.size; omega))
    have hg2 := hdv.lt
    refine hK.out _ _ o2.cell (fun hHeld => ?_)
    clear hK K
    refine wpAnyH_takeD 5 (v := ?_) rfl rfl (by kernel_rfl) (by kernel_rfl) (by kernel_rfl) (fun _ _ _ h => h) (Or.inl ⟨by rfl, ?_⟩) hHeld ?_
    rotate_left
    focus (intro w hSw; go_simp; try with_reducible rfl)
    refine wpAnyH_ready (rs := [6]) (by kernel_rfl) (by simp) ?_
    refine AllReadyH.cons rfl (fun K hK => ?_) AllReadyH.nil
    go_simp
    refine hK.out _ _ (o2.alloc _).cell (fun hHeld => ?_)
    clear hK K
    refine wpAnyH_ready (rs := [7]) (by kernel_rfl) (by simp) ?_
    refine AllReadyH.cons rfl (fun K hK => ?_) AllReadyH.nil
    go_simp
    have bz := (Below.refl w2.heap.size w2).alloc (Nat.le_refl _) (.cells #[.slice (some ⟨w.heap.size + 1, 0, none⟩) n n] 22)
    refine hK.out _ _ (o2.step bz).cell (fun hHeld => ?_)
    refine wpAnyH_done (by kernel_rfl) ?_ _
    have hdv2 : RowU w2 (w.heap.size + 1) (n + 1) dv := by rw [← s1]; exact hdv
    have hlt2 := hdv2.lt
    exact cut _ _ _ dv (o2.step bz) (One.new w2 _ _) (hdv2.below bz hlt2) hDV (by omega) (by omega) (by omega) (b2.trans (bz.mono b2.size))
  refine AllReadyH.cons rfl (fun K hK => ?_) AllReadyH.nil
  go_simp
  have ob := One.new w1.drew (.slice none 0 0) 22
  have ba : Below w1.heap.size w1 (w1.drew.alloc (.cells #[.slice none 0 0] 22)) := (Below.refl _ w1).drew.alloc (Nat.le_refl _) _
  have o2 := One.step (w := w1) o1 ba
  refine hK.out _ _ o2.cell (fun hHeld => ?_)
  clear hK K
  refine wpAnyH_ready (rs := [2]) (by kernel_rfl) (by simp) ?_
  refine AllReadyH.cons rfl (fun K hK => ?_) AllReadyH.nil
  go_simp
  have b2 : Below w.heap.size w _ := b1.trans (ba.mono (by omega))
  refine (HD.out _ b2).mono ?_
  rintro e w2 ⟨rfl, dv, hdv, hDV, hb2⟩
  have e1 : w1.drew.heap.size = w.heap.size + 1 := s1
  have e2 : (w1.drew.alloc (.cells #[.slice none 0 0] 22)).heap.size = w.heap.size + 1 + 1 := by simp [s1]
  rw [e2] at hdv
  have o3 := o2.step hb2
  have ob3 := ob.step hb2
  rw [e1] at ob3
  have hob3 := ob3.cell
  have hob4 := ob3.frozen
  refine hK.out _ _ o3.cell (fun hHeld => ?_)
  clear hK K
  refine wpAnyH_takeD 5 (v := ?_) rfl rfl (by kernel_rfl) (by kernel_rfl) (by kernel_rfl) (fun _ _ _ h => h) (Or.inl ⟨by rfl, ?_⟩) hHeld ?_
  rotate_left
  focus (intro w hSw; go_simp; try with_reducible rfl)
  refine wpAnyH_ready (rs := [7]) (by kernel_rfl) (by simp) ?_
  refine AllReadyH.cons rfl (fun K hK => ?_) AllReadyH.nil
  go_simp
  have o4 := o3.far (p := ⟨w.heap.size + 1, 0, none⟩) (by show w.heap.size ≠ w.heap.size + 1; omega) (.slice (some ⟨w.heap.size + 1 + 1, 0, none⟩) n n)
  refine hK.out _ _ o4.cell (fun hHeld => ?_)
  refine wpAnyH_done (by kernel_rfl) ?_ _
  exact cut _ _ _ dv o4 (ob3.set_ _) (Row.far hdv (p := ⟨w.heap.size + 1, 0, none⟩) (by show w.heap.size + 1 + 1 ≠ w.heap.size + 1; omega) _) hDV (by omega) (by omega) (by omega) ((b2.trans (hb2.mono b2.size)).setCell (by show w.heap.size ≤ w.heap.size + 1; omega) _)
end Go.Proofs.YthfjbpbgnoonpaaGreatDoor
