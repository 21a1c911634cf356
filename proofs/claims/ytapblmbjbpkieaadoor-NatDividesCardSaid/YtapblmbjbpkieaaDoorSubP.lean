/- Plain facts: long division digit by digit. Contracts of package nat: subtractProduct. -/
import Derived.Test.YtapblmbjbpkieaaDoorLawSums
namespace Go.Proofs.YtapblmbjbpkieaaDoor

/-- The guess g for the quotient of p by v is right, or too great by one. -/
def Guess (p v g : Nat) : Prop := p < (g + 1) * v ∧ (0 < g → (g - 1) * v ≤ p)
/-- p: the top three digits T before P; v: the top two digits V before P. -/
theorem guess_fail {P T V vlo plo g : Nat} (hp : plo < P) (h : T < g * V) : T * P + plo < g * (V * P + vlo) := by
  have h1 : (T + 1) * P ≤ g * V * P := Nat.mul_le_mul_right _ h
  rw [Nat.add_mul, Nat.one_mul] at h1
  rw [Nat.mul_add, ← Nat.mul_assoc]
  omega
theorem guess_exit {P T V vlo plo g : Nat} (hv : vlo < P) (h : g * V ≤ T) (hg : g ≤ V + 1) (h0 : 0 < g) : (g - 1) * (V * P + vlo) ≤ T * P + plo := by
  obtain ⟨k, rfl⟩ : ∃ k, g = k + 1 := ⟨g - 1, by omega⟩
  rw [Nat.add_sub_cancel]
  have h1 : (k + 1) * V * P ≤ T * P := Nat.mul_le_mul_right _ h
  have h2 : k * vlo ≤ V * P := Nat.mul_le_mul (by omega) (Nat.le_of_lt hv)
  rw [Nat.mul_add, ← Nat.mul_assoc]
  rw [Nat.add_mul, Nat.one_mul, Nat.add_mul] at h1
  omega
theorem guess_init_at {B P X p2 v1 v2 vlo plo g : Nat} (hB : p2 < B) (hp : plo < P) (h1 : X < (g + 1) * v1) : (X * B + p2) * P + plo < (g + 1) * ((v1 * B + v2) * P + vlo) := by
  generalize g + 1 = G at *
  have h2 : (X + 1) * B ≤ G * v1 * B := Nat.mul_le_mul_right _ h1
  have h3 : (X * B + p2 + 1) * P ≤ G * v1 * B * P := Nat.mul_le_mul_right _ (by rw [Nat.add_mul, Nat.one_mul] at h2; omega)
  have e : (v1 * B + v2) * P + vlo = v1 * B * P + (v2 * P + vlo) := by rw [Nat.add_mul]; omega
  rw [e, Nat.mul_add, ← Nat.mul_assoc, ← Nat.mul_assoc]
  rw [Nat.add_mul, Nat.one_mul] at h3
  omega
theorem guess_init {B P u p1 p2 v1 v2 vlo plo : Nat} (hB : p2 < B) (hp : plo < P) (hv : 0 < v1) : ((u * B + p1) * B + p2) * P + plo < ((u * B + p1) / v1 + 1) * ((v1 * B + v2) * P + vlo) :=
  guess_init_at hB hp (by have := Nat.lt_mul_div_succ (u * B + p1) hv; rw [Nat.mul_comm v1] at this; exact this)
/-- The test of the guess, in the digits' own words: r is what is left of the two top digits. -/
theorem guess_test {B u p1 p2 v1 v2 g r : Nat} (hr : g * v1 + r = u * B + p1) : (g * v2 ≤ r * B + p2) ↔ (g * (v1 * B + v2) ≤ (u * B + p1) * B + p2) := by
  rw [← hr, Nat.mul_add, Nat.add_mul, ← Nat.mul_assoc]
  omega
theorem guess_max {B Q v1 w1 plo p : Nat} (hB : B ≤ 2 * v1 + 2) (hB2 : 2 ≤ B) (hv : w1 < (v1 + 1) * Q) (hp : p = v1 * (B * Q) + plo) (hlt : p < B * w1) : Guess p w1 (B - 1) := by
  refine ⟨by rw [Nat.sub_add_cancel (by omega)]; exact hlt, fun _ => ?_⟩
  obtain ⟨k, rfl⟩ : ∃ k, B = k + 2 := ⟨B - 2, by omega⟩
  have e : k + 2 - 1 - 1 = k := by omega
  rw [e, hp]
  have h1 : k * w1 ≤ k * ((v1 + 1) * Q) := Nat.mul_le_mul_left _ (Nat.le_of_lt hv)
  have h2 : k * (v1 + 1) ≤ v1 * (k + 2) := by
    rw [Nat.mul_add, Nat.mul_add, Nat.mul_comm k v1]
    omega
  have h3 : k * (v1 + 1) * Q ≤ v1 * (k + 2) * Q := Nat.mul_le_mul_right _ h2
  rw [← Nat.mul_assoc] at h1
  rw [← Nat.mul_assoc]
  omega
/-- The quotient's digit behind the correction. -/
def Digit (p v q r : Nat) : Prop := r + q * v = p ∧ r < v
/-- No borrow: the guess is the digit. -/
theorem digit_good {p v g r M : Nat} (hg : Guess p v g) (h : r + g * v = p + M * 0) : Digit p v g r := by
  refine ⟨by omega, ?_⟩
  have := hg.1
  rw [Nat.add_mul, Nat.one_mul] at this
  omega
/-- A borrow: the guess is too great by one, and the sum's carry undoes the borrow. -/
theorem digit_back {p v g r s c M : Nat} (hg : Guess p v g) (hr : r < M) (hs : s < M) (hc : c ≤ 1) (h : r + g * v = p + M * 1) (h2 : s + M * c = r + v) : 0 < g ∧ Digit p v (g - 1) s := by
  have h0 : 0 < g := by
    rcases Nat.eq_zero_or_pos g with rfl | h0
    · omega
    · exact h0
  have h3 := hg.2 h0
  obtain ⟨k, rfl⟩ : ∃ k, g = k + 1 := ⟨g - 1, by omega⟩
  rw [Nat.add_sub_cancel] at *
  rw [Nat.add_mul, Nat.one_mul] at h
  have h4 : c = 1 := by
    rcases Nat.eq_zero_or_pos c with rfl | hc1
    · omega
    · omega
  subst h4
  refine ⟨h0, by omega, by omega⟩
end Go.Proofs.YtapblmbjbpkieaaDoor

namespace Go.Proofs.YtapblmbjbpkieaaDoor
open Go.RowKit

theorem mul32_nat (x y h l : Nat) (w : World) (hx : x < 4294967296) (hy : y < 4294967296) (e1 : x * y / 4294967296 = h) (e2 : x * y % 4294967296 = l) :
    Calls Tryd.prog 61 #[.int .u32 (x : Int), .int .u32 (y : Int)] w fun e w' => e = .returned (.tuple #[.int .u32 (h : Int), .int .u32 (l : Int)]) ∧ w = w' := by
  refine (mul32_any x y w (by omega) (by omega)).mono ?_
  rintro e w' ⟨rfl, rfl⟩
  refine ⟨ret2_int ?_ ?_, rfl⟩
  · rw [← e1, ← Int.natCast_mul]; rfl
  · rw [← e2, ← Int.natCast_mul]; rfl
theorem add32_nat (x y l k : Nat) (w : World) (hx : x < 4294967296) (hy : y < 4294967296) (e1 : (x + y) % 4294967296 = l) (e2 : (x + y) / 4294967296 = k) :
    Calls Tryd.prog 62 #[.int .u32 (x : Int), .int .u32 (y : Int), .int .u32 0] w fun e w' => e = .returned (.tuple #[.int .u32 (l : Int), .int .u32 (k : Int)]) ∧ w = w' := by
  refine (add32_any x y 0 w (by omega) (by omega) (by omega)).mono ?_
  rintro e w' ⟨rfl, rfl⟩
  refine ⟨ret2_int ?_ ?_, rfl⟩
  · rw [← e1]; omega
  · rw [← e2]; omega
theorem sub32_nat (x y q b : Nat) (w : World) (hx : x < 4294967296) (hy : y < 4294967296) (e1 : subD x y 0 = q) (e2 : subB x y 0 = b) :
    Calls Tryd.prog 74 #[.int .u32 (x : Int), .int .u32 (y : Int), .int .u32 0] w fun e w' => e = .returned (.tuple #[.int .u32 (q : Int), .int .u32 (b : Int)]) ∧ w = w' := by
  refine (sub32_any x y 0 w (by omega) (by omega) (by omega)).mono ?_
  rintro e w' ⟨rfl, rfl⟩
  refine ⟨ret2_int ?_ ?_, rfl⟩
  · rw [← e1, ← subD_int hx hy (by omega)]; rfl
  · rw [← e2, ← subB_int]; rfl

/-- At the head of subtractProduct's loop: i digits are done, c is the borrow. -/
def SbpI (w : World) (g N : Nat) (f : Nat → Value) (off n : Nat) (s : Nat → Nat) (ds : List Nat) (m i c : Nat) (W : World) : Prop :=
  ∃ t : Nat → Nat, RowP W g N f off n t ∧ (∀ j, i ≤ j → t j = s j) ∧ (∀ j, t j < 4294967296) ∧
    val 4294967296 (seg t 0 i) + val 4294967296 (ds.take i) * m = val 4294967296 (seg s 0 i) + 4294967296 ^ i * c ∧ c < 4294967296 ∧ w.grownBy W (some g)
theorem sbp_math {t p v m o s d c q c' b : Nat} (h : t + v * m = o + p * c) (hq : q + (d * m + c) = s + b * c') : (t + p * q) + (v + p * d) * m = (o + p * s) + (p * b) * c' := by
  have h2 : p * (q + (d * m + c)) = p * (s + b * c') := by rw [hq]
  rw [Nat.mul_add, Nat.mul_add, Nat.mul_add, ← Nat.mul_assoc, ← Nat.mul_assoc] at h2
  have h4 : (v + p * d) * m = v * m + p * d * m := Nat.add_mul _ _ _
  omega
/-- One digit: what is left, and the next borrow. -/
theorem sbp_digit {x d m c : Nat} (hx : x < 4294967296) (hd : d < 4294967296) (hm : m < 4294967296) (hc : c < 4294967296) :
    ∃ h l lo k q b : Nat, d * m / 4294967296 = h ∧ d * m % 4294967296 = l ∧ (l + c) % 4294967296 = lo ∧ (l + c) / 4294967296 = k ∧ subD x lo 0 = q ∧ subB x lo 0 = b ∧
      l < 4294967296 ∧ lo < 4294967296 ∧ q < 4294967296 ∧ h + k + b < 4294967296 ∧ q + (d * m + c) = x + 4294967296 * (h + k + b) := by
  have hp : d * m ≤ 4294967295 * 4294967295 := Nat.mul_le_mul (by omega) (by omega)
  generalize d * m = p at *
  refine ⟨_, _, _, _, _, _, rfl, rfl, rfl, rfl, rfl, rfl, ?_, ?_, ?_, ?_, ?_⟩
  · omega
  · omega
  · unfold subD; omega
  · unfold subB; split <;> omega
  · unfold subD subB; split <;> omega

set_option maxRecDepth 100000 in
set_option maxHeartbeats 2000000 in
theorem subtractProduct_any {g N off n m cp cb : Nat} {k : Nat} {B : Option Addr} {f : Nat → Value} {s : Nat → Nat} {ds : List Nat} {w : World} (hk : k = ds.length) (hn : n = ds.length) (hlen : ds.length ≤ 1000000) (hm : m < 4294967296) (_hoff : off ≤ 1000000) (hfit : off + n ≤ N) (hd : ∀ d ∈ ds, d < 4294967296)
    (hs : ∀ j, s j < 4294967296) (hrow : RowP w g N f off n s) (hB : Cells w g B ds.length (u32f ds)) (hcp : n ≤ cp) :
    Calls Tryd.prog 85 #[.slice (some ⟨g, off, none⟩) n cp, .slice B k cb, .int .u32 (m : Int)] w fun e w' => ∃ c, e = .returned (.int .u32 (c : Nat)) ∧ SbpI w g N f off n s ds m ds.length c w' := by
  subst hk hn
  have HD := Lib.hid hd
  have HS := Lib.hid hs
  clear hd hs
  have hgl := hrow.lt
  go_enter Tryd.func85, Tryd.ntmps85
  go_wp2
  go_loopw [7, 15] (fun c i wr => ∃ (nc ni : Nat), i = .int .i64 ni ∧ c = .int .u32 nc ∧ ni ≤ ds.length ∧ nc < 4294967296 ∧ SbpI w g N f off ds.length s ds m ni nc wr) (fun _ i _ => ds.length - (intOf i).toNat)
  case atStart => exact ⟨0, 0, rfl, rfl, by omega, by omega, s, hrow, fun _ _ => rfl, HS.out, by simp [seg, val], by omega, World.grownBy.refl _ _⟩
  case round =>
    obtain ⟨c, i, rfl, rfl, hi, hc, hP⟩ := hrel
    by_cases hlt : i < ds.length
    · have hP2 := hP
      obtain ⟨t, hr, ht, hb, hv, _, hgr⟩ := hP2
      obtain ⟨a, rfl, hab, hcell⟩ := hB i hlt
      obtain ⟨d, hdd⟩ : ∃ d : Nat, d = ds.getD i 0 := ⟨_, rfl⟩
      have hd1 : d < 4294967296 := by rw [hdd]; exact getD_lt HD.out i hlt
      have hcell' : wr.cell? (a.add i) = some (.int .u32 d) := by
        have h0 : wr.heap[(a.add i).block]? = w.heap[(a.add i).block]? := hgr.block _ (by rw [add_block]; omega) (by rw [add_block]; intro e; injection e; omega)
        rw [World.cell?_of_block h0, hcell, hdd]; rfl
      obtain ⟨x, hx⟩ : ∃ x : Nat, x = s i := ⟨_, rfl⟩
      have hx1 : x < 4294967296 := by rw [hx]; exact HS.out _
      have hcs : wr.cell? ⟨g, off + i, none⟩ = some (.int .u32 x) := by
        rw [hr.cell hfit i (by omega), ht i (Nat.le_refl _), hx]
      have hfs := hr.frozen (off + i)
      obtain ⟨h0, l0, lo, k0, q, b, e1, e2, e3, e4, e5, e6, hl, hlo, hq, hb0, hqe⟩ := sbp_digit hx1 hd1 hm hc
      have hnext : Hid (SbpI w g N f off ds.length s ds m (i + 1) (h0 + k0 + b) (wr.setCell ⟨g, off + i, none⟩ (.int .u32 (q : Int)))) := by
        refine ⟨fun j => if j = i then q else t j, ?_, ?_, ?_, ?_, hb0, grown_setCell hgr (.inl rfl) _⟩
        · exact hr.set_ i hlt _ (fun j _ => rfl)
        · intro j hj
          show (if j = i then _ else t j) = s j
          rw [if_neg (by omega)]
          exact ht j (by omega)
        · intro j
          show (if j = i then _ else t j) < _
          by_cases h : j = i
          · rw [if_pos h]; exact hq
          · rw [if_neg h]; exact hb j
        · rw [seg_succ, val_snoc, seg_len, seg_succ, val_snoc, seg_len, take_snoc ds i hlt, val_snoc, List.length_take, Nat.min_eq_left (by omega), Nat.pow_succ]
          have e1 : seg (fun j => if j = i then q else t j) 0 i = seg t 0 i := seg_same fun j hj => if_neg (by omega)
          rw [e1]
          simp only [Nat.zero_add, if_true]
          rw [hdd, hx] at hqe
          exact sbp_math hv hqe
      have E1 := Lib.hid e1
      have E2 := Lib.hid e2
      have E3 := Lib.hid e3
      have E4 := Lib.hid e4
      have E5 := Lib.hid e5
      have E6 := Lib.hid e6
      clear hP hr ht hb hv hgr hcell hdd hx hrow hB e1 e2 e3 e4 e5 e6 hqe
      go_wp2_with (first | (go_at_call 61; refine (mul32_nat d m h0 l0 _ hd1 hm E1.out E2.out).mono ?_; rintro e w1 ⟨rfl, rfl⟩) | (go_at_call 62; refine (add32_nat l0 c lo k0 _ hl hc E3.out E4.out).mono ?_; rintro e w1 ⟨rfl, rfl⟩) | (go_at_call 74; refine (sub32_nat x lo q b _ hx1 hlo E5.out E6.out).mono ?_; rintro e w1 ⟨rfl, rfl⟩))
      go_roundw
      case rel => exact ⟨h0 + k0 + b, i + 1, by go_num, by go_num, by omega, hb0, hnext.out⟩
      case measure => simp [intOf]; omega
    · obtain rfl : i = ds.length := by omega
      go_wp2
      go_ret
      exact ⟨c, rfl, hP⟩
end Go.Proofs.YtapblmbjbpkieaaDoor
