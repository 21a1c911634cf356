/- Contract of package nat's divideStep. Contracts of package nat: shiftLeft. -/
import Derived.Test.YtapblmbjbpkieaaDoorGuess
namespace Go.Proofs.YtapblmbjbpkieaaDoor
open Go.RowKit

/-- The same row, with one digit fewer told. -/
theorem RowP.fewer {w : World} {g N off n : Nat} {f : Nat → Value} {t : Nat → Nat} (h : RowP w g N f off (n + 1) t) : RowP w g N (patch f off (n + 1) t) off n t := by
  refine Row.same h (fun j _ => ?_)
  unfold patch
  by_cases h1 : off ≤ j ∧ j < off + n
  · rw [if_pos (by omega), if_pos h1]
  · rw [if_neg h1]
/-- The top digit joined again. -/
theorem RowP.join {w : World} {g N off n : Nat} {f : Nat → Value} {t t2 : Nat → Nat} (h : RowP w g N (patch f off (n + 1) t) off n t2) : RowP w g N f off (n + 1) (fun j => if j < n then t2 j else t j) := by
  refine Row.same h (fun j _ => ?_)
  unfold patch
  by_cases h1 : off ≤ j ∧ j < off + n
  · rw [if_pos h1, if_pos (by omega)]
    dsimp only
    rw [if_pos (by omega)]
  · rw [if_neg h1]
    by_cases h2 : off ≤ j ∧ j < off + (n + 1)
    · rw [if_pos h2, if_pos h2]
      dsimp only
      rw [if_neg (by omega)]
    · rw [if_neg h2, if_neg h2]
theorem top_digit {x c : Nat} (hx : x < 4294967296) (hc : c < 4294967296) : ∃ q b : Nat, subD x c 0 = q ∧ subB x c 0 = b ∧ q < 4294967296 ∧ b ≤ 1 ∧ q + c = x + 4294967296 * b := by
  refine ⟨_, _, rfl, rfl, ?_, ?_, ?_⟩
  · unfold subD; omega
  · unfold subB; split <;> omega
  · unfold subD subB; split <;> omega
theorem step_math {T2 v q T P bw qd x b : Nat} (h : T2 + v * q = T + P * bw) (hq : qd + bw = x + 4294967296 * b) : (T2 + P * qd) + q * v = (T + P * x) + (P * 4294967296) * b := by
  have h2 : P * (qd + bw) = P * (x + 4294967296 * b) := by rw [hq]
  rw [Nat.mul_add, Nat.mul_add, ← Nat.mul_assoc] at h2
  rw [Nat.mul_comm q v]
  omega

def StepPost (w : World) (g N : Nat) (f : Nat → Value) (off n : Nat) (t : Nat → Nat) (v : Nat) (e : Ending) (w' : World) : Prop :=
  ∃ (q : Nat) (t' : Nat → Nat), e = .returned (.int .u32 (q : Int)) ∧ RowP w' g N f off (n + 1) t' ∧ (∀ j, t' j < 4294967296) ∧ Digit (val 4294967296 (seg t 0 (n + 1))) v q (val 4294967296 (seg t' 0 (n + 1))) ∧ q < 4294967296 ∧ w.grownBy w' (some g)

theorem step_top {W w2 : World} {g N off n q c : Nat} {f : Nat → Value} {t : Nat → Nat} {ds : List Nat} (hfit : off + (n + 1) ≤ N) (hP : SbpI W g N (patch f off (n + 1) t) off n t ds q n c w2) :
    w2.cell? ⟨g, off + n, none⟩ = some (.int .u32 (t n : Nat)) ∧ w2.frozen? ⟨g, off + n, none⟩ = false ∧ c < 4294967296 := by
  obtain ⟨t2, h1, _, _, _, h5, _⟩ := hP
  refine ⟨?_, h1.frozen _, h5⟩
  rw [h1.join.cell hfit n (by omega)]
  simp
/-- Behind the subtraction: the row, and what it stands for. -/
theorem step_row {W w2 : World} {g N off n q c qd b x : Nat} {f : Nat → Value} {t : Nat → Nat} {ds : List Nat} (hn : ds.length = n) (ht : ∀ j, t j < 4294967296) (hxt : x = t n) (hP : SbpI W g N (patch f off (n + 1) t) off n t ds q n c w2) (hqd : qd < 4294967296) (hqe : qd + c = x + 4294967296 * b) :
    ∃ t3 : Nat → Nat, RowP (w2.setCell ⟨g, off + n, none⟩ (.int .u32 (qd : Int))) g N f off (n + 1) t3 ∧ (∀ j, t3 j < 4294967296) ∧
      val 4294967296 (seg t3 0 (n + 1)) + q * val 4294967296 ds = val 4294967296 (seg t 0 (n + 1)) + 4294967296 ^ (n + 1) * b ∧ W.grownBy (w2.setCell ⟨g, off + n, none⟩ (.int .u32 (qd : Int))) (some g) := by
  obtain ⟨t2, hr, _, hb2, hv, _, hgr⟩ := hP
  refine ⟨fun j => if j = n then qd else if j < n then t2 j else t j, hr.join.set_ n (by omega) qd (fun j _ => rfl), ?_, ?_, grown_setCell hgr (.inl rfl) _⟩
  · intro j
    show (if j = n then qd else if j < n then t2 j else t j) < _
    split
    · exact hqd
    · split
      · exact hb2 j
      · exact ht j
  · rw [seg_succ, val_snoc, seg_len, seg_succ, val_snoc, seg_len, Nat.zero_add, Nat.pow_succ]
    have e1 : seg (fun j => if j = n then qd else if j < n then t2 j else t j) 0 n = seg t2 0 n := seg_same fun j hj => by
      show (if 0 + j = n then qd else if 0 + j < n then t2 (0 + j) else t (0 + j)) = _
      rw [if_neg (by omega), if_pos (by omega)]
    rw [e1, if_pos rfl, ← hxt]
    rw [List.take_of_length_le (by omega)] at hv
    exact step_math hv hqe

theorem grown_drew {a w : World} {row : Option Nat} (h : a.grownBy w row) : a.grownBy w.drew row := ⟨h.os, h.tape, h.output, h.size, h.block⟩
theorem cells_grown {w w' : World} {g n : Nat} {B : Option Addr} {f : Nat → Value} (h : Cells w g B n f) (hg : w.grownBy w' (some g)) (hgl : g ≤ w.heap.size) : Cells w' g B n f :=
  h.keep fun p hp => World.cell?_of_block (hg.block p.block (by omega) (by intro e; injection e; omega))
/-- The end without a borrow. -/
theorem step_good {w w1 w3 : World} {g N off n q : Nat} {f : Nat → Value} {t : Nat → Nat} {v : Nat} {B : Option Addr} {u : Nat → Value} (hq : Guess (val 4294967296 (seg t 0 (n + 1))) v q) (hq1 : q < 4294967296) (HR : RowP w1 g N f off (n + 1) t ∧ Cells w1 g B n u ∧ w.grownBy w1 (some g))
    (HS : ∃ t3 : Nat → Nat, RowP w3 g N f off (n + 1) t3 ∧ (∀ j, t3 j < 4294967296) ∧ val 4294967296 (seg t3 0 (n + 1)) + q * v = val 4294967296 (seg t 0 (n + 1)) + 4294967296 ^ (n + 1) * 0 ∧ w1.drew.grownBy w3 (some g)) :
    StepPost w g N f off n t v (.returned (.int .u32 (q : Int))) w3 := by
  obtain ⟨t3, h1, h2, h3, h4⟩ := HS
  exact ⟨q, t3, rfl, h1, h2, digit_good hq h3, hq1, (grown_drew HR.2.2).trans h4⟩
theorem step_pos {q v p M : Nat} {t3 : Nat → Nat} {n : Nat} (hM : M = 4294967296 ^ (n + 1)) (h2 : ∀ j, t3 j < 4294967296) (h3 : val 4294967296 (seg t3 0 (n + 1)) + q * v = p + M * 1) : 0 < q := by
  rcases Nat.eq_zero_or_pos q with rfl | h
  · have := seg_val_lt h2 0 (n + 1)
    rw [← hM] at this
    omega
  · exact h
/-- The end behind a borrow. -/
theorem step_back {w w1 w3 w4 : World} {g N off n q : Nat} {f : Nat → Value} {t t3 : Nat → Nat} {v : Nat} {B : Option Addr} {u : Nat → Value} {e : Ending} (hq : Guess (val 4294967296 (seg t 0 (n + 1))) v q) (hq1 : q < 4294967296) (HR : RowP w1 g N f off (n + 1) t ∧ Cells w1 g B n u ∧ w.grownBy w1 (some g))
    (h2 : ∀ j, t3 j < 4294967296) (h3 : val 4294967296 (seg t3 0 (n + 1)) + q * v = val 4294967296 (seg t 0 (n + 1)) + 4294967296 ^ (n + 1) * 1) (h4 : w1.drew.grownBy w3 (some g)) (hA : AddPost w3 g N f off (n + 1) t3 v e w4) :
    StepPost w g N f off n t v (.returned (.int .u32 ((q : Int) - 1))) w4 := by
  obtain ⟨c, t4, -, a1, a2, a3, a4, a5⟩ := hA
  obtain ⟨hq0, hD⟩ := digit_back hq (seg_val_lt h2 0 (n + 1)) (seg_val_lt a2 0 (n + 1)) a4 h3 a3
  exact ⟨q - 1, t4, ret_int (by omega), a1, a2, hD, by omega, ((grown_drew HR.2.2).trans h4).trans a5⟩

set_option maxRecDepth 100000 in
set_option maxHeartbeats 3000000 in
theorem divideStep_any {g N off n m k cp cb : Nat} {B : Option Addr} {f : Nat → Value} {t : Nat → Nat} {ds : List Nat} {w : World} (hm : m = n + 1) (hk : k = n) (hn : ds.length = n) (h2 : 2 ≤ n) (hnn : n ≤ 900000) (hoff : off ≤ 1000000) (hfit : off + (n + 1) ≤ N)
    (ht : ∀ j, t j < 4294967296) (hd : ∀ d ∈ ds, d < 4294967296) (htop : 2147483648 ≤ ds.getD (n - 1) 0) (hrow : RowP w g N f off (n + 1) t)
    (hB : Cells w g B n (u32f ds)) (hlt : val 4294967296 (seg t 1 n) < val 4294967296 ds) (hcp : m ≤ cp) :
    Calls Tryd.prog 77 #[.slice (some ⟨g, off, none⟩) m cp, .slice B k cb] w (StepPost w g N f off n t (val 4294967296 ds)) := by
  subst hm hk
  have hvd : val 4294967296 (seg (fun j => ds.getD j 0) 0 k) = val 4294967296 ds := by rw [← hn, seg_getD]
  have hG := guessDigit_any (w := w) (g := g) (off := off) (n := k) (cp := cp) (cb := cb) (B := B) (t := t) (d := fun j => ds.getD j 0) rfl h2 (by omega) hoff (fun j hj => hrow.cell hfit j (by omega)) ht (fun j => getD_lt0 (by omega) hd j) htop hB (by rw [hvd]; exact hlt) hcp
  rw [hvd] at hG
  have HG := Lib.hid hG
  have HTT := Lib.hid ht
  have HDD := Lib.hid hd
  have HN := Lib.hid hn
  have hgl := hrow.lt
  obtain ⟨x, hx⟩ : ∃ x, x = t k := ⟨_, rfl⟩
  have hx1 : x < 4294967296 := by rw [hx]; exact ht k
  have HX := Lib.hid hx
  clear hG hvd htop hlt ht hd hn hx
  go_enter Tryd.func77, Tryd.ntmps77
  go_wp2_with fail
  refine HG.out.mono ?_
  rintro e w1 ⟨q, rfl, hq, hq1, kk, hw1⟩
  have HQ := Lib.hid hq
  have hrow1 : RowP w1 g N f off (k + 1) t := by rw [hw1]; exact hrow
  have hB1 : Cells w1 g B k (u32f ds) := by rw [hw1]; exact hB
  have hgr1 : w.grownBy w1 (some g) := by rw [hw1]; exact grown_drewN (World.grownBy.refl _ _) kk
  have hcn : w1.cell? ⟨g, off + k, none⟩ = some (.int .u32 (x : Nat)) := by rw [hrow1.cell hfit k (by omega), HX.out]
  have hfn := hrow1.frozen (off + k)
  have hcd : w1.drew.cell? ⟨g, off + k, none⟩ = some (.int .u32 (x : Nat)) := hcn
  have hfd : w1.drew.frozen? ⟨g, off + k, none⟩ = false := hfn
  have HSP := Lib.hid (subtractProduct_any (w := w1.drew) (g := g) (N := N) (off := off) (n := k) (m := q) (cp := k) (cb := cb) (k := k) (B := B) (f := patch f off (k + 1) t) (s := t) (ds := ds) HN.out.symm HN.out.symm (by rw [HN.out]; omega) hq1 hoff (by omega) HDD.out HTT.out hrow1.fewer (by rw [HN.out]; exact hB1) (Nat.le_refl _))
  have HR1 := Lib.hid (And.intro hrow1 (And.intro hB1 hgr1))
  clear hq hw1 hrow hB hrow1 hB1 hgr1 HG
  rw [HN.out] at HSP
  have hk0 : ¬ (cp = 0) := by omega
  go_wp2_with fail
  go_region_with (first | (go_at_call 85; go_loud (refine HSP.out.mono ?_; rintro e w2 ⟨c, rfl, hP⟩; obtain ⟨hc2, hf2, hc1⟩ := step_top hfit hP; rw [← HX.out] at hc2; obtain ⟨qd, b, e5, e6, hqd, hb1, hqe⟩ := top_digit (x := x) (c := c) hx1 hc1; have E5 := Lib.hid e5; have E6 := Lib.hid e6; have HS := Lib.hid (step_row HN.out HTT.out HX.out hP hqd hqe); clear e5 e6 hqe hP)) | (go_at_call 74; refine (sub32_nat x _ _ _ _ hx1 hc1 E5.out E6.out).mono ?_; rintro e w3 ⟨rfl, rfl⟩))
  all_goals
    have hb : b = 0 ∨ b = 1 := by omega
    clear HSP hcn hfn hcd hfd hc2 hf2 E5 E6
    rcases hb with rfl | rfl
    · have hfin := Lib.hid (step_good HQ.out hq1 HR1.out HS.out)
      clear HS
      go_wp2_with fail
      go_ret
      exact hfin.out
    · obtain ⟨t3, h1, h2, h3, h4⟩ := HS.out
      have hq0 := step_pos rfl h2 h3
      have hA := Lib.hid (addTo_any (n := k + 1) (cp := cp) (cb := cb) HN.out.symm (by rw [HN.out]; omega) (by omega) hoff hfit HDD.out h2 h1 (by rw [HN.out]; exact cells_grown (w := w1.drew) HR1.out.2.1 h4 (by have := HR1.out.1.lt; exact Nat.le_of_lt this)) hcp)
      have hfin := Lib.hid (fun e w4 h => step_back (e := e) (w4 := w4) HQ.out hq1 HR1.out h2 h3 h4 h)
      clear HS h1 h2 h3 h4
      go_wp2_with (go_at_call 54; refine hA.out.mono ?_; rintro e w4 hp; obtain ⟨c4, rfl⟩ : ∃ c4 : Nat, e = .returned (.int .u32 (c4 : Int)) := (by obtain ⟨c4, _, h, _⟩ := hp; exact ⟨c4, h⟩); have HP4 := Lib.hid hp; clear hp)
      go_ret
      exact hfin.out _ _ HP4.out
end Go.Proofs.YtapblmbjbpkieaaDoor

namespace Go.Proofs.YtapblmbjbpkieaaDoor
open Go.RowKit

theorem pow_split {s : Nat} (hs : s ≤ 32) : 2 ^ (32 - s) * 2 ^ s = 4294967296 := by
  rw [← Nat.pow_add, Nat.sub_add_cancel hs]
theorem shift_hi (d : Nat) {s : Nat} (hs : s ≤ 32) : d / 2 ^ (32 - s) = d * 2 ^ s / 4294967296 := by
  rw [← pow_split hs, Nat.mul_div_mul_right _ _ (Nat.pow_pos (by omega))]
/-- The parts of a digit's product by a power of two. -/
theorem shift_parts {d c s : Nat} (hs : s ≤ 31) (hd : d < 4294967296) (hc : c < 2 ^ s) : ∃ lo hi : Nat, d * 2 ^ s % 4294967296 = lo ∧ d * 2 ^ s / 4294967296 = hi ∧ lo ||| c = c + lo ∧ lo < 4294967296 ∧ c + lo < 4294967296 ∧ hi < 2 ^ s ∧ hi < 4294967296 ∧ c < 4294967296 ∧ (c + lo) + 4294967296 * hi = c + d * 2 ^ s := by
  have h2 : (2 : Nat) ^ s ≤ 2 ^ 31 := Nat.pow_le_pow_right (by omega) hs
  have h31 : (2 : Nat) ^ 31 = 2147483648 := rfl
  have hp : 0 < 2 ^ s := Nat.pow_pos (by omega)
  have hsp := pow_split (s := s) (by omega)
  have hlo : d * 2 ^ s % 4294967296 = (d % 2 ^ (32 - s)) * 2 ^ s := by
    rw [← hsp, Nat.mul_mod_mul_right]
  have hm : d % 2 ^ (32 - s) < 2 ^ (32 - s) := Nat.mod_lt _ (Nat.pow_pos (by omega))
  have hlt : (d % 2 ^ (32 - s) + 1) * 2 ^ s ≤ 2 ^ (32 - s) * 2 ^ s := Nat.mul_le_mul_right _ hm
  rw [Nat.add_mul, Nat.one_mul, hsp, ← hlo] at hlt
  have hhi : d * 2 ^ s / 4294967296 < 2 ^ s := by
    rw [Nat.div_lt_iff_lt_mul (by omega), Nat.mul_comm]
    exact Nat.mul_lt_mul_of_pos_left hd hp
  have hor : d * 2 ^ s % 4294967296 ||| c = c + d * 2 ^ s % 4294967296 := by
    rw [hlo, Nat.mul_comm, ← Nat.two_pow_add_eq_or_of_lt hc, Nat.add_comm]
  refine ⟨_, _, rfl, rfl, hor, Nat.mod_lt _ (by omega), by omega, hhi, by omega, by omega, by omega⟩
theorem run_shl (d s lo : Nat) (hs : s ≤ 32) (e : d * 2 ^ s % 4294967296 = lo) : Op.shift .shl .u32 (d : Int) .i64 (s : Int) = pure (.int .u32 (lo : Int)) := by
  have h0 : (0 : Int) ≤ (s : Int) := by omega
  have h1 : (s : Int) ≤ 32 := by omega
  refine (shift_shl .u32 .i64 (d : Int) (s : Int) h0 h1).trans ?_
  rw [Int.toNat_natCast]
  congr 2
  rw [← e]
  show IntKind.u32.wrap ((d : Int) * 2 ^ s) = _
  have : ((d : Int) * 2 ^ s) = ((d * 2 ^ s : Nat) : Int) := by simp
  rw [this]
  generalize d * 2 ^ s = x
  simp [IntKind.wrap, IntKind.bits, IntKind.signed]
theorem run_shr (d s hi : Nat) (hs : s ≤ 32) (e : d * 2 ^ s / 4294967296 = hi) : Op.shift .shr .u32 (d : Int) .i64 (32 - (s : Int)) = pure (.int .u32 (hi : Int)) := by
  have h0 : (0 : Int) ≤ 32 - (s : Int) := by omega
  have h1 : 32 - (s : Int) ≤ 32 := by omega
  refine (shift_shr .u32 .i64 (d : Int) (32 - (s : Int)) h0 h1).trans ?_
  rw [show (32 - (s : Int)).toNat = 32 - s by omega]
  congr 2
  rw [← e, ← shift_hi d hs]
  simp
theorem run_or (x y : Nat) (hx : x < 4294967296) (hy : y < 4294967296) {z : Nat} (e : y ||| x = z) : bits BinOp.or IntKind.u32 (x : Int) (y : Int) = (z : Int) := by
  rw [u32_or_nat x y hx hy, Nat.or_comm, e]

/-- At the head of shiftLeft's loop: i digits are shifted, the carry is laid. -/
def ShlI (w : World) (g m s : Nat) (ds : List Nat) (i : Nat) (W : World) : Prop :=
  ∃ t : Nat → Nat, RowU W g (m + 1) t ∧ (∀ j, t j < 4294967296) ∧ (∀ j, i < j → t j = 0) ∧ t i < 2 ^ s ∧ val 4294967296 (seg t 0 (i + 1)) = val 4294967296 (ds.take i) * 2 ^ s ∧ Below w.heap.size w W
def ShlPost (w : World) (m s : Nat) (ds : List Nat) (e : Ending) (w' : World) : Prop := e = .returned (.slice (some ⟨w.heap.size, 0, none⟩) (m + 1) (m + 1)) ∧ ShlI w w.heap.size m s ds m w'
theorem shl_math {T P v s c lo hi d : Nat} (h : T + P * c = v * s) (e : (c + lo) + 4294967296 * hi = c + d * s) : T + P * (c + lo) + P * 4294967296 * hi = (v + P * d) * s := by
  have h2 : P * ((c + lo) + 4294967296 * hi) = P * (c + d * s) := by rw [e]
  rw [Nat.mul_add, Nat.mul_add P c (d * s), ← Nat.mul_assoc, ← Nat.mul_assoc] at h2
  rw [Nat.add_mul]
  omega

set_option maxRecDepth 100000 in
set_option maxHeartbeats 2000000 in
theorem shiftLeft_any {A : Option Addr} {n c s : Nat} {ds : List Nat} {w : World} (hn : n = ds.length) (hlen : ds.length ≤ 900000) (hs : s ≤ 31) (hd : ∀ d ∈ ds, d < 4294967296) (hA : Cells w w.heap.size A ds.length (u32f ds)) :
    Calls Tryd.prog 76 #[.slice A n c, .int .i64 (s : Int)] w (ShlPost w ds.length s ds) := by
  subst hn
  obtain ⟨i0, hi, hz0, hz1, hz2⟩ := info_parts infoU32
  have HD := Lib.hid hd
  have HS := Lib.hid hs
  have hw3 : IntKind.i64.wrap (32 - (s : Int)) = 32 - (s : Int) := IntWalk.i64_in _ (by omega)
  clear hd hs
  go_enter Tryd.func76, Tryd.ntmps76
  go_wp2_with (refine wpList_make_row rfl (.tmp 10) (.tmp 10) _ rfl 71 i0 _ Tryd.underlying22 hi hz0 hz1 rfl _ _ _ _ (ds.length + 1) rfl rfl (by rw [Int.natCast_add]; rfl) (by rw [Int.natCast_add]; rfl) (by rw [hz2]; omega) (by simp [maxLen]; omega) w w.heap.size (Below.refl _ _) (Nat.le_refl _) ?_; intro w1 hrow hb1 hs1)
  have hI0 : ShlI w w.heap.size ds.length s ds 0 w1 := ⟨fun _ => 0, hrow.out, fun _ => by show (0 : Nat) < 4294967296; decide, fun _ _ => rfl, Nat.pow_pos (by omega), by simp [seg, val], hb1.out⟩
  clear hrow hb1 hs1 hi hz0 hz1 hz2
  go_loopw [14] (fun i wr => ∃ ni : Nat, i = .int .i64 ni ∧ ni ≤ ds.length ∧ ShlI w w.heap.size ds.length s ds ni wr) (fun i _ => ds.length - (intOf i).toNat)
  case atStart => exact ⟨0, rfl, by omega, hI0⟩
  case round =>
    obtain ⟨i, rfl, hil, hI⟩ := hrel
    clear hI0
    by_cases hlt : i < ds.length
    · obtain ⟨t, hr, htB, ht0, htc, hv, hbw⟩ := hI
      obtain ⟨a, rfl, hab, hcell⟩ := hA i hlt
      obtain ⟨d, hdd⟩ : ∃ d : Nat, d = ds.getD i 0 := ⟨_, rfl⟩
      have hd1 : d < 4294967296 := by rw [hdd]; exact getD_lt HD.out i hlt
      have hcell' : wr.cell? (a.add i) = some (.int .u32 d) := by rw [hbw.cell (by rw [add_block]; exact hab), hcell, hdd]; rfl
      obtain ⟨cy, hcy⟩ : ∃ cy, cy = t i := ⟨_, rfl⟩
      rw [← hcy] at htc
      have hc0 : wr.cell? ⟨w.heap.size, i, none⟩ = some (.int .u32 (cy : Nat)) := by rw [hr.cell i (by omega), hcy]
      have hf0 := hr.frozen i
      have hc1 : wr.cell? ⟨w.heap.size, i + 1, none⟩ = some (.int .u32 0) := by rw [hr.cell (i + 1) (by omega), ht0 (i + 1) (by omega)]; rfl
      have hf1 := hr.frozen (i + 1)
      obtain ⟨lo, hi2, e1, e2, e3, hlo, hcl, hhi, hhi2, hcyB, he⟩ := shift_parts HS.out hd1 htc
      have hE1 := run_shl d s lo (by have := HS.out; omega) e1
      have hE2 := run_shr d s hi2 (by have := HS.out; omega) e2
      have hE3 := run_or cy lo hcyB hlo e3
      have hnext : Hid (∀ W' : World, W' = ((wr.setCell ⟨w.heap.size, i, none⟩ (.int .u32 ((cy + lo : Nat) : Int))).setCell ⟨w.heap.size, i + 1, none⟩ (.int .u32 (hi2 : Int))).drew → ShlI w w.heap.size ds.length s ds (i + 1) W') := by
        rintro W' rfl
        refine ⟨fun j => if j = i + 1 then hi2 else if j = i then cy + lo else t j, ?_, ?_, ?_, ?_, ?_, ((hbw.setCell (Nat.le_refl _) _).setCell (Nat.le_refl _) _).drew⟩
        · exact ((hr.set_ i _ (fun _ _ => rfl)).set_ (i + 1) _ (fun j _ => by by_cases h1 : j = i + 1 <;> by_cases h2 : j = i <;> simp [h1, h2])).drew
        · intro j
          show (if j = i + 1 then hi2 else if j = i then cy + lo else t j) < _
          split
          · exact hhi2
          · split
            · exact hcl
            · exact htB j
        · intro j hj
          show (if j = i + 1 then hi2 else if j = i then cy + lo else t j) = 0
          rw [if_neg (by omega), if_neg (by omega)]
          exact ht0 j (by omega)
        · show (if i + 1 = i + 1 then hi2 else _) < _
          rw [if_pos rfl]; exact hhi
        · rw [seg_succ, val_snoc, seg_len, seg_succ, val_snoc, seg_len, take_snoc ds i hlt, val_snoc, List.length_take, Nat.min_eq_left (by omega), Nat.pow_succ, ← hdd]
          have e4 : seg (fun j => if j = i + 1 then hi2 else if j = i then cy + lo else t j) 0 i = seg t 0 i := seg_same fun j hj => by
            show (if 0 + j = i + 1 then hi2 else if 0 + j = i then cy + lo else t (0 + j)) = _
            rw [if_neg (by omega), if_neg (by omega)]
          rw [seg_succ, val_snoc, seg_len, Nat.zero_add, ← hcy] at hv
          rw [e4]
          simp only [Nat.zero_add]
          rw [if_neg (show ¬ i = i + 1 by omega), if_pos True.intro, if_pos True.intro]
          exact shl_math hv he
      clear hr htB ht0 htc hv hcell hdd hcy e1 e2 e3 he
      go_wp2
      go_region
      all_goals
        go_wp2
        exact ⟨⟨i + 1, by go_num, by omega, hnext.out _ (by rw [Int.natCast_add])⟩, by simp [intOf]; omega⟩
    · obtain rfl : i = ds.length := by omega
      go_wp2
      go_ret
      exact ⟨rfl, hI⟩
end Go.Proofs.YtapblmbjbpkieaaDoor
