/- Contracts of package nat's addProduct and Mul. -/
import Derived.Test.YtapblmbjbpkieaaDoorCmp
namespace Go.Proofs.YtapblmbjbpkieaaDoor
open Go.RowKit

/-- A block of digits that is known whole. -/
def RowU (w : World) (g N : Nat) (s : Nat → Nat) : Prop := Row w g 71 N (fun j => .int .u32 (s j : Nat))
def seg (s : Nat → Nat) (off n : Nat) : List Nat := (List.range n).map fun j => s (off + j)
theorem seg_succ (s : Nat → Nat) (off n : Nat) : seg s off (n + 1) = seg s off n ++ [s (off + n)] := by simp [seg, List.range_succ]
theorem seg_len (s : Nat → Nat) (off n : Nat) : (seg s off n).length = n := by simp [seg]
theorem seg_same {s t : Nat → Nat} {off n : Nat} (h : ∀ j, j < n → s (off + j) = t (off + j)) : seg s off n = seg t off n := List.map_congr_left fun j hj => h j (List.mem_range.1 hj)
theorem seg_append (s : Nat → Nat) (m n : Nat) : seg s 0 (m + n) = seg s 0 m ++ seg s m n := by
  induction n with
  | zero => simp [seg]
  | succ n ih => rw [← Nat.add_assoc, seg_succ, ih, seg_succ, List.append_assoc, Nat.zero_add]

/-- At the head of addProduct's loop. -/
def ProdI (w : World) (g N off _n : Nat) (s : Nat → Nat) (ds : List Nat) (m i c : Nat) (W : World) : Prop :=
  ∃ t : Nat → Nat, RowU W g N t ∧ (∀ j, j < off ∨ off + i ≤ j → t j = s j) ∧ (∀ j, j < i → t (off + j) < 4294967296) ∧
    val 4294967296 (seg t off i) + 4294967296 ^ i * c = val 4294967296 (seg s off i) + val 4294967296 (ds.take i) * m ∧ c < 4294967296 ∧ w.grownBy W (some g)
theorem prod_math (t p o v m s c d : Nat) (h : t + p * c = o + v * m) : (t + p * ((s + (d * m + c) % 4294967296) % 4294967296)) + (p * 4294967296) * ((d * m + c + s) / 4294967296) = (o + p * s) + (v + p * d) * m := by
  have e : (s + (d * m + c) % 4294967296) % 4294967296 = (d * m + c + s) % 4294967296 := by omega
  have h2 : p * ((d * m + c + s) % 4294967296) + p * 4294967296 * ((d * m + c + s) / 4294967296) = p * (d * m + c + s) := by
    rw [Nat.mul_assoc, ← Nat.mul_add, Nat.mod_add_div]
  rw [e]
  have h3 : p * (d * m + c + s) = p * d * m + p * c + p * s := by rw [Nat.mul_add, Nat.mul_add, Nat.mul_assoc]
  have h4 : (v + p * d) * m = v * m + p * d * m := Nat.add_mul _ _ _
  omega

set_option maxRecDepth 100000 in
set_option maxHeartbeats 2000000 in
theorem addProduct_any {g N off n cp cb : Nat} {B : Option Addr} {s : Nat → Nat} {ds : List Nat} {m : Nat} {w : World} (hlen : ds.length ≤ 1000000) (hn : n = ds.length) (hm : m < 4294967296) (hN : off + ds.length ≤ N) (hoff : off ≤ 1000000) (hd : ∀ d ∈ ds, d < 4294967296)
    (hs : ∀ j, s j < 4294967296) (hrow : RowU w g N s) (hB : Cells w g B ds.length (u32f ds)) (_hcp : ds.length ≤ cp) :
    Calls Tryd.prog 56 #[.slice (some ⟨g, off, none⟩) n cp, .slice B ds.length cb, .int .u32 m] w fun e w' => ∃ c, e = .returned (.int .u32 (c : Nat)) ∧ ProdI w g N off ds.length s ds m ds.length c w' := by
  subst hn
  have HD := Lib.hid hd
  have HS := Lib.hid hs
  clear hd hs
  have hgl := hrow.lt
  go_enter Tryd.func56, Tryd.ntmps56
  go_wp2
  go_loopw [7, 15] (fun c i wr => ∃ (nc ni : Nat), i = .int .i64 ni ∧ c = .int .u32 nc ∧ ni ≤ ds.length ∧ nc < 4294967296 ∧ ProdI w g N off ds.length s ds m ni nc wr) (fun _ i _ => ds.length - (intOf i).toNat)
  case atStart => exact ⟨0, 0, rfl, rfl, by omega, by omega, s, hrow, fun _ _ => rfl, fun j h => by omega, by simp [seg, val], by omega, World.grownBy.refl _ _⟩
  case round =>
    obtain ⟨c, i, rfl, rfl, hi, hc, hP⟩ := hrel
    by_cases hlt : i < ds.length
    · have hP2 := hP
      obtain ⟨t, hr, ht1, ht2, hv, _, hgr⟩ := hP2
      obtain ⟨a, rfl, hab, hcell⟩ := hB i hlt
      obtain ⟨d, hdd⟩ : ∃ d : Nat, d = ds.getD i 0 := ⟨_, rfl⟩
      have hd1 : d < 4294967296 := by rw [hdd]; exact getD_lt HD.out i hlt
      have hcell' : wr.cell? (a.add i) = some (.int .u32 d) := by
        have h0 : wr.heap[(a.add i).block]? = w.heap[(a.add i).block]? := hgr.block _ (by rw [add_block]; omega) (by rw [add_block]; intro e; injection e; omega)
        rw [World.cell?_of_block h0, hcell, hdd]; rfl
      obtain ⟨x, hx⟩ : ∃ x : Nat, x = s (off + i) := ⟨_, rfl⟩
      have hx1 : x < 4294967296 := by rw [hx]; exact HS.out _
      have hcs : wr.cell? ⟨g, off + i, none⟩ = some (.int .u32 x) := by
        rw [hr.cell (off + i) (by omega), ht1 (off + i) (by omega), hx]
      have hfs := hr.frozen (off + i)
      have hmb := mul_bd (d : Int) (m : Int) (by omega) (by omega)
      have hP1 := hmb.1
      have hP3 := hmb.2
      clear hmb
      have hnext : Hid (∀ u : Value, u = .int .u32 (((x + (d * m + c) % 4294967296) % 4294967296 : Nat) : Int) → (d * m + c + x) / 4294967296 < 4294967296 ∧ ProdI w g N off ds.length s ds m (i + 1) ((d * m + c + x) / 4294967296) (wr.setCell ⟨g, off + i, none⟩ u)) := by
        have hdm : d * m ≤ 4294967295 * 4294967295 := Nat.mul_le_mul (by omega) (by omega)
        rintro u rfl
        have hcc : (d * m + c + x) / 4294967296 < 4294967296 := by omega
        refine ⟨hcc, fun j => if j = off + i then (x + (d * m + c) % 4294967296) % 4294967296 else t j, ?_, ?_, ?_, ?_, hcc, grown_setCell hgr (.inl rfl) _⟩
        · refine hr.set_ (off + i) _ (fun j _ => ?_)
          by_cases h : j = off + i
          · simp [h]
          · simp [h]
        · intro j hj
          show (if j = off + i then _ else t j) = s j
          rw [if_neg (by omega)]
          exact ht1 j (by omega)
        · intro j hj
          show (if off + j = off + i then _ else t (off + j)) < _
          by_cases h : j = i
          · rw [if_pos (by omega)]; omega
          · rw [if_neg (by omega)]; exact ht2 j (by omega)
        · rw [seg_succ, val_snoc, seg_len, seg_succ, val_snoc, seg_len, take_snoc ds i hlt, val_snoc, List.length_take, Nat.min_eq_left (by omega), Nat.pow_succ, ← hdd, ← hx]
          have e1 : seg (fun j => if j = off + i then (x + (d * m + c) % 4294967296) % 4294967296 else t j) off i = seg t off i := seg_same fun j hj => by simp; omega
          rw [e1]
          simp only [if_true]
          exact prod_math _ _ _ _ _ _ _ _ hv
      clear hP hr ht1 ht2 hv hgr hcell hdd hx hrow hB
      go_wp2_with (first | (go_at_call 61; refine (mul32_any _ _ _ (by omega) (by omega)).mono ?_; rintro e w1 ⟨rfl, rfl⟩) | (go_at_call 62; refine (add32_any _ _ _ _ (by omega) (by omega) (by omega)).mono ?_; rintro e w1 ⟨rfl, rfl⟩))
      go_roundw
      case rel =>
        have hPn : (d : Int) * (m : Int) = ((d * m : Nat) : Int) := (Int.natCast_mul d m).symm
        rw [hPn]
        have hE : Value.int .u32 (((x : Int) + (((d * m : Nat) : Int) + (c : Int))) % 4294967296) = .int .u32 (((x + (d * m + c) % 4294967296) % 4294967296 : Nat) : Int) := by
          congr 1; omega
        exact ⟨(d * m + c + x) / 4294967296, i + 1, by go_num, by congr 1; omega, by omega, (hnext.out _ hE).1, (hnext.out _ hE).2⟩
      case measure => simp [intOf]; omega
    · obtain rfl : i = ds.length := by omega
      go_wp2
      go_ret
      exact ⟨c, rfl, hP⟩

/-- At the head of Mul's loop: the product of the first i digits of the left number. -/
def MulI (w : World) (g : Nat) (xs ys : List Nat) (i : Nat) (W : World) : Prop :=
  ∃ t : Nat → Nat, RowU W g (xs.length + ys.length) t ∧ (∀ j, i + ys.length ≤ j → t j = 0) ∧ (∀ j, t j < 4294967296) ∧ val 4294967296 (seg t 0 (i + ys.length)) = val 4294967296 (xs.take i) * val 4294967296 ys ∧ w.grownBy W (some g)
theorem mul_step {w W W2 : World} {g i c : Nat} {xs ys : List Nat} {t : Nat → Nat} (hi : i < xs.length) (_hr : RowU W g (xs.length + ys.length) t) (h0 : ∀ j, i + ys.length ≤ j → t j = 0) (hv : val 4294967296 (seg t 0 (i + ys.length)) = val 4294967296 (xs.take i) * val 4294967296 ys) (ht : ∀ j, t j < 4294967296)
    (hP : ProdI W g (xs.length + ys.length) i ys.length t ys (xs.getD i 0) ys.length c W2) (hgr : w.grownBy W (some g)) :
    MulI w g xs ys (i + 1) (W2.setCell ⟨g, i + ys.length, none⟩ (.int .u32 (c : Nat))) := by
  obtain ⟨t2, h1, h2, h3, h4, h5, h6⟩ := hP
  refine ⟨fun j => if j = i + ys.length then c else t2 j, ?_, ?_, ?_, ?_, ?_⟩
  · refine h1.set_ (i + ys.length) _ (fun j _ => ?_)
    by_cases h : j = i + ys.length
    · simp [h]
    · simp [h]
  · intro j hj
    show (if j = i + ys.length then c else t2 j) = 0
    rw [if_neg (by omega), h2 j (by omega)]
    exact h0 j (by omega)
  · intro j
    show (if j = i + ys.length then c else t2 j) < _
    by_cases h : j = i + ys.length
    · rw [if_pos h]; exact h5
    · rw [if_neg h]
      by_cases hj : j < i ∨ i + ys.length ≤ j
      · rw [h2 j hj]; exact ht j
      · have := h3 (j - i) (by omega)
        rw [show i + (j - i) = j by omega] at this
        exact this
  · have e1 : i + 1 + ys.length = (i + ys.length) + 1 := by omega
    rw [e1, seg_succ, val_snoc, seg_len, Nat.zero_add]
    have e2 : seg (fun j => if j = i + ys.length then c else t2 j) 0 (i + ys.length) = seg t2 0 (i + ys.length) := seg_same fun j hj => by simp; omega
    rw [e2, seg_append, val_append, seg_len]
    simp only [if_true]
    have e3 : seg t2 0 i = seg t 0 i := seg_same fun j hj => h2 _ (by omega)
    rw [seg_append, val_append, seg_len, ← e3] at hv
    rw [List.take_length] at h4
    rw [take_snoc xs i hi, val_snoc, List.length_take, Nat.min_eq_left (by omega), Nat.add_mul, Nat.pow_add, Nat.mul_assoc, Nat.add_assoc, ← Nat.mul_add, h4, Nat.mul_add]
    have e4 : 4294967296 ^ i * (val 4294967296 ys * xs.getD i 0) = 4294967296 ^ i * xs.getD i 0 * val 4294967296 ys := by rw [Nat.mul_assoc, Nat.mul_comm (xs.getD i 0)]
    omega
  · exact grown_setCell (hgr.trans h6) (.inl rfl) _
end Go.Proofs.YtapblmbjbpkieaaDoor
