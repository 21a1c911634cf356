/- Contracts of package nat: addTo. Contracts of package nat: subtractFrom. Contract of package nat's Add. Values that stand for numbers, in one world: nat's Add and Mul over them. Contract of package nat's Sub. Plain facts: the product of numbers as sums of products of their digits. Contract of the reference's Sub. Contract of the reference's Mul. The walk of the law NatProducts. The walk of the law NatSums. -/
import Derived.Test.YthfjbpbgnoonpaaGreatDoorNE
import Derived.Laws.CopyOwn
import Derived.Test.YthfjbpbgnoonpaaGreatDoorND
import Derived.Test.YthfjbpbgnoonpaaGreatDoorNA
namespace Go.Proofs.YthfjbpbgnoonpaaGreatDoor
open Go.RowKit

/-- The row f, with the n digits t from place off on. -/
def patch (f : Nat → Value) (off n : Nat) (t : Nat → Nat) : Nat → Value := fun j => if off ≤ j ∧ j < off + n then .int .u32 (t (j - off) : Nat) else f j
/-- A block known whole: n digits from place off on; what lies beside them is f. -/
def RowP (w : World) (g N : Nat) (f : Nat → Value) (off n : Nat) (t : Nat → Nat) : Prop := Row w g 90 N (patch f off n t)
section
variable {w : World} {g N off n : Nat} {f : Nat → Value} {t t' : Nat → Nat}
theorem RowP.lt (h : RowP w g N f off n t) : g < w.heap.size := Row.lt h
theorem RowP.frozen (h : RowP w g N f off n t) (i : Nat) : w.frozen? ⟨g, i, none⟩ = false := Row.frozen h i
theorem RowP.cell (h : RowP w g N f off n t) (hN : off + n ≤ N) (i : Nat) (hi : i < n) : w.cell? ⟨g, off + i, none⟩ = some (.int .u32 (t i : Nat)) := by
  rw [Row.cell h (off + i) (by omega)]
  unfold patch
  rw [if_pos (by omega), Nat.add_sub_cancel_left]
theorem RowP.set_ (h : RowP w g N f off n t) (i : Nat) (hi : i < n) (x : Nat) (ht : ∀ j, j < n → t' j = if j = i then x else t j) : RowP (w.setCell ⟨g, off + i, none⟩ (.int .u32 (x : Nat))) g N f off n t' := by
  refine Row.set_ h (off + i) _ (fun j _ => ?_)
  unfold patch
  by_cases hj : off ≤ j ∧ j < off + n
  · rw [if_pos hj, if_pos hj, ht (j - off) (by omega)]
    by_cases hji : j = off + i
    · rw [if_pos (by omega), if_pos hji]
    · rw [if_neg (by omega), if_neg hji]
  · rw [if_neg hj, if_neg hj, if_neg (by omega)]
/-- A row whose cells are digits from place off on. -/
theorem RowP.of (h : Row w g 90 N f) (ht : ∀ j, j < n → f (off + j) = .int .u32 (t j : Nat)) : RowP w g N f off n t := by
  refine Row.same h (fun j _ => ?_)
  unfold patch
  by_cases hj : off ≤ j ∧ j < off + n
  · rw [if_pos hj]
    have := ht (j - off) (by omega)
    rwa [show off + (j - off) = j by omega] at this
  · rw [if_neg hj]
end

/-- At the head of addTo's loops: i digits are added, the carry is c. -/
def AddI (w : World) (g N : Nat) (f : Nat → Value) (off n : Nat) (s dd : Nat → Nat) (i c : Nat) (W : World) : Prop :=
  ∃ t : Nat → Nat, RowP W g N f off n t ∧ (∀ j, i ≤ j → t j = s j) ∧ (∀ j, t j < 4294967296) ∧
    val 4294967296 (seg t 0 i) + 4294967296 ^ i * c = val 4294967296 (seg s 0 i) + val 4294967296 (seg dd 0 i) ∧ c ≤ 1 ∧ w.grownBy W (some g)
theorem add_math (t p o v s c d : Nat) (h : t + p * c = o + v) : (t + p * ((s + d + c) % 4294967296)) + (p * 4294967296) * ((s + d + c) / 4294967296) = (o + p * s) + (v + p * d) := by
  have h2 : p * ((s + d + c) % 4294967296) + p * 4294967296 * ((s + d + c) / 4294967296) = p * (s + d + c) := by
    rw [Nat.mul_assoc, ← Nat.mul_add, Nat.mod_add_div]
  have h3 : p * (s + d + c) = p * s + p * d + p * c := by rw [Nat.mul_add, Nat.mul_add]
  omega
theorem seg_getD (ds : List Nat) : seg (fun j => ds.getD j 0) 0 ds.length = ds := by
  apply List.ext_getElem
  · simp [seg]
  · intro i h1 h2
    simp [seg, List.getD, h2]
theorem val_zeros (b : Nat) (f : Nat → Nat) (off : Nat) : ∀ n, (∀ j, j < n → f (off + j) = 0) → val b (seg f off n) = 0
  | 0, _ => rfl
  | n + 1, h => by
    rw [seg_succ, val_snoc, val_zeros b f off n (fun j hj => h j (by omega)), h n (by omega)]
    simp
theorem val_seg_split (b : Nat) (f : Nat → Nat) (i n : Nat) : val b (seg f 0 (i + n)) = val b (seg f 0 i) + b ^ i * val b (seg f i n) := by
  rw [seg_append, val_append, seg_len]
theorem seg_getD_more (ds : List Nat) (i : Nat) (h : ds.length ≤ i) : val 4294967296 (seg (fun j => ds.getD j 0) 0 i) = val 4294967296 ds := by
  obtain ⟨n, rfl⟩ : ∃ n, i = ds.length + n := ⟨i - ds.length, by omega⟩
  rw [val_seg_split, seg_getD, val_zeros _ _ _ _ (fun j _ => by simp [List.getD])]
  simp
theorem add_next {w wr : World} {g N i c off n : Nat} {f : Nat → Value} {s dd : Nat → Nat} {t : Nat → Nat} (hi : i < n) (hr : RowP wr g N f off n t) (ht : ∀ j, i ≤ j → t j = s j) (hb : ∀ j, t j < 4294967296) (hv : val 4294967296 (seg t 0 i) + 4294967296 ^ i * c = val 4294967296 (seg s 0 i) + val 4294967296 (seg dd 0 i)) (hc : c ≤ 1) (hdd : dd i < 4294967296) (hgr : w.grownBy wr (some g)) (u : Value)
    (hu : u = .int .u32 (((s i + dd i + c) % 4294967296 : Nat) : Int)) : AddI w g N f off n s dd (i + 1) ((s i + dd i + c) / 4294967296) (wr.setCell ⟨g, off + i, none⟩ u) := by
  subst hu
  have hsi : s i < 4294967296 := by rw [← ht i (Nat.le_refl _)]; exact hb i
  refine ⟨fun j => if j = i then (s i + dd i + c) % 4294967296 else t j, ?_, ?_, ?_, ?_, by omega, grown_setCell hgr (.inl rfl) _⟩
  · exact hr.set_ i hi _ (fun j _ => rfl)
  · intro j hj
    show (if j = i then _ else t j) = s j
    rw [if_neg (by omega)]
    exact ht j (by omega)
  · intro j
    show (if j = i then _ else t j) < _
    by_cases h : j = i
    · rw [if_pos h]; omega
    · rw [if_neg h]; exact hb j
  · rw [seg_succ, val_snoc, seg_len, seg_succ, val_snoc, seg_len, seg_succ, val_snoc, seg_len, Nat.pow_succ]
    have e1 : seg (fun j => if j = i then (s i + dd i + c) % 4294967296 else t j) 0 i = seg t 0 i := seg_same fun j hj => by simp; omega
    rw [e1]
    simp only [Nat.zero_add, if_true]
    exact add_math _ _ _ _ _ _ _ hv

def AddPost (w : World) (g N : Nat) (f : Nat → Value) (off n : Nat) (s : Nat → Nat) (k : Nat) (e : Ending) (w' : World) : Prop :=
  ∃ (c : Nat) (t : Nat → Nat), e = .returned (.int .u32 (c : Nat)) ∧ RowP w' g N f off n t ∧ (∀ j, t j < 4294967296) ∧ val 4294967296 (seg t 0 n) + 4294967296 ^ n * c = val 4294967296 (seg s 0 n) + k ∧ c ≤ 1 ∧ w.grownBy w' (some g)
theorem add_end {w W : World} {g N i c off n : Nat} {f : Nat → Value} {s : Nat → Nat} {ds : List Nat} (hi : ds.length ≤ i) (hN : i ≤ n) (hs : c = 0 ∨ i = n) (h : AddI w g N f off n s (fun j => ds.getD j 0) i c W) : AddPost w g N f off n s (val 4294967296 ds) (.returned (.int .u32 (c : Nat))) W := by
  obtain ⟨t, hr, ht, hb, hv, hc, hgr⟩ := h
  refine ⟨c, t, rfl, hr, hb, ?_, hc, hgr⟩
  rw [seg_getD_more ds i hi] at hv
  rcases hs with rfl | rfl
  · obtain ⟨m, rfl⟩ : ∃ m, n = i + m := ⟨n - i, by omega⟩
    have e1 : seg t i m = seg s i m := seg_same fun j _ => ht _ (by omega)
    rw [val_seg_split _ t, val_seg_split _ s, e1]
    omega
  · exact hv

set_option maxRecDepth 100000 in
set_option maxHeartbeats 2000000 in
theorem addTo_any {g N off n m cp cb : Nat} {B : Option Addr} {f : Nat → Value} {s : Nat → Nat} {ds : List Nat} {w : World} (hm : m = ds.length) (hN : ds.length ≤ n) (hNN : n ≤ 1000000) (_hoff : off ≤ 1000000) (hfit : off + n ≤ N) (hd : ∀ d ∈ ds, d < 4294967296)
    (hs : ∀ j, s j < 4294967296) (hrow : RowP w g N f off n s) (hB : Cells w g B ds.length (u32f ds)) (hcp : n ≤ cp) :
    Calls Tryz.prog 109 #[.slice (some ⟨g, off, none⟩) n cp, .slice B m cb] w (AddPost w g N f off n s (val 4294967296 ds)) := by
  subst hm
  have HD := Lib.hid hd
  have HS := Lib.hid hs
  clear hd hs
  have hgl := hrow.lt
  go_enter Tryz.func109, Tryz.ntmps109
  go_wp2
  go_loopw [5, 11] (fun c i wr => ∃ (nc ni : Nat), i = .int .i64 ni ∧ c = .int .u32 nc ∧ ni ≤ ds.length ∧ nc ≤ 1 ∧ AddI w g N f off n s (fun j => ds.getD j 0) ni nc wr) (fun _ i _ => ds.length - (intOf i).toNat)
  case atStart => exact ⟨0, 0, rfl, rfl, by omega, by omega, s, hrow, fun _ _ => rfl, HS.out, by simp [seg, val], by omega, World.grownBy.refl _ _⟩
  case round =>
    obtain ⟨c, i, rfl, rfl, hi, hc, hP⟩ := hrel
    by_cases hlt : i < ds.length
    · have hP2 := hP
      obtain ⟨t, hr, ht, hb, hv, _, hgr⟩ := hP2
      obtain ⟨a, rfl, hab, hcell⟩ := hB i hlt
      obtain ⟨d, hdd⟩ : ∃ d : Nat, d = ds.getD i 0 := ⟨_, rfl⟩
      have hd1 : d < 4294967296 := by rw [hdd]; exact getD_lt HD.out i hlt
      have hcell' : wr.cell? (a.add i) = some (.int .u32 d) := by
        have h0 : wr.heap[(a.add i).block]? = w.heap[(a.add i).block]? := hgr.block _ (by rw [add_block]; omega) (by rw [add_block]; intro e; injection e; omega)
        rw [World.cell?_of_block h0, hcell, hdd]; rfl
      obtain ⟨x, hx⟩ : ∃ x : Nat, x = s i := ⟨_, rfl⟩
      have hx1 : x < 4294967296 := by rw [hx]; exact HS.out _
      have hcs : wr.cell? ⟨g, off + i, none⟩ = some (.int .u32 x) := by
        rw [hr.cell hfit i (by omega), ht i (Nat.le_refl _), hx]
      have hfs := hr.frozen (off + i)
      have hnext := Lib.hid (fun u hu => add_next (w := w) (dd := fun j => ds.getD j 0) (by omega) hr ht hb hv hc (by show ds.getD i 0 < _; rw [← hdd]; exact hd1) hgr u hu)
      rw [← hdd, ← hx] at hnext
      clear hP hr ht hb hv hgr hcell hdd hx hrow hB
      go_wp2_with (go_at_call 120; refine (add32_any _ _ _ _ (by omega) (by omega) (by omega)).mono ?_; rintro e w1 ⟨rfl, rfl⟩)
      have hE : Value.int .u32 (((x : Int) + (d : Int) + (c : Int)) % 4294967296) = .int .u32 (((x + d + c) % 4294967296 : Nat) : Int) := by
        congr 1
      refine ⟨⟨(x + d + c) / 4294967296, i + 1, by go_num, by congr 1, by omega, by omega, hnext.out _ hE⟩, ?_⟩
      show ds.length - ((i : Int) + 1).toNat < ds.length - (i : Int).toNat
      omega
    · obtain rfl : i = ds.length := by omega
      go_wp2
      go_loopw [5, 8] (fun c i wr => ∃ (nc ni : Nat), i = .int .i64 ni ∧ c = .int .u32 nc ∧ ds.length ≤ ni ∧ ni ≤ n ∧ nc ≤ 1 ∧ AddI w g N f off n s (fun j => ds.getD j 0) ni nc wr) (fun _ i _ => n - (intOf i).toNat)
      case atStart => exact ⟨c, ds.length, rfl, rfl, by omega, hN, hc, hP⟩
      case round =>
        obtain ⟨c, i, rfl, rfl, hi, hiN, hc, hP⟩ := hrel
        by_cases hgo : i < n ∧ c ≠ 0
        · obtain ⟨hlt, hc0⟩ := hgo
          have hP2 := hP
          obtain ⟨t, hr, ht, hb, hv, _, hgr⟩ := hP2
          obtain ⟨x, hx⟩ : ∃ x : Nat, x = s i := ⟨_, rfl⟩
          have hx1 : x < 4294967296 := by rw [hx]; exact HS.out _
          have hcs : wr.cell? ⟨g, off + i, none⟩ = some (.int .u32 x) := by
            rw [hr.cell hfit i (by omega), ht i (Nat.le_refl _), hx]
          have hfs := hr.frozen (off + i)
          have hdz : ds.getD i 0 = 0 := by simp [List.getD, hi]
          have hnext := Lib.hid (fun u hu => add_next (w := w) (dd := fun j => ds.getD j 0) (by omega) hr ht hb hv hc (by show ds.getD i 0 < _; rw [hdz]; omega) hgr u hu)
          simp only [hdz, ← hx] at hnext
          have hcn : ((c : Int) != 0) = true := by simp; omega
          clear hP hr ht hb hv hgr hx hdz hrow hB
          go_wp2_with (go_at_call 120; refine (add32_any _ _ _ _ (by omega) (by omega) (by omega)).mono ?_; rintro e w1 ⟨rfl, rfl⟩)
          have hE : Value.int .u32 (((x : Int) + (c : Int)) % 4294967296) = .int .u32 (((x + 0 + c) % 4294967296 : Nat) : Int) := by
            congr 1
          refine ⟨⟨(x + 0 + c) / 4294967296, i + 1, by go_num, by congr 1, by omega, by omega, by omega, hnext.out _ hE⟩, ?_⟩
          show n - ((i : Int) + 1).toNat < n - (i : Int).toNat
          omega
        · have hend : c = 0 ∨ i = n := by omega
          have hfin := add_end hi hiN hend hP
          clear hP hrow hB
          rcases hend with rfl | rfl
          · by_cases hlt : i < n
            · go_wp2
              go_ret
              exact hfin
            · go_wp2
              go_ret
              exact hfin
          · go_wp2
            go_ret
            exact hfin
end Go.Proofs.YthfjbpbgnoonpaaGreatDoor

namespace Go.Proofs.YthfjbpbgnoonpaaGreatDoor
open Go.RowKit

def subD (s d c : Nat) : Nat := (s + 4294967296 - d - c) % 4294967296
def subB (s d c : Nat) : Nat := if s < d + c then 1 else 0
theorem sub_eq {s d c : Nat} (hs : s < 4294967296) (hd : d < 4294967296) (hc : c ≤ 1) : subD s d c + d + c = s + 4294967296 * subB s d c ∧ subD s d c < 4294967296 ∧ subB s d c ≤ 1 := by
  unfold subD subB
  split <;> omega
theorem subB_int (s d c : Nat) : bor (s : Int) (d : Int) (c : Int) = (subB s d c : Int) := by
  unfold bor subB
  by_cases h : s < d + c
  · rw [if_pos (by omega), if_pos h]; rfl
  · rw [if_neg (by omega), if_neg h]; rfl
theorem subD_int {s d c : Nat} (hs : s < 4294967296) (hd : d < 4294967296) (hc : c ≤ 1) : ((s : Int) - (d : Int) - (c : Int)) % 4294967296 = (subD s d c : Int) := by
  unfold subD
  omega

/-- At the head of subtractFrom's loops: i digits are taken off, the borrow is c. -/
def SubI (w : World) (g N : Nat) (f : Nat → Value) (off n : Nat) (s dd : Nat → Nat) (i c : Nat) (W : World) : Prop :=
  ∃ t : Nat → Nat, RowP W g N f off n t ∧ (∀ j, i ≤ j → t j = s j) ∧ (∀ j, t j < 4294967296) ∧
    val 4294967296 (seg t 0 i) + val 4294967296 (seg dd 0 i) = val 4294967296 (seg s 0 i) + 4294967296 ^ i * c ∧ c ≤ 1 ∧ w.grownBy W (some g)
theorem sub_math (t p o v s c d q b : Nat) (h : t + v = o + p * c) (hq : q + d + c = s + 4294967296 * b) : (t + p * q) + (v + p * d) = (o + p * s) + (p * 4294967296) * b := by
  have h2 : p * (q + d + c) = p * (s + 4294967296 * b) := by rw [hq]
  rw [Nat.mul_add, Nat.mul_add, Nat.mul_add, ← Nat.mul_assoc] at h2
  omega
theorem sub_next {w wr : World} {g N i c off n : Nat} {f : Nat → Value} {s dd : Nat → Nat} {t : Nat → Nat} (hi : i < n) (hr : RowP wr g N f off n t) (ht : ∀ j, i ≤ j → t j = s j) (hb : ∀ j, t j < 4294967296) (hv : val 4294967296 (seg t 0 i) + val 4294967296 (seg dd 0 i) = val 4294967296 (seg s 0 i) + 4294967296 ^ i * c) (hc : c ≤ 1) (hdd : dd i < 4294967296) (hgr : w.grownBy wr (some g)) (u : Value)
    (hu : u = .int .u32 (subD (s i) (dd i) c : Int)) : SubI w g N f off n s dd (i + 1) (subB (s i) (dd i) c) (wr.setCell ⟨g, off + i, none⟩ u) := by
  subst hu
  have hsi : s i < 4294967296 := by rw [← ht i (Nat.le_refl _)]; exact hb i
  obtain ⟨q1, q2, q3⟩ := sub_eq hsi hdd hc
  refine ⟨fun j => if j = i then subD (s i) (dd i) c else t j, ?_, ?_, ?_, ?_, q3, grown_setCell hgr (.inl rfl) _⟩
  · exact hr.set_ i hi _ (fun j _ => rfl)
  · intro j hj
    show (if j = i then _ else t j) = s j
    rw [if_neg (by omega)]
    exact ht j (by omega)
  · intro j
    show (if j = i then _ else t j) < _
    by_cases h : j = i
    · rw [if_pos h]; exact q2
    · rw [if_neg h]; exact hb j
  · rw [seg_succ, val_snoc, seg_len, seg_succ, val_snoc, seg_len, seg_succ, val_snoc, seg_len, Nat.pow_succ]
    have e1 : seg (fun j => if j = i then subD (s i) (dd i) c else t j) 0 i = seg t 0 i := seg_same fun j hj => by simp; omega
    rw [e1]
    simp only [Nat.zero_add, if_true]
    exact sub_math _ _ _ _ _ _ _ _ _ hv q1

def SubPost (w : World) (g N : Nat) (f : Nat → Value) (off n : Nat) (s : Nat → Nat) (k : Nat) (e : Ending) (w' : World) : Prop :=
  ∃ (c : Nat) (t : Nat → Nat), e = .returned (.int .u32 (c : Nat)) ∧ RowP w' g N f off n t ∧ (∀ j, t j < 4294967296) ∧ val 4294967296 (seg t 0 n) + k = val 4294967296 (seg s 0 n) + 4294967296 ^ n * c ∧ c ≤ 1 ∧ w.grownBy w' (some g)
theorem sub_end {w W : World} {g N i c off n : Nat} {f : Nat → Value} {s : Nat → Nat} {ds : List Nat} (hi : ds.length ≤ i) (hN : i ≤ n) (hs : c = 0 ∨ i = n) (h : SubI w g N f off n s (fun j => ds.getD j 0) i c W) : SubPost w g N f off n s (val 4294967296 ds) (.returned (.int .u32 (c : Nat))) W := by
  obtain ⟨t, hr, ht, hb, hv, hc, hgr⟩ := h
  refine ⟨c, t, rfl, hr, hb, ?_, hc, hgr⟩
  rw [seg_getD_more ds i hi] at hv
  rcases hs with rfl | rfl
  · obtain ⟨m, rfl⟩ : ∃ m, n = i + m := ⟨n - i, by omega⟩
    have e1 : seg t i m = seg s i m := seg_same fun j _ => ht _ (by omega)
    rw [val_seg_split _ t, val_seg_split _ s, e1]
    omega
  · exact hv

set_option maxRecDepth 100000 in
set_option maxHeartbeats 2000000 in
theorem subtractFrom_any {g N off n m cp cb : Nat} {B : Option Addr} {f : Nat → Value} {s : Nat → Nat} {ds : List Nat} {w : World} (hm : m = ds.length) (hN : ds.length ≤ n) (hNN : n ≤ 1000000) (_hoff : off ≤ 1000000) (hfit : off + n ≤ N) (hd : ∀ d ∈ ds, d < 4294967296)
    (hs : ∀ j, s j < 4294967296) (hrow : RowP w g N f off n s) (hB : Cells w g B ds.length (u32f ds)) (hcp : n ≤ cp) :
    Calls Tryz.prog 121 #[.slice (some ⟨g, off, none⟩) n cp, .slice B m cb] w (SubPost w g N f off n s (val 4294967296 ds)) := by
  subst hm
  have HD := Lib.hid hd
  have HS := Lib.hid hs
  clear hd hs
  have hgl := hrow.lt
  go_enter Tryz.func121, Tryz.ntmps121
  go_wp2
  go_loopw [5, 11] (fun c i wr => ∃ (nc ni : Nat), i = .int .i64 ni ∧ c = .int .u32 nc ∧ ni ≤ ds.length ∧ nc ≤ 1 ∧ SubI w g N f off n s (fun j => ds.getD j 0) ni nc wr) (fun _ i _ => ds.length - (intOf i).toNat)
  case atStart => exact ⟨0, 0, rfl, rfl, by omega, by omega, s, hrow, fun _ _ => rfl, HS.out, by simp [seg, val], by omega, World.grownBy.refl _ _⟩
  case round =>
    obtain ⟨c, i, rfl, rfl, hi, hc, hP⟩ := hrel
    by_cases hlt : i < ds.length
    · have hP2 := hP
      obtain ⟨t, hr, ht, hb, hv, _, hgr⟩ := hP2
      obtain ⟨a, rfl, hab, hcell⟩ := hB i hlt
      obtain ⟨d, hdd⟩ : ∃ d : Nat, d = ds.getD i 0 := ⟨_, rfl⟩
      have hd1 : d < 4294967296 := by rw [hdd]; exact getD_lt HD.out i hlt
      have hcell' : wr.cell? (a.add i) = some (.int .u32 d) := by
        have h0 : wr.heap[(a.add i).block]? = w.heap[(a.add i).block]? := hgr.block _ (by rw [add_block]; omega) (by rw [add_block]; intro e; injection e; omega)
        rw [World.cell?_of_block h0, hcell, hdd]; rfl
      obtain ⟨x, hx⟩ : ∃ x : Nat, x = s i := ⟨_, rfl⟩
      have hx1 : x < 4294967296 := by rw [hx]; exact HS.out _
      have hcs : wr.cell? ⟨g, off + i, none⟩ = some (.int .u32 x) := by
        rw [hr.cell hfit i (by omega), ht i (Nat.le_refl _), hx]
      have hfs := hr.frozen (off + i)
      have hnext := Lib.hid (fun u hu => sub_next (w := w) (dd := fun j => ds.getD j 0) (by omega) hr ht hb hv hc (by show ds.getD i 0 < _; rw [← hdd]; exact hd1) hgr u hu)
      rw [← hdd, ← hx] at hnext
      clear hP hr ht hb hv hgr hcell hdd hx hrow hB
      go_wp2_with (go_at_call 138; refine (sub32_any _ _ _ _ (by omega) (by omega) (by omega)).mono ?_; rintro e w1 ⟨rfl, rfl⟩)
      rw [subD_int hx1 hd1 hc, subB_int]
      refine ⟨⟨subB x d c, i + 1, by go_num, rfl, by omega, (sub_eq hx1 hd1 hc).2.2, hnext.out _ rfl⟩, ?_⟩
      show ds.length - ((i : Int) + 1).toNat < ds.length - (i : Int).toNat
      omega
    · obtain rfl : i = ds.length := by omega
      go_wp2
      go_loopw [5, 8] (fun c i wr => ∃ (nc ni : Nat), i = .int .i64 ni ∧ c = .int .u32 nc ∧ ds.length ≤ ni ∧ ni ≤ n ∧ nc ≤ 1 ∧ SubI w g N f off n s (fun j => ds.getD j 0) ni nc wr) (fun _ i _ => n - (intOf i).toNat)
      case atStart => exact ⟨c, ds.length, rfl, rfl, by omega, hN, hc, hP⟩
      case round =>
        obtain ⟨c, i, rfl, rfl, hi, hiN, hc, hP⟩ := hrel
        by_cases hgo : i < n ∧ c ≠ 0
        · obtain ⟨hlt, hc0⟩ := hgo
          have hP2 := hP
          obtain ⟨t, hr, ht, hb, hv, _, hgr⟩ := hP2
          obtain ⟨x, hx⟩ : ∃ x : Nat, x = s i := ⟨_, rfl⟩
          have hx1 : x < 4294967296 := by rw [hx]; exact HS.out _
          have hcs : wr.cell? ⟨g, off + i, none⟩ = some (.int .u32 x) := by
            rw [hr.cell hfit i (by omega), ht i (Nat.le_refl _), hx]
          have hfs := hr.frozen (off + i)
          have hdz : ds.getD i 0 = 0 := by simp [List.getD, hi]
          have hnext := Lib.hid (fun u hu => sub_next (w := w) (dd := fun j => ds.getD j 0) (by omega) hr ht hb hv hc (by show ds.getD i 0 < _; rw [hdz]; omega) hgr u hu)
          simp only [hdz, ← hx] at hnext
          have hcn : ((c : Int) != 0) = true := by simp; omega
          clear hP hr ht hb hv hgr hx hdz hrow hB
          go_wp2_with (go_at_call 138; refine (sub32_any _ _ _ _ (by omega) (by omega) (by omega)).mono ?_; rintro e w1 ⟨rfl, rfl⟩)
          have hE1 : ((x : Int) - (c : Int)) % 4294967296 = (subD x 0 c : Int) := by
            rw [← subD_int hx1 (by omega) hc]
            congr 1
          have hE2 : bor (x : Int) 0 (c : Int) = (subB x 0 c : Int) := subB_int x 0 c
          rw [hE1, hE2]
          refine ⟨⟨subB x 0 c, i + 1, by go_num, rfl, by omega, by omega, (sub_eq hx1 (by omega) hc).2.2, hnext.out _ rfl⟩, ?_⟩
          show n - ((i : Int) + 1).toNat < n - (i : Int).toNat
          omega
        · have hend : c = 0 ∨ i = n := by omega
          have hfin := sub_end hi hiN hend hP
          clear hP hrow hB
          rcases hend with rfl | rfl
          · by_cases hlt : i < n
            · go_wp2
              go_ret
              exact hfin
            · go_wp2
              go_ret
              exact hfin
          · go_wp2
            go_ret
            exact hfin
end Go.Proofs.YthfjbpbgnoonpaaGreatDoor

namespace Go.Proofs.YthfjbpbgnoonpaaGreatDoor
open Go.RowKit

theorem copy_row {g N n : Nat} {L : List Value} {w : World} {f : Nat → Value} (hL : L.length = N) (hN : n ≤ N) (h : w.heap[g]? = some (.cells (splice L 0 (vals f n)).toArray 90 (0, 0))) :
    Row w g 90 N (fun j => if j < n then f j else L.getD j undef) := by
  unfold Row
  rw [h]
  congr 2
  apply Array.ext
  · simp [splice, vals_len]; omega
  · intro i h1 h2
    simp [vals_len] at h2
    simp only [List.getElem_toArray]
    unfold splice
    by_cases hi : i < n
    · simp [vals, hi]
    · simp [vals, hi, List.getElem_append, List.getD]
      rw [List.getElem?_eq_getElem (by omega)]
      simp
      congr 1; omega

theorem size_u32n : (Tryz.prog.info? 90).map (·.size) = some 1 := by kernel_rfl
theorem copy_src {w w1 : World} {P : Option Addr} {n : Nat} {f : Nat → Value} (h : CellsT w 90 P n f) (hb : Below w.heap.size w w1) : 0 < (vals f n).length → ∃ ad, P = some ad ∧ ∀ j v, (vals f n)[j]? = some v → w1.cell? (ad.add j) = some v := by
  intro h0
  rw [vals_len] at h0
  obtain ⟨g, rfl, _, _⟩ := h.2 0 h0
  refine ⟨_, rfl, fun j v hv => ?_⟩
  obtain ⟨hj, rfl⟩ := vals_inv f n j v hv
  obtain ⟨g', h1, h2, h3⟩ := h.2 j hj
  obtain rfl : g = g' := by simpa using h1
  rw [row_at]
  exact (hb.cell (p := ⟨g, j, none⟩) h2.lt).trans h3
theorem row3 {w w1 : World} {o1 o2 o3 : Obj} {e : TypeId} {n : Nat} {f : Nat → Value} (h : Hid (Row w1 ((((w.alloc o1).alloc o2).alloc o3).heap.size) e n f)) : Hid (w1.heap[w.heap.size + 1 + 1 + 1]? = some (.cells (vals f n).toArray e (0, 0))) := by
  have := h.out
  unfold Row at this
  unfold Hid
  simpa using this
/-- The sum's row behind the copy. -/
theorem sum_row {g : Nat} {ps : List Nat} {w : World} (h : Hid (w.heap[g]? = some (.cells (splice (vals (fun _ => .int .u32 0) (ps.length + 1)) 0 (vals (u32f ps) ps.length)).toArray 90 (0, 0)))) :
    ∃ f, RowP w g (ps.length + 1) f 0 (ps.length + 1) (fun j => ps.getD j 0) := by
  have h1 := copy_row (N := ps.length + 1) (vals_len _ _) (by omega) h.out
  refine ⟨_, RowP.of h1 (fun j hj => ?_)⟩
  rw [Nat.zero_add]
  by_cases hlt : j < ps.length
  · simp [hlt, u32f]
  · have : j = ps.length := by omega
    subst this
    simp [vals, List.getD]

theorem sum_math {V p q T k a b c : Nat} (h : T + p * V * c = a + b) (hk : a + b = k) (h1 : a < p) (h2 : b < q) (hq : q ≤ p) (hV : 2 ≤ V) : T = k := by
  rcases Nat.eq_zero_or_pos c with rfl | hc
  · simp at h; omega
  · have h5 : p * V * 1 ≤ p * V * c := Nat.mul_le_mul_left _ hc
    have h6 : p * 2 ≤ p * V := Nat.mul_le_mul_left _ hV
    omega
theorem sum_val {ps qs : List Nat} {t : Nat → Nat} {c k : Nat} (hdp : ∀ d ∈ ps, d < 4294967296) (hdq : ∀ d ∈ qs, d < 4294967296) (hle : qs.length ≤ ps.length) (hk : val 4294967296 ps + val 4294967296 qs = k)
    (h : val 4294967296 (seg t 0 (ps.length + 1)) + 4294967296 ^ (ps.length + 1) * c = val 4294967296 (seg (fun j => ps.getD j 0) 0 (ps.length + 1)) + val 4294967296 qs) : val 4294967296 (seg t 0 (ps.length + 1)) = k := by
  rw [seg_getD_more ps _ (Nat.le_succ _), Nat.pow_succ] at h
  exact sum_math h hk (val_lt ps hdp) (val_lt qs hdq) (Nat.pow_le_pow_right (by decide) hle) (by decide)
theorem rowP_LU {w : World} {g N n c : Nat} {f : Nat → Value} {t : Nat → Nat} (h : RowP w g N f 0 n t) (hn : n ≤ N) (hc : n ≤ c) : LU w (.slice (some ⟨g, 0, none⟩) n c) (seg t 0 n) := by
  refine LU.of_cells (seg_len _ _ _) hc ((Row.cellsT h).less hn) (fun j hj => ?_)
  unfold patch u32f
  rw [if_pos (by omega)]
  simp [seg, List.getD, hj]
theorem seg_lt {t : Nat → Nat} (h : ∀ j, t j < 4294967296) (o n : Nat) : ∀ d ∈ seg t o n, d < 4294967296 := by
  intro d hd
  obtain ⟨j, _, rfl⟩ := List.mem_map.1 hd
  exact h _
theorem One.grown {w w' : World} {g b : Nat} {v : Value} {t : TypeId} (h : One w b v t) (hg : w.grownBy w' (some g)) (hne : b ≠ g) : One w' b v t :=
  (hg.block b h.lt (by intro e; injection e; omega)).trans h

set_option maxRecDepth 100000 in
set_option maxHeartbeats 1500000 in
theorem natAdd_any {u v : Value} {x y : Nat} {w : World} (hlx : (digs 4294967296 x).length ≤ 1000) (hly : (digs 4294967296 y).length ≤ 1000) (hu : IsNat w u x) (hv : IsNat w v y) :
    Calls Tryz.prog 84 #[u, v] w (NewN w (x + y)) := by
  obtain ⟨s, rfl, A, ca, rfl, hca, hA⟩ := hu
  obtain ⟨t, rfl, B, cb, rfl, hcb, hB⟩ := hv
  obtain ⟨xs, hxs⟩ : ∃ xs, xs = digs 4294967296 x := ⟨_, rfl⟩
  obtain ⟨ys, hys⟩ : ∃ ys, ys = digs 4294967296 y := ⟨_, rfl⟩
  have hvx : Hid (val 4294967296 xs = x) := by rw [hxs]; exact val_digs (by omega) x
  have hvy : Hid (val 4294967296 ys = y) := by rw [hys]; exact val_digs (by omega) y
  have hdx : Hid (∀ d ∈ xs, d < 4294967296) := by rw [hxs]; exact digs_lt (by omega) x
  have hdy : Hid (∀ d ∈ ys, d < 4294967296) := by rw [hys]; exact digs_lt (by omega) y
  rw [← hxs] at hlx hca hA ⊢
  rw [← hys] at hly hcb hB ⊢
  clear hxs hys
  obtain ⟨i0, hi, hz0, hz1, hz2⟩ := info_parts infoU32
  by_cases hs : xs.length < ys.length
  case' pos =>
    have hsum : Hid (val 4294967296 ys + val 4294967296 xs = x + y) := by unfold Hid; rw [hvx.out, hvy.out, Nat.add_comm]
    obtain ⟨qs, rfl⟩ : ∃ q, q = xs := ⟨_, rfl⟩
    obtain ⟨ps, rfl⟩ : ∃ q, q = ys := ⟨_, rfl⟩
    obtain ⟨Q, rfl⟩ : ∃ q, q = A := ⟨_, rfl⟩
    obtain ⟨P, rfl⟩ : ∃ q, q = B := ⟨_, rfl⟩
    obtain ⟨cq, rfl⟩ : ∃ q, q = ca := ⟨_, rfl⟩
    obtain ⟨cp, rfl⟩ : ∃ q, q = cb := ⟨_, rfl⟩
    have hP := hB
    have hQ := hA
    have hdp := hdy
    have hdq := hdx
    have hlp := hly
    have hle : qs.length ≤ ps.length := Nat.le_of_lt hs
    clear hA hB hdx hdy hlx hly
  case' neg =>
    have hsum : Hid (val 4294967296 xs + val 4294967296 ys = x + y) := by unfold Hid; rw [hvx.out, hvy.out]
    obtain ⟨ps, rfl⟩ : ∃ q, q = xs := ⟨_, rfl⟩
    obtain ⟨qs, rfl⟩ : ∃ q, q = ys := ⟨_, rfl⟩
    obtain ⟨P, rfl⟩ : ∃ q, q = A := ⟨_, rfl⟩
    obtain ⟨Q, rfl⟩ : ∃ q, q = B := ⟨_, rfl⟩
    obtain ⟨cp, rfl⟩ : ∃ q, q = ca := ⟨_, rfl⟩
    obtain ⟨cq, rfl⟩ : ∃ q, q = cb := ⟨_, rfl⟩
    have hP := hA
    have hQ := hB
    have hdp := hdx
    have hdq := hdy
    have hlp := hlx
    have hle : qs.length ≤ ps.length := Nat.le_of_not_lt hs
    clear hA hB hdx hdy hlx hly
  all_goals
    have hb0 : Below w.heap.size w (((w.alloc (.cells #[.slice P ps.length cp] 28)).alloc (.cells #[.slice Q qs.length cq] 28)).alloc (.cells #[.slice none 0 0] 28)) := (((Below.refl _ w).alloc (Nat.le_refl _) _).alloc (by simp) _).alloc (by simp; omega) _
    have hbP := (((One.new w (.slice P ps.length cp) 28).alloc (.cells #[.slice Q qs.length cq] 28)).alloc (.cells #[.slice none 0 0] 28))
    have hbQ := ((One.new (w.alloc (.cells #[.slice P ps.length cp] 28)) (.slice Q qs.length cq) 28).alloc (.cells #[.slice none 0 0] 28))
    have hbR := One.new ((w.alloc (.cells #[.slice P ps.length cp] 28)).alloc (.cells #[.slice Q qs.length cq] 28)) (.slice none 0 0) 28
    rw [World.size_alloc] at hbQ
    rw [World.size_alloc, World.size_alloc] at hbR
    go_enter Tryz.func84, Tryz.ntmps84
    go_wp2_with (first | (refine wpList_make_row rfl (.tmp 18) (.tmp 18) _ rfl 90 i0 _ Tryz.underlying22 hi hz0 hz1 rfl _ _ _ _ (ps.length + 1) rfl rfl (by rw [Int.natCast_add]; rfl) (by rw [Int.natCast_add]; rfl) (by rw [hz2]; omega) (by simp [maxLen]; omega) _ _ (Below.refl _ _) (Nat.le_refl _) ?_; intro w1 hrow hb1 hs1; have hP1 := (hbP.step hb1.out).cell; have hQ1 := (hbQ.step hb1.out).cell; have hR1 := (hbR.step hb1.out).cell; have hG := row3 hrow; have hbw1 : Hid (Below w.heap.size w w1) := hb0.trans (hb1.out.mono hb0.size); have hoP := hbP.step hb1.out; have hoQ := hbQ.step hb1.out; have hoR := hbR.step hb1.out; clear hrow hb1 hbP hbQ hbR hb0) | (refine wpList_copy_splice rfl (.tmp 20) (.tmp 22) _ _ rfl 90 Tryz.underlying22 size_u32n (some ⟨w.heap.size + 1 + 1 + 1, 0, none⟩) P (ps.length + 1) (ps.length + 1) ps.length cp rfl rfl (w.heap.size + 1 + 1 + 1) 0 (vals (fun _ => .int .u32 0) (ps.length + 1)) 90 hG.out (vals (u32f ps) ps.length) (by rw [vals_len]; exact (Nat.min_eq_left (by omega)).symm) (fun h0 => ⟨rfl, copy_src hP hbw1.out h0⟩) (by rw [vals_len, vals_len]; omega) (fun v hv => by obtain ⟨j, _, rfl⟩ := List.mem_map.1 hv; rfl) (w.heap.size + 1 + 1 + 1) _ (Below.refl _ _) (Nat.le_refl _) ?_; intro w2 HG2 hB2; have oQ2 := hoQ.below hB2 (by omega); have oR2 := hoR.below hB2 (by omega); have hQ2 := oQ2.cell; have hbw2 : Hid (Below w.heap.size w w2) := hbw1.out.trans (hB2.mono (by omega)); obtain ⟨f, hF⟩ := sum_row HG2; have HF := Lib.hid hF; have hQc : Hid (Cells w2 (w.heap.size + 1 + 1 + 1) Q qs.length (u32f qs)) := (hQ.cells.below hbw2.out).more (by omega); clear hF HG2 hB2 hP1 hQ1 hR1 hoP hoQ hoR) | (go_at_call 109; refine (addTo_any (off := 0) (n := ps.length + 1) (N := ps.length + 1) rfl (by omega) (by omega) (by omega) (by omega) hdq.out (fun j => getD_lt0 (by omega) hdp.out j) HF.out hQc.out (Nat.le_refl _)).mono ?_; rintro e w3 ⟨c, t, rfl, ht, htb, htv, -, hgr⟩; have hv3 := Lib.hid (sum_val hdp.out hdq.out hle hsum.out htv); have hL3 := Lib.hid (rowP_LU ht (Nat.le_refl _) (Nat.le_refl _)); have hB3 := Lib.hid (seg_lt htb 0 (ps.length + 1)); have oR3 := oR2.grown hgr (by omega); have hbw3 : Hid (Below w.heap.size w w3) := hbw2.out.grown hgr hbw2.out.size (fun k hk => by cases hk; omega); clear ht htb htv hgr HF hQc hbw2) | (go_at_call 61; refine (fromDigits_new (by rw [seg_len]; omega) hB3.out hL3.out).mono ?_; rintro e w4 ⟨v, rfl, hv4, hb4⟩; rw [hv3.out] at hv4; obtain ⟨A4, n4, c4, -, rfl⟩ := isNat_digs hv4; have oR4 := oR3.step hb4; have hR4 := oR4.cell; have hff := oR4.frozen))
    have oR5 := oR4.set_ (.slice A4 n4 c4)
    refine bodyPost_ret (v := .agg #[.slice A4 n4 c4]) (by simp [results, Tryz.results84, go_sem, oR5.cell]) rfl ?_
    exact ⟨_, rfl, hv4.far oR4.row (by decide) _, (hbw3.out.trans (hb4.mono hbw3.out.size)).setCell (by show w.heap.size ≤ w.heap.size + 1 + 1; omega) _⟩
end Go.Proofs.YthfjbpbgnoonpaaGreatDoor

namespace Go.Proofs.YthfjbpbgnoonpaaGreatDoor
open Go.RowKit

/-- Values that stand for numbers below a power of the base. -/
def Env (W : World) (L : List (Value × Nat × Nat)) : Prop := Tab W ∧ ∀ p ∈ L, IsNat W p.1 p.2.1 ∧ p.2.1 < 4294967296 ^ p.2.2
theorem Env.below {W W' : World} {L : List (Value × Nat × Nat)} (h : Env W L) (hb : Below W.heap.size W W') : Env W' L := ⟨h.1.below hb, fun p hp => ⟨(h.2 p hp).1.below hb, (h.2 p hp).2⟩⟩
theorem Env.drew {W : World} {L : List (Value × Nat × Nat)} (h : Env W L) : Env W.drew L := ⟨h.1, h.2⟩
theorem Env.push {W : World} {L : List (Value × Nat × Nat)} (h : Env W L) {v : Value} {k a : Nat} (hv : IsNat W v k) (hk : k < 4294967296 ^ a) : Env W ((v, k, a) :: L) :=
  ⟨h.1, fun p hp => by rcases List.mem_cons.1 hp with rfl | hp
                       · exact ⟨hv, hk⟩
                       · exact h.2 p hp⟩
theorem Env.far {W : World} {L : List (Value × Nat × Nat)} (h : Env W L) {p : Addr} {u : Value} (hT : Tab (W.setCell p u)) (hp : IsRow W 28 p.block) : Env (W.setCell p u) L :=
  ⟨hT, fun q hq => ⟨(h.2 q hq).1.far hp (by decide) u, (h.2 q hq).2⟩⟩
theorem Env.cut {W : World} {L : List (Value × Nat × Nat)} {a b : Value × Nat × Nat} (h : Env W (a :: b :: L)) : Env W (a :: L) :=
  ⟨h.1, fun q hq => h.2 q (by rcases List.mem_cons.1 hq with rfl | hq
                              · exact .head _
                              · exact .tail _ (.tail _ hq))⟩
def OpE (W : World) (L : List (Value × Nat × Nat)) (k a : Nat) (e : Ending) (w' : World) : Prop := ∃ A n c, e = .returned (.agg #[.slice A n c]) ∧ Env w' ((.agg #[.slice A n c], k, a) :: L) ∧ Below W.heap.size W w'
theorem pow_sum {k j a b : Nat} (hk : k < 4294967296 ^ a) (hj : j < 4294967296 ^ b) : k + j < 4294967296 ^ (a + b + 1) := by
  have h1 : (4294967296 : Nat) ^ a ≤ 4294967296 ^ (a + b) := Nat.pow_le_pow_right (by omega) (by omega)
  have h2 : (4294967296 : Nat) ^ b ≤ 4294967296 ^ (a + b) := Nat.pow_le_pow_right (by omega) (by omega)
  rw [Nat.pow_succ]
  generalize (4294967296 : Nat) ^ (a + b) = p at *
  omega
theorem addE {W : World} {L : List (Value × Nat × Nat)} {u v : Value} {k j a b : Nat} (E : Env W L) (hu : (u, k, a) ∈ L) (hv : (v, j, b) ∈ L) (ha : a ≤ 400) (hb : b ≤ 400) : Calls Tryz.prog 84 #[u, v] W (OpE W L (k + j) (a + b + 1)) := by
  obtain ⟨h1, h2⟩ := E.2 _ hu
  obtain ⟨h3, h4⟩ := E.2 _ hv
  simp only at h1 h2 h3 h4
  have l1 := digs_len (b := 4294967296) (by omega) h2
  have l2 := digs_len (b := 4294967296) (by omega) h4
  refine (natAdd_any (by omega) (by omega) h1 h3).mono ?_
  rintro e w' ⟨r, rfl, hr, hb⟩
  obtain ⟨A, n, c, -, rfl⟩ := isNat_digs hr
  exact ⟨A, n, c, rfl, (E.below hb).push hr (pow_sum h2 h4), hb⟩
theorem mulE {W : World} {L : List (Value × Nat × Nat)} {u v : Value} {k j a b : Nat} (E : Env W L) (hu : (u, k, a) ∈ L) (hv : (v, j, b) ∈ L) (ha : a ≤ 400) (hb : b ≤ 400) : Calls Tryz.prog 76 #[u, v] W (OpE W L (k * j) (a + b)) := by
  obtain ⟨h1, h2⟩ := E.2 _ hu
  obtain ⟨h3, h4⟩ := E.2 _ hv
  simp only at h1 h2 h3 h4
  have l1 := digs_len (b := 4294967296) (by omega) h2
  have l2 := digs_len (b := 4294967296) (by omega) h4
  refine (natMul_any (by omega) (by omega) h1 h3).mono ?_
  rintro e w' ⟨r, rfl, hr, hb⟩
  obtain ⟨A, n, c, -, rfl⟩ := isNat_digs hr
  exact ⟨A, n, c, rfl, (E.below hb).push hr (by rw [Nat.pow_add]; exact Nat.mul_lt_mul'' h2 h4), hb⟩
end Go.Proofs.YthfjbpbgnoonpaaGreatDoor

namespace Go.Proofs.YthfjbpbgnoonpaaGreatDoor
open Go.RowKit

def DiffOk (w : World) (k : Nat) (e : Ending) (w' : World) : Prop := ∃ v, e = .returned (.tuple #[v, .int .i64 0]) ∧ IsNat w' v k ∧ Below w.heap.size w w'

set_option maxRecDepth 100000 in
set_option maxHeartbeats 1000000 in
theorem subtractFrom_none {P Q : Option Addr} {cp cb : Nat} {w : World} : Calls Tryz.prog 121 #[.slice P 0 cp, .slice Q 0 cb] w fun e w' => e = .returned (.int .u32 0) ∧ w = w' := by
  go_enter Tryz.func121, Tryz.ntmps121
  go_wp2
  go_loop [5, 11] (fun c i => c = .int .u32 0 ∧ i = .int .i64 0) (fun _ i => (intOf i).toNat)
  case atStart => exact ⟨rfl, rfl⟩
  case round =>
    obtain ⟨rfl, rfl⟩ := hrel
    go_wp2
    go_loop [5, 8] (fun c i => c = .int .u32 0 ∧ i = .int .i64 0) (fun _ i => (intOf i).toNat)
    case atStart => exact ⟨rfl, rfl⟩
    case round =>
      obtain ⟨rfl, rfl⟩ := hrel
      go_wp2
      go_ret
      exact ⟨rfl, rfl⟩

theorem diff_math {p T x y k c : Nat} (h : T + y = x + p * c) (hk : x - y = k) (hle : y ≤ x) (hT : T < p) : T = k := by
  rcases Nat.eq_zero_or_pos c with rfl | hc
  · simp at h; omega
  · have h5 : p * 1 ≤ p * c := Nat.mul_le_mul_left _ hc
    omega

set_option maxRecDepth 100000 in
set_option maxHeartbeats 1500000 in
theorem natSub_less {u v : Value} {x y : Nat} {w : World} (hlx : (digs 4294967296 x).length ≤ 1000) (hly : (digs 4294967296 y).length ≤ 1000) (hlt : x < y) (hu : IsNat w u x) (hv : IsNat w v y) :
    Calls Tryz.prog 103 #[u, v] w fun e w' => e = .returned (.tuple #[.agg #[.slice none 0 0], .int .i64 2]) ∧ Below w.heap.size w w' := by
  obtain ⟨A, n, ca, hn, rfl⟩ := isNat_digs hu
  obtain ⟨B, m, cb, hm, rfl⟩ := isNat_digs hv
  obtain ⟨w3, hw3⟩ : ∃ w3, (((w.alloc (.cells #[.slice A n ca] 28)).alloc (.cells #[.slice B m cb] 28)).alloc (.cells #[.slice none 0 0] 28)) = w3 := ⟨_, rfl⟩
  have hb3 : Below w.heap.size w w3 := by
    rw [← hw3]
    exact (((Below.refl _ w).alloc (Nat.le_refl _) _).alloc (by simp) _).alloc (by simp; omega) _
  have o3 : One w3 (w.heap.size + 1 + 1) (.slice none 0 0) 28 := by
    have := (One.new ((w.alloc (.cells #[.slice A n ca] 28)).alloc (.cells #[.slice B m cb] 28)) (.slice none 0 0) 28)
    rw [hw3] at this
    simpa using this
  have d1 : w3.cell? ⟨w.heap.size, 0, none⟩ = some (.slice A n ca) := by
    have := ((One.new w (.slice A n ca) 28).alloc (.cells #[.slice B m cb] 28)).alloc (.cells #[.slice none 0 0] 28)
    rw [hw3] at this
    exact this.cell
  have d2 : w3.cell? ⟨w.heap.size + 1, 0, none⟩ = some (.slice B m cb) := by
    have := (One.new (w.alloc (.cells #[.slice A n ca] 28)) (.slice B m cb) 28).alloc (.cells #[.slice none 0 0] 28)
    rw [hw3] at this
    simpa using this.cell
  have HC := Lib.hid (cmp_any (w := w3) (by omega) (by omega) (hu.below hb3) (hv.below hb3))
  have hci : cmpI x y = -1 := by unfold cmpI; rw [if_pos hlt]
  rw [hci] at HC
  clear hci hn hm hlt hlx hly hu hv
  go_enter Tryz.func103, Tryz.ntmps103
  go_wp2_with fail
  clear hw3
  refine HC.out.mono ?_
  rintro e w4 ⟨rfl, hb4⟩
  have oR4 := o3.step hb4
  have hR4 := oR4.cell
  have hff := oR4.frozen
  go_wp2_with fail
  have oR5 := oR4.set_ (.slice none 0 0)
  refine bodyPost_ret (v := .tuple #[.agg #[.slice none 0 0], .int .i64 2]) (by simp [results, Tryz.results103, go_sem, oR5.cell]) rfl ?_
  exact ⟨rfl, (hb3.trans (hb4.mono hb3.size)).setCell (by show w.heap.size ≤ w.heap.size + 1 + 1; omega) _⟩

set_option maxRecDepth 100000 in
set_option maxHeartbeats 1500000 in
theorem natSub_ge {u v : Value} {x y : Nat} {w : World} (hlx : (digs 4294967296 x).length ≤ 1000) (hly : (digs 4294967296 y).length ≤ 1000) (hle : y ≤ x) (hu : IsNat w u x) (hv : IsNat w v y) :
    Calls Tryz.prog 103 #[u, v] w (DiffOk w (x - y)) := by
  have hu0 := hu
  have hv0 := hv
  obtain ⟨s, rfl, A, ca, rfl, hca, hA⟩ := hu
  obtain ⟨t, rfl, B, cb, rfl, hcb, hB⟩ := hv
  obtain ⟨xs, hxs⟩ : ∃ xs, xs = digs 4294967296 x := ⟨_, rfl⟩
  obtain ⟨ys, hys⟩ : ∃ ys, ys = digs 4294967296 y := ⟨_, rfl⟩
  have hvx : Hid (val 4294967296 xs = x) := by rw [hxs]; exact val_digs (by omega) x
  have hvy : Hid (val 4294967296 ys = y) := by rw [hys]; exact val_digs (by omega) y
  have hdx : Hid (∀ d ∈ xs, d < 4294967296) := by rw [hxs]; exact digs_lt (by omega) x
  have hdy : Hid (∀ d ∈ ys, d < 4294967296) := by rw [hys]; exact digs_lt (by omega) y
  have hll : ys.length ≤ xs.length := by
    rcases Nat.lt_or_ge xs.length ys.length with h | h
    · rw [hxs, hys] at h
      have := cmp_len h
      omega
    · exact h
  obtain ⟨w3, hw3⟩ : ∃ w3, (((w.alloc (.cells #[.slice A (digs 4294967296 x).length ca] 28)).alloc (.cells #[.slice B (digs 4294967296 y).length cb] 28)).alloc (.cells #[.slice none 0 0] 28)) = w3 := ⟨_, rfl⟩
  have hb3 : Below w.heap.size w w3 := by
    rw [← hw3]
    exact (((Below.refl _ w).alloc (Nat.le_refl _) _).alloc (by simp) _).alloc (by simp; omega) _
  have o1 : One w3 w.heap.size (.slice A (digs 4294967296 x).length ca) 28 := by rw [← hw3]; exact ((One.new w _ _).alloc _).alloc _
  have o2 : One w3 (w.heap.size + 1) (.slice B (digs 4294967296 y).length cb) 28 := by
    have := (One.new (w.alloc (.cells #[.slice A (digs 4294967296 x).length ca] 28)) (.slice B (digs 4294967296 y).length cb) 28).alloc (.cells #[.slice none 0 0] 28)
    rw [hw3] at this
    simpa using this
  have o3 : One w3 (w.heap.size + 1 + 1) (.slice none 0 0) 28 := by
    have := (One.new ((w.alloc (.cells #[.slice A (digs 4294967296 x).length ca] 28)).alloc (.cells #[.slice B (digs 4294967296 y).length cb] 28)) (.slice none 0 0) 28)
    rw [hw3] at this
    simpa using this
  have HC := Lib.hid (cmp_any (w := w3) (by omega) (by omega) (hu0.below hb3) (hv0.below hb3))
  have hci : cmpI x y = 0 ∨ cmpI x y = 1 := by unfold cmpI; rw [if_neg (by omega)]; split <;> simp
  obtain ⟨cc, hcc⟩ : ∃ cc, cmpI x y = cc := ⟨_, rfl⟩
  rw [hcc] at HC hci
  have hc0 : 0 ≤ cc := by omega
  have HLE := Lib.hid hle
  have HDX := Lib.hid (show Hid (∀ d ∈ xs, d < 4294967296) from hdx)
  have d1 := o1.cell
  have d2 := o2.cell
  rw [← hxs] at hlx hca hA hw3 o1 HC d1 ⊢
  rw [← hys] at hly hcb hB hw3 o2 HC d2 ⊢
  clear hci hcc hxs hys hu0 hv0 HDX
  have hs3 : w.heap.size + 1 + 1 + 1 ≤ w3.heap.size := by rw [← hw3]; simp
  go_enter Tryz.func103, Tryz.ntmps103
  go_wp2_with fail
  clear hw3
  refine HC.out.mono ?_
  rintro e w4 ⟨rfl, hb4⟩
  have p1 := o1.step hb4
  have p2 := o2.step hb4
  have p3 := o3.step hb4
  have hbw4 := hb3.trans (hb4.mono hb3.size)
  have hs4 : w.heap.size + 1 + 1 + 1 ≤ w4.heap.size := by have := hb4.size; omega
  have d1 := p1.cell
  clear HC o1 o2 o3 d2 hb3 hb4 hs3
  go_wp2_with fail
  refine (clone_any rfl (by omega) (hA.step hbw4)).mono ?_
  rintro e w5 ⟨v5, rfl, hown, hb5⟩
  have q2 := p2.step hb5
  have q3 := p3.step hb5
  have d2 := q2.cell
  have hbw5 := hbw4.trans (hb5.mono hbw4.size)
  have hs5 : w.heap.size + 1 + 1 + 1 ≤ w5.heap.size := by have := hb5.size; omega
  clear p1 p2 p3 d1
  rcases hown.2 with ⟨h0, h1⟩ | ⟨g, cap, cur, h0, hg, -⟩
  · subst h0
    obtain rfl : xs = [] := List.eq_nil_of_length_eq_zero h1
    obtain rfl : ys = [] := List.eq_nil_of_length_eq_zero (by simpa using hll)
    have HS := Lib.hid (fun W : World => subtractFrom_none (P := none) (Q := B) (cp := 0) (cb := cb) (w := W))
    have HF := Lib.hid (fun W : World => fromDigits_new (w := W) (v := .slice none 0 0) (ds := []) (by simp) (by simp) ⟨none, 0, rfl, Nat.le_refl _, .inl rfl, fun i hi => by simp at hi⟩)
    have hxy : Hid (x - y = val 4294967296 []) := by unfold Hid; rw [← hvx.out, ← hvy.out]; rfl
    rw [← hxy.out] at HF
    clear hown hxy h1 hA hB hb5
    simp only [List.length_nil] at *
    go_wp2_with fail
    refine (HS.out _).mono ?_
    rintro e w6 ⟨rfl, rfl⟩
    go_wp2_with fail
    refine (HF.out _).mono ?_
    rintro e w7 ⟨v7, rfl, hv7, hb7⟩
    obtain ⟨A7, n7, c7, -, rfl⟩ := isNat_digs hv7
    have r3 := q3.step hb7
    have hR := r3.cell
    have hff := r3.frozen
    go_wp2_with fail
    have r4 := r3.set_ (.slice A7 n7 c7)
    refine bodyPost_ret (v := .tuple #[.agg #[.slice A7 n7 c7], .int .i64 0]) (by simp [results, Tryz.results103, go_sem, r4.cell]) rfl ?_
    exact ⟨_, rfl, hv7.far r3.row (by decide) _, (hbw5.trans (hb7.mono hbw5.size)).setCell (by show w.heap.size ≤ w.heap.size + 1 + 1; omega) _⟩
  · subst h0
    obtain ⟨N, f, hcap, hN, hrow, hf⟩ := row_of_own hown
    have hP : RowP w5 g N f 0 xs.length (fun j => xs.getD j 0) := RowP.of hrow (fun j hj => by rw [Nat.zero_add, hf j hj]; rfl)
    have hBc : Cells w5 g B ys.length (u32f ys) := ((hB.step hbw4).cells.below hb5).more hg
    have HS := Lib.hid (subtractFrom_any (w := w5) (off := 0) (cp := cap) (cb := cb) rfl hll (by omega) (by omega) (by omega) hdy.out (fun j => getD_lt0 (by omega) hdx.out j) hP hBc hcap)
    clear hown hP hBc hrow hf hA hB
    have hnet : Hid (w4.heap.size ≤ g) := hg
    go_wp2_with fail
    refine HS.out.mono ?_
    rintro e w6 ⟨c, t, rfl, ht, htb, htv, -, hgr⟩
    have hv6 : Hid (val 4294967296 (seg t 0 xs.length) = x - y) := by
      rw [seg_getD_more xs _ (Nat.le_refl _), hvx.out, hvy.out] at htv
      have := val_lt (seg t 0 xs.length) (seg_lt htb 0 xs.length)
      rw [seg_len] at this
      exact diff_math htv rfl HLE.out this
    have HF := Lib.hid (fromDigits_new (by rw [seg_len]; omega) (seg_lt htb 0 xs.length) (rowP_LU ht hN hcap))
    rw [hv6.out] at HF
    have r3 := q3.grown hgr (by have := hnet.out; omega)
    have hbw6 := hbw5.grown hgr hbw5.size (fun k hk => by cases hk; have := hnet.out; omega)
    clear ht htb htv hgr hv6 HS
    go_wp2_with fail
    refine HF.out.mono ?_
    rintro e w7 ⟨v7, rfl, hv7, hb7⟩
    obtain ⟨A7, n7, c7, -, rfl⟩ := isNat_digs hv7
    have r4 := r3.step hb7
    have hR := r4.cell
    have hff := r4.frozen
    go_wp2_with fail
    have r5 := r4.set_ (.slice A7 n7 c7)
    refine bodyPost_ret (v := .tuple #[.agg #[.slice A7 n7 c7], .int .i64 0]) (by simp [results, Tryz.results103, go_sem, r5.cell]) rfl ?_
    exact ⟨_, rfl, hv7.far r4.row (by decide) _, (hbw6.trans (hb7.mono hbw6.size)).setCell (by show w.heap.size ≤ w.heap.size + 1 + 1; omega) _⟩
end Go.Proofs.YthfjbpbgnoonpaaGreatDoor

namespace Go.Proofs.YthfjbpbgnoonpaaGreatDoor

/-- The sum of the first i products whose places add up to k. -/
def psum (xs ys : List Nat) (k : Nat) : Nat → Nat
  | 0 => 0
  | i + 1 => psum xs ys k i + xs.getD i 0 * ys.getD (k - i) 0
def conv (xs ys : List Nat) (k : Nat) : Nat := psum xs ys k (k + 1)
theorem psum_more (xs ys : List Nat) (k i : Nat) (h : xs.length ≤ i) : ∀ n, psum xs ys k (i + n) = psum xs ys k i
  | 0 => rfl
  | n + 1 => by
    show psum xs ys k (i + n) + xs.getD (i + n) 0 * _ = _
    rw [psum_more xs ys k i h n]
    simp [List.getD, show xs.length ≤ i + n by omega]
theorem conv_at (xs ys : List Nat) (k i : Nat) (hi : i ≤ k + 1) (h : i = k + 1 ∨ xs.length ≤ i) : psum xs ys k i = conv xs ys k := by
  rcases h with rfl | h
  · rfl
  · obtain ⟨n, hn⟩ : ∃ n, k + 1 = i + n := ⟨k + 1 - i, by omega⟩
    unfold conv
    rw [hn, psum_more xs ys k i h n]
theorem psum_cons (x : Nat) (xs ys : List Nat) (k : Nat) : ∀ i, i ≤ k + 1 → psum (x :: xs) ys (k + 1) (i + 1) = x * ys.getD (k + 1) 0 + psum xs ys k i
  | 0, _ => by simp [psum]
  | i + 1, h => by
    show psum (x :: xs) ys (k + 1) (i + 1) + (x :: xs).getD (i + 1) 0 * ys.getD (k + 1 - (i + 1)) 0 = _
    rw [psum_cons x xs ys k i (by omega), show k + 1 - (i + 1) = k - i by omega]
    simp [psum, List.getD, Nat.add_assoc]
theorem conv_zero (x : Nat) (xs ys : List Nat) : conv (x :: xs) ys 0 = x * ys.getD 0 0 := by simp [conv, psum, List.getD]
theorem conv_succ (x : Nat) (xs ys : List Nat) (k : Nat) : conv (x :: xs) ys (k + 1) = x * ys.getD (k + 1) 0 + conv xs ys k := psum_cons x xs ys k (k + 1) (Nat.le_refl _)
theorem seg_cons (f : Nat → Nat) (n : Nat) : seg f 0 (n + 1) = f 0 :: seg (fun j => f (j + 1)) 0 n := by
  simp [seg, List.range_succ_eq_map, Function.comp_def]
theorem val_add (b : Nat) (f g : Nat → Nat) : ∀ n, val b (seg (fun j => f j + g j) 0 n) = val b (seg f 0 n) + val b (seg g 0 n)
  | 0 => rfl
  | n + 1 => by
    rw [seg_succ, val_snoc, seg_succ, val_snoc, seg_succ, val_snoc, val_add b f g n, seg_len, seg_len, seg_len]
    simp only [Nat.mul_add]
    omega
theorem val_times (b x : Nat) (f : Nat → Nat) : ∀ n, val b (seg (fun j => x * f j) 0 n) = x * val b (seg f 0 n)
  | 0 => rfl
  | n + 1 => by
    rw [seg_succ, val_snoc, seg_succ, val_snoc, val_times b x f n, seg_len, seg_len, Nat.mul_add, Nat.mul_left_comm]
theorem seg_getD_any (b : Nat) (ds : List Nat) (i : Nat) (h : ds.length ≤ i) : val b (seg (fun j => ds.getD j 0) 0 i) = val b ds := by
  obtain ⟨n, rfl⟩ : ∃ n, i = ds.length + n := ⟨i - ds.length, by omega⟩
  rw [val_seg_split, seg_getD, val_zeros _ _ _ _ (fun j _ => by simp [List.getD])]
  simp
theorem conv_val (b : Nat) (ys : List Nat) : ∀ xs : List Nat, val b (seg (conv xs ys) 0 (xs.length + ys.length)) = val b xs * val b ys
  | [] => by
    have h0 : ∀ k i, psum [] ys k i = 0 := by
      intro k i
      induction i with
      | zero => rfl
      | succ i ih => rw [psum, ih]; simp [List.getD]
    rw [val_zeros b (conv [] ys) _ _ (fun j _ => h0 _ _)]
    simp [val]
  | x :: xs => by
    have e : (x :: xs).length + ys.length = (xs.length + ys.length) + 1 := by simp; omega
    rw [e]
    have h1 : seg (conv (x :: xs) ys) 0 (xs.length + ys.length + 1) = seg (fun j => x * ys.getD j 0 + (if j = 0 then 0 else conv xs ys (j - 1))) 0 (xs.length + ys.length + 1) := seg_same fun j _ => by
      rw [Nat.zero_add]
      cases j with
      | zero => rw [conv_zero]; simp
      | succ j => rw [conv_succ]; simp
    rw [h1, val_add b (fun j => x * ys.getD j 0) (fun j => if j = 0 then 0 else conv xs ys (j - 1)), val_times, seg_getD_any b ys _ (by omega), seg_cons]
    have h2 : seg (fun j => (fun j => if j = 0 then 0 else conv xs ys (j - 1)) (j + 1)) 0 (xs.length + ys.length) = seg (conv xs ys) 0 (xs.length + ys.length) := seg_same fun j _ => by simp
    rw [h2]
    show x * val b ys + ((if (0:Nat) = 0 then 0 else _) + b * val b (seg (conv xs ys) 0 (xs.length + ys.length))) = (x + b * val b xs) * val b ys
    rw [conv_val b ys xs, if_pos rfl, Nat.add_mul, Nat.zero_add, Nat.mul_assoc]
theorem psum_le (xs ys : List Nat) (k B : Nat) (hx : ∀ d ∈ xs, d < B) (hy : ∀ d ∈ ys, d < B) (hB : 0 < B) : ∀ i, psum xs ys k i ≤ i * ((B - 1) * (B - 1))
  | 0 => by simp [psum]
  | i + 1 => by
    have h1 := psum_le xs ys k B hx hy hB i
    have g : ∀ (l : List Nat) (j : Nat), (∀ d ∈ l, d < B) → l.getD j 0 ≤ B - 1 := by
      intro l j hl
      by_cases h : j < l.length
      · have := hl (l[j]) (List.getElem_mem h)
        simp [List.getD, h]
        omega
      · simp [List.getD, h]
    have h2 : xs.getD i 0 * ys.getD (k - i) 0 ≤ (B - 1) * (B - 1) := Nat.mul_le_mul (g xs i hx) (g ys _ hy)
    show psum xs ys k i + _ ≤ _
    rw [Nat.add_mul, Nat.one_mul]
    omega
theorem psum_mono (xs ys : List Nat) (k i n : Nat) : psum xs ys k i ≤ psum xs ys k (i + n) := by
  induction n with
  | zero => exact Nat.le_refl _
  | succ n ih => exact Nat.le_trans ih (Nat.le_add_right _ _)
end Go.Proofs.YthfjbpbgnoonpaaGreatDoor

namespace Go.Proofs.YthfjbpbgnoonpaaGreatDoor
open Go.RowKit

theorem row_of_owns {base : Nat} {W : World} {e : TypeId} {v : Value} {n : Nat} {f : Nat → Value} (h : W.ownsRow base e 1 v n (vals f n)) (hn : 0 < n) :
    ∃ g N c f', v = .slice (some ⟨g, 0, none⟩) n c ∧ base ≤ g ∧ n ≤ c ∧ n ≤ N ∧ Row W g e N f' ∧ ∀ i, i < n → f' i = f i := by
  have h0 := h
  rcases h.2 with ⟨_, e1⟩ | ⟨g, cap, cur, rfl, hg, hh, hnc, _, hcs, _⟩
  · omega
  · have hc := Cells.of_own h0 (fun i hi => vals_get f n i hi)
    refine ⟨g, cur.size, cap, fun i => cur[i]?.getD undef, rfl, hg, hnc, by omega, ?_, ?_⟩
    · unfold Row
      rw [hh]
      congr 2
      apply Array.ext
      · simp [vals_len]
      · intro i h1 h2
        simp [vals, h1]
    · intro i hi
      obtain ⟨a, ha, _, h1⟩ := hc i hi
      obtain rfl : a = ⟨g, 0, none⟩ := by simpa using ha.symm
      rw [row_at, cell_of_row W g i cur e (0, 0) hh] at h1
      show cur[i]?.getD undef = _
      rw [h1]
      rfl

/-- The row of the difference when i groups are done, with the borrow c at group i. -/
def subF (xs : List Nat) (f : Nat → Value) (t : Nat → Nat) (i c j : Nat) : Value :=
  if j < xs.length then .int .i64 (if j < i then (t j : Int) else if j = i then ((xs.getD j 0 : Nat) : Int) - (c : Int) else ((xs.getD j 0 : Nat) : Int)) else f j
/-- At the head of Sub's loop. -/
def SubR (w : World) (g N : Nat) (f : Nat → Value) (xs ys : List Nat) (i c : Nat) (W : World) : Prop :=
  ∃ t : Nat → Nat, Row W g 3 N (subF xs f t i c) ∧ (∀ j, t j < 1000000) ∧ val 1000000 (seg t 0 i) + val 1000000 (seg (fun j => ys.getD j 0) 0 i) = val 1000000 (seg (fun j => xs.getD j 0) 0 i) + 1000000 ^ i * c ∧
    c ≤ 1 ∧ (c = 0 ∨ i < xs.length) ∧ Below w.heap.size w W
theorem subR_math {t v o p q s d c c' b : Nat} (h : t + v = o + p * c) (hq : q + d + c = s + b * c') : (t + p * q) + (v + p * d) = (o + p * s) + (p * b) * c' := by
  have h2 : p * (q + d + c) = p * (s + b * c') := by rw [hq]
  rw [Nat.mul_add, Nat.mul_add, Nat.mul_add, ← Nat.mul_assoc] at h2
  omega
/-- One round: q is the new group. -/
theorem subR_next {w W' : World} {g N : Nat} {f : Nat → Value} {xs ys : List Nat} {i c c' q : Nat} {t : Nat → Nat} (_hi : i < xs.length) (ht : ∀ j, t j < 1000000) (hv : val 1000000 (seg t 0 i) + val 1000000 (seg (fun j => ys.getD j 0) 0 i) = val 1000000 (seg (fun j => xs.getD j 0) 0 i) + 1000000 ^ i * c)
    (hq : q < 1000000) (hc' : c' ≤ 1) (hm : q + ys.getD i 0 + c = xs.getD i 0 + 1000000 * c') (hend : c' = 0 ∨ i + 1 < xs.length) (hb : Below w.heap.size w W')
    (hr : Row W' g 3 N (subF xs f (fun j => if j = i then q else t j) (i + 1) c')) : SubR w g N f xs ys (i + 1) c' W' := by
  refine ⟨_, hr, ?_, ?_, hc', hend, hb⟩
  · intro j
    show (if j = i then q else t j) < _
    by_cases h : j = i
    · rw [if_pos h]; exact hq
    · rw [if_neg h]; exact ht j
  · rw [seg_succ, val_snoc, seg_len, seg_succ, val_snoc, seg_len, seg_succ, val_snoc, seg_len, Nat.pow_succ]
    have e1 : seg (fun j => if j = i then q else t j) 0 i = seg t 0 i := seg_same fun j hj => if_neg (by omega)
    rw [e1]
    simp only [Nat.zero_add, if_true]
    exact subR_math hv hm
/-- A borrow at the last group: then the second number would be the greater one. -/
theorem subR_last {xs ys : List Nat} {i c q : Nat} {t : Nat → Nat} (hi : i < xs.length) (hl : ys.length ≤ xs.length) (hle : val 1000000 ys ≤ val 1000000 xs) (ht : ∀ j, t j < 1000000) (hv : val 1000000 (seg t 0 i) + val 1000000 (seg (fun j => ys.getD j 0) 0 i) = val 1000000 (seg (fun j => xs.getD j 0) 0 i) + 1000000 ^ i * c)
    (hq : q < 1000000) (hm : q + ys.getD i 0 + c = xs.getD i 0 + 1000000 * 1) : i + 1 < xs.length := by
  rcases Nat.lt_or_ge (i + 1) xs.length with h | h
  · exact h
  · have he : xs.length = i + 1 := by omega
    have h1 := subR_math (p := 1000000 ^ i) hv hm
    have h2 : val 1000000 (seg (fun j => xs.getD j 0) 0 (i + 1)) = val 1000000 xs := seg_getD_any _ _ _ (by omega)
    have h3 : val 1000000 (seg (fun j => ys.getD j 0) 0 (i + 1)) = val 1000000 ys := seg_getD_any _ _ _ (by omega)
    rw [seg_succ, val_snoc, seg_len, Nat.zero_add] at h2 h3
    have h4 := val_lt (b := 1000000) (seg t 0 i) (fun d hd => by obtain ⟨j, _, rfl⟩ := List.mem_map.1 hd; exact ht _)
    rw [seg_len] at h4
    rw [h2, h3] at h1
    have h5 : 1000000 ^ i * q + 1000000 ^ i ≤ 1000000 ^ i * 1000000 := by
      have : 1000000 ^ i * (q + 1) ≤ 1000000 ^ i * 1000000 := Nat.mul_le_mul_left _ hq
      rwa [Nat.mul_add, Nat.mul_one] at this
    omega
def SubE (w : World) (k : Nat) (e : Ending) (w' : World) : Prop := ∃ v, e = .returned (.tuple #[v, .int .i64 0]) ∧ LI w' v (digs 1000000 k) ∧ Below w.heap.size w w'
theorem subR_end {w W : World} {g N c : Nat} {f : Nat → Value} {xs ys : List Nat} (hN : xs.length ≤ N) (hc : xs.length ≤ c) (hl : ys.length ≤ xs.length) {b : Nat} (h : SubR w g N f xs ys xs.length b W) :
    ∃ ds : List Nat, ds.length = xs.length ∧ strip ds = digs 1000000 (val 1000000 xs - val 1000000 ys) ∧ LI W (.slice (some ⟨g, 0, none⟩) xs.length c) ds ∧ Below w.heap.size w W := by
  obtain ⟨t, hr, ht, hv, _, h0, hb⟩ := h
  obtain rfl : b = 0 := by omega
  refine ⟨seg t 0 xs.length, seg_len _ _ _, ?_, ?_, hb⟩
  · rw [strip_digs (b := 1000000) (by omega) _ (fun d hd => by obtain ⟨j, _, rfl⟩ := List.mem_map.1 hd; exact ht _)]
    rw [seg_getD_any _ xs _ (Nat.le_refl _), seg_getD_any _ ys _ hl] at hv
    congr 1
    omega
  · refine LI.of_cells (seg_len _ _ _) hc (fun i hi => hr.cells i (by omega)) (fun j hj => ?_)
    unfold subF i64f
    rw [if_pos hj, if_pos hj]
    simp [seg, List.getD, hj]
theorem subF_set1 (xs : List Nat) (f : Nat → Value) (t : Nat → Nat) (i c q j : Nat) (hi : i < xs.length) : subF xs f (fun j => if j = i then q else t j) (i + 1) 0 j = if j = i then .int .i64 (q : Int) else subF xs f t i c j := by
  unfold subF
  by_cases hj : j = i
  · subst hj; simp [hi]
  · rw [if_neg hj]
    by_cases h1 : j < xs.length
    · rw [if_pos h1, if_pos h1]
      by_cases h2 : j < i
      · rw [if_pos (by omega), if_pos h2]; simp [hj]
      · rw [if_neg (by omega), if_neg h2, if_neg hj]
        by_cases h3 : j = i + 1
        · rw [if_pos h3]; simp
        · rw [if_neg h3]
    · rw [if_neg h1, if_neg h1]
theorem subF_set2 (xs : List Nat) (f : Nat → Value) (t : Nat → Nat) (i c q j : Nat) (hi : i + 1 < xs.length) : subF xs f (fun j => if j = i then q else t j) (i + 1) 1 j = if j = i + 1 then .int .i64 (((xs.getD (i + 1) 0 : Nat) : Int) - 1) else if j = i then .int .i64 (q : Int) else subF xs f t i c j := by
  by_cases hj : j = i + 1
  · subst hj; simp [subF, hi]
  · rw [if_neg hj, ← subF_set1 xs f t i c q j (by omega)]
    unfold subF
    by_cases h1 : j < xs.length
    · rw [if_pos h1, if_pos h1, if_neg hj, if_neg hj]
    · rw [if_neg h1, if_neg h1]

set_option maxRecDepth 100000 in
set_option maxHeartbeats 1600000 in
theorem refSub_less {u v : Value} {x y : Nat} {w : World} (hlx : (digs 1000000 x).length ≤ 1000) (hly : (digs 1000000 y).length ≤ 1000) (hlt : x < y) (hu : LI w u (digs 1000000 x)) (hv : LI w v (digs 1000000 y)) :
    Calls Tryz.prog 81 #[u, v] w fun e w' => e = .returned (.tuple #[.slice none 0 0, .int .i64 2]) ∧ Below w.heap.size w w' := by
  have HC := Lib.hid (refCmp_any (w := w) (by omega) (by omega) hu hv)
  have hci : cmpI x y = -1 := by unfold cmpI; rw [if_pos hlt]
  rw [hci] at HC
  obtain ⟨A, ca, rfl, hca, hA⟩ := hu
  obtain ⟨B, cb, rfl, hcb, hB⟩ := hv
  clear hci hlt hA hB
  go_enter Tryz.func81, Tryz.ntmps81
  go_wp2_with fail
  refine HC.out.mono ?_
  rintro e w1 ⟨rfl, hb1⟩
  go_wp2_with fail
  go_ret2
  exact ⟨rfl, hb1⟩

set_option maxRecDepth 100000 in
set_option maxHeartbeats 2400000 in
theorem refSub_ge {u v : Value} {x y : Nat} {w : World} (hlx : (digs 1000000 x).length ≤ 1000) (hly : (digs 1000000 y).length ≤ 1000) (hle : y ≤ x) (hu : LI w u (digs 1000000 x)) (hv : LI w v (digs 1000000 y)) :
    Calls Tryz.prog 81 #[u, v] w (SubE w (x - y)) := by
  have HC := Lib.hid (refCmp_any (w := w) (by omega) (by omega) hu hv)
  have hci : cmpI x y = 0 ∨ cmpI x y = 1 := by unfold cmpI; rw [if_neg (by omega)]; split <;> simp
  obtain ⟨cc, hcc⟩ : ∃ cc, cmpI x y = cc := ⟨_, rfl⟩
  rw [hcc] at HC hci
  have hc0 : 0 ≤ cc := by omega
  obtain ⟨A, ca, rfl, hca, hA⟩ := hu
  obtain ⟨B, cb, rfl, hcb, hB⟩ := hv
  obtain ⟨xs, hxs⟩ : ∃ xs, xs = digs 1000000 x := ⟨_, rfl⟩
  obtain ⟨ys, hys⟩ : ∃ ys, ys = digs 1000000 y := ⟨_, rfl⟩
  have hll : ys.length ≤ xs.length := by
    rcases Nat.lt_or_ge xs.length ys.length with h | h
    · rw [hxs, hys] at h
      have := digs6_shorter h
      omega
    · exact h
  have hvx : Hid (val 1000000 xs = x) := by rw [hxs]; exact val_digs (by omega) x
  have hvy : Hid (val 1000000 ys = y) := by rw [hys]; exact val_digs (by omega) y
  have hdx : Hid (∀ d ∈ xs, d < 1000000) := by rw [hxs]; exact digs_lt (by omega) x
  have hdy : Hid (∀ d ∈ ys, d < 1000000) := by rw [hys]; exact digs_lt (by omega) y
  have hvle : Hid (val 1000000 ys ≤ val 1000000 xs) := by unfold Hid; rw [hvx.out, hvy.out]; exact hle
  rw [← hxs] at hlx hca hA HC ⊢
  rw [← hys] at hly hcb hB HC ⊢
  obtain ⟨i0, hi, hz0, hz1, hz2⟩ := info_parts infoInt
  clear hci hcc hxs hys hle
  by_cases hx0 : 0 < xs.length
  · go_enter Tryz.func81, Tryz.ntmps81
    go_wp2_with fail
    refine HC.out.mono ?_
    rintro e w1 ⟨rfl, hb1⟩
    have hA1 : Cells (w1.alloc (.cells #[] 3)) w1.heap.size A xs.length (i64f xs) := ((hA.step hb1 hb1.size).below ((Below.refl _ w1).alloc (Nat.le_refl _) (.cells #[] 3)))
    clear HC
    go_wp2_with (at_builtin; refine wpList_append_cells _ rfl (.tmp 12) (.tmp 13) _ _ rfl w1.heap.size 3 3 i0 _ 8 Tryz.underlying31 Tryz.underlying32 hi hz0 hz1 hz2 rfl _ 0 [] rfl (own_empty w1 3) w1.heap.size A xs.length ca (i64f xs) rfl hA1 (fun _ _ => rfl) (by simp [maxLen]; omega) (by omega) (by simp) ?_; intro v' w2 hown hgrow _; rw [Nat.zero_add, List.nil_append] at hown; obtain ⟨g, N, c2, f, rfl, hg, hnc, hN, hrow, hf⟩ := row_of_owns hown hx0; have hgh := Lib.hid hg; have HF := Lib.hid hf; have HR := Lib.hid hrow; have HB : Hid ((w1.alloc (.cells #[] 3)).grownBy w2 (some w1.heap.size)) := hgrow; clear hown hf hrow hgrow hg)
    have hbw2 : Below w.heap.size w w2 := hb1.trans ((((Below.refl _ w1).alloc (Nat.le_refl _) _).grown HB.out (by simp) (fun k hk => by cases hk; exact Nat.le_refl _)).mono hb1.size)
    have hR0 : SubR w g N f xs ys 0 0 w2 := by
      refine ⟨fun _ => 0, HR.out.same (fun j hj => ?_), fun _ => by show (0 : Nat) < 1000000; decide, by simp [seg, val], by omega, .inl rfl, hbw2⟩
      unfold subF
      by_cases h1 : j < xs.length
      · rw [if_pos h1, if_neg (by omega), HF.out j h1]
        by_cases h2 : j = 0
        · subst h2; simp [i64f]
        · rw [if_neg h2]; rfl
      · rw [if_neg h1]
    have hgw : Hid (w.heap.size ≤ g) := Nat.le_trans hb1.size hgh.out
    clear HF HR HB hA1 hbw2 hb1 hgh
    go_loopw [7] (fun i wr => ∃ (ni nc : Nat), i = .int .i64 ni ∧ ni ≤ xs.length ∧ SubR w g N f xs ys ni nc wr) (fun i _ => xs.length - (intOf i).toNat)
    case atStart => exact ⟨0, 0, rfl, by omega, hR0⟩
    case round =>
      obtain ⟨i, c, rfl, hix, hR⟩ := hrel
      clear hR0
      by_cases hlt : i < xs.length
      · have hR2 := hR
        obtain ⟨t, hr, ht, hv, hc1, _, hbw⟩ := hR2
        obtain ⟨s, hs⟩ : ∃ s : Nat, s = xs.getD i 0 := ⟨_, rfl⟩
        have hs1 : s < 1000000 := by rw [hs]; exact getD_lt hdx.out i hlt
        obtain ⟨d, hd⟩ : ∃ d : Nat, d = ys.getD i 0 := ⟨_, rfl⟩
        have hd1 : d < 1000000 := by rw [hd]; exact getD_lt0 (by omega) hdy.out i
        have hf0 := hr.frozen i
        have hf1 := hr.frozen (i + 1)
        have hcs : wr.cell? ⟨g, i, none⟩ = some (.int .i64 ((s : Int) - (c : Int))) := by
          rw [hr.cell i (by omega)]; unfold subF; rw [if_pos hlt, if_neg (by omega), if_pos rfl, hs]
        have hlast : Hid (∀ q, q < 1000000 → q + d + c = s + 1000000 * 1 → i + 1 < xs.length) := by
          intro q h1 h2
          rw [hd, hs] at h2
          exact subR_last hlt hll hvle.out ht hv h1 h2
        have hnx : Hid (∀ q c' W', q < 1000000 → c' ≤ 1 → q + d + c = s + 1000000 * c' → (c' = 0 ∨ i + 1 < xs.length) → Below w.heap.size w W' → Row W' g 3 N (subF xs f (fun j => if j = i then q else t j) (i + 1) c') → SubR w g N f xs ys (i + 1) c' W') := by
          intro q c' W' h1 h2 h3 h4 h5 h6
          rw [hd, hs] at h3
          exact subR_next hlt ht hv h1 h2 h3 h4 h5 h6
        obtain ⟨z, hz⟩ : ∃ z : Int, z = (s : Int) - (c : Int) := ⟨_, rfl⟩
        have hz3 : -1 ≤ z := by omega
        have hz4 : z ≤ 999999 := by omega
        have HZ := Lib.hid hz
        have HD := Lib.hid hd
        rw [← hz] at hcs
        clear hR ht hv hz hs hd
        by_cases hneg : z - (d : Int) < 0
        · obtain ⟨q, hq⟩ : ∃ q : Nat, (q : Int) = z - (d : Int) + 1000000 := ⟨(z - (d : Int) + 1000000).toNat, by omega⟩
          have hq1 : q < 1000000 := by omega
          have hqm : q + d + c = s + 1000000 * 1 := by have := HZ.out; omega
          have hi1 := hlast.out q hq1 hqm
          obtain ⟨r, hr1⟩ : ∃ r : Nat, r = xs.getD (i + 1) 0 := ⟨_, rfl⟩
          have hrl : r < 1000000 := by rw [hr1]; exact getD_lt hdx.out (i + 1) hi1
          have hcn : wr.cell? ⟨g, i + 1, none⟩ = some (.int .i64 (r : Int)) := by
            rw [hr.cell (i + 1) (by omega)]; unfold subF; rw [if_pos hi1, if_neg (by omega), if_neg (by omega), hr1]
          have HQ := Lib.hid hq
          have hst := Lib.hid (fun j => subF_set2 xs f t i c q j hi1)
          rw [← hr1] at hst
          have hfin : Hid (∀ W' : World, Below w.heap.size w W' → Row W' g 3 N (subF xs f (fun j => if j = i then q else t j) (i + 1) 1) → SubR w g N f xs ys (i + 1) 1 W') :=
            fun W' h1 h2 => hnx.out q 1 W' hq1 (by omega) hqm (.inr hi1) h1 h2
          clear hq hqm hr1 hlast hnx
          by_cases hiy : i < ys.length
          · obtain ⟨b, rfl, hbb, hcellb⟩ := hB i hiy
            have hcb' : wr.cell? (b.add i) = some (.int .i64 d) := by rw [hbw.cell (by rw [add_block]; exact hbb), hcellb, HD.out]; rfl
            clear hcellb
            go_wp2
            go_region
            all_goals
              go_wp2
              refine ⟨⟨i + 1, 1, by go_num, by omega, hfin.out _ ?_ ?_⟩, by simp [intOf]; omega⟩
              · exact ((((hbw.setCell hgw.out _).drew).setCell hgw.out _).setCell hgw.out _)
              · exact ((((hr.set_ i _ (fun _ _ => rfl)).drew).set_ i _ (fun _ _ => rfl)).set_ (i + 1) _ (fun j _ => by
                  rw [hst.out j, HQ.out]
                  by_cases h1 : j = i + 1 <;> by_cases h2 : j = i <;> simp [h1, h2]))
          · obtain rfl : d = 0 := by rw [HD.out]; simp [List.getD, show ys.length ≤ i by omega]
            have hzn : z < 0 := by omega
            go_wp2
            refine ⟨⟨i + 1, 1, by go_num, by omega, hfin.out _ ?_ ?_⟩, by simp [intOf]; omega⟩
            · exact ((hbw.setCell hgw.out _).setCell hgw.out _)
            · exact ((hr.set_ i _ (fun _ _ => rfl)).set_ (i + 1) _ (fun j _ => by
                rw [hst.out j, HQ.out]
                by_cases h1 : j = i + 1 <;> by_cases h2 : j = i <;> simp [h1, h2]))
        · obtain ⟨q, hq⟩ : ∃ q : Nat, (q : Int) = z - (d : Int) := ⟨(z - (d : Int)).toNat, by omega⟩
          have hq1 : q < 1000000 := by omega
          have hqm : q + d + c = s + 1000000 * 0 := by have := HZ.out; omega
          have HQ := Lib.hid hq
          have hst := Lib.hid (fun j => subF_set1 xs f t i c q j hlt)
          have hfin : Hid (∀ W' : World, Below w.heap.size w W' → Row W' g 3 N (subF xs f (fun j => if j = i then q else t j) (i + 1) 0) → SubR w g N f xs ys (i + 1) 0 W') :=
            fun W' h1 h2 => hnx.out q 0 W' hq1 (by omega) hqm (.inl rfl) h1 h2
          clear hq hqm hlast hnx
          by_cases hiy : i < ys.length
          · obtain ⟨b, rfl, hbb, hcellb⟩ := hB i hiy
            have hcb' : wr.cell? (b.add i) = some (.int .i64 d) := by rw [hbw.cell (by rw [add_block]; exact hbb), hcellb, HD.out]; rfl
            clear hcellb
            go_wp2
            go_region
            all_goals
              go_wp2
              refine ⟨⟨i + 1, 0, by go_num, by omega, hfin.out _ ?_ ?_⟩, by simp [intOf]; omega⟩
              · exact ((hbw.setCell hgw.out _).drew)
              · exact ((hr.set_ i _ (fun j _ => by rw [hst.out j, HQ.out])).drew)
          · obtain rfl : d = 0 := by rw [HD.out]; simp [List.getD, show ys.length ≤ i by omega]
            have hzn : ¬ z < 0 := by omega
            have hrz : Row wr g 3 N (subF xs f (fun j => if j = i then q else t j) (i + 1) 0) := hr.same (fun j _ => by
              rw [hst.out j, HQ.out]
              by_cases h1 : j = i
              · subst h1
                have h3 := hr.cell j (by omega)
                rw [hcs] at h3
                rw [if_pos rfl, ← Option.some.inj h3]
                simp
              · rw [if_neg h1])
            have HRZ := Lib.hid hrz
            clear hrz
            go_wp2
            exact ⟨⟨i + 1, 0, by go_num, by omega, hfin.out _ hbw HRZ.out⟩, by simp [intOf]; omega⟩
      · obtain rfl : i = xs.length := by omega
        obtain ⟨ds, hdl, hds, hL, hbw⟩ := subR_end hN hnc hll hR
        have HW := Lib.hid (without_any (by omega) hL)
        rw [hds, hvx.out, hvy.out] at HW
        clear hR hdl hds hL
        go_wp2_with (go_at_call 54; refine HW.out.mono ?_; rintro e w3 ⟨v3, rfl, hv3, hb3⟩)
        go_ret2
        exact ⟨v3, rfl, hv3, hbw.trans (hb3.mono hbw.size)⟩
  · obtain rfl : xs = [] := List.eq_nil_of_length_eq_zero (by omega)
    obtain rfl : ys = [] := List.eq_nil_of_length_eq_zero (by simpa using hll)
    have hW := Lib.hid (fun (W : World) (A : Option Addr) (c : Nat) => without_any (w := W) (v := .slice A 0 c) (ds := []) (by simp) ⟨A, c, rfl, Nat.zero_le _, Cells.zero⟩)
    have hxy : Hid (digs 1000000 (x - y) = []) := by unfold Hid; rw [← hvx.out, ← hvy.out]; rfl
    have hs0 : Hid (strip [] = digs 1000000 (x - y)) := by unfold Hid; rw [hxy.out]; rfl
    rw [hs0.out] at hW
    clear hx0 hll hlx hly hxy hs0
    simp only [List.length_nil] at *
    go_enter Tryz.func81, Tryz.ntmps81
    go_wp2_with fail
    refine HC.out.mono ?_
    rintro e w1 ⟨rfl, hb1⟩
    have hA1 : Cells (w1.alloc (.cells #[] 3)) w1.heap.size A 0 (i64f []) := Cells.zero
    clear HC
    go_wp2_with (at_builtin; refine wpList_append_cells _ rfl (.tmp 12) (.tmp 13) _ _ rfl w1.heap.size 3 3 i0 _ 8 Tryz.underlying31 Tryz.underlying32 hi hz0 hz1 hz2 rfl _ 0 [] rfl (own_empty w1 3) w1.heap.size A 0 ca (i64f []) rfl hA1 (fun _ _ => rfl) (by simp [maxLen]) (by omega) (by simp) ?_; intro v' w2 hown hgrow _; rw [Nat.zero_add, List.nil_append] at hown; obtain ⟨A2, c2, rfl⟩ := own_slice hown; have HB : Hid ((w1.alloc (.cells #[] 3)).grownBy w2 (some w1.heap.size)) := hgrow; clear hown hgrow)
    have hbw2 : Below w.heap.size w w2 := hb1.trans ((((Below.refl _ w1).alloc (Nat.le_refl _) _).grown HB.out (by simp) (fun k hk => by cases hk; exact Nat.le_refl _)).mono hb1.size)
    clear HB hA1 hb1
    go_loop [7] (fun i => i = .int .i64 0) (fun i => (intOf i).toNat)
    case atStart => rfl
    case round =>
      subst hrel
      go_wp2_with (go_at_call 54; refine (hW.out _ _ _).mono ?_; rintro e w3 ⟨v3, rfl, hv3, hb3⟩)
      go_ret2
      exact ⟨v3, rfl, hv3, hbw2.trans (hb3.mono hbw2.size)⟩
end Go.Proofs.YthfjbpbgnoonpaaGreatDoor

namespace Go.Proofs.YthfjbpbgnoonpaaGreatDoor
open Go.RowKit

/-- The row of the product when k groups are done, and i products of the next one. -/
def mulF (x y : List Nat) (k i j : Nat) : Value := .int .i64 (((if j < k then conv x y j else if j = k then psum x y k i else 0 : Nat) : Nat) : Int)
theorem mulF_zero (x y : List Nat) (j : Nat) : mulF x y 0 0 j = .int .i64 0 := by
  unfold mulF
  by_cases h : j = 0
  · subst h; simp [psum]
  · simp [h]
theorem mulF_step (x y : List Nat) (k i j : Nat) : mulF x y k (i + 1) j = if j = k then .int .i64 ((psum x y k i + x.getD i 0 * y.getD (k - i) 0 : Nat) : Int) else mulF x y k i j := by
  unfold mulF
  by_cases h : j = k
  · subst h; simp [psum]
  · simp [h]
theorem mulF_same (x y : List Nat) (k i : Nat) (h : y.length ≤ k - i) : mulF x y k (i + 1) = mulF x y k i := by
  funext j
  rw [mulF_step]
  by_cases hj : j = k
  · subst hj
    rw [if_pos rfl, show y.getD (j - i) 0 = 0 by simp [List.getD, h]]
    simp [mulF]
  · rw [if_neg hj]
theorem mulF_next (x y : List Nat) (k i j : Nat) (hi : i ≤ k + 1) (h : i = k + 1 ∨ x.length ≤ i) : mulF x y (k + 1) 0 j = mulF x y k i j := by
  have hc := conv_at x y k i hi h
  unfold mulF
  by_cases h1 : j < k
  · rw [if_pos h1, if_pos (by omega)]
  · rw [if_neg h1]
    by_cases h2 : j = k
    · subst h2
      rw [if_pos (by omega), if_pos rfl, hc]
    · rw [if_neg (by omega), if_neg h2]
      by_cases h3 : j = k + 1
      · rw [if_pos h3]; rfl
      · rw [if_neg h3]
theorem mulF_end (x y : List Nat) (j : Nat) (hj : j < x.length + y.length) : mulF x y (x.length + y.length) 0 j = i64f (seg (conv x y) 0 (x.length + y.length)) j := by
  unfold mulF i64f
  rw [if_pos hj]
  simp [seg, List.getD, hj]
theorem prod6 (d e : Nat) (hd : d < 1000000) (he : e < 1000000) : (0 : Int) ≤ (d : Int) * (e : Int) ∧ (d : Int) * (e : Int) ≤ 1000000000000 := by
  have h : d * e ≤ 1000000 * 1000000 := Nat.mul_le_mul (by omega) (by omega)
  rw [← Int.natCast_mul]
  omega
theorem conv_le (x y : List Nat) (hx : x.length ≤ 1000) (hy : y.length ≤ 1000) (hxd : ∀ d ∈ x, d < 1000000) (hyd : ∀ d ∈ y, d < 1000000) : ∀ k i, k < x.length + y.length → i ≤ k + 1 → psum x y k i ≤ 2000000000000000 := by
  intro k i hk hi
  have h1 := psum_le x y k 1000000 hxd hyd (by omega) i
  have h2 : i * ((1000000 - 1) * (1000000 - 1)) ≤ 2000 * ((1000000 - 1) * (1000000 - 1)) := Nat.mul_le_mul_right _ (by omega)
  omega

set_option maxRecDepth 100000 in
set_option maxHeartbeats 1600000 in
theorem refMul_any {u v : Value} {x y : List Nat} {w : World} (hx : x.length ≤ 1000) (hy : y.length ≤ 1000) (hxd : ∀ d ∈ x, d < 1000000) (hyd : ∀ d ∈ y, d < 1000000) (hu : LI w u x) (hv : LI w v y) :
    Calls Tryz.prog 77 #[u, v] w (NewI w (digs 1000000 (val 1000000 x * val 1000000 y))) := by
  obtain ⟨A, ca, rfl, hca, hA⟩ := hu
  obtain ⟨B, cb, rfl, hcb, hB⟩ := hv
  obtain ⟨i0, hi, hz0, hz1, hz2⟩ := info_parts infoInt
  have hsum := Lib.hid (conv_val 1000000 y x)
  have hbd := Lib.hid (conv_le x y hx hy hxd hyd)
  have hg0 := Lib.hid (fun i => getD_lt0 (x := x) (by omega) hxd i)
  have hg1 := Lib.hid (fun i => getD_lt0 (x := y) (by omega) hyd i)
  clear hxd hyd
  go_enter Tryz.func77, Tryz.ntmps77
  go_wp2_with (refine wpList_make_row rfl (.tmp 12) (.tmp 12) _ rfl 3 i0 _ Tryz.underlying31 hi hz0 hz1 rfl _ _ _ _ (x.length + y.length) rfl rfl (by rw [Int.natCast_add]) (by rw [Int.natCast_add]) (by rw [hz2]; omega) (by simp [maxLen]; omega) w w.heap.size (Below.refl _ _) (Nat.le_refl _) ?_; intro w1 hrow hb1 hs1)
  go_loopw [6] (fun k wr => ∃ nk : Nat, k = .int .i64 nk ∧ nk ≤ x.length + y.length ∧ Row wr w.heap.size 3 (x.length + y.length) (mulF x y nk 0) ∧ Below w.heap.size w wr) (fun k _ => x.length + y.length - (intOf k).toNat)
  case atStart => exact ⟨0, rfl, by omega, hrow.out.same (fun j _ => (mulF_zero x y j).symm), hb1.out⟩
  case round =>
    obtain ⟨k, rfl, hk, hr, hbw⟩ := hrel
    obtain ⟨wo, rfl⟩ : ∃ x, x = wr := ⟨_, rfl⟩
    by_cases hlt : k < x.length + y.length
    · have hbk := Lib.hid (fun i => hbd.out k i hlt)
      go_wp2
      go_loopw [7] (fun i wr => ∃ ni : Nat, i = .int .i64 ni ∧ ni ≤ x.length ∧ ni ≤ k + 1 ∧ Row wr w.heap.size 3 (x.length + y.length) (mulF x y k ni) ∧ Below w.heap.size w wr) (fun i _ => x.length - (intOf i).toNat)
      case atStart => exact ⟨0, rfl, by omega, by omega, hr, hbw⟩
      case round =>
        obtain ⟨i, rfl, hix, hik, hr, hbw⟩ := hrel
        by_cases hgo : i ≤ k ∧ i < x.length
        · obtain ⟨hle, hlx⟩ := hgo
          by_cases hky : k - i < y.length
          · obtain ⟨a, rfl, hab, hcella⟩ := hA i hlx
            obtain ⟨b, rfl, hbb, hcellb⟩ := hB (k - i) hky
            obtain ⟨d, hd⟩ : ∃ d : Nat, d = x.getD i 0 := ⟨_, rfl⟩
            obtain ⟨e, he⟩ : ∃ e : Nat, e = y.getD (k - i) 0 := ⟨_, rfl⟩
            obtain ⟨p, hp⟩ : ∃ p : Nat, p = psum x y k i := ⟨_, rfl⟩
            have hd1 : d < 1000000 := by rw [hd]; exact hg0.out i
            have he1 : e < 1000000 := by rw [he]; exact hg1.out _
            have hp1 : p ≤ 2000000000000000 := by rw [hp]; exact hbk.out i (by omega)
            have hc0 : wr.cell? ⟨w.heap.size, k, none⟩ = some (.int .i64 p) := by rw [hr.cell k hlt, hp]; simp [mulF]
            have hf0 := hr.frozen k
            have hca' : wr.cell? (a.add i) = some (.int .i64 d) := by rw [hbw.cell (by rw [add_block]; exact hab), hcella, hd]; rfl
            have hcb' : wr.cell? (b.add (k - i)) = some (.int .i64 e) := by rw [hbw.cell (by rw [add_block]; exact hbb), hcellb, he]; rfl
            have hst := Lib.hid (fun j => mulF_step x y k i j)
            rw [← hd, ← he, ← hp] at hst
            obtain ⟨hq0, hq1⟩ := prod6 d e hd1 he1
            have hw1 : IntKind.i64.wrap ((k : Int) - (i : Int)) = (k : Int) - (i : Int) := IntWalk.i64_in _ (by omega)
            have hw2 : ((k : Int) - (i : Int)).toNat = k - i := by omega
            have hw3 : (0 : Int) ≤ (k : Int) - (i : Int) := by omega
            clear hcella hcellb hd he hp
            go_wp2
            go_region
            all_goals
              go_wp2
              go_roundw
              case rel => exact ⟨i + 1, by go_num, by omega, by omega, (hr.set_ k _ (fun j _ => by rw [hst.out j, Int.natCast_add, Int.natCast_mul])).drew, (hbw.setCell (Nat.le_refl _) _).drew⟩
              case measure => simp [intOf]; omega
          · have hsm := mulF_same x y k i (by omega)
            have HR := Lib.hid (show Row wr w.heap.size 3 (x.length + y.length) (mulF x y k (i + 1)) by rw [hsm]; exact hr)
            have hnk : ¬ ((k : Int) - (i : Int) < (y.length : Int)) := by omega
            clear hsm
            go_wp2
            go_roundw
            case rel => exact ⟨i + 1, by go_num, by omega, by omega, HR.out, hbw⟩
            case measure => simp [intOf]; omega
        · have hend : i = k + 1 ∨ x.length ≤ i := by omega
          have HR := Lib.hid (show Row wr w.heap.size 3 (x.length + y.length) (mulF x y (k + 1) 0) from hr.same (fun j _ => (mulF_next x y k i j hik hend).symm))
          clear hr
          by_cases hik2 : i ≤ k
          · have hnx : ¬ i < x.length := by omega
            go_wp2
            go_roundw
            case rel => exact ⟨k + 1, by go_num, by omega, HR.out, hbw⟩
            case measure => simp [intOf]; omega
          · go_wp2
            go_roundw
            case rel => exact ⟨k + 1, by go_num, by omega, HR.out, hbw⟩
            case measure => simp [intOf]; omega
    · obtain rfl : k = x.length + y.length := by omega
      have hL := LI.of_cells (seg_len (conv x y) 0 (x.length + y.length)) (Nat.le_refl _) hr.cells (fun j hj => mulF_end x y j hj)
      have HC := Lib.hid (carried_any (by rw [seg_len]; omega) (by
        intro d hd
        obtain ⟨j, hj, rfl⟩ := List.mem_map.1 hd
        rw [List.mem_range] at hj
        have := hbd.out (0 + j) (0 + j + 1) (by omega) (Nat.le_refl _)
        show conv x y (0 + j) ≤ _
        unfold conv
        omega) hL)
      rw [hsum.out] at HC
      clear hL hr
      go_wp2_with (go_at_call 105; refine HC.out.mono ?_; rintro e w2 ⟨v2, rfl, hv2, hb2⟩)
      go_ret
      exact ⟨v2, rfl, hv2, hbw.trans (hb2.mono hbw.size)⟩
end Go.Proofs.YthfjbpbgnoonpaaGreatDoor

namespace Go.Proofs.YthfjbpbgnoonpaaGreatDoor
open Go.RowKit

theorem mul_lt {x y p q : Nat} (hx : x < p) (hy : y < q) : x * y < p * q := by
  rcases Nat.eq_zero_or_pos y with rfl | h
  · rw [Nat.mul_zero]; exact Nat.mul_pos (by omega) (by omega)
  · exact Nat.lt_of_lt_of_le (Nat.mul_lt_mul_of_pos_right hx h) (Nat.mul_le_mul_left _ (Nat.le_of_lt hy))
theorem mul12 {x y : Nat} (hx : x < 4294967296 ^ 12) (hy : y < 4294967296 ^ 12) : x * y < 4294967296 ^ 24 := by
  have := mul_lt hx hy
  rwa [← Nat.pow_add] at this

end Go.Proofs.YthfjbpbgnoonpaaGreatDoor

namespace Go.Proofs.YthfjbpbgnoonpaaGreatDoor
open Go.RowKit

def DiffN (w : World) (k : Nat) (E : Int) (e : Ending) (w' : World) : Prop := ∃ A n c, e = .returned (.tuple #[.agg #[.slice A n c], .int .i64 E]) ∧ IsNat w' (.agg #[.slice A n c]) k ∧ Below w.heap.size w w'
def DiffR (w : World) (k : Nat) (E : Int) (e : Ending) (w' : World) : Prop := ∃ v, e = .returned (.tuple #[v, .int .i64 E]) ∧ LI w' v (digs 1000000 k) ∧ Below w.heap.size w w'
def subE (x y : Nat) : Int := if x < y then 2 else 0
theorem natSub_any {u v : Value} {x y : Nat} {w : World} (hlx : (digs 4294967296 x).length ≤ 1000) (hly : (digs 4294967296 y).length ≤ 1000) (hu : IsNat w u x) (hv : IsNat w v y) :
    Calls Tryz.prog 103 #[u, v] w (DiffN w (x - y) (subE x y)) := by
  unfold subE
  by_cases h : x < y
  · rw [if_pos h, show x - y = 0 by omega]
    refine (natSub_less hlx hly h hu hv).mono ?_
    rintro e w' ⟨rfl, hb⟩
    exact ⟨_, _, _, rfl, isNat_zero _, hb⟩
  · rw [if_neg h]
    refine (natSub_ge hlx hly (by omega) hu hv).mono ?_
    rintro e w' ⟨v, rfl, hv, hb⟩
    obtain ⟨A, n, c, -, rfl⟩ := isNat_digs hv
    exact ⟨_, _, _, rfl, hv, hb⟩
theorem refSub_any {u v : Value} {x y : Nat} {w : World} (hlx : (digs 1000000 x).length ≤ 1000) (hly : (digs 1000000 y).length ≤ 1000) (hu : LI w u (digs 1000000 x)) (hv : LI w v (digs 1000000 y)) :
    Calls Tryz.prog 81 #[u, v] w (DiffR w (x - y) (subE x y)) := by
  unfold subE
  by_cases h : x < y
  · rw [if_pos h, show x - y = 0 by omega]
    refine (refSub_less hlx hly h hu hv).mono ?_
    rintro e w' ⟨rfl, hb⟩
    exact ⟨_, rfl, ⟨none, 0, rfl, Nat.le_refl _, Cells.zero⟩, hb⟩
  · rw [if_neg h]
    refine (refSub_ge hlx hly (by omega) hu hv).mono ?_
    rintro e w' ⟨v, rfl, hv, hb⟩
    exact ⟨v, rfl, hv, hb⟩
theorem add12 {x y : Nat} (hx : x < 4294967296 ^ 12) (hy : y < 4294967296 ^ 12) : x + y < 4294967296 ^ 13 := by
  rw [Nat.pow_succ]
  have : 0 < 4294967296 ^ 12 := Nat.pow_pos (by omega)
  generalize 4294967296 ^ 12 = p at *
  omega

end Go.Proofs.YthfjbpbgnoonpaaGreatDoor
