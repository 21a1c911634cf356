/- Contracts of package nat: addTo. Contracts of package nat: subtractFrom. -/
import Derived.Test.YtapblmbjbpkieaaDoorRefG
namespace Go.Proofs.YtapblmbjbpkieaaDoor
open Go.RowKit

/-- The row f, with the n digits t from place off on. -/
def patch (f : Nat → Value) (off n : Nat) (t : Nat → Nat) : Nat → Value := fun j => if off ≤ j ∧ j < off + n then .int .u32 (t (j - off) : Nat) else f j
/-- A block known whole: n digits from place off on; what lies beside them is f. -/
def RowP (w : World) (g N : Nat) (f : Nat → Value) (off n : Nat) (t : Nat → Nat) : Prop := Row w g 71 N (patch f off n t)
section
variable {w : World} {g N off n : Nat} {f : Nat → Value} {t t' : Nat → Nat}
theorem RowP.lt (h : RowP w g N f off n t) : g < w.heap.size := Row.lt h
theorem RowP.frozen (h : RowP w g N f off n t) (i : Nat) : w.frozen? ⟨g, i, none⟩ = false := Row.frozen h i
theorem RowP.cell (h : RowP w g N f off n t) (hN : off + n ≤ N) (i : Nat) (hi : i < n) : w.cell? ⟨g, off + i, none⟩ = some (.int .u32 (t i : Nat)) := by
  rw [Row.cell h (off + i) (by omega)]
  unfold patch
  rw [if_pos (by omega), Nat.add_sub_cancel_left]
theorem RowP.set_ (h : RowP w g N f off n t) (i : Nat) (hi : i < n) (x : Nat) (ht : ∀ j, j < n → t' j = if j = i then x else t j) : RowP (w.setCell ⟨g, off + i, none⟩ (.int .u32 (x : Nat))) g N f off n t' := by
  refine Row.set_ h (off + i) _ (fun j _ => ?_)
  unfold patch
  by_cases hj : off ≤ j ∧ j < off + n
  · rw [if_pos hj, if_pos hj, ht (j - off) (by omega)]
    by_cases hji : j = off + i
    · rw [if_pos (by omega), if_pos hji]
    · rw [if_neg (by omega), if_neg hji]
  · rw [if_neg hj, if_neg hj, if_neg (by omega)]
/-- A row whose cells are digits from place off on. -/
theorem RowP.of (h : Row w g 71 N f) (ht : ∀ j, j < n → f (off + j) = .int .u32 (t j : Nat)) : RowP w g N f off n t := by
  refine Row.same h (fun j _ => ?_)
  unfold patch
  by_cases hj : off ≤ j ∧ j < off + n
  · rw [if_pos hj]
    have := ht (j - off) (by omega)
    rwa [show off + (j - off) = j by omega] at this
  · rw [if_neg hj]
end

/-- At the head of addTo's loops: i digits are added, the carry is c. -/
def AddI (w : World) (g N : Nat) (f : Nat → Value) (off n : Nat) (s dd : Nat → Nat) (i c : Nat) (W : World) : Prop :=
  ∃ t : Nat → Nat, RowP W g N f off n t ∧ (∀ j, i ≤ j → t j = s j) ∧ (∀ j, t j < 4294967296) ∧
    val 4294967296 (seg t 0 i) + 4294967296 ^ i * c = val 4294967296 (seg s 0 i) + val 4294967296 (seg dd 0 i) ∧ c ≤ 1 ∧ w.grownBy W (some g)
theorem add_math (t p o v s c d : Nat) (h : t + p * c = o + v) : (t + p * ((s + d + c) % 4294967296)) + (p * 4294967296) * ((s + d + c) / 4294967296) = (o + p * s) + (v + p * d) := by
  have h2 : p * ((s + d + c) % 4294967296) + p * 4294967296 * ((s + d + c) / 4294967296) = p * (s + d + c) := by
    rw [Nat.mul_assoc, ← Nat.mul_add, Nat.mod_add_div]
  have h3 : p * (s + d + c) = p * s + p * d + p * c := by rw [Nat.mul_add, Nat.mul_add]
  omega
theorem seg_getD (ds : List Nat) : seg (fun j => ds.getD j 0) 0 ds.length = ds := by
  apply List.ext_getElem
  · simp [seg]
  · intro i h1 h2
    simp [seg, List.getD, h2]
theorem val_zeros (b : Nat) (f : Nat → Nat) (off : Nat) : ∀ n, (∀ j, j < n → f (off + j) = 0) → val b (seg f off n) = 0
  | 0, _ => rfl
  | n + 1, h => by
    rw [seg_succ, val_snoc, val_zeros b f off n (fun j hj => h j (by omega)), h n (by omega)]
    simp
theorem val_seg_split (b : Nat) (f : Nat → Nat) (i n : Nat) : val b (seg f 0 (i + n)) = val b (seg f 0 i) + b ^ i * val b (seg f i n) := by
  rw [seg_append, val_append, seg_len]
theorem seg_getD_more (ds : List Nat) (i : Nat) (h : ds.length ≤ i) : val 4294967296 (seg (fun j => ds.getD j 0) 0 i) = val 4294967296 ds := by
  obtain ⟨n, rfl⟩ : ∃ n, i = ds.length + n := ⟨i - ds.length, by omega⟩
  rw [val_seg_split, seg_getD, val_zeros _ _ _ _ (fun j _ => by simp [List.getD])]
  simp
theorem add_next {w wr : World} {g N i c off n : Nat} {f : Nat → Value} {s dd : Nat → Nat} {t : Nat → Nat} (hi : i < n) (hr : RowP wr g N f off n t) (ht : ∀ j, i ≤ j → t j = s j) (hb : ∀ j, t j < 4294967296) (hv : val 4294967296 (seg t 0 i) + 4294967296 ^ i * c = val 4294967296 (seg s 0 i) + val 4294967296 (seg dd 0 i)) (hc : c ≤ 1) (hdd : dd i < 4294967296) (hgr : w.grownBy wr (some g)) (u : Value)
    (hu : u = .int .u32 (((s i + dd i + c) % 4294967296 : Nat) : Int)) : AddI w g N f off n s dd (i + 1) ((s i + dd i + c) / 4294967296) (wr.setCell ⟨g, off + i, none⟩ u) := by
  subst hu
  have hsi : s i < 4294967296 := by rw [← ht i (Nat.le_refl _)]; exact hb i
  refine ⟨fun j => if j = i then (s i + dd i + c) % 4294967296 else t j, ?_, ?_, ?_, ?_, by omega, grown_setCell hgr (.inl rfl) _⟩
  · exact hr.set_ i hi _ (fun j _ => rfl)
  · intro j hj
    show (if j = i then _ else t j) = s j
    rw [if_neg (by omega)]
    exact ht j (by omega)
  · intro j
    show (if j = i then _ else t j) < _
    by_cases h : j = i
    · rw [if_pos h]; omega
    · rw [if_neg h]; exact hb j
  · rw [seg_succ, val_snoc, seg_len, seg_succ, val_snoc, seg_len, seg_succ, val_snoc, seg_len, Nat.pow_succ]
    have e1 : seg (fun j => if j = i then (s i + dd i + c) % 4294967296 else t j) 0 i = seg t 0 i := seg_same fun j hj => by simp; omega
    rw [e1]
    simp only [Nat.zero_add, if_true]
    exact add_math _ _ _ _ _ _ _ hv

def AddPost (w : World) (g N : Nat) (f : Nat → Value) (off n : Nat) (s : Nat → Nat) (k : Nat) (e : Ending) (w' : World) : Prop :=
  ∃ (c : Nat) (t : Nat → Nat), e = .returned (.int .u32 (c : Nat)) ∧ RowP w' g N f off n t ∧ (∀ j, t j < 4294967296) ∧ val 4294967296 (seg t 0 n) + 4294967296 ^ n * c = val 4294967296 (seg s 0 n) + k ∧ c ≤ 1 ∧ w.grownBy w' (some g)
theorem add_end {w W : World} {g N i c off n : Nat} {f : Nat → Value} {s : Nat → Nat} {ds : List Nat} (hi : ds.length ≤ i) (hN : i ≤ n) (hs : c = 0 ∨ i = n) (h : AddI w g N f off n s (fun j => ds.getD j 0) i c W) : AddPost w g N f off n s (val 4294967296 ds) (.returned (.int .u32 (c : Nat))) W := by
  obtain ⟨t, hr, ht, hb, hv, hc, hgr⟩ := h
  refine ⟨c, t, rfl, hr, hb, ?_, hc, hgr⟩
  rw [seg_getD_more ds i hi] at hv
  rcases hs with rfl | rfl
  · obtain ⟨m, rfl⟩ : ∃ m, n = i + m := ⟨n - i, by omega⟩
    have e1 : seg t i m = seg s i m := seg_same fun j _ => ht _ (by omega)
    rw [val_seg_split _ t, val_seg_split _ s, e1]
    omega
  · exact hv

set_option maxRecDepth 100000 in
set_option maxHeartbeats 2000000 in
theorem addTo_any {g N off n m cp cb : Nat} {B : Option Addr} {f : Nat → Value} {s : Nat → Nat} {ds : List Nat} {w : World} (hm : m = ds.length) (hN : ds.length ≤ n) (hNN : n ≤ 1000000) (_hoff : off ≤ 1000000) (hfit : off + n ≤ N) (hd : ∀ d ∈ ds, d < 4294967296)
    (hs : ∀ j, s j < 4294967296) (hrow : RowP w g N f off n s) (hB : Cells w g B ds.length (u32f ds)) (hcp : n ≤ cp) :
    Calls Tryd.prog 54 #[.slice (some ⟨g, off, none⟩) n cp, .slice B m cb] w (AddPost w g N f off n s (val 4294967296 ds)) := by
  subst hm
  have HD := Lib.hid hd
  have HS := Lib.hid hs
  clear hd hs
  have hgl := hrow.lt
  go_enter Tryd.func54, Tryd.ntmps54
  go_wp2
  go_loopw [5, 11] (fun c i wr => ∃ (nc ni : Nat), i = .int .i64 ni ∧ c = .int .u32 nc ∧ ni ≤ ds.length ∧ nc ≤ 1 ∧ AddI w g N f off n s (fun j => ds.getD j 0) ni nc wr) (fun _ i _ => ds.length - (intOf i).toNat)
  case atStart => exact ⟨0, 0, rfl, rfl, by omega, by omega, s, hrow, fun _ _ => rfl, HS.out, by simp [seg, val], by omega, World.grownBy.refl _ _⟩
  case round =>
    obtain ⟨c, i, rfl, rfl, hi, hc, hP⟩ := hrel
    by_cases hlt : i < ds.length
    · have hP2 := hP
      obtain ⟨t, hr, ht, hb, hv, _, hgr⟩ := hP2
      obtain ⟨a, rfl, hab, hcell⟩ := hB i hlt
      obtain ⟨d, hdd⟩ : ∃ d : Nat, d = ds.getD i 0 := ⟨_, rfl⟩
      have hd1 : d < 4294967296 := by rw [hdd]; exact getD_lt HD.out i hlt
      have hcell' : wr.cell? (a.add i) = some (.int .u32 d) := by
        have h0 : wr.heap[(a.add i).block]? = w.heap[(a.add i).block]? := hgr.block _ (by rw [add_block]; omega) (by rw [add_block]; intro e; injection e; omega)
        rw [World.cell?_of_block h0, hcell, hdd]; rfl
      obtain ⟨x, hx⟩ : ∃ x : Nat, x = s i := ⟨_, rfl⟩
      have hx1 : x < 4294967296 := by rw [hx]; exact HS.out _
      have hcs : wr.cell? ⟨g, off + i, none⟩ = some (.int .u32 x) := by
        rw [hr.cell hfit i (by omega), ht i (Nat.le_refl _), hx]
      have hfs := hr.frozen (off + i)
      have hnext := Lib.hid (fun u hu => add_next (w := w) (dd := fun j => ds.getD j 0) (by omega) hr ht hb hv hc (by show ds.getD i 0 < _; rw [← hdd]; exact hd1) hgr u hu)
      rw [← hdd, ← hx] at hnext
      clear hP hr ht hb hv hgr hcell hdd hx hrow hB
      go_wp2_with (go_at_call 62; refine (add32_any _ _ _ _ (by omega) (by omega) (by omega)).mono ?_; rintro e w1 ⟨rfl, rfl⟩)
      have hE : Value.int .u32 (((x : Int) + (d : Int) + (c : Int)) % 4294967296) = .int .u32 (((x + d + c) % 4294967296 : Nat) : Int) := by
        congr 1
      refine ⟨⟨(x + d + c) / 4294967296, i + 1, by go_num, by congr 1, by omega, by omega, hnext.out _ hE⟩, ?_⟩
      show ds.length - ((i : Int) + 1).toNat < ds.length - (i : Int).toNat
      omega
    · obtain rfl : i = ds.length := by omega
      go_wp2
      go_loopw [5, 8] (fun c i wr => ∃ (nc ni : Nat), i = .int .i64 ni ∧ c = .int .u32 nc ∧ ds.length ≤ ni ∧ ni ≤ n ∧ nc ≤ 1 ∧ AddI w g N f off n s (fun j => ds.getD j 0) ni nc wr) (fun _ i _ => n - (intOf i).toNat)
      case atStart => exact ⟨c, ds.length, rfl, rfl, by omega, hN, hc, hP⟩
      case round =>
        obtain ⟨c, i, rfl, rfl, hi, hiN, hc, hP⟩ := hrel
        by_cases hgo : i < n ∧ c ≠ 0
        · obtain ⟨hlt, hc0⟩ := hgo
          have hP2 := hP
          obtain ⟨t, hr, ht, hb, hv, _, hgr⟩ := hP2
          obtain ⟨x, hx⟩ : ∃ x : Nat, x = s i := ⟨_, rfl⟩
          have hx1 : x < 4294967296 := by rw [hx]; exact HS.out _
          have hcs : wr.cell? ⟨g, off + i, none⟩ = some (.int .u32 x) := by
            rw [hr.cell hfit i (by omega), ht i (Nat.le_refl _), hx]
          have hfs := hr.frozen (off + i)
          have hdz : ds.getD i 0 = 0 := by simp [List.getD, hi]
          have hnext := Lib.hid (fun u hu => add_next (w := w) (dd := fun j => ds.getD j 0) (by omega) hr ht hb hv hc (by show ds.getD i 0 < _; rw [hdz]; omega) hgr u hu)
          simp only [hdz, ← hx] at hnext
          have hcn : ((c : Int) != 0) = true := by simp; omega
          clear hP hr ht hb hv hgr hx hdz hrow hB
          go_wp2_with (go_at_call 62; refine (add32_any _ _ _ _ (by omega) (by omega) (by omega)).mono ?_; rintro e w1 ⟨rfl, rfl⟩)
          have hE : Value.int .u32 (((x : Int) + (c : Int)) % 4294967296) = .int .u32 (((x + 0 + c) % 4294967296 : Nat) : Int) := by
            congr 1
          refine ⟨⟨(x + 0 + c) / 4294967296, i + 1, by go_num, by congr 1, by omega, by omega, by omega, hnext.out _ hE⟩, ?_⟩
          show n - ((i : Int) + 1).toNat < n - (i : Int).toNat
          omega
        · have hend : c = 0 ∨ i = n := by omega
          have hfin := add_end hi hiN hend hP
          clear hP hrow hB
          rcases hend with rfl | rfl
          · by_cases hlt : i < n
            · go_wp2
              go_ret
              exact hfin
            · go_wp2
              go_ret
              exact hfin
          · go_wp2
            go_ret
            exact hfin
end Go.Proofs.YtapblmbjbpkieaaDoor

namespace Go.Proofs.YtapblmbjbpkieaaDoor
open Go.RowKit

def subD (s d c : Nat) : Nat := (s + 4294967296 - d - c) % 4294967296
def subB (s d c : Nat) : Nat := if s < d + c then 1 else 0
theorem sub_eq {s d c : Nat} (hs : s < 4294967296) (hd : d < 4294967296) (hc : c ≤ 1) : subD s d c + d + c = s + 4294967296 * subB s d c ∧ subD s d c < 4294967296 ∧ subB s d c ≤ 1 := by
  unfold subD subB
  split <;> omega
theorem subB_int (s d c : Nat) : bor (s : Int) (d : Int) (c : Int) = (subB s d c : Int) := by
  unfold bor subB
  by_cases h : s < d + c
  · rw [if_pos (by omega), if_pos h]; rfl
  · rw [if_neg (by omega), if_neg h]; rfl
theorem subD_int {s d c : Nat} (hs : s < 4294967296) (hd : d < 4294967296) (hc : c ≤ 1) : ((s : Int) - (d : Int) - (c : Int)) % 4294967296 = (subD s d c : Int) := by
  unfold subD
  omega

/-- At the head of subtractFrom's loops: i digits are taken off, the borrow is c. -/
def SubI (w : World) (g N : Nat) (f : Nat → Value) (off n : Nat) (s dd : Nat → Nat) (i c : Nat) (W : World) : Prop :=
  ∃ t : Nat → Nat, RowP W g N f off n t ∧ (∀ j, i ≤ j → t j = s j) ∧ (∀ j, t j < 4294967296) ∧
    val 4294967296 (seg t 0 i) + val 4294967296 (seg dd 0 i) = val 4294967296 (seg s 0 i) + 4294967296 ^ i * c ∧ c ≤ 1 ∧ w.grownBy W (some g)
theorem sub_math (t p o v s c d q b : Nat) (h : t + v = o + p * c) (hq : q + d + c = s + 4294967296 * b) : (t + p * q) + (v + p * d) = (o + p * s) + (p * 4294967296) * b := by
  have h2 : p * (q + d + c) = p * (s + 4294967296 * b) := by rw [hq]
  rw [Nat.mul_add, Nat.mul_add, Nat.mul_add, ← Nat.mul_assoc] at h2
  omega
theorem sub_next {w wr : World} {g N i c off n : Nat} {f : Nat → Value} {s dd : Nat → Nat} {t : Nat → Nat} (hi : i < n) (hr : RowP wr g N f off n t) (ht : ∀ j, i ≤ j → t j = s j) (hb : ∀ j, t j < 4294967296) (hv : val 4294967296 (seg t 0 i) + val 4294967296 (seg dd 0 i) = val 4294967296 (seg s 0 i) + 4294967296 ^ i * c) (hc : c ≤ 1) (hdd : dd i < 4294967296) (hgr : w.grownBy wr (some g)) (u : Value)
    (hu : u = .int .u32 (subD (s i) (dd i) c : Int)) : SubI w g N f off n s dd (i + 1) (subB (s i) (dd i) c) (wr.setCell ⟨g, off + i, none⟩ u) := by
  subst hu
  have hsi : s i < 4294967296 := by rw [← ht i (Nat.le_refl _)]; exact hb i
  obtain ⟨q1, q2, q3⟩ := sub_eq hsi hdd hc
  refine ⟨fun j => if j = i then subD (s i) (dd i) c else t j, ?_, ?_, ?_, ?_, q3, grown_setCell hgr (.inl rfl) _⟩
  · exact hr.set_ i hi _ (fun j _ => rfl)
  · intro j hj
    show (if j = i then _ else t j) = s j
    rw [if_neg (by omega)]
    exact ht j (by omega)
  · intro j
    show (if j = i then _ else t j) < _
    by_cases h : j = i
    · rw [if_pos h]; exact q2
    · rw [if_neg h]; exact hb j
  · rw [seg_succ, val_snoc, seg_len, seg_succ, val_snoc, seg_len, seg_succ, val_snoc, seg_len, Nat.pow_succ]
    have e1 : seg (fun j => if j = i then subD (s i) (dd i) c else t j) 0 i = seg t 0 i := seg_same fun j hj => by simp; omega
    rw [e1]
    simp only [Nat.zero_add, if_true]
    exact sub_math _ _ _ _ _ _ _ _ _ hv q1

def SubPost (w : World) (g N : Nat) (f : Nat → Value) (off n : Nat) (s : Nat → Nat) (k : Nat) (e : Ending) (w' : World) : Prop :=
  ∃ (c : Nat) (t : Nat → Nat), e = .returned (.int .u32 (c : Nat)) ∧ RowP w' g N f off n t ∧ (∀ j, t j < 4294967296) ∧ val 4294967296 (seg t 0 n) + k = val 4294967296 (seg s 0 n) + 4294967296 ^ n * c ∧ c ≤ 1 ∧ w.grownBy w' (some g)
theorem sub_end {w W : World} {g N i c off n : Nat} {f : Nat → Value} {s : Nat → Nat} {ds : List Nat} (hi : ds.length ≤ i) (hN : i ≤ n) (hs : c = 0 ∨ i = n) (h : SubI w g N f off n s (fun j => ds.getD j 0) i c W) : SubPost w g N f off n s (val 4294967296 ds) (.returned (.int .u32 (c : Nat))) W := by
  obtain ⟨t, hr, ht, hb, hv, hc, hgr⟩ := h
  refine ⟨c, t, rfl, hr, hb, ?_, hc, hgr⟩
  rw [seg_getD_more ds i hi] at hv
  rcases hs with rfl | rfl
  · obtain ⟨m, rfl⟩ : ∃ m, n = i + m := ⟨n - i, by omega⟩
    have e1 : seg t i m = seg s i m := seg_same fun j _ => ht _ (by omega)
    rw [val_seg_split _ t, val_seg_split _ s, e1]
    omega
  · exact hv

set_option maxRecDepth 100000 in
set_option maxHeartbeats 2000000 in
theorem subtractFrom_any {g N off n m cp cb : Nat} {B : Option Addr} {f : Nat → Value} {s : Nat → Nat} {ds : List Nat} {w : World} (hm : m = ds.length) (hN : ds.length ≤ n) (hNN : n ≤ 1000000) (_hoff : off ≤ 1000000) (hfit : off + n ≤ N) (hd : ∀ d ∈ ds, d < 4294967296)
    (hs : ∀ j, s j < 4294967296) (hrow : RowP w g N f off n s) (hB : Cells w g B ds.length (u32f ds)) (hcp : n ≤ cp) :
    Calls Tryd.prog 53 #[.slice (some ⟨g, off, none⟩) n cp, .slice B m cb] w (SubPost w g N f off n s (val 4294967296 ds)) := by
  subst hm
  have HD := Lib.hid hd
  have HS := Lib.hid hs
  clear hd hs
  have hgl := hrow.lt
  go_enter Tryd.func53, Tryd.ntmps53
  go_wp2
  go_loopw [5, 11] (fun c i wr => ∃ (nc ni : Nat), i = .int .i64 ni ∧ c = .int .u32 nc ∧ ni ≤ ds.length ∧ nc ≤ 1 ∧ SubI w g N f off n s (fun j => ds.getD j 0) ni nc wr) (fun _ i _ => ds.length - (intOf i).toNat)
  case atStart => exact ⟨0, 0, rfl, rfl, by omega, by omega, s, hrow, fun _ _ => rfl, HS.out, by simp [seg, val], by omega, World.grownBy.refl _ _⟩
  case round =>
    obtain ⟨c, i, rfl, rfl, hi, hc, hP⟩ := hrel
    by_cases hlt : i < ds.length
    · have hP2 := hP
      obtain ⟨t, hr, ht, hb, hv, _, hgr⟩ := hP2
      obtain ⟨a, rfl, hab, hcell⟩ := hB i hlt
      obtain ⟨d, hdd⟩ : ∃ d : Nat, d = ds.getD i 0 := ⟨_, rfl⟩
      have hd1 : d < 4294967296 := by rw [hdd]; exact getD_lt HD.out i hlt
      have hcell' : wr.cell? (a.add i) = some (.int .u32 d) := by
        have h0 : wr.heap[(a.add i).block]? = w.heap[(a.add i).block]? := hgr.block _ (by rw [add_block]; omega) (by rw [add_block]; intro e; injection e; omega)
        rw [World.cell?_of_block h0, hcell, hdd]; rfl
      obtain ⟨x, hx⟩ : ∃ x : Nat, x = s i := ⟨_, rfl⟩
      have hx1 : x < 4294967296 := by rw [hx]; exact HS.out _
      have hcs : wr.cell? ⟨g, off + i, none⟩ = some (.int .u32 x) := by
        rw [hr.cell hfit i (by omega), ht i (Nat.le_refl _), hx]
      have hfs := hr.frozen (off + i)
      have hnext := Lib.hid (fun u hu => sub_next (w := w) (dd := fun j => ds.getD j 0) (by omega) hr ht hb hv hc (by show ds.getD i 0 < _; rw [← hdd]; exact hd1) hgr u hu)
      rw [← hdd, ← hx] at hnext
      clear hP hr ht hb hv hgr hcell hdd hx hrow hB
      go_wp2_with (go_at_call 74; refine (sub32_any _ _ _ _ (by omega) (by omega) (by omega)).mono ?_; rintro e w1 ⟨rfl, rfl⟩)
      rw [subD_int hx1 hd1 hc, subB_int]
      refine ⟨⟨subB x d c, i + 1, by go_num, rfl, by omega, (sub_eq hx1 hd1 hc).2.2, hnext.out _ rfl⟩, ?_⟩
      show ds.length - ((i : Int) + 1).toNat < ds.length - (i : Int).toNat
      omega
    · obtain rfl : i = ds.length := by omega
      go_wp2
      go_loopw [5, 8] (fun c i wr => ∃ (nc ni : Nat), i = .int .i64 ni ∧ c = .int .u32 nc ∧ ds.length ≤ ni ∧ ni ≤ n ∧ nc ≤ 1 ∧ SubI w g N f off n s (fun j => ds.getD j 0) ni nc wr) (fun _ i _ => n - (intOf i).toNat)
      case atStart => exact ⟨c, ds.length, rfl, rfl, by omega, hN, hc, hP⟩
      case round =>
        obtain ⟨c, i, rfl, rfl, hi, hiN, hc, hP⟩ := hrel
        by_cases hgo : i < n ∧ c ≠ 0
        · obtain ⟨hlt, hc0⟩ := hgo
          have hP2 := hP
          obtain ⟨t, hr, ht, hb, hv, _, hgr⟩ := hP2
          obtain ⟨x, hx⟩ : ∃ x : Nat, x = s i := ⟨_, rfl⟩
          have hx1 : x < 4294967296 := by rw [hx]; exact HS.out _
          have hcs : wr.cell? ⟨g, off + i, none⟩ = some (.int .u32 x) := by
            rw [hr.cell hfit i (by omega), ht i (Nat.le_refl _), hx]
          have hfs := hr.frozen (off + i)
          have hdz : ds.getD i 0 = 0 := by simp [List.getD, hi]
          have hnext := Lib.hid (fun u hu => sub_next (w := w) (dd := fun j => ds.getD j 0) (by omega) hr ht hb hv hc (by show ds.getD i 0 < _; rw [hdz]; omega) hgr u hu)
          simp only [hdz, ← hx] at hnext
          have hcn : ((c : Int) != 0) = true := by simp; omega
          clear hP hr ht hb hv hgr hx hdz hrow hB
          go_wp2_with (go_at_call 74; refine (sub32_any _ _ _ _ (by omega) (by omega) (by omega)).mono ?_; rintro e w1 ⟨rfl, rfl⟩)
          have hE1 : ((x : Int) - (c : Int)) % 4294967296 = (subD x 0 c : Int) := by
            rw [← subD_int hx1 (by omega) hc]
            congr 1
          have hE2 : bor (x : Int) 0 (c : Int) = (subB x 0 c : Int) := subB_int x 0 c
          rw [hE1, hE2]
          refine ⟨⟨subB x 0 c, i + 1, by go_num, rfl, by omega, by omega, (sub_eq hx1 (by omega) hc).2.2, hnext.out _ rfl⟩, ?_⟩
          show n - ((i : Int) + 1).toNat < n - (i : Int).toNat
          omega
        · have hend : c = 0 ∨ i = n := by omega
          have hfin := sub_end hi hiN hend hP
          clear hP hrow hB
          rcases hend with rfl | rfl
          · by_cases hlt : i < n
            · go_wp2
              go_ret
              exact hfin
            · go_wp2
              go_ret
              exact hfin
          · go_wp2
            go_ret
            exact hfin
end Go.Proofs.YtapblmbjbpkieaaDoor
