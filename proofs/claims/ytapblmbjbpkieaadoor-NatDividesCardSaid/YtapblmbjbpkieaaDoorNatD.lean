/- Contracts of package nat: fromDigits, Of, IsZero, isText. Contracts of package nat: isText. Contracts of package nat: appendPart, Parse. Contracts of package nat: Parse. -/
import Derived.Test.YtapblmbjbpkieaaDoorRefD
import Derived.Test.YtapblmbjbpkieaaDoorBits
import Derived.Lib.Strings
namespace Go.Proofs.YtapblmbjbpkieaaDoor
open Go.RowKit

def BB : Nat := 4294967296
/-- A nat.Nat that stands for a number. -/
def IsNat (w : World) (v : Value) (k : Nat) : Prop := ∃ s, v = .agg #[s] ∧ LU w s (digs 4294967296 k)
theorem IsNat.below {w w' : World} {v : Value} {k : Nat} (h : IsNat w v k) (hb : Below w.heap.size w w') : IsNat w' v k := by
  obtain ⟨s, h1, h2⟩ := h
  exact ⟨s, h1, h2.below hb⟩
def NewN (w : World) (k : Nat) (e : Ending) (w' : World) : Prop := ∃ v, e = .returned v ∧ IsNat w' v k ∧ Below w.heap.size w w'

theorem strip_le (ds : List Nat) : (strip ds).length ≤ ds.length := by
  induction hn : ds.length generalizing ds with
  | zero => obtain rfl := List.eq_nil_of_length_eq_zero hn; simp [strip]
  | succ n ih =>
    obtain ⟨xs, x, rfl⟩ : ∃ xs x, ds = xs ++ [x] := ⟨ds.dropLast, ds.getLast (by intro e; simp [e] at hn), (List.dropLast_concat_getLast _).symm⟩
    by_cases hx : x = 0
    · subst hx
      rw [strip_zero]
      have := ih xs (by simpa using hn)
      omega
    · rw [strip_pos xs x hx]; omega
theorem strip_take (ds : List Nat) : strip ds = ds.take (strip ds).length := by
  induction hn : ds.length generalizing ds with
  | zero => obtain rfl := List.eq_nil_of_length_eq_zero hn; rfl
  | succ n ih =>
    obtain ⟨xs, x, rfl⟩ : ∃ xs x, ds = xs ++ [x] := ⟨ds.dropLast, ds.getLast (by intro e; simp [e] at hn), (List.dropLast_concat_getLast _).symm⟩
    by_cases hx : x = 0
    · subst hx
      rw [strip_zero, List.take_append_of_le_length (strip_le xs)]
      exact ih xs (by simpa using hn)
    · rw [strip_pos xs x hx, List.take_length]

set_option maxRecDepth 100000 in
set_option maxHeartbeats 1600000 in
theorem fromDigits_any {A : Option Addr} {c : Nat} {ds : List Nat} {w : World} (hlen : ds.length ≤ 1000000) (hc : ds.length ≤ c) (hA : Cells w w.heap.size A ds.length (u32f ds)) :
    Calls Tryd.prog 42 #[.slice A ds.length c] w fun e w' => e = .returned (.agg #[.slice A (strip ds).length (strip ds).length]) ∧ Below w.heap.size w w' := by
  go_enter Tryd.func42, Tryd.ntmps42
  go_wp2
  go_loop [3] (fun v => ∃ k : Nat, k ≤ ds.length ∧ v = .int .i64 k ∧ strip ds = strip (ds.take k)) (fun v => (intOf v).toNat)
  case atStart => exact ⟨_, Nat.le_refl _, rfl, by rw [List.take_length]⟩
  case round =>
    obtain ⟨k, hk, rfl, hs⟩ := hrel
    have HS := Lib.hid hs
    clear hs
    by_cases h0 : 0 < k
    · obtain ⟨a, rfl, hab, hcell⟩ := hA (k - 1) (by omega)
      obtain ⟨x, hx⟩ : ∃ x : Nat, x = ds.getD (k - 1) 0 := ⟨_, rfl⟩
      have hcell' : (w.alloc (.cells #[.slice none 0 0] 26)).cell? (a.add (k - 1)) = some (.int .u32 x) := by
        rw [World.cell?_alloc_lt _ _ _ (by rw [add_block]; exact hab), hcell, hx]; rfl
      by_cases hx0 : x = 0
      · have hst := Lib.hid (strip_take_zero ds k hk h0 (by rw [← hx]; exact hx0))
        subst hx0
        clear hcell hx
        go_wp2
        exact ⟨⟨k - 1, by omega, by go_num, by rw [HS.out, hst.out]⟩, by simp [intOf]; omega⟩
      · have hb : ((x : Int) == 0) = false := beq_eq_false_iff_ne.2 (by omega)
        have hst := Lib.hid (strip_take_pos ds k hk h0 (by rw [← hx]; exact hx0))
        have hkk : Hid (k = (strip ds).length) := by
          have := HS.out.trans hst.out
          unfold Hid
          rw [this]; simp; omega
        clear hcell hx
        go_wp2
        refine bodyPost_ret (v := .agg #[.slice (some a) k k]) (by simp [results, Tryd.results42, go_sem]) rfl ⟨by rw [← hkk.out], ?_⟩
        exact ((Below.refl _ _).alloc (Nat.le_refl _) _)
    · obtain rfl : k = 0 := by omega
      have hkk : Hid (0 = (strip ds).length) := by
        unfold Hid
        rw [HS.out]; rfl
      go_wp2
      refine bodyPost_ret (v := .agg #[.slice A 0 0]) (by simp [results, Tryd.results42, go_sem]) rfl ⟨by rw [← hkk.out], ?_⟩
      exact ((Below.refl _ _).alloc (Nat.le_refl _) _)

/-- fromDigits of a slice that lies below: a number. -/
theorem fromDigits_new {v : Value} {ds : List Nat} {w : World} (hlen : ds.length ≤ 1000000) (hd : ∀ d ∈ ds, d < 4294967296) (hv : LU w v ds) :
    Calls Tryd.prog 42 #[v] w (NewN w (val 4294967296 ds)) := by
  obtain ⟨A, c, rfl, hc, hA⟩ := hv
  refine (fromDigits_any hlen hc hA.cells).mono ?_
  rintro e w' ⟨rfl, hb⟩
  refine ⟨_, rfl, ⟨_, rfl, ?_⟩, hb⟩
  rw [← strip_digs (b := 4294967296) (by omega) ds hd]
  refine ⟨A, _, rfl, Nat.le_refl _, ?_⟩
  refine ((hA.less (strip_le ds)).step hb).same fun i hi => ?_
  rw [strip_take ds, u32f_take ds _ i hi]

set_option maxRecDepth 100000 in
set_option maxHeartbeats 1600000 in
theorem natOf_any (n : Int) {w : World} (h0 : 0 ≤ n) (hn : n < 18446744073709551616) :
    Calls Tryd.prog 33 #[.int .u64 n] w (NewN w n.toNat) := by
  obtain ⟨n, rfl⟩ := Int.eq_ofNat_of_zero_le h0
  rw [Int.toNat_natCast]
  go_enter Tryd.func33, Tryd.ntmps33
  go_wp2_with fail
  have hv2 : val 4294967296 [n % 4294967296, n / 4294967296] = n := by simp [val]; omega
  have hL : LU ((w.alloc (.cells #[.slice none 0 0] 26)).alloc (.cells #[.int .u32 ((n : Int) % 4294967296), .int .u32 ((n : Int) / 4294967296)] 71)) (.slice (some ⟨w.heap.size + 1, 0, none⟩) 2 2) [n % 4294967296, n / 4294967296] := by
    refine LU.of_cells (n := 2) rfl (Nat.le_refl _) (cellsT_alloc (w.alloc (.cells #[.slice none 0 0] 26)) _ _ _ (f := u32f [n % 4294967296, n / 4294967296]) (by simp) ?_) (fun _ _ => rfl)
    intro i hi
    match i, hi with
    | 0, _ => simp [u32f]
    | 1, _ => simp [u32f]
  refine (fromDigits_new (by simp) ?_ hL).mono ?_
  · intro d hd
    simp at hd
    omega
  rw [hv2]
  rintro e w3 ⟨v, rfl, ⟨s, rfl, A3, c3, rfl, hc3, hA3⟩, hb⟩
  have hone := (((One.new w (.slice none 0 0) 26).alloc _).step hb)
  have hc1 := hone.cell
  have hf1 := hone.frozen
  have hl1 := hone.lt
  go_wp2
  have hone2 := hone.set_ (.slice A3 (digs 4294967296 n).length c3)
  refine bodyPost_ret (v := .agg #[.slice A3 (digs 4294967296 n).length c3]) (by simp [results, Tryd.results33, go_sem, hone2.cell]) rfl ?_
  refine ⟨_, rfl, ⟨_, rfl, LU.far ⟨A3, c3, rfl, hc3, hA3⟩ hone.row (by decide) _⟩, ?_⟩
  exact (((((Below.refl _ _).alloc (Nat.le_refl _) _).alloc (by simp) _).trans (hb.mono (by simp; omega))).setCell (Nat.le_refl _) _)

set_option maxHeartbeats 400000 in
theorem isZero_any {v : Value} {k : Nat} {w : World} (hlen : (digs 4294967296 k).length ≤ 1000000) (hv : IsNat w v k) :
    Calls Tryd.prog 18 #[v] w fun e w' => e = .returned (.bool (decide (k = 0))) ∧ Below w.heap.size w w' := by
  obtain ⟨s, rfl, A, c, rfl, hc, hA⟩ := hv
  have hl : Hid ((((digs 4294967296 k).length : Nat) : Int) = 0 ↔ k = 0) := by
    unfold Hid
    constructor
    · intro h
      rcases Nat.eq_zero_or_pos k with h0 | h0
      · exact h0
      · rw [digs_pos 4294967296 k (by omega) h0] at h; simp at h; omega
    · rintro rfl; rfl
  go_enter Tryd.func18, Tryd.ntmps18
  go_wp2
  go_ret
  refine ⟨congrArg (fun b => Ending.returned (.bool b)) ?_, (Below.refl _ _).alloc (Nat.le_refl _) _⟩
  rw [Bool.eq_iff_iff, beq_iff_eq, decide_eq_true_iff]
  exact hl.out
end Go.Proofs.YtapblmbjbpkieaaDoor

namespace Go.Proofs.YtapblmbjbpkieaaDoor
open Go.RowKit

def isDig (c : UInt8) : Bool := decide (48 ≤ c.toNat) && decide (c.toNat ≤ 57)
theorem str_ne {s : ByteArray} (h : 0 < s.size) : s.toList.isEmpty = false ∧ ¬ s.toList = [] := by
  have e : s.toList = s.data.toList := ByteArray.toList_eq s
  have hl : s.data.toList.length = s.size := rfl
  have hn : ¬ s.toList = [] := by
    rw [e]
    intro h0
    rw [h0] at hl
    simp at hl
    omega
  exact ⟨by simpa using hn, hn⟩
set_option maxRecDepth 100000 in
set_option maxHeartbeats 1600000 in
theorem isText_empty (s : ByteArray) (w : World) (h0 : s.size = 0) :
    Calls Tryd.prog 40 #[.string s] w fun e w' => e = .returned (.bool false) ∧ w = w' := by
  obtain rfl : s = ⟨#[]⟩ := by
    apply ByteArray.ext
    exact Array.eq_empty_of_size_eq_zero h0
  go_enter Tryd.func40, Tryd.ntmps40
  go_wp2
  go_ret
  exact ⟨rfl, rfl⟩

set_option maxRecDepth 100000 in
set_option maxHeartbeats 1600000 in
theorem isText_zero (s : ByteArray) (w : World) (hlen : s.size ≤ 9223372036854775807) (h1 : 1 < s.size) (hz : s[0].toNat = 48) :
    Calls Tryd.prog 40 #[.string s] w fun e w' => e = .returned (.bool false) ∧ w = w' := by
  obtain ⟨hne, hne2⟩ := str_ne (s := s) (by omega)
  go_enter Tryd.func40, Tryd.ntmps40
  go_wp2
  go_ret
  exact ⟨rfl, rfl⟩

/-- The digits before index k. -/
def DigB (s : ByteArray) (k : Nat) : Prop := ∀ j (h : j < s.size), j < k → 48 ≤ s[j].toNat ∧ s[j].toNat ≤ 57
theorem DigB.at_ {s : ByteArray} {k : Nat} (h : DigB s k) {j : Nat} (hj : j < s.size) (hk : j < k) : (48 : Int) ≤ (s[j].toNat : Int) ∧ (s[j].toNat : Int) ≤ 57 := by
  have := h j hj hk; omega
theorem DigB.snoc {s : ByteArray} {k : Nat} (h : DigB s k) (hk : k < s.size) (h1 : (48 : Int) ≤ (s[k].toNat : Int)) (h2 : (s[k].toNat : Int) ≤ 57) : DigB s (k + 1) := by
  intro j hj hjk
  by_cases e : j = k
  · subst e; omega
  · exact h j hj (by omega)
/-- A bool that says whether something holds; the world is as it was. -/
def Says (p : Prop) (w : World) (e : Ending) (w' : World) : Prop := ∃ b : Bool, e = .returned (.bool b) ∧ (b = true ↔ p) ∧ w = w'
def isTextB (s : ByteArray) : Prop := 0 < s.size ∧ (∀ h : 0 < s.size, s[0].toNat = 48 → s.size ≤ 1) ∧ DigB s s.size

set_option maxRecDepth 100000 in
set_option maxHeartbeats 1600000 in
theorem isText_loop (s : ByteArray) (w : World) (hlen : s.size ≤ 9223372036854775807) (h0 : 0 < s.size) (hz : s[0].toNat = 48 → s.size ≤ 1) :
    Calls Tryd.prog 40 #[.string s] w (Says (isTextB s) w) := by
  obtain ⟨hne, hne2⟩ := str_ne h0
  have Hz := Lib.hid (fun h : 0 < s.size => (hz : s[0].toNat = 48 → s.size ≤ 1))
  by_cases hz1 : s[0].toNat = 48
  · have hz2 : s.size ≤ 1 := hz hz1
    have hz3 : decide ((1 : Int) < (s.size : Int)) = false := by simp; omega
    clear hz
    have hz : Hid (∀ h : 0 < s.size, s[0].toNat = 48 → s.size ≤ 1) := Hz
    go_enter Tryd.func40, Tryd.ntmps40
    go_wp2_with fail
    go_loop [3, 18] (fun _ i => ∃ k : Nat, i = .int .i64 k ∧ k ≤ s.size ∧ DigB s k) (fun _ i => s.size - (intOf i).toNat)
    case atStart => exact ⟨0, rfl, by omega, fun j _ h => by omega⟩
    case round =>
      obtain ⟨k, rfl, hk, hd⟩ := hrel
      by_cases hlt : k < s.size
      · by_cases h1 : (s[k].toNat : Int) < 48
        · have hnt := Lib.hid (fun h : isTextB s => h.2.2 k hlt hlt)
          go_wp2
          go_ret
          exact ⟨false, rfl, by simp; intro h; have := hnt.out h; omega, rfl⟩
        · by_cases h2 : (57 : Int) < (s[k].toNat : Int)
          · have hnt := Lib.hid (fun h : isTextB s => h.2.2 k hlt hlt)
            go_wp2
            go_ret
            exact ⟨false, rfl, by simp; intro h; have := hnt.out h; omega, rfl⟩
          · have hn := Lib.hid (hd.snoc hlt (by omega) (by omega))
            go_wp2
            go_round
            case rel => exact ⟨k + 1, by go_num, by omega, hn.out⟩
            case measure => simp [intOf]; omega
      · have hfin : Hid (isTextB s) := ⟨h0, hz.out, by obtain rfl : k = s.size := by omega
                                                       exact hd⟩
        go_wp2
        go_ret
        exact ⟨true, rfl, by simp; exact hfin.out, rfl⟩
  · have hz3 : ((s[0].toNat : Int) == 48) = false := beq_eq_false_iff_ne.2 (by omega)
    clear hz
    have hz : Hid (∀ h : 0 < s.size, s[0].toNat = 48 → s.size ≤ 1) := Hz
    go_enter Tryd.func40, Tryd.ntmps40
    go_wp2_with fail
    go_loop [3, 18] (fun _ i => ∃ k : Nat, i = .int .i64 k ∧ k ≤ s.size ∧ DigB s k) (fun _ i => s.size - (intOf i).toNat)
    case atStart => exact ⟨0, rfl, by omega, fun j _ h => by omega⟩
    case round =>
      obtain ⟨k, rfl, hk, hd⟩ := hrel
      by_cases hlt : k < s.size
      · by_cases h1 : (s[k].toNat : Int) < 48
        · have hnt := Lib.hid (fun h : isTextB s => h.2.2 k hlt hlt)
          go_wp2
          go_ret
          exact ⟨false, rfl, by simp; intro h; have := hnt.out h; omega, rfl⟩
        · by_cases h2 : (57 : Int) < (s[k].toNat : Int)
          · have hnt := Lib.hid (fun h : isTextB s => h.2.2 k hlt hlt)
            go_wp2
            go_ret
            exact ⟨false, rfl, by simp; intro h; have := hnt.out h; omega, rfl⟩
          · have hn := Lib.hid (hd.snoc hlt (by omega) (by omega))
            go_wp2
            go_round
            case rel => exact ⟨k + 1, by go_num, by omega, hn.out⟩
            case measure => simp [intOf]; omega
      · have hfin : Hid (isTextB s) := ⟨h0, hz.out, by obtain rfl : k = s.size := by omega
                                                       exact hd⟩
        go_wp2
        go_ret
        exact ⟨true, rfl, by simp; exact hfin.out, rfl⟩

theorem isText_any (s : ByteArray) (w : World) (hlen : s.size ≤ 9223372036854775807) :
    Calls Tryd.prog 40 #[.string s] w (Says (isTextB s) w) := by
  by_cases h0 : 0 < s.size
  · by_cases hz : s[0].toNat = 48 → s.size ≤ 1
    · exact isText_loop s w hlen h0 hz
    · have hz' : s[0].toNat = 48 ∧ ¬ s.size ≤ 1 := Classical.not_imp.1 hz
      refine (isText_zero s w hlen (by omega) hz'.1).mono ?_
      rintro e w' ⟨rfl, rfl⟩
      exact ⟨false, rfl, by simp; intro h; exact hz (h.2.1 h0), rfl⟩
  · refine (isText_empty s w (by omega)).mono ?_
    rintro e w' ⟨rfl, rfl⟩
    exact ⟨false, rfl, by simp; intro h; exact h0 h.1, rfl⟩
end Go.Proofs.YtapblmbjbpkieaaDoor

namespace Go.Proofs.YtapblmbjbpkieaaDoor
open Go.RowKit

theorem OwnU.form {base : Nat} {w : World} {v : Value} {os : List Nat} (h : OwnU base w v os) (hn : 0 < os.length) : ∃ g cap, v = .slice (some ⟨g, 0, none⟩) os.length cap ∧ base ≤ g ∧ g < w.heap.size := World.ownsRow.form h hn
theorem OwnU.len {base : Nat} {w : World} {A : Option Addr} {n c : Nat} {os : List Nat} (h : OwnU base w (.slice A n c) os) : n = os.length := by
  obtain ⟨b, c', h'⟩ := own_slice h
  injection h'
theorem OwnU.cell {base : Nat} {w : World} {g n cap : Nat} {os : List Nat} (h : OwnU base w (.slice (some ⟨g, 0, none⟩) n cap) os) {j : Nat} (hj : j < os.length) : w.cell? ⟨g, j, none⟩ = some (.int .u32 (os.getD j 0 : Nat)) := by
  obtain rfl := h.len
  rw [World.ownsRow.cellAt h j (by omega)]
  simp [encU, List.getD, hj]
theorem OwnU.free {base : Nat} {w : World} {g n cap : Nat} {os : List Nat} (h : OwnU base w (.slice (some ⟨g, 0, none⟩) n cap) os) (j : Nat) : w.frozen? ⟨g, j, none⟩ = false := by
  obtain rfl := h.len
  exact World.ownsRow.frozenAt h j
theorem OwnU.store {base : Nat} {w : World} {g n cap : Nat} {os os' : List Nat} (h : OwnU base w (.slice (some ⟨g, 0, none⟩) n cap) os) (j d : Nat) (u : Value) (hu : u = encU d) (ho : os' = os.set j d) :
    OwnU base (w.setCell ⟨g, j, none⟩ u) (.slice (some ⟨g, 0, none⟩) n cap) os' := by
  obtain rfl := h.len
  subst hu ho
  have := (World.ownsRow.stored h j (encU d)).1
  unfold OwnU
  rw [List.length_set, List.map_set]
  exact this
theorem OwnU.slice {base : Nat} {w : World} {v : Value} {os : List Nat} (h : OwnU base w v os) : ∃ A c, v = .slice A os.length c := own_slice h

/-- The number that bytes spell. -/
def numL (l : List UInt8) : Nat := l.foldl (fun n c => n * 10 + (c.toNat - 48)) 0
theorem numL_snoc (l : List UInt8) (c : UInt8) : numL (l ++ [c]) = numL l * 10 + (c.toNat - 48) := by simp [numL]
theorem numL_take (s : ByteArray) (k : Nat) (h : k < s.size) : numL (s.data.toList.take (k + 1)) = numL (s.data.toList.take k) * 10 + (s[k].toNat - 48) := by
  have hl : k < s.data.toList.length := h
  rw [List.take_succ_eq_append_getElem hl, numL_snoc]
  rfl
theorem numL_lt (l : List UInt8) (h : ∀ c ∈ l, c.toNat ≤ 57) : numL l < 10 ^ l.length := by
  induction hn : l.length generalizing l with
  | zero => obtain rfl := List.eq_nil_of_length_eq_zero hn; simp [numL]
  | succ n ih =>
    obtain ⟨xs, x, rfl⟩ : ∃ xs x, l = xs ++ [x] := ⟨l.dropLast, l.getLast (by intro e; simp [e] at hn), (List.dropLast_concat_getLast _).symm⟩
    have h1 := ih xs (fun c hc => h c (by simp [hc])) (by simpa using hn)
    have h2 := h x (by simp)
    rw [numL_snoc, Nat.pow_succ]
    omega
theorem numL_append (l m : List UInt8) : numL (l ++ m) = numL l * 10 ^ m.length + numL m := by
  induction hn : m.length generalizing m with
  | zero => obtain rfl := List.eq_nil_of_length_eq_zero hn; simp [numL]
  | succ n ih =>
    obtain ⟨xs, x, rfl⟩ : ∃ xs x, m = xs ++ [x] := ⟨m.dropLast, m.getLast (by intro e; simp [e] at hn), (List.dropLast_concat_getLast _).symm⟩
    rw [← List.append_assoc, numL_snoc, numL_snoc, ih xs (by simpa using hn), Nat.pow_succ, ← Nat.mul_assoc, Nat.add_mul]
    omega

/-- At the head of appendPart's second loop: the first i digits are os, and c is the carry. -/
def PartRel (base : Nat) (w : World) (ds : List Nat) (t : Nat) (v : Value) (i c : Nat) (os : List Nat) (wr : World) : Prop :=
  OwnU base wr v (os ++ ds.drop i) ∧ os.length = i ∧ (∀ d ∈ os, d < 4294967296) ∧ val 4294967296 os + 4294967296 ^ i * c = val 4294967296 (ds.take i) * 1000000000 + t ∧ Below base w wr
theorem part_math (o _p i c d t v : Nat) (h : o + 4294967296 ^ i * c = v * 1000000000 + t) :
    (o + 4294967296 ^ i * ((d * 1000000000 + c) % 4294967296)) + 4294967296 ^ (i + 1) * ((d * 1000000000 + c) / 4294967296) = (v + 4294967296 ^ i * d) * 1000000000 + t := by
  rw [Nat.pow_succ, Nat.mul_assoc, Nat.add_assoc, ← Nat.mul_add, Nat.mod_add_div, Nat.mul_add, Nat.add_mul, ← Nat.mul_assoc (4294967296 ^ i)]
  omega
theorem set_mid (os ds : List Nat) (i x : Nat) (hl : os.length = i) (h : i < ds.length) : (os ++ ds.drop i).set i x = (os ++ [x]) ++ ds.drop (i + 1) := by
  subst hl
  rw [List.set_append_right _ _ (Nat.le_refl _), Nat.sub_self, drop_cons ds os.length h, List.set_cons_zero, List.append_assoc]
  rfl
theorem part_carry (d c : Nat) (hd : d < 4294967296) (hc : c < 1000000000) : (d * 1000000000 + c) / 4294967296 < 1000000000 := by omega

set_option maxRecDepth 100000 in
set_option maxHeartbeats 1600000 in
theorem appendPart_any (base : Nat) {v : Value} {ds : List Nat} {s : ByteArray} {w : World} (hlen : ds.length ≤ 1000000) (hd : ∀ d ∈ ds, d < 4294967296) (hs : s.size ≤ 9) (hdig : DigB s s.size) (hv : OwnU base w v ds) (hbase : base ≤ w.heap.size) :
    Calls Tryd.prog 41 #[v, .string s] w fun e w' => ∃ v' ds', e = .returned v' ∧ OwnU base w' v' ds' ∧ ds'.length ≤ ds.length + 1 ∧ (∀ d ∈ ds', d < 4294967296) ∧ val 4294967296 ds' = val 4294967296 ds * 1000000000 + numL s.data.toList ∧ Below base w w' := by
  obtain ⟨A, cp, rfl⟩ := hv.slice
  have HDIG := Lib.hid hdig
  have HD := Lib.hid hd
  clear hdig hd
  go_enter Tryd.func41, Tryd.ntmps41
  go_wp2
  go_loop [5, 6, 14] (fun c _ i => ∃ (nc k : Nat), i = .int .i64 k ∧ k ≤ s.size ∧ c = .int .u32 nc ∧ nc = numL (s.data.toList.take k) ∧ nc < 10 ^ k) (fun _ _ i => s.size - (intOf i).toNat)
  case atStart => exact ⟨0, 0, rfl, by omega, rfl, rfl, by omega⟩
  case round =>
    obtain ⟨c, k, rfl, hk, rfl, hcn, hc10⟩ := hrel
    have HCN := Lib.hid hcn
    clear hcn
    have hc9 : c < 1000000000 := Nat.lt_of_lt_of_le hc10 (Nat.pow_le_pow_right (n := 10) (by omega) (show k ≤ 9 by omega))
    by_cases hlt : k < s.size
    · have hx := HDIG.out.at_ hlt hlt
      have hn := Lib.hid (numL_take s k hlt)
      have hc8 : c < 100000000 := Nat.lt_of_lt_of_le hc10 (Nat.pow_le_pow_right (n := 10) (by omega) (show k ≤ 8 by omega))
      have hc11 : Hid (c * 10 + (s[k].toNat - 48) < 10 ^ (k + 1)) := by unfold Hid; rw [Nat.pow_succ]; omega
      clear hc10
      go_wp2
      go_round
      case rel => exact ⟨c * 10 + (s[k].toNat - 48), k + 1, by go_num, by omega, by go_num, by rw [hn.out, HCN.out], hc11.out⟩
      case measure => simp [intOf]; omega
    · obtain rfl : k = s.size := by omega
      have hct : Hid (c = numL s.data.toList) := by
        exact HCN.out.trans (congrArg numL (List.take_of_length_le (Nat.le_refl _)))
      clear hc10
      go_wp2
      go_loopw [5, 28] (fun cc i wr => ∃ (nc ni : Nat) (os : List Nat), i = .int .i64 ni ∧ ni ≤ ds.length ∧ cc = .int .u32 nc ∧ nc < 1000000000 ∧ PartRel base w ds c (.slice A ds.length cp) ni nc os wr) (fun _ i _ => ds.length - (intOf i).toNat)
      case atStart => exact ⟨c, 0, [], rfl, by omega, rfl, hc9, hv, rfl, by simp, by simp [val], Below.refl _ _⟩
      case round =>
        obtain ⟨c1, i, os, rfl, hi, rfl, hc1, hR⟩ := hrel
        have hR1 := hR
        obtain ⟨hown, hos, hod, hval, hbw⟩ := hR1
        have HOS := Lib.hid hos
        have HOD := Lib.hid hod
        have HV := Lib.hid hval
        clear hos hod hval
        by_cases hlt : i < ds.length
        · have hlen2 : (os ++ ds.drop i).length = ds.length := by simp [HOS.out]; omega
          obtain ⟨g, cap, hsl, hbg, hgl⟩ := hown.form (by omega)
          rw [hlen2] at hsl
          obtain ⟨rfl, _, rfl⟩ := Value.slice.inj hsl
          have hgd : (os ++ ds.drop i).getD i 0 = ds.getD i 0 := by
            rw [List.getD, List.getElem?_append_right (by rw [HOS.out]; omega), HOS.out, Nat.sub_self, List.getElem?_drop]; rfl
          have hcell := hown.cell (j := i) (by omega)
          rw [hgd] at hcell
          have hfree := hown.free i
          obtain ⟨d, hdd⟩ : ∃ d : Nat, d = ds.getD i 0 := ⟨_, rfl⟩
          have hd1 : d < 4294967296 := by rw [hdd]; exact getD_lt HD.out i hlt
          rw [← hdd] at hcell
          have hst := Lib.hid (fun u hu => hown.store i ((d * 1000000000 + c1) % 4294967296) u hu (set_mid os ds i _ HOS.out hlt).symm)
          have hval2 := Lib.hid (part_math _ (val 4294967296 (ds.take i)) i c1 d c _ HV.out)
          have htk : Hid (val 4294967296 (ds.take (i + 1)) = val 4294967296 (ds.take i) + 4294967296 ^ i * d) := by
            unfold Hid
            rw [take_snoc ds i hlt, val_snoc, List.length_take, Nat.min_eq_left (by omega), ← hdd]
          clear hdd hgd hsl hlen2 hR
          go_wp2_with (first | (go_at_call 61; refine (mul32_any _ _ _ (by omega) (by omega)).mono ?_; rintro e w1 ⟨rfl, rfl⟩) | (go_at_call 62; refine (add32_any _ _ _ _ (by omega) (by omega) (by omega)).mono ?_; rintro e w1 ⟨rfl, rfl⟩))
          go_roundw
          case rel =>
            refine ⟨(d * 1000000000 + c1) / 4294967296, i + 1, os ++ [(d * 1000000000 + c1) % 4294967296], by go_num, by omega, by go_num, part_carry d c1 hd1 hc1, hst.out _ (by unfold encU; go_num), by simp [HOS.out], all_snoc HOD.out (by omega), ?_, hbw.setCell hbg _⟩
            rw [val_snoc, HOS.out, htk.out]
            exact hval2.out
          case measure => simp [intOf]; omega
        · obtain rfl : i = ds.length := by omega
          have hown2 : OwnU base wr (.slice A ds.length cp) os := by
            have := hown
            rw [List.drop_of_length_le (by omega), List.append_nil] at this
            exact this
          have hsz : base ≤ wr.heap.size := Nat.le_trans hbase hbw.size
          have HV2 : Hid (val 4294967296 os + 4294967296 ^ ds.length * c1 = val 4294967296 ds * 1000000000 + c) := by
            have := HV.out
            rw [List.take_length] at this
            exact this
          have hol : os.length ≤ 1000000 := by rw [HOS.out]; omega
          clear hown hR HV hv
          by_cases hc0 : c1 = 0
          · subst hc0
            go_wp2
            go_ret
            refine ⟨_, os, rfl, hown2, by rw [HOS.out]; omega, HOD.out, ?_, hbw⟩
            rw [← hct.out, ← HV2.out]; simp
          · have hb : ((c1 : Int) != 0) = true := by simp; omega
            go_wp2_with (at_builtin; go_loud (refine wpList_append_U rfl (.tmp 53) (.tmp 55) _ _ rfl Tryd.underlying22 Tryd.underlying22 base _ os rfl hown2 c1 _ rfl rfl (by omega) w hbw hsz ?_; intro v' w1 hown1 hb1 hs1))
            go_ret
            refine ⟨v', os ++ [c1], rfl, hown1.out, by simp [HOS.out], all_snoc HOD.out (by omega), ?_, hb1.out⟩
            rw [val_snoc, HOS.out, ← hct.out, ← HV2.out]
end Go.Proofs.YtapblmbjbpkieaaDoor

namespace Go.Proofs.YtapblmbjbpkieaaDoor
open Go.RowKit

def DigL (l : List UInt8) : Prop := ∀ c ∈ l, 48 ≤ c.toNat ∧ c.toNat ≤ 57
theorem DigL.digB {s : ByteArray} (h : DigL s.data.toList) (k : Nat) : DigB s k := fun j hj _ => h _ (by
  have hl : j < s.data.toList.length := hj
  exact List.mem_iff_getElem.2 ⟨j, hl, rfl⟩)
theorem DigB.digL {s : ByteArray} (h : DigB s s.size) : DigL s.data.toList := by
  intro c hc
  obtain ⟨j, hj, rfl⟩ := List.mem_iff_getElem.1 hc
  exact h j hj hj
theorem DigL.extract {s : ByteArray} (h : DigL s.data.toList) (a b : Nat) : DigL (s.extract a b).data.toList := by
  rw [Lib.extract_data]
  intro c hc
  exact h c (List.mem_of_mem_drop (List.mem_of_mem_take hc))
theorem part_num (s : ByteArray) (k : Nat) (h : k + 9 ≤ s.size) : numL (s.data.toList.take (k + 9)) = numL (s.data.toList.take k) * 1000000000 + numL (s.extract k (k + 9)).data.toList := by
  rw [Lib.extract_data, List.take_add, numL_append, List.length_take, List.length_drop]
  have hl : s.data.toList.length = s.size := rfl
  rw [hl, Nat.add_sub_cancel_left, Nat.min_eq_left (by omega)]

def ParseOk (w : World) (k : Nat) (e : Ending) (w' : World) : Prop := ∃ v, e = .returned (.tuple #[v, .int .i64 0]) ∧ IsNat w' v k ∧ Below w.heap.size w w'
def ParseErr (w : World) (c : Int) (e : Ending) (w' : World) : Prop := e = .returned (.tuple #[.agg #[.slice none 0 0], .int .i64 c]) ∧ Below w.heap.size w w'

set_option maxRecDepth 100000 in
set_option maxHeartbeats 1600000 in
theorem parse_bad {s : ByteArray} {w : World} (hlen : s.size ≤ 9223372036854775807) (hs : ¬ isTextB s) :
    Calls Tryd.prog 14 #[.string s] w (ParseErr w 3) := by
  go_enter Tryd.func14, Tryd.ntmps14
  go_wp2_with (go_at_call 40; refine (isText_any s _ hlen).mono ?_; rintro e w1 ⟨b, rfl, hb, rfl⟩; obtain rfl : b = false := by { cases b; rfl; exact absurd (hb.1 rfl) hs }; clear hb)
  refine bodyPost_ret (v := .tuple #[.agg #[.slice none 0 0], .int .i64 3]) (by simp [results, Tryd.results14, go_sem]) rfl ?_
  exact ⟨rfl, (Below.refl _ _).alloc (Nat.le_refl _) _⟩

set_option maxRecDepth 100000 in
set_option maxHeartbeats 1600000 in
theorem parse_long {s : ByteArray} {w : World} (hlen : s.size ≤ 9223372036854775807) (hs : isTextB s) (hl : 1000 < s.size) :
    Calls Tryd.prog 14 #[.string s] w (ParseErr w 6) := by
  go_enter Tryd.func14, Tryd.ntmps14
  go_wp2_with (go_at_call 40; refine (isText_any s _ hlen).mono ?_; rintro e w1 ⟨b, rfl, hb, rfl⟩; obtain rfl : b = true := hb.2 hs; clear hb)
  refine bodyPost_ret (v := .tuple #[.agg #[.slice none 0 0], .int .i64 6]) (by simp [results, Tryd.results14, go_sem]) rfl ?_
  exact ⟨rfl, (Below.refl _ _).alloc (Nat.le_refl _) _⟩

set_option maxRecDepth 100000 in
set_option maxHeartbeats 1600000 in
theorem parse_ok {s : ByteArray} {w : World} (hs : isTextB s) (hl : s.size ≤ 1000) :
    Calls Tryd.prog 14 #[.string s] w (ParseOk w (numL s.data.toList)) := by
  have hdl := Lib.hid (hs.2.2.digL)
  have hmod : 0 ≤ (s.size : Int) % 9 ∧ (s.size : Int) % 9 < 9 := by omega
  have hp1 := Lib.hid (fun W : World => appendPart_any (w.heap.size + 1) (v := .slice none 0 0) (ds := []) (s := s.extract 0 (s.size % 9)) (w := W) (by simp) (by simp) (by rw [ByteArray.size_extract]; omega) ((hdl.out.extract _ _).digB _) (OwnU.nil _ _))
  have hp2 := Lib.hid (fun (W : World) (k : Nat) (v : Value) (ds : List Nat) h1 h2 => appendPart_any (w.heap.size + 1) (v := v) (ds := ds) (s := s.extract k (k + 9)) (w := W) h1 h2 (by rw [ByteArray.size_extract]; omega) ((hdl.out.extract _ _).digB _))
  go_enter Tryd.func14, Tryd.ntmps14
  go_wp2_with (go_at_call 40; refine (isText_any s _ (by omega)).mono ?_; rintro e w1 ⟨b, rfl, hb, rfl⟩; obtain rfl : b = true := hb.2 hs; clear hb)
  refine (hp1.out _ (by simp)).mono ?_
  rintro e w2 ⟨v1, ds1, rfl, hown1, hl1, hd1, hval1, hb1⟩
  have HV1 : Hid (val 4294967296 ds1 = numL (s.data.toList.take (s.size % 9))) := by
    unfold Hid
    rw [hval1, Lib.extract_data]
    simp [val]
  have HD1 := Lib.hid hd1
  have hl1' : ds1.length ≤ s.size % 9 + 1 := by simp at hl1; omega
  have hone := (One.new w (.slice none 0 0) 26).below hb1 (by simp)
  have hbw : Below w.heap.size w w2 := ((Below.refl _ _).alloc (Nat.le_refl _) _).trans (hb1.mono (by omega))
  have hsz : w.heap.size + 1 ≤ w2.heap.size := by have := hb1.size; simp at this; omega
  clear hval1 hd1 hl1 hp1
  go_wp2_with fail
  go_loopw [4, 5] (fun i v wr => ∃ (k : Nat) (ds : List Nat), i = .int .i64 k ∧ k ≤ s.size ∧ (s.size - k) % 9 = 0 ∧ OwnU (w.heap.size + 1) wr v ds ∧ ds.length ≤ k + 1 ∧ Hid (∀ d ∈ ds, d < 4294967296) ∧ Hid (val 4294967296 ds = numL (s.data.toList.take k)) ∧ One wr w.heap.size (.slice none 0 0) 26 ∧ Below w.heap.size w wr ∧ w.heap.size + 1 ≤ wr.heap.size) (fun i _ _ => s.size - (intOf i).toNat)
  case atStart => exact ⟨s.size % 9, ds1, by go_num, by omega, by omega, hown1, hl1', HD1, HV1, hone, hbw, hsz⟩
  case round =>
    obtain ⟨k, ds, rfl, hk, hk9, hown, hdl2, HD, HV, hone, hbw, hsz⟩ := hrel
    by_cases hlt : k < s.size
    · have hpn := Lib.hid (part_num s k (by omega))
      go_wp2_with fail
      refine (hp2.out _ k _ ds (by omega) HD.out hown hsz).mono ?_
      rintro e w3 ⟨v3, ds3, rfl, hown3, hl3, hd3, hval3, hb3⟩
      have HV3 := Lib.hid hval3
      have HD3 := Lib.hid hd3
      clear hval3 hd3
      have hsz3 := hb3.size
      go_wp2_with fail
      go_roundw
      case rel => exact ⟨k + 9, ds3, by go_num, by omega, by omega, hown3, by omega, HD3, by unfold Hid; rw [HV3.out, HV.out, hpn.out], hone.below hb3 (by omega), hbw.trans (hb3.mono (by omega)), by omega⟩
      case measure => simp [intOf]; omega
    · obtain rfl : k = s.size := by omega
      have hcall := fromDigits_new (ds := ds) (w := wr) (by omega) HD.out hown.reads
      have hvv : val 4294967296 ds = numL s.data.toList := HV.out.trans (congrArg numL (List.take_of_length_le (Nat.le_refl _)))
      rw [hvv] at hcall
      clear hvv HV1 HD1 hl1'
      go_wp2_with (go_at_call 42; refine hcall.mono ?_; rintro e w3 ⟨v, rfl, ⟨s3, rfl, A3, c3, rfl, hc3, hA3⟩, hb⟩; have hone3 := hone.step hb; have hc1 := hone3.cell; have hf1 := hone3.frozen; have hl1 := hone3.lt)
      have hone4 := hone3.set_ (.slice A3 (digs 4294967296 (numL s.data.toList)).length c3)
      refine bodyPost_ret (v := .tuple #[.agg #[.slice A3 (digs 4294967296 (numL s.data.toList)).length c3], .int .i64 0]) (by simp [results, Tryd.results14, go_sem, hone4.cell]) rfl ?_
      exact ⟨_, rfl, ⟨_, rfl, LU.far ⟨A3, c3, rfl, hc3, hA3⟩ hone3.row (by decide) _⟩, (hbw.trans (hb.mono hbw.size)).setCell (Nat.le_refl _) _⟩
end Go.Proofs.YtapblmbjbpkieaaDoor
