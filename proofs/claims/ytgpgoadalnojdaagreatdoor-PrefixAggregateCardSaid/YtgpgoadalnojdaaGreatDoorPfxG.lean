/- Contracts of package prefix: parseNumber. -/
import Derived.Test.YtgpgoadalnojdaaGreatDoorPfxF
import Derived.Test.YtgpgoadalnojdaaGreatDoorShelf
import Derived.Lib.SmallJoins
import Derived.Lib.AtoiErrMem
namespace Go.Proofs.YtgpgoadalnojdaaGreatDoor
open Go.RowKit

def Tab (w : World) : Prop := Lib.TabIs Tryz.prog w "internal/strconv.uint64pow10" .u64 Lib.pow10Tab
theorem tab_global : Tryz.prog.globalNamed "internal/strconv.uint64pow10" = some 3 := by kernel_rfl
/-- What the library's variables hold. -/
structure Vars (w : World) : Prop where
  tab : Tab w
  len : ∃ m, w.cell? ⟨0, 0, none⟩ = some (.int .i64 m)
  syn : ∃ t p, w.cell? ⟨1, 0, none⟩ = some (.iface t p)
  rng : ∃ t p, w.cell? ⟨2, 0, none⟩ = some (.iface t p)
theorem cell_lt {w : World} {p : Addr} {v : Value} (h : w.cell? p = some v) : p.block < w.heap.size := by
  rcases Nat.lt_or_ge p.block w.heap.size with hlt | hge
  · exact hlt
  · unfold World.cell? at h
    simp [Array.getElem?_eq_none hge] at h
theorem Vars.below {w w' : World} (h : Vars w) (hb : Below w.heap.size w w') : Vars w' := by
  obtain ⟨h1, ⟨m, h2⟩, ⟨t, p, h3⟩, ⟨t', p', h4⟩⟩ := h
  exact ⟨Joins.tab_stays tab_global h1 hb (Nat.le_refl _), ⟨m, (hb.cell (cell_lt h2)).trans h2⟩, ⟨t, p, (hb.cell (cell_lt h3)).trans h3⟩, ⟨t', p', (hb.cell (cell_lt h4)).trans h4⟩⟩
theorem grow_below (w : World) (k : Nat) (os : Array Obj) : Below w.heap.size w (Sort.grow (w.drewN k) os) := by
  have : Below w.heap.size (w.drewN k) (Sort.grow (w.drewN k) os) := ⟨rfl, rfl, rfl, by simp [Sort.grow], fun j hj => by simp [Sort.grow, Array.getElem?_append_left (show j < w.heap.size from hj)]⟩
  exact (Joins.below_draws _ w k).trans this
/-- A string out of a list of bytes. -/
def str (l : List UInt8) : ByteArray := ⟨l.toArray⟩
theorem str_data (s : ByteArray) : str s.data.toList = s := Joins.bytes_eta s
theorem data_str (l : List UInt8) : (str l).data.toList = l := rfl
theorem itoa_any (n : Int) (w : World) (h0 : -9223372036854775808 ≤ n) (h1 : n ≤ 9223372036854775807) (hT : Vars w) :
    Calls Tryz.prog 30 #[.int .i64 n] w fun e w' => e = .returned (.string (str (Lib.itoa n))) ∧ Below w.heap.size w w' := by
  refine (Tryz.strconv_Itoa n h0 h1 w hT.tab).mono ?_
  rintro e w' ⟨rfl, k, os, rfl⟩
  exact ⟨rfl, grow_below w k os⟩
def numV (o : Option Nat) : Value := match o with
  | some n => .tuple #[.int .i64 (n : Int), .bool true]
  | none => .tuple #[.int .i64 0, .bool false]
def NumPost (w : World) (o : Option Nat) (e : Ending) (w' : World) : Prop := e = .returned (numV o) ∧ Below w.heap.size w w'

theorem atoi_ok (s : ByteArray) (hs : s.size ≤ 281474976710656) (v : Int) (h : Lib.atoiAll s.data.toList = .ok v) (w : World) :
    Calls Tryz.prog 42 #[.string s] w fun e w' => e = .returned (.tuple #[.int .i64 v, .nilIface]) ∧ Below w.heap.size w w' := by
  refine (Tryz.strconv_Atoi_ok s (by omega) v h w).mono ?_
  rintro e w' ⟨rfl, hw | ⟨t, hw⟩⟩
  · subst hw; exact ⟨rfl, Below.refl _ _⟩
  · subst hw; exact ⟨rfl, Joins.below_bytesWorld _ _ _ _ (Nat.le_refl _)⟩
theorem atoi_err (s : ByteArray) (hs : s.size ≤ 281474976710656) (h : ∀ v, Lib.atoiAll s.data.toList ≠ .ok v) (w : World) (hV : Vars w) :
    Calls Tryz.prog 42 #[.string s] w fun e w' => ∃ n N, e = .returned (.tuple #[.int .i64 n, .iface 109 (.pointer (some ⟨N, 0, none⟩))]) ∧ Below w.heap.size w w' := by
  cases hc : Lib.atoiAll s.data.toList with
  | ok v => exact absurd hc (h v)
  | «syntax» =>
    obtain ⟨t, p, hs3⟩ := hV.syn
    refine (Tryz.strconv_Atoi_syntax s hs hc _ w hs3 (.inr ⟨t, p, rfl⟩)).mono ?_
    rintro e w' ⟨N, rfl, _, _, hb⟩
    exact ⟨_, N, rfl, hb⟩
  | range =>
    obtain ⟨t, p, hs3⟩ := hV.rng
    refine (Tryz.strconv_Atoi_range s hs hc _ w hs3 (.inr ⟨t, p, rfl⟩)).mono ?_
    rintro e w' ⟨N, rfl, _, _, hb⟩
    exact ⟨_, N, rfl, hb⟩

theorem num_fail {l : List UInt8} {g : Nat} (h : ∀ v, Lib.atoiAll l ≠ .ok v) : num l g = none := by
  unfold num
  split
  · rename_i v hv; exact absurd hv (h v)
  · rfl
theorem num_ok {l : List UInt8} {g : Nat} {v : Int} (h : Lib.atoiAll l = .ok v) : num l g = if 0 ≤ v ∧ v ≤ g ∧ Lib.itoa v = l then some v.toNat else none := by
  unfold num
  rw [h]
theorem str_eq (l : List UInt8) (s : ByteArray) : ((str l).toList == s.toList) = (l == s.data.toList) := by
  rw [ByteArray.toList_eq, ByteArray.toList_eq]; rfl

set_option maxHeartbeats 2000000 in
theorem parseNumber_err (s : ByteArray) (g : Nat) (w : World) (hs : s.size ≤ 281474976710656) (h : ∀ v, Lib.atoiAll s.data.toList ≠ .ok v) (hV : Vars w) :
    Calls Tryz.prog 27 #[.string s, .int .i64 (g : Int)] w (NumPost w none) := by
  have hA := Lib.hid (atoi_err s hs h w hV)
  clear h hV hs
  go_enter Tryz.func27, Tryz.ntmps27
  go_wp2_with fail
  refine hA.out.mono ?_
  rintro e w1 ⟨n, N, rfl, hb⟩
  have HB := Lib.hid hb
  clear hb
  go_wp2_with fail
  go_ret2
  exact ⟨rfl, HB.out⟩
set_option maxHeartbeats 2000000 in
theorem parseNumber_ok (s : ByteArray) (g : Nat) (w : World) (hs : s.size ≤ 281474976710656) (v : Int) (h : Lib.atoiAll s.data.toList = .ok v) (hv1 : -9223372036854775808 ≤ v) (hv2 : v ≤ 9223372036854775807) (hV : Vars w) :
    Calls Tryz.prog 27 #[.string s, .int .i64 (g : Int)] w (NumPost w (num s.data.toList g)) := by
  have hA := Lib.hid (atoi_ok s hs v h w)
  have hI := Lib.hid (fun (W : World) (hW : Below w.heap.size w W) => itoa_any v W hv1 hv2 (hV.below hW))
  obtain ⟨o, ho⟩ : ∃ o, num s.data.toList g = o := ⟨_, rfl⟩
  rw [ho]
  have hO := num_ok (g := g) h
  rw [ho] at hO
  by_cases h0 : 0 ≤ v
  · obtain ⟨n, rfl⟩ := Int.eq_ofNat_of_zero_le h0
    have hz : decide ((n : Int) < 0) = false := decide_eq_false (by omega)
    by_cases h1 : (n : Int) ≤ (g : Int)
    · have hz3 : decide (g < n) = false := decide_eq_false (by omega)
      by_cases h2 : Lib.itoa (n : Int) = s.data.toList
      · have HO := Lib.hid (show o = some n by rw [hO, if_pos ⟨h0, h1, h2⟩]; simp)
        have hq : ((str (Lib.itoa (n : Int))).toList == s.toList) = true := by rw [str_eq, h2]; simp
        obtain ⟨t, ht⟩ : ∃ t, str (Lib.itoa (n : Int)) = t := ⟨_, rfl⟩
        rw [ht] at hq hI
        clear h ho hO h0 h1 h2 ht hv1 hv2 hs hV
        go_enter Tryz.func27, Tryz.ntmps27
        go_wp2_with fail
        refine hA.out.mono ?_
        rintro e w1 ⟨rfl, hb⟩
        have HI := Lib.hid (hI.out w1 hb)
        have HB := Lib.hid hb
        clear hb
        go_wp2_with fail
        refine HI.out.mono ?_
        rintro e w2 ⟨rfl, hb2⟩
        have HB2 := Lib.hid (HB.out.trans (hb2.mono HB.out.size))
        clear hb2
        go_wp2_with fail
        go_ret2
        exact ⟨by rw [HO.out]; rfl, HB2.out⟩
      · have HO := Lib.hid (show o = none by rw [hO, if_neg (fun ⟨_, _, h3⟩ => h2 h3)])
        have hq : ((str (Lib.itoa (n : Int))).toList == s.toList) = false := by rw [str_eq]; simpa using h2
        obtain ⟨t, ht⟩ : ∃ t, str (Lib.itoa (n : Int)) = t := ⟨_, rfl⟩
        rw [ht] at hq hI
        clear h ho hO h0 h1 h2 ht hv1 hv2 hs hV
        go_enter Tryz.func27, Tryz.ntmps27
        go_wp2_with fail
        refine hA.out.mono ?_
        rintro e w1 ⟨rfl, hb⟩
        have HI := Lib.hid (hI.out w1 hb)
        have HB := Lib.hid hb
        clear hb
        go_wp2_with fail
        refine HI.out.mono ?_
        rintro e w2 ⟨rfl, hb2⟩
        have HB2 := Lib.hid (HB.out.trans (hb2.mono HB.out.size))
        clear hb2
        go_wp2_with fail
        go_ret2
        exact ⟨by rw [HO.out]; rfl, HB2.out⟩
    · have hz3 : decide (g < n) = true := decide_eq_true (by omega)
      have HO := Lib.hid (show o = none by rw [hO, if_neg (fun ⟨_, h3, _⟩ => h1 h3)])
      clear h ho hO h0 h1 hv1 hv2 hs hV hI
      go_enter Tryz.func27, Tryz.ntmps27
      go_wp2_with fail
      refine hA.out.mono ?_
      rintro e w1 ⟨rfl, hb⟩
      have HB := Lib.hid hb
      clear hb
      go_wp2_with fail
      go_ret2
      exact ⟨by rw [HO.out]; rfl, HB.out⟩
  · have hz : decide (v < 0) = true := decide_eq_true (by omega)
    have HO := Lib.hid (show o = none by rw [hO, if_neg (fun ⟨h3, _⟩ => h0 h3)])
    clear h ho hO h0 hv1 hv2 hs hV hI
    go_enter Tryz.func27, Tryz.ntmps27
    go_wp2_with fail
    refine hA.out.mono ?_
    rintro e w1 ⟨rfl, hb⟩
    have HB := Lib.hid hb
    clear hb
    go_wp2_with fail
    go_ret2
    exact ⟨by rw [HO.out]; rfl, HB.out⟩
theorem parseNumber_any (s : ByteArray) (g : Nat) (w : World) (hs : s.size ≤ 281474976710656) (hV : Vars w) :
    Calls Tryz.prog 27 #[.string s, .int .i64 (g : Int)] w (NumPost w (num s.data.toList g)) := by
  by_cases h : ∃ v, Lib.atoiAll s.data.toList = .ok v
  · obtain ⟨v, h⟩ := h
    have hb := Lib.atoiAll_bounds h
    exact parseNumber_ok s g w hs v h hb.1 hb.2 hV
  · have h2 : ∀ v, Lib.atoiAll s.data.toList ≠ .ok v := fun v hv => h ⟨v, hv⟩
    rw [num_fail h2]
    exact parseNumber_err s g w hs h2 hV
end Go.Proofs.YtgpgoadalnojdaaGreatDoor
