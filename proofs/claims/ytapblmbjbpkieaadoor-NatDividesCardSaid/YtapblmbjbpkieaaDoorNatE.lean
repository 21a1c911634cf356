/- Contract of the reference's Make. Contracts of package nat: Uint64, Bits. -/
import Derived.Test.YtapblmbjbpkieaaDoorText
import Derived.Deep.RegionWith
import Derived.IntWalk
namespace Go.Proofs.YtapblmbjbpkieaaDoor
open Go.RowKit

/-- A slice that came in and reads as digits. -/
def LA (w : World) (v : Value) (ds : List Nat) : Prop := ∃ A c, v = .slice A ds.length c ∧ Cells w w.heap.size A ds.length (u32f ds)
theorem LA.below {w w' : World} {v : Value} {ds : List Nat} (h : LA w v ds) (hb : Below w.heap.size w w') : LA w' v ds := by
  obtain ⟨A, c, h1, h3⟩ := h
  exact ⟨A, c, h1, h3.step hb hb.size⟩
theorem digs6_len {k n : Nat} (h : k < 4294967296 ^ n) : (digs 1000000 k).length ≤ 2 * n := by
  refine digs_len (by omega) (Nat.lt_of_lt_of_le h ?_)
  rw [Nat.pow_mul]
  exact Nat.pow_le_pow_left (by omega) n

/-- times, Of and Add on numbers. -/
theorem times_num {v : Value} {k : Nat} {w : World} (hlen : (digs 1000000 k).length ≤ 1000000) (m : Int) (h0 : 0 ≤ m) (hm : m ≤ 4294967296) (hv : LI w v (digs 1000000 k)) :
    Calls Tryd.prog 59 #[v, .int .i64 m] w (NewI w (digs 1000000 (k * m.toNat))) := by
  have := times_any m hlen (digs_lt (by omega) k) h0 hm hv
  rw [val_digs (by omega)] at this
  exact this
theorem refAdd_num {u v : Value} {x y : Nat} {w : World} (hx : (digs 1000000 x).length ≤ 100000) (hy : (digs 1000000 y).length ≤ 100000) (hu : LI w u (digs 1000000 x)) (hv : LI w v (digs 1000000 y)) :
    Calls Tryd.prog 23 #[u, v] w (NewI w (digs 1000000 (x + y))) := by
  have := refAdd_any hx hy (digs_lt (by omega) x) (digs_lt (by omega) y) hu hv
  rw [val_digs (by omega), val_digs (by omega)] at this
  exact this
theorem LI.drewN {w : World} {v : Value} {ds : List Nat} (h : LI w v ds) (k : Nat) : LI (w.drewN k) v ds := h
theorem LI.drew {w : World} {v : Value} {ds : List Nat} (h : LI w v ds) : LI w.drew v ds := h

set_option maxRecDepth 100000 in
set_option maxHeartbeats 2000000 in
theorem make_any {v : Value} {ds : List Nat} {w : World} (hlen : ds.length ≤ 12) (hd : ∀ d ∈ ds, d < 4294967296) (hv : LA w v ds) :
    Calls Tryd.prog 38 #[v] w (NewI w (digs 1000000 (val 4294967296 ds))) := by
  obtain ⟨A, c, rfl, hA⟩ := hv
  have HD := Lib.hid hd
  clear hd
  go_enter Tryd.func38, Tryd.ntmps38
  go_wp2
  have hst : LI (w.alloc (.cells #[] 3)) (.slice (some ⟨w.heap.size, 0, none⟩) 0 0) [] := ⟨_, 0, rfl, Nat.le_refl _, Cells.zero⟩
  go_loopw [3, 4] (fun o i wr => ∃ (ni k : Nat), i = .int .i64 ni ∧ ni ≤ ds.length ∧ k = val 4294967296 (ds.drop (ds.length - ni)) ∧ LI wr o (digs 1000000 k) ∧ Below w.heap.size w wr) (fun _ i _ => ds.length - (intOf i).toNat)
  case atStart => exact ⟨0, 0, rfl, by omega, by simp [val], by rw [digs_zero]; exact hst, (Below.refl _ _).alloc (Nat.le_refl _) _⟩
  case round =>
    obtain ⟨i, k, rfl, hi, hk, hL, hbw⟩ := hrel
    by_cases hlt : i < ds.length
    · obtain ⟨a, rfl, hab, hcell⟩ := hA (ds.length - 1 - i) (by omega)
      obtain ⟨d, hdd⟩ : ∃ d : Nat, d = ds.getD (ds.length - 1 - i) 0 := ⟨_, rfl⟩
      have hd1 : d < 4294967296 := by rw [hdd]; exact getD_lt HD.out _ (by omega)
      have hdr : val 4294967296 (ds.drop (ds.length - (i + 1))) = k * 4294967296 + d := by
        rw [show ds.length - (i + 1) = ds.length - 1 - i by omega, drop_cons ds (ds.length - 1 - i) (by omega), show ds.length - 1 - i + 1 = ds.length - i by omega, hk, hdd]
        simp only [val]
        omega
      have hkl : k < 4294967296 ^ 12 := by
        have h1 := val_lt (b := 4294967296) (ds.drop (ds.length - i)) (fun d hd => HD.out d (List.mem_of_mem_drop hd))
        rw [← hk] at h1
        exact Nat.lt_of_lt_of_le h1 (Nat.pow_le_pow_right (by omega) (by rw [List.length_drop]; omega))
      have hk6 : (digs 1000000 k).length ≤ 24 := digs6_len hkl
      have hkk6 : (digs 1000000 (k * 4294967296)).length ≤ 26 := digs6_len (n := 13) (by rw [Nat.pow_succ]; exact Nat.mul_lt_mul_of_pos_right hkl (by omega))
      have hd6 : (digs 1000000 d).length ≤ 2 := digs6_len (n := 1) (by omega)
      have hcell' : wr.cell? (a.add (ds.length - 1 - i)) = some (.int .u32 d) := by rw [hbw.cell (by rw [add_block]; exact hab), hcell, hdd]; rfl
      have hsz := hbw.size
      have Hcell : ∀ W : World, Below wr.heap.size wr W → W.cell? (a.add (ds.length - 1 - i)) = some (.int .u32 d) := fun W hb => (hb.cell (by rw [add_block]; omega)).trans hcell'
      have HDR := Lib.hid hdr
      have HCELL := Lib.hid Hcell
      have HL := Lib.hid (fun W hb => LI.below (w' := W) hL hb)
      clear hdr hk hdd hcell hkl Hcell hL
      have hix : ((ds.length : Int) - 1 - (i : Int)) = ((ds.length - 1 - i : Nat) : Int) := by omega
      have hAdd := Lib.hid (fun (u v : Value) (W : World) hu hv => refAdd_num (x := k * 4294967296) (y := d) (u := u) (v := v) (w := W) (by omega) (by omega) hu hv)
      have hcd : wr.drew.cell? (a.add (ds.length - 1 - i)) = some (.int .u32 d) := hcell'
      have hb0 : 0 ≤ (ds.length : Int) - 1 - (i : Int) := by omega
      have hb1 : (ds.length : Int) - 1 - (i : Int) < ds.length := by omega
      have he1 : IntKind.i64.wrap ((ds.length : Int) - 1) = (ds.length : Int) - 1 := IntWalk.i64_in _ (by omega)
      have he2 : IntKind.i64.wrap ((ds.length : Int) - 1 - (i : Int)) = (ds.length : Int) - 1 - (i : Int) := IntWalk.i64_in _ (by omega)
      have he3 : ((ds.length : Int) - 1 - (i : Int)).toNat = ds.length - 1 - i := by omega
      have he4 : IntKind.u64.wrap (d : Int) = (d : Int) := IntWalk.u64_in _ (by omega)
      clear hix
      go_wp2_with fail
      go_region_with (first
        | (go_at_call 59; refine (times_num (by omega) 4294967296 (by omega) (by omega) (HL.out _ ?_)).mono ?_; (first | exact (Below.refl _ _).drew | exact hbO'); rintro e wT ⟨vT, rfl, hvT, hbT⟩; have hbT' : Below wr.heap.size wr wT := (by first | exact (Below.refl _ _).drew.trans hbT | exact hbO'.trans (hbT.mono hbO'.size)); have hcT := HCELL.out wT hbT')
        | (go_at_call 34; refine (refOf_any _ (by omega) (by omega)).mono ?_; rintro e wO ⟨vO, rfl, hvO, hbO⟩; rw [Int.toNat_natCast] at hvO; have hbO' : Below wr.heap.size wr wO := (by first | exact (Below.refl _ _).drew.trans hbO | exact hbT'.trans (hbO.mono hbT'.size)); have hcO := HCELL.out wO hbO')
        | (go_at_call 23; refine (hAdd.out _ _ _ ?_ ?_).mono ?_; (first | exact hvT | exact hvT.below hbO); (first | exact hvO | exact hvO.below hbT); rintro e wA ⟨vA, rfl, hvA, hbA⟩))
      all_goals (try go_wp2)
      all_goals
        go_roundw
        case rel => exact ⟨i + 1, k * 4294967296 + d, by go_num, by omega, HDR.out.symm, hvA, hbw.trans ((by first | exact (hbT'.trans (hbO.mono hbT'.size)).trans (hbA.mono (hbT'.trans (hbO.mono hbT'.size)).size) | exact (hbO'.trans (hbT.mono hbO'.size)).trans (hbA.mono (hbO'.trans (hbT.mono hbO'.size)).size) : Below wr.heap.size wr wA).mono hsz)⟩
        case measure => simp [intOf]; omega
    · obtain rfl : i = ds.length := by omega
      have hk' : Hid (val 4294967296 ds = k) := by
        unfold Hid
        rw [hk, Nat.sub_self]; rfl
      clear hk
      go_wp2
      go_ret
      exact ⟨_, rfl, by rw [hk'.out]; exact hL, hbw⟩
end Go.Proofs.YtapblmbjbpkieaaDoor

namespace Go.Proofs.YtapblmbjbpkieaaDoor
open Go.RowKit

theorem digs_one {k : Nat} (h0 : 0 < k) (h : k < 4294967296) : digs 4294967296 k = [k] := by
  rw [digs_pos 4294967296 k (by omega) h0, Nat.mod_eq_of_lt h, Nat.div_eq_of_lt h]; rfl
theorem digs_two {k : Nat} (h0 : 4294967296 ≤ k) (h : k < 18446744073709551616) : digs 4294967296 k = [k % 4294967296, k / 4294967296] := by
  rw [digs_pos 4294967296 k (by omega) (by omega), digs_one (by omega) (by omega)]
theorem digs_ab {a b : Nat} (ha : a < 4294967296) (hb : 0 < b) (hb2 : b < 4294967296) : digs 4294967296 (a + b * 4294967296) = [a, b] := by
  rw [digs_two (by omega) (by omega)]
  congr 1
  · omega
  · congr 1
    omega
theorem digs_more {k : Nat} (h : 18446744073709551616 ≤ k) : 2 < (digs 4294967296 k).length := by
  rw [digs_pos 4294967296 k (by omega) (by omega), digs_pos 4294967296 (k / 4294967296) (by omega) (by omega), digs_pos 4294967296 (k / 4294967296 / 4294967296) (by omega) (by omega)]
  simp
def U64Spec (k : Nat) : Ending := if k < 18446744073709551616 then .returned (.tuple #[.int .u64 (k : Int), .bool true]) else .returned (.tuple #[.int .u64 0, .bool false])

theorem u64_join (a b : Int) (ha : 0 ≤ a ∧ a < 4294967296) (hb : 0 ≤ b ∧ b < 4294967296) : bits BinOp.or IntKind.u64 a (b * 4294967296) = a + b * 4294967296 := by
  rw [u64_or _ _ ha.1 (by omega) (by omega) (by omega), Nat.or_comm, nat_join 32 _ _ (by omega) (by omega)]
  omega
theorem u64_zero (a : Int) (ha : 0 ≤ a ∧ a < 4294967296) : bits BinOp.or IntKind.u64 0 a = a := by
  rw [u64_or _ _ (by omega) (by omega) (by omega) (by omega)]
  simp
  omega

set_option maxRecDepth 100000 in
set_option maxHeartbeats 2000000 in
theorem uint64_any {v : Value} {k : Nat} {w : World} (hlen : (digs 4294967296 k).length ≤ 1000000) (hv : IsNat w v k) :
    Calls Tryd.prog 31 #[v] w fun e w' => e = U64Spec k ∧ Below w.heap.size w w' := by
  obtain ⟨s, rfl, A, c, rfl, hc, hA⟩ := hv
  have hA1 := hA.step ((Below.refl _ _).alloc (Nat.le_refl _) (.cells #[.slice A (digs 4294967296 k).length c] 26))
  have hb := (Below.refl w.heap.size w).alloc (Nat.le_refl _) (.cells #[.slice A (digs 4294967296 k).length c] 26)
  unfold U64Spec
  by_cases h2 : k < 18446744073709551616
  · rw [if_pos h2]
    by_cases h0 : k = 0
    · subst h0
      rw [digs_zero] at *
      simp only [List.length_nil] at *
      go_enter Tryd.func31, Tryd.ntmps31
      go_wp2
      refine wp_loop_rounds 1 ?_
      rw [rounds_succ]
      go_wp2
      go_ret2
      exact ⟨rfl, hb⟩
    · by_cases h1 : k < 4294967296
      · rw [digs_one (by omega) h1] at *
        simp only [List.length_cons, List.length_nil, Nat.zero_add] at *
        obtain ⟨g, rfl, _, hcell⟩ := hA1.2 0 (by omega)
        have hc0 : (w.alloc (.cells #[.slice (some ⟨g, 0, none⟩) 1 c] 26)).cell? ⟨g, 0, none⟩ = some (.int .u32 k) := hcell
        have hj := u64_zero (k : Int) (by omega)
        clear hA1 hA hcell
        go_enter Tryd.func31, Tryd.ntmps31
        go_wp2
        refine wp_loop_rounds 2 ?_
        rw [rounds_succ]
        go_wp2
        rw [rounds_succ]
        go_wp2
        go_ret2
        exact ⟨rfl, hb⟩
      · obtain ⟨a, b, rfl, hab⟩ : ∃ a b, k = a + b * 4294967296 ∧ a < 4294967296 ∧ b < 4294967296 ∧ 0 < b := ⟨k % 4294967296, k / 4294967296, by omega, by omega, by omega, by omega⟩
        rw [digs_ab hab.1 hab.2.2 hab.2.1] at *
        simp only [List.length_cons, List.length_nil, Nat.zero_add, Nat.reduceAdd] at *
        obtain ⟨g, rfl, _, hcell⟩ := hA1.2 0 (by omega)
        obtain ⟨g2, hg2, _, hcell2⟩ := hA1.2 1 (by omega)
        obtain rfl : g = g2 := by simpa using hg2
        have hc0 : (w.alloc (.cells #[.slice (some ⟨g, 0, none⟩) 2 c] 26)).cell? ⟨g, 0, none⟩ = some (.int .u32 a) := hcell
        have hc1 : (w.alloc (.cells #[.slice (some ⟨g, 0, none⟩) 2 c] 26)).cell? ⟨g, 1, none⟩ = some (.int .u32 b) := hcell2
        have hj := u64_zero (a : Int) (by omega)
        have hj2 := u64_join (a : Int) (b : Int) (by omega) (by omega)
        clear hA1 hA hcell hcell2 hg2
        go_enter Tryd.func31, Tryd.ntmps31
        go_wp2
        refine wp_loop_rounds 3 ?_
        rw [rounds_succ]
        go_wp2
        rw [rounds_succ]
        go_wp2
        rw [rounds_succ]
        go_wp2
        go_ret2
        refine ⟨?_, hb⟩
        rw [Int.natCast_add, Int.natCast_mul]
        rfl
  · rw [if_neg h2]
    have hm := digs_more (k := k) (by omega)
    go_enter Tryd.func31, Tryd.ntmps31
    go_wp2
    go_ret2
    exact ⟨rfl, hb⟩

theorem bitLenAux_le : ∀ (f x : Nat), Lib.bitLenAux f x ≤ f
  | 0, x => by simp [Lib.bitLenAux]
  | f + 1, x => by
    unfold Lib.bitLenAux
    have := bitLenAux_le f (x / 2)
    split <;> omega
theorem bitLen_le (x : Nat) : Lib.bitLen x ≤ 64 := bitLenAux_le 64 x
/-- How many binary digits a number has. -/
def bitsOf (k : Nat) : Nat := ((digs 4294967296 k).length - 1) * 32 + Lib.bitLen ((digs 4294967296 k).getLast?.getD 0)
set_option maxRecDepth 100000 in
set_option maxHeartbeats 2000000 in
theorem natBits_any {v : Value} {k : Nat} {w : World} (hlen : (digs 4294967296 k).length ≤ 1000000) (hv : IsNat w v k) :
    Calls Tryd.prog 35 #[v] w fun e w' => e = .returned (.int .i64 (if k = 0 then 0 else (bitsOf k : Int))) ∧ Below w.heap.size w w' := by
  obtain ⟨s, rfl, A, c, rfl, hc, hA⟩ := hv
  have hb := (Below.refl w.heap.size w).alloc (Nat.le_refl _) (.cells #[.slice A (digs 4294967296 k).length c] 26)
  have hA1 := hA.step hb
  have hz := isZero_any (w := w.alloc (.cells #[.slice A (digs 4294967296 k).length c] 26)) hlen ⟨_, rfl, A, c, rfl, hc, hA1⟩
  have hone := One.new w (.slice A (digs 4294967296 k).length c) 26
  by_cases h0 : k = 0
  · rw [decide_eq_true h0] at hz
    rw [if_pos h0]
    clear h0
    go_enter Tryd.func35, Tryd.ntmps35
    go_wp2_with fail
    refine hz.mono ?_
    rintro e w1 ⟨rfl, hb1⟩
    go_wp2_with fail
    go_ret
    exact ⟨rfl, hb.trans (hb1.mono (by simp))⟩
  · rw [decide_eq_false h0] at hz
    rw [if_neg h0]
    have hlp : 0 < (digs 4294967296 k).length := by rw [digs_pos 4294967296 k (by omega) (by omega)]; simp
    obtain ⟨n, hn⟩ : ∃ n, (digs 4294967296 k).length = n + 1 := ⟨_, (Nat.sub_add_cancel hlp).symm⟩
    obtain ⟨x, hx⟩ : ∃ x, (digs 4294967296 k).getD n 0 = x := ⟨_, rfl⟩
    have hx1 : x < 4294967296 := by rw [← hx]; exact getD_lt (digs_lt (by omega) k) n (by omega)
    have hbo : Hid (bitsOf k = n * 32 + Lib.bitLen x) := by
      unfold Hid bitsOf
      rw [hn, ← hx, List.getLast?_eq_getElem?, hn]
      rfl
    have hlb : Lib.bitLen x ≤ 64 := bitLen_le x
    obtain ⟨g, hg, _, hcell⟩ := hA1.2 n (by omega)
    have hcx : u32f (digs 4294967296 k) n = .int .u32 x := by unfold u32f; rw [hx]
    rw [hcx] at hcell
    rw [hn] at hz hone hcell hb hlen
    subst hg
    clear hx hcx hA1 hA hc
    go_enter Tryd.func35, Tryd.ntmps35
    rw [hn]
    go_wp2_with fail
    refine hz.mono ?_
    rintro e w1 ⟨rfl, hb1⟩
    have hone1 := (hone.step hb1).cell
    have hcell1 : w1.cell? ⟨g, n, none⟩ = some (.int .u32 x) := (hb1.cell (p := ⟨g, n, none⟩) (by
      have := hcell
      rcases Nat.lt_or_ge g (w.alloc (.cells #[.slice (some ⟨g, 0, none⟩) (n + 1) c] 26)).heap.size with h | h
      · exact h
      · simp [World.cell?, Array.getElem?_eq_none h] at this)).trans hcell
    have hLen := Tryd.bits_Len32 (x : Int) w1 (by omega) (by omega)
    rw [Int.toNat_natCast] at hLen
    clear hone hcell
    go_wp2_with fail
    refine hLen.mono ?_
    rintro e w2 ⟨rfl, rfl⟩
    go_wp2_with fail
    go_ret
    refine ⟨?_, hb.trans (hb1.mono (by simp))⟩
    rw [hbo.out, Int.natCast_add, Int.natCast_mul]
    rfl
end Go.Proofs.YtapblmbjbpkieaaDoor
