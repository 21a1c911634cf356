/- Contract of the reference's Make. -/
import Derived.Test.YtdbhlmifioccgaaDoorText
import Derived.Deep.RegionWith
import Derived.IntWalk
namespace Go.Proofs.YtdbhlmifioccgaaDoor
open Go.RowKit

/-- A slice that came in and reads as digits. -/
def LA (w : World) (v : Value) (ds : List Nat) : Prop := ∃ A c, v = .slice A ds.length c ∧ Cells w w.heap.size A ds.length (u32f ds)
theorem LA.below {w w' : World} {v : Value} {ds : List Nat} (h : LA w v ds) (hb : Below w.heap.size w w') : LA w' v ds := by
  obtain ⟨A, c, h1, h3⟩ := h
  exact ⟨A, c, h1, h3.step hb hb.size⟩
theorem digs6_len {k n : Nat} (h : k < 4294967296 ^ n) : (digs 1000000 k).length ≤ 2 * n := by
  refine digs_len (by omega) (Nat.lt_of_lt_of_le h ?_)
  rw [Nat.pow_mul]
  exact Nat.pow_le_pow_left (by omega) n

/-- times, Of and Add on numbers. -/
theorem times_num {v : Value} {k : Nat} {w : World} (hlen : (digs 1000000 k).length ≤ 1000000) (m : Int) (h0 : 0 ≤ m) (hm : m ≤ 4294967296) (hv : LI w v (digs 1000000 k)) :
    Calls Tryd.prog 59 #[v, .int .i64 m] w (NewI w (digs 1000000 (k * m.toNat))) := by
  have := times_any m hlen (digs_lt (by omega) k) h0 hm hv
  rw [val_digs (by omega)] at this
  exact this
theorem refAdd_num {u v : Value} {x y : Nat} {w : World} (hx : (digs 1000000 x).length ≤ 100000) (hy : (digs 1000000 y).length ≤ 100000) (hu : LI w u (digs 1000000 x)) (hv : LI w v (digs 1000000 y)) :
    Calls Tryd.prog 23 #[u, v] w (NewI w (digs 1000000 (x + y))) := by
  have := refAdd_any hx hy (digs_lt (by omega) x) (digs_lt (by omega) y) hu hv
  rw [val_digs (by omega), val_digs (by omega)] at this
  exact this
theorem LI.drewN {w : World} {v : Value} {ds : List Nat} (h : LI w v ds) (k : Nat) : LI (w.drewN k) v ds := h
theorem LI.drew {w : World} {v : Value} {ds : List Nat} (h : LI w v ds) : LI w.drew v ds := h

set_option maxRecDepth 100000 in
set_option maxHeartbeats 2000000 in
theorem make_any {v : Value} {ds : List Nat} {w : World} (hlen : ds.length ≤ 12) (hd : ∀ d ∈ ds, d < 4294967296) (hv : LA w v ds) :
    Calls Tryd.prog 38 #[v] w (NewI w (digs 1000000 (val 4294967296 ds))) := by
  obtain ⟨A, c, rfl, hA⟩ := hv
  have HD := Lib.hid hd
  clear hd
  go_enter Tryd.func38, Tryd.ntmps38
  go_wp2
  have hst : LI (w.alloc (.cells #[] 3)) (.slice (some ⟨w.heap.size, 0, none⟩) 0 0) [] := ⟨_, 0, rfl, Nat.le_refl _, Cells.zero⟩
  go_loopw [3, 4] (fun o i wr => ∃ (ni k : Nat), i = .int .i64 ni ∧ ni ≤ ds.length ∧ k = val 4294967296 (ds.drop (ds.length - ni)) ∧ LI wr o (digs 1000000 k) ∧ Below w.heap.size w wr) (fun _ i _ => ds.length - (intOf i).toNat)
  case atStart => exact ⟨0, 0, rfl, by omega, by simp [val], by rw [digs_zero]; exact hst, (Below.refl _ _).alloc (Nat.le_refl _) _⟩
  case round =>
    obtain ⟨i, k, rfl, hi, hk, hL, hbw⟩ := hrel
    by_cases hlt : i < ds.length
    · obtain ⟨a, rfl, hab, hcell⟩ := hA (ds.length - 1 - i) (by omega)
      obtain ⟨d, hdd⟩ : ∃ d : Nat, d = ds.getD (ds.length - 1 - i) 0 := ⟨_, rfl⟩
      have hd1 : d < 4294967296 := by rw [hdd]; exact getD_lt HD.out _ (by omega)
      have hdr : val 4294967296 (ds.drop (ds.length - (i + 1))) = k * 4294967296 + d := by
        rw [show ds.length - (i + 1) = ds.length - 1 - i by omega, drop_cons ds (ds.length - 1 - i) (by omega), show ds.length - 1 - i + 1 = ds.length - i by omega, hk, hdd]
        simp only [val]
        omega
      have hkl : k < 4294967296 ^ 12 := by
        have h1 := val_lt (b := 4294967296) (ds.drop (ds.length - i)) (fun d hd => HD.out d (List.mem_of_mem_drop hd))
        rw [← hk] at h1
        exact Nat.lt_of_lt_of_le h1 (Nat.pow_le_pow_right (by omega) (by rw [List.length_drop]; omega))
      have hk6 : (digs 1000000 k).length ≤ 24 := digs6_len hkl
      have hkk6 : (digs 1000000 (k * 4294967296)).length ≤ 26 := digs6_len (n := 13) (by rw [Nat.pow_succ]; exact Nat.mul_lt_mul_of_pos_right hkl (by omega))
      have hd6 : (digs 1000000 d).length ≤ 2 := digs6_len (n := 1) (by omega)
      have hcell' : wr.cell? (a.add (ds.length - 1 - i)) = some (.int .u32 d) := by rw [hbw.cell (by rw [add_block]; exact hab), hcell, hdd]; rfl
      have hsz := hbw.size
      have Hcell : ∀ W : World, Below wr.heap.size wr W → W.cell? (a.add (ds.length - 1 - i)) = some (.int .u32 d) := fun W hb => (hb.cell (by rw [add_block]; omega)).trans hcell'
      have HDR := Lib.hid hdr
      have HCELL := Lib.hid Hcell
      have HL := Lib.hid (fun W hb => LI.below (w' := W) hL hb)
      clear hdr hk hdd hcell hkl Hcell hL
      have hix : ((ds.length : Int) - 1 - (i : Int)) = ((ds.length - 1 - i : Nat) : Int) := by omega
      have hAdd := Lib.hid (fun (u v : Value) (W : World) hu hv => refAdd_num (x := k * 4294967296) (y := d) (u := u) (v := v) (w := W) (by omega) (by omega) hu hv)
      have hcd : wr.drew.cell? (a.add (ds.length - 1 - i)) = some (.int .u32 d) := hcell'
      have hb0 : 0 ≤ (ds.length : Int) - 1 - (i : Int) := by omega
      have hb1 : (ds.length : Int) - 1 - (i : Int) < ds.length := by omega
      have he1 : IntKind.i64.wrap ((ds.length : Int) - 1) = (ds.length : Int) - 1 := IntWalk.i64_in _ (by omega)
      have he2 : IntKind.i64.wrap ((ds.length : Int) - 1 - (i : Int)) = (ds.length : Int) - 1 - (i : Int) := IntWalk.i64_in _ (by omega)
      have he3 : ((ds.length : Int) - 1 - (i : Int)).toNat = ds.length - 1 - i := by omega
      have he4 : IntKind.u64.wrap (d : Int) = (d : Int) := IntWalk.u64_in _ (by omega)
      clear hix
      go_wp2_with fail
      go_region_with (first
        | (go_at_call 59; refine (times_num (by omega) 4294967296 (by omega) (by omega) (HL.out _ ?_)).mono ?_; (first | exact (Below.refl _ _).drew | exact hbO'); rintro e wT ⟨vT, rfl, hvT, hbT⟩; have hbT' : Below wr.heap.size wr wT := (by first | exact (Below.refl _ _).drew.trans hbT | exact hbO'.trans (hbT.mono hbO'.size)); have hcT := HCELL.out wT hbT')
        | (go_at_call 34; refine (refOf_any _ (by omega) (by omega)).mono ?_; rintro e wO ⟨vO, rfl, hvO, hbO⟩; rw [Int.toNat_natCast] at hvO; have hbO' : Below wr.heap.size wr wO := (by first | exact (Below.refl _ _).drew.trans hbO | exact hbT'.trans (hbO.mono hbT'.size)); have hcO := HCELL.out wO hbO')
        | (go_at_call 23; refine (hAdd.out _ _ _ ?_ ?_).mono ?_; (first | exact hvT | exact hvT.below hbO); (first | exact hvO | exact hvO.below hbT); rintro e wA ⟨vA, rfl, hvA, hbA⟩))
      all_goals (try go_wp2)
      all_goals
        go_roundw
        case rel => exact ⟨i + 1, k * 4294967296 + d, by go_num, by omega, HDR.out.symm, hvA, hbw.trans ((by first | exact (hbT'.trans (hbO.mono hbT'.size)).trans (hbA.mono (hbT'.trans (hbO.mono hbT'.size)).size) | exact (hbO'.trans (hbT.mono hbO'.size)).trans (hbA.mono (hbO'.trans (hbT.mono hbO'.size)).size) : Below wr.heap.size wr wA).mono hsz)⟩
        case measure => simp [intOf]; omega
    · obtain rfl : i = ds.length := by omega
      have hk' : Hid (val 4294967296 ds = k) := by
        unfold Hid
        rw [hk, Nat.sub_self]; rfl
      clear hk
      go_wp2
      go_ret
      exact ⟨_, rfl, by rw [hk'.out]; exact hL, hbw⟩
end Go.Proofs.YtdbhlmifioccgaaDoor
