/- Contracts of the reference's functions on numbers (layer 1): times, Of. -/
import Derived.Test.YtdbhlmifioccgaaDoorRefA
namespace Go.Proofs.YtdbhlmifioccgaaDoor
open Go.RowKit

theorem val_mul (b m : Nat) (ds : List Nat) : val b (ds.map (· * m)) = val b ds * m := by
  induction ds with
  | nil => simp [val]
  | cons d ds ih => simp only [List.map_cons, val, ih, Nat.add_mul, Nat.mul_assoc]
theorem map_take_snoc (g : Nat → Nat) (ds : List Nat) (k : Nat) (h : k < ds.length) : (ds.take (k + 1)).map g = (ds.take k).map g ++ [g (ds.getD k 0)] := by
  rw [take_snoc ds k h]; simp

set_option maxRecDepth 100000 in
set_option maxHeartbeats 800000 in
theorem times_any {v : Value} {ds : List Nat} (m : Int) {w : World} (hlen : ds.length ≤ 1000000) (hd : ∀ d ∈ ds, d < 1000000) (h0 : 0 ≤ m) (hm : m ≤ 4294967296) (hv : LI w v ds) :
    Calls Tryd.prog 59 #[v, .int .i64 m] w (NewI w (digs 1000000 (val 1000000 ds * m.toNat))) := by
  obtain ⟨m, rfl⟩ := Int.eq_ofNat_of_zero_le h0
  rw [Int.toNat_natCast]
  have hm' : m ≤ 4294967296 := by omega
  have hall : ∀ d ∈ ds.map (· * m), d ≤ 100000000000000000 := by
    intro d hdd
    obtain ⟨x, hx, rfl⟩ := List.mem_map.1 hdd
    have h1 : x ≤ 1000000 := Nat.le_of_lt (hd x hx)
    exact Nat.le_trans (Nat.mul_le_mul h1 hm') (by omega)
  have HA := Lib.hid hall
  clear hall
  obtain ⟨A, cp, rfl, hcp, hA⟩ := hv
  go_enter Tryd.func59, Tryd.ntmps59
  go_wp2
  go_loopw [5, 6] (fun v i wr => ∃ (ni : Nat) (os : List Nat), i = .int .i64 ni ∧ ni ≤ ds.length ∧ os.length ≤ ni ∧ os = (ds.take ni).map (· * m) ∧ OwnI w.heap.size wr v os ∧ Below w.heap.size w wr)
    (fun _ i _ => ds.length - (intOf i).toNat)
  case atStart => exact ⟨0, [], rfl, by omega, by simp, rfl, OwnI.nil _ _, Below.refl _ _⟩
  case round =>
    obtain ⟨i, os, rfl, hil, hol, hos, hown, hbw⟩ := hrel
    have HOS := Lib.hid hos
    clear hos
    have hsz := hbw.size
    by_cases hlt : i < ds.length
    · obtain ⟨a, rfl, hab, hcell⟩ := hA i hlt
      obtain ⟨x, hx⟩ : ∃ x : Nat, x = ds.getD i 0 := ⟨_, rfl⟩
      have hx1 : x < 1000000 := by rw [hx, List.getD, List.getElem?_eq_getElem hlt]; exact hd _ (List.getElem_mem hlt)
      have hcell' : wr.cell? (a.add i) = some (.int .i64 x) := by rw [hbw.cell (by rw [add_block]; exact hab), hcell, hx]; rfl
      have hst := Lib.hid (map_take_snoc (· * m) ds i hlt)
      rw [← hx] at hst
      clear hcell hx hd
      have hp1 : 0 ≤ (x : Int) * (m : Int) := by rw [← Int.natCast_mul]; omega
      have hp2 : (x : Int) * (m : Int) ≤ 4294967296000000 := by
        have h : x * m ≤ 1000000 * 4294967296 := Nat.mul_le_mul (by omega) hm'
        rw [← Int.natCast_mul]
        omega
      go_wp2_with (at_builtin; go_loud (refine wpList_append_I rfl (.tmp 13) (.tmp 20) _ _ rfl Tryd.underlying27 Tryd.underlying27 w.heap.size _ os rfl hown (x * m) _ (by unfold encI; rw [Int.natCast_mul]) rfl (by omega) w hbw hsz ?_; intro v' w1 hown1 hb1 hs1))
      go_roundw
      case rel => exact ⟨i + 1, os ++ [x * m], by go_num, by omega, by simp; omega, by rw [hst.out, HOS.out], hown1.out, hb1.out⟩
      case measure => simp [intOf]; omega
    · have hcall := carried_any (ds := os) (w := wr) (by omega) (by rw [HOS.out]; intro d hdd; exact HA.out d (by rw [List.map_take] at hdd; exact List.mem_of_mem_take hdd)) hown.reads
      have hfin : Hid (digs 1000000 (val 1000000 os) = digs 1000000 (val 1000000 ds * m)) := by
        unfold Hid
        rw [HOS.out, List.take_of_length_le (by omega), val_mul]
      clear hd HA HOS
      go_wp2_with (go_at_call 55; refine hcall.mono ?_; rintro e w1 ⟨v1, rfl, hv1, hb1⟩)
      go_ret
      exact ⟨v1, rfl, by rw [← hfin.out]; exact hv1, hbw.trans (hb1.mono hsz)⟩

theorem all_snoc {b : Nat} {os : List Nat} {x : Nat} (h : ∀ d ∈ os, d < b) (hx : x < b) : ∀ d ∈ os ++ [x], d < b := by
  intro d hd
  rcases List.mem_append.1 hd with hd | hd
  · exact h d hd
  · rw [List.mem_singleton.1 hd]; exact hx
theorem pow_len (v i k n : Nat) (h : v + 1000000 ^ i * k = n) (hn : n < 18446744073709551616) (hk : 0 < k) : i < 4 := by
  rcases Nat.lt_or_ge i 4 with h4 | h4
  · exact h4
  · have h1 : 1000000 ^ 4 ≤ 1000000 ^ i := Nat.pow_le_pow_right (by omega) h4
    have h2 : 1000000 ^ i * 1 ≤ 1000000 ^ i * k := Nat.mul_le_mul_left _ hk
    omega

set_option maxRecDepth 100000 in
set_option maxHeartbeats 800000 in
theorem refOf_any (n : Int) {w : World} (h0 : 0 ≤ n) (hn : n < 18446744073709551616) :
    Calls Tryd.prog 34 #[.int .u64 n] w (NewI w (digs 1000000 n.toNat)) := by
  obtain ⟨n, rfl⟩ := Int.eq_ofNat_of_zero_le h0
  rw [Int.toNat_natCast]
  have hn' : n < 18446744073709551616 := by omega
  go_enter Tryd.func34, Tryd.ntmps34
  go_wp2
  go_loopw [0, 3] (fun k v wr => ∃ (nk : Nat) (os : List Nat), k = .int .u64 nk ∧ nk ≤ n ∧ os.length ≤ 4 ∧ (∀ d ∈ os, d < 1000000) ∧ val 1000000 os + 1000000 ^ os.length * nk = n ∧ OwnI w.heap.size wr v os ∧ Below w.heap.size w wr)
    (fun k _ _ => (intOf k).toNat)
  case atStart => exact ⟨n, [], rfl, by omega, by simp, by simp, by simp [val], OwnI.nil _ _, Below.refl _ _⟩
  case round =>
    obtain ⟨k, os, rfl, hk, hol, hd, hval, hown, hbw⟩ := hrel
    have HD := Lib.hid hd
    have HV := Lib.hid hval
    clear hd hval
    have hsz := hbw.size
    by_cases hk0 : 0 < k
    · have hlt := pow_len _ _ _ _ HV.out hn' hk0
      have hnext : Hid (val 1000000 (os ++ [k % 1000000]) + 1000000 ^ (os ++ [k % 1000000]).length * (k / 1000000) = n) := by
        unfold Hid
        rw [val_snoc, List.length_append, List.length_singleton]
        have := digits_step 1000000 k 0 (val 1000000 os) os.length 0 n (by simpa using HV.out)
        simpa using this
      go_wp2_with (at_builtin; go_loud (refine wpList_append_I rfl (.tmp 6) (.tmp 10) _ _ rfl Tryd.underlying27 Tryd.underlying27 w.heap.size _ os rfl hown (k % 1000000) _ (by unfold encI; go_num) rfl (by omega) w hbw hsz ?_; intro v' w1 hown1 hb1 hs1))
      go_roundw
      case rel => exact ⟨k / 1000000, os ++ [k % 1000000], by go_num, by omega, by simp; omega, all_snoc HD.out (Nat.mod_lt _ (by omega)), hnext.out, hown1.out, hb1.out⟩
      case measure => simp [intOf]; omega
    · obtain rfl : k = 0 := by omega
      have hfin : Hid (strip os = digs 1000000 n) := by
        unfold Hid
        rw [strip_digs (b := 1000000) (by omega) os HD.out]
        have := HV.out
        simp at this
        rw [this]
      go_wp2_with (go_at_call 52; refine (without_any (by omega) hown.reads).mono ?_; rintro e w1 ⟨v1, rfl, hv1, hb1⟩)
      go_ret
      exact ⟨v1, rfl, by rw [← hfin.out]; exact hv1, hbw.trans (hb1.mono hsz)⟩
end Go.Proofs.YtdbhlmifioccgaaDoor
