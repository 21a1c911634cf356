/- Contracts of the reference's functions on numbers (layer 1): without. Contracts of the reference's functions on numbers (layer 1): times, Of. -/
import Derived.Test.YtapblmbjbpkieaaDoorMem
import Derived.Outline
namespace Go.Proofs.YtapblmbjbpkieaaDoor
open Go.RowKit

theorem strip_take_zero (ds : List Nat) (k : Nat) (hk : k ≤ ds.length) (h0 : 0 < k) (hx : ds.getD (k - 1) 0 = 0) : strip (ds.take (k - 1)) = strip (ds.take k) := by
  obtain ⟨j, rfl⟩ : ∃ j, k = j + 1 := ⟨k - 1, by omega⟩
  simp only [Nat.add_sub_cancel] at *
  rw [take_snoc ds j (by omega), hx, strip_zero]
theorem strip_take_pos (ds : List Nat) (k : Nat) (hk : k ≤ ds.length) (h0 : 0 < k) (hx : ds.getD (k - 1) 0 ≠ 0) : strip (ds.take k) = ds.take k := by
  obtain ⟨j, rfl⟩ : ∃ j, k = j + 1 := ⟨k - 1, by omega⟩
  simp only [Nat.add_sub_cancel] at *
  rw [take_snoc ds j (by omega), strip_pos _ _ hx]

set_option maxHeartbeats 400000 in
theorem without_any {v : Value} {ds : List Nat} {w : World} (hlen : ds.length ≤ 2000000000000) (hv : LI w v ds) :
    Calls Tryd.prog 52 #[v] w (NewI w (strip ds)) := by
  obtain ⟨A, c, rfl, hc, hA⟩ := hv
  obtain ⟨i0, hi, hz0, hz1, hz2⟩ := info_parts infoInt
  have fin : ∀ (k : Nat) (hk : k ≤ ds.length) (hs : strip ds = ds.take k) (v' : Value) (w' : World), w'.ownsRow w.heap.size 3 1 v' (0 + k) ([] ++ vals (i64f ds) k) → (w.alloc (.cells #[] 3)).grownBy w' (some w.heap.size) → NewI w (strip ds) (.returned v') w' := by
    intro k hk hs v' w' h1 h2
    refine ⟨v', rfl, ?_, ((Below.refl _ _).alloc (Nat.le_refl _) _).grown h2 (by simp) (by simp)⟩
    rw [hs]
    refine own_vals_I (base := w.heap.size) (e := 3) (n := k) (by simp; omega) ?_
    rw [vals_same fun i hi => i64f_take ds k i hi]
    simpa using h1
  go_enter Tryd.func52, Tryd.ntmps52
  go_wp2
  go_loop [0] (fun v => ∃ k : Nat, k ≤ ds.length ∧ v = .slice A k c ∧ strip ds = strip (ds.take k)) (fun v => match v with | .slice _ k _ => k | _ => 0)
  case atStart => exact ⟨_, Nat.le_refl _, rfl, by rw [List.take_length]⟩
  case round =>
    obtain ⟨k, hk, rfl, hs⟩ := hrel
    have HS := Lib.hid hs
    clear hs
    have hA1 := (hA.less hk).below ((Below.refl _ w).alloc (Nat.le_refl _) (.cells #[] 3))
    by_cases h0 : 0 < k
    · obtain ⟨a, rfl, hab, hcell⟩ := hA (k - 1) (by omega)
      by_cases hx0 : ds.getD (k - 1) 0 = 0
      · have hcell' : w.cell? (a.add (k - 1)) = some (.int .i64 0) := by rw [hcell]; unfold i64f; rw [hx0]; rfl
        have hst := Lib.hid (strip_take_zero ds k hk h0 hx0)
        clear hcell hx0 hA1 fin
        go_wp2
        exact ⟨⟨k - 1, by omega, rfl, by rw [HS.out, hst.out]⟩, by simp; omega⟩
      · obtain ⟨x, hx⟩ : ∃ x : Nat, x = ds.getD (k - 1) 0 := ⟨_, rfl⟩
        have hcell' : w.cell? (a.add (k - 1)) = some (.int .i64 x) := by rw [hcell, hx]; rfl
        have hb : ((x : Int) == 0) = false := by simp; omega
        have hst := Lib.hid (strip_take_pos ds k hk h0 hx0)
        clear hcell hx0 hx
        go_wp2_with (at_builtin; refine wpList_append_cells _ rfl (.tmp 20) (.tmp 21) _ _ rfl w.heap.size 3 3 i0 _ 8 Tryd.underlying28 Tryd.underlying27 hi hz0 hz1 hz2 rfl _ 0 [] rfl (own_empty w 3) w.heap.size (some a) k c (i64f ds) rfl hA1 (fun _ _ => rfl) (by simp [maxLen]; omega) (by omega) (by simp) ?_; intro v' w1 hown1 hgrow1 _; have hf := Lib.hid (fin k hk (HS.out.trans hst.out) v' w1 hown1 hgrow1); clear fin hown1 hgrow1)
        go_ret
        exact hf.out
    · obtain rfl : k = 0 := by omega
      go_wp2_with (at_builtin; refine wpList_append_cells _ rfl (.tmp 20) (.tmp 21) _ _ rfl w.heap.size 3 3 i0 _ 8 Tryd.underlying28 Tryd.underlying27 hi hz0 hz1 hz2 rfl _ 0 [] rfl (own_empty w 3) w.heap.size A 0 c (i64f ds) rfl hA1 (fun _ _ => rfl) (by simp [maxLen]) (by omega) (by simp) ?_; intro v' w1 hown1 hgrow1 _; have hf := Lib.hid (fin 0 hk HS.out v' w1 hown1 hgrow1); clear fin hown1 hgrow1)
      go_ret
      exact hf.out

theorem digits_step (b c d o i rest v : Nat) (h : o + b ^ i * (c + (d + b * rest)) = v) : (o + b ^ i * ((c + d) % b)) + b ^ (i + 1) * ((c + d) / b + rest) = v := by
  rw [← h, Nat.pow_succ, Nat.mul_assoc, ← Nat.add_assoc c d, Nat.mul_add b, Nat.add_assoc o, ← Nat.mul_add, ← Nat.add_assoc, Nat.mod_add_div]
theorem drop_cons (ds : List Nat) (i : Nat) (h : i < ds.length) : ds.drop i = ds.getD i 0 :: ds.drop (i + 1) := by
  rw [List.drop_eq_getElem_cons h]; simp [List.getD, h]

/-- What holds at the head of carried's loop. -/
def CarryRel (w : World) (ds : List Nat) (i c : Nat) (os : List Nat) (v : Value) (wr : World) : Prop :=
  OwnI w.heap.size wr v os ∧ os.length = i ∧ (∀ d ∈ os, d < 1000000) ∧ val 1000000 os + 1000000 ^ i * (c + val 1000000 (ds.drop i)) = val 1000000 ds ∧ Below w.heap.size w wr ∧ w.heap.size ≤ wr.heap.size
theorem carry_in {w : World} {ds : List Nat} {i c : Nat} {os : List Nat} {v : Value} {wr : World} (h : CarryRel w ds i c os v wr) (hi : i < ds.length) {v' : Value} {w' : World}
    (h1 : OwnI w.heap.size w' v' (os ++ [(c + ds.getD i 0) % 1000000])) (h2 : Below w.heap.size w w') (h3 : w.heap.size ≤ w'.heap.size) :
    CarryRel w ds (i + 1) ((c + ds.getD i 0) / 1000000) (os ++ [(c + ds.getD i 0) % 1000000]) v' w' := by
  obtain ⟨_, g2, g3, g4, _, _⟩ := h
  refine ⟨h1, by simp [g2], ?_, ?_, h2, h3⟩
  · intro d hd
    rcases List.mem_append.1 hd with hd | hd
    · exact g3 d hd
    · rw [List.mem_singleton.1 hd]; exact Nat.mod_lt _ (by omega)
  · rw [val_snoc, g2]
    rw [drop_cons ds i hi] at g4
    exact digits_step _ _ _ _ _ _ _ g4
theorem carry_out {w : World} {ds : List Nat} {i c : Nat} {os : List Nat} {v : Value} {wr : World} (h : CarryRel w ds i c os v wr) (hi : ds.length ≤ i) {v' : Value} {w' : World}
    (h1 : OwnI w.heap.size w' v' (os ++ [c % 1000000])) (h2 : Below w.heap.size w w') (h3 : w.heap.size ≤ w'.heap.size) :
    CarryRel w ds (i + 1) (c / 1000000) (os ++ [c % 1000000]) v' w' := by
  obtain ⟨_, g2, g3, g4, _, _⟩ := h
  refine ⟨h1, by simp [g2], ?_, ?_, h2, h3⟩
  · intro d hd
    rcases List.mem_append.1 hd with hd | hd
    · exact g3 d hd
    · rw [List.mem_singleton.1 hd]; exact Nat.mod_lt _ (by omega)
  · rw [val_snoc, g2]
    rw [List.drop_of_length_le (by omega)] at g4 ⊢
    have := digits_step 1000000 c 0 (val 1000000 os) i 0 (val 1000000 ds) (by simpa [val] using g4)
    simpa [val] using this
theorem carry_end {w : World} {ds : List Nat} {i : Nat} {os : List Nat} {v : Value} {wr : World} (h : CarryRel w ds i 0 os v wr) (hi : ds.length ≤ i) : strip os = digs 1000000 (val 1000000 ds) := by
  obtain ⟨_, _, g3, g4, _, _⟩ := h
  rw [List.drop_of_length_le (by omega)] at g4
  rw [strip_digs (b := 1000000) (by omega) os g3]
  simp [val] at g4
  rw [g4]

set_option maxRecDepth 100000 in
set_option maxHeartbeats 800000 in
theorem carried_any {v : Value} {ds : List Nat} {w : World} (hlen : ds.length ≤ 1000000) (hd : ∀ d ∈ ds, d ≤ 100000000000000000) (hv : LI w v ds) :
    Calls Tryd.prog 55 #[v] w (NewI w (digs 1000000 (val 1000000 ds))) := by
  obtain ⟨A, cp, rfl, hcp, hA⟩ := hv
  obtain ⟨i0, hi, hz0, hz1, hz2⟩ := info_parts infoInt
  go_enter Tryd.func55, Tryd.ntmps55
  go_wp2
  go_loopw [3, 4, 5] (fun v c i wr => ∃ (ni nc : Nat) (os : List Nat), i = .int .i64 ni ∧ c = .int .i64 nc ∧ nc ≤ 1000000000000 ∧ (ni ≤ ds.length ∨ ni - ds.length + nc ≤ 1000000000000) ∧ CarryRel w ds ni nc os v wr)
    (fun _ c i _ => (ds.length - (intOf i).toNat) * 1000000000000000000 + (intOf c).toNat)
  case atStart => exact ⟨0, 0, [], rfl, rfl, by omega, by omega, OwnI.nil _ _, rfl, by simp, by simp [val], Below.refl _ _, Nat.le_refl _⟩
  case round =>
    obtain ⟨i, c, os, rfl, rfl, hc, hic, hR⟩ := hrel
    have hR1 := hR
    obtain ⟨hown, hos, -, -, hbw, hsz⟩ := hR1
    have hos' : i ≤ os.length := by omega
    have hos'' : os.length ≤ i := by omega
    clear hos
    by_cases hlt : i < ds.length
    · obtain ⟨a, rfl, hab, hcell⟩ := hA i hlt
      have hdi : ds.getD i 0 ≤ 100000000000000000 := by
        rw [List.getD, List.getElem?_eq_getElem hlt]; exact hd _ (List.getElem_mem hlt)
      have key := fun v' w' h1 h2 h3 => carry_in hR hlt (v' := v') (w' := w') h1 h2 h3
      have Key := Lib.hid key
      clear key
      obtain ⟨x, hx⟩ : ∃ x : Nat, x = ds.getD i 0 := ⟨_, rfl⟩
      rw [← hx] at hdi Key
      have hcell' : wr.cell? (a.add i) = some (.int .i64 x) := by rw [hbw.cell (by rw [add_block]; exact hab), hcell, hx]; rfl
      clear hcell hd
      have hx' := Lib.hid hx
      clear hx
      go_wp2_with (at_builtin; go_loud (refine wpList_append_I rfl (.tmp 26) (.tmp 29) _ _ rfl Tryd.underlying27 Tryd.underlying27 w.heap.size _ os rfl hown ((c + x) % 1000000) _ (by unfold encI; go_num) rfl (by omega) w hbw hsz ?_; intro v' w1 hown1 hb1 hs1))
      go_roundw
      case rel => exact ⟨i + 1, (c + x) / 1000000, os ++ [(c + x) % 1000000], by go_num, by go_num, by omega, by omega, Key.out _ _ hown1.out hb1.out hs1.out⟩
      case measure => simp [intOf]; omega
    · by_cases hc0 : 0 < c
      · have Key := Lib.hid (fun v' w' h1 h2 h3 => carry_out hR (Nat.le_of_not_lt hlt) (v' := v') (w' := w') h1 h2 h3)
        go_wp2_with (at_builtin; go_loud (refine wpList_append_I rfl (.tmp 26) (.tmp 29) _ _ rfl Tryd.underlying27 Tryd.underlying27 w.heap.size _ os rfl hown (c % 1000000) _ (by unfold encI; go_num) rfl (by omega) w hbw hsz ?_; intro v' w1 hown1 hb1 hs1))
        go_roundw
        case rel => exact ⟨i + 1, c / 1000000, os ++ [c % 1000000], by go_num, by go_num, by omega, by omega, Key.out _ _ hown1.out hb1.out hs1.out⟩
        case measure => simp [intOf]; omega
      · obtain rfl : c = 0 := by omega
        have he := Lib.hid (carry_end hR (Nat.le_of_not_lt hlt))
        go_wp2_with (go_at_call 52; refine (without_any (by omega) hown.reads).mono ?_; rintro e w1 ⟨v1, rfl, hv1, hb1⟩)
        go_ret
        exact ⟨v1, rfl, by rw [← he.out]; exact hv1, hbw.trans (hb1.mono hsz)⟩
end Go.Proofs.YtapblmbjbpkieaaDoor

namespace Go.Proofs.YtapblmbjbpkieaaDoor
open Go.RowKit

theorem val_mul (b m : Nat) (ds : List Nat) : val b (ds.map (· * m)) = val b ds * m := by
  induction ds with
  | nil => simp [val]
  | cons d ds ih => simp only [List.map_cons, val, ih, Nat.add_mul, Nat.mul_assoc]
theorem map_take_snoc (g : Nat → Nat) (ds : List Nat) (k : Nat) (h : k < ds.length) : (ds.take (k + 1)).map g = (ds.take k).map g ++ [g (ds.getD k 0)] := by
  rw [take_snoc ds k h]; simp

set_option maxRecDepth 100000 in
set_option maxHeartbeats 800000 in
theorem times_any {v : Value} {ds : List Nat} (m : Int) {w : World} (hlen : ds.length ≤ 1000000) (hd : ∀ d ∈ ds, d < 1000000) (h0 : 0 ≤ m) (hm : m ≤ 4294967296) (hv : LI w v ds) :
    Calls Tryd.prog 59 #[v, .int .i64 m] w (NewI w (digs 1000000 (val 1000000 ds * m.toNat))) := by
  obtain ⟨m, rfl⟩ := Int.eq_ofNat_of_zero_le h0
  rw [Int.toNat_natCast]
  have hm' : m ≤ 4294967296 := by omega
  have hall : ∀ d ∈ ds.map (· * m), d ≤ 100000000000000000 := by
    intro d hdd
    obtain ⟨x, hx, rfl⟩ := List.mem_map.1 hdd
    have h1 : x ≤ 1000000 := Nat.le_of_lt (hd x hx)
    exact Nat.le_trans (Nat.mul_le_mul h1 hm') (by omega)
  have HA := Lib.hid hall
  clear hall
  obtain ⟨A, cp, rfl, hcp, hA⟩ := hv
  go_enter Tryd.func59, Tryd.ntmps59
  go_wp2
  go_loopw [5, 6] (fun v i wr => ∃ (ni : Nat) (os : List Nat), i = .int .i64 ni ∧ ni ≤ ds.length ∧ os.length ≤ ni ∧ os = (ds.take ni).map (· * m) ∧ OwnI w.heap.size wr v os ∧ Below w.heap.size w wr)
    (fun _ i _ => ds.length - (intOf i).toNat)
  case atStart => exact ⟨0, [], rfl, by omega, by simp, rfl, OwnI.nil _ _, Below.refl _ _⟩
  case round =>
    obtain ⟨i, os, rfl, hil, hol, hos, hown, hbw⟩ := hrel
    have HOS := Lib.hid hos
    clear hos
    have hsz := hbw.size
    by_cases hlt : i < ds.length
    · obtain ⟨a, rfl, hab, hcell⟩ := hA i hlt
      obtain ⟨x, hx⟩ : ∃ x : Nat, x = ds.getD i 0 := ⟨_, rfl⟩
      have hx1 : x < 1000000 := by rw [hx, List.getD, List.getElem?_eq_getElem hlt]; exact hd _ (List.getElem_mem hlt)
      have hcell' : wr.cell? (a.add i) = some (.int .i64 x) := by rw [hbw.cell (by rw [add_block]; exact hab), hcell, hx]; rfl
      have hst := Lib.hid (map_take_snoc (· * m) ds i hlt)
      rw [← hx] at hst
      clear hcell hx hd
      have hp1 : 0 ≤ (x : Int) * (m : Int) := by rw [← Int.natCast_mul]; omega
      have hp2 : (x : Int) * (m : Int) ≤ 4294967296000000 := by
        have h : x * m ≤ 1000000 * 4294967296 := Nat.mul_le_mul (by omega) hm'
        rw [← Int.natCast_mul]
        omega
      go_wp2_with (at_builtin; go_loud (refine wpList_append_I rfl (.tmp 13) (.tmp 20) _ _ rfl Tryd.underlying27 Tryd.underlying27 w.heap.size _ os rfl hown (x * m) _ (by unfold encI; rw [Int.natCast_mul]) rfl (by omega) w hbw hsz ?_; intro v' w1 hown1 hb1 hs1))
      go_roundw
      case rel => exact ⟨i + 1, os ++ [x * m], by go_num, by omega, by simp; omega, by rw [hst.out, HOS.out], hown1.out, hb1.out⟩
      case measure => simp [intOf]; omega
    · have hcall := carried_any (ds := os) (w := wr) (by omega) (by rw [HOS.out]; intro d hdd; exact HA.out d (by rw [List.map_take] at hdd; exact List.mem_of_mem_take hdd)) hown.reads
      have hfin : Hid (digs 1000000 (val 1000000 os) = digs 1000000 (val 1000000 ds * m)) := by
        unfold Hid
        rw [HOS.out, List.take_of_length_le (by omega), val_mul]
      clear hd HA HOS
      go_wp2_with (go_at_call 55; refine hcall.mono ?_; rintro e w1 ⟨v1, rfl, hv1, hb1⟩)
      go_ret
      exact ⟨v1, rfl, by rw [← hfin.out]; exact hv1, hbw.trans (hb1.mono hsz)⟩

theorem all_snoc {b : Nat} {os : List Nat} {x : Nat} (h : ∀ d ∈ os, d < b) (hx : x < b) : ∀ d ∈ os ++ [x], d < b := by
  intro d hd
  rcases List.mem_append.1 hd with hd | hd
  · exact h d hd
  · rw [List.mem_singleton.1 hd]; exact hx
theorem pow_len (v i k n : Nat) (h : v + 1000000 ^ i * k = n) (hn : n < 18446744073709551616) (hk : 0 < k) : i < 4 := by
  rcases Nat.lt_or_ge i 4 with h4 | h4
  · exact h4
  · have h1 : 1000000 ^ 4 ≤ 1000000 ^ i := Nat.pow_le_pow_right (by omega) h4
    have h2 : 1000000 ^ i * 1 ≤ 1000000 ^ i * k := Nat.mul_le_mul_left _ hk
    omega

set_option maxRecDepth 100000 in
set_option maxHeartbeats 800000 in
theorem refOf_any (n : Int) {w : World} (h0 : 0 ≤ n) (hn : n < 18446744073709551616) :
    Calls Tryd.prog 34 #[.int .u64 n] w (NewI w (digs 1000000 n.toNat)) := by
  obtain ⟨n, rfl⟩ := Int.eq_ofNat_of_zero_le h0
  rw [Int.toNat_natCast]
  have hn' : n < 18446744073709551616 := by omega
  go_enter Tryd.func34, Tryd.ntmps34
  go_wp2
  go_loopw [0, 3] (fun k v wr => ∃ (nk : Nat) (os : List Nat), k = .int .u64 nk ∧ nk ≤ n ∧ os.length ≤ 4 ∧ (∀ d ∈ os, d < 1000000) ∧ val 1000000 os + 1000000 ^ os.length * nk = n ∧ OwnI w.heap.size wr v os ∧ Below w.heap.size w wr)
    (fun k _ _ => (intOf k).toNat)
  case atStart => exact ⟨n, [], rfl, by omega, by simp, by simp, by simp [val], OwnI.nil _ _, Below.refl _ _⟩
  case round =>
    obtain ⟨k, os, rfl, hk, hol, hd, hval, hown, hbw⟩ := hrel
    have HD := Lib.hid hd
    have HV := Lib.hid hval
    clear hd hval
    have hsz := hbw.size
    by_cases hk0 : 0 < k
    · have hlt := pow_len _ _ _ _ HV.out hn' hk0
      have hnext : Hid (val 1000000 (os ++ [k % 1000000]) + 1000000 ^ (os ++ [k % 1000000]).length * (k / 1000000) = n) := by
        unfold Hid
        rw [val_snoc, List.length_append, List.length_singleton]
        have := digits_step 1000000 k 0 (val 1000000 os) os.length 0 n (by simpa using HV.out)
        simpa using this
      go_wp2_with (at_builtin; go_loud (refine wpList_append_I rfl (.tmp 6) (.tmp 10) _ _ rfl Tryd.underlying27 Tryd.underlying27 w.heap.size _ os rfl hown (k % 1000000) _ (by unfold encI; go_num) rfl (by omega) w hbw hsz ?_; intro v' w1 hown1 hb1 hs1))
      go_roundw
      case rel => exact ⟨k / 1000000, os ++ [k % 1000000], by go_num, by omega, by simp; omega, all_snoc HD.out (Nat.mod_lt _ (by omega)), hnext.out, hown1.out, hb1.out⟩
      case measure => simp [intOf]; omega
    · obtain rfl : k = 0 := by omega
      have hfin : Hid (strip os = digs 1000000 n) := by
        unfold Hid
        rw [strip_digs (b := 1000000) (by omega) os HD.out]
        have := HV.out
        simp at this
        rw [this]
      go_wp2_with (go_at_call 52; refine (without_any (by omega) hown.reads).mono ?_; rintro e w1 ⟨v1, rfl, hv1, hb1⟩)
      go_ret
      exact ⟨v1, rfl, by rw [← hfin.out]; exact hv1, hbw.trans (hb1.mono hsz)⟩
end Go.Proofs.YtapblmbjbpkieaaDoor
