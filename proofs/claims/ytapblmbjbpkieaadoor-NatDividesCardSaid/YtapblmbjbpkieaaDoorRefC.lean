/- Contracts of the reference's functions on numbers (layer 1): Add. -/
import Derived.Test.YtapblmbjbpkieaaDoorRefB
import Derived.Test.YtapblmbjbpkieaaDoorRow
import Derived.RegionTactic
import Derived.ChangeAlike
namespace Go.Proofs.YtapblmbjbpkieaaDoor
open Go.RowKit

def sumList (a b : List Nat) (n : Nat) : List Nat := (List.range n).map fun i => a.getD i 0 + b.getD i 0
theorem sumList_len (a b : List Nat) (n : Nat) : (sumList a b n).length = n := by simp [sumList]
theorem sumList_get (a b : List Nat) (n i : Nat) (h : i < n) : (sumList a b n).getD i 0 = a.getD i 0 + b.getD i 0 := by simp [sumList, List.getD, h]
theorem val_range (b : Nat) (f : Nat → Nat) (n : Nat) : val b ((List.range (n + 1)).map f) = f 0 + b * val b ((List.range n).map fun i => f (i + 1)) := by
  rw [List.range_succ_eq_map]; simp [val, Function.comp_def]
theorem val_sum (b : Nat) : ∀ (n : Nat) (x y : List Nat), x.length ≤ n → y.length ≤ n → val b (sumList x y n) = val b x + val b y
  | 0, x, y, hx, hy => by
    obtain rfl : x = [] := List.eq_nil_of_length_eq_zero (by omega)
    obtain rfl : y = [] := List.eq_nil_of_length_eq_zero (by omega)
    rfl
  | n + 1, x, y, hx, hy => by
    have ih := val_sum b n x.tail y.tail (by simp; omega) (by simp; omega)
    unfold sumList at *
    rw [val_range]
    have e : ((List.range n).map fun i => x.getD (i + 1) 0 + y.getD (i + 1) 0) = (List.range n).map fun i => x.tail.getD i 0 + y.tail.getD i 0 := by
      apply List.map_congr_left
      intro i _
      cases x <;> cases y <;> simp
    rw [e, ih]
    have hv : ∀ l : List Nat, val b l = l.getD 0 0 + b * val b l.tail := by intro l; cases l <;> simp [val]
    rw [hv x, hv y, Nat.mul_add]
    omega

def addF (x y : List Nat) (i j : Nat) (k : Nat) : Value := .int .i64 ((if k < i then x.getD k 0 else 0) + (if k < j then y.getD k 0 else 0) : Nat)
theorem addF_step1 (x y : List Nat) (i k : Nat) : addF x y (i + 1) 0 k = if k = i then .int .i64 ((x.getD i 0 : Nat) : Int) else addF x y i 0 k := by
  unfold addF
  by_cases h : k = i
  · subst h; simp
  · rw [if_neg h]
    by_cases h2 : k < i
    · rw [if_pos h2, if_pos (by omega)]
    · rw [if_neg h2, if_neg (by omega)]
theorem addF_step2 (x y : List Nat) (i j k : Nat) : addF x y i (j + 1) k = if k = j then .int .i64 (((if j < i then x.getD j 0 else 0) + y.getD j 0 : Nat) : Int) else addF x y i j k := by
  unfold addF
  by_cases h : k = j
  · subst h; simp
  · rw [if_neg h]
    by_cases h2 : k < j
    · rw [if_pos h2, if_pos (show k < j + 1 by omega)]
    · rw [if_neg h2, if_neg (show ¬ k < j + 1 by omega)]
theorem addF_end (x y : List Nat) (n i : Nat) (hi : i < n) (_hx : x.length ≤ n) (_hy : y.length ≤ n) : addF x y x.length y.length i = i64f (sumList x y n) i := by
  unfold addF i64f
  rw [sumList_get x y n i hi]
  have e1 : (if i < x.length then x.getD i 0 else 0) = x.getD i 0 := by
    split
    · rfl
    · rename_i h; simp [List.getD, List.getElem?_eq_none (Nat.le_of_not_lt h)]
  have e2 : (if i < y.length then y.getD i 0 else 0) = y.getD i 0 := by
    split
    · rfl
    · rename_i h; simp [List.getD, List.getElem?_eq_none (Nat.le_of_not_lt h)]
  rw [e1, e2]
theorem getD_lt {b : Nat} {x : List Nat} (h : ∀ d ∈ x, d < b) (i : Nat) (hi : i < x.length) : x.getD i 0 < b := by
  rw [List.getD, List.getElem?_eq_getElem hi]; exact h _ (List.getElem_mem hi)
theorem getD_lt0 {b : Nat} (hb : 0 < b) {x : List Nat} (h : ∀ d ∈ x, d < b) (i : Nat) : x.getD i 0 < b := by
  rcases Nat.lt_or_ge i x.length with hi | hi
  · exact getD_lt h i hi
  · simp [List.getD, List.getElem?_eq_none hi, hb]
theorem sumList_all {x y : List Nat} (hx : ∀ d ∈ x, d < 1000000) (hy : ∀ d ∈ y, d < 1000000) (n : Nat) : ∀ d ∈ sumList x y n, d ≤ 100000000000000000 := by
  intro d hd
  obtain ⟨i, _, rfl⟩ := List.mem_map.1 hd
  have h1 := getD_lt0 (by omega) hx i
  have h2 := getD_lt0 (by omega) hy i
  omega

set_option maxRecDepth 100000 in
set_option maxHeartbeats 1600000 in
theorem refAdd_lt {u v : Value} {x y : List Nat} {w : World} (hn : x.length < y.length) (hx : x.length ≤ 100000) (hy : y.length ≤ 100000) (hxd : ∀ d ∈ x, d < 1000000) (hyd : ∀ d ∈ y, d < 1000000) (hu : LI w u x) (hv : LI w v y) :
    Calls Tryd.prog 23 #[u, v] w (NewI w (digs 1000000 (val 1000000 x + val 1000000 y))) := by
  obtain ⟨A, ca, rfl, hca, hA⟩ := hu
  obtain ⟨B, cb, rfl, hcb, hB⟩ := hv
  obtain ⟨i0, hi, hz0, hz1, hz2⟩ := info_parts infoInt
  have hsum := Lib.hid (val_sum 1000000 y.length x y (by omega) (by omega))
  have hall := Lib.hid (sumList_all hxd hyd y.length)
  have hg0 := Lib.hid (fun i => getD_lt0 (x := x) (by omega) hxd i)
  have hg1 := Lib.hid (fun i => getD_lt0 (x := y) (by omega) hyd i)
  clear hxd hyd
  go_enter Tryd.func23, Tryd.ntmps23
  go_wp2_with (refine wpList_make_row rfl (.tmp 12) (.tmp 12) _ rfl 3 i0 _ Tryd.underlying27 hi hz0 hz1 rfl _ _ _ _ y.length rfl rfl (by rfl) (by rfl) (by rw [hz2]; omega) (by simp [maxLen]; omega) w w.heap.size (Below.refl _ _) (Nat.le_refl _) ?_; intro w1 hrow hb1 hs1)
  go_loopw [6] (fun i wr => ∃ ni : Nat, i = .int .i64 ni ∧ ni ≤ x.length ∧ Row wr w.heap.size 3 y.length (addF x y ni 0) ∧ Below w.heap.size w wr) (fun i _ => x.length - (intOf i).toNat)
  case atStart => exact ⟨0, rfl, by omega, hrow.out.same (fun j _ => by simp [addF]), hb1.out⟩
  case round =>
    obtain ⟨i, rfl, hix, hr, hbw⟩ := hrel
    by_cases hlt : i < x.length
    · obtain ⟨a, rfl, hab, hcell⟩ := hA i hlt
      have hc0 : wr.cell? ⟨w.heap.size, i, none⟩ = some (.int .i64 0) := by rw [hr.cell i (by omega)]; simp [addF]
      have hf0 := hr.frozen i
      obtain ⟨d, hd⟩ : ∃ d : Nat, d = x.getD i 0 := ⟨_, rfl⟩
      have hd1 : d < 1000000 := by rw [hd]; exact hg0.out i
      have hcell' : wr.cell? (a.add i) = some (.int .i64 d) := by rw [hbw.cell (by rw [add_block]; exact hab), hcell, hd]; rfl
      have hst := Lib.hid (fun k => addF_step1 x y i k)
      rw [← hd] at hst
      clear hcell hd
      go_wp2
      go_region
      go_wp2
      go_roundw
      case rel =>
        exact ⟨i + 1, by go_num, by omega, (hr.set_ i _ (fun j _ => hst.out j)).drew, (hbw.setCell (Nat.le_refl _) _).drew⟩
      case measure => simp [intOf]; omega
    · obtain rfl : i = x.length := by omega
      go_wp2
      go_loopw [7] (fun i wr => ∃ nj : Nat, i = .int .i64 nj ∧ nj ≤ y.length ∧ Row wr w.heap.size 3 y.length (addF x y x.length nj) ∧ Below w.heap.size w wr) (fun i _ => y.length - (intOf i).toNat)
      case atStart => exact ⟨0, rfl, by omega, hr, hbw⟩
      case round =>
        obtain ⟨j, rfl, hjy, hr, hbw⟩ := hrel
        by_cases hlt2 : j < y.length
        · obtain ⟨b, rfl, hbb, hcell⟩ := hB j hlt2
          obtain ⟨p, hp⟩ : ∃ p : Nat, p = (if j < x.length then x.getD j 0 else 0) := ⟨_, rfl⟩
          have hp1 : p < 1000000 := by
            rw [hp]
            split
            · exact hg0.out j
            · omega
          have hc0 : wr.cell? ⟨w.heap.size, j, none⟩ = some (.int .i64 p) := by rw [hr.cell j (by omega), hp]; simp [addF]
          have hf0 := hr.frozen j
          obtain ⟨d, hd⟩ : ∃ d : Nat, d = y.getD j 0 := ⟨_, rfl⟩
          have hd1 : d < 1000000 := by rw [hd]; exact hg1.out j
          have hcell' : wr.cell? (b.add j) = some (.int .i64 d) := by rw [hbw.cell (by rw [add_block]; exact hbb), hcell, hd]; rfl
          have hst := Lib.hid (fun k => addF_step2 x y x.length j k)
          rw [← hd, ← hp] at hst
          clear hcell hd hp
          go_wp2
          go_region
          go_wp2
          go_roundw
          case rel => exact ⟨j + 1, by go_num, by omega, (hr.set_ j _ (fun k _ => by rw [hst.out k, Int.natCast_add])).drew, (hbw.setCell (Nat.le_refl _) _).drew⟩
          case measure => simp [intOf]; omega
        · obtain rfl : j = y.length := by omega
          have hL := LI.of_cells (sumList_len x y y.length) (Nat.le_refl _) hr.cells (fun i hi => addF_end x y y.length i hi (by omega) (by omega))
          go_wp2_with (go_at_call 55; refine (carried_any (by rw [sumList_len]; omega) hall.out hL).mono ?_; rintro e w2 ⟨v2, rfl, hv2, hb2⟩)
          go_ret
          exact ⟨v2, rfl, by rw [← hsum.out]; exact hv2, hbw.trans (hb2.mono hbw.size)⟩

set_option maxRecDepth 100000 in
set_option maxHeartbeats 1600000 in
theorem refAdd_ge {u v : Value} {x y : List Nat} {w : World} (hn : ¬ x.length < y.length) (hx : x.length ≤ 100000) (hy : y.length ≤ 100000) (hxd : ∀ d ∈ x, d < 1000000) (hyd : ∀ d ∈ y, d < 1000000) (hu : LI w u x) (hv : LI w v y) :
    Calls Tryd.prog 23 #[u, v] w (NewI w (digs 1000000 (val 1000000 x + val 1000000 y))) := by
  obtain ⟨A, ca, rfl, hca, hA⟩ := hu
  obtain ⟨B, cb, rfl, hcb, hB⟩ := hv
  obtain ⟨i0, hi, hz0, hz1, hz2⟩ := info_parts infoInt
  have hsum := Lib.hid (val_sum 1000000 x.length x y (by omega) (by omega))
  have hall := Lib.hid (sumList_all hxd hyd x.length)
  have hg0 := Lib.hid (fun i => getD_lt0 (x := x) (by omega) hxd i)
  have hg1 := Lib.hid (fun i => getD_lt0 (x := y) (by omega) hyd i)
  clear hxd hyd
  go_enter Tryd.func23, Tryd.ntmps23
  go_wp2_with (refine wpList_make_row rfl (.tmp 12) (.tmp 12) _ rfl 3 i0 _ Tryd.underlying27 hi hz0 hz1 rfl _ _ _ _ x.length rfl rfl (by rfl) (by rfl) (by rw [hz2]; omega) (by simp [maxLen]; omega) w w.heap.size (Below.refl _ _) (Nat.le_refl _) ?_; intro w1 hrow hb1 hs1)
  go_loopw [6] (fun i wr => ∃ ni : Nat, i = .int .i64 ni ∧ ni ≤ x.length ∧ Row wr w.heap.size 3 x.length (addF x y ni 0) ∧ Below w.heap.size w wr) (fun i _ => x.length - (intOf i).toNat)
  case atStart => exact ⟨0, rfl, by omega, hrow.out.same (fun j _ => by simp [addF]), hb1.out⟩
  case round =>
    obtain ⟨i, rfl, hix, hr, hbw⟩ := hrel
    by_cases hlt : i < x.length
    · obtain ⟨a, rfl, hab, hcell⟩ := hA i hlt
      have hc0 : wr.cell? ⟨w.heap.size, i, none⟩ = some (.int .i64 0) := by rw [hr.cell i (by omega)]; simp [addF]
      have hf0 := hr.frozen i
      obtain ⟨d, hd⟩ : ∃ d : Nat, d = x.getD i 0 := ⟨_, rfl⟩
      have hd1 : d < 1000000 := by rw [hd]; exact hg0.out i
      have hcell' : wr.cell? (a.add i) = some (.int .i64 d) := by rw [hbw.cell (by rw [add_block]; exact hab), hcell, hd]; rfl
      have hst := Lib.hid (fun k => addF_step1 x y i k)
      rw [← hd] at hst
      clear hcell hd
      go_wp2
      go_region
      go_wp2
      go_roundw
      case rel =>
        exact ⟨i + 1, by go_num, by omega, (hr.set_ i _ (fun j _ => hst.out j)).drew, (hbw.setCell (Nat.le_refl _) _).drew⟩
      case measure => simp [intOf]; omega
    · obtain rfl : i = x.length := by omega
      go_wp2
      go_loopw [7] (fun i wr => ∃ nj : Nat, i = .int .i64 nj ∧ nj ≤ y.length ∧ Row wr w.heap.size 3 x.length (addF x y x.length nj) ∧ Below w.heap.size w wr) (fun i _ => y.length - (intOf i).toNat)
      case atStart => exact ⟨0, rfl, by omega, hr, hbw⟩
      case round =>
        obtain ⟨j, rfl, hjy, hr, hbw⟩ := hrel
        by_cases hlt2 : j < y.length
        · obtain ⟨b, rfl, hbb, hcell⟩ := hB j hlt2
          obtain ⟨p, hp⟩ : ∃ p : Nat, p = (if j < x.length then x.getD j 0 else 0) := ⟨_, rfl⟩
          have hp1 : p < 1000000 := by
            rw [hp]
            split
            · exact hg0.out j
            · omega
          have hc0 : wr.cell? ⟨w.heap.size, j, none⟩ = some (.int .i64 p) := by rw [hr.cell j (by omega), hp]; simp [addF]
          have hf0 := hr.frozen j
          obtain ⟨d, hd⟩ : ∃ d : Nat, d = y.getD j 0 := ⟨_, rfl⟩
          have hd1 : d < 1000000 := by rw [hd]; exact hg1.out j
          have hcell' : wr.cell? (b.add j) = some (.int .i64 d) := by rw [hbw.cell (by rw [add_block]; exact hbb), hcell, hd]; rfl
          have hst := Lib.hid (fun k => addF_step2 x y x.length j k)
          rw [← hd, ← hp] at hst
          clear hcell hd hp
          go_wp2
          go_region
          go_wp2
          go_roundw
          case rel => exact ⟨j + 1, by go_num, by omega, (hr.set_ j _ (fun k _ => by rw [hst.out k, Int.natCast_add])).drew, (hbw.setCell (Nat.le_refl _) _).drew⟩
          case measure => simp [intOf]; omega
        · obtain rfl : j = y.length := by omega
          have hL := LI.of_cells (sumList_len x y x.length) (Nat.le_refl _) hr.cells (fun i hi => addF_end x y x.length i hi (by omega) (by omega))
          go_wp2_with (go_at_call 55; refine (carried_any (by rw [sumList_len]; omega) hall.out hL).mono ?_; rintro e w2 ⟨v2, rfl, hv2, hb2⟩)
          go_ret
          exact ⟨v2, rfl, by rw [← hsum.out]; exact hv2, hbw.trans (hb2.mono hbw.size)⟩

theorem refAdd_any {u v : Value} {x y : List Nat} {w : World} (hx : x.length ≤ 100000) (hy : y.length ≤ 100000) (hxd : ∀ d ∈ x, d < 1000000) (hyd : ∀ d ∈ y, d < 1000000) (hu : LI w u x) (hv : LI w v y) :
    Calls Tryd.prog 23 #[u, v] w (NewI w (digs 1000000 (val 1000000 x + val 1000000 y))) := by
  by_cases hn : x.length < y.length
  · exact refAdd_lt hn hx hy hxd hyd hu hv
  · exact refAdd_ge hn hx hy hxd hyd hu hv
end Go.Proofs.YtapblmbjbpkieaaDoor
