/- Contract of the reference's Mul. -/
import Derived.Test.YtapblmbjbpkieaaDoorConv
import Derived.Test.YtapblmbjbpkieaaDoorRefC
namespace Go.Proofs.YtapblmbjbpkieaaDoor
open Go.RowKit

/-- The row of the product when k groups are done, and i products of the next one. -/
def mulF (x y : List Nat) (k i j : Nat) : Value := .int .i64 (((if j < k then conv x y j else if j = k then psum x y k i else 0 : Nat) : Nat) : Int)
theorem mulF_zero (x y : List Nat) (j : Nat) : mulF x y 0 0 j = .int .i64 0 := by
  unfold mulF
  by_cases h : j = 0
  · subst h; simp [psum]
  · simp [h]
theorem mulF_step (x y : List Nat) (k i j : Nat) : mulF x y k (i + 1) j = if j = k then .int .i64 ((psum x y k i + x.getD i 0 * y.getD (k - i) 0 : Nat) : Int) else mulF x y k i j := by
  unfold mulF
  by_cases h : j = k
  · subst h; simp [psum]
  · simp [h]
theorem mulF_same (x y : List Nat) (k i : Nat) (h : y.length ≤ k - i) : mulF x y k (i + 1) = mulF x y k i := by
  funext j
  rw [mulF_step]
  by_cases hj : j = k
  · subst hj
    rw [if_pos rfl, show y.getD (j - i) 0 = 0 by simp [List.getD, h]]
    simp [mulF]
  · rw [if_neg hj]
theorem mulF_next (x y : List Nat) (k i j : Nat) (hi : i ≤ k + 1) (h : i = k + 1 ∨ x.length ≤ i) : mulF x y (k + 1) 0 j = mulF x y k i j := by
  have hc := conv_at x y k i hi h
  unfold mulF
  by_cases h1 : j < k
  · rw [if_pos h1, if_pos (by omega)]
  · rw [if_neg h1]
    by_cases h2 : j = k
    · subst h2
      rw [if_pos (by omega), if_pos rfl, hc]
    · rw [if_neg (by omega), if_neg h2]
      by_cases h3 : j = k + 1
      · rw [if_pos h3]; rfl
      · rw [if_neg h3]
theorem mulF_end (x y : List Nat) (j : Nat) (hj : j < x.length + y.length) : mulF x y (x.length + y.length) 0 j = i64f (seg (conv x y) 0 (x.length + y.length)) j := by
  unfold mulF i64f
  rw [if_pos hj]
  simp [seg, List.getD, hj]
theorem prod6 (d e : Nat) (hd : d < 1000000) (he : e < 1000000) : (0 : Int) ≤ (d : Int) * (e : Int) ∧ (d : Int) * (e : Int) ≤ 1000000000000 := by
  have h : d * e ≤ 1000000 * 1000000 := Nat.mul_le_mul (by omega) (by omega)
  rw [← Int.natCast_mul]
  omega
theorem conv_le (x y : List Nat) (hx : x.length ≤ 1000) (hy : y.length ≤ 1000) (hxd : ∀ d ∈ x, d < 1000000) (hyd : ∀ d ∈ y, d < 1000000) : ∀ k i, k < x.length + y.length → i ≤ k + 1 → psum x y k i ≤ 2000000000000000 := by
  intro k i hk hi
  have h1 := psum_le x y k 1000000 hxd hyd (by omega) i
  have h2 : i * ((1000000 - 1) * (1000000 - 1)) ≤ 2000 * ((1000000 - 1) * (1000000 - 1)) := Nat.mul_le_mul_right _ (by omega)
  omega

set_option maxRecDepth 100000 in
set_option maxHeartbeats 1600000 in
theorem refMul_any {u v : Value} {x y : List Nat} {w : World} (hx : x.length ≤ 1000) (hy : y.length ≤ 1000) (hxd : ∀ d ∈ x, d < 1000000) (hyd : ∀ d ∈ y, d < 1000000) (hu : LI w u x) (hv : LI w v y) :
    Calls Tryd.prog 26 #[u, v] w (NewI w (digs 1000000 (val 1000000 x * val 1000000 y))) := by
  obtain ⟨A, ca, rfl, hca, hA⟩ := hu
  obtain ⟨B, cb, rfl, hcb, hB⟩ := hv
  obtain ⟨i0, hi, hz0, hz1, hz2⟩ := info_parts infoInt
  have hsum := Lib.hid (conv_val 1000000 y x)
  have hbd := Lib.hid (conv_le x y hx hy hxd hyd)
  have hg0 := Lib.hid (fun i => getD_lt0 (x := x) (by omega) hxd i)
  have hg1 := Lib.hid (fun i => getD_lt0 (x := y) (by omega) hyd i)
  clear hxd hyd
  go_enter Tryd.func26, Tryd.ntmps26
  go_wp2_with (refine wpList_make_row rfl (.tmp 12) (.tmp 12) _ rfl 3 i0 _ Tryd.underlying27 hi hz0 hz1 rfl _ _ _ _ (x.length + y.length) rfl rfl (by rw [Int.natCast_add]) (by rw [Int.natCast_add]) (by rw [hz2]; omega) (by simp [maxLen]; omega) w w.heap.size (Below.refl _ _) (Nat.le_refl _) ?_; intro w1 hrow hb1 hs1)
  go_loopw [6] (fun k wr => ∃ nk : Nat, k = .int .i64 nk ∧ nk ≤ x.length + y.length ∧ Row wr w.heap.size 3 (x.length + y.length) (mulF x y nk 0) ∧ Below w.heap.size w wr) (fun k _ => x.length + y.length - (intOf k).toNat)
  case atStart => exact ⟨0, rfl, by omega, hrow.out.same (fun j _ => (mulF_zero x y j).symm), hb1.out⟩
  case round =>
    obtain ⟨k, rfl, hk, hr, hbw⟩ := hrel
    obtain ⟨wo, rfl⟩ : ∃ x, x = wr := ⟨_, rfl⟩
    by_cases hlt : k < x.length + y.length
    · have hbk := Lib.hid (fun i => hbd.out k i hlt)
      go_wp2
      go_loopw [7] (fun i wr => ∃ ni : Nat, i = .int .i64 ni ∧ ni ≤ x.length ∧ ni ≤ k + 1 ∧ Row wr w.heap.size 3 (x.length + y.length) (mulF x y k ni) ∧ Below w.heap.size w wr) (fun i _ => x.length - (intOf i).toNat)
      case atStart => exact ⟨0, rfl, by omega, by omega, hr, hbw⟩
      case round =>
        obtain ⟨i, rfl, hix, hik, hr, hbw⟩ := hrel
        by_cases hgo : i ≤ k ∧ i < x.length
        · obtain ⟨hle, hlx⟩ := hgo
          by_cases hky : k - i < y.length
          · obtain ⟨a, rfl, hab, hcella⟩ := hA i hlx
            obtain ⟨b, rfl, hbb, hcellb⟩ := hB (k - i) hky
            obtain ⟨d, hd⟩ : ∃ d : Nat, d = x.getD i 0 := ⟨_, rfl⟩
            obtain ⟨e, he⟩ : ∃ e : Nat, e = y.getD (k - i) 0 := ⟨_, rfl⟩
            obtain ⟨p, hp⟩ : ∃ p : Nat, p = psum x y k i := ⟨_, rfl⟩
            have hd1 : d < 1000000 := by rw [hd]; exact hg0.out i
            have he1 : e < 1000000 := by rw [he]; exact hg1.out _
            have hp1 : p ≤ 2000000000000000 := by rw [hp]; exact hbk.out i (by omega)
            have hc0 : wr.cell? ⟨w.heap.size, k, none⟩ = some (.int .i64 p) := by rw [hr.cell k hlt, hp]; simp [mulF]
            have hf0 := hr.frozen k
            have hca' : wr.cell? (a.add i) = some (.int .i64 d) := by rw [hbw.cell (by rw [add_block]; exact hab), hcella, hd]; rfl
            have hcb' : wr.cell? (b.add (k - i)) = some (.int .i64 e) := by rw [hbw.cell (by rw [add_block]; exact hbb), hcellb, he]; rfl
            have hst := Lib.hid (fun j => mulF_step x y k i j)
            rw [← hd, ← he, ← hp] at hst
            obtain ⟨hq0, hq1⟩ := prod6 d e hd1 he1
            have hw1 : IntKind.i64.wrap ((k : Int) - (i : Int)) = (k : Int) - (i : Int) := IntWalk.i64_in _ (by omega)
            have hw2 : ((k : Int) - (i : Int)).toNat = k - i := by omega
            have hw3 : (0 : Int) ≤ (k : Int) - (i : Int) := by omega
            clear hcella hcellb hd he hp
            go_wp2
            go_region
            all_goals
              go_wp2
              go_roundw
              case rel => exact ⟨i + 1, by go_num, by omega, by omega, (hr.set_ k _ (fun j _ => by rw [hst.out j, Int.natCast_add, Int.natCast_mul])).drew, (hbw.setCell (Nat.le_refl _) _).drew⟩
              case measure => simp [intOf]; omega
          · have hsm := mulF_same x y k i (by omega)
            have HR := Lib.hid (show Row wr w.heap.size 3 (x.length + y.length) (mulF x y k (i + 1)) by rw [hsm]; exact hr)
            have hnk : ¬ ((k : Int) - (i : Int) < (y.length : Int)) := by omega
            clear hsm
            go_wp2
            go_roundw
            case rel => exact ⟨i + 1, by go_num, by omega, by omega, HR.out, hbw⟩
            case measure => simp [intOf]; omega
        · have hend : i = k + 1 ∨ x.length ≤ i := by omega
          have HR := Lib.hid (show Row wr w.heap.size 3 (x.length + y.length) (mulF x y (k + 1) 0) from hr.same (fun j _ => (mulF_next x y k i j hik hend).symm))
          clear hr
          by_cases hik2 : i ≤ k
          · have hnx : ¬ i < x.length := by omega
            go_wp2
            go_roundw
            case rel => exact ⟨k + 1, by go_num, by omega, HR.out, hbw⟩
            case measure => simp [intOf]; omega
          · go_wp2
            go_roundw
            case rel => exact ⟨k + 1, by go_num, by omega, HR.out, hbw⟩
            case measure => simp [intOf]; omega
    · obtain rfl : k = x.length + y.length := by omega
      have hL := LI.of_cells (seg_len (conv x y) 0 (x.length + y.length)) (Nat.le_refl _) hr.cells (fun j hj => mulF_end x y j hj)
      have HC := Lib.hid (carried_any (by rw [seg_len]; omega) (by
        intro d hd
        obtain ⟨j, hj, rfl⟩ := List.mem_map.1 hd
        rw [List.mem_range] at hj
        have := hbd.out (0 + j) (0 + j + 1) (by omega) (Nat.le_refl _)
        show conv x y (0 + j) ≤ _
        unfold conv
        omega) hL)
      rw [hsum.out] at HC
      clear hL hr
      go_wp2_with (go_at_call 55; refine HC.out.mono ?_; rintro e w2 ⟨v2, rfl, hv2, hb2⟩)
      go_ret
      exact ⟨v2, rfl, hv2, hbw.trans (hb2.mono hbw.size)⟩
end Go.Proofs.YtapblmbjbpkieaaDoor
