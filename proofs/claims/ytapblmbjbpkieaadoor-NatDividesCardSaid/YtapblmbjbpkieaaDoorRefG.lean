/- Contracts of the reference: Cmp. -/
import Derived.Test.YtapblmbjbpkieaaDoorLawBits
namespace Go.Proofs.YtapblmbjbpkieaaDoor
open Go.RowKit

theorem val_less {b : Nat} {xs ys : List Nat} (hx : ∀ d ∈ xs, d < b) (k : Nat) (hkx : k < xs.length) (hky : k < ys.length) (ht : xs.drop (k + 1) = ys.drop (k + 1)) (hlt : xs.getD k 0 < ys.getD k 0) : val b xs < val b ys := by
  rw [val_at b xs k hkx, val_at b ys k hky, ht]
  have h1 := val_lt (b := b) (xs.take k) (fun d hd => hx d (List.mem_of_mem_take hd))
  rw [List.length_take, Nat.min_eq_left (by omega)] at h1
  have h2 : b ^ k * (xs.getD k 0 + 1 + b * val b (ys.drop (k + 1))) ≤ b ^ k * (ys.getD k 0 + b * val b (ys.drop (k + 1))) := Nat.mul_le_mul_left _ (by omega)
  have h3 : b ^ k * (xs.getD k 0 + 1 + b * val b (ys.drop (k + 1))) = b ^ k * (xs.getD k 0 + b * val b (ys.drop (k + 1))) + b ^ k := by
    rw [Nat.add_right_comm, Nat.mul_add, Nat.mul_one]
  omega
theorem digs6_shorter {x y : Nat} (h : (digs 1000000 x).length < (digs 1000000 y).length) : x < y := by
  have h1 := val_lt (b := 1000000) (digs 1000000 x) (digs_lt (by omega) x)
  have hne : digs 1000000 y ≠ [] := by intro e; rw [e] at h; simp at h
  have h2 := val_ge (b := 1000000) (by omega) (digs_canon (by omega) y).1 hne
  rw [val_digs (by omega)] at h1 h2
  have h3 : (1000000 : Nat) ^ (digs 1000000 x).length ≤ 1000000 ^ ((digs 1000000 y).length - 1) := Nat.pow_le_pow_right (by omega) (by omega)
  omega

set_option maxRecDepth 100000 in
set_option maxHeartbeats 2000000 in
theorem refCmp_any {u v : Value} {x y : Nat} {w : World} (hlx : (digs 1000000 x).length ≤ 100000) (_hly : (digs 1000000 y).length ≤ 100000) (hu : LI w u (digs 1000000 x)) (hv : LI w v (digs 1000000 y)) :
    Calls Tryd.prog 24 #[u, v] w fun e w' => e = .returned (.int .i64 (cmpI x y)) ∧ Below w.heap.size w w' := by
  obtain ⟨A, ca, rfl, hca, hA⟩ := hu
  obtain ⟨B, cb, rfl, hcb, hB⟩ := hv
  by_cases hs : (digs 1000000 x).length < (digs 1000000 y).length
  · have hlt := digs6_shorter hs
    have hci : cmpI x y = -1 := by unfold cmpI; rw [if_pos hlt]
    rw [hci]
    clear hA hB hlt hci
    go_enter Tryd.func24, Tryd.ntmps24
    go_wp2
    go_ret
    exact ⟨rfl, Below.refl _ _⟩
  · by_cases hg : (digs 1000000 y).length < (digs 1000000 x).length
    · have hlt := digs6_shorter hg
      have hci : cmpI x y = 1 := by unfold cmpI; rw [if_neg (by omega), if_pos hlt]
      rw [hci]
      clear hA hB hlt hci
      go_enter Tryd.func24, Tryd.ntmps24
      go_wp2
      go_ret
      exact ⟨rfl, Below.refl _ _⟩
    · obtain ⟨xs, hxs⟩ : ∃ xs, xs = digs 1000000 x := ⟨_, rfl⟩
      obtain ⟨ys, hys⟩ : ∃ ys, ys = digs 1000000 y := ⟨_, rfl⟩
      have HX : Hid (∀ d ∈ xs, d < 1000000) := by rw [hxs]; exact digs_lt (by omega) x
      have HY : Hid (∀ d ∈ ys, d < 1000000) := by rw [hys]; exact digs_lt (by omega) y
      have VX : Hid (val 1000000 xs = x) := by rw [hxs]; exact val_digs (by omega) x
      have VY : Hid (val 1000000 ys = y) := by rw [hys]; exact val_digs (by omega) y
      rw [← hxs] at hlx hca hA hs hg ⊢
      rw [← hys] at hcb hB hs hg ⊢
      have hl : Hid (xs.length = ys.length) := by unfold Hid; omega
      have HA := Lib.hid hA
      have HB := Lib.hid hB
      clear hxs hys hA hB
      go_enter Tryd.func24, Tryd.ntmps24
      go_wp2
      go_loopw [5] (fun i wr => ∃ j : Nat, i = .int .i64 ((j : Int) - 1) ∧ j ≤ xs.length ∧ Hid (xs.drop j = ys.drop j) ∧ Below w.heap.size w wr) (fun i _ => (intOf i + 1).toNat)
      case atStart => exact ⟨xs.length, rfl, Nat.le_refl _, by unfold Hid; rw [List.drop_length, hl.out, List.drop_length], Below.refl _ _⟩
      case round =>
        obtain ⟨j, rfl, hj, HE, hbw⟩ := hrel
        by_cases hj0 : 0 < j
        · obtain ⟨i, rfl⟩ : ∃ i, j = i + 1 := ⟨j - 1, by omega⟩
          obtain ⟨a, rfl, hab, hcella⟩ := HA.out i (by omega)
          obtain ⟨b, rfl, hbb, hcellb⟩ := HB.out i (by have := hl.out; omega)
          obtain ⟨p, hp⟩ : ∃ p, p = xs.getD i 0 := ⟨_, rfl⟩
          obtain ⟨q, hq⟩ : ∃ q, q = ys.getD i 0 := ⟨_, rfl⟩
          have hca1 : wr.cell? (a.add i) = some (.int .i64 p) := by rw [hbw.cell (by rw [add_block]; exact hab), hcella, hp]; rfl
          have hcb1 : wr.cell? (b.add i) = some (.int .i64 q) := by rw [hbw.cell (by rw [add_block]; exact hbb), hcellb, hq]; rfl
          have hca2 : wr.drew.cell? (a.add i) = some (.int .i64 p) := hca1
          have hcb2 : wr.drew.cell? (b.add i) = some (.int .i64 q) := hcb1
          have hca3 : wr.drew.drew.cell? (a.add i) = some (.int .i64 p) := hca1
          have hcb3 : wr.drew.drew.cell? (b.add i) = some (.int .i64 q) := hcb1
          have he0 : ((i + 1 : Nat) : Int) - 1 = (i : Int) := by omega
          have he1 : ((i : Int)).toNat = i := Int.toNat_natCast i
          have hiy : i < ys.length := by have := hl.out; omega
          have hLT : p < q → cmpI x y = -1 := fun h => by
            have := val_less HX.out i (by omega) hiy HE.out (by rw [← hp, ← hq]; exact h)
            rw [VX.out, VY.out] at this
            unfold cmpI; rw [if_pos this]
          have hGT : q < p → cmpI x y = 1 := fun h => by
            have := val_less HY.out i hiy (by omega) HE.out.symm (by rw [← hp, ← hq]; exact h)
            rw [VX.out, VY.out] at this
            unfold cmpI; rw [if_neg (by omega), if_pos this]
          have hEQ : p = q → Hid (xs.drop i = ys.drop i) := fun h => by
            unfold Hid
            rw [drop_cons xs i (by omega), drop_cons ys i hiy, ← hp, ← hq, h, HE.out]
          have HLT := Lib.hid hLT
          have HGT := Lib.hid hGT
          have HEQ := Lib.hid hEQ
          rw [he0]
          clear hp hq hcella hcellb hLT hGT hEQ he0
          by_cases h1 : p < q
          · have hr := HLT.out h1
            go_wp2
            go_region
            all_goals (try go_wp2)
            all_goals go_ret
            all_goals exact ⟨by rw [hr]; rfl, hbw.drew⟩
          · by_cases h2 : q < p
            · have hr := HGT.out h2
              go_wp2
              go_region
              all_goals (try go_wp2)
              all_goals go_region
              all_goals (try go_wp2)
              all_goals go_ret
              all_goals exact ⟨by rw [hr]; rfl, hbw.drew.drew⟩
            · have he := HEQ.out (by omega)
              go_wp2
              go_region
              all_goals (try go_wp2)
              all_goals go_region
              all_goals (try go_wp2)
              all_goals
                refine ⟨⟨i, rfl, by omega, he, hbw.drew.drew⟩, ?_⟩
                show ((i : Int) - 1 + 1).toNat < ((i : Int) + 1).toNat
                omega
        · obtain rfl : j = 0 := by omega
          have hxy : x = y := by
            have := HE.out
            rw [← VX.out, ← VY.out]
            simpa using congrArg (val 1000000) this
          have hci : cmpI x y = 0 := by rw [hxy]; exact cmpI_self y
          have HCI := Lib.hid hci
          clear hci hxy
          go_wp2
          go_ret
          exact ⟨by rw [HCI.out]; rfl, hbw⟩
end Go.Proofs.YtapblmbjbpkieaaDoor
