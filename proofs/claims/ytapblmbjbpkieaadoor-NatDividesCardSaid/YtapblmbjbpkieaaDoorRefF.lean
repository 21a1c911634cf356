/- Contracts of the reference: Uint64. The number of bits, as the reference counts it. Contracts of the reference: Bits. -/
import Derived.Test.YtapblmbjbpkieaaDoorRowKit
namespace Go.Proofs.YtapblmbjbpkieaaDoor
open Go.RowKit

theorem val_drop_step (b : Nat) (ds : List Nat) (j : Nat) (hj : j < ds.length) : val b (ds.drop j) = ds.getD j 0 + b * val b (ds.drop (j + 1)) := by
  rw [drop_cons ds j hj]; rfl
theorem val_drop_le (b : Nat) (hb : 1 ≤ b) (ds : List Nat) : ∀ j, val b (ds.drop j) ≤ val b ds := by
  intro j
  rcases Nat.lt_or_ge j ds.length with h | h
  · have h1 := val_append b (ds.take j) (ds.drop j)
    rw [List.take_append_drop] at h1
    have h2 : 1 ≤ b ^ (ds.take j).length := Nat.one_le_pow _ _ hb
    have h3 : 1 * val b (ds.drop j) ≤ b ^ (ds.take j).length * val b (ds.drop j) := Nat.mul_le_mul_right _ h2
    omega
  · rw [List.drop_of_length_le h]; simp [val]

set_option maxRecDepth 100000 in
set_option maxHeartbeats 2000000 in
theorem refUint64_any {v : Value} {k : Nat} {w : World} (hlen : (digs 1000000 k).length ≤ 100000) (hv : LI w v (digs 1000000 k)) :
    Calls Tryd.prog 32 #[v] w fun e w' => e = U64Spec k ∧ w' = w := by
  obtain ⟨A, c, rfl, hc, hA⟩ := hv
  obtain ⟨ds, hds⟩ : ∃ ds, ds = digs 1000000 k := ⟨_, rfl⟩
  have HD : Hid (∀ d ∈ ds, d < 1000000) := by rw [hds]; exact digs_lt (by omega) k
  have HV : Hid (val 1000000 ds = k) := by rw [hds]; exact val_digs (by omega) k
  rw [← hds] at hlen hc hA ⊢
  have HA := Lib.hid hA
  clear hds hA
  go_enter Tryd.func32, Tryd.ntmps32
  go_wp2
  go_loop [4, 5, 6] (fun n i _ => ∃ nn j : Nat, n = .int .u64 nn ∧ i = .int .i64 ((j : Int) - 1) ∧ j ≤ ds.length ∧ nn < 18446744073709551616 ∧ Hid (nn = val 1000000 (ds.drop j))) (fun _ i _ => (intOf i + 1).toNat)
  case atStart => exact ⟨0, ds.length, rfl, rfl, by omega, by omega, by unfold Hid; rw [List.drop_length]; rfl⟩
  case round =>
    obtain ⟨nn, j, rfl, rfl, hj, hnn, HN⟩ := hrel
    by_cases hj0 : 0 < j
    · obtain ⟨i, rfl⟩ : ∃ i, j = i + 1 := ⟨j - 1, by omega⟩
      obtain ⟨a, rfl, hab, hcell0⟩ := HA.out i (by omega)
      obtain ⟨g, hg⟩ : ∃ g, g = ds.getD i 0 := ⟨_, rfl⟩
      have hg1 : g < 1000000 := by rw [hg]; exact getD_lt HD.out i (by omega)
      have hst : val 1000000 (ds.drop i) = g + 1000000 * nn := by rw [val_drop_step 1000000 ds i (by omega), ← hg, ← HN.out]
      have hcell : w.cell? (a.add i) = some (.int .i64 g) := by rw [hcell0, hg]; rfl
      have hle := val_drop_le 1000000 (by omega) ds i
      rw [HV.out, hst] at hle
      have HST := Lib.hid hst
      have he0 : ((i + 1 : Nat) : Int) - 1 = (i : Int) := by omega
      have he1 : ((i : Int)).toNat = i := Int.toNat_natCast i
      have hgw : IntKind.u64.wrap (g : Int) = (g : Int) := IntWalk.u64_in _ ⟨by omega, by omega⟩
      have hgs : IntKind.u64.wrap (18446744073709551615 - (g : Int)) = 18446744073709551615 - (g : Int) := IntWalk.u64_in _ ⟨by omega, by omega⟩
      rw [he0]
      by_cases hbig : (18446744073709551615 - g) / 1000000 < nn
      · have hsp : U64Spec k = .returned (.tuple #[.int .u64 0, .bool false]) := by unfold U64Spec; rw [if_neg (by omega)]
        have HSP := Lib.hid hsp
        have hq : (18446744073709551615 - (g : Int)) / 1000000 < (nn : Int) := by omega
        clear hg hst hcell0 hle hsp he0 hbig
        go_wp2
        go_ret2
        exact ⟨HSP.out.symm, rfl⟩
      · have hq : ¬ (18446744073709551615 - (g : Int)) / 1000000 < (nn : Int) := by omega
        have hm1 : IntKind.u64.wrap ((nn : Int) * 1000000) = (nn : Int) * 1000000 := IntWalk.u64_in _ ⟨by omega, by omega⟩
        have hm2 : IntKind.u64.wrap ((nn : Int) * 1000000 + (g : Int)) = (nn : Int) * 1000000 + (g : Int) := IntWalk.u64_in _ ⟨by omega, by omega⟩
        have hfit : g + 1000000 * nn < 18446744073709551616 := by omega
        clear hg hst hcell0 hle he0 hbig
        go_wp2
        refine ⟨⟨nn * 1000000 + g, i, by rw [Int.natCast_add, Int.natCast_mul]; rfl, rfl, by omega, by omega, ?_⟩, ?_⟩
        · unfold Hid
          rw [HST.out]
          omega
        · show ((i : Int) - 1 + 1).toNat < ((i : Int) + 1).toNat
          omega
    · obtain rfl : j = 0 := by omega
      have hkn : nn = k := by rw [HN.out, ← HV.out]; rfl
      subst hkn
      have hsp : U64Spec nn = .returned (.tuple #[.int .u64 (nn : Int), .bool true]) := by unfold U64Spec; rw [if_pos hnn]
      have HSP := Lib.hid hsp
      clear hsp
      go_wp2
      go_ret2
      exact ⟨HSP.out.symm, rfl⟩
end Go.Proofs.YtapblmbjbpkieaaDoor

namespace Go.Proofs.YtapblmbjbpkieaaDoor
open Go.RowKit

def bl (k : Nat) : Nat := if k = 0 then 0 else Nat.log2 k + 1
theorem bl_zero : bl 0 = 0 := rfl
theorem bl_half (k : Nat) (h : 0 < k) : bl k = bl (k / 2) + 1 := by
  unfold bl
  rw [if_neg (by omega)]
  rw [Nat.log2_def]
  by_cases h2 : 2 ≤ k
  · rw [if_pos h2, if_neg (by omega)]
  · rw [if_neg h2, if_pos (by omega)]
theorem bl_shift : ∀ (j k : Nat), 2 ^ j ≤ k → bl k = j + bl (k / 2 ^ j)
  | 0, k, _ => by simp
  | j + 1, k, h => by
    have hp : 0 < 2 ^ j := Nat.pow_pos (by omega)
    have h1 : 2 ^ j ≤ k / 2 := by rw [Nat.le_div_iff_mul_le (by omega)]; rw [Nat.pow_succ] at h; omega
    rw [bl_half k (by rw [Nat.pow_succ] at h; omega), bl_shift j (k / 2) h1, Nat.div_div_eq_div_mul, show 2 * 2 ^ j = 2 ^ (j + 1) by rw [Nat.pow_succ, Nat.mul_comm]]
    omega
theorem bitLen_bl : ∀ (f x : Nat), x ≤ f → x < 18446744073709551616 → Lib.bitLen x = bl x
  | 0, x, h, _ => by obtain rfl : x = 0 := by omega
                     rfl
  | f + 1, x, h, hx => by
    by_cases h0 : x = 0
    · subst h0; rfl
    · rw [Lib.bitLen_half x h0 hx, bl_half x (by omega), bitLen_bl f (x / 2) (by omega) (by omega)]
      omega
theorem bitsOf_small {k : Nat} (h0 : 0 < k) (h : k < 4294967296) : bitsOf k = bl k := by
  unfold bitsOf
  rw [digs_one h0 h]
  show (1 - 1) * 32 + Lib.bitLen k = bl k
  rw [bitLen_bl k k (Nat.le_refl _) (by omega)]
  omega
theorem bitsOf_bl : ∀ (f k : Nat), k ≤ f → 0 < k → bitsOf k = bl k
  | 0, k, h, h0 => by omega
  | f + 1, k, h, h0 => by
    by_cases hs : k < 4294967296
    · exact bitsOf_small h0 hs
    · have hr := bitsOf_bl f (k / 4294967296) (by omega) (by omega)
      have hp := digs_pos 4294967296 k (by omega) h0
      have hq : 0 < (digs 4294967296 (k / 4294967296)).length := by rw [digs_pos 4294967296 (k / 4294967296) (by omega) (by omega)]; simp
      rw [bl_shift 32 k (by show (4294967296 : Nat) ≤ k; omega), show (2 : Nat) ^ 32 = 4294967296 from rfl, ← hr]
      unfold bitsOf
      rw [hp]
      obtain ⟨d, ds, hd⟩ : ∃ d ds, digs 4294967296 (k / 4294967296) = d :: ds := by
        cases hc : digs 4294967296 (k / 4294967296) with
        | nil => rw [hc] at hq; simp at hq
        | cons d ds => exact ⟨d, ds, rfl⟩
      rw [hd]
      simp only [List.length_cons, List.getLast?_cons_cons]
      omega
theorem bits_any (k : Nat) : (if k = 0 then 0 else (bitsOf k : Int)) = (bl k : Int) := by
  by_cases h : k = 0
  · subst h; rfl
  · rw [if_neg h, bitsOf_bl k k (Nat.le_refl _) (by omega)]
end Go.Proofs.YtapblmbjbpkieaaDoor

namespace Go.Proofs.YtapblmbjbpkieaaDoor
open Go.RowKit

def halfN (ds : List Nat) (i : Nat) : Nat := val 1000000 (ds.drop i) / 2 % 1000000
def halfF (ds : List Nat) (j i : Nat) : Value := .int .i64 ((if i < j then 0 else halfN ds i : Nat) : Int)
def halves (ds : List Nat) : List Nat := (List.range ds.length).map (halfN ds)
theorem halves_len (ds : List Nat) : (halves ds).length = ds.length := by simp [halves]
theorem halves_lt (ds : List Nat) : ∀ d ∈ halves ds, d < 1000000 := by
  intro d hd
  obtain ⟨i, _, rfl⟩ := List.mem_map.1 hd
  exact Nat.mod_lt _ (by omega)
theorem halves_at (ds : List Nat) (i : Nat) (hi : i < ds.length) : (halves ds).getD i 0 = halfN ds i := by
  simp [halves, List.getD, hi]
theorem halves_drop (ds : List Nat) (hd : ∀ d ∈ ds, d < 1000000) : ∀ (n i : Nat), i + n = ds.length → val 1000000 ((halves ds).drop i) = val 1000000 (ds.drop i) / 2
  | 0, i, h => by
    rw [List.drop_of_length_le (by rw [halves_len]; omega), List.drop_of_length_le (by omega)]
    rfl
  | n + 1, i, h => by
    have ih := halves_drop ds hd n (i + 1) (by omega)
    have hlt := getD_lt hd i (by omega)
    rw [val_drop_step 1000000 (halves ds) i (by rw [halves_len]; omega), halves_at ds i (by omega), ih]
    unfold halfN
    rw [val_drop_step 1000000 ds i (by omega)]
    omega
theorem halves_val (ds : List Nat) (hd : ∀ d ∈ ds, d < 1000000) : val 1000000 (halves ds) = val 1000000 ds / 2 := halves_drop ds hd ds.length 0 (by omega)

set_option maxRecDepth 100000 in
set_option maxHeartbeats 2000000 in
theorem refBits_any {v : Value} {k : Nat} {w : World} (hlen : (digs 1000000 k).length ≤ 1000) (hbl : bl k ≤ 100000) (hv : LI w v (digs 1000000 k)) :
    Calls Tryd.prog 36 #[v] w fun e w' => e = .returned (.int .i64 (bl k : Int)) ∧ Below w.heap.size w w' := by
  obtain ⟨i0, hi, hz0, hz1, hz2⟩ := info_parts infoInt
  have hv1 := hv
  obtain ⟨A, c, rfl, hc, hA⟩ := hv
  clear hA
  go_enter Tryd.func36, Tryd.ntmps36
  go_wp2_with fail
  go_loopw [0, 3] (fun a n wr => ∃ kk nn : Nat, n = .int .i64 nn ∧ nn + bl kk = bl k ∧ (digs 1000000 kk).length ≤ 1000 ∧ LI wr a (digs 1000000 kk) ∧ Below w.heap.size w wr) (fun _ n _ => bl k - (intOf n).toNat)
  case atStart => exact ⟨k, 0, rfl, by omega, hlen, hv1, Below.refl _ _⟩
  case round =>
    obtain ⟨kk, nn, rfl, hn, hl, ⟨B, cb, rfl, hcb, hB⟩, hbw⟩ := hrel
    obtain ⟨wo, rfl⟩ : ∃ x, x = wr := ⟨_, rfl⟩
    by_cases h0 : kk = 0
    · subst h0
      rw [digs_zero] at *
      rw [bl_zero] at hn
      obtain rfl : nn = bl k := by omega
      simp only [List.length_nil]
      go_wp2
      go_ret
      exact ⟨rfl, hbw⟩
    · obtain ⟨ds, hds⟩ : ∃ ds, ds = digs 1000000 kk := ⟨_, rfl⟩
      have HD : Hid (∀ d ∈ ds, d < 1000000) := by rw [hds]; exact digs_lt (by omega) kk
      have HV : Hid (val 1000000 ds = kk) := by rw [hds]; exact val_digs (by omega) kk
      have hpos : 0 < ds.length := by rw [hds, digs_pos 1000000 kk (by omega) (by omega)]; simp
      have hbh : bl kk = bl (kk / 2) + 1 := bl_half kk (by omega)
      rw [← hds] at hl hcb hB ⊢
      have HB := Lib.hid hB
      have hs2 : Hid (strip (halves ds) = digs 1000000 (kk / 2)) := by
        unfold Hid
        rw [strip_digs (b := 1000000) (by omega) _ (halves_lt ds), halves_val ds HD.out, HV.out]
      clear hds hB hv1
      go_wp2_with (refine wpList_make_row rfl (.tmp 11) (.tmp 11) _ rfl 3 i0 _ Tryd.underlying27 hi hz0 hz1 rfl _ _ _ _ ds.length rfl rfl (by rfl) (by rfl) (by rw [hz2]; omega) (by simp [maxLen]; omega) wo wo.heap.size (Below.refl _ _) (Nat.le_refl _) ?_; intro w1 hrow hb1 hs1)
      go_loopw [5, 6] (fun o i wr => ∃ no j : Nat, o = .int .i64 no ∧ i = .int .i64 ((j : Int) - 1) ∧ j ≤ ds.length ∧ Hid (no = val 1000000 (ds.drop j) % 2) ∧ Row wr wo.heap.size 3 ds.length (halfF ds j) ∧ Below wo.heap.size wo wr) (fun _ i _ => (intOf i + 1).toNat)
      case atStart => exact ⟨0, ds.length, rfl, rfl, Nat.le_refl _, by unfold Hid; rw [List.drop_length]; rfl, hrow.out.same (fun j hj => by simp [halfF, hj]), hb1.out⟩
      case round =>
        obtain ⟨no, j, rfl, rfl, hj, HNO, hr, hb2⟩ := hrel
        by_cases hj0 : 0 < j
        · obtain ⟨i, rfl⟩ : ∃ i, j = i + 1 := ⟨j - 1, by omega⟩
          obtain ⟨a, rfl, hab, hcell0⟩ := HB.out i (by omega)
          obtain ⟨g, hg⟩ : ∃ g, g = ds.getD i 0 := ⟨_, rfl⟩
          have hg1 : g < 1000000 := by rw [hg]; exact getD_lt HD.out i (by omega)
          have hst : val 1000000 (ds.drop i) = g + 1000000 * val 1000000 (ds.drop (i + 1)) := by rw [val_drop_step 1000000 ds i (by omega), ← hg]
          have hno2 : no < 2 := by rw [HNO.out]; exact Nat.mod_lt _ (by omega)
          have hcell : wr.cell? (a.add i) = some (.int .i64 g) := by rw [hb2.cell (by rw [add_block]; exact hab), hcell0, hg]; rfl
          have hstep : ∀ k, halfF ds i k = if k = i then .int .i64 (((no * 1000000 + g) / 2 : Nat) : Int) else halfF ds (i + 1) k := by
            intro k
            have h1 : halfN ds i = (no * 1000000 + g) / 2 := by
              unfold halfN
              have := HNO.out
              rw [hst]
              omega
            by_cases hk : k = i
            · subst hk
              simp [halfF, h1]
            · rw [if_neg hk]
              unfold halfF
              congr 2
              by_cases hk2 : k < i
              · rw [if_pos hk2, if_pos (by omega)]
              · rw [if_neg hk2, if_neg (by omega)]
          have hodd : Hid ((no * 1000000 + g) % 2 = val 1000000 (ds.drop i) % 2) := by
            unfold Hid
            have := HNO.out
            rw [hst]
            omega
          have hc0 : wr.cell? ⟨wo.heap.size, i, none⟩ = some (.int .i64 0) := by rw [hr.cell i (by omega)]; simp [halfF]
          have hf0 := hr.frozen i
          have HST := Lib.hid hstep
          have he0 : ((i + 1 : Nat) : Int) - 1 = (i : Int) := by omega
          have he1 : ((i : Int)).toNat = i := Int.toNat_natCast i
          have hq1 : ((no : Int) * 1000000 + (g : Int)).tdiv 2 = (((no * 1000000 + g) / 2 : Nat) : Int) := by rw [Int.tdiv_eq_ediv_of_nonneg (by omega)]; omega
          have hq2 : ((no : Int) * 1000000 + (g : Int)).tmod 2 = (((no * 1000000 + g) % 2 : Nat) : Int) := by rw [Int.tmod_eq_emod_of_nonneg (by omega)]; omega
          rw [he0]
          clear hg hst hcell0 hstep he0
          go_wp2
          have hd2 : ((no : Int) * 1000000 + (g : Int)) / 2 = (((no * 1000000 + g) / 2 : Nat) : Int) := by omega
          have hm2 : ((no : Int) * 1000000 + (g : Int)) % 2 = (((no * 1000000 + g) % 2 : Nat) : Int) := by omega
          rw [hd2, hm2]
          refine ⟨⟨(no * 1000000 + g) % 2, i, rfl, rfl, by omega, hodd, hr.set_ i _ (fun k _ => HST.out k), hb2.setCell (Nat.le_refl _) _⟩, ?_⟩
          show ((i : Int) - 1 + 1).toNat < ((i : Int) + 1).toNat
          omega
        · obtain rfl : j = 0 := by omega
          have hL : LI wr (.slice (some ⟨wo.heap.size, 0, none⟩) ds.length ds.length) (halves ds) := LI.of_cells (halves_len ds) (Nat.le_refl _) hr.cells (fun i hi => by
            unfold i64f halfF
            rw [halves_at ds i hi, if_neg (by omega)])
          have hwo := without_any (by rw [halves_len]; omega) hL
          rw [hs2.out] at hwo
          have hlh : (digs 1000000 (kk / 2)).length ≤ 1000 := by
            have h1 := val_lt (b := 1000000) ds HD.out
            rw [HV.out] at h1
            exact Nat.le_trans (digs_len (n := ds.length) (by omega) (Nat.lt_of_le_of_lt (Nat.div_le_self _ _) h1)) hl
          have hbw2 := hbw.trans (hb2.mono hbw.size)
          clear hL hr HNO hb2
          go_wp2_with fail
          refine hwo.mono ?_
          rintro e w3 ⟨v3, rfl, hv3, hb3⟩
          go_wp2_with fail
          refine ⟨⟨kk / 2, nn + 1, by go_num, by omega, hlh, hv3, hbw2.trans (hb3.mono hbw2.size)⟩, ?_⟩
          show bl k - ((nn : Int) + 1).toNat < bl k - ((nn : Int)).toNat
          omega
end Go.Proofs.YtapblmbjbpkieaaDoor
