/- Contract of the reference's DivMod. -/
import Derived.Test.YtapblmbjbpkieaaDoorFits
namespace Go.Proofs.YtapblmbjbpkieaaDoor
open Go.RowKit

theorem own_one (w : World) (u : Value) (e : TypeId) : (w.alloc (.cells #[u] e)).ownsRow w.heap.size e 1 (.slice (some ⟨w.heap.size, 0, none⟩) 1 1) 1 [u] :=
  ⟨rfl, .inr ⟨_, 1, #[u], rfl, Nat.le_refl _, heap_alloc_new w _, Nat.le_refl _, by simp [maxLen], rfl, rfl⟩⟩
/-- A value of the call's own that reads as a list. -/
def OwnNew (w : World) (ds : List Nat) (e : Ending) (w' : World) : Prop := ∃ v, e = .returned v ∧ OwnI w.heap.size w' v ds ∧ Below w.heap.size w w'
set_option maxHeartbeats 400000 in
theorem without_own {v : Value} {ds : List Nat} {w : World} (hlen : ds.length ≤ 2000000000000) (hv : LI w v ds) :
    Calls Tryd.prog 52 #[v] w (OwnNew w (strip ds)) := by
  obtain ⟨A, c, rfl, hc, hA⟩ := hv
  obtain ⟨i0, hi, hz0, hz1, hz2⟩ := info_parts infoInt
  have fin : ∀ (k : Nat) (hk : k ≤ ds.length) (hs : strip ds = ds.take k) (v' : Value) (w' : World), w'.ownsRow w.heap.size 3 1 v' (0 + k) ([] ++ vals (i64f ds) k) → (w.alloc (.cells #[] 3)).grownBy w' (some w.heap.size) → OwnNew w (strip ds) (.returned v') w' := by
    intro k hk hs v' w' h1 h2
    refine ⟨v', rfl, ?_, ((Below.refl _ _).alloc (Nat.le_refl _) _).grown h2 (by simp) (by simp)⟩
    rw [hs]
    unfold OwnI
    have hlk : (ds.take k).length = k := by simp; omega
    rw [map_vals_I, hlk, vals_same fun i hi => i64f_take ds k i hi]
    simpa using h1
  go_enter Tryd.func52, Tryd.ntmps52
  go_wp2
  go_loop [0] (fun v => ∃ k : Nat, k ≤ ds.length ∧ v = .slice A k c ∧ strip ds = strip (ds.take k)) (fun v => match v with | .slice _ k _ => k | _ => 0)
  case atStart => exact ⟨_, Nat.le_refl _, rfl, by rw [List.take_length]⟩
  case round =>
    obtain ⟨k, hk, rfl, hs⟩ := hrel
    have HS := Lib.hid hs
    clear hs
    have hA1 := (hA.less hk).below ((Below.refl _ w).alloc (Nat.le_refl _) (.cells #[] 3))
    by_cases h0 : 0 < k
    · obtain ⟨a, rfl, hab, hcell⟩ := hA (k - 1) (by omega)
      by_cases hx0 : ds.getD (k - 1) 0 = 0
      · have hcell' : w.cell? (a.add (k - 1)) = some (.int .i64 0) := by rw [hcell]; unfold i64f; rw [hx0]; rfl
        have hst := Lib.hid (strip_take_zero ds k hk h0 hx0)
        clear hcell hx0 hA1 fin
        go_wp2
        exact ⟨⟨k - 1, by omega, rfl, by rw [HS.out, hst.out]⟩, by simp; omega⟩
      · obtain ⟨x, hx⟩ : ∃ x : Nat, x = ds.getD (k - 1) 0 := ⟨_, rfl⟩
        have hcell' : w.cell? (a.add (k - 1)) = some (.int .i64 x) := by rw [hcell, hx]; rfl
        have hb : ((x : Int) == 0) = false := by simp; omega
        have hst := Lib.hid (strip_take_pos ds k hk h0 hx0)
        clear hcell hx0 hx
        go_wp2_with (at_builtin; refine wpList_append_cells _ rfl (.tmp 20) (.tmp 21) _ _ rfl w.heap.size 3 3 i0 _ 8 Tryd.underlying28 Tryd.underlying27 hi hz0 hz1 hz2 rfl _ 0 [] rfl (own_empty w 3) w.heap.size (some a) k c (i64f ds) rfl hA1 (fun _ _ => rfl) (by simp [maxLen]; omega) (by omega) (by simp) ?_; intro v' w1 hown1 hgrow1 _; have hf := Lib.hid (fin k hk (HS.out.trans hst.out) v' w1 hown1 hgrow1); clear fin hown1 hgrow1)
        go_ret
        exact hf.out
    · obtain rfl : k = 0 := by omega
      go_wp2_with (at_builtin; refine wpList_append_cells _ rfl (.tmp 20) (.tmp 21) _ _ rfl w.heap.size 3 3 i0 _ 8 Tryd.underlying28 Tryd.underlying27 hi hz0 hz1 hz2 rfl _ 0 [] rfl (own_empty w 3) w.heap.size A 0 c (i64f ds) rfl hA1 (fun _ _ => rfl) (by simp [maxLen]) (by omega) (by simp) ?_; intro v' w1 hown1 hgrow1 _; have hf := Lib.hid (fin 0 hk HS.out v' w1 hown1 hgrow1); clear fin hown1 hgrow1)
      go_ret
      exact hf.out

theorem OwnI.below {base : Nat} {w w' : World} {v : Value} {os : List Nat} (h : OwnI base w v os) (hb : Below w.heap.size w w') : OwnI base w' v os := by
  refine World.ownsRow.kept h (row := none) ⟨hb.os, hb.tape, hb.output, hb.size, fun k hk _ => hb.block k hk⟩ ?_
  rcases ho : v.ownBlock with _ | k
  · exact .inl rfl
  · exact .inr (by simp)
theorem OwnI.far {base : Nat} {w : World} {v : Value} {os : List Nat} (h : OwnI base w v os) {p : Addr} (hp : p.block < base) (u : Value) : OwnI base (w.setCell p u) v os := by
  refine World.ownsRow.kept h (row := some p.block) (grown_setCell (World.grownBy.refl _ _) (.inl rfl) u) ?_
  refine .inr (fun he => ?_)
  have := (World.ownsRow.lt h p.block he).1
  omega

def RefDm (w : World) (q r : Nat) (e : Ending) (w' : World) : Prop := ∃ vq vr, e = .returned (.tuple #[vq, vr, .int .i64 0]) ∧ LI w' vq (digs 1000000 q) ∧ LI w' vr (digs 1000000 r) ∧ Below w.heap.size w w'

set_option maxRecDepth 100000 in
set_option maxHeartbeats 1600000 in
theorem refDivMod_zero {u v : Value} {x : Nat} {w : World} (hu : LI w u (digs 1000000 x)) (hv : LI w v (digs 1000000 0)) :
    Calls Tryd.prog 28 #[u, v] w fun e w' => e = .returned (.tuple #[.slice none 0 0, .slice none 0 0, .int .i64 10]) ∧ w = w' := by
  obtain ⟨A, ca, rfl, hca, hA⟩ := hu
  obtain ⟨B, cb, rfl, hcb, hB⟩ := hv
  have h0 : (digs 1000000 0).length = 0 := rfl
  rw [h0] at hB ⊢
  clear h0 hA hB hca hcb
  go_enter Tryd.func28, Tryd.ntmps28
  go_wp2
  go_ret3
  exact ⟨rfl, rfl⟩

/-- At the head of DivMod's loop: k groups are still to be divided, vr is the rest. -/
def DmR (w : World) (g n : Nat) (ds : List Nat) (y k : Nat) (vr : Value) (W : World) : Prop :=
  ∃ (qs : List Nat) (r : Nat), Row W g 3 n (fun j => if j < k then .int .i64 0 else .int .i64 (qs.getD (j - k) 0 : Nat)) ∧ qs.length + k = n ∧ (∀ q ∈ qs, q < 1000000) ∧ LI W vr (digs 1000000 r) ∧ r < y ∧ val 1000000 qs * y + r = val 1000000 (ds.drop k) ∧ Below w.heap.size w W
theorem dm_math {v y r d q r2 rest : Nat} (h : v * y + r = rest) (hq : q * y + r2 = d + 1000000 * r) : (q + 1000000 * v) * y + r2 = d + 1000000 * rest := by
  rw [← h, Nat.add_mul, Nat.mul_add, ← Nat.mul_assoc]
  omega
theorem dm_next {w W : World} {g n : Nat} {ds : List Nat} {y k q r r2 d : Nat} {qs : List Nat} {vr : Value} (hk : k < ds.length) (hd : d = ds.getD k 0) (hql : qs.length + (k + 1) = n) (hqs : ∀ q ∈ qs, q < 1000000) (hq : q < 1000000) (hv : val 1000000 qs * y + r = val 1000000 (ds.drop (k + 1))) (he : q * y + r2 = d + 1000000 * r) (hr2 : r2 < y)
    (hrow : Row W g 3 n (fun j => if j = k then .int .i64 (q : Nat) else if j < k + 1 then .int .i64 0 else .int .i64 (qs.getD (j - (k + 1)) 0 : Nat))) (hvr : LI W vr (digs 1000000 r2)) (hb : Below w.heap.size w W) : DmR w g n ds y k vr W := by
  refine ⟨q :: qs, r2, hrow.same (fun j _ => ?_), by simp; omega, ?_, hvr, hr2, ?_, hb⟩
  · by_cases h1 : j = k
    · subst h1; simp
    · rw [if_neg h1]
      by_cases h2 : j < k
      · rw [if_pos (by omega), if_pos h2]
      · rw [if_neg (by omega), if_neg h2, show j - k = (j - (k + 1)) + 1 by omega]; simp
  · intro a ha
    rcases List.mem_cons.1 ha with rfl | ha
    · exact hq
    · exact hqs a ha
  · rw [drop_cons ds k hk, ← hd]
    simp only [val]
    exact dm_math hv he
theorem dm_head {d r : Nat} (hd : d < 1000000) : strip (d :: digs 1000000 r) = digs 1000000 (d + 1000000 * r) := by
  rw [strip_digs (b := 1000000) (by omega) _ (by
    intro a ha
    rcases List.mem_cons.1 ha with rfl | ha
    · exact hd
    · exact digs_lt (by omega) r a ha)]
  simp only [val, val_digs (b := 1000000) (by omega)]
theorem dm_list {w : World} {base d : Nat} {v : Value} {ds : List Nat} (h : w.ownsRow base 3 1 v (1 + ds.length) ([.int .i64 (d : Nat)] ++ vals (i64f ds) ds.length)) : LI w v (d :: ds) := by
  have e : [Value.int .i64 (d : Nat)] ++ vals (i64f ds) ds.length = vals (i64f (d :: ds)) (1 + ds.length) := by
    apply List.ext_getElem?
    intro i
    by_cases hi : i < 1 + ds.length
    · rw [vals_get _ _ i hi]
      cases i with
      | zero => rfl
      | succ i =>
        rw [List.getElem?_append_right (by simp), List.length_singleton, Nat.add_sub_cancel, vals_get _ _ i (by omega)]
        simp [i64f]
    · rw [List.getElem?_eq_none (by simp [vals_len]; omega), List.getElem?_eq_none (by simp [vals_len]; omega)]
  rw [e] at h
  exact own_vals_I (by simp; omega) h

theorem Row.grown {w w' : World} {g n b : Nat} {e : TypeId} {f : Nat → Value} (h : Row w g e n f) (hg : w.grownBy w' (some b)) (hne : g ≠ b) : Row w' g e n f :=
  (hg.block g h.lt (by intro e; injection e; omega)).trans h
theorem dm_len {X y L : Nat} (hl : (digs 1000000 y).length ≤ L) (h : X < y * 1000000) : (digs 1000000 X).length ≤ L + 1 := by
  refine digs_len (by omega) (Nat.lt_of_lt_of_le h ?_)
  have h1 := val_lt (b := 1000000) (digs 1000000 y) (digs_lt (by omega) y)
  rw [val_digs (by omega)] at h1
  have h2 : (1000000 : Nat) ^ (digs 1000000 y).length ≤ 1000000 ^ L := Nat.pow_le_pow_right (by omega) hl
  rw [Nat.pow_succ]
  exact Nat.mul_le_mul_right _ (by omega)

set_option maxRecDepth 100000 in
set_option maxHeartbeats 2400000 in
theorem refDivMod_long {u v : Value} {x y : Nat} {w : World} (hlx : (digs 1000000 x).length ≤ 500) (hly : (digs 1000000 y).length ≤ 500) (hy : 0 < y) (hbig : ¬ (x < 18446744073709551616 ∧ y < 18446744073709551616)) (hu : LI w u (digs 1000000 x)) (hv : LI w v (digs 1000000 y)) :
    Calls Tryd.prog 28 #[u, v] w (RefDm w (x / y) (x % y)) := by
  have HU := Lib.hid (refUint64_any (w := w) (by omega) hu)
  have HV := Lib.hid (refUint64_any (w := w) (by omega) hv)
  obtain ⟨a1, b1, hab⟩ := u64Spec_form x
  obtain ⟨a2, b2, hab2⟩ := u64Spec_form y
  have hb12 : b1 = false ∨ b2 = false := by
    unfold U64Spec at hab hab2
    by_cases h1 : x < 18446744073709551616
    · refine .inr ?_
      rw [if_neg (by omega)] at hab2
      simp at hab2
      exact hab2.2
    · refine .inl ?_
      rw [if_neg h1] at hab
      simp at hab
      exact hab.2
  rw [hab] at HU
  rw [hab2] at HV
  have hl0 : (((digs 1000000 y).length : Int) == 0) = false := by
    refine beq_eq_false_iff_ne.2 (fun h => ?_)
    have h1 : digs 1000000 y = [] := List.eq_nil_of_length_eq_zero (by omega)
    have h2 := val_digs (b := 1000000) (by omega) y
    rw [h1] at h2
    simp [val] at h2
    omega
  have HFi := Lib.hid (fun (W : World) (hb : Below w.heap.size w W) (p : Value) (r : Nat) (hlr : (digs 1000000 r).length ≤ 1000) (hq : r / y < 1000000) (hp : LI W p (digs 1000000 r)) => fits_any (w := W) hlr (by omega) hy hq hp (hv.below hb))
  have HTi := Lib.hid (fun (W : World) (hb : Below w.heap.size w W) (m : Nat) (hm : m < 1000000) => times_new (w := W) (M := (m : Int)) rfl (by omega) (by omega) (hv.below hb))
  obtain ⟨A, ca, rfl, hca, hA⟩ := hu
  obtain ⟨B, cb, rfl, hcb, hB⟩ := hv
  obtain ⟨ds, hds⟩ : ∃ ds, ds = digs 1000000 x := ⟨_, rfl⟩
  have HD : Hid (∀ d ∈ ds, d < 1000000) := by rw [hds]; exact digs_lt (by omega) x
  have HVX : Hid (val 1000000 ds = x) := by rw [hds]; exact val_digs (by omega) x
  rw [← hds] at hlx hca hA HU ⊢
  obtain ⟨i0, hi, hz0, hz1, hz2⟩ := info_parts infoInt
  clear hab hab2 hbig hB hds
  go_enter Tryd.func28, Tryd.ntmps28
  go_wp2_with fail
  refine HU.out.mono ?_
  rintro e w1 ⟨rfl, rfl⟩
  go_wp2_with fail
  refine HV.out.mono ?_
  rintro e w1 ⟨rfl, rfl⟩
  clear HU HV
  have hcases : (b1 = false ∧ b2 = false) ∨ (b1 = false ∧ b2 = true) ∨ (b1 = true ∧ b2 = false) := by cases b1 <;> cases b2 <;> simp at hb12 ⊢
  clear hb12
  rcases hcases with ⟨rfl, rfl⟩ | ⟨rfl, rfl⟩ | ⟨rfl, rfl⟩
  all_goals
    go_wp2_with (refine wpList_make_row rfl (.tmp 40) (.tmp 40) _ rfl 3 i0 _ Tryd.underlying27 hi hz0 hz1 rfl _ _ _ _ ds.length rfl rfl rfl rfl (by rw [hz2]; omega) (by simp [maxLen]; omega) _ _ (Below.refl _ _) (Nat.le_refl _) ?_; intro w2 hrow hb2 hs2)
    have hR0 : DmR w1 w1.heap.size ds.length ds y ds.length (.slice (some ⟨w2.heap.size, 0, none⟩) 0 0) (w2.alloc (.cells #[] 3)) := by
      have hba : Below w2.heap.size w2 (w2.alloc (.cells #[] 3)) := (Below.refl _ _).alloc (Nat.le_refl _) _
      refine ⟨[], 0, ((hrow.out.below hba hrow.out.lt).same (fun j hj => by rw [if_pos hj])), by simp, by simp, ⟨_, 0, rfl, Nat.le_refl _, Cells.zero⟩, hy, ?_, hb2.out.trans (hba.mono hb2.out.size)⟩
      rw [List.drop_of_length_le (Nat.le_refl _)]
      simp [val]
    clear hrow hb2 hs2
    go_loopw [12, 13] (fun vr i wr => ∃ k : Nat, i = .int .i64 ((k : Int) - 1) ∧ k ≤ ds.length ∧ DmR w1 w1.heap.size ds.length ds y k vr wr) (fun _ i _ => (intOf i + 1).toNat)
    case atStart => exact ⟨ds.length, rfl, Nat.le_refl _, hR0⟩
    case round =>
      obtain ⟨k, rfl, hk, hR⟩ := hrel
      clear hR0
      by_cases h0 : 0 < k
      · obtain ⟨j, rfl⟩ : ∃ j, k = j + 1 := ⟨k - 1, by omega⟩
        have hje : (((j + 1 : Nat) : Int) - 1) = (j : Int) := by omega
        rw [hje]
        clear hje
        obtain ⟨qs, r, hrow, hql, hqs, hvr, hry, hval, hbw⟩ := hR
        obtain ⟨P, c, rfl, hPc, hP⟩ := hvr
        obtain ⟨a, rfl, hab, hcell⟩ := hA j (by omega)
        obtain ⟨d, hdd⟩ : ∃ d : Nat, d = ds.getD j 0 := ⟨_, rfl⟩
        have hd1 : d < 1000000 := by rw [hdd]; exact getD_lt HD.out j (by omega)
        have hcell' : wr.cell? (a.add j) = some (.int .i64 d) := by rw [hbw.cell (by rw [add_block]; exact hab), hcell, hdd]; rfl
        obtain ⟨X, hX⟩ : ∃ X, X = d + 1000000 * r := ⟨_, rfl⟩
        have hXy : X < y * 1000000 := by
          have : 1000000 * (r + 1) ≤ 1000000 * y := Nat.mul_le_mul_left _ hry
          rw [Nat.mul_comm y]
          omega
        have hXl := dm_len hly hXy
        obtain ⟨q, hqe⟩ : ∃ q, q = X / y := ⟨_, rfl⟩
        obtain ⟨r2, hre⟩ : ∃ r2, r2 = X % y := ⟨_, rfl⟩
        have hq1 : q < 1000000 := by rw [hqe]; exact Nat.div_lt_of_lt_mul hXy
        have hdm := Nat.div_add_mod X y
        rw [← hqe, ← hre] at hdm
        have hXq : Hid (q * y + r2 = d + 1000000 * r) := by
          unfold Hid
          rw [← hX, Nat.mul_comm]
          exact hdm
        have hXs : Hid (X - y * q = r2) := by
          unfold Hid
          omega
        have hr2 : r2 < y := by rw [hre]; exact Nat.mod_lt _ hy
        have hrl : (digs 1000000 r).length ≤ 500 := by
          refine Nat.le_trans ?_ hly
          rcases Nat.lt_or_ge (digs 1000000 y).length (digs 1000000 r).length with h | h
          · have := digs6_shorter h; omega
          · exact h
        have hcL : Cells (wr.alloc (.cells #[.int .i64 (d : Nat)] 3)) wr.heap.size P (digs 1000000 r).length (i64f (digs 1000000 r)) := hP.below ((Below.refl _ wr).alloc (Nat.le_refl _) _)
        have HNX := Lib.hid (fun (W : World) vr' h1 h2 h3 => dm_next (w := w1) (W := W) (g := w1.heap.size) (n := ds.length) (ds := ds) (y := y) (k := j) (q := q) (r := r) (r2 := r2) (d := d) (qs := qs) (vr := vr') (by omega) hdd hql hqs hq1 hval hXq.out hr2 h1 h2 h3)
        have HROW := Lib.hid hrow
        have HX := Lib.hid (show strip (d :: digs 1000000 r) = digs 1000000 X by rw [hX]; exact dm_head hd1)
        have HFi2 := Lib.hid (fun (W : World) (hb : Below w1.heap.size w1 W) p hp => HFi.out W hb p X (by omega) (by rw [← hqe]; exact hq1) hp)
        rw [← hqe] at HFi2
        have HSb := Lib.hid (fun (W : World) (u v : Value) (hu : LI W u (digs 1000000 X)) (hv : LI W v (digs 1000000 (y * q))) => refSub_any (w := W) (by omega) (by have := digs6_mul hly hq1; omega) hu hv)
        rw [hXs.out] at HSb
        have hgl := hrow.lt
        have hwz := hbw.size
        clear hrow hql hqs hval hP hcell hdd hX hXq hXs hqe hre hdm
        go_wp2_with (first | (at_builtin; refine wpList_append_cells _ rfl (.tmp 54) (.tmp 55) _ _ rfl wr.heap.size 3 3 i0 _ 8 Tryd.underlying27 Tryd.underlying28 hi hz0 hz1 hz2 rfl _ 1 [.int .i64 (d : Nat)] rfl (own_one wr _ 3) wr.heap.size P (digs 1000000 r).length c (i64f (digs 1000000 r)) rfl hcL (fun _ _ => rfl) (by simp [maxLen]; omega) (by omega) (by simp) ?_; intro v3 w3 hown hgrow _; have hgr3 : Hid ((wr.alloc (.cells #[.int .i64 (d : Nat)] 3)).grownBy w3 (some wr.heap.size)) := hgrow; have hW3 := Lib.hid (without_own (w := w3) (by simp; omega) (dm_list hown)); rw [HX.out] at hW3; clear hown hgrow) | (go_at_call 52; refine hW3.out.mono ?_; rintro e w4 ⟨v4, rfl, ho4, hb4⟩; have hv4 := ho4.reads))
        have hbw3 : Below w1.heap.size w1 w3 := (hbw.alloc hwz _).grown hgr3.out (by simp; omega) (fun k hk => by cases hk; exact hwz)
        have hbw4 := hbw3.trans (hb4.mono hbw3.size)
        have hrow3 := Row.grown (HROW.out.below ((Below.refl wr.heap.size wr).alloc (Nat.le_refl _) (.cells #[.int .i64 (d : Nat)] 3)) hgl) hgr3.out (by omega)
        have hrow4 := hrow3.below hb4 hrow3.lt
        clear hrow3 hW3
        refine (HFi2.out _ hbw4 _ hv4).mono ?_
        rintro e w5 ⟨rfl, hb5⟩
        have hbw5 := hbw4.trans (hb5.mono hbw4.size)
        have hrow5 := hrow4.below hb5 hrow4.lt
        have hc5 := hrow5.cell j (by omega)
        have hf5 := hrow5.frozen j
        have ho5 := ho4.below hb5
        obtain ⟨w6, hw6⟩ : ∃ w6, w5.setCell ⟨w1.heap.size, j, none⟩ (.int .i64 (q : Int)) = w6 := ⟨_, rfl⟩
        have hrow6 : Row w6 w1.heap.size 3 ds.length (fun i => if i = j then .int .i64 (q : Nat) else if i < j + 1 then .int .i64 0 else .int .i64 (qs.getD (i - (j + 1)) 0 : Nat)) := by
          rw [← hw6]
          exact hrow5.set_ j _ (fun i _ => rfl)
        have hbw6 : Below w1.heap.size w1 w6 := by rw [← hw6]; exact hbw5.setCell (Nat.le_refl _) _
        have hv6 : LI w6 v4 (digs 1000000 X) := by
          rw [← hw6]
          exact (ho5.far (p := ⟨w1.heap.size, j, none⟩) (Nat.lt_of_lt_of_le hgl (by have := hgr3.out.size; simp at this; omega)) _).reads
        have hc6 : w6.cell? ⟨w1.heap.size, j, none⟩ = some (.int .i64 (q : Int)) := by rw [hrow6.cell j (by omega)]; simp
        clear hrow4 hrow5 hv4 ho4 ho5 hb4 hb5 HROW hgr3 hcL HX hbw hbw3 hbw4 hbw5
        go_wp2_with fail
        clear hw6 hc5 hf5
        refine (HTi.out _ hbw6 q hq1).mono ?_
        rintro e w7 ⟨v7, rfl, hv7, hb7⟩
        have hrow7 := hrow6.below hb7 hrow6.lt
        go_wp2_with fail
        refine (HSb.out _ _ _ (hv6.below hb7) hv7).mono ?_
        rintro e w8 ⟨v8, rfl, hv8, hb8⟩
        have hrow8 := hrow7.below hb8 hrow7.lt
        have hbw8 := (hbw6.trans (hb7.mono hbw6.size)).trans (hb8.mono (hbw6.trans (hb7.mono hbw6.size)).size)
        have hfin := Lib.hid (HNX.out w8 v8 hrow8 hv8 hbw8)
        clear hrow6 hrow7 hrow8 hv6 hv7 hv8 hb7 hb8 hbw8 hbw6 HNX
        go_wp2_with fail
        go_roundw
        case rel => exact ⟨j, rfl, by omega, hfin.out⟩
        case measure => simp [intOf]
      · obtain rfl : k = 0 := by omega
        obtain ⟨qs, r, hrow, hql, hqs, hvr, hry, hval, hbw⟩ := hR
        rw [List.drop_zero, HVX.out] at hval
        have hqe : Hid (val 1000000 qs = x / y) := by
          unfold Hid
          rw [← hval, Nat.mul_comm, Nat.mul_add_div hy, Nat.div_eq_of_lt hry, Nat.add_zero]
        have hre : Hid (r = x % y) := by
          unfold Hid
          rw [← hval, Nat.mul_comm, Nat.mul_add_mod, Nat.mod_eq_of_lt hry]
        have hL : LI wr (.slice (some ⟨w1.heap.size, 0, none⟩) ds.length ds.length) qs := LI.of_cells (by omega) (Nat.le_refl _) hrow.cells (fun i _ => by simp [i64f])
        have hs := strip_digs (b := 1000000) (by omega) qs hqs
        rw [hqe.out] at hs
        have HW := Lib.hid (without_any (by omega) hL)
        rw [hs] at HW
        rw [hre.out] at hvr
        clear hs hL hrow hql hqs hval hry
        go_wp2_with (go_at_call 52; refine HW.out.mono ?_; rintro e w3 ⟨v3, rfl, hv3, hb3⟩)
        go_ret3
        exact ⟨_, _, rfl, hv3, hvr.below hb3, hbw.trans (hb3.mono hbw.size)⟩
end Go.Proofs.YtapblmbjbpkieaaDoor
