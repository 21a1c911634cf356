/- Contract of the reference's Sub. -/
import Derived.Test.YtapblmbjbpkieaaDoorDiff
import Derived.Test.YtapblmbjbpkieaaDoorConv
namespace Go.Proofs.YtapblmbjbpkieaaDoor
open Go.RowKit

theorem row_of_owns {base : Nat} {W : World} {e : TypeId} {v : Value} {n : Nat} {f : Nat → Value} (h : W.ownsRow base e 1 v n (vals f n)) (hn : 0 < n) :
    ∃ g N c f', v = .slice (some ⟨g, 0, none⟩) n c ∧ base ≤ g ∧ n ≤ c ∧ n ≤ N ∧ Row W g e N f' ∧ ∀ i, i < n → f' i = f i := by
  have h0 := h
  rcases h.2 with ⟨_, e1⟩ | ⟨g, cap, cur, rfl, hg, hh, hnc, _, hcs, _⟩
  · omega
  · have hc := Cells.of_own h0 (fun i hi => vals_get f n i hi)
    refine ⟨g, cur.size, cap, fun i => cur[i]?.getD undef, rfl, hg, hnc, by omega, ?_, ?_⟩
    · unfold Row
      rw [hh]
      congr 2
      apply Array.ext
      · simp [vals_len]
      · intro i h1 h2
        simp [vals, h1]
    · intro i hi
      obtain ⟨a, ha, _, h1⟩ := hc i hi
      obtain rfl : a = ⟨g, 0, none⟩ := by simpa using ha.symm
      rw [row_at, cell_of_row W g i cur e (0, 0) hh] at h1
      show cur[i]?.getD undef = _
      rw [h1]
      rfl

/-- The row of the difference when i groups are done, with the borrow c at group i. -/
def subF (xs : List Nat) (f : Nat → Value) (t : Nat → Nat) (i c j : Nat) : Value :=
  if j < xs.length then .int .i64 (if j < i then (t j : Int) else if j = i then ((xs.getD j 0 : Nat) : Int) - (c : Int) else ((xs.getD j 0 : Nat) : Int)) else f j
/-- At the head of Sub's loop. -/
def SubR (w : World) (g N : Nat) (f : Nat → Value) (xs ys : List Nat) (i c : Nat) (W : World) : Prop :=
  ∃ t : Nat → Nat, Row W g 3 N (subF xs f t i c) ∧ (∀ j, t j < 1000000) ∧ val 1000000 (seg t 0 i) + val 1000000 (seg (fun j => ys.getD j 0) 0 i) = val 1000000 (seg (fun j => xs.getD j 0) 0 i) + 1000000 ^ i * c ∧
    c ≤ 1 ∧ (c = 0 ∨ i < xs.length) ∧ Below w.heap.size w W
theorem subR_math {t v o p q s d c c' b : Nat} (h : t + v = o + p * c) (hq : q + d + c = s + b * c') : (t + p * q) + (v + p * d) = (o + p * s) + (p * b) * c' := by
  have h2 : p * (q + d + c) = p * (s + b * c') := by rw [hq]
  rw [Nat.mul_add, Nat.mul_add, Nat.mul_add, ← Nat.mul_assoc] at h2
  omega
/-- One round: q is the new group. -/
theorem subR_next {w W' : World} {g N : Nat} {f : Nat → Value} {xs ys : List Nat} {i c c' q : Nat} {t : Nat → Nat} (_hi : i < xs.length) (ht : ∀ j, t j < 1000000) (hv : val 1000000 (seg t 0 i) + val 1000000 (seg (fun j => ys.getD j 0) 0 i) = val 1000000 (seg (fun j => xs.getD j 0) 0 i) + 1000000 ^ i * c)
    (hq : q < 1000000) (hc' : c' ≤ 1) (hm : q + ys.getD i 0 + c = xs.getD i 0 + 1000000 * c') (hend : c' = 0 ∨ i + 1 < xs.length) (hb : Below w.heap.size w W')
    (hr : Row W' g 3 N (subF xs f (fun j => if j = i then q else t j) (i + 1) c')) : SubR w g N f xs ys (i + 1) c' W' := by
  refine ⟨_, hr, ?_, ?_, hc', hend, hb⟩
  · intro j
    show (if j = i then q else t j) < _
    by_cases h : j = i
    · rw [if_pos h]; exact hq
    · rw [if_neg h]; exact ht j
  · rw [seg_succ, val_snoc, seg_len, seg_succ, val_snoc, seg_len, seg_succ, val_snoc, seg_len, Nat.pow_succ]
    have e1 : seg (fun j => if j = i then q else t j) 0 i = seg t 0 i := seg_same fun j hj => if_neg (by omega)
    rw [e1]
    simp only [Nat.zero_add, if_true]
    exact subR_math hv hm
/-- A borrow at the last group: then the second number would be the greater one. -/
theorem subR_last {xs ys : List Nat} {i c q : Nat} {t : Nat → Nat} (hi : i < xs.length) (hl : ys.length ≤ xs.length) (hle : val 1000000 ys ≤ val 1000000 xs) (ht : ∀ j, t j < 1000000) (hv : val 1000000 (seg t 0 i) + val 1000000 (seg (fun j => ys.getD j 0) 0 i) = val 1000000 (seg (fun j => xs.getD j 0) 0 i) + 1000000 ^ i * c)
    (hq : q < 1000000) (hm : q + ys.getD i 0 + c = xs.getD i 0 + 1000000 * 1) : i + 1 < xs.length := by
  rcases Nat.lt_or_ge (i + 1) xs.length with h | h
  · exact h
  · have he : xs.length = i + 1 := by omega
    have h1 := subR_math (p := 1000000 ^ i) hv hm
    have h2 : val 1000000 (seg (fun j => xs.getD j 0) 0 (i + 1)) = val 1000000 xs := seg_getD_any _ _ _ (by omega)
    have h3 : val 1000000 (seg (fun j => ys.getD j 0) 0 (i + 1)) = val 1000000 ys := seg_getD_any _ _ _ (by omega)
    rw [seg_succ, val_snoc, seg_len, Nat.zero_add] at h2 h3
    have h4 := val_lt (b := 1000000) (seg t 0 i) (fun d hd => by obtain ⟨j, _, rfl⟩ := List.mem_map.1 hd; exact ht _)
    rw [seg_len] at h4
    rw [h2, h3] at h1
    have h5 : 1000000 ^ i * q + 1000000 ^ i ≤ 1000000 ^ i * 1000000 := by
      have : 1000000 ^ i * (q + 1) ≤ 1000000 ^ i * 1000000 := Nat.mul_le_mul_left _ hq
      rwa [Nat.mul_add, Nat.mul_one] at this
    omega
def SubE (w : World) (k : Nat) (e : Ending) (w' : World) : Prop := ∃ v, e = .returned (.tuple #[v, .int .i64 0]) ∧ LI w' v (digs 1000000 k) ∧ Below w.heap.size w w'
theorem subR_end {w W : World} {g N c : Nat} {f : Nat → Value} {xs ys : List Nat} (hN : xs.length ≤ N) (hc : xs.length ≤ c) (hl : ys.length ≤ xs.length) {b : Nat} (h : SubR w g N f xs ys xs.length b W) :
    ∃ ds : List Nat, ds.length = xs.length ∧ strip ds = digs 1000000 (val 1000000 xs - val 1000000 ys) ∧ LI W (.slice (some ⟨g, 0, none⟩) xs.length c) ds ∧ Below w.heap.size w W := by
  obtain ⟨t, hr, ht, hv, _, h0, hb⟩ := h
  obtain rfl : b = 0 := by omega
  refine ⟨seg t 0 xs.length, seg_len _ _ _, ?_, ?_, hb⟩
  · rw [strip_digs (b := 1000000) (by omega) _ (fun d hd => by obtain ⟨j, _, rfl⟩ := List.mem_map.1 hd; exact ht _)]
    rw [seg_getD_any _ xs _ (Nat.le_refl _), seg_getD_any _ ys _ hl] at hv
    congr 1
    omega
  · refine LI.of_cells (seg_len _ _ _) hc (fun i hi => hr.cells i (by omega)) (fun j hj => ?_)
    unfold subF i64f
    rw [if_pos hj, if_pos hj]
    simp [seg, List.getD, hj]
theorem subF_set1 (xs : List Nat) (f : Nat → Value) (t : Nat → Nat) (i c q j : Nat) (hi : i < xs.length) : subF xs f (fun j => if j = i then q else t j) (i + 1) 0 j = if j = i then .int .i64 (q : Int) else subF xs f t i c j := by
  unfold subF
  by_cases hj : j = i
  · subst hj; simp [hi]
  · rw [if_neg hj]
    by_cases h1 : j < xs.length
    · rw [if_pos h1, if_pos h1]
      by_cases h2 : j < i
      · rw [if_pos (by omega), if_pos h2]; simp [hj]
      · rw [if_neg (by omega), if_neg h2, if_neg hj]
        by_cases h3 : j = i + 1
        · rw [if_pos h3]; simp
        · rw [if_neg h3]
    · rw [if_neg h1, if_neg h1]
theorem subF_set2 (xs : List Nat) (f : Nat → Value) (t : Nat → Nat) (i c q j : Nat) (hi : i + 1 < xs.length) : subF xs f (fun j => if j = i then q else t j) (i + 1) 1 j = if j = i + 1 then .int .i64 (((xs.getD (i + 1) 0 : Nat) : Int) - 1) else if j = i then .int .i64 (q : Int) else subF xs f t i c j := by
  by_cases hj : j = i + 1
  · subst hj; simp [subF, hi]
  · rw [if_neg hj, ← subF_set1 xs f t i c q j (by omega)]
    unfold subF
    by_cases h1 : j < xs.length
    · rw [if_pos h1, if_pos h1, if_neg hj, if_neg hj]
    · rw [if_neg h1, if_neg h1]

set_option maxRecDepth 100000 in
set_option maxHeartbeats 1600000 in
theorem refSub_less {u v : Value} {x y : Nat} {w : World} (hlx : (digs 1000000 x).length ≤ 1000) (hly : (digs 1000000 y).length ≤ 1000) (hlt : x < y) (hu : LI w u (digs 1000000 x)) (hv : LI w v (digs 1000000 y)) :
    Calls Tryd.prog 21 #[u, v] w fun e w' => e = .returned (.tuple #[.slice none 0 0, .int .i64 2]) ∧ Below w.heap.size w w' := by
  have HC := Lib.hid (refCmp_any (w := w) (by omega) (by omega) hu hv)
  have hci : cmpI x y = -1 := by unfold cmpI; rw [if_pos hlt]
  rw [hci] at HC
  obtain ⟨A, ca, rfl, hca, hA⟩ := hu
  obtain ⟨B, cb, rfl, hcb, hB⟩ := hv
  clear hci hlt hA hB
  go_enter Tryd.func21, Tryd.ntmps21
  go_wp2_with fail
  refine HC.out.mono ?_
  rintro e w1 ⟨rfl, hb1⟩
  go_wp2_with fail
  go_ret2
  exact ⟨rfl, hb1⟩

set_option maxRecDepth 100000 in
set_option maxHeartbeats 2400000 in
theorem refSub_ge {u v : Value} {x y : Nat} {w : World} (hlx : (digs 1000000 x).length ≤ 1000) (hly : (digs 1000000 y).length ≤ 1000) (hle : y ≤ x) (hu : LI w u (digs 1000000 x)) (hv : LI w v (digs 1000000 y)) :
    Calls Tryd.prog 21 #[u, v] w (SubE w (x - y)) := by
  have HC := Lib.hid (refCmp_any (w := w) (by omega) (by omega) hu hv)
  have hci : cmpI x y = 0 ∨ cmpI x y = 1 := by unfold cmpI; rw [if_neg (by omega)]; split <;> simp
  obtain ⟨cc, hcc⟩ : ∃ cc, cmpI x y = cc := ⟨_, rfl⟩
  rw [hcc] at HC hci
  have hc0 : 0 ≤ cc := by omega
  obtain ⟨A, ca, rfl, hca, hA⟩ := hu
  obtain ⟨B, cb, rfl, hcb, hB⟩ := hv
  obtain ⟨xs, hxs⟩ : ∃ xs, xs = digs 1000000 x := ⟨_, rfl⟩
  obtain ⟨ys, hys⟩ : ∃ ys, ys = digs 1000000 y := ⟨_, rfl⟩
  have hll : ys.length ≤ xs.length := by
    rcases Nat.lt_or_ge xs.length ys.length with h | h
    · rw [hxs, hys] at h
      have := digs6_shorter h
      omega
    · exact h
  have hvx : Hid (val 1000000 xs = x) := by rw [hxs]; exact val_digs (by omega) x
  have hvy : Hid (val 1000000 ys = y) := by rw [hys]; exact val_digs (by omega) y
  have hdx : Hid (∀ d ∈ xs, d < 1000000) := by rw [hxs]; exact digs_lt (by omega) x
  have hdy : Hid (∀ d ∈ ys, d < 1000000) := by rw [hys]; exact digs_lt (by omega) y
  have hvle : Hid (val 1000000 ys ≤ val 1000000 xs) := by unfold Hid; rw [hvx.out, hvy.out]; exact hle
  rw [← hxs] at hlx hca hA HC ⊢
  rw [← hys] at hly hcb hB HC ⊢
  obtain ⟨i0, hi, hz0, hz1, hz2⟩ := info_parts infoInt
  clear hci hcc hxs hys hle
  by_cases hx0 : 0 < xs.length
  · go_enter Tryd.func21, Tryd.ntmps21
    go_wp2_with fail
    refine HC.out.mono ?_
    rintro e w1 ⟨rfl, hb1⟩
    have hA1 : Cells (w1.alloc (.cells #[] 3)) w1.heap.size A xs.length (i64f xs) := ((hA.step hb1 hb1.size).below ((Below.refl _ w1).alloc (Nat.le_refl _) (.cells #[] 3)))
    clear HC
    go_wp2_with (at_builtin; refine wpList_append_cells _ rfl (.tmp 12) (.tmp 13) _ _ rfl w1.heap.size 3 3 i0 _ 8 Tryd.underlying27 Tryd.underlying28 hi hz0 hz1 hz2 rfl _ 0 [] rfl (own_empty w1 3) w1.heap.size A xs.length ca (i64f xs) rfl hA1 (fun _ _ => rfl) (by simp [maxLen]; omega) (by omega) (by simp) ?_; intro v' w2 hown hgrow _; rw [Nat.zero_add, List.nil_append] at hown; obtain ⟨g, N, c2, f, rfl, hg, hnc, hN, hrow, hf⟩ := row_of_owns hown hx0; have hgh := Lib.hid hg; have HF := Lib.hid hf; have HR := Lib.hid hrow; have HB : Hid ((w1.alloc (.cells #[] 3)).grownBy w2 (some w1.heap.size)) := hgrow; clear hown hf hrow hgrow hg)
    have hbw2 : Below w.heap.size w w2 := hb1.trans ((((Below.refl _ w1).alloc (Nat.le_refl _) _).grown HB.out (by simp) (fun k hk => by cases hk; exact Nat.le_refl _)).mono hb1.size)
    have hR0 : SubR w g N f xs ys 0 0 w2 := by
      refine ⟨fun _ => 0, HR.out.same (fun j hj => ?_), fun _ => by show (0 : Nat) < 1000000; decide, by simp [seg, val], by omega, .inl rfl, hbw2⟩
      unfold subF
      by_cases h1 : j < xs.length
      · rw [if_pos h1, if_neg (by omega), HF.out j h1]
        by_cases h2 : j = 0
        · subst h2; simp [i64f]
        · rw [if_neg h2]; rfl
      · rw [if_neg h1]
    have hgw : Hid (w.heap.size ≤ g) := Nat.le_trans hb1.size hgh.out
    clear HF HR HB hA1 hbw2 hb1 hgh
    go_loopw [7] (fun i wr => ∃ (ni nc : Nat), i = .int .i64 ni ∧ ni ≤ xs.length ∧ SubR w g N f xs ys ni nc wr) (fun i _ => xs.length - (intOf i).toNat)
    case atStart => exact ⟨0, 0, rfl, by omega, hR0⟩
    case round =>
      obtain ⟨i, c, rfl, hix, hR⟩ := hrel
      clear hR0
      by_cases hlt : i < xs.length
      · have hR2 := hR
        obtain ⟨t, hr, ht, hv, hc1, _, hbw⟩ := hR2
        obtain ⟨s, hs⟩ : ∃ s : Nat, s = xs.getD i 0 := ⟨_, rfl⟩
        have hs1 : s < 1000000 := by rw [hs]; exact getD_lt hdx.out i hlt
        obtain ⟨d, hd⟩ : ∃ d : Nat, d = ys.getD i 0 := ⟨_, rfl⟩
        have hd1 : d < 1000000 := by rw [hd]; exact getD_lt0 (by omega) hdy.out i
        have hf0 := hr.frozen i
        have hf1 := hr.frozen (i + 1)
        have hcs : wr.cell? ⟨g, i, none⟩ = some (.int .i64 ((s : Int) - (c : Int))) := by
          rw [hr.cell i (by omega)]; unfold subF; rw [if_pos hlt, if_neg (by omega), if_pos rfl, hs]
        have hlast : Hid (∀ q, q < 1000000 → q + d + c = s + 1000000 * 1 → i + 1 < xs.length) := by
          intro q h1 h2
          rw [hd, hs] at h2
          exact subR_last hlt hll hvle.out ht hv h1 h2
        have hnx : Hid (∀ q c' W', q < 1000000 → c' ≤ 1 → q + d + c = s + 1000000 * c' → (c' = 0 ∨ i + 1 < xs.length) → Below w.heap.size w W' → Row W' g 3 N (subF xs f (fun j => if j = i then q else t j) (i + 1) c') → SubR w g N f xs ys (i + 1) c' W') := by
          intro q c' W' h1 h2 h3 h4 h5 h6
          rw [hd, hs] at h3
          exact subR_next hlt ht hv h1 h2 h3 h4 h5 h6
        obtain ⟨z, hz⟩ : ∃ z : Int, z = (s : Int) - (c : Int) := ⟨_, rfl⟩
        have hz3 : -1 ≤ z := by omega
        have hz4 : z ≤ 999999 := by omega
        have HZ := Lib.hid hz
        have HD := Lib.hid hd
        rw [← hz] at hcs
        clear hR ht hv hz hs hd
        by_cases hneg : z - (d : Int) < 0
        · obtain ⟨q, hq⟩ : ∃ q : Nat, (q : Int) = z - (d : Int) + 1000000 := ⟨(z - (d : Int) + 1000000).toNat, by omega⟩
          have hq1 : q < 1000000 := by omega
          have hqm : q + d + c = s + 1000000 * 1 := by have := HZ.out; omega
          have hi1 := hlast.out q hq1 hqm
          obtain ⟨r, hr1⟩ : ∃ r : Nat, r = xs.getD (i + 1) 0 := ⟨_, rfl⟩
          have hrl : r < 1000000 := by rw [hr1]; exact getD_lt hdx.out (i + 1) hi1
          have hcn : wr.cell? ⟨g, i + 1, none⟩ = some (.int .i64 (r : Int)) := by
            rw [hr.cell (i + 1) (by omega)]; unfold subF; rw [if_pos hi1, if_neg (by omega), if_neg (by omega), hr1]
          have HQ := Lib.hid hq
          have hst := Lib.hid (fun j => subF_set2 xs f t i c q j hi1)
          rw [← hr1] at hst
          have hfin : Hid (∀ W' : World, Below w.heap.size w W' → Row W' g 3 N (subF xs f (fun j => if j = i then q else t j) (i + 1) 1) → SubR w g N f xs ys (i + 1) 1 W') :=
            fun W' h1 h2 => hnx.out q 1 W' hq1 (by omega) hqm (.inr hi1) h1 h2
          clear hq hqm hr1 hlast hnx
          by_cases hiy : i < ys.length
          · obtain ⟨b, rfl, hbb, hcellb⟩ := hB i hiy
            have hcb' : wr.cell? (b.add i) = some (.int .i64 d) := by rw [hbw.cell (by rw [add_block]; exact hbb), hcellb, HD.out]; rfl
            clear hcellb
            go_wp2
            go_region
            all_goals
              go_wp2
              refine ⟨⟨i + 1, 1, by go_num, by omega, hfin.out _ ?_ ?_⟩, by simp [intOf]; omega⟩
              · exact ((((hbw.setCell hgw.out _).drew).setCell hgw.out _).setCell hgw.out _)
              · exact ((((hr.set_ i _ (fun _ _ => rfl)).drew).set_ i _ (fun _ _ => rfl)).set_ (i + 1) _ (fun j _ => by
                  rw [hst.out j, HQ.out]
                  by_cases h1 : j = i + 1 <;> by_cases h2 : j = i <;> simp [h1, h2]))
          · obtain rfl : d = 0 := by rw [HD.out]; simp [List.getD, show ys.length ≤ i by omega]
            have hzn : z < 0 := by omega
            go_wp2
            refine ⟨⟨i + 1, 1, by go_num, by omega, hfin.out _ ?_ ?_⟩, by simp [intOf]; omega⟩
            · exact ((hbw.setCell hgw.out _).setCell hgw.out _)
            · exact ((hr.set_ i _ (fun _ _ => rfl)).set_ (i + 1) _ (fun j _ => by
                rw [hst.out j, HQ.out]
                by_cases h1 : j = i + 1 <;> by_cases h2 : j = i <;> simp [h1, h2]))
        · obtain ⟨q, hq⟩ : ∃ q : Nat, (q : Int) = z - (d : Int) := ⟨(z - (d : Int)).toNat, by omega⟩
          have hq1 : q < 1000000 := by omega
          have hqm : q + d + c = s + 1000000 * 0 := by have := HZ.out; omega
          have HQ := Lib.hid hq
          have hst := Lib.hid (fun j => subF_set1 xs f t i c q j hlt)
          have hfin : Hid (∀ W' : World, Below w.heap.size w W' → Row W' g 3 N (subF xs f (fun j => if j = i then q else t j) (i + 1) 0) → SubR w g N f xs ys (i + 1) 0 W') :=
            fun W' h1 h2 => hnx.out q 0 W' hq1 (by omega) hqm (.inl rfl) h1 h2
          clear hq hqm hlast hnx
          by_cases hiy : i < ys.length
          · obtain ⟨b, rfl, hbb, hcellb⟩ := hB i hiy
            have hcb' : wr.cell? (b.add i) = some (.int .i64 d) := by rw [hbw.cell (by rw [add_block]; exact hbb), hcellb, HD.out]; rfl
            clear hcellb
            go_wp2
            go_region
            all_goals
              go_wp2
              refine ⟨⟨i + 1, 0, by go_num, by omega, hfin.out _ ?_ ?_⟩, by simp [intOf]; omega⟩
              · exact ((hbw.setCell hgw.out _).drew)
              · exact ((hr.set_ i _ (fun j _ => by rw [hst.out j, HQ.out])).drew)
          · obtain rfl : d = 0 := by rw [HD.out]; simp [List.getD, show ys.length ≤ i by omega]
            have hzn : ¬ z < 0 := by omega
            have hrz : Row wr g 3 N (subF xs f (fun j => if j = i then q else t j) (i + 1) 0) := hr.same (fun j _ => by
              rw [hst.out j, HQ.out]
              by_cases h1 : j = i
              · subst h1
                have h3 := hr.cell j (by omega)
                rw [hcs] at h3
                rw [if_pos rfl, ← Option.some.inj h3]
                simp
              · rw [if_neg h1])
            have HRZ := Lib.hid hrz
            clear hrz
            go_wp2
            exact ⟨⟨i + 1, 0, by go_num, by omega, hfin.out _ hbw HRZ.out⟩, by simp [intOf]; omega⟩
      · obtain rfl : i = xs.length := by omega
        obtain ⟨ds, hdl, hds, hL, hbw⟩ := subR_end hN hnc hll hR
        have HW := Lib.hid (without_any (by omega) hL)
        rw [hds, hvx.out, hvy.out] at HW
        clear hR hdl hds hL
        go_wp2_with (go_at_call 52; refine HW.out.mono ?_; rintro e w3 ⟨v3, rfl, hv3, hb3⟩)
        go_ret2
        exact ⟨v3, rfl, hv3, hbw.trans (hb3.mono hbw.size)⟩
  · obtain rfl : xs = [] := List.eq_nil_of_length_eq_zero (by omega)
    obtain rfl : ys = [] := List.eq_nil_of_length_eq_zero (by simpa using hll)
    have hW := Lib.hid (fun (W : World) (A : Option Addr) (c : Nat) => without_any (w := W) (v := .slice A 0 c) (ds := []) (by simp) ⟨A, c, rfl, Nat.zero_le _, Cells.zero⟩)
    have hxy : Hid (digs 1000000 (x - y) = []) := by unfold Hid; rw [← hvx.out, ← hvy.out]; rfl
    have hs0 : Hid (strip [] = digs 1000000 (x - y)) := by unfold Hid; rw [hxy.out]; rfl
    rw [hs0.out] at hW
    clear hx0 hll hlx hly hxy hs0
    simp only [List.length_nil] at *
    go_enter Tryd.func21, Tryd.ntmps21
    go_wp2_with fail
    refine HC.out.mono ?_
    rintro e w1 ⟨rfl, hb1⟩
    have hA1 : Cells (w1.alloc (.cells #[] 3)) w1.heap.size A 0 (i64f []) := Cells.zero
    clear HC
    go_wp2_with (at_builtin; refine wpList_append_cells _ rfl (.tmp 12) (.tmp 13) _ _ rfl w1.heap.size 3 3 i0 _ 8 Tryd.underlying27 Tryd.underlying28 hi hz0 hz1 hz2 rfl _ 0 [] rfl (own_empty w1 3) w1.heap.size A 0 ca (i64f []) rfl hA1 (fun _ _ => rfl) (by simp [maxLen]) (by omega) (by simp) ?_; intro v' w2 hown hgrow _; rw [Nat.zero_add, List.nil_append] at hown; obtain ⟨A2, c2, rfl⟩ := own_slice hown; have HB : Hid ((w1.alloc (.cells #[] 3)).grownBy w2 (some w1.heap.size)) := hgrow; clear hown hgrow)
    have hbw2 : Below w.heap.size w w2 := hb1.trans ((((Below.refl _ w1).alloc (Nat.le_refl _) _).grown HB.out (by simp) (fun k hk => by cases hk; exact Nat.le_refl _)).mono hb1.size)
    clear HB hA1 hb1
    go_loop [7] (fun i => i = .int .i64 0) (fun i => (intOf i).toNat)
    case atStart => rfl
    case round =>
      subst hrel
      go_wp2_with (go_at_call 52; refine (hW.out _ _ _).mono ?_; rintro e w3 ⟨v3, rfl, hv3, hb3⟩)
      go_ret2
      exact ⟨v3, rfl, hv3, hbw2.trans (hb3.mono hbw2.size)⟩
end Go.Proofs.YtapblmbjbpkieaaDoor
