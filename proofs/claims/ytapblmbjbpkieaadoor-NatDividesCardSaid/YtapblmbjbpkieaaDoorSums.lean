/- Contract of package nat's Add. -/
import Derived.Test.YtapblmbjbpkieaaDoorSub
import Derived.Laws.CopyOwn
namespace Go.Proofs.YtapblmbjbpkieaaDoor
open Go.RowKit

theorem copy_row {g N n : Nat} {L : List Value} {w : World} {f : Nat → Value} (hL : L.length = N) (hN : n ≤ N) (h : w.heap[g]? = some (.cells (splice L 0 (vals f n)).toArray 71 (0, 0))) :
    Row w g 71 N (fun j => if j < n then f j else L.getD j undef) := by
  unfold Row
  rw [h]
  congr 2
  apply Array.ext
  · simp [splice, vals_len]; omega
  · intro i h1 h2
    simp [vals_len] at h2
    simp only [List.getElem_toArray]
    unfold splice
    by_cases hi : i < n
    · simp [vals, hi]
    · simp [vals, hi, List.getElem_append, List.getD]
      rw [List.getElem?_eq_getElem (by omega)]
      simp
      congr 1; omega

theorem size_u32n : (Tryd.prog.info? 71).map (·.size) = some 1 := by kernel_rfl
theorem copy_src {w w1 : World} {P : Option Addr} {n : Nat} {f : Nat → Value} (h : CellsT w 71 P n f) (hb : Below w.heap.size w w1) : 0 < (vals f n).length → ∃ ad, P = some ad ∧ ∀ j v, (vals f n)[j]? = some v → w1.cell? (ad.add j) = some v := by
  intro h0
  rw [vals_len] at h0
  obtain ⟨g, rfl, _, _⟩ := h.2 0 h0
  refine ⟨_, rfl, fun j v hv => ?_⟩
  obtain ⟨hj, rfl⟩ := vals_inv f n j v hv
  obtain ⟨g', h1, h2, h3⟩ := h.2 j hj
  obtain rfl : g = g' := by simpa using h1
  rw [row_at]
  exact (hb.cell (p := ⟨g, j, none⟩) h2.lt).trans h3
theorem row3 {w w1 : World} {o1 o2 o3 : Obj} {e : TypeId} {n : Nat} {f : Nat → Value} (h : Hid (Row w1 ((((w.alloc o1).alloc o2).alloc o3).heap.size) e n f)) : Hid (w1.heap[w.heap.size + 1 + 1 + 1]? = some (.cells (vals f n).toArray e (0, 0))) := by
  have := h.out
  unfold Row at this
  unfold Hid
  simpa using this
/-- The sum's row behind the copy. -/
theorem sum_row {g : Nat} {ps : List Nat} {w : World} (h : Hid (w.heap[g]? = some (.cells (splice (vals (fun _ => .int .u32 0) (ps.length + 1)) 0 (vals (u32f ps) ps.length)).toArray 71 (0, 0)))) :
    ∃ f, RowP w g (ps.length + 1) f 0 (ps.length + 1) (fun j => ps.getD j 0) := by
  have h1 := copy_row (N := ps.length + 1) (vals_len _ _) (by omega) h.out
  refine ⟨_, RowP.of h1 (fun j hj => ?_)⟩
  rw [Nat.zero_add]
  by_cases hlt : j < ps.length
  · simp [hlt, u32f]
  · have : j = ps.length := by omega
    subst this
    simp [vals, List.getD]

theorem sum_math {V p q T k a b c : Nat} (h : T + p * V * c = a + b) (hk : a + b = k) (h1 : a < p) (h2 : b < q) (hq : q ≤ p) (hV : 2 ≤ V) : T = k := by
  rcases Nat.eq_zero_or_pos c with rfl | hc
  · simp at h; omega
  · have h5 : p * V * 1 ≤ p * V * c := Nat.mul_le_mul_left _ hc
    have h6 : p * 2 ≤ p * V := Nat.mul_le_mul_left _ hV
    omega
theorem sum_val {ps qs : List Nat} {t : Nat → Nat} {c k : Nat} (hdp : ∀ d ∈ ps, d < 4294967296) (hdq : ∀ d ∈ qs, d < 4294967296) (hle : qs.length ≤ ps.length) (hk : val 4294967296 ps + val 4294967296 qs = k)
    (h : val 4294967296 (seg t 0 (ps.length + 1)) + 4294967296 ^ (ps.length + 1) * c = val 4294967296 (seg (fun j => ps.getD j 0) 0 (ps.length + 1)) + val 4294967296 qs) : val 4294967296 (seg t 0 (ps.length + 1)) = k := by
  rw [seg_getD_more ps _ (Nat.le_succ _), Nat.pow_succ] at h
  exact sum_math h hk (val_lt ps hdp) (val_lt qs hdq) (Nat.pow_le_pow_right (by decide) hle) (by decide)
theorem rowP_LU {w : World} {g N n c : Nat} {f : Nat → Value} {t : Nat → Nat} (h : RowP w g N f 0 n t) (hn : n ≤ N) (hc : n ≤ c) : LU w (.slice (some ⟨g, 0, none⟩) n c) (seg t 0 n) := by
  refine LU.of_cells (seg_len _ _ _) hc ((Row.cellsT h).less hn) (fun j hj => ?_)
  unfold patch u32f
  rw [if_pos (by omega)]
  simp [seg, List.getD, hj]
theorem seg_lt {t : Nat → Nat} (h : ∀ j, t j < 4294967296) (o n : Nat) : ∀ d ∈ seg t o n, d < 4294967296 := by
  intro d hd
  obtain ⟨j, _, rfl⟩ := List.mem_map.1 hd
  exact h _
theorem One.grown {w w' : World} {g b : Nat} {v : Value} {t : TypeId} (h : One w b v t) (hg : w.grownBy w' (some g)) (hne : b ≠ g) : One w' b v t :=
  (hg.block b h.lt (by intro e; injection e; omega)).trans h

set_option maxRecDepth 100000 in
set_option maxHeartbeats 1500000 in
theorem natAdd_any {u v : Value} {x y : Nat} {w : World} (hlx : (digs 4294967296 x).length ≤ 1000) (hly : (digs 4294967296 y).length ≤ 1000) (hu : IsNat w u x) (hv : IsNat w v y) :
    Calls Tryd.prog 22 #[u, v] w (NewN w (x + y)) := by
  obtain ⟨s, rfl, A, ca, rfl, hca, hA⟩ := hu
  obtain ⟨t, rfl, B, cb, rfl, hcb, hB⟩ := hv
  obtain ⟨xs, hxs⟩ : ∃ xs, xs = digs 4294967296 x := ⟨_, rfl⟩
  obtain ⟨ys, hys⟩ : ∃ ys, ys = digs 4294967296 y := ⟨_, rfl⟩
  have hvx : Hid (val 4294967296 xs = x) := by rw [hxs]; exact val_digs (by omega) x
  have hvy : Hid (val 4294967296 ys = y) := by rw [hys]; exact val_digs (by omega) y
  have hdx : Hid (∀ d ∈ xs, d < 4294967296) := by rw [hxs]; exact digs_lt (by omega) x
  have hdy : Hid (∀ d ∈ ys, d < 4294967296) := by rw [hys]; exact digs_lt (by omega) y
  rw [← hxs] at hlx hca hA ⊢
  rw [← hys] at hly hcb hB ⊢
  clear hxs hys
  obtain ⟨i0, hi, hz0, hz1, hz2⟩ := info_parts infoU32
  by_cases hs : xs.length < ys.length
  case' pos =>
    have hsum : Hid (val 4294967296 ys + val 4294967296 xs = x + y) := by unfold Hid; rw [hvx.out, hvy.out, Nat.add_comm]
    obtain ⟨qs, rfl⟩ : ∃ q, q = xs := ⟨_, rfl⟩
    obtain ⟨ps, rfl⟩ : ∃ q, q = ys := ⟨_, rfl⟩
    obtain ⟨Q, rfl⟩ : ∃ q, q = A := ⟨_, rfl⟩
    obtain ⟨P, rfl⟩ : ∃ q, q = B := ⟨_, rfl⟩
    obtain ⟨cq, rfl⟩ : ∃ q, q = ca := ⟨_, rfl⟩
    obtain ⟨cp, rfl⟩ : ∃ q, q = cb := ⟨_, rfl⟩
    have hP := hB
    have hQ := hA
    have hdp := hdy
    have hdq := hdx
    have hlp := hly
    have hle : qs.length ≤ ps.length := Nat.le_of_lt hs
    clear hA hB hdx hdy hlx hly
  case' neg =>
    have hsum : Hid (val 4294967296 xs + val 4294967296 ys = x + y) := by unfold Hid; rw [hvx.out, hvy.out]
    obtain ⟨ps, rfl⟩ : ∃ q, q = xs := ⟨_, rfl⟩
    obtain ⟨qs, rfl⟩ : ∃ q, q = ys := ⟨_, rfl⟩
    obtain ⟨P, rfl⟩ : ∃ q, q = A := ⟨_, rfl⟩
    obtain ⟨Q, rfl⟩ : ∃ q, q = B := ⟨_, rfl⟩
    obtain ⟨cp, rfl⟩ : ∃ q, q = ca := ⟨_, rfl⟩
    obtain ⟨cq, rfl⟩ : ∃ q, q = cb := ⟨_, rfl⟩
    have hP := hA
    have hQ := hB
    have hdp := hdx
    have hdq := hdy
    have hlp := hlx
    have hle : qs.length ≤ ps.length := Nat.le_of_not_lt hs
    clear hA hB hdx hdy hlx hly
  all_goals
    have hb0 : Below w.heap.size w (((w.alloc (.cells #[.slice P ps.length cp] 26)).alloc (.cells #[.slice Q qs.length cq] 26)).alloc (.cells #[.slice none 0 0] 26)) := (((Below.refl _ w).alloc (Nat.le_refl _) _).alloc (by simp) _).alloc (by simp; omega) _
    have hbP := (((One.new w (.slice P ps.length cp) 26).alloc (.cells #[.slice Q qs.length cq] 26)).alloc (.cells #[.slice none 0 0] 26))
    have hbQ := ((One.new (w.alloc (.cells #[.slice P ps.length cp] 26)) (.slice Q qs.length cq) 26).alloc (.cells #[.slice none 0 0] 26))
    have hbR := One.new ((w.alloc (.cells #[.slice P ps.length cp] 26)).alloc (.cells #[.slice Q qs.length cq] 26)) (.slice none 0 0) 26
    rw [World.size_alloc] at hbQ
    rw [World.size_alloc, World.size_alloc] at hbR
    go_enter Tryd.func22, Tryd.ntmps22
    go_wp2_with (first | (refine wpList_make_row rfl (.tmp 18) (.tmp 18) _ rfl 71 i0 _ Tryd.underlying22 hi hz0 hz1 rfl _ _ _ _ (ps.length + 1) rfl rfl (by rw [Int.natCast_add]; rfl) (by rw [Int.natCast_add]; rfl) (by rw [hz2]; omega) (by simp [maxLen]; omega) _ _ (Below.refl _ _) (Nat.le_refl _) ?_; intro w1 hrow hb1 hs1; have hP1 := (hbP.step hb1.out).cell; have hQ1 := (hbQ.step hb1.out).cell; have hR1 := (hbR.step hb1.out).cell; have hG := row3 hrow; have hbw1 : Hid (Below w.heap.size w w1) := hb0.trans (hb1.out.mono hb0.size); have hoP := hbP.step hb1.out; have hoQ := hbQ.step hb1.out; have hoR := hbR.step hb1.out; clear hrow hb1 hbP hbQ hbR hb0) | (refine wpList_copy_splice rfl (.tmp 20) (.tmp 22) _ _ rfl 71 Tryd.underlying22 size_u32n (some ⟨w.heap.size + 1 + 1 + 1, 0, none⟩) P (ps.length + 1) (ps.length + 1) ps.length cp rfl rfl (w.heap.size + 1 + 1 + 1) 0 (vals (fun _ => .int .u32 0) (ps.length + 1)) 71 hG.out (vals (u32f ps) ps.length) (by rw [vals_len]; exact (Nat.min_eq_left (by omega)).symm) (fun h0 => ⟨rfl, copy_src hP hbw1.out h0⟩) (by rw [vals_len, vals_len]; omega) (fun v hv => by obtain ⟨j, _, rfl⟩ := List.mem_map.1 hv; rfl) (w.heap.size + 1 + 1 + 1) _ (Below.refl _ _) (Nat.le_refl _) ?_; intro w2 HG2 hB2; have oQ2 := hoQ.below hB2 (by omega); have oR2 := hoR.below hB2 (by omega); have hQ2 := oQ2.cell; have hbw2 : Hid (Below w.heap.size w w2) := hbw1.out.trans (hB2.mono (by omega)); obtain ⟨f, hF⟩ := sum_row HG2; have HF := Lib.hid hF; have hQc : Hid (Cells w2 (w.heap.size + 1 + 1 + 1) Q qs.length (u32f qs)) := (hQ.cells.below hbw2.out).more (by omega); clear hF HG2 hB2 hP1 hQ1 hR1 hoP hoQ hoR) | (go_at_call 54; refine (addTo_any (off := 0) (n := ps.length + 1) (N := ps.length + 1) rfl (by omega) (by omega) (by omega) (by omega) hdq.out (fun j => getD_lt0 (by omega) hdp.out j) HF.out hQc.out (Nat.le_refl _)).mono ?_; rintro e w3 ⟨c, t, rfl, ht, htb, htv, -, hgr⟩; have hv3 := Lib.hid (sum_val hdp.out hdq.out hle hsum.out htv); have hL3 := Lib.hid (rowP_LU ht (Nat.le_refl _) (Nat.le_refl _)); have hB3 := Lib.hid (seg_lt htb 0 (ps.length + 1)); have oR3 := oR2.grown hgr (by omega); have hbw3 : Hid (Below w.heap.size w w3) := hbw2.out.grown hgr hbw2.out.size (fun k hk => by cases hk; omega); clear ht htb htv hgr HF hQc hbw2) | (go_at_call 42; refine (fromDigits_new (by rw [seg_len]; omega) hB3.out hL3.out).mono ?_; rintro e w4 ⟨v, rfl, hv4, hb4⟩; rw [hv3.out] at hv4; obtain ⟨A4, n4, c4, -, rfl⟩ := isNat_digs hv4; have oR4 := oR3.step hb4; have hR4 := oR4.cell; have hff := oR4.frozen))
    have oR5 := oR4.set_ (.slice A4 n4 c4)
    refine bodyPost_ret (v := .agg #[.slice A4 n4 c4]) (by simp [results, Tryd.results22, go_sem, oR5.cell]) rfl ?_
    exact ⟨_, rfl, hv4.far oR4.row (by decide) _, (hbw3.out.trans (hb4.mono hbw3.out.size)).setCell (by show w.heap.size ≤ w.heap.size + 1 + 1; omega) _⟩
end Go.Proofs.YtapblmbjbpkieaaDoor
