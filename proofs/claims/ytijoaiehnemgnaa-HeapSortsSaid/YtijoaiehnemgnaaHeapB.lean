/- Contracts: before, has, Len, firstChild. -/
import Derived.Test.YtijoaiehnemgnaaHeapA
import Derived.Test.YtijoaiehnemgnaaHeapN
import Derived.Test.YtijoaiehnemgnaaHBridge
namespace Go.Proofs.Ytijoaiehnemgnaa
open Go.RowKit

/-- The entries' row. -/
def Arr (w : World) (E c L : Nat) (a : Nat → En) : Prop := ∃ f, Row w E 54 (c * 2) f ∧ ∀ j, j < L → f (j * 2) = .int .i64 ((a j).1 : Nat) ∧ f (j * 2 + 1) = .int .i64 (a j).2
def Plc (w : World) (P n : Nat) (pl : Nat → Int) : Prop := Row w P 3 n (fun i => .int .i64 (pl i))
def ent (x : En) : Value := .agg #[.int .i64 (x.1 : Nat), .int .i64 x.2]
section
variable {w w' : World} {E c L P n : Nat} {a : Nat → En} {pl : Nat → Int}
theorem Arr.cell0 (h : Arr w E c L a) (hL : L ≤ c) (j : Nat) (hj : j < L) : w.cell? ⟨E, j * 2, none⟩ = some (.int .i64 ((a j).1 : Nat)) := by
  obtain ⟨f, hr, hf⟩ := h
  rw [hr.cell (j * 2) (by omega), (hf j hj).1]
theorem Arr.cell1 (h : Arr w E c L a) (hL : L ≤ c) (j : Nat) (hj : j < L) : w.cell? ⟨E, j * 2 + 1, none⟩ = some (.int .i64 (a j).2) := by
  obtain ⟨f, hr, hf⟩ := h
  rw [hr.cell (j * 2 + 1) (by omega), (hf j hj).2]
theorem Arr.lt (h : Arr w E c L a) : E < w.heap.size := by obtain ⟨f, hr, _⟩ := h; exact hr.lt
theorem Arr.keep (h : Arr w E c L a) (hk : w'.heap[E]? = w.heap[E]?) : Arr w' E c L a := by obtain ⟨f, hr, hf⟩ := h; exact ⟨f, hk.trans hr, hf⟩
theorem Arr.same {b : Nat → En} (h : Arr w E c L a) (hb : ∀ j, j < L → a j = b j) : Arr w E c L b := by
  obtain ⟨f, hr, hf⟩ := h
  exact ⟨f, hr, fun j hj => by rw [← hb j hj]; exact hf j hj⟩
theorem Plc.keep (h : Plc w P n pl) (hk : w'.heap[P]? = w.heap[P]?) : Plc w' P n pl := hk.trans h
theorem Plc.cell (h : Plc w P n pl) (i : Nat) (hi : i < n) : w.cell? ⟨P, i, none⟩ = some (.int .i64 (pl i)) := Row.cell h i hi
end
theorem put_arr {w : World} {h L c P n E place : Nat} {x : En} {a : Nat → En} {pl : Nat → Int} (hB : HeapB w h (some ⟨E, 0, none⟩) L c P n) (hE : Arr w E c L a) (hP : Plc w P n pl) (hp : place < L) (hi : x.1 < n) (hLc : L ≤ c) (h1 : h ≠ E) (h2 : h ≠ P) (h3 : E ≠ P) :
    Calls Try.prog 22 #[.pointer (some ⟨h, 0, none⟩), .int .i64 (place : Nat), ent x] w fun e w' => (∃ v, e = .returned v) ∧ HeapB w' h (some ⟨E, 0, none⟩) L c P n ∧
      Arr w' E c L (upd a place x) ∧ Plc w' P n (fun i => if i = x.1 then (place : Int) else pl i) ∧ Only w w' E P := by
  obtain ⟨f, hr, hf⟩ := hE
  refine (put_any hB hr hP hp hi hLc h1 h2 h3).mono ?_
  rintro e w' ⟨he, k1, k2, k3, k4⟩
  refine ⟨he, k1, ⟨_, k2, fun j hj => ?_⟩, Row.same k3 (fun j _ => ?_), k4⟩
  · unfold upd
    by_cases e : j = place
    · subst e
      refine ⟨by rw [if_pos rfl, if_pos rfl], by rw [if_neg (by omega), if_pos rfl, if_pos rfl]⟩
    · rw [if_neg e]
      refine ⟨by rw [if_neg (by omega), if_neg (by omega)]; exact (hf j hj).1, by rw [if_neg (by omega), if_neg (by omega)]; exact (hf j hj).2⟩
  · by_cases e : j = x.1
    · dsimp only; rw [if_pos e, if_pos e]
    · dsimp only; rw [if_neg e, if_neg e]

set_option maxRecDepth 100000 in
set_option maxHeartbeats 2000000 in
theorem before_any (x y : En) {w : World} : Calls Try.prog 29 #[ent x, ent y] w fun e w' => e = .returned (.bool (ltB x y)) ∧ Below w.heap.size w w' := by
  obtain ⟨i, k⟩ := x
  obtain ⟨j, l⟩ := y
  unfold ent ltB
  dsimp only
  obtain ⟨w1, hw1⟩ : ∃ w1, ((w.alloc (.cells #[.int .i64 (i : Nat), .int .i64 k] 54)).alloc (.cells #[.int .i64 (j : Nat), .int .i64 l] 54)) = w1 := ⟨_, rfl⟩
  have hb : Below w.heap.size w w1 := by rw [← hw1]; exact ((Below.refl _ w).alloc (Nat.le_refl _) _).alloc (by simp) _
  have g0 : w1.heap[w.heap.size]? = some (.cells #[.int .i64 (i : Nat), .int .i64 k] 54 (0, 0)) := by
    rw [← hw1]; exact (Below.heap_alloc _ _ _ (by simp)).trans (heap_alloc_new w _)
  have g1 : w1.heap[w.heap.size + 1]? = some (.cells #[.int .i64 (j : Nat), .int .i64 l] 54 (0, 0)) := by
    rw [← hw1]
    have := heap_alloc_new (w.alloc (.cells #[.int .i64 (i : Nat), .int .i64 k] 54)) (.cells #[.int .i64 (j : Nat), .int .i64 l] 54)
    simpa using this
  have c0 : w1.cell? ⟨w.heap.size, 0, none⟩ = some (.int .i64 (i : Nat)) := by rw [cell_of_row w1 _ 0 _ _ (0, 0) g0]; rfl
  have c1 : w1.cell? ⟨w.heap.size, 1, none⟩ = some (.int .i64 k) := by rw [cell_of_row w1 _ 1 _ _ (0, 0) g0]; rfl
  have c2 : w1.cell? ⟨w.heap.size + 1, 0, none⟩ = some (.int .i64 (j : Nat)) := by rw [cell_of_row w1 _ 0 _ _ (0, 0) g1]; rfl
  have c3 : w1.cell? ⟨w.heap.size + 1, 1, none⟩ = some (.int .i64 l) := by rw [cell_of_row w1 _ 1 _ _ (0, 0) g1]; rfl
  clear g0 g1
  by_cases h : k = l
  · subst h
    rw [if_pos rfl]
    go_enter Try.func29, Try.ntmps29
    go_wp2
    try go_ret
    exact ⟨rfl, hb⟩
  · rw [if_neg h]
    have hne : (k == l) = false := beq_eq_false_iff_ne.2 h
    go_enter Try.func29, Try.ntmps29
    go_wp2
    try go_ret
    exact ⟨rfl, hb⟩

set_option maxRecDepth 100000 in
set_option maxHeartbeats 4000000 in
theorem firstChild_any {w : World} {h L c P n E place : Nat} {a : Nat → En} (hB : HeapB w h (some ⟨E, 0, none⟩) L c P n) (hE : Arr w E c L a) (hLc : L ≤ c) (hL : L ≤ 100000) (hp : place < L) :
    Calls Try.prog 28 #[.pointer (some ⟨h, 0, none⟩), .int .i64 (place : Nat)] w fun e w' => (∃ r, e = .returned (.int .i64 r) ∧ FC a L place r) ∧ Below w.heap.size w w' := by
  obtain ⟨d, hd⟩ : ∃ d : Nat, d = 2 * place := ⟨_, rfl⟩
  obtain ⟨l, hl⟩ : ∃ l : Nat, l = 2 * place + 1 := ⟨_, rfl⟩
  obtain ⟨r, hr⟩ : ∃ r : Nat, r = 2 * place + 2 := ⟨_, rfl⟩
  have hwa : IntKind.i64.wrap (2 * (place : Int)) = (d : Int) := by rw [show 2 * (place : Int) = (d : Int) by omega]; exact IntWalk.i64_in _ (by omega)
  have hwb : IntKind.i64.wrap ((d : Int) + 1) = (l : Int) := by rw [show (d : Int) + 1 = (l : Int) by omega]; exact IntWalk.i64_in _ (by omega)
  have hwc : IntKind.i64.wrap ((d : Int) + 2) = (r : Int) := by rw [show (d : Int) + 2 = (r : Int) by omega]; exact IntWalk.i64_in _ (by omega)
  have c0 := hB.cell0
  by_cases h1 : L ≤ l
  · have hfc : FC a L place (-1) := fc_none (by omega)
    have h1' : (L : Int) ≤ (l : Int) := by omega
    clear hd hl hr
    go_enter Try.func28, Try.ntmps28
    go_wp2
    try go_ret
    exact ⟨⟨_, rfl, hfc⟩, Below.refl _ _⟩
  · have hln : ¬ ((L : Int) ≤ (l : Int)) := by omega
    by_cases h2 : L ≤ r
    · have hfc : FC a L place (l : Int) := by rw [hl]; exact fc_left (by omega) (fun h => by omega)
      have h2' : ¬ (r < L) := by omega
      clear hd hl hr
      go_enter Try.func28, Try.ntmps28
      go_wp2_with fail
      refine wp_region_held_drew (S := fun W' => W'.cell? ⟨h, 0, none⟩ = some (.slice (some ⟨E, 0, none⟩) L c)) (by kernel_rfl) c0 (fun hHeld => ?_)
      refine wpAnyH_takeD 0 (v := ?_) rfl rfl (by kernel_rfl) (by kernel_rfl) (by kernel_rfl) (fun _ _ _ h => h) (Or.inl ⟨by rfl, ?_⟩) hHeld ?_
      rotate_left
      focus (intro w hSw; (try dsimp only at hSw); go_simp; try with_reducible rfl)
      simp only [List.setIfInBounds_toArray, List.set_cons_zero, List.set_cons_succ]
      refine wpAnyH_takeD 1 (v := ?_) rfl rfl (by kernel_rfl) (by kernel_rfl) (by kernel_rfl) (fun _ _ _ h => h) (Or.inl ⟨by rfl, ?_⟩) hHeld ?_
      rotate_left
      focus (intro w hSw; (try dsimp only at hSw); go_simp; try with_reducible rfl)
      simp only [List.setIfInBounds_toArray, List.set_cons_zero, List.set_cons_succ]
      refine wpAnyH_takeD 2 (v := ?_) rfl rfl (by kernel_rfl) (by kernel_rfl) (by kernel_rfl) (fun _ _ _ h => h) (Or.inl ⟨by rfl, ?_⟩) hHeld ?_
      rotate_left
      focus (intro w hSw; (try dsimp only at hSw); go_simp; try with_reducible rfl)
      simp only [List.setIfInBounds_toArray, List.set_cons_zero, List.set_cons_succ]
      refine wpAnyH_takeD 3 (v := ?_) rfl rfl (by kernel_rfl) (by kernel_rfl) (by kernel_rfl) (fun _ _ _ h => h) (Or.inl ⟨by rfl, ?_⟩) hHeld ?_
      rotate_left
      focus (intro w hSw; (try dsimp only at hSw); go_simp; try with_reducible rfl)
      simp only [List.setIfInBounds_toArray, List.set_cons_zero, List.set_cons_succ]
      refine wpAnyH_takeD 4 (v := ?_) rfl rfl (by kernel_rfl) (by kernel_rfl) (by kernel_rfl) (fun _ _ _ h => h) (Or.inl ⟨by rfl, ?_⟩) hHeld ?_
      rotate_left
      focus (intro w hSw; (try dsimp only at hSw); go_simp; try with_reducible rfl)
      simp only [List.setIfInBounds_toArray, List.set_cons_zero, List.set_cons_succ]
      refine wpAnyH_takeD 5 (v := ?_) rfl rfl (by kernel_rfl) (by kernel_rfl) (by kernel_rfl) (fun _ _ _ h => h) (Or.inl ⟨by rfl, ?_⟩) hHeld ?_
      rotate_left
      focus (intro w hSw; (try dsimp only at hSw); go_simp; try with_reducible rfl)
      simp only [List.setIfInBounds_toArray, List.set_cons_zero, List.set_cons_succ]
      refine wpAnyH_takeD 6 (v := ?_) rfl rfl (by kernel_rfl) (by kernel_rfl) (by kernel_rfl) (fun _ _ _ h => h) (Or.inl ⟨by rfl, ?_⟩) hHeld ?_
      rotate_left
      focus (intro w hSw; (try dsimp only at hSw); go_simp; try with_reducible rfl)
      simp only [List.setIfInBounds_toArray, List.set_cons_zero, List.set_cons_succ]
      refine wpAnyH_takeD 7 (v := ?_) rfl rfl (by kernel_rfl) (by kernel_rfl) (by kernel_rfl) (fun _ _ _ h => h) (Or.inl ⟨by rfl, ?_⟩) hHeld ?_
      rotate_left
      focus (intro w hSw; (try dsimp only at hSw); go_simp; try with_reducible rfl)
      simp only [List.setIfInBounds_toArray, List.set_cons_zero, List.set_cons_succ]
      refine wpAnyH_takeD 8 (v := undef) rfl rfl (by kernel_rfl) (by kernel_rfl) (by kernel_rfl) (fun _ _ _ h => h) (Or.inr ⟨by rfl, rfl⟩) hHeld ?_
      simp only [List.setIfInBounds_toArray, List.set_cons_zero, List.set_cons_succ]
      refine wpAnyH_takeD 9 (v := undef) rfl rfl (by kernel_rfl) (by kernel_rfl) (by kernel_rfl) (fun _ _ _ h => h) (Or.inr ⟨by rfl, rfl⟩) hHeld ?_
      simp only [List.setIfInBounds_toArray, List.set_cons_zero, List.set_cons_succ]
      refine wpAnyH_takeD 10 (v := undef) rfl rfl (by kernel_rfl) (by kernel_rfl) (by kernel_rfl) (fun _ _ _ h => h) (Or.inr ⟨by rfl, rfl⟩) hHeld ?_
      simp only [List.setIfInBounds_toArray, List.set_cons_zero, List.set_cons_succ]
      refine wpAnyH_takeD 11 (v := undef) rfl rfl (by kernel_rfl) (by kernel_rfl) (by kernel_rfl) (fun _ _ _ h => h) (Or.inr ⟨by rfl, rfl⟩) hHeld ?_
      simp only [List.setIfInBounds_toArray, List.set_cons_zero, List.set_cons_succ]
      refine wpAnyH_takeD 12 (v := undef) rfl rfl (by kernel_rfl) (by kernel_rfl) (by kernel_rfl) (fun _ _ _ h => h) (Or.inr ⟨by rfl, rfl⟩) hHeld ?_
      simp only [List.setIfInBounds_toArray, List.set_cons_zero, List.set_cons_succ]
      refine wpAnyH_takeD 13 (v := undef) rfl rfl (by kernel_rfl) (by kernel_rfl) (by kernel_rfl) (fun _ _ _ h => h) (Or.inr ⟨by rfl, rfl⟩) hHeld ?_
      simp only [List.setIfInBounds_toArray, List.set_cons_zero, List.set_cons_succ]
      refine wpAnyH_takeD 14 (v := undef) rfl rfl (by kernel_rfl) (by kernel_rfl) (by kernel_rfl) (fun _ _ _ h => h) (Or.inr ⟨by rfl, rfl⟩) hHeld ?_
      simp only [List.setIfInBounds_toArray, List.set_cons_zero, List.set_cons_succ]
      refine wpAnyH_takeD 15 (v := undef) rfl rfl (by kernel_rfl) (by kernel_rfl) (by kernel_rfl) (fun _ _ _ h => h) (Or.inr ⟨by rfl, rfl⟩) hHeld ?_
      simp only [List.setIfInBounds_toArray, List.set_cons_zero, List.set_cons_succ]
      refine wpAnyH_takeD 16 (v := undef) rfl rfl (by kernel_rfl) (by kernel_rfl) (by kernel_rfl) (fun _ _ _ h => h) (Or.inr ⟨by rfl, rfl⟩) hHeld ?_
      simp only [List.setIfInBounds_toArray, List.set_cons_zero, List.set_cons_succ]
      refine wpAnyH_takeD 17 (v := undef) rfl rfl (by kernel_rfl) (by kernel_rfl) (by kernel_rfl) (fun _ _ _ h => h) (Or.inr ⟨by rfl, rfl⟩) hHeld ?_
      simp only [List.setIfInBounds_toArray, List.set_cons_zero, List.set_cons_succ]
      refine wpAnyH_takeD 18 (v := undef) rfl rfl (by kernel_rfl) (by kernel_rfl) (by kernel_rfl) (fun _ _ _ h => h) (Or.inr ⟨by rfl, rfl⟩) hHeld ?_
      simp only [List.setIfInBounds_toArray, List.set_cons_zero, List.set_cons_succ]
      refine wpAnyH_takeD 19 (v := undef) rfl rfl (by kernel_rfl) (by kernel_rfl) (by kernel_rfl) (fun _ _ _ h => h) (Or.inr ⟨by rfl, rfl⟩) hHeld ?_
      simp only [List.setIfInBounds_toArray, List.set_cons_zero, List.set_cons_succ]
      refine wpAnyH_takeD 20 (v := undef) rfl rfl (by kernel_rfl) (by kernel_rfl) (by kernel_rfl) (fun _ _ _ h => h) (Or.inr ⟨by rfl, rfl⟩) hHeld ?_
      simp only [List.setIfInBounds_toArray, List.set_cons_zero, List.set_cons_succ]
      refine wpAnyH_takeD 21 (v := undef) rfl rfl (by kernel_rfl) (by kernel_rfl) (by kernel_rfl) (fun _ _ _ h => h) (Or.inr ⟨by rfl, rfl⟩) hHeld ?_
      simp only [List.setIfInBounds_toArray, List.set_cons_zero, List.set_cons_succ]
      refine wpAnyH_takeD 22 (v := undef) rfl rfl (by kernel_rfl) (by kernel_rfl) (by kernel_rfl) (fun _ _ _ h => h) (Or.inr ⟨by rfl, rfl⟩) hHeld ?_
      simp only [List.setIfInBounds_toArray, List.set_cons_zero, List.set_cons_succ]
      refine wpAnyH_takeD 23 (v := ?_) rfl rfl (by kernel_rfl) (by kernel_rfl) (by kernel_rfl) (fun _ _ _ h => h) (Or.inl ⟨by rfl, ?_⟩) hHeld ?_
      rotate_left
      focus (intro w hSw; (try dsimp only at hSw); go_simp; try with_reducible rfl)
      simp only [List.setIfInBounds_toArray, List.set_cons_zero, List.set_cons_succ]
      refine wpAnyH_takeD 24 (v := ?_) rfl rfl (by kernel_rfl) (by kernel_rfl) (by kernel_rfl) (fun _ _ _ h => h) (Or.inl ⟨by rfl, ?_⟩) hHeld ?_
      rotate_left
      focus (intro w hSw; (try dsimp only at hSw); go_simp; try with_reducible rfl)
      simp only [List.setIfInBounds_toArray, List.set_cons_zero, List.set_cons_succ]
      refine wpAnyH_done (by kernel_rfl) ?_ _
      go_wp2
      try go_ret
      exact ⟨⟨_, rfl, hfc⟩, (Below.refl _ _).drew⟩
    · have h2' : r < L := by omega
      have h2'' : (r : Int) < (L : Int) := by omega
      have hl0 : (0 : Int) ≤ (l : Int) := by omega
      have hr0 : (0 : Int) ≤ (r : Int) := by omega
      have hlL : (l : Int) < (L : Int) := by omega
      have e0 := hE.cell0 hLc l (by omega)
      have e1 := hE.cell1 hLc l (by omega)
      have e2 := hE.cell0 hLc r (by omega)
      have e3 := hE.cell1 hLc r (by omega)
      have HFC : Hid (FC a L place (if ltB (a r) (a l) = true then (r : Int) else (l : Int))) := by
        unfold Hid
        cases hb : ltB (a r) (a l)
        · rw [if_neg (by simp), hl]
          rw [hr, hl] at hb
          exact fc_left (by omega) (fun _ => (ltB_not _ _).1 hb)
        · rw [if_pos rfl, hr]
          rw [hr, hl] at hb
          exact fc_right (by omega) ((ltB_iff _ _).1 hb)
      have HBF := Lib.hid (fun W : World => before_any (a r) (a l) (w := W))
      unfold ent at HBF
      generalize ltB (a r) (a l) = bb at HFC HBF
      have HC := Lib.hid (And.intro hB hE)
      clear hd hl hr hB hE
      go_enter Try.func28, Try.ntmps28
      go_wp2_with fail
      go_region_held3 (fun W' => W'.cell? ⟨h, 0, none⟩ = some (.slice (some ⟨E, 0, none⟩) L c) ∧ W'.cell? ⟨E, l * 2, none⟩ = some (.int .i64 ((a l).1 : Nat)) ∧ W'.cell? ⟨E, l * 2 + 1, none⟩ = some (.int .i64 (a l).2) ∧ W'.cell? ⟨E, r * 2, none⟩ = some (.int .i64 ((a r).1 : Nat)) ∧ W'.cell? ⟨E, r * 2 + 1, none⟩ = some (.int .i64 (a r).2))
        (first | exact ⟨c0, e0, e1, e2, e3⟩ | go_keep)
        ((go_at_call 29; refine (HBF.out _).mono ?_; rintro e w' ⟨rfl, hb⟩; have hbf : Below w.heap.size w w' := (Below.refl _ w).drew.trans hb; have k0 := (HC.out.1.keep (hb.block h HC.out.1.lt)).cell0; have kE := HC.out.2.keep (hb.block E HC.out.2.lt); have k1 := kE.cell0 hLc l (by omega); have k2 := kE.cell1 hLc l (by omega); have k3 := kE.cell0 hLc r (by omega); have k4 := kE.cell1 hLc r (by omega); replace c0 := k0; replace e0 := k1; replace e1 := k2; replace e2 := k3; replace e3 := k4; clear k0 kE k1 k2 k3 k4))
      have HFC2 := HFC.out
      cases bb
      · rw [if_neg (by simp)] at HFC2
        go_wp2
        try go_ret
        exact ⟨⟨_, rfl, HFC2⟩, hbf⟩
      · rw [if_pos rfl] at HFC2
        go_wp2
        try go_ret
        exact ⟨⟨_, rfl, HFC2⟩, hbf⟩
end Go.Proofs.Ytijoaiehnemgnaa
