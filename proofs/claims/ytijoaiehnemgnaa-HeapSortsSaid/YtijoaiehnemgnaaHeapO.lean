/- The walk of the law HeapSorts. -/
import Derived.Test.YtijoaiehnemgnaaHeapZ
namespace Go.Proofs.Ytijoaiehnemgnaa
open Go.RowKit

/-- The last i of n items are set. -/
def tailM (ks : Nat → Int) (n i : Nat) : Nat → Option Int := fun j => if n - i ≤ j ∧ j < n then some (ks j) else none
section
variable {ks : Nat → Int} {n i : Nat}
theorem tailM_zero : tailM ks n 0 = fun _ => none := by funext j; unfold tailM; rw [if_neg (by omega)]
theorem tailM_mset (h : i < n) : mset (tailM ks n i) (n - 1 - i) (some (ks (n - 1 - i))) = tailM ks n (i + 1) := by
  funext j
  unfold mset tailM
  by_cases e : j = n - 1 - i
  · subst e; rw [if_pos rfl, if_pos (by omega)]
  · rw [if_neg e]
    by_cases h1 : n - i ≤ j ∧ j < n
    · rw [if_pos h1, if_pos (by omega)]
    · rw [if_neg h1, if_neg (by omega)]
theorem tailM_step (h : i < n) : setM (tailM ks n i) n ((n - 1 - i : Nat) : Int) (ks (n - 1 - i)) = tailM ks n (i + 1) := by
  unfold setM
  rw [if_pos ⟨by omega, by omega⟩, Int.toNat_natCast]
  exact tailM_mset h
theorem setE_tail (h : i < n) : setE n ((n - 1 - i : Nat) : Int) = 0 := by unfold setE; rw [if_pos ⟨by omega, by omega⟩]
theorem tailM_cnt : ∀ i, i ≤ n → cnt (tailM ks n i) n = i
  | 0, _ => by rw [tailM_zero, cnt_nothing]
  | i + 1, h => by
    have h1 := cnt_set (tailM ks n i) (n - 1 - i) (some (ks (n - 1 - i))) n (by omega)
    rw [tailM_mset (by omega), tailM_cnt i (by omega)] at h1
    have h2 : tailM ks n i (n - 1 - i) = none := by unfold tailM; rw [if_neg (by omega)]
    rw [h2] at h1
    simpa using h1
end

/-- j items have been popped, the last of them v; M is what remains. -/
def SortI (ks : Nat → Int) (n j : Nat) (pop : Nat → Bool) (M : Nat → Option Int) (v : Int) : Prop :=
  (∀ i, M i = if i < n ∧ pop i = false then some (ks i) else none) ∧ cnt M n + j = n ∧ (v = -1 ∨ ∃ l : Nat, v = (l : Int) ∧ l < n ∧ ∀ i k, M i = some k → ks l < k ∨ (ks l = k ∧ l < i))
theorem sort_first {ks : Nat → Int} {n : Nat} : SortI ks n 0 (fun _ => false) (tailM ks n n) (-1) := by
  refine ⟨fun i => ?_, by rw [tailM_cnt n (Nat.le_refl _)]; omega, .inl rfl⟩
  unfold tailM
  by_cases h : i < n
  · rw [if_pos ⟨by omega, h⟩, if_pos ⟨h, rfl⟩]
  · rw [if_neg (by omega), if_neg (by omega)]
def popped (pop : Nat → Bool) (i : Nat) : Nat → Bool := fun x => decide (x = i) || pop x
theorem sort_step {ks : Nat → Int} {n j i : Nat} {k v : Int} {pop : Nat → Bool} {M : Nat → Option Int} (hI : SortI ks n j pop M v) (hi : i < n) (hF : First M i k) :
    k = ks i ∧ pop i = false ∧ (∀ l : Nat, v = (l : Int) → ¬ ks i < ks l ∧ (ks i = ks l → ¬ i < l)) ∧ SortI ks n (j + 1) (popped pop i) (mset M i none) (i : Int) := by
  obtain ⟨h1, h2, h3⟩ := hI
  obtain ⟨f1, f2⟩ := hF
  have hM := h1 i
  rw [f1] at hM
  have hp : i < n ∧ pop i = false := by
    by_cases h : i < n ∧ pop i = false
    · exact h
    · rw [if_neg h] at hM; cases hM
  rw [if_pos hp] at hM
  injection hM with hM
  subst hM
  refine ⟨rfl, hp.2, fun l hl => ?_, fun x => ?_, ?_, .inr ⟨i, rfl, hi, fun x k hx => ?_⟩⟩
  · rcases h3 with h3 | ⟨l', e, _, h4⟩
    · omega
    · obtain rfl : l' = l := by omega
      have := h4 i _ f1
      exact ⟨by omega, by omega⟩
  · unfold mset popped
    by_cases e : x = i
    · rw [if_pos e, if_neg (by simp [e])]
    · rw [if_neg e, h1 x]
      simp [e]
  · have := cnt_set M i none n hi
    rw [f1] at this
    simp at this
    omega
  · unfold mset at hx
    by_cases e : x = i
    · rw [if_pos e] at hx; cases hx
    · rw [if_neg e] at hx
      have := f2 x k hx
      omega
/-- In memory: the heap, and the row of the items seen. -/
def SortH (w : World) (h P S n : Nat) (M : Nat → Option Int) (pop : Nat → Bool) (W : World) : Prop :=
  HS w [S] h P n M W ∧ Oth [S] h P W ∧ Row W S 4 n (fun i => .bool (pop i)) ∧ w.heap.size ≤ S ∧ (w.heap.size ≤ h ∧ w.heap.size ≤ P)
section
variable {w W W' : World} {h P S n : Nat} {M M' : Nat → Option Int} {pop : Nat → Bool}
theorem SortH.below (hp : SortH w h P S n M pop W) : Below w.heap.size w W := by obtain ⟨⟨_, _, _, _, hb⟩, _⟩ := hp; exact hb
theorem sort_begin (hw : w.heap.size ≤ h ∧ w.heap.size ≤ P) (hH : HS w [] h P n M W) (hrow : Row W' W.heap.size 4 n (fun _ => .bool false)) (hb : Below W.heap.size W W') : SortH w h P W.heap.size n M (fun _ => false) W' := by
  obtain ⟨E, a1, a2, a3, a4⟩ := hH
  have l := a1.lt
  refine ⟨⟨E, a1.below hb, a2, by simp; omega, a4.trans (hb.mono a4.size)⟩, fun k hk => ?_, hrow, a4.size, hw⟩
  obtain rfl : k = W.heap.size := by simpa using hk
  exact ⟨hrow.lt, by omega, by omega⟩
theorem SortH.heap (hp : SortH w h P S n M pop W) (h1 : HS w [S] h P n M' W') (h2 : Same [S] W W') : SortH w h P S n M' pop W' := by
  obtain ⟨k1, k2, k3, k4, k5⟩ := hp
  exact ⟨h1, k2.same h2, (h2.1 S (by simp)).trans k3, k4, k5⟩
theorem SortH.store (hp : SortH w h P S n M pop W) (i : Nat) : SortH w h P S n M (popped pop i) (W.setCell ⟨S, i, none⟩ (.bool true)) := by
  obtain ⟨⟨E, a1, a2, a3, a4⟩, k2, k3, k4, k5⟩ := hp
  have hS := k2 S (by simp)
  have hE : E ≠ S := fun e => a3 (by simp [e])
  have far : ∀ k, k ≠ S → (W.setCell ⟨S, i, none⟩ (.bool true)).heap[k]? = W.heap[k]? := fun k hk => Below.heap_setCell W ⟨S, i, none⟩ _ k hk
  have hb := a4.setCell k4 (.bool true) (p := ⟨S, i, none⟩)
  have hsz := ((Below.refl 0 W).setCell (Nat.zero_le _) (.bool true) (p := ⟨S, i, none⟩)).size
  refine ⟨⟨E, a1.keep (far h (Ne.symm hS.2.1)) (far E hE) (far P (Ne.symm hS.2.2)), a2, a3, hb⟩, fun k hk => ?_, k3.set_ i (.bool true) (fun j _ => ?_), k4, k5⟩
  · obtain rfl : k = S := by simpa using hk
    have : (W.setCell ⟨k, i, none⟩ (.bool true)).heap.size = W.heap.size := by simp [World.setCell]
    exact ⟨by omega, hS.2⟩
  · unfold popped
    by_cases e : j = i <;> simp [e]
end
theorem sort_end {ks : Nat → Int} {n i : Nat} {k v : Int} {pop : Nat → Bool} {M : Nat → Option Int} (hI : SortI ks n n pop M v) (hi : i < n) (hF : First M i k) : False := by
  have h0 : cnt M n = 0 := by have := hI.2.1; omega
  have := cnt_zero h0 i hi
  rw [hF.1] at this
  cases this

set_option maxRecDepth 100000 in
set_option maxHeartbeats 8000000 in
theorem lawSorts_many {w : World} {n c1 : Nat} {A : Option Addr} (h : 300 < n) :
    Calls Try.prog 4 #[.slice A n c1] w fun e w' => e = .returned (.bool true) ∧ Below w.heap.size w w' := by
  have h' : (300 : Int) < (n : Int) := by omega
  go_enter Try.func4, Try.ntmps4
  go_wp2_with fail
  refine awake_any.mono ?_
  rintro e w1 ⟨rfl, hb1⟩
  go_wp2_with fail
  go_ret
  exact ⟨rfl, hb1⟩

set_option maxRecDepth 100000 in
set_option maxHeartbeats 16000000 in
theorem lawSorts_few {w : World} {n c1 : Nat} {A : Option Addr} {ks : Nat → Int} (hn : n ≤ 300) (hA : IntL w A n ks) :
    Calls Try.prog 4 #[.slice A n c1] w fun e w' => e = .returned (.bool true) ∧ Below w.heap.size w w' := by
  obtain ⟨ib, hib, hz0, hz1, hz2⟩ := info_parts infoBool
  have hN := Lib.hid (fun W : World => new_any (w := W) (n := n) (by omega))
  have h1 : ¬ (300 < n) := by omega
  have h1' : ¬ (300 : Int) < (n : Int) := by omega
  have HA := Lib.hid hA
  clear hA
  go_enter Try.func4, Try.ntmps4
  go_wp2_with fail
  refine awake_any.mono ?_
  rintro e w1 ⟨rfl, hb1⟩
  go_wp2_with fail
  refine (hN.out _).mono ?_
  rintro e w2 hnew
  obtain ⟨h, P, rfl, hw, -, hH, -⟩ := new_hs hb1 hnew [] (fun k hk => by simp at hk)
  rw [← tailM_zero (ks := ks) (n := n)] at hH
  have HW := Lib.hid hw
  have H2 := Lib.hid hH
  clear hnew hw hH hN hb1
  go_wp2_with fail
  go_loopw [33] (fun v wr => ∃ i : Nat, v = .int .i64 (i : Nat) ∧ i ≤ n ∧ Hid (HS w [] h P n (tailM ks n i) wr)) (fun v _ => n - (intOf v).toNat)
  case atStart => exact ⟨0, rfl, Nat.zero_le _, H2⟩
  case round =>
    clear H2
    obtain ⟨wq, rfl⟩ : ∃ x, x = wr := ⟨_, rfl⟩
    obtain ⟨i, rfl, hi, HC⟩ := hrel
    by_cases him : i < n
    · have hbw : Below w.heap.size w wq := by obtain ⟨_, _, _, _, hb⟩ := HC.out; exact hb
      obtain ⟨a, rfl, ha, a0⟩ := HA.out.below hbw (n - 1 - i) (by omega)
      have HS1 := Lib.hid (set_hs ((n - 1 - i : Nat) : Int) (ks (n - 1 - i)) HW.out Oth.nil HC.out)
      rw [setE_tail him, tailM_step him] at HS1
      have hz0 : (0 : Int) ≤ ((n - 1 - i : Nat) : Int) := by omega
      have hz1 : ((n - 1 - i : Nat) : Int) < (n : Int) := by omega
      have hi1 : (i : Int) < (n : Int) := by omega
      have hwi : IntKind.i64.wrap ((i : Int) + 1) = (i : Int) + 1 := IntWalk.i64_in _ (by omega)
      have hq1 : IntKind.i64.wrap ((n : Int) - 1) = (n : Int) - 1 := IntWalk.i64_in _ (by omega)
      have hq2 : IntKind.i64.wrap ((n : Int) - 1 - (i : Int)) = ((n - 1 - i : Nat) : Int) := by rw [show (n : Int) - 1 - (i : Int) = ((n - 1 - i : Nat) : Int) by omega]; exact IntWalk.i64_in _ (by omega)
      clear hbw HC
      go_wp2_with fail
      refine HS1.out.mono ?_
      rintro e w5 ⟨rfl, hH, -⟩
      have H5 := Lib.hid hH
      clear hH HS1
      go_wp2_with fail
      go_roundw
      case rel => exact ⟨i + 1, by go_num, by omega, H5⟩
      case measure => simp [intOf]; omega
    · obtain rfl : i = n := by omega
      have hi1 : ¬ ((i : Int) < (i : Int)) := by omega
      go_wp2_with (at_make; refine wpList_make_row rfl (.tmp 54) (.tmp 54) _ rfl 4 ib _ Try.underlying41 hib hz0 hz1 rfl _ _ _ _ i rfl rfl rfl rfl (by rw [hz2]; omega) (by simp [maxLen]; omega) wq wq.heap.size (Below.refl _ _) (Nat.le_refl _) ?_; intro w5 hrow hb5 hs5)
      have H5 := Lib.hid (sort_begin HW.out HC.out hrow.out hb5.out)
      have HI : Hid (SortI ks i 0 (fun _ => false) (tailM ks i i) (-1)) := Lib.hid sort_first
      clear hrow hb5 hs5 HC hib hz0 hz1 hz2
      generalize wq.heap.size = S at H5 ⊢
      go_loopw [58, 7] (fun v vl wr => ∃ (j : Nat) (l : Int) (pop : Nat → Bool) (M : Nat → Option Int), v = .int .i64 (j : Nat) ∧ j ≤ i ∧ vl = .int .i64 l ∧ Hid (SortI ks i j pop M l) ∧ Hid (SortH w h P S i M pop wr)) (fun v _ _ => i - (intOf v).toNat)
      case atStart => exact ⟨0, -1, _, _, rfl, Nat.zero_le _, rfl, HI, H5⟩
      case round =>
        clear HI H5
        obtain ⟨wz, rfl⟩ : ∃ x, x = wr := ⟨_, rfl⟩
        obtain ⟨j, l, pop, M, rfl, hj, rfl, HI, H5⟩ := hrel
        by_cases hjn : j < i
        · have hj1 : (j : Int) < (i : Int) := by omega
          have hwi : IntKind.i64.wrap ((j : Int) + 1) = (j : Int) + 1 := IntWalk.i64_in _ (by omega)
          have HP := Lib.hid (pop_hs H5.out.2.2.2.2 H5.out.2.1 H5.out.1)
          go_wp2_with fail
          refine HP.out.mono ?_
          rintro e w6 (⟨h0, -⟩ | ⟨b, k, hb, hF, rfl, hH, hS⟩)
          · exact absurd h0 (by have := HI.out.2.1; omega)
          obtain ⟨rfl, hpb, hlast, hI'⟩ := sort_step HI.out hb hF
          have hs6 := H5.out.heap hH hS
          have b0 : w6.cell? ⟨S, b, none⟩ = some (.bool false) := by rw [← hpb]; exact hs6.2.2.1.cell b hb
          have b1 := hs6.2.2.1.frozen b
          have HI' := Lib.hid hI'
          have H6 := Lib.hid (hs6.store b)
          obtain ⟨a, rfl, ha, a0⟩ := HA.out.below hs6.below b hb
          have hz0 : (0 : Int) ≤ (b : Int) := by omega
          have hz0' : ¬ ((b : Int) < 0) := by omega
          have hz1 : (b : Int) < (i : Int) := by omega
          have hz1' : ¬ (i ≤ b) := by omega
          rcases HI.out.2.2 with rfl | ⟨l, rfl, hl, -⟩
          · clear hI' hs6 hpb hlast hF hH hS H5 HI HP
            go_wp2_with fail
            go_roundw
            case rel => exact ⟨j + 1, _, _, _, by go_num, by omega, rfl, HI', H6⟩
            case measure => simp [intOf]; omega
          · obtain ⟨a', e', ha', a1⟩ := HA.out.below hs6.below l hl
            obtain rfl : a = a' := by injection e'
            obtain ⟨g1, g2⟩ := hlast l rfl
            have hl0 : (0 : Int) ≤ (l : Int) := by omega
            have hl1 : (l : Int) < (i : Int) := by omega
            by_cases he : ks b = ks l
            · have g3 := g2 he
              have g3' : ¬ ((b : Int) < (l : Int)) := by omega
              have he' : (ks b == ks l) = true := by simp [he]
              have HE := Lib.hid he
              clear hI' hs6 hpb hlast hF hH hS H5 HI HP e' g2 he
              go_wp2_with fail
              go_roundw
              case rel => exact ⟨j + 1, _, _, _, by go_num, by omega, rfl, HI', H6⟩
              case measure => simp [intOf]; omega
            · have he' : (ks b == ks l) = false := by simp [he]
              clear hI' hs6 hpb hlast hF hH hS H5 HI HP e' g2
              go_wp2_with fail
              go_roundw
              case rel => exact ⟨j + 1, _, _, _, by go_num, by omega, rfl, HI', H6⟩
              case measure => simp [intOf]; omega
        · obtain rfl : j = i := by omega
          have hj1 : ¬ ((j : Int) < (j : Int)) := by omega
          have HP := Lib.hid (pop_hs H5.out.2.2.2.2 H5.out.2.1 H5.out.1)
          go_wp2_with fail
          refine HP.out.mono ?_
          rintro e w6 (⟨h0, rfl, hH, -⟩ | ⟨b, k, hb, hF, -⟩)
          · obtain ⟨_, _, _, _, hb⟩ := hH
            go_wp2_with fail
            go_ret
            exact ⟨rfl, hb⟩
          · exact (sort_end HI.out hb hF).elim
end Go.Proofs.Ytijoaiehnemgnaa
