/- Lists of prefixes; contracts of slices.Clone and slices.SortFunc at any list; the state of Aggregate's loop. -/
import Derived.Test.YtgpgoadalnojdaaGreatDoorAggE
namespace Go.Proofs.YtgpgoadalnojdaaGreatDoor
open Go.RowKit

/-- A list of n prefixes. -/
def PxL (w : World) (A : Option Addr) (n : Nat) (xs : Nat → Nat × Int) : Prop :=
  ∀ i, i < n → ∃ b off, A = some ⟨b, off, none⟩ ∧ b < w.heap.size ∧ w.cell? ⟨b, off + i * 2, none⟩ = some (.int .u32 ((xs i).1 : Int)) ∧ w.cell? ⟨b, off + i * 2 + 1, none⟩ = some (.int .i64 (xs i).2) ∧ (xs i).1 < 4294967296
theorem PxL.below {w W : World} {A : Option Addr} {n : Nat} {xs : Nat → Nat × Int} (h : PxL w A n xs) (hb : Below w.heap.size w W) : PxL W A n xs := fun i hi => by
  obtain ⟨b, off, rfl, h1, h2, h3, h4⟩ := h i hi
  exact ⟨b, off, rfl, Nat.lt_of_lt_of_le h1 hb.size, (hb.cell (p := ⟨b, off + i * 2, none⟩) h1).trans h2, (hb.cell (p := ⟨b, off + i * 2 + 1, none⟩) h1).trans h3, h4⟩
def up (x : Nat × Int) : Px := (x.1, x.2.toNat)
/-- The list as prefixes. -/
def pl (n : Nat) (xs : Nat → Nat × Int) : List Px := (List.range n).map fun i => up (xs i)
theorem pl_length (n : Nat) (xs : Nat → Nat × Int) : (pl n xs).length = n := by simp [pl]
def AllV (n : Nat) (xs : Nat → Nat × Int) : Prop := ∀ i, i < n → vldB (xs i).1 (xs i).2 = true
theorem fl_pl {w : World} {A : Option Addr} {n : Nat} {xs : Nat → Nat × Int} (h : PxL w A n xs) (hv : AllV n xs) {b off : Nat} (hA : A = some ⟨b, off, none⟩) :
    ∀ (j : Nat) u, (fl (pl n xs))[j]? = some u → w.cell? ⟨b, off + j, none⟩ = some u := by
  intro j u hu
  have hj : j < n * 2 := by
    have h1 := (List.getElem?_eq_some_iff.1 hu).1
    rw [fl_length, pl_length] at h1
    exact h1
  have hi : j / 2 < n := by omega
  have h2 := fl_get (pl n xs) (i := j / 2) (by rw [pl_length]; exact hi) (j % 2) (by omega)
  rw [show j / 2 * 2 + j % 2 = j by omega, hu] at h2
  obtain ⟨b', off', e, h3, h4, h5, h6⟩ := h (j / 2) hi
  rw [hA] at e
  injection e with e
  injection e with e1 e3
  subst e1 e3
  obtain ⟨m, hm, -, -⟩ := vldB_true (hv (j / 2) hi)
  have e5 : (pl n xs)[j / 2]'(by rw [pl_length]; exact hi) = ((xs (j / 2)).1, m) := by simp [pl, up, hm]
  rw [e5] at h2
  rw [hm] at h5
  rcases (show j % 2 = 0 ∨ j % 2 = 1 by omega) with h0 | h0
  · rw [h0] at h2
    rw [show off + j = off + j / 2 * 2 by omega, h4, h2]
    simp [encP]
  · rw [h0] at h2
    rw [show off + j = off + j / 2 * 2 + 1 by omega, h5, h2]
    simp [encP]
theorem fl_one (M : List Px) : ∀ u ∈ fl M, u.oneCell' = true := fun u hu => by
  obtain ⟨x, -, hx⟩ := List.mem_flatMap.1 hu
  exact encP_one x u hx

/-- What Clone leaves. -/
def ClonePost (w : World) (M : List Px) (e : Ending) (w' : World) : Prop := ∃ v', e = .returned v' ∧ OwnP w' w.heap.size v' M ∧ Below w.heap.size w w'
set_option maxHeartbeats 2000000 in
theorem clone_zero (A : Option Addr) (c : Nat) (w : World) : Calls Tryz.prog 18 #[.slice A 0 c] w (ClonePost w []) := by
  cases A with
  | none =>
    refine (AnyE.slices_Clone_nil Tryz.clonePx 0 c w).mono ?_
    rintro e w' ⟨rfl, rfl⟩
    exact ⟨_, rfl, OwnP.nil _ _, Below.refl _ _⟩
  | some a =>
    obtain ⟨i0, hi, hz0, hz9, hz8⟩ := info_parts infoPx
    have hcs : (pv 0 0).cells.size = 2 := by first | rfl | decide | kernel_rfl
    have h22 := Tryz.underlying22
    have q22 : ∀ (w : World) (a : Option Addr) (n c n' c' : Nat), (binOp .eql 22 (.slice a n c) (.slice none n' c')).run Tryz.prog w = .ok (.bool a.isNone) w := fun w a n c n' c' => Lib.run_eql_slice_nil w _ _ a n c n' c' h22
    go_enter Tryz.func18, Tryz.ntmps18
    go_wp2_with (at_builtin; go_loud (refine wpList_append_own _ rfl _ _ 22 rfl w.heap.size 32 i0 _ 2 16 h22 hi hz0 hz9 hz8 hcs (by decide) _ _ _ rfl (World.ownsRow_made w #[] 0 (Nat.le_refl _) (Nat.zero_le _) (by simp)) a 0 c [] rfl (by simp) (fun j u hj => by simp at hj) (fun u hu => by cases hu) (by unfold maxLen; omega) (by omega) (by simp) ?_; intro v' w1 hown hgrow hnil))
    go_ret
    replace hgrow : (w.alloc (Obj.cells #[] 32)).grownBy w1 (some w.heap.size) := hgrow
    exact ⟨v', rfl, by simpa [OwnP, fl] using hown, ((Below.refl _ w).alloc (Nat.le_refl _) _).grown hgrow (by simp) (by intro k hk; injection hk with hk; omega)⟩
theorem clone_any {w : World} {A : Option Addr} {n c : Nat} {xs : Nat → Nat × Int} (h : PxL w A n xs) (hv : AllV n xs) (hn : n ≤ 1000) :
    Calls Tryz.prog 18 #[.slice A n c] w (ClonePost w (pl n xs)) := by
  rcases Nat.eq_zero_or_pos n with rfl | h0
  · exact clone_zero A c w
  · obtain ⟨b, off, rfl, -⟩ := h 0 h0
    obtain ⟨i0, hi, hz0, hz9, hz8⟩ := info_parts infoPx
    have hcs : (pv 0 0).cells.size = 2 := by first | rfl | decide | kernel_rfl
    refine (AnyE.slices_Clone Tryz.clonePx i0 _ 2 16 hi hz0 hz9 hz8 hcs (by decide) Tryz.sizeOf32 b off n c (fl (pl n xs)) w (by rw [fl_length, pl_length]) (by unfold maxLen; omega) (by omega) (fl_pl h hv rfl) (fl_one _)).mono ?_
    rintro e w' ⟨v', rfl, h1, -, h2⟩
    exact ⟨v', rfl, by unfold OwnP; rw [pl_length]; exact h1, h2⟩
theorem OwnP.base {w : World} {base base' : Nat} {v : Value} {M : List Px} (h : OwnP w base v M) (hb : base' ≤ base) : OwnP w base' v M := by
  obtain ⟨h1, h2⟩ := h
  refine ⟨h1, ?_⟩
  rcases h2 with h2 | ⟨g, cap, cur, e, hg, r⟩
  · exact .inl h2
  · exact .inr ⟨g, cap, cur, e, by omega, r⟩

/-- What SortFunc leaves, whatever the list. -/
def SortP (w : World) (base : Nat) (v : Value) (M : List Px) (e : Ending) (w' : World) : Prop :=
  e = .returned (.tuple #[]) ∧ ∃ M' : List Px, M'.Perm M ∧ M'.Pairwise Le ∧ OwnP w' base v M' ∧ ∀ w0, Below base w0 w → Below base w0 w'
theorem sort_any {w : World} {base : Nat} {v : Value} {M : List Px} (h : OwnP w base v M) (hn : M.length ≤ 1000) :
    Calls Tryz.prog 19 #[v, .func (.func 20) #[] #[]] w (SortP w base v M) := by
  rcases Nat.eq_zero_or_pos M.length with h0 | h0
  · obtain ⟨A, cap, rfl, -, -⟩ := h.form
    have hM : M = [] := List.eq_nil_of_length_eq_zero h0
    subst hM
    refine (sort_none A cap _ w).mono ?_
    rintro e w' ⟨rfl, rfl⟩
    exact ⟨rfl, [], List.Perm.refl _, List.Pairwise.nil, h, fun _ hb => hb⟩
  · obtain ⟨g, cap, rfl, hg, -, -, -⟩ := h.some_ h0
    refine (sort_row h (by omega)).mono ?_
    rintro e w' ⟨rfl, M', h1, h2, h3, h4⟩
    exact ⟨rfl, M', h1, h2, h3, fun w0 hb => h4 base w0 hg hb⟩

/-- The state of Aggregate's second loop: i prefixes of the sorted list M lie on the stack. -/
structure LI (w : World) (base : Nat) (v : Value) (M : List Px) (i : Nat) (vs : Value) (wr : World) : Prop where
  row : OwnP wr base v M
  stack : ∃ X, OwnP wr base vs X ∧ Canon X ∧ X.length ≤ i ∧ (∀ x, U X x ↔ U (M.take i) x) ∧ (∀ x ∈ X, ∀ p ∈ M.drop i, Le x p)
  apart : ∀ k, vs.ownBlock = some k → v.ownBlock ≠ some k
  frame : Below base w wr
  size : base ≤ wr.heap.size
theorem LI.start {w W : World} {base : Nat} {v : Value} {M : List Px} (h : OwnP W base v M) (hb : Below base w W) (hs : base ≤ W.heap.size) : LI w base v M 0 (.slice none 0 0) W :=
  ⟨h, ⟨[], OwnP.nil _ _, canon_nil_, Nat.le_refl _, fun x => by simp, fun _ hx => by cases hx⟩, fun k hk => by simp [Value.ownBlock] at hk, hb, hs⟩
theorem LI.below {w W W' : World} {base i : Nat} {v vs : Value} {M : List Px} (h : LI w base v M i vs W) (hb : Below W.heap.size W W') : LI w base v M i vs W' := by
  obtain ⟨X, h1, h2⟩ := h.stack
  exact ⟨h.row.below hb, ⟨X, h1.below hb, h2⟩, h.apart, h.frame.trans (hb.mono h.size), Nat.le_trans h.size hb.size⟩
theorem LI.add {w W : World} {base i : Nat} {v vs : Value} {M : List Px} (h : LI w base v M i vs W) (hi : i < M.length) (hM : ∀ p ∈ M, Vld p) (hs : M.Pairwise Le) (hn : M.length ≤ 1000) :
    Calls Tryz.prog 21 #[vs, pv M[i].1 M[i].2] W fun e W' => ∃ v', e = .returned v' ∧ LI w base v M (i + 1) v' W' := by
  obtain ⟨X, h1, h2, h3, h4, h5⟩ := h.stack
  have hd : M.drop i = M[i] :: M.drop (i + 1) := List.drop_eq_getElem_cons hi
  refine (add_any h1 h2 (hM _ (List.getElem_mem hi)) (fun x hx => h5 x hx _ (by rw [hd]; exact List.mem_cons_self)) (by omega) h.size).mono ?_
  rintro e W' ⟨v', X', rfl, k1, k2, k3, k4, k5, k6, k7⟩
  have hbl : ∀ k, vs.ownBlock = some k → base ≤ k := fun k hk => (h1.lt k hk).1
  refine ⟨v', rfl, h.row.gb k6 ?_, ⟨X', k1, k2, by omega, fun x => ?_, fun x hx p hp => ?_⟩, fun k hk => ?_, h.frame.trans (below_of_gb k6 h.size hbl), by have := k6.size; have := h.size; omega⟩
  · cases hv : vs.ownBlock with
    | none => cases v.ownBlock <;> simp
    | some k => exact .inr (h.apart k hv)
  · rw [k4, h4, List.take_succ_eq_append_getElem hi, u_snoc]
  · have h8 := k5 x hx
    have h9 : Le M[i] p := by
      have := hs.drop (i := i)
      rw [hd, List.pairwise_cons] at this
      exact this.1 p hp
    exact le_trans_ h8 h9
  · rcases k7 with k7 | ⟨k', k7, k8⟩
    · rw [k7] at hk; exact h.apart k hk
    · rw [k7] at hk
      injection hk with hk
      subst hk
      intro hv
      have := (h.row.lt k' hv).2
      omega
end Go.Proofs.YtgpgoadalnojdaaGreatDoor
