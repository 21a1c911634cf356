/- Contract of package nat's Cmp. -/
import Derived.Test.YtapblmbjbpkieaaDoorNatE
namespace Go.Proofs.YtapblmbjbpkieaaDoor
open Go.RowKit Go.Shelf
attribute [local go_sem] Oper.semAt_some

/-- -1, 0 or 1. -/
def cmpI (x y : Nat) : Int := if x < y then -1 else if y < x then 1 else 0
theorem cmp_len {x y : Nat} (h : (digs 4294967296 x).length < (digs 4294967296 y).length) : x < y := by
  have h1 := val_lt (b := 4294967296) (digs 4294967296 x) (digs_lt (by omega) x)
  have hne : digs 4294967296 y ≠ [] := by intro e; rw [e] at h; simp at h
  have h2 := val_ge (b := 4294967296) (by omega) (digs_canon (by omega) y).1 hne
  rw [val_digs (by omega)] at h1 h2
  have h3 : (4294967296 : Nat) ^ (digs 4294967296 x).length ≤ 4294967296 ^ ((digs 4294967296 y).length - 1) := Nat.pow_le_pow_right (by omega) (by omega)
  omega
theorem val_at (b : Nat) (xs : List Nat) (k : Nat) (hk : k < xs.length) : val b xs = val b (xs.take k) + b ^ k * (xs.getD k 0 + b * val b (xs.drop (k + 1))) := by
  have := val_append b (xs.take k) (xs.drop k)
  rw [List.take_append_drop, List.length_take, Nat.min_eq_left (by omega), drop_cons xs k hk] at this
  exact this
theorem drop_eq {xs ys : List Nat} (hl : xs.length = ys.length) (k : Nat) (h : ∀ j, k ≤ j → j < xs.length → digF xs j = digF ys j) : xs.drop k = ys.drop k := by
  apply List.ext_getElem
  · simp [hl]
  · intro i h1 h2
    rw [List.length_drop] at h1 h2
    rw [List.getElem_drop, List.getElem_drop]
    have := h (k + i) (by omega) (by omega)
    unfold digF at this
    rw [List.getD, List.getD, List.getElem?_eq_getElem (by omega), List.getElem?_eq_getElem (by omega)] at this
    exact this
theorem cmp_top {xs ys : List Nat} (hx : ∀ d ∈ xs, d < 4294967296) (hl : xs.length = ys.length) (k : Nat) (hk : k < xs.length) (h : ∀ j, k + 1 ≤ j → j < xs.length → digF xs j = digF ys j) (hlt : digF xs k < digF ys k) : val 4294967296 xs < val 4294967296 ys := by
  rw [val_at 4294967296 xs k hk, val_at 4294967296 ys k (by omega), drop_eq hl (k + 1) h]
  have h1 := val_lt (b := 4294967296) (xs.take k) (fun d hd => hx d (List.mem_of_mem_take hd))
  rw [List.length_take, Nat.min_eq_left (by omega)] at h1
  unfold digF at hlt
  have h2 : 4294967296 ^ k * (xs.getD k 0 + 1 + 4294967296 * val 4294967296 (ys.drop (k + 1))) ≤ 4294967296 ^ k * (ys.getD k 0 + 4294967296 * val 4294967296 (ys.drop (k + 1))) := Nat.mul_le_mul_left _ (by omega)
  have h3 : 4294967296 ^ k * (xs.getD k 0 + 1 + 4294967296 * val 4294967296 (ys.drop (k + 1))) = 4294967296 ^ k * (xs.getD k 0 + 4294967296 * val 4294967296 (ys.drop (k + 1))) + 4294967296 ^ k := by
    rw [Nat.add_right_comm, Nat.mul_add, Nat.mul_one]
  omega

set_option maxHeartbeats 400000 in
theorem compare32_any (x y : Nat) (w : World) (_hx : x < 4294967296) (_hy : y < 4294967296) :
    Calls Tryd.prog 51 #[.int .u32 x, .int .u32 y] w fun e w' => e = .returned (.int .i64 (cmpI x y)) ∧ w = w' := by
  have e1 : ((x : Int) != (x : Int)) = false := by simp
  have e2 : ((y : Int) != (y : Int)) = false := by simp
  unfold cmpI
  by_cases h1 : x < y
  · rw [if_pos h1]
    go_enter Tryd.func51, Tryd.ntmps51
    go_wp2
    go_ret
    exact ⟨rfl, rfl⟩
  · rw [if_neg h1]
    by_cases h2 : y < x
    · rw [if_pos h2]
      go_enter Tryd.func51, Tryd.ntmps51
      go_wp2
      go_ret
      exact ⟨rfl, rfl⟩
    · rw [if_neg h2]
      go_enter Tryd.func51, Tryd.ntmps51
      go_wp2
      go_ret
      exact ⟨rfl, rfl⟩

/-- What holds in Cmp's loop when all but k digits have been found equal. -/
def CmpI (w : World) (xs ys : List Nat) (A B : Option Addr) (ca cb k : Nat) (W : World) : Prop :=
  (∀ j, k ≤ j → j < xs.length → digF xs j = digF ys j) ∧ One W (w.heap.size + 1) (.slice B ys.length cb) 26 ∧ One W (w.heap.size + 1 + 1) (.int .i64 0) 3 ∧ One W (w.heap.size + 1 + 1 + 1) (.slice A xs.length ca) 22 ∧ Below w.heap.size w W
theorem cmpI_own {w : World} {xs ys : List Nat} {A B : Option Addr} {ca cb b : Nat} (hb : w.heap.size ≤ b) : OwnFrom b (fun (pre : List Nat) W => CmpI w xs ys A B ca cb (xs.length - pre.length) W) := by
  refine ownFrom_of ?_
  rintro s W W' ⟨h1, h2, h3, h4, h5⟩ hc hbl hsz ho ht hp
  exact ⟨h1, hc _ _ h2 rfl, hc _ _ h3 rfl, hc _ _ h4 rfl, ho.trans h5.os, ht.trans h5.tape, hp.trans h5.output, Nat.le_trans h5.size hsz, fun k hk => (hbl k (by omega) (by have := h5.size; omega)).trans (h5.block k hk)⟩
def CmpX (w : World) (x y : Nat) (c : Code) (_pre : List Nat) (W : World) : Prop := c = .ret ∧ One W (w.heap.size + 1 + 1) (.int .i64 (cmpI x y)) 3 ∧ Below w.heap.size w W
theorem cmpX_own {w : World} {x y : Nat} {b : Nat} (hb : w.heap.size ≤ b) (c : Code) : OwnFrom b (CmpX w x y c) := by
  refine ownFrom_of ?_
  rintro s W W' ⟨h1, h2, h5⟩ hc hbl hsz ho ht hp
  exact ⟨h1, hc _ _ h2 rfl, ho.trans h5.os, ht.trans h5.tape, hp.trans h5.output, Nat.le_trans h5.size hsz, fun k hk => (hbl k (by omega) (by have := h5.size; omega)).trans (h5.block k hk)⟩

set_option maxRecDepth 100000 in
set_option maxHeartbeats 2000000 in
theorem cmp_same {u v : Value} {x y : Nat} {w : World} (hlen : (digs 4294967296 x).length ≤ 1000000) (hl : (digs 4294967296 x).length = (digs 4294967296 y).length) (hu : IsNat w u x) (hv : IsNat w v y) :
    Calls Tryd.prog 17 #[u, v] w fun e w' => e = .returned (.int .i64 (cmpI x y)) ∧ Below w.heap.size w w' := by
  obtain ⟨s, rfl, A, ca, rfl, hca, hA⟩ := hu
  obtain ⟨t, rfl, B, cb, rfl, hcb, hB⟩ := hv
  have hle : (((digs 4294967296 x).length : Int) != ((digs 4294967296 y).length : Int)) = false := by simp; omega
  have HL := Lib.hid hl
  clear hl
  refine (callsIn_wide (n := 5)).1 ?_
  refine callsIn_of_wp_marks Tryd.func17 rfl trivial ?_ rfl
  simp only [Tryd.ntmps17, List.size_toArray, List.length_cons, List.length_nil, Nat.reduceAdd, Nat.reduceSub, Array.replicate_succ, Array.replicate_zero, List.push_toArray, List.append_toArray, List.nil_append, List.cons_append]
  have h50 : Fence.wide.fn 50 := trivial
  gi_wp2_with (gi_at_call 50; refine (backward_in Fence.wide _ trivial rfl _ _ _ _).mono ?_; rintro e w' ⟨rfl, rfl⟩)
  obtain ⟨w0, hw0⟩ : ∃ w0, ((((w.alloc (.cells #[.slice A (digs 4294967296 x).length ca] 26)).alloc (.cells #[.slice B (digs 4294967296 y).length cb] 26)).alloc (.cells #[.int .i64 0] 3)).alloc (.cells #[.slice A (digs 4294967296 x).length ca] 22)) = w0 := ⟨_, rfl⟩
  have hs0 : w0.heap.size = w.heap.size + 1 + 1 + 1 + 1 := by subst hw0; simp
  have hI0 : CmpI w (digs 4294967296 x) (digs 4294967296 y) A B ca cb (digs 4294967296 x).length w0 := by
    subst hw0
    refine ⟨fun j h1 h2 => by omega, ?_, ?_, ?_, ((((Below.refl _ w).alloc (Nat.le_refl _) _).alloc (by simp) _).alloc (by simp; omega) _).alloc (by simp; omega) _⟩
    · have := ((One.new (w.alloc (.cells #[.slice A (digs 4294967296 x).length ca] 26)) (.slice B (digs 4294967296 y).length cb) 26).alloc (.cells #[.int .i64 0] 3)).alloc (.cells #[.slice A (digs 4294967296 x).length ca] 22)
      simpa using this
    · have := (One.new ((w.alloc (.cells #[.slice A (digs 4294967296 x).length ca] 26)).alloc (.cells #[.slice B (digs 4294967296 y).length cb] 26)) (.int .i64 0) 3).alloc (.cells #[.slice A (digs 4294967296 x).length ca] 22)
      simpa using this
    · have := One.new (((w.alloc (.cells #[.slice A (digs 4294967296 x).length ca] 26)).alloc (.cells #[.slice B (digs 4294967296 y).length cb] 26)).alloc (.cells #[.int .i64 0] 3)) (.slice A (digs 4294967296 x).length ca) 22
      simpa using this
  rw [hw0]
  clear hw0
  have hl := HL.out
  refine wpIn_iterate rfl (by omega) (gf := 72) (lb := #[.pointer (some ⟨w.heap.size + 1 + 1 + 1, 0, none⟩)]) (by simp [go_sem]) trivial (enters_of Tryd.func72 (by kernel_rfl) rfl)
    (back_iter Fence.wide _ trivial rfl (by omega) _ A (digs 4294967296 x).length ca (digF (digs 4294967296 x)) (by omega) _) (fun _ => rfl)
    (fun pre W => CmpI w (digs 4294967296 x) (digs 4294967296 y) A B ca cb ((digs 4294967296 x).length - pre.length) W) (CmpX w x y) (cmpI_own (by omega)) (cmpX_own (by omega)) ?IR hI0 ?a1 ?assign ?body ?done ?stop
  case assign =>
    intro l x W K hK
    gi_wp2
    exact hK
  case IR =>
    rintro pre W ⟨h1, h2, h3, h4, h5⟩
    refine ⟨h4.cell, fun hp => ?_⟩
    obtain ⟨g, hg, hrow, hcell⟩ := hA.2 ((digs 4294967296 x).length - 1 - pre.length) (by omega)
    exact ⟨_, hg, by rw [row_at]; exact (h5.cell (p := ⟨g, _, none⟩) hrow.lt).trans hcell⟩
  case body =>
    rintro l pre k W ⟨h1, h2, h3, h4, h5⟩ hpl ⟨_, hk⟩
    have hkn : (digs 4294967296 x).length - pre.length = k + 1 := by omega
    have hkx : k < (digs 4294967296 x).length := by omega
    have hky : k < (digs 4294967296 y).length := by omega
    obtain ⟨g, rfl, hrow, hcell⟩ := hB.2 k hky
    obtain ⟨d, hd⟩ : ∃ d, d = digF (digs 4294967296 x) k := ⟨_, rfl⟩
    obtain ⟨e, he⟩ : ∃ e, e = digF (digs 4294967296 y) k := ⟨_, rfl⟩
    have hd1 : d < 4294967296 := by rw [hd]; exact getD_lt (digs_lt (by omega) x) k hkx
    have he1 : e < 4294967296 := by rw [he]; exact getD_lt (digs_lt (by omega) y) k hky
    have hcy : W.cell? ⟨g, k, none⟩ = some (.int .u32 e) := by
      rw [h5.cell (p := ⟨g, k, none⟩) hrow.lt, hcell, he]; rfl
    have hc2 := h2.cell
    have hc3 := h3.cell
    have hf3 := h3.frozen
    have h51 : Fence.wide.fn 51 := trivial
    have h31 : 1 ≤ 5 - 1 - 1 := by omega
    rw [hkn] at h1
    by_cases hde : d = e
    · have hne : ((d : Int) != (e : Int)) = false := by simp; omega
      have hnext : Hid (CmpI w (digs 4294967296 x) (digs 4294967296 y) A (some ⟨g, 0, none⟩) ca cb ((digs 4294967296 x).length - (pre ++ [k]).length) W) := by
        refine ⟨fun j hj hjx => ?_, h2, h3, h4, h5⟩
        by_cases hjk : j = k
        · subst hjk; rw [← hd, ← he, hde]
        · exact h1 j (by simp at hj; omega) hjx
      clear h1 h2 h3 h4 h5 hcell hrow hA hB hl hI0 he hk hkn hlen hde
      rw [hd] at hne
      gi_wp2
      exact ⟨KeepsOthers.refl _, hnext.out⟩
    · have hne : ((d : Int) != (e : Int)) = true := by simp; omega
      have hcmp : Hid (cmpI d e = cmpI x y) := by
        unfold Hid cmpI
        have hvx := val_digs (b := 4294967296) (by omega) x
        have hvy := val_digs (b := 4294967296) (by omega) y
        by_cases hlt : d < e
        · have := cmp_top (digs_lt (by omega) x) hl k hkx h1 (by rw [← hd, ← he]; exact hlt)
          rw [hvx, hvy] at this
          rw [if_pos hlt, if_pos this]
        · have := cmp_top (digs_lt (by omega) y) hl.symm k hky (fun j h2 h3 => (h1 j h2 (by omega)).symm) (by rw [← hd, ← he]; omega)
          rw [hvx, hvy] at this
          rw [if_neg hlt, if_pos (by omega), if_neg (by omega), if_pos this]
      have hX : ∀ W' : World, W' = W.setCell ⟨w.heap.size + 1 + 1, 0, none⟩ (.int .i64 (cmpI d e)) → KeepsOthers W W' ∧ CmpX w x y .ret (pre ++ [k]) W' := by
        rintro W' rfl
        refine ⟨KeepsOthers.setCell _ _ _, rfl, ?_, h5.setCell (by show w.heap.size ≤ w.heap.size + 1 + 1; omega) _⟩
        rw [← hcmp.out]
        exact h3.set_ _
      have HX := Lib.hid hX
      have hCc := compare32_any d e W hd1 he1
      clear hX h1 h2 h3 h4 h5 hcell hrow hA hB hl hI0 he hk hkn hlen hde hcmp
      subst hd
      gi_wp2_with (gi_at_call 51; refine (CallsIn.inRound l (callsIn_wide.2 hCc)).mono ?_; rintro e w1 ⟨rfl, rfl⟩)
      exact HX.out _ rfl
  case done =>
    rintro D xs W hD rfl hI hK
    obtain ⟨h1, h2, h3, h4, h5⟩ := hI
    rw [dn_len, Nat.sub_self] at h1
    have hxy : Hid (cmpI x y = 0) := by
      have := drop_eq hl 0 (fun j _ hj => h1 j (by omega) hj)
      rw [List.drop_zero, List.drop_zero] at this
      have hvx := val_digs (b := 4294967296) (by omega) x
      have hvy := val_digs (b := 4294967296) (by omega) y
      have hv := congrArg (val 4294967296) this
      rw [hvx, hvy] at hv
      unfold Hid cmpI
      rw [if_neg (by omega), if_neg (by omega)]
    have hc3 := h3.cell
    have hf3 := h3.frozen
    have H3 := Lib.hid h3
    have H5 := Lib.hid h5
    clear h1 h2 h3 h4 h5 hl hA hB hI0
    gi_wp2
    have hK' : (W.setCell ⟨w.heap.size + 1 + 1, 0, none⟩ (.int .i64 0)).heap[D]? = some (.deferred (some [])) := (KeepsOthers.setCell W _ _).same D _ hK rfl
    have hcl := cell_kept (H3.out.set_ (.int .i64 0)).cell (grownBy_putObj' _ D (.deferred none)) (fun r e => by cases e; exact ⟨_, hK', rfl⟩)
    refine ⟨by simp, .inl ⟨_, _, rfl, run_takeDeferred hK', ?_⟩⟩
    refine ⟨.int .i64 0, by simp [results, Tryd.results17, go_sem, hcl], ?_⟩
    refine ⟨by rw [hxy.out], ?_⟩
    exact (H5.out.setCell (by show w.heap.size ≤ w.heap.size + 1 + 1; omega) _).trans (belowK_b (w := w0) (by omega) _ D _ _ hD hK' rfl rfl)
  case stop =>
    rintro D c pre W hD _ ⟨rfl, h3, h5⟩ hK
    have hc3 := h3.cell
    have H3 := Lib.hid h3
    have H5 := Lib.hid h5
    clear h3 h5 hl hA hB hI0
    gi_wp2
    have hcl := cell_kept H3.out.cell (grownBy_putObj' _ D (.deferred none)) (fun r e => by cases e; exact ⟨_, hK, rfl⟩)
    refine ⟨by simp, .inl ⟨_, _, rfl, run_takeDeferred hK, ?_⟩⟩
    refine ⟨.int .i64 (cmpI x y), by simp [results, Tryd.results17, go_sem, hcl], rfl, ?_⟩
    exact H5.out.trans (belowK_b (w := w0) (by omega) _ D _ _ hD hK rfl rfl)

set_option maxRecDepth 100000 in
set_option maxHeartbeats 2000000 in
theorem cmp_other {u v : Value} {x y : Nat} {w : World} (_hlen : (digs 4294967296 x).length ≤ 1000000) (_hlen2 : (digs 4294967296 y).length ≤ 1000000) (hl : (digs 4294967296 x).length ≠ (digs 4294967296 y).length) (hu : IsNat w u x) (hv : IsNat w v y) :
    Calls Tryd.prog 17 #[u, v] w fun e w' => e = .returned (.int .i64 (cmpI x y)) ∧ Below w.heap.size w w' := by
  obtain ⟨s, rfl, A, ca, rfl, hca, hA⟩ := hu
  obtain ⟨t, rfl, B, cb, rfl, hcb, hB⟩ := hv
  have hle : (((digs 4294967296 x).length : Int) != ((digs 4294967296 y).length : Int)) = true := by simp; omega
  have hcmp : Lib.compareInt ((digs 4294967296 x).length : Int) ((digs 4294967296 y).length : Int) = cmpI x y := by
    unfold cmpI Lib.compareInt
    rcases Nat.lt_or_gt_of_ne hl with h | h
    · have := cmp_len h
      rw [if_pos (by omega), if_pos this]
    · have := cmp_len h
      rw [if_neg (by omega), if_pos (by omega), if_neg (by omega), if_pos this]
  have hCc := fun W => Tryd.cmp_Compare_int ((digs 4294967296 x).length : Int) ((digs 4294967296 y).length : Int) W
  rw [hcmp] at hCc
  clear hcmp hl
  go_enter Tryd.func17, Tryd.ntmps17
  go_wp2_with fail
  refine (hCc _).mono ?_
  rintro e w1 ⟨rfl, rfl⟩
  go_wp2_with fail
  refine bodyPost_ret (v := .int .i64 (cmpI x y)) (by simp [results, Tryd.results17, go_sem]) rfl ⟨rfl, ?_⟩
  exact ((((Below.refl _ w).alloc (Nat.le_refl _) _).alloc (by simp) _).alloc (by simp; omega) _)
theorem cmp_any {u v : Value} {x y : Nat} {w : World} (hlen : (digs 4294967296 x).length ≤ 1000000) (hlen2 : (digs 4294967296 y).length ≤ 1000000) (hu : IsNat w u x) (hv : IsNat w v y) :
    Calls Tryd.prog 17 #[u, v] w fun e w' => e = .returned (.int .i64 (cmpI x y)) ∧ Below w.heap.size w w' := by
  by_cases hl : (digs 4294967296 x).length = (digs 4294967296 y).length
  · exact cmp_same hlen hl hu hv
  · exact cmp_other hlen hlen2 hl hu hv
end Go.Proofs.YtapblmbjbpkieaaDoor
