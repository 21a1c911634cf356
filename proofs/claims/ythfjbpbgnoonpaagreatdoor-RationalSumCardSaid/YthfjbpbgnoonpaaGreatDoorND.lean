/- Contract of package nat's Cmp. Contracts of package nat's addProduct and Mul. A slice expression with three indexes, of a whole row. Contract of package nat's Mul. -/
import Derived.Test.YthfjbpbgnoonpaaGreatDoorNC
namespace Go.Proofs.YthfjbpbgnoonpaaGreatDoor
open Go.RowKit Go.Shelf
attribute [local go_sem] Oper.semAt_some

/-- -1, 0 or 1. -/
def cmpI (x y : Nat) : Int := if x < y then -1 else if y < x then 1 else 0
theorem cmp_len {x y : Nat} (h : (digs 4294967296 x).length < (digs 4294967296 y).length) : x < y := by
  have h1 := val_lt (b := 4294967296) (digs 4294967296 x) (digs_lt (by omega) x)
  have hne : digs 4294967296 y ≠ [] := by intro e; rw [e] at h; simp at h
  have h2 := val_ge (b := 4294967296) (by omega) (digs_canon (by omega) y).1 hne
  rw [val_digs (by omega)] at h1 h2
  have h3 : (4294967296 : Nat) ^ (digs 4294967296 x).length ≤ 4294967296 ^ ((digs 4294967296 y).length - 1) := Nat.pow_le_pow_right (by omega) (by omega)
  omega
theorem val_at (b : Nat) (xs : List Nat) (k : Nat) (hk : k < xs.length) : val b xs = val b (xs.take k) + b ^ k * (xs.getD k 0 + b * val b (xs.drop (k + 1))) := by
  have := val_append b (xs.take k) (xs.drop k)
  rw [List.take_append_drop, List.length_take, Nat.min_eq_left (by omega), drop_cons xs k hk] at this
  exact this
theorem drop_eq {xs ys : List Nat} (hl : xs.length = ys.length) (k : Nat) (h : ∀ j, k ≤ j → j < xs.length → digF xs j = digF ys j) : xs.drop k = ys.drop k := by
  apply List.ext_getElem
  · simp [hl]
  · intro i h1 h2
    rw [List.length_drop] at h1 h2
    rw [List.getElem_drop, List.getElem_drop]
    have := h (k + i) (by omega) (by omega)
    unfold digF at this
    rw [List.getD, List.getD, List.getElem?_eq_getElem (by omega), List.getElem?_eq_getElem (by omega)] at this
    exact this
theorem cmp_top {xs ys : List Nat} (hx : ∀ d ∈ xs, d < 4294967296) (hl : xs.length = ys.length) (k : Nat) (hk : k < xs.length) (h : ∀ j, k + 1 ≤ j → j < xs.length → digF xs j = digF ys j) (hlt : digF xs k < digF ys k) : val 4294967296 xs < val 4294967296 ys := by
  rw [val_at 4294967296 xs k hk, val_at 4294967296 ys k (by omega), drop_eq hl (k + 1) h]
  have h1 := val_lt (b := 4294967296) (xs.take k) (fun d hd => hx d (List.mem_of_mem_take hd))
  rw [List.length_take, Nat.min_eq_left (by omega)] at h1
  unfold digF at hlt
  have h2 : 4294967296 ^ k * (xs.getD k 0 + 1 + 4294967296 * val 4294967296 (ys.drop (k + 1))) ≤ 4294967296 ^ k * (ys.getD k 0 + 4294967296 * val 4294967296 (ys.drop (k + 1))) := Nat.mul_le_mul_left _ (by omega)
  have h3 : 4294967296 ^ k * (xs.getD k 0 + 1 + 4294967296 * val 4294967296 (ys.drop (k + 1))) = 4294967296 ^ k * (xs.getD k 0 + 4294967296 * val 4294967296 (ys.drop (k + 1))) + 4294967296 ^ k := by
    rw [Nat.add_right_comm, Nat.mul_add, Nat.mul_one]
  omega

set_option maxHeartbeats 400000 in
theorem compare32_any (x y : Nat) (w : World) (_hx : x < 4294967296) (_hy : y < 4294967296) :
    Calls Tryz.prog 107 #[.int .u32 x, .int .u32 y] w fun e w' => e = .returned (.int .i64 (cmpI x y)) ∧ w = w' := by
  have e1 : ((x : Int) != (x : Int)) = false := by simp
  have e2 : ((y : Int) != (y : Int)) = false := by simp
  unfold cmpI
  by_cases h1 : x < y
  · rw [if_pos h1]
    go_enter Tryz.func107, Tryz.ntmps107
    go_wp2
    go_ret
    exact ⟨rfl, rfl⟩
  · rw [if_neg h1]
    by_cases h2 : y < x
    · rw [if_pos h2]
      go_enter Tryz.func107, Tryz.ntmps107
      go_wp2
      go_ret
      exact ⟨rfl, rfl⟩
    · rw [if_neg h2]
      go_enter Tryz.func107, Tryz.ntmps107
      go_wp2
      go_ret
      exact ⟨rfl, rfl⟩

/-- What holds in Cmp's loop when all but k digits have been found equal. -/
def CmpI (w : World) (xs ys : List Nat) (A B : Option Addr) (ca cb k : Nat) (W : World) : Prop :=
  (∀ j, k ≤ j → j < xs.length → digF xs j = digF ys j) ∧ One W (w.heap.size + 1) (.slice B ys.length cb) 28 ∧ One W (w.heap.size + 1 + 1) (.int .i64 0) 3 ∧ One W (w.heap.size + 1 + 1 + 1) (.slice A xs.length ca) 22 ∧ Below w.heap.size w W
theorem cmpI_own {w : World} {xs ys : List Nat} {A B : Option Addr} {ca cb b : Nat} (hb : w.heap.size ≤ b) : OwnFrom b (fun (pre : List Nat) W => CmpI w xs ys A B ca cb (xs.length - pre.length) W) := by
  refine ownFrom_of ?_
  rintro s W W' ⟨h1, h2, h3, h4, h5⟩ hc hbl hsz ho ht hp
  exact ⟨h1, hc _ _ h2 rfl, hc _ _ h3 rfl, hc _ _ h4 rfl, ho.trans h5.os, ht.trans h5.tape, hp.trans h5.output, Nat.le_trans h5.size hsz, fun k hk => (hbl k (by omega) (by have := h5.size; omega)).trans (h5.block k hk)⟩
def CmpX (w : World) (x y : Nat) (c : Code) (_pre : List Nat) (W : World) : Prop := c = .ret ∧ One W (w.heap.size + 1 + 1) (.int .i64 (cmpI x y)) 3 ∧ Below w.heap.size w W
theorem cmpX_own {w : World} {x y : Nat} {b : Nat} (hb : w.heap.size ≤ b) (c : Code) : OwnFrom b (CmpX w x y c) := by
  refine ownFrom_of ?_
  rintro s W W' ⟨h1, h2, h5⟩ hc hbl hsz ho ht hp
  exact ⟨h1, hc _ _ h2 rfl, ho.trans h5.os, ht.trans h5.tape, hp.trans h5.output, Nat.le_trans h5.size hsz, fun k hk => (hbl k (by omega) (by have := h5.size; omega)).trans (h5.block k hk)⟩

set_option maxRecDepth 100000 in
set_option maxHeartbeats 2000000 in
theorem cmp_same {u v : Value} {x y : Nat} {w : World} (hlen : (digs 4294967296 x).length ≤ 1000000) (hl : (digs 4294967296 x).length = (digs 4294967296 y).length) (hu : IsNat w u x) (hv : IsNat w v y) :
    Calls Tryz.prog 82 #[u, v] w fun e w' => e = .returned (.int .i64 (cmpI x y)) ∧ Below w.heap.size w w' := by
  obtain ⟨s, rfl, A, ca, rfl, hca, hA⟩ := hu
  obtain ⟨t, rfl, B, cb, rfl, hcb, hB⟩ := hv
  have hle : (((digs 4294967296 x).length : Int) != ((digs 4294967296 y).length : Int)) = false := by simp; omega
  have HL := Lib.hid hl
  clear hl
  refine (callsIn_wide (n := 5)).1 ?_
  refine callsIn_of_wp_marks Tryz.func82 rfl trivial ?_ rfl
  simp only [Tryz.ntmps82, List.size_toArray, List.length_cons, List.length_nil, Nat.reduceAdd, Nat.reduceSub, Array.replicate_succ, Array.replicate_zero, List.push_toArray, List.append_toArray, List.nil_append, List.cons_append]
  have h50 : Fence.wide.fn 91 := trivial
  gi_wp2_with (gi_at_call 91; refine (backward_in Fence.wide _ trivial rfl _ _ _ _).mono ?_; rintro e w' ⟨rfl, rfl⟩)
  obtain ⟨w0, hw0⟩ : ∃ w0, ((((w.alloc (.cells #[.slice A (digs 4294967296 x).length ca] 28)).alloc (.cells #[.slice B (digs 4294967296 y).length cb] 28)).alloc (.cells #[.int .i64 0] 3)).alloc (.cells #[.slice A (digs 4294967296 x).length ca] 22)) = w0 := ⟨_, rfl⟩
  have hs0 : w0.heap.size = w.heap.size + 1 + 1 + 1 + 1 := by subst hw0; simp
  have hI0 : CmpI w (digs 4294967296 x) (digs 4294967296 y) A B ca cb (digs 4294967296 x).length w0 := by
    subst hw0
    refine ⟨fun j h1 h2 => by omega, ?_, ?_, ?_, ((((Below.refl _ w).alloc (Nat.le_refl _) _).alloc (by simp) _).alloc (by simp; omega) _).alloc (by simp; omega) _⟩
    · have := ((One.new (w.alloc (.cells #[.slice A (digs 4294967296 x).length ca] 28)) (.slice B (digs 4294967296 y).length cb) 28).alloc (.cells #[.int .i64 0] 3)).alloc (.cells #[.slice A (digs 4294967296 x).length ca] 22)
      simpa using this
    · have := (One.new ((w.alloc (.cells #[.slice A (digs 4294967296 x).length ca] 28)).alloc (.cells #[.slice B (digs 4294967296 y).length cb] 28)) (.int .i64 0) 3).alloc (.cells #[.slice A (digs 4294967296 x).length ca] 22)
      simpa using this
    · have := One.new (((w.alloc (.cells #[.slice A (digs 4294967296 x).length ca] 28)).alloc (.cells #[.slice B (digs 4294967296 y).length cb] 28)).alloc (.cells #[.int .i64 0] 3)) (.slice A (digs 4294967296 x).length ca) 22
      simpa using this
  rw [hw0]
  clear hw0
  have hl := HL.out
  refine wpIn_iterate rfl (by omega) (gf := 113) (lb := #[.pointer (some ⟨w.heap.size + 1 + 1 + 1, 0, none⟩)]) (by simp [go_sem]) trivial (enters_of Tryz.func113 (by kernel_rfl) rfl)
    (back_iter Fence.wide _ trivial rfl (by omega) _ A (digs 4294967296 x).length ca (digF (digs 4294967296 x)) (by omega) _) (fun _ => rfl)
    (fun pre W => CmpI w (digs 4294967296 x) (digs 4294967296 y) A B ca cb ((digs 4294967296 x).length - pre.length) W) (CmpX w x y) (cmpI_own (by omega)) (cmpX_own (by omega)) ?IR hI0 ?a1 ?assign ?body ?done ?stop
  case assign =>
    intro l x W K hK
    gi_wp2
    exact hK
  case IR =>
    rintro pre W ⟨h1, h2, h3, h4, h5⟩
    refine ⟨h4.cell, fun hp => ?_⟩
    obtain ⟨g, hg, hrow, hcell⟩ := hA.2 ((digs 4294967296 x).length - 1 - pre.length) (by omega)
    exact ⟨_, hg, by rw [row_at]; exact (h5.cell (p := ⟨g, _, none⟩) hrow.lt).trans hcell⟩
  case body =>
    rintro l pre k W ⟨h1, h2, h3, h4, h5⟩ hpl ⟨_, hk⟩
    have hkn : (digs 4294967296 x).length - pre.length = k + 1 := by omega
    have hkx : k < (digs 4294967296 x).length := by omega
    have hky : k < (digs 4294967296 y).length := by omega
    obtain ⟨g, rfl, hrow, hcell⟩ := hB.2 k hky
    obtain ⟨d, hd⟩ : ∃ d, d = digF (digs 4294967296 x) k := ⟨_, rfl⟩
    obtain ⟨e, he⟩ : ∃ e, e = digF (digs 4294967296 y) k := ⟨_, rfl⟩
    have hd1 : d < 4294967296 := by rw [hd]; exact getD_lt (digs_lt (by omega) x) k hkx
    have he1 : e < 4294967296 := by rw [he]; exact getD_lt (digs_lt (by omega) y) k hky
    have hcy : W.cell? ⟨g, k, none⟩ = some (.int .u32 e) := by
      rw [h5.cell (p := ⟨g, k, none⟩) hrow.lt, hcell, he]; rfl
    have hc2 := h2.cell
    have hc3 := h3.cell
    have hf3 := h3.frozen
    have h51 : Fence.wide.fn 107 := trivial
    have h31 : 1 ≤ 5 - 1 - 1 := by omega
    rw [hkn] at h1
    by_cases hde : d = e
    · have hne : ((d : Int) != (e : Int)) = false := by simp; omega
      have hnext : Hid (CmpI w (digs 4294967296 x) (digs 4294967296 y) A (some ⟨g, 0, none⟩) ca cb ((digs 4294967296 x).length - (pre ++ [k]).length) W) := by
        refine ⟨fun j hj hjx => ?_, h2, h3, h4, h5⟩
        by_cases hjk : j = k
        · subst hjk; rw [← hd, ← he, hde]
        · exact h1 j (by simp at hj; omega) hjx
      clear h1 h2 h3 h4 h5 hcell hrow hA hB hl hI0 he hk hkn hlen hde
      rw [hd] at hne
      gi_wp2
      exact ⟨KeepsOthers.refl _, hnext.out⟩
    · have hne : ((d : Int) != (e : Int)) = true := by simp; omega
      have hcmp : Hid (cmpI d e = cmpI x y) := by
        unfold Hid cmpI
        have hvx := val_digs (b := 4294967296) (by omega) x
        have hvy := val_digs (b := 4294967296) (by omega) y
        by_cases hlt : d < e
        · have := cmp_top (digs_lt (by omega) x) hl k hkx h1 (by rw [← hd, ← he]; exact hlt)
          rw [hvx, hvy] at this
          rw [if_pos hlt, if_pos this]
        · have := cmp_top (digs_lt (by omega) y) hl.symm k hky (fun j h2 h3 => (h1 j h2 (by omega)).symm) (by rw [← hd, ← he]; omega)
          rw [hvx, hvy] at this
          rw [if_neg hlt, if_pos (by omega), if_neg (by omega), if_pos this]
      have hX : ∀ W' : World, W' = W.setCell ⟨w.heap.size + 1 + 1, 0, none⟩ (.int .i64 (cmpI d e)) → KeepsOthers W W' ∧ CmpX w x y .ret (pre ++ [k]) W' := by
        rintro W' rfl
        refine ⟨KeepsOthers.setCell _ _ _, rfl, ?_, h5.setCell (by show w.heap.size ≤ w.heap.size + 1 + 1; omega) _⟩
        rw [← hcmp.out]
        exact h3.set_ _
      have HX := Lib.hid hX
      have hCc := compare32_any d e W hd1 he1
      clear hX h1 h2 h3 h4 h5 hcell hrow hA hB hl hI0 he hk hkn hlen hde hcmp
      subst hd
      gi_wp2_with (gi_at_call 107; refine (CallsIn.inRound l (callsIn_wide.2 hCc)).mono ?_; rintro e w1 ⟨rfl, rfl⟩)
      exact HX.out _ rfl
  case done =>
    rintro D xs W hD rfl hI hK
    obtain ⟨h1, h2, h3, h4, h5⟩ := hI
    rw [dn_len, Nat.sub_self] at h1
    have hxy : Hid (cmpI x y = 0) := by
      have := drop_eq hl 0 (fun j _ hj => h1 j (by omega) hj)
      rw [List.drop_zero, List.drop_zero] at this
      have hvx := val_digs (b := 4294967296) (by omega) x
      have hvy := val_digs (b := 4294967296) (by omega) y
      have hv := congrArg (val 4294967296) this
      rw [hvx, hvy] at hv
      unfold Hid cmpI
      rw [if_neg (by omega), if_neg (by omega)]
    have hc3 := h3.cell
    have hf3 := h3.frozen
    have H3 := Lib.hid h3
    have H5 := Lib.hid h5
    clear h1 h2 h3 h4 h5 hl hA hB hI0
    gi_wp2
    have hK' : (W.setCell ⟨w.heap.size + 1 + 1, 0, none⟩ (.int .i64 0)).heap[D]? = some (.deferred (some [])) := (KeepsOthers.setCell W _ _).same D _ hK rfl
    have hcl := cell_kept (H3.out.set_ (.int .i64 0)).cell (grownBy_putObj' _ D (.deferred none)) (fun r e => by cases e; exact ⟨_, hK', rfl⟩)
    refine ⟨by simp, .inl ⟨_, _, rfl, run_takeDeferred hK', ?_⟩⟩
    refine ⟨.int .i64 0, by simp [results, Tryz.results82, go_sem, hcl], ?_⟩
    refine ⟨by rw [hxy.out], ?_⟩
    exact (H5.out.setCell (by show w.heap.size ≤ w.heap.size + 1 + 1; omega) _).trans (belowK_b (w := w0) (by omega) _ D _ _ hD hK' rfl rfl)
  case stop =>
    rintro D c pre W hD _ ⟨rfl, h3, h5⟩ hK
    have hc3 := h3.cell
    have H3 := Lib.hid h3
    have H5 := Lib.hid h5
    clear h3 h5 hl hA hB hI0
    gi_wp2
    have hcl := cell_kept H3.out.cell (grownBy_putObj' _ D (.deferred none)) (fun r e => by cases e; exact ⟨_, hK, rfl⟩)
    refine ⟨by simp, .inl ⟨_, _, rfl, run_takeDeferred hK, ?_⟩⟩
    refine ⟨.int .i64 (cmpI x y), by simp [results, Tryz.results82, go_sem, hcl], rfl, ?_⟩
    exact H5.out.trans (belowK_b (w := w0) (by omega) _ D _ _ hD hK rfl rfl)

set_option maxRecDepth 100000 in
set_option maxHeartbeats 2000000 in
theorem cmp_other {u v : Value} {x y : Nat} {w : World} (_hlen : (digs 4294967296 x).length ≤ 1000000) (_hlen2 : (digs 4294967296 y).length ≤ 1000000) (hl : (digs 4294967296 x).length ≠ (digs 4294967296 y).length) (hu : IsNat w u x) (hv : IsNat w v y) :
    Calls Tryz.prog 82 #[u, v] w fun e w' => e = .returned (.int .i64 (cmpI x y)) ∧ Below w.heap.size w w' := by
  obtain ⟨s, rfl, A, ca, rfl, hca, hA⟩ := hu
  obtain ⟨t, rfl, B, cb, rfl, hcb, hB⟩ := hv
  have hle : (((digs 4294967296 x).length : Int) != ((digs 4294967296 y).length : Int)) = true := by simp; omega
  have hcmp : Lib.compareInt ((digs 4294967296 x).length : Int) ((digs 4294967296 y).length : Int) = cmpI x y := by
    unfold cmpI Lib.compareInt
    rcases Nat.lt_or_gt_of_ne hl with h | h
    · have := cmp_len h
      rw [if_pos (by omega), if_pos this]
    · have := cmp_len h
      rw [if_neg (by omega), if_pos (by omega), if_neg (by omega), if_pos this]
  have hCc := fun W => Tryz.cmp_Compare_int ((digs 4294967296 x).length : Int) ((digs 4294967296 y).length : Int) W
  rw [hcmp] at hCc
  clear hcmp hl
  go_enter Tryz.func82, Tryz.ntmps82
  go_wp2_with fail
  refine (hCc _).mono ?_
  rintro e w1 ⟨rfl, rfl⟩
  go_wp2_with fail
  refine bodyPost_ret (v := .int .i64 (cmpI x y)) (by simp [results, Tryz.results82, go_sem]) rfl ⟨rfl, ?_⟩
  exact ((((Below.refl _ w).alloc (Nat.le_refl _) _).alloc (by simp) _).alloc (by simp; omega) _)
theorem cmp_any {u v : Value} {x y : Nat} {w : World} (hlen : (digs 4294967296 x).length ≤ 1000000) (hlen2 : (digs 4294967296 y).length ≤ 1000000) (hu : IsNat w u x) (hv : IsNat w v y) :
    Calls Tryz.prog 82 #[u, v] w fun e w' => e = .returned (.int .i64 (cmpI x y)) ∧ Below w.heap.size w w' := by
  by_cases hl : (digs 4294967296 x).length = (digs 4294967296 y).length
  · exact cmp_same hlen hl hu hv
  · exact cmp_other hlen hlen2 hl hu hv
end Go.Proofs.YthfjbpbgnoonpaaGreatDoor

namespace Go.Proofs.YthfjbpbgnoonpaaGreatDoor
open Go.RowKit

/-- A block of digits that is known whole. -/
def RowU (w : World) (g N : Nat) (s : Nat → Nat) : Prop := Row w g 90 N (fun j => .int .u32 (s j : Nat))
def seg (s : Nat → Nat) (off n : Nat) : List Nat := (List.range n).map fun j => s (off + j)
theorem seg_succ (s : Nat → Nat) (off n : Nat) : seg s off (n + 1) = seg s off n ++ [s (off + n)] := by simp [seg, List.range_succ]
theorem seg_len (s : Nat → Nat) (off n : Nat) : (seg s off n).length = n := by simp [seg]
theorem seg_same {s t : Nat → Nat} {off n : Nat} (h : ∀ j, j < n → s (off + j) = t (off + j)) : seg s off n = seg t off n := List.map_congr_left fun j hj => h j (List.mem_range.1 hj)
theorem seg_append (s : Nat → Nat) (m n : Nat) : seg s 0 (m + n) = seg s 0 m ++ seg s m n := by
  induction n with
  | zero => simp [seg]
  | succ n ih => rw [← Nat.add_assoc, seg_succ, ih, seg_succ, List.append_assoc, Nat.zero_add]

/-- At the head of addProduct's loop. -/
def ProdI (w : World) (g N off _n : Nat) (s : Nat → Nat) (ds : List Nat) (m i c : Nat) (W : World) : Prop :=
  ∃ t : Nat → Nat, RowU W g N t ∧ (∀ j, j < off ∨ off + i ≤ j → t j = s j) ∧ (∀ j, j < i → t (off + j) < 4294967296) ∧
    val 4294967296 (seg t off i) + 4294967296 ^ i * c = val 4294967296 (seg s off i) + val 4294967296 (ds.take i) * m ∧ c < 4294967296 ∧ w.grownBy W (some g)
theorem prod_math (t p o v m s c d : Nat) (h : t + p * c = o + v * m) : (t + p * ((s + (d * m + c) % 4294967296) % 4294967296)) + (p * 4294967296) * ((d * m + c + s) / 4294967296) = (o + p * s) + (v + p * d) * m := by
  have e : (s + (d * m + c) % 4294967296) % 4294967296 = (d * m + c + s) % 4294967296 := by omega
  have h2 : p * ((d * m + c + s) % 4294967296) + p * 4294967296 * ((d * m + c + s) / 4294967296) = p * (d * m + c + s) := by
    rw [Nat.mul_assoc, ← Nat.mul_add, Nat.mod_add_div]
  rw [e]
  have h3 : p * (d * m + c + s) = p * d * m + p * c + p * s := by rw [Nat.mul_add, Nat.mul_add, Nat.mul_assoc]
  have h4 : (v + p * d) * m = v * m + p * d * m := Nat.add_mul _ _ _
  omega

set_option maxRecDepth 100000 in
set_option maxHeartbeats 2000000 in
theorem addProduct_any {g N off n cp cb : Nat} {B : Option Addr} {s : Nat → Nat} {ds : List Nat} {m : Nat} {w : World} (hlen : ds.length ≤ 1000000) (hn : n = ds.length) (hm : m < 4294967296) (hN : off + ds.length ≤ N) (hoff : off ≤ 1000000) (hd : ∀ d ∈ ds, d < 4294967296)
    (hs : ∀ j, s j < 4294967296) (hrow : RowU w g N s) (hB : Cells w g B ds.length (u32f ds)) (_hcp : ds.length ≤ cp) :
    Calls Tryz.prog 104 #[.slice (some ⟨g, off, none⟩) n cp, .slice B ds.length cb, .int .u32 m] w fun e w' => ∃ c, e = .returned (.int .u32 (c : Nat)) ∧ ProdI w g N off ds.length s ds m ds.length c w' := by
  subst hn
  have HD := Lib.hid hd
  have HS := Lib.hid hs
  clear hd hs
  have hgl := hrow.lt
  go_enter Tryz.func104, Tryz.ntmps104
  go_wp2
  go_loopw [7, 15] (fun c i wr => ∃ (nc ni : Nat), i = .int .i64 ni ∧ c = .int .u32 nc ∧ ni ≤ ds.length ∧ nc < 4294967296 ∧ ProdI w g N off ds.length s ds m ni nc wr) (fun _ i _ => ds.length - (intOf i).toNat)
  case atStart => exact ⟨0, 0, rfl, rfl, by omega, by omega, s, hrow, fun _ _ => rfl, fun j h => by omega, by simp [seg, val], by omega, World.grownBy.refl _ _⟩
  case round =>
    obtain ⟨c, i, rfl, rfl, hi, hc, hP⟩ := hrel
    by_cases hlt : i < ds.length
    · have hP2 := hP
      obtain ⟨t, hr, ht1, ht2, hv, _, hgr⟩ := hP2
      obtain ⟨a, rfl, hab, hcell⟩ := hB i hlt
      obtain ⟨d, hdd⟩ : ∃ d : Nat, d = ds.getD i 0 := ⟨_, rfl⟩
      have hd1 : d < 4294967296 := by rw [hdd]; exact getD_lt HD.out i hlt
      have hcell' : wr.cell? (a.add i) = some (.int .u32 d) := by
        have h0 : wr.heap[(a.add i).block]? = w.heap[(a.add i).block]? := hgr.block _ (by rw [add_block]; omega) (by rw [add_block]; intro e; injection e; omega)
        rw [World.cell?_of_block h0, hcell, hdd]; rfl
      obtain ⟨x, hx⟩ : ∃ x : Nat, x = s (off + i) := ⟨_, rfl⟩
      have hx1 : x < 4294967296 := by rw [hx]; exact HS.out _
      have hcs : wr.cell? ⟨g, off + i, none⟩ = some (.int .u32 x) := by
        rw [hr.cell (off + i) (by omega), ht1 (off + i) (by omega), hx]
      have hfs := hr.frozen (off + i)
      have hmb := mul_bd (d : Int) (m : Int) (by omega) (by omega)
      have hP1 := hmb.1
      have hP3 := hmb.2
      clear hmb
      have hnext : Hid (∀ u : Value, u = .int .u32 (((x + (d * m + c) % 4294967296) % 4294967296 : Nat) : Int) → (d * m + c + x) / 4294967296 < 4294967296 ∧ ProdI w g N off ds.length s ds m (i + 1) ((d * m + c + x) / 4294967296) (wr.setCell ⟨g, off + i, none⟩ u)) := by
        have hdm : d * m ≤ 4294967295 * 4294967295 := Nat.mul_le_mul (by omega) (by omega)
        rintro u rfl
        have hcc : (d * m + c + x) / 4294967296 < 4294967296 := by omega
        refine ⟨hcc, fun j => if j = off + i then (x + (d * m + c) % 4294967296) % 4294967296 else t j, ?_, ?_, ?_, ?_, hcc, grown_setCell hgr (.inl rfl) _⟩
        · refine hr.set_ (off + i) _ (fun j _ => ?_)
          by_cases h : j = off + i
          · simp [h]
          · simp [h]
        · intro j hj
          show (if j = off + i then _ else t j) = s j
          rw [if_neg (by omega)]
          exact ht1 j (by omega)
        · intro j hj
          show (if off + j = off + i then _ else t (off + j)) < _
          by_cases h : j = i
          · rw [if_pos (by omega)]; omega
          · rw [if_neg (by omega)]; exact ht2 j (by omega)
        · rw [seg_succ, val_snoc, seg_len, seg_succ, val_snoc, seg_len, take_snoc ds i hlt, val_snoc, List.length_take, Nat.min_eq_left (by omega), Nat.pow_succ, ← hdd, ← hx]
          have e1 : seg (fun j => if j = off + i then (x + (d * m + c) % 4294967296) % 4294967296 else t j) off i = seg t off i := seg_same fun j hj => by simp; omega
          rw [e1]
          simp only [if_true]
          exact prod_math _ _ _ _ _ _ _ _ hv
      clear hP hr ht1 ht2 hv hgr hcell hdd hx hrow hB
      go_wp2_with (first | (go_at_call 114; refine (mul32_any _ _ _ (by omega) (by omega)).mono ?_; rintro e w1 ⟨rfl, rfl⟩) | (go_at_call 120; refine (add32_any _ _ _ _ (by omega) (by omega) (by omega)).mono ?_; rintro e w1 ⟨rfl, rfl⟩))
      go_roundw
      case rel =>
        have hPn : (d : Int) * (m : Int) = ((d * m : Nat) : Int) := (Int.natCast_mul d m).symm
        rw [hPn]
        have hE : Value.int .u32 (((x : Int) + (((d * m : Nat) : Int) + (c : Int))) % 4294967296) = .int .u32 (((x + (d * m + c) % 4294967296) % 4294967296 : Nat) : Int) := by
          congr 1; omega
        exact ⟨(d * m + c + x) / 4294967296, i + 1, by go_num, by congr 1; omega, by omega, (hnext.out _ hE).1, (hnext.out _ hE).2⟩
      case measure => simp [intOf]; omega
    · obtain rfl : i = ds.length := by omega
      go_wp2
      go_ret
      exact ⟨c, rfl, hP⟩

/-- At the head of Mul's loop: the product of the first i digits of the left number. -/
def MulI (w : World) (g : Nat) (xs ys : List Nat) (i : Nat) (W : World) : Prop :=
  ∃ t : Nat → Nat, RowU W g (xs.length + ys.length) t ∧ (∀ j, i + ys.length ≤ j → t j = 0) ∧ (∀ j, t j < 4294967296) ∧ val 4294967296 (seg t 0 (i + ys.length)) = val 4294967296 (xs.take i) * val 4294967296 ys ∧ w.grownBy W (some g)
theorem mul_step {w W W2 : World} {g i c : Nat} {xs ys : List Nat} {t : Nat → Nat} (hi : i < xs.length) (_hr : RowU W g (xs.length + ys.length) t) (h0 : ∀ j, i + ys.length ≤ j → t j = 0) (hv : val 4294967296 (seg t 0 (i + ys.length)) = val 4294967296 (xs.take i) * val 4294967296 ys) (ht : ∀ j, t j < 4294967296)
    (hP : ProdI W g (xs.length + ys.length) i ys.length t ys (xs.getD i 0) ys.length c W2) (hgr : w.grownBy W (some g)) :
    MulI w g xs ys (i + 1) (W2.setCell ⟨g, i + ys.length, none⟩ (.int .u32 (c : Nat))) := by
  obtain ⟨t2, h1, h2, h3, h4, h5, h6⟩ := hP
  refine ⟨fun j => if j = i + ys.length then c else t2 j, ?_, ?_, ?_, ?_, ?_⟩
  · refine h1.set_ (i + ys.length) _ (fun j _ => ?_)
    by_cases h : j = i + ys.length
    · simp [h]
    · simp [h]
  · intro j hj
    show (if j = i + ys.length then c else t2 j) = 0
    rw [if_neg (by omega), h2 j (by omega)]
    exact h0 j (by omega)
  · intro j
    show (if j = i + ys.length then c else t2 j) < _
    by_cases h : j = i + ys.length
    · rw [if_pos h]; exact h5
    · rw [if_neg h]
      by_cases hj : j < i ∨ i + ys.length ≤ j
      · rw [h2 j hj]; exact ht j
      · have := h3 (j - i) (by omega)
        rw [show i + (j - i) = j by omega] at this
        exact this
  · have e1 : i + 1 + ys.length = (i + ys.length) + 1 := by omega
    rw [e1, seg_succ, val_snoc, seg_len, Nat.zero_add]
    have e2 : seg (fun j => if j = i + ys.length then c else t2 j) 0 (i + ys.length) = seg t2 0 (i + ys.length) := seg_same fun j hj => by simp; omega
    rw [e2, seg_append, val_append, seg_len]
    simp only [if_true]
    have e3 : seg t2 0 i = seg t 0 i := seg_same fun j hj => h2 _ (by omega)
    rw [seg_append, val_append, seg_len, ← e3] at hv
    rw [List.take_length] at h4
    rw [take_snoc xs i hi, val_snoc, List.length_take, Nat.min_eq_left (by omega), Nat.add_mul, Nat.pow_add, Nat.mul_assoc, Nat.add_assoc, ← Nat.mul_add, h4, Nat.mul_add]
    have e4 : 4294967296 ^ i * (val 4294967296 ys * xs.getD i 0) = 4294967296 ^ i * xs.getD i 0 * val 4294967296 ys := by rw [Nat.mul_assoc, Nat.mul_comm (xs.getD i 0)]
    omega
  · exact grown_setCell (hgr.trans h6) (.inl rfl) _
end Go.Proofs.YthfjbpbgnoonpaaGreatDoor

namespace Go.Proofs.YthfjbpbgnoonpaaGreatDoor
open Go.RowKit
/-- The offset of a cut: a cut without room keeps the old address. -/
def cutOff (i n : Nat) : Nat := if n = 0 then 0 else i
set_option maxHeartbeats 400000 in
theorem run_cut (g N i n : Nat) (h : i + n ≤ N) (_hN : N ≤ 1000000000) (w : World) :
    (Instr.slice 22 (.slice (some ⟨g, 0, none⟩) N N) (some (.int .i64 (i : Int))) (some (.int .i64 ((i : Int) + (n : Int)))) (some (.int .i64 ((i : Int) + (n : Int))))).run Tryz.prog w = .ok (.slice (some ⟨g, cutOff i n, none⟩) n n) w := by
  have hs : (Go.sizeOf 90).run Tryz.prog w = .ok 1 w := by kernel_rfl
  unfold Instr.slice Instr.sliceBounds
  simp [run_underlying Tryz.underlying22]
  have b (W : World) (k : Int) (y m : Nat) (c : BoundsCode) (e : k = (m : Int)) (hm : m ≤ y) : (Instr.sliceBound (.int .i64 k) y c).run Tryz.prog W = .ok m W := by
    subst e
    have := run_sliceBound (P := Tryz.prog) (w := W) .i64 (m : Int) y c (by omega) (by omega)
    simpa using this
  rw [b w _ N (i + n) _ (by omega) h]
  simp only [Result.andThen_ok]
  rw [b w _ (i + n) (i + n) _ (by omega) (Nat.le_refl _)]
  simp only [Result.andThen_ok]
  rw [b w _ (i + n) i _ rfl (by omega)]
  simp only [Result.andThen_ok, Nat.add_sub_cancel_left]
  unfold cutOff
  by_cases h0 : n = 0
  · rw [if_pos (by omega), if_pos h0]
  · rw [if_neg (by omega), if_neg h0, row_at]
end Go.Proofs.YthfjbpbgnoonpaaGreatDoor

namespace Go.Proofs.YthfjbpbgnoonpaaGreatDoor
open Go.RowKit

theorem prod_cell {w W : World} {g N off n m i c : Nat} {s : Nat → Nat} {ds : List Nat} (h : ProdI w g N off n s ds m i c W) (j : Nat) (hj : j < N) : (∃ z : Nat, W.cell? ⟨g, j, none⟩ = some (.int .u32 z)) ∧ W.frozen? ⟨g, j, none⟩ = false := by
  obtain ⟨t, h1, _⟩ := h
  exact ⟨⟨_, h1.cell j hj⟩, h1.frozen j⟩
set_option maxRecDepth 100000 in
set_option maxHeartbeats 1500000 in
theorem natMul_any {u v : Value} {x y : Nat} {w : World} (hlx : (digs 4294967296 x).length ≤ 1000) (hly : (digs 4294967296 y).length ≤ 1000) (hu : IsNat w u x) (hv : IsNat w v y) :
    Calls Tryz.prog 76 #[u, v] w (NewN w (x * y)) := by
  obtain ⟨s, rfl, A, ca, rfl, hca, hA⟩ := hu
  obtain ⟨t, rfl, B, cb, rfl, hcb, hB⟩ := hv
  obtain ⟨xs, hxs⟩ : ∃ xs, xs = digs 4294967296 x := ⟨_, rfl⟩
  obtain ⟨ys, hys⟩ : ∃ ys, ys = digs 4294967296 y := ⟨_, rfl⟩
  have hvx : Hid (val 4294967296 xs = x) := by rw [hxs]; exact val_digs (by omega) x
  have hvy : Hid (val 4294967296 ys = y) := by rw [hys]; exact val_digs (by omega) y
  have hdx : Hid (∀ d ∈ xs, d < 4294967296) := by rw [hxs]; exact digs_lt (by omega) x
  have hdy : Hid (∀ d ∈ ys, d < 4294967296) := by rw [hys]; exact digs_lt (by omega) y
  rw [← hxs] at hlx hca hA ⊢
  rw [← hys] at hly hcb hB ⊢
  clear hxs hys
  obtain ⟨i0, hi, hz0, hz1, hz2⟩ := info_parts infoU32
  have hb0 : Below w.heap.size w (((w.alloc (.cells #[.slice A xs.length ca] 28)).alloc (.cells #[.slice B ys.length cb] 28)).alloc (.cells #[.slice none 0 0] 28)) := (((Below.refl _ w).alloc (Nat.le_refl _) _).alloc (by simp) _).alloc (by simp; omega) _
  have hbA := (((One.new w (.slice A xs.length ca) 28).alloc (.cells #[.slice B ys.length cb] 28)).alloc (.cells #[.slice none 0 0] 28))
  have hbB := ((One.new (w.alloc (.cells #[.slice A xs.length ca] 28)) (.slice B ys.length cb) 28).alloc (.cells #[.slice none 0 0] 28))
  have hbR := One.new ((w.alloc (.cells #[.slice A xs.length ca] 28)).alloc (.cells #[.slice B ys.length cb] 28)) (.slice none 0 0) 28
  rw [World.size_alloc] at hbB
  rw [World.size_alloc, World.size_alloc] at hbR
  go_enter Tryz.func76, Tryz.ntmps76
  go_wp2_with (refine wpList_make_row rfl (.tmp 16) (.tmp 16) _ rfl 90 i0 _ Tryz.underlying22 hi hz0 hz1 rfl _ _ _ _ (xs.length + ys.length) rfl rfl (by rw [Int.natCast_add]) (by rw [Int.natCast_add]) (by rw [hz2]; omega) (by simp [maxLen]; omega) _ _ (Below.refl _ _) (Nat.le_refl _) ?_; intro w1 hrow hb1 hs1; have hA1 := (hbA.step hb1.out).cell; have hB1 := (hbB.step hb1.out).cell; have hR1 := (hbR.step hb1.out).cell)
  have hbl : Below w.heap.size w w1 := hb0.trans (hb1.out.mono hb0.size)
  obtain ⟨g, hg⟩ : ∃ g, g = w.heap.size + 1 + 1 + 1 := ⟨_, rfl⟩
  have hs0 : (((w.alloc (.cells #[.slice A xs.length ca] 28)).alloc (.cells #[.slice B ys.length cb] 28)).alloc (.cells #[.slice none 0 0] 28)).heap.size = g := by rw [hg]; simp
  have hoA := hbA.step hb1.out
  have hoB := hbB.step hb1.out
  have hoR := hbR.step hb1.out
  have hrow1 := hrow.out
  rw [hs0] at hrow1
  rw [← hg]
  have hcA : CellsT w1 90 A xs.length (u32f xs) := hA.step hbl
  have hcB : CellsT w1 90 B ys.length (u32f ys) := hB.step hbl
  have hgw : g < w1.heap.size := hrow1.lt
  have hM0 : MulI w1 g xs ys 0 w1 := ⟨fun _ => 0, hrow1, fun _ _ => rfl, fun _ => by show (0 : Nat) < 4294967296; decide, by
    have : ∀ n, val 4294967296 (seg (fun _ => 0) 0 n) = 0 := by
      intro n
      induction n with
      | zero => rfl
      | succ n ih => rw [seg_succ, val_snoc, ih]; simp
    rw [this]; simp [val], World.grownBy.refl _ _⟩
  have hg1 : w.heap.size + 3 ≤ g := by omega
  have hg2 : g ≤ w.heap.size + 3 := by omega
  clear hrow hb1 hs1 hbA hbB hbR hs0 hA1 hB1 hR1 hrow1 hg hb0
  go_loopw [21] (fun i wr => ∃ ni : Nat, i = .int .i64 ni ∧ ni ≤ xs.length ∧ MulI w1 g xs ys ni wr) (fun i _ => xs.length - (intOf i).toNat)
  case atStart => exact ⟨0, rfl, by omega, hM0⟩
  case round =>
    obtain ⟨i, rfl, hi, hM⟩ := hrel
    have hM2 := hM
    obtain ⟨t, hr, ht0, htB, htv, hgr⟩ := hM2
    by_cases hlt : i < xs.length
    · obtain ⟨ga, rfl, hrowa, hcella⟩ := hA.2 i hlt
      obtain ⟨d, hdd⟩ : ∃ d : Nat, d = xs.getD i 0 := ⟨_, rfl⟩
      have hd1 : d < 4294967296 := by rw [hdd]; exact getD_lt hdx.out i hlt
      have hold : ∀ b o, b < w1.heap.size → b ≠ g → wr.cell? ⟨b, o, none⟩ = w1.cell? ⟨b, o, none⟩ := fun b o hb hne => World.cell?_of_block (w := w1) (hgr.block b hb (by simpa using hne))
      have hc1 : wr.cell? ⟨ga, i, none⟩ = some (.int .u32 d) := by
        rw [hold ga i (by have := hrowa.lt; omega) (by have := hrowa.lt; omega), hbl.cell (p := ⟨ga, i, none⟩) hrowa.lt, hcella, hdd]; rfl
      have hbx : wr.cell? ⟨w.heap.size + 1, 0, none⟩ = some (.slice B ys.length cb) := by
        rw [hold _ _ hoB.lt (by omega)]; exact hoB.cell
      have hNi : ¬ (xs.length + ys.length = i) := by omega
      have hcg := hr.frozen (i + ys.length)
      obtain ⟨z, hz⟩ : ∃ z, wr.cell? ⟨g, i + ys.length, none⟩ = some z := ⟨_, hr.cell (i + ys.length) (by omega)⟩
      have he1 : IntKind.i64.wrap ((i : Int) + (ys.length : Int)) = (i : Int) + (ys.length : Int) := IntWalk.i64_in _ (by omega)
      have he2 : ((i : Int) + (ys.length : Int)).toNat = i + ys.length := by omega
      have hmx : Tryz.prog.follows .mixedOrders = true := by kernel_rfl
      have hbw : Below w.heap.size w wr := hbl.grown hgr (by omega) (fun k hk => by cases hk; omega)
      have hBc : Cells wr g B ys.length (u32f ys) := (hB.cells.below hbw).more (by omega)
      have HDD := Lib.hid hdd
      have HAP := Lib.hid (addProduct_any (w := wr.drew) (g := g) (N := xs.length + ys.length) (off := i) (n := ys.length) (cp := ys.length) (cb := cb) (B := B) (s := t) (ds := ys) (m := d) (by omega) rfl hd1 (by omega) (by omega) hdy.out htB hr hBc (Nat.le_refl _))
      have H1 := Lib.hid (And.intro hr (And.intro ht0 (And.intro htB (And.intro htv hgr))))
      clear hdd hM hr ht0 htB htv hgr hold hrowa hcella hcA hcB hA hB hoA hoB hoR hM0
      have HST : Hid (∀ (c : Nat) (W2 : World), ProdI wr.drew g (xs.length + ys.length) i ys.length t ys d ys.length c W2 → MulI w1 g xs ys (i + 1) (W2.setCell ⟨g, i + ys.length, none⟩ (.int .u32 (c : Nat)))) := by
        intro c W2 hP
        obtain ⟨q1, q2, q3, q4, q5⟩ := H1.out
        rw [HDD.out] at hP
        exact mul_step (W := wr.drew) hlt q1 q2 q4 q3 hP ⟨q5.os, q5.tape, q5.output, q5.size, q5.block⟩
      have HAP0 : Hid (ys = [] → Calls Tryz.prog 104 #[.slice (some ⟨g, 0, none⟩) 0 0, .slice B 0 cb, .int .u32 d] wr.drew fun e w' => ∃ c, e = .returned (.int .u32 (c : Nat)) ∧ ProdI wr.drew g (xs.length + ys.length) i ys.length t ys d ys.length c w') := by
        intro hys
        obtain ⟨q1, q2, q3, q4, q5⟩ := H1.out
        have := addProduct_any (w := wr.drew) (g := g) (N := xs.length + ys.length) (off := 0) (n := ys.length) (cp := ys.length) (cb := cb) (B := B) (s := t) (ds := ys) (m := d) (by omega) rfl hd1 (by omega) (by omega) hdy.out q3 q1 hBc (Nat.le_refl _)
        rw [hys] at this ⊢
        refine this.mono ?_
        rintro e w' ⟨c, rfl, t2, r1, r2, r3, r4, r5, r6⟩
        exact ⟨c, rfl, t2, r1, fun j _ => r2 j (by simp), fun j hj => by simp at hj, by simpa [seg, val] using r4, r5, r6⟩
      clear hBc
      by_cases hys : ys = []
      · have HA0 := Lib.hid (HAP0.out hys)
        clear HAP HAP0
        subst hys
        simp only [List.length_nil, Nat.add_zero, Int.natCast_zero, Int.add_zero] at *
        go_wp2
        go_region_with (go_at_call 104; refine HA0.out.mono ?_; rintro e w2 ⟨c, rfl, hP⟩; obtain ⟨⟨z2, hz2⟩, hf2⟩ := prod_cell hP i (by omega))
        all_goals go_wp2
        all_goals exact ⟨⟨i + 1, by go_num, by omega, HST.out _ _ hP⟩, by simp [intOf]; omega⟩
      · have hyl : 0 < ys.length := List.length_pos_iff.2 hys
        clear HAP0
        go_wp2
        go_region_with (go_at_call 104; refine HAP.out.mono ?_; rintro e w2 ⟨c, rfl, hP⟩; obtain ⟨⟨z2, hz2⟩, hf2⟩ := prod_cell hP (i + ys.length) (by omega))
        all_goals go_wp2
        all_goals exact ⟨⟨i + 1, by go_num, by omega, HST.out _ _ hP⟩, by simp [intOf]; omega⟩
    · obtain rfl : i = xs.length := by omega
      have hsz := hgr.size
      have hbw : Below w.heap.size w wr := hbl.grown hgr (by omega) (fun k hk => by cases hk; omega)
      have hoR2 : One wr (w.heap.size + 1 + 1) (.slice none 0 0) 28 := (hgr.block _ hoR.lt (by intro e; injection e; omega)).trans hoR
      have hL : LU wr (.slice (some ⟨g, 0, none⟩) (xs.length + ys.length) (xs.length + ys.length)) (seg t 0 (xs.length + ys.length)) :=
        LU.of_cells (seg_len _ _ _) (Nat.le_refl _) hr.cellsT (fun j hj => by
          unfold u32f
          simp [seg, List.getD, hj])
      have hcall := fromDigits_new (w := wr) (by rw [seg_len]; omega) (by
        intro d hd
        obtain ⟨j, _, rfl⟩ := List.mem_map.1 hd
        exact htB _) hL
      have hval : val 4294967296 (seg t 0 (xs.length + ys.length)) = x * y := by rw [htv, List.take_length, hvx.out, hvy.out]
      rw [hval] at hcall
      have HCALL := Lib.hid hcall
      clear hval hcall hL hM hr ht0 htB htv hgr hoA hoB hoR hcA hcB hA hB hM0
      go_wp2_with (go_at_call 61; refine HCALL.out.mono ?_; rintro e w3 ⟨v, rfl, ⟨s3, rfl, A3, c3, rfl, hc3, hA3⟩, hb⟩; have hone3 := hoR2.step hb; have hcc1 := hone3.cell; have hff1 := hone3.frozen; have hll1 := hone3.lt)
      have hone4 := hone3.set_ (.slice A3 (digs 4294967296 (x * y)).length c3)
      refine bodyPost_ret (v := .agg #[.slice A3 (digs 4294967296 (x * y)).length c3]) (by simp [results, Tryz.results76, go_sem, hone4.cell]) rfl ?_
      exact ⟨_, rfl, ⟨_, rfl, LU.far ⟨A3, c3, rfl, hc3, hA3⟩ hone3.row (by decide) _⟩, (hbw.trans (hb.mono hbw.size)).setCell (by show w.heap.size ≤ w.heap.size + 1 + 1; omega) _⟩
end Go.Proofs.YthfjbpbgnoonpaaGreatDoor
