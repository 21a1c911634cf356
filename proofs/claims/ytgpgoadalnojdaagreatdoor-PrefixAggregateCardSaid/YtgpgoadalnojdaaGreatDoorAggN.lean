/- Contract of the reference: aggregate. -/
import Derived.Test.YtgpgoadalnojdaaGreatDoorAggM
import Derived.Test.YtgpgoadalnojdaaGreatDoorPfxD
namespace Go.Proofs.YtgpgoadalnojdaaGreatDoor
open Go.RowKit

/-- What aggregate returns. -/
def RPost (w : World) (R : List Px × Bool) (e : Ending) (w' : World) : Prop := ∃ v, e = .returned (.tuple #[v, .bool R.2]) ∧ OwnP w' w.heap.size v R.1 ∧ Below w.heap.size w w'
theorem aggR_len : ∀ (k : Nat) (l : List Px) (a : Nat), (aggR k l a).1.length ≤ 2 ^ k := by
  intro k
  induction k with
  | zero => intro l a; unfold aggR; split <;> simp
  | succ k ih =>
    intro l a
    have h1 := ih (l.filter (fun q => decide (Cov (a, 32 - (k + 1)) q))) a
    have h2 := ih (l.filter (fun q => decide (Cov (a, 32 - (k + 1)) q))) (a + 2 ^ k)
    have h3 := Nat.two_pow_pos (k + 1)
    have e : 2 ^ (k + 1) = 2 ^ k + 2 ^ k := by rw [Nat.pow_succ]; omega
    unfold aggR
    split
    · simp; omega
    · simp only
      split
      · simp
      · split
        · simp; omega
        · simp only [List.length_append]; omega
theorem own_lit (w : World) (base : Nat) (p : Px) (hb : base ≤ w.heap.size) : OwnP (w.alloc (.cells #[.int .u32 (p.1 : Int), .int .i64 (p.2 : Int)] 32)) base (.slice (some ⟨w.heap.size, 0, none⟩) 1 1) [p] := by
  have h := World.ownsRow_lit (base := base) (e := 32) (size := 2) w #[.int .u32 (p.1 : Int), .int .i64 (p.2 : Int)] 1 hb (by unfold maxLen; omega) (by simp)
  exact h
theorem fl_append (X Y : List Px) : fl (X ++ Y) = fl X ++ fl Y := by simp [fl]
theorem aggR_any {k : Nat} {M : List Px} {a : Nat} (h : anyC M (a, 32 - k) = true) : aggR k M a = ([(a, 32 - k)], true) := by
  unfold anyC at h
  cases k with
  | zero => unfold aggR; rw [if_pos h]
  | succ k => unfold aggR; rw [if_pos h]
theorem aggR_nil {k : Nat} {M : List Px} {a : Nat} (h : anyC M (a, 32 - k) = false) (h2 : filC M (a, 32 - k) = []) : aggR k M a = ([], false) := by
  unfold anyC at h
  unfold filC at h2
  cases k with
  | zero => unfold aggR; rw [if_neg (by rw [h]; simp)]
  | succ k => unfold aggR; rw [if_neg (by rw [h]; simp)]; simp only; rw [if_pos h2]
theorem fil_zero {M : List Px} {a : Nat} (hM : ∀ q ∈ M, Vld q) (hv : Vld (a, 32)) (h : anyC M (a, 32) = false) : filC M (a, 32) = [] := by
  unfold filC
  rw [List.filter_eq_nil_iff]
  intro q hq hc
  have hc' := of_decide_eq_true hc
  have h1 := hM q hq
  have h2 : q.2 = 32 := by have := hc'.1; simp only at this; have := h1.1; omega
  have h3 : q = (a, 32) := by
    obtain ⟨q1, q2⟩ := q
    simp only at h2
    subst h2
    have h4 := hc'.2.1
    have h5 := hc'.2.2
    simp [sz] at h4 h5
    have : q1 = a := by omega
    rw [this]
  have : anyC M (a, 32) = true := List.any_eq_true.2 ⟨q, hq, decide_eq_true (by rw [h3]; exact ⟨Nat.le_refl _, Nat.le_refl _, by have := sz_pos 32; simp only; omega⟩)⟩
  rw [h] at this
  cases this
theorem aggR_both {k : Nat} {M : List Px} {a : Nat} (h : anyC M (a, 32 - (k + 1)) = false) (h2 : filC M (a, 32 - (k + 1)) ≠ []) :
    aggR (k + 1) M a = if (aggR k (filC M (a, 32 - (k + 1))) a).2 && (aggR k (filC M (a, 32 - (k + 1))) (a + 2 ^ k)).2 then ([(a, 32 - (k + 1))], true) else ((aggR k (filC M (a, 32 - (k + 1))) a).1 ++ (aggR k (filC M (a, 32 - (k + 1))) (a + 2 ^ k)).1, false) := by
  unfold anyC at h
  unfold filC at h2 ⊢
  conv => lhs; unfold aggR
  rw [if_neg (by rw [h]; simp)]
  simp only
  rw [if_neg h2]
/-- An append of one row of the call's own to another. -/
theorem own_join {w w0 w' : World} {base : Nat} {va v' : Value} {X Y : List Px} (ha : OwnP w base va X) (hb0 : Below base w0 w) (hs : base ≤ w.heap.size)
    (hown : w'.ownsRow base 32 2 v' (X.length + Y.length) (fl X ++ fl Y)) (hg : w.grownBy w' va.ownBlock) : OwnP w' base v' (X ++ Y) ∧ Below base w0 w' := by
  refine ⟨?_, hb0.trans (below_of_gb hg hs (fun k hk => (ha.lt k hk).1))⟩
  unfold OwnP
  rw [fl_append, List.length_append]
  exact hown

set_option maxRecDepth 100000 in
set_option maxHeartbeats 16000000 in
theorem agg_full {w : World} {A : Option Addr} {c : Nat} {M : List Px} {p : Px} (hL : VL w A M) (hp : Vld p) (hn : M.length ≤ 1000) (hf : anyC M p = true) :
    Calls Tryz.prog 23 #[.slice A M.length c, pv p.1 p.2] w (RPost w ([p], true)) := by
  have hW := Lib.hid (fun (W : World) (hb : Below w.heap.size w W) => within_any (c := c) (hL.below hb) hp hn)
  obtain ⟨w1, hw1, hB1, hb1⟩ := fresh_box w p.1 p.2
  have H1 := Lib.hid (And.intro hb1 hB1)
  have p0 := hB1.cell0
  have p1 := hB1.cell1
  have hF := Lib.hid hf
  clear hL hp hn hB1 hb1 hf
  go_enter Tryz.func23, Tryz.ntmps23
  go_wp2_with fail
  refine (hW.out _ H1.out.1).mono ?_
  rintro e w2 ⟨v, rfl, ho, hb⟩
  rw [hF.out]
  have H2 := Lib.hid (And.intro (H1.out.1.trans (hb.mono H1.out.1.size)) (H1.out.2.step hb))
  clear ho hb H1 p0 p1 hw1
  have p0 := H2.out.2.cell0
  have p1 := H2.out.2.cell1
  have HF := Lib.hid (show RPost w ([p], true) (.returned (.tuple #[.slice (some ⟨w2.heap.size, 0, none⟩) 1 1, .bool true])) (w2.alloc (.cells #[.int .u32 (p.1 : Int), .int .i64 (p.2 : Int)] 32)) from ⟨_, rfl, own_lit w2 _ p H2.out.1.size, H2.out.1.alloc H2.out.1.size _⟩)
  clear H2
  go_wp2_with fail
  exact bodyPost_ret (v := .tuple #[.slice (some ⟨w2.heap.size, 0, none⟩) 1 1, .bool true]) (by simp [results, Tryz.results23, go_sem]) rfl HF.out

set_option maxRecDepth 100000 in
set_option maxHeartbeats 16000000 in
theorem agg_empty {w : World} {A : Option Addr} {c : Nat} {M : List Px} {p : Px} (hL : VL w A M) (hp : Vld p) (hn : M.length ≤ 1000) (hf : anyC M p = false) (h0 : filC M p = []) :
    Calls Tryz.prog 23 #[.slice A M.length c, pv p.1 p.2] w (RPost w ([], false)) := by
  have hW := Lib.hid (fun (W : World) (hb : Below w.heap.size w W) => within_any (c := c) (hL.below hb) hp hn)
  obtain ⟨w1, hw1, hB1, hb1⟩ := fresh_box w p.1 p.2
  have H1 := Lib.hid hb1
  have p0 := hB1.cell0
  have p1 := hB1.cell1
  have hF := Lib.hid (And.intro hf h0)
  clear hL hp hn hB1 hb1 hf h0
  go_enter Tryz.func23, Tryz.ntmps23
  go_wp2_with fail
  refine (hW.out _ H1.out).mono ?_
  rintro e w2 ⟨v, rfl, ho, hb⟩
  rw [hF.out.1] at ho ⊢
  simp only [Bool.false_eq_true, if_false] at ho
  rw [hF.out.2] at ho
  obtain ⟨A2, c2, rfl, -, -⟩ := ho.form
  simp only [List.length_nil]
  have H2 := Lib.hid (H1.out.trans (hb.mono H1.out.size))
  clear ho hb H1 p0 p1 hw1
  have HF := Lib.hid (show RPost w ([], false) (.returned (.tuple #[.slice none 0 0, .bool false])) w2 from ⟨_, rfl, OwnP.nil _ _, H2.out⟩)
  go_wp2_with fail
  exact bodyPost_ret (v := .tuple #[.slice none 0 0, .bool false]) (by simp [results, Tryz.results23, go_sem]) rfl HF.out
end Go.Proofs.YtgpgoadalnojdaaGreatDoor
