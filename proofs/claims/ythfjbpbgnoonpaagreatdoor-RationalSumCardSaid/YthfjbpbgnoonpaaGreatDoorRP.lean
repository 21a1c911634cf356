/- Contracts of the reference of layer 2: one, Make, made, size, Of, Int. -/
import Derived.Test.YthfjbpbgnoonpaaGreatDoorRI
namespace Go.Proofs.YthfjbpbgnoonpaaGreatDoor
open Go.RowKit

/-- A value of the reference that stands for q. -/
def RatF (W : World) (v : Value) (q : Rat) (a : Nat) : Prop := ∃ A n c A2 n2 c2, v = .agg #[.bool (decide (q.num < 0)), .slice A n c, .slice A2 n2 c2] ∧ RefB W (.slice A n c) q.num.natAbs a ∧ RefB W (.slice A2 n2 c2) (if q.den = 1 then 0 else q.den) a ∧ q.den < 4294967296 ^ a
theorem RatF.below {W W' : World} {v : Value} {q : Rat} {a : Nat} (h : RatF W v q a) (hb : Below W.heap.size W W') : RatF W' v q a := by
  obtain ⟨A, n, c, A2, n2, c2, rfl, h1, h2, h3⟩ := h
  exact ⟨A, n, c, A2, n2, c2, rfl, h1.below hb, h2.below hb, h3⟩
theorem stab_ratF (v : Value) (q : Rat) (a : Nat) : Stab (fun W => RatF W v q a) :=
  stab_ex fun _ => stab_ex fun _ => stab_ex fun _ => stab_ex fun _ => stab_ex fun _ => stab_ex fun _ => stab_and stab_true (stab_and (stab_refB _ _ _) (stab_and (stab_refB _ _ _) stab_true))
theorem RatF.more {W : World} {v : Value} {q : Rat} {a b : Nat} (h : RatF W v q a) (hab : a ≤ b) : RatF W v q b := by
  obtain ⟨A, n, c, A2, n2, c2, rfl, h1, h2, h4⟩ := h
  exact ⟨A, n, c, A2, n2, c2, rfl, h1.more hab, h2.more hab, Nat.lt_of_lt_of_le h4 (Nat.pow_le_pow_right (by omega) hab)⟩
theorem RatF.shape {W : World} {v : Value} {q : Rat} {a : Nat} (h : RatF W v q a) : ∃ A n c A2 n2 c2, v = .agg #[.bool (decide (q.num < 0)), .slice A n c, .slice A2 n2 c2] := by
  obtain ⟨A, n, c, A2, n2, c2, rfl, h1, h2, h4⟩ := h
  exact ⟨A, n, c, A2, n2, c2, rfl⟩
theorem RatF.parts {W : World} {q : Rat} {a : Nat} {b : Bool} {A A2 : Option Addr} {n c n2 c2 : Nat} (h : RatF W (.agg #[.bool b, .slice A n c, .slice A2 n2 c2]) q a) : b = decide (q.num < 0) ∧ RefB W (.slice A n c) q.num.natAbs a ∧ RefB W (.slice A2 n2 c2) (if q.den = 1 then 0 else q.den) a := by
  obtain ⟨A, n, c, A2, n2, c2, e, h1, h2, h4⟩ := h
  injection e with e
  simp only [List.toArray_inj, List.cons.injEq, Array.mk.injEq, and_true, Value.slice.injEq, Value.bool.injEq] at e
  obtain ⟨rfl, ⟨rfl, rfl, rfl⟩, rfl, rfl, rfl⟩ := e
  exact ⟨rfl, h1, h2⟩
theorem RatF.bounds {W : World} {v : Value} {q : Rat} {a : Nat} (h : RatF W v q a) : q.num.natAbs < 4294967296 ^ a ∧ q.den < 4294967296 ^ a := by
  obtain ⟨A, n, c, A2, n2, c2, rfl, h1, h2, h4⟩ := h
  exact ⟨h1.2.2, h4⟩
theorem RatF.tight {W : World} {v : Value} {q : Rat} {a b : Nat} (h : RatF W v q a) (h1 : q.num.natAbs < 4294967296 ^ b) (h2 : q.den < 4294967296 ^ b) : RatF W v q b := by
  obtain ⟨A, n, c, A2, n2, c2, rfl, e1, e2, e4⟩ := h
  refine ⟨A, n, c, A2, n2, c2, rfl, ⟨e1.1, e1.2.1, h1⟩, ⟨e2.1, e2.2.1, ?_⟩, h2⟩
  split
  · exact Nat.pow_pos (by omega)
  · exact h2
theorem RefB.n_eq {W : World} {A : Option Addr} {n c k a : Nat} (h : RefB W (.slice A n c) k a) : n = (digs 1000000 k).length := by
  obtain ⟨_, ⟨A', c', e, _⟩, _⟩ := h
  injection e
theorem digs_nil {k : Nat} (h : (digs 1000000 k).length = 0) : k = 0 := by
  have := (digs_canon (b := 1000000) (by omega) k).2
  rw [List.eq_nil_of_length_eq_zero h] at this
  exact this.symm
theorem RefB.n_zero {W : World} {A : Option Addr} {n c k a : Nat} (h : RefB W (.slice A n c) k a) : n = 0 ↔ k = 0 := by
  rw [h.n_eq]
  exact ⟨digs_nil, fun h => by rw [h]; rfl⟩
theorem RefB.n_le {W : World} {A : Option Addr} {n c k a : Nat} (h : RefB W (.slice A n c) k a) : n ≤ 2 * a := by
  rw [h.n_eq]; exact h.len
theorem RefB.zero (W : World) (a : Nat) : RefB W (.slice none 0 0) 0 a := ⟨⟨none, 0, 0, rfl⟩, ⟨none, 0, rfl, Nat.le_refl _, Cells.zero⟩, Nat.pow_pos (by omega)⟩
set_option maxRecDepth 100000 in
set_option maxHeartbeats 2000000 in
theorem one_any {w : World} {v : Value} {q : Rat} {a : Nat} (h : RatF w v q a) (ha : a ≤ 200) : Calls Tryz.prog 78 #[v] w (OpF w q.den a) := by
  have ha1 := a_pos h.bounds.2
  obtain ⟨A, n, c, A2, n2, c2, rfl⟩ := h.shape
  obtain ⟨-, -, h2⟩ := h.parts
  have hz := h2.n_zero
  have hl := h2.n_le
  obtain ⟨w1, hw1, S⟩ := enter1 w [.bool (decide (q.num < 0)), .slice A n c, .slice A2 n2 c2] 34 (by decide) noint3
  have c0x0 := (S.out.at 0 rfl).cell (i := 0) rfl
  have c0x1 := (S.out.at 0 rfl).cell (i := 1) rfl
  have c0x2 := (S.out.at 0 rfl).cell (i := 2) rfl
  by_cases hd : q.den = 1
  · rw [if_pos hd] at h2 hz
    obtain rfl : n2 = 0 := hz.2 rfl
    rw [hd]
    have hO := Lib.hid (fun W => ofF (W := W) 1 (k := 1) rfl (by omega))
    have hlt := Lib.hid (one_lt ha1)
    clear h hd hz hl h2 ha1
    go_enter Tryz.func78, Tryz.ntmps78
    go_wp2_with fail
    refine (hO.out _).mono ?_
    rintro e w2 ⟨A3, n3, c3, rfl, hx, hb⟩
    clear hw1
    go_wp2_with fail
    go_ret
    exact ⟨A3, n3, c3, rfl, ⟨hx.1, hx.2.1, hlt.out⟩, (S.out.below hb).low⟩
  · rw [if_neg hd] at h2 hz
    have hp := q.den_pos
    have hn : 0 < n2 := by rcases Nat.eq_zero_or_pos n2 with h0 | h0; (have := hz.1 h0; omega); exact h0
    have H2 := Lib.hid h2
    clear h hd hz h2 ha1 hp
    go_enter Tryz.func78, Tryz.ntmps78
    go_wp2_with fail
    go_ret
    exact ⟨A2, n2, c2, rfl, H2.out.below S.out.low, S.out.low⟩
theorem RefB.cell0 {W : World} {A : Option Addr} {n c k a : Nat} (h : RefB W (.slice A n c) k a) (hn : n = 1) : ∃ p, A = some p ∧ W.cell? p = some (.int .i64 (k : Int)) := by
  have e := h.n_eq
  obtain ⟨_, ⟨A', c', e1, _, hc⟩, _⟩ := h
  injection e1 with e1 e2 e3
  subst e1
  obtain ⟨p, hp, _, hcell⟩ := hc 0 (by omega)
  have hk : (digs 1000000 k).getD 0 0 = k := by
    have hd := (digs_canon (b := 1000000) (by omega) k).2
    match hm : digs 1000000 k with
    | [] => rw [hm] at e; simp at e; omega
    | [x] => rw [hm] at hd; simp [val] at hd; simp [hd]
    | x :: y :: l => rw [hm] at e; simp at e; omega
  refine ⟨p, hp, ?_⟩
  have hp0 : p.add 0 = p := by unfold Addr.add; rfl
  rw [hp0] at hcell
  rw [hcell]
  unfold i64f
  rw [hk]
theorem den_one {k : Nat} : (digs 1000000 k).length = 1 → k < 1000000 := by
  intro h
  have := val_lt (b := 1000000) (digs 1000000 k) (digs_lt (by omega) k)
  rw [h, val_digs (by omega)] at this
  simpa using this
def OpG (W : World) (q : Rat) (a : Nat) (e : Ending) (w' : World) : Prop := ∃ b A n c A2 n2 c2, e = .returned (.agg #[.bool b, .slice A n c, .slice A2 n2 c2]) ∧ RatF w' (.agg #[.bool b, .slice A n c, .slice A2 n2 c2]) q a ∧ Below W.heap.size W w'
def OpGT (W : World) (q : Rat) (a : Nat) (e : Ending) (w' : World) : Prop := ∃ b A n c A2 n2 c2, e = .returned (.tuple #[.agg #[.bool b, .slice A n c, .slice A2 n2 c2], .int .i64 0]) ∧ RatF w' (.agg #[.bool b, .slice A n c, .slice A2 n2 c2]) q a ∧ Below W.heap.size W w'
theorem ratF_mk {W : World} {b : Bool} {A A2 : Option Addr} {n c n2 c2 k d a : Nat} (h1 : RefB W (.slice A n c) k a) (h2 : RefB W (.slice A2 n2 c2) (if d = 1 then 0 else d) a) (hd : 0 < d) (hlt : d < 4294967296 ^ a) (hc : Nat.Coprime k d) :
    RatF W (.agg #[.bool (b && decide (0 < k)), .slice A n c, .slice A2 n2 c2]) (mkRat (sg b k) d) a := by
  obtain ⟨e1, e2⟩ := mk_low (b := b) hd hc
  exact ⟨A, n, c, A2, n2, c2, by rw [e1, sg_neg], by rw [e1, sg_abs]; exact h1, by rw [e2]; exact h2, by rw [e2]; exact hlt⟩
end Go.Proofs.YthfjbpbgnoonpaaGreatDoor
