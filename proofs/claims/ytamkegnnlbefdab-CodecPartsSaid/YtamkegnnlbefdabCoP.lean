/- Lists of records and of bytes, one after the other, in new memory. -/
import Derived.Test.YtamkegnnlbefdabCoL
namespace Go.Proofs.Ytamkegnnlbefdab
open Go.RowKit

theorem wpList_appG {ops : Array Oper} {rest : List Oper} {o : Oper} {a : Act} {Q : Exit → Act → World → Prop} {w w' : World} {v u v' : Value} (hgd : Region.wanted o (yielded ops a.tmps) = true) (s x : Operand) (t : TypeId) (ho : o.op = .call { callee := .builtin .append, args := #[s, x], argTypes := #[t, t] }) (hs : a.eval s = v) (hx : a.eval x = u)
    (hr : (Builtin.append_ #[t, t] o.type #[v, u]).run Try.prog w = .ok v' w') (h : wpList Try.prog ops Q rest (a.put o.dst v') w') : wpList Try.prog ops Q (o :: rest) a w := by
  simp only [wpList]
  rw [if_pos hgd]
  exact .inl (wp_app s x t ho hs hx hr h)
section
variable {w W W' : World} {A B : Option Addr} {n c m d : Nat} {r1 r2 rs : List Rc} {M M2 : List C2} {T : TypeId} {base : Nat} {v : Value}
theorem Rcs.hd {k : Nat} (h : Rcs W (.slice A n c) rs) (hk : k ≤ n) : Rcs W (.slice A k c) (rs.take k) := by
  obtain ⟨A', c', e, h2, h3, h4⟩ := h
  obtain ⟨rfl, rfl, rfl⟩ := Value.slice.inj e
  have hl : (rs.take k).length = k := by rw [List.length_take]; omega
  refine ⟨A, c, by rw [hl], by omega, h3, fun i hi => ?_⟩
  obtain ⟨b, off, u, e1, e2, e3, e4, e5⟩ := h4 i (by omega)
  exact ⟨b, off, u, e1, e2, by rw [List.getElem_take]; exact e3, e4, by rw [List.getElem_take]; exact e5⟩
theorem RowB.append {P : World → Value → List UInt8 → Prop} (h : RowB P W M r1) (h2 : RowB P W M2 r2) : RowB P W (M ++ M2) (r1 ++ r2) := by
  refine ⟨by simp [h.1, h2.1], fun i a b => ?_⟩
  rcases Nat.lt_or_ge i M.length with hi | hi
  · rw [List.getElem_append_left hi, List.getElem_append_left (by rw [← h.1]; exact hi)]
    exact h.2 i hi (by rw [← h.1]; exact hi)
  · rw [List.getElem_append_right hi, List.getElem_append_right (by rw [← h.1]; exact hi)]
    simp only [h.1]
    have hi2 : i - r1.length < M2.length := by simp at a; have := h.1; omega
    exact h2.2 (i - r1.length) hi2 (by rw [← h2.1]; exact hi2)
theorem fl2_inv {j : Nat} {u : Value} : ∀ {M : List C2}, (fl2 M)[j]? = some u → ∃ (i : Nat) (hi : i < M.length), (j = i * 2 ∧ u = .int .i64 M[i].1) ∨ (j = i * 2 + 1 ∧ u = M[i].2) := by
  intro M h
  have hj : j < M.length * 2 := by
    have := (List.getElem?_eq_some_iff.1 h).1
    rwa [fl2_len] at this
  have hi : j / 2 < M.length := by omega
  refine ⟨j / 2, hi, ?_⟩
  rcases Nat.mod_two_eq_zero_or_one j with h0 | h0
  · left
    have := fl2_get M hi 0 (by omega)
    rw [show j / 2 * 2 + 0 = j by omega, h] at this
    exact ⟨by omega, by simpa [enc2] using this⟩
  · right
    have := fl2_get M hi 1 (by omega)
    rw [show j / 2 * 2 + 1 = j by omega, h] at this
    exact ⟨by omega, by simpa [enc2] using this⟩
/-- The cells of a list of records. -/
theorem Rcs.row (h : Rcs W (.slice A n c) rs) : ∃ M2, RowB By W M2 rs ∧ (∀ x ∈ M2, x.2.oneCell' = true) ∧ M2.length = n ∧ ∀ a, A = some a → ∀ j u, (fl2 M2)[j]? = some u → a.block < W.heap.size ∧ W.cell? (a.add j) = some u := by
  obtain ⟨A', c', e, h2, h3, h4⟩ := h
  obtain ⟨rfl, rfl, rfl⟩ := Value.slice.inj e
  have each : ∀ i, ∃ u : Value, ∀ hi : i < rs.length, (∃ b off, A = some ⟨b, off, none⟩ ∧ b < W.heap.size ∧ W.cell? ⟨b, off + i * 2, none⟩ = some (.int .i64 rs[i].1) ∧ W.cell? ⟨b, off + i * 2 + 1, none⟩ = some u) ∧ By W u rs[i].2 := by
    intro i
    by_cases hi : i < rs.length
    · obtain ⟨b, off, u, e1, e2, e3, e4, e5⟩ := h4 i hi
      exact ⟨u, fun _ => ⟨⟨b, off, e1, e2, e3, e4⟩, e5⟩⟩
    · exact ⟨undef, fun h => absurd h hi⟩
  obtain ⟨q, hq⟩ := Classical.axiomOfChoice each
  obtain ⟨M2, hM⟩ : ∃ M2 : List C2, M2 = (List.range rs.length).attach.map fun i => ((rs[i.1]'(List.mem_range.1 i.2)).1, q i.1) := ⟨_, rfl⟩
  have hl : M2.length = rs.length := by rw [hM]; simp
  have hg : ∀ i (h1 : i < M2.length) (h2 : i < rs.length), M2[i] = (rs[i].1, q i) := by
    intro i h1 h2
    subst hM
    simp
  refine ⟨M2, ⟨hl, fun i h1 h2 => ?_⟩, fun x hx => ?_, hl, ?_⟩
  · rw [hg i h1 h2]; exact ⟨rfl, (hq i h2).2⟩
  · obtain ⟨i, hi, rfl⟩ := List.getElem_of_mem hx
    rw [hg i hi (by omega)]
    obtain ⟨A1, c1, e1, -⟩ := (hq i (by omega)).2.form
    show (q i).oneCell' = true
    rw [e1]; rfl
  · rintro a rfl j u hu
    obtain ⟨i, hi, hu2⟩ := fl2_inv hu
    rw [hg i hi (by omega)] at hu2
    obtain ⟨⟨b, off, e1, e2, e3, e4⟩, -⟩ := hq i (by omega)
    injection e1 with e1
    subst e1
    refine ⟨e2, ?_⟩
    have hadd : ∀ k : Nat, (⟨b, off, none⟩ : Addr).add k = ⟨b, off + k, none⟩ := fun k => by
      unfold Addr.add
      split
      · rename_i h0; subst h0; rfl
      · rfl
    rcases hu2 with ⟨rfl, rfl⟩ | ⟨rfl, rfl⟩
    · rw [hadd]; exact e3
    · rw [hadd]; exact e4
/-- append of records that lie somewhere. -/
theorem run_appRs (ty : TypeId) (h : OwnR rrT base W v M) (hx : Rcs w (.slice B m d) r2) (low : Below w.heap.size w W) (hM : M.length ≤ 100000) (hm : m ≤ 100000) (hbase : base ≤ W.heap.size) :
    ∃ v' W' M2, (Builtin.append_ #[22, 22] ty #[v, .slice B m d]).run Try.prog W = .ok v' W' ∧ OwnR rrT base W' v' (M ++ M2) ∧ Gr W W' v v' ∧ RowB By w M2 r2 ∧ M2.length = m := by
  obtain ⟨i0, hi, hz0, hz1, hz2⟩ := info_parts infoF
  have ht := Try.underlying22
  obtain ⟨M2, hr, h1, hl, hc⟩ := hx.row
  cases B with
  | none =>
    have hm0 : m = 0 := by
      rcases Nat.eq_zero_or_pos m with h0 | h0
      · exact h0
      · obtain ⟨b, off, A1, n1, c1, e, _⟩ := hx.at_ (i := 0) (by have := hx.len.1; omega)
        cases e
    subst hm0
    obtain rfl := List.eq_nil_of_length_eq_zero hl
    refine ⟨v, W, [], ?_, by simpa using h, Gr.refl _ _, hr, rfl⟩
    rcases h.2 with ⟨rfl, h0⟩ | ⟨g, cap, cur, rfl, _, hg, hnc, _⟩
    · simp [Builtin.append_, run_underlying ht, sizeOf, typeInfo, hi, Builtin.lenOf, Builtin.firstCells]
    · simp [Builtin.append_, run_underlying ht, sizeOf, typeInfo, hi, Builtin.lenOf, Builtin.firstCells, hnc, storeCells]
  | some a =>
    obtain ⟨v', W', hrun, h4, h5, -, h6⟩ := run_append_own_at (P := Try.prog) W base 22 ty rrT i0 _ 2 32 ht hi hz0 hz1 hz2 rfl (by omega) v M.length (fl2 M) h a m d (fl2 M2) (by rw [fl2_len, hl]) (fun j u hu => by
        obtain ⟨hb, hcell⟩ := hc a rfl j u hu
        exact (low.cell (p := a.add j) (by rw [add_block]; exact hb)).trans hcell)
      (fun u hu => by
        obtain ⟨j, hj, rfl⟩ := List.getElem_of_mem hu
        obtain ⟨i, hi', e⟩ := fl2_inv (M := M2) (List.getElem?_eq_getElem hj)
        rcases e with ⟨_, e⟩ | ⟨_, e⟩ <;> rw [e]
        · rfl
        · exact h1 _ (List.getElem_mem hi')) (by unfold maxLen; omega) (by omega) hbase
    refine ⟨v', W', M2, hrun, ?_, ⟨h5, h6.imp id fun e => ⟨_, e, Nat.le_refl _⟩⟩, hr, hl⟩
    unfold OwnR
    rw [show fl2 (M ++ M2) = fl2 M ++ fl2 M2 by simp [fl2], List.length_append, hl]
    exact h4
/-- Two lists of records, one after the other. -/
theorem recs_cat (h1 : Rcs w (.slice A n c) r1) (h2 : Rcs w (.slice B m d) r2) (hn : n ≤ 1000) (hm : m ≤ 1000) (low : Below w.heap.size w W) :
    ∃ v1 W1 A2 c2 W2, (Builtin.append_ #[22, 22] 22 #[.slice (some ⟨W.heap.size, 0, none⟩) 0 0, .slice A n c]).run Try.prog (W.alloc (.cells #[] rrT)) = .ok v1 W1 ∧
      (Builtin.append_ #[22, 22] 22 #[v1, .slice B m d]).run Try.prog W1 = .ok (.slice A2 (n + m) c2) W2 ∧ Rcs W2 (.slice A2 (n + m) c2) (r1 ++ r2) ∧ Below W.heap.size W W2 := by
  have hb0 : Below W.heap.size W (W.alloc (.cells #[] rrT)) := (Below.refl _ W).alloc (Nat.le_refl _) _
  have low0 := low.trans (hb0.mono low.size)
  have o0 : OwnR rrT W.heap.size (W.alloc (.cells #[] rrT)) (.slice (some ⟨W.heap.size, 0, none⟩) 0 0) [] :=
    ⟨rfl, .inr ⟨_, 0, #[], rfl, Nat.le_refl _, heap_alloc_new W _, Nat.le_refl _, by simp [maxLen], rfl, rfl⟩⟩
  obtain ⟨v1, W1, N1, run1, o1, g1, p1, q1⟩ := run_appRs 22 o0 h1 low0 (by simp) (by omega) (by simp)
  have lb1 : Below W.heap.size W W1 := hb0.trans ((g1.below o0.base_ (by simp)))
  have low1 := low.trans (lb1.mono low.size)
  obtain ⟨v2, W2, N2, run2, o2, g2, p2, q2⟩ := run_appRs 22 o1 h2 low1 (by simp; omega) (by omega) lb1.size
  obtain ⟨A2, c2, rfl, -⟩ := o2.form
  have lb2 : Below W.heap.size W W2 := lb1.trans (g2.below o1.base_ lb1.size)
  have hlen : ([] ++ N1 ++ N2).length = n + m := by simp; omega
  rw [hlen] at o2 run2
  -- what the first list's elements are, behind the second append: their bytes lie below the row
  refine ⟨v1, W1, A2, c2, W2, run1, run2, ?_, lb2⟩
  refine o2.rcs ?_
  rw [List.nil_append]
  exact (p1.append p2).keep (fun u l hu => hu.below (low.trans (lb2.mono low.size)))
/-- Two lists of bytes, one after the other. -/
theorem bytes_cat {x y : Value} {l1 l2 : List UInt8} (h1 : By W x l1) (h2 : By W y l2) (hn : l1.length + l2.length ≤ 100000000) :
    ∃ v1 W1 A2 n2 c2 W2, (Builtin.append_ #[27, 27] 27 #[.slice (some ⟨W.heap.size, 0, none⟩) 0 0, x]).run Try.prog (W.alloc (.cells #[] u8T)) = .ok v1 W1 ∧
      (Builtin.append_ #[27, 27] 27 #[v1, y]).run Try.prog W1 = .ok (.slice A2 n2 c2) W2 ∧ By W2 (.slice A2 n2 c2) (l1 ++ l2) ∧ Below W.heap.size W W2 := by
  have hb0 : Below W.heap.size W (W.alloc (.cells #[] u8T)) := (Below.refl _ W).alloc (Nat.le_refl _) _
  have o0 := OwnB.made (base := W.heap.size) W [] (Nat.le_refl _) (by simp)
  obtain ⟨v1, W1, r1, o1, g1⟩ := run_appB 27 o0 (h1.below hb0) (by simp; omega) (by simp)
  have lb1 : Below W.heap.size W W1 := hb0.trans (g1.below o0.base_ (by simp))
  obtain ⟨v2, W2, r2, o2, g2⟩ := run_appB 27 o1 (h2.below lb1) (by simp; omega) lb1.size
  obtain ⟨A2, c2, rfl, -⟩ := o2.form
  refine ⟨v1, W1, A2, _, c2, W2, r1, r2, ?_, lb1.trans (g2.below o1.base_ lb1.size)⟩
  have := o2.by_
  rwa [List.nil_append] at this
end
end Go.Proofs.Ytamkegnnlbefdab
