/- Rows of records: of the call's own, and read. -/
import Derived.Test.YtamkegnnlbefdabCoE
namespace Go.Proofs.Ytamkegnnlbefdab
open Go.RowKit

abbrev C2 := Int × Value
def enc2 (x : C2) : List Value := [.int .i64 x.1, x.2]
def fl2 (M : List C2) : List Value := M.flatMap enc2
theorem fl2_len (M : List C2) : (fl2 M).length = M.length * 2 := by
  induction M with
  | nil => rfl
  | cons x M ih => simp only [fl2, List.flatMap_cons, List.length_append, List.length_cons] at *; simp [enc2] at *; omega
theorem fl2_get (M : List C2) {i : Nat} (hi : i < M.length) (c : Nat) (hc : c < 2) : (fl2 M)[i * 2 + c]? = (enc2 M[i])[c]? := by
  induction M generalizing i with
  | nil => simp at hi
  | cons x M ih =>
    cases i with
    | zero =>
      simp only [fl2, List.flatMap_cons, Nat.zero_mul, Nat.zero_add, List.getElem_cons_zero]
      rw [List.getElem?_append_left (by simp [enc2]; omega)]
    | succ i =>
      have := ih (i := i) (by simpa using hi)
      simp only [fl2, List.flatMap_cons, List.getElem_cons_succ] at *
      rw [List.getElem?_append_right (by simp [enc2]; omega), ← this]
      congr 1
      simp [enc2]
      omega
theorem fl2_snoc (M : List C2) (x : C2) : fl2 (M ++ [x]) = fl2 M ++ enc2 x := by simp [fl2]
/-- A row of records of the call's own. -/
def OwnR (T : TypeId) (base : Nat) (W : World) (v : Value) (M : List C2) : Prop := W.ownsRow base T 2 v M.length (fl2 M)
/-- What the elements are. -/
def RowB (P : World → Value → List UInt8 → Prop) (W : World) (M : List C2) (rs : List Rc) : Prop := M.length = rs.length ∧ ∀ i (h1 : i < M.length) (h2 : i < rs.length), M[i].1 = rs[i].1 ∧ P W M[i].2 rs[i].2
/-- A slice value that reads as a list of records. -/
def Rcs (W : World) (v : Value) (rs : List Rc) : Prop := ∃ A c, v = .slice A rs.length c ∧ rs.length ≤ c ∧ c ≤ 9223372036854775807 ∧ ∀ i (hi : i < rs.length), ∃ b off u, A = some ⟨b, off, none⟩ ∧ b < W.heap.size ∧ W.cell? ⟨b, off + i * 2, none⟩ = some (.int .i64 rs[i].1) ∧ W.cell? ⟨b, off + i * 2 + 1, none⟩ = some u ∧ By W u rs[i].2
section
variable {w W W' : World} {base g : Nat} {v v' : Value} {M : List C2} {rs : List Rc} {T : TypeId}
theorem Rcs.below (h : Rcs W v rs) (hb : Below W.heap.size W W') : Rcs W' v rs := by
  obtain ⟨A, c, h1, h2, h3, h4⟩ := h
  refine ⟨A, c, h1, h2, h3, fun i hi => ?_⟩
  obtain ⟨b, off, u, e, hl, c1, c2, hy⟩ := h4 i hi
  exact ⟨b, off, u, e, Nat.lt_of_lt_of_le hl hb.size, (hb.cell (p := ⟨b, off + i * 2, none⟩) hl).trans c1, (hb.cell (p := ⟨b, off + i * 2 + 1, none⟩) hl).trans c2, hy.below hb⟩
theorem Rcs.nil (W : World) : Rcs W (.slice none 0 0) [] := ⟨none, 0, rfl, by simp, by omega, fun i hi => by simp at hi⟩
theorem Rcs.form (h : Rcs W v rs) : ∃ A c, v = .slice A rs.length c ∧ rs.length ≤ c ∧ c ≤ 9223372036854775807 := by
  obtain ⟨A, c, h1, h2, h3, -⟩ := h
  exact ⟨A, c, h1, h2, h3⟩
theorem Rcs.len {A : Option Addr} {n c : Nat} (h : Rcs W (.slice A n c) rs) : n = rs.length ∧ n ≤ c ∧ c ≤ 9223372036854775807 := by
  obtain ⟨A', c', e, h2, h3, h4⟩ := h
  obtain ⟨rfl, rfl, rfl⟩ := Value.slice.inj e
  exact ⟨rfl, h2, h3⟩
theorem Rcs.at_ {A : Option Addr} {n c i : Nat} (h : Rcs W (.slice A n c) rs) (hi : i < rs.length) : ∃ b off A1 n1 c1, A = some ⟨b, off, none⟩ ∧ b < W.heap.size ∧ W.cell? ⟨b, off + i * 2, none⟩ = some (.int .i64 rs[i].1) ∧ W.cell? ⟨b, off + i * 2 + 1, none⟩ = some (.slice A1 n1 c1) ∧ By W (.slice A1 n1 c1) rs[i].2 := by
  obtain ⟨A', c', e, h2, h3, h4⟩ := h
  obtain ⟨rfl, rfl, rfl⟩ := Value.slice.inj e
  obtain ⟨b, off, u, e, hl, c1, c2, hy⟩ := h4 i hi
  obtain ⟨A1, c1', rfl, -⟩ := hy.form
  exact ⟨b, off, A1, _, c1', e, hl, c1, c2, hy⟩
theorem OwnR.lt (h : OwnR T base W v M) : ∀ k, v.ownBlock = some k → base ≤ k ∧ k < W.heap.size := World.ownsRow.lt h
theorem OwnR.base_ (h : OwnR T base W v M) : ∀ k, v.ownBlock = some k → base ≤ k := fun k hk => (h.lt k hk).1
theorem OwnR.nil (T : TypeId) (base : Nat) (W : World) : OwnR T base W (.slice none 0 0) [] := World.ownsRow_nil W base _ 2
theorem OwnR.below (h : OwnR T base W v M) (hb : Below W.heap.size W W') : OwnR T base W' v M := World.ownsRow.kept (row := none) h ⟨hb.os, hb.tape, hb.output, hb.size, fun k hk _ => hb.block k hk⟩ (by cases v.ownBlock <;> simp)
theorem OwnR.form (h : OwnR T base W v M) : ∃ A c, v = .slice A M.length c ∧ M.length ≤ c ∧ c ≤ 9223372036854775807 := by
  rcases h.2 with ⟨rfl, h0⟩ | ⟨g, cap, cur, rfl, _, _, h1, h2, _⟩
  · exact ⟨none, 0, by rw [h0], by omega, by omega⟩
  · exact ⟨_, _, rfl, h1, by unfold maxLen at h2; omega⟩
theorem OwnR.rcs (h : OwnR T base W v M) (hr : RowB By W M rs) : Rcs W v rs := by
  obtain ⟨A, c, rfl, hc, hc2⟩ := h.form
  obtain ⟨hl, he⟩ := hr
  refine ⟨A, c, by rw [hl], by omega, hc2, fun i hi => ?_⟩
  obtain ⟨g, cap, hv, _, hlt⟩ := World.ownsRow.form h (by omega)
  obtain ⟨rfl, _, _⟩ := Value.slice.inj hv
  obtain ⟨e1, e2⟩ := he i (by omega) hi
  have k0 := World.ownsRow.cells h (g := g) rfl (i * 2 + 0) (.int .i64 M[i].1) (by rw [fl2_get M (by omega) 0 (by omega)]; rfl)
  have k1 := World.ownsRow.cells h (g := g) rfl (i * 2 + 1) M[i].2 (by rw [fl2_get M (by omega) 1 (by omega)]; rfl)
  rw [row_at] at k0 k1
  refine ⟨g, 0, M[i].2, rfl, hlt, ?_, ?_, e2⟩
  · rw [← e1, Nat.zero_add]; exact k0
  · rw [Nat.zero_add]; exact k1
theorem RowB.snoc {P : World → Value → List UInt8 → Prop} (h : RowB P W M rs) {x : Int} {u : Value} {l : List UInt8} (hu : P W u l) : RowB P W (M ++ [(x, u)]) (rs ++ [(x, l)]) := by
  refine ⟨by simp [h.1], fun i h1 h2 => ?_⟩
  rcases Nat.lt_or_ge i M.length with hi | hi
  · rw [List.getElem_append_left hi, List.getElem_append_left (by rw [← h.1]; exact hi)]
    exact h.2 i hi (by rw [← h.1]; exact hi)
  · have hi' : i = M.length := by simp at h1; omega
    subst hi'
    rw [List.getElem_append_right (Nat.le_refl _), List.getElem_append_right (by rw [h.1]; exact Nat.le_refl _)]
    simp [h.1, hu]
theorem RowB.keep {P : World → Value → List UInt8 → Prop} (h : RowB P W M rs) (hk : ∀ u l, P W u l → P W' u l) : RowB P W' M rs := ⟨h.1, fun i h1 h2 => ⟨(h.2 i h1 h2).1, hk _ _ (h.2 i h1 h2).2⟩⟩
theorem RowB.by_ (h : RowB ByT W M rs) : RowB By W M rs := ⟨h.1, fun i h1 h2 => ⟨(h.2 i h1 h2).1, (h.2 i h1 h2).2.by_⟩⟩
theorem RowB.nil (P : World → Value → List UInt8 → Prop) (W : World) : RowB P W [] [] := ⟨rfl, fun i h => by simp at h⟩
/-- append of one record. -/
theorem run_appR {ts : TypeId} {i0 : TypeInfo} {z : Value} {by_ : Nat} (ht : Try.prog.underlying ts = some (.slice T)) (hi : Try.prog.info? T = some i0) (hz : i0.zero = some z) (h3 : i0.size = 2) (h9 : i0.bytes = by_) (hb9 : by_ ≤ 1000) (hzc : z.cells.size = 2)
    (ty : TypeId) (h : OwnR T base W v M) (x : C2) (hx : x.2.oneCell' = true) {gb c : Nat} {T2 : TypeId} (hb : Blk W gb (enc2 x) T2) (hM : M.length ≤ 100000000) (hbase : base ≤ W.heap.size) :
    ∃ v' W', (Builtin.append_ #[ts, ts] ty #[v, .slice (some ⟨gb, 0, none⟩) 1 c]).run Try.prog W = .ok v' W' ∧ OwnR T base W' v' (M ++ [x]) ∧ Gr W W' v v' := by
  have hnews : ∀ j u, (enc2 x)[j]? = some u → W.cell? ((⟨gb, 0, none⟩ : Addr).add j) = some u := fun j u hu => by
    have := hb.cell (i := j) hu
    rw [row_at]
    exact this
  obtain ⟨v', W', hr, h4, h5, -, h6⟩ := run_append_own_at (P := Try.prog) W base ts ty T i0 z 2 by_ ht hi hz h3 h9 hzc (by omega) v M.length (fl2 M) h ⟨gb, 0, none⟩ 1 c (enc2 x) rfl hnews
    (fun u hu => by
      simp [enc2] at hu
      rcases hu with rfl | rfl
      · rfl
      · exact hx) (by unfold maxLen; omega)
    (Nat.le_trans (Nat.mul_le_mul (show M.length + 1 ≤ 100000001 by omega) hb9) (by omega)) hbase
  refine ⟨v', W', hr, ?_, h5, h6.imp id fun e => ⟨_, e, Nat.le_refl _⟩⟩
  unfold OwnR
  rw [fl2_snoc, List.length_append]
  exact h4
end
theorem infoP : (Try.prog.info? prT).map (fun i => (i.zero, i.size, i.bytes)) = some (some (.agg #[.int .i64 0, .slice none 0 0]), 2, 32) := by kernel_rfl
theorem infoF : (Try.prog.info? rrT).map (fun i => (i.zero, i.size, i.bytes)) = some (some (.agg #[.int .i64 0, .slice none 0 0]), 2, 32) := by kernel_rfl
section
variable {W : World} {base : Nat} {v : Value} {M : List C2}
theorem run_appP (ty : TypeId) (h : OwnR prT base W v M) (x : C2) (hx : x.2.oneCell' = true) {gb c : Nat} {T2 : TypeId} (hb : Blk W gb (enc2 x) T2) (hM : M.length ≤ 100000000) (hbase : base ≤ W.heap.size) :
    ∃ v' W', (Builtin.append_ #[25, 25] ty #[v, .slice (some ⟨gb, 0, none⟩) 1 c]).run Try.prog W = .ok v' W' ∧ OwnR prT base W' v' (M ++ [x]) ∧ Gr W W' v v' := by
  obtain ⟨i0, hi, hz0, hz1, hz2⟩ := info_parts infoP
  exact run_appR Try.underlying25 hi hz0 hz1 hz2 (by omega) rfl ty h x hx hb hM hbase
theorem run_appF (ty : TypeId) (h : OwnR rrT base W v M) (x : C2) (hx : x.2.oneCell' = true) {gb c : Nat} {T2 : TypeId} (hb : Blk W gb (enc2 x) T2) (hM : M.length ≤ 100000000) (hbase : base ≤ W.heap.size) :
    ∃ v' W', (Builtin.append_ #[22, 22] ty #[v, .slice (some ⟨gb, 0, none⟩) 1 c]).run Try.prog W = .ok v' W' ∧ OwnR rrT base W' v' (M ++ [x]) ∧ Gr W W' v v' := by
  obtain ⟨i0, hi, hz0, hz1, hz2⟩ := info_parts infoF
  exact run_appR Try.underlying22 hi hz0 hz1 hz2 (by omega) rfl ty h x hx hb hM hbase
end
end Go.Proofs.Ytamkegnnlbefdab
