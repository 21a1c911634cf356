/- Rows of fractions of the call's own: append, and what it leaves as it was. -/
import Derived.Test.YthfjbpbgnoonpaaGreatDoorRA
import Derived.Maps.AppendAt
import Derived.Maps.RangeWalk
import Derived.OwnWalk
import Derived.Lib.OwnKind
namespace Go.Proofs.YthfjbpbgnoonpaaGreatDoor
open Go.RowKit

abbrev C3 := Value × Value × Value
def enc3 (x : C3) : List Value := [x.1, x.2.1, x.2.2]
/-- The cells of a row of three cells each. -/
def fl3 (M : List C3) : List Value := M.flatMap enc3
theorem fl3_len (M : List C3) : (fl3 M).length = M.length * 3 := by
  induction M with
  | nil => rfl
  | cons x M ih => simp only [fl3, List.flatMap_cons, List.length_append, List.length_cons] at *; simp [enc3] at *; omega
theorem fl3_get (M : List C3) {i : Nat} (hi : i < M.length) (c : Nat) (hc : c < 3) : (fl3 M)[i * 3 + c]? = (enc3 M[i])[c]? := by
  induction M generalizing i with
  | nil => simp at hi
  | cons x M ih =>
    cases i with
    | zero =>
      simp only [fl3, List.flatMap_cons, Nat.zero_mul, Nat.zero_add, List.getElem_cons_zero]
      rw [List.getElem?_append_left (by simp [enc3]; omega)]
    | succ i =>
      have := ih (i := i) (by simpa using hi)
      simp only [fl3, List.flatMap_cons, List.getElem_cons_succ] at *
      rw [List.getElem?_append_right (by simp [enc3]; omega), ← this]
      congr 1
      simp [enc3]
      omega
theorem fl3_snoc (M : List C3) (x : C3) : fl3 (M ++ [x]) = fl3 M ++ enc3 x := by simp [fl3]
theorem splice3 (x y z : Value) : ∀ (k : Nat) (l : List Value), k + 3 ≤ l.length → l.take k ++ [x, y, z] ++ l.drop (k + 3) = ((l.set k x).set (k + 1) y).set (k + 2) z
  | 0, a :: b :: c :: r, _ => by simp
  | 0, [], h => by simp at h
  | 0, [_], h => by simp at h
  | 0, [_, _], h => by simp at h
  | k + 1, [], h => by simp at h
  | k + 1, a :: r, h => by
    have := splice3 x y z k r (by simp at h; omega)
    rw [show k + 1 + 3 = (k + 3) + 1 by omega, show k + 1 + 2 = (k + 2) + 1 by omega]
    simp only [List.take_succ_cons, List.drop_succ_cons, List.set_cons_succ, List.cons_append]
    rw [← this]
theorem setRow3 {W : World} {g : Nat} {cs : List Value} {T : TypeId} (h : Blk W g cs T) (k : Nat) (x y z : Value) (hk : k + 3 ≤ cs.length) :
    W.setRow g (cs.take k ++ [x, y, z] ++ cs.drop (k + 3)).toArray = ((W.setCell ⟨g, k, none⟩ x).setCell ⟨g, k + 1, none⟩ y).setCell ⟨g, k + 2, none⟩ z := by
  have h3 := ((h.set_ k x).set_ (k + 1) y).set_ (k + 2) z
  have hh : (W.setRow g (cs.take k ++ [x, y, z] ++ cs.drop (k + 3)).toArray).heap = (((W.setCell ⟨g, k, none⟩ x).setCell ⟨g, k + 1, none⟩ y).setCell ⟨g, k + 2, none⟩ z).heap := by
    refine Array.ext_getElem? fun j => ?_
    by_cases hj : j = g
    · subst hj
      rw [setRow_heap W j cs.toArray _ T (0, 0) h, splice3 x y z k cs hk]
      exact h3.symm
    · rw [setRow_other W g j _ hj, Below.heap_setCell _ _ _ _ (show j ≠ (⟨g, k + 2, none⟩ : Addr).block from hj), Below.heap_setCell _ _ _ _ (show j ≠ (⟨g, k + 1, none⟩ : Addr).block from hj), Below.heap_setCell _ _ _ _ (show j ≠ (⟨g, k, none⟩ : Addr).block from hj)]
  show ({ W with heap := (W.setRow g (cs.take k ++ [x, y, z] ++ cs.drop (k + 3)).toArray).heap } : World) = { W with heap := (((W.setCell ⟨g, k, none⟩ x).setCell ⟨g, k + 1, none⟩ y).setCell ⟨g, k + 2, none⟩ z).heap }
  rw [hh]
/-- No number lies in the block. -/
def NoI (W : World) (v : Value) : Prop := ∀ g, v.ownBlock = some g → ∀ c t fz, W.heap[g]? = some (.cells c t fz) → ∀ u ∈ c.toList, ∀ k z, u ≠ .int k z
/-- Three stores into cells that hold no number. -/
theorem Stab.far3 {P : World → Prop} (hP : Stab P) {W : World} {g : Nat} {cs : List Value} {T : TypeId} (h : Blk W g cs T) (hT : 90 ≠ T) (k : Nat) (x y z : Value) (hk : k + 3 ≤ cs.length) (hn : ∀ u ∈ cs, ∀ i j, u ≠ .int i j)
    (hx : ∀ i j, x ≠ .int i j) (hy : ∀ i j, y ≠ .int i j) (hW : P W) : P (((W.setCell ⟨g, k, none⟩ x).setCell ⟨g, k + 1, none⟩ y).setCell ⟨g, k + 2, none⟩ z) := by
  have b1 := h.set_ k x
  have b2 := b1.set_ (k + 1) y
  have ok : ∀ {W' : World} {cs' : List Value} (i : Nat), Blk W' g cs' T → i < cs'.length → (∀ u ∈ cs', ∀ i j, u ≠ .int i j) → Okp W' ⟨g, i, none⟩ := fun {W' cs'} i hb hi hu =>
    ⟨T, cs'[i], hb.row, hT, hb.cell (List.getElem?_eq_getElem hi), hu _ (List.getElem_mem hi)⟩
  have n1 : ∀ u ∈ cs.set k x, ∀ i j, u ≠ .int i j := fun u hu => by
    rcases List.mem_or_eq_of_mem_set hu with h | rfl
    · exact hn u h
    · exact hx
  have n2 : ∀ u ∈ (cs.set k x).set (k + 1) y, ∀ i j, u ≠ .int i j := fun u hu => by
    rcases List.mem_or_eq_of_mem_set hu with h | rfl
    · exact n1 u h
    · exact hy
  exact hP.far z (ok (k + 2) b2 (by simp; omega) n2) (hP.far y (ok (k + 1) b1 (by simp; omega) n1) (hP.far x (ok k h (by omega) hn) hW))
theorem mem_zeroCells {z : Array Value} {n : Nat} {u : Value} (h : u ∈ (Builtin.zeroCells z n).toList) : u ∈ z.toList := by
  unfold Builtin.zeroCells at h
  rw [Array.mem_toList_iff, Array.mem_map] at h
  obtain ⟨i, hi, rfl⟩ := h
  have hlt : i < n * z.size := by simpa using hi
  have hz : 0 < z.size := by
    rcases Nat.eq_zero_or_pos z.size with h0 | h0
    · rw [h0] at hlt; omega
    · exact h0
  have hm := Nat.mod_lt i hz
  rw [getElem!_pos z (i % z.size) hm]
  simp

section
variable {W : World} {base : Nat} {v : Value} {M : List C3} {T : TypeId}
/-- append of one element, three cells, to a row of the call's own. -/
theorem app3 {i : TypeInfo} {zv : Value} {by_ : Nat} {t ty : TypeId} (ht : Tryz.prog.underlying t = some (.slice T)) (hi : Tryz.prog.info? T = some i) (hz : i.zero = some zv) (h3 : i.size = 3) (h9 : i.bytes = by_) (hb9 : by_ ≤ 1000) (hzc : zv.cells = #[.bool false, .slice none 0 0, .slice none 0 0])
    (hT : 90 ≠ T) (hown : W.ownsRow base T 3 v M.length (fl3 M)) (hn : NoI W v) (x : C3) (hx : ∀ u ∈ enc3 x, (∀ k z, u ≠ .int k z) ∧ u.oneCell' = true) {gb c : Nat} {T2 : TypeId} (hb : Blk W gb (enc3 x) T2) (hM : M.length ≤ 1000) (hbase : base ≤ W.heap.size) :
    ∃ v' W', (Builtin.append_ #[t, t] ty #[v, .slice (some ⟨gb, 0, none⟩) 1 c]).run Tryz.prog W = .ok v' W' ∧ W'.ownsRow base T 3 v' (M ++ [x]).length (fl3 (M ++ [x])) ∧ NoI W' v' ∧ (∀ P, Stab P → P W → P W') ∧ W.grownBy W' v.ownBlock ∧ (v'.ownBlock = v.ownBlock ∨ v'.ownBlock = some W.heap.size) := by
  have hnews : ∀ j u, (enc3 x)[j]? = some u → W.cell? ((⟨gb, 0, none⟩ : Addr).add j) = some u := fun j u hu => by
    have := hb.cell (i := j) hu
    rw [show (⟨gb, 0, none⟩ : Addr).add j = ⟨gb, j, none⟩ by cases j <;> simp [Addr.add]]
    exact this
  have hzs : zv.cells.size = 3 := by rw [hzc]; rfl
  obtain ⟨v', W', hr, h4, h5, -, h6⟩ := run_append_own_at (P := Tryz.prog) W base t ty T i zv 3 by_ ht hi hz h3 h9 hzs (by omega) v M.length (fl3 M) hown ⟨gb, 0, none⟩ 1 c (enc3 x) rfl hnews (fun u hu => (hx u hu).2) (by unfold maxLen; omega)
    (Nat.le_trans (Nat.mul_le_mul (show M.length + 1 ≤ 1001 by omega) hb9) (by omega)) hbase
  refine ⟨v', W', hr, by rw [fl3_snoc]; simpa using h4, ?_⟩
  have hzn : ∀ u ∈ zv.cells.toList, ∀ k z, u ≠ .int k z := by rw [hzc]; exact noint3
  have grow : ∀ (w1 : World) (c1 : Array Value), W' = W.drew.alloc (.cells c1 T) → v'.ownBlock = some W.heap.size → (∀ u ∈ c1.toList, ∀ k z, u ≠ .int k z) → NoI W' v' ∧ (∀ P, Stab P → P W → P W') := by
    rintro w1 c1 rfl hv hc
    refine ⟨fun g hg c' t' fz hh u hu => ?_, fun P hP hW => hP.low ((Below.refl _ W).drew.alloc (Nat.le_refl _) _) hW⟩
    rw [hv] at hg
    injection hg with hg
    subst hg
    have := heap_alloc_new W.drew (.cells c1 T)
    rw [show W.drew.heap.size = W.heap.size from rfl] at this
    rw [this] at hh
    injection hh with hh
    injection hh with hh
    subst hh
    exact hc u hu
  have hnx : ∀ u ∈ enc3 x, ∀ k z, u ≠ .int k z := fun u hu => (hx u hu).1
  rcases hown.2 with ⟨rfl, h0⟩ | ⟨g, cap, cur, rfl, hbg, hg, hnc, hcm, hcs, htake⟩
  · have hr2 := run_append_nil (P := Tryz.prog) W t ty T i zv ht hi hz ⟨gb, 0, none⟩ 1 c (enc3 x) (by rw [h3]; rfl) hnews (by omega) (by omega) (by omega)
    rw [hr2] at hr
    injection hr with e1 e2
    obtain ⟨a1, a2⟩ := grow W _ e2.symm (by rw [← e1]; rfl) (fun u hu => by
      rw [Array.toList_append] at hu
      rcases List.mem_append.1 hu with h | h
      · exact hnx u h
      · exact hzn u (mem_zeroCells h))
    exact ⟨a1, a2, h5, h6⟩
  · by_cases hroom : M.length + 1 ≤ cap
    · have hlen : (enc3 x).length = 3 := rfl
      have hfit : M.length * i.size + (enc3 x).length ≤ cur.size := by rw [h3, hlen, hcs]; omega
      have hr2 := run_append_room (P := Tryz.prog) W t ty T i ht hi g M.length cap cur hg ⟨gb, 0, none⟩ 1 c (enc3 x) (by rw [h3]; rfl) hnews (fun u hu => (hx u hu).2) hroom hfit
      rw [hr2] at hr
      injection hr with e1 e2
      have hbk : Blk W g cur.toList T := by unfold Blk; simpa using hg
      have hcn : ∀ u ∈ cur.toList, ∀ k z, u ≠ .int k z := hn g rfl cur T (0, 0) hg
      rw [h3, hlen] at e2
      have hl2 : M.length * 3 + 3 ≤ cur.toList.length := by simp; omega
      have e3 := setRow3 hbk (M.length * 3) x.1 x.2.1 x.2.2 hl2
      have e4 : W' = ((W.setCell ⟨g, M.length * 3, none⟩ x.1).setCell ⟨g, M.length * 3 + 1, none⟩ x.2.1).setCell ⟨g, M.length * 3 + 2, none⟩ x.2.2 := e2.symm.trans e3
      refine ⟨fun g' hg' c' t' fz hh u hu => ?_, fun P hP hW => ?_, h5, h6⟩
      · have hgg : g = g' := by
          rw [← e1] at hg'
          simpa [Value.ownBlock] using hg'
        subst hgg
        rw [← e2, setRow_heap W g cur _ T (0, 0) hg] at hh
        injection hh with hh
        injection hh with hh
        rw [← hh] at hu
        rcases List.mem_append.1 (by simpa using hu : u ∈ (cur.toList.take (M.length * 3) ++ enc3 x) ++ cur.toList.drop (M.length * 3 + 3)) with h | h
        · rcases List.mem_append.1 h with h | h
          · exact hcn u (List.mem_of_mem_take h)
          · exact hnx u h
        · exact hcn u (List.mem_of_mem_drop h)
      · rw [e4]
        exact hP.far3 hbk hT _ _ _ _ hl2 hcn (hnx _ (by simp [enc3])) (hnx _ (by simp [enc3])) hW
    · have holds : ∀ j u, (fl3 M)[j]? = some u → W.cell? ((⟨g, 0, none⟩ : Addr).add j) = some u := hown.cells (g := g) rfl
      have hbb : (M.length + 1) * i.bytes ≤ 140737488355328 := by rw [h9]; exact Nat.le_trans (Nat.mul_le_mul (show M.length + 1 ≤ 1001 by omega) hb9) (by omega)
      have hr2 := run_append_grow (P := Tryz.prog) W t ty T i zv ht hi hz ⟨g, 0, none⟩ M.length cap (fl3 M) (by rw [h3]; exact fl3_len M) holds ⟨gb, 0, none⟩ 1 c (enc3 x) (by rw [h3]; rfl) hnews (by omega) (by omega) (growslice_fits (by omega) hbb)
      rw [hr2] at hr
      injection hr with e1 e2
      have hcn : ∀ u ∈ cur.toList, ∀ k z, u ≠ .int k z := hn g rfl cur T (0, 0) hg
      obtain ⟨a1, a2⟩ := grow W _ e2.symm (by rw [← e1]; rfl) (fun u hu => by
        rcases List.mem_append.1 (by simpa using hu : u ∈ (fl3 M ++ enc3 x) ++ (Builtin.zeroCells zv.cells (grownCap W (M.length + 1) cap T - (M.length + 1))).toList) with h | h
        · rcases List.mem_append.1 h with h | h
          · rw [← htake] at h; exact hcn u (List.mem_of_mem_take h)
          · exact hnx u h
        · exact hzn u (mem_zeroCells h))
      exact ⟨a1, a2, h5, h6⟩
end
end Go.Proofs.YthfjbpbgnoonpaaGreatDoor
