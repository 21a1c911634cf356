/- Contracts of package heap: Set. -/
import Derived.Test.YtijoaiehnemgnaaHeapG
namespace Go.Proofs.Ytijoaiehnemgnaa
open Go.RowKit

theorem infoEntry : (Try.prog.info? 54).map (fun i => (i.zero, i.size, i.bytes)) = some (some (.agg #[.int .i64 0, .int .i64 0]), 2, 16) := by kernel_rfl
theorem row_of_cells {w : World} {g n : Nat} {e : TypeId} {cur : Array Value} (h : w.heap[g]? = some (.cells cur e (0, 0))) (hn : cur.size = n) : Row w g e n (fun i => cur.getD i undef) := by
  unfold Row
  rw [h]
  have : cur = (vals (fun i => cur.getD i undef) n).toArray := by
    apply Array.ext
    · simp [vals, hn]
    · intro i h1 h2
      simp [vals, Array.getD, h1]
  rw [← this]
/-- The entries as a row of the kit's own words. -/
theorem own_entries {w : World} {h E P L c : Nat} {A : Option Addr} {a : Nat → En} (hA : (A = none ∧ L = 0 ∧ c = 0 ∧ E = h) ∨ (A = some ⟨E, 0, none⟩ ∧ Arr w E c L a ∧ h ≠ E ∧ E ≠ P ∧ L ≤ c ∧ c ≤ maxLen)) :
    ∃ xs, w.ownsRow 0 54 2 (.slice A L c) L xs ∧ ∀ j, j < L → xs[j * 2]? = some (.int .i64 ((a j).1 : Nat)) ∧ xs[j * 2 + 1]? = some (.int .i64 (a j).2) := by
  rcases hA with ⟨rfl, rfl, rfl, -⟩ | ⟨rfl, ⟨f, hr, hf⟩, -, -, hLc, hcm⟩
  · exact ⟨[], World.ownsRow_nil w 0 _ 2, fun j hj => by omega⟩
  · refine ⟨(vals f (c * 2)).take (L * 2), ⟨by rw [List.length_take, vals_len]; omega, .inr ⟨E, c, (vals f (c * 2)).toArray, rfl, Nat.zero_le _, hr, hLc, hcm, by simp [vals_len], by simp⟩⟩, fun j hj => ?_⟩
    rw [List.getElem?_take_of_lt (by omega), List.getElem?_take_of_lt (by omega), vals_get _ _ _ (by omega), vals_get _ _ _ (by omega)]
    exact ⟨by rw [(hf j hj).1], by rw [(hf j hj).2]⟩
/-- Behind the append of one entry. -/
theorem append_post {w w' : World} {h E P L c n : Nat} {A : Option Addr} {a : Nat → En} {pl : Nat → Int} {v' : Value} {xs : List Value} (hA : (A = none ∧ L = 0 ∧ c = 0 ∧ E = h) ∨ (A = some ⟨E, 0, none⟩ ∧ Arr w E c L a ∧ h ≠ E ∧ E ≠ P ∧ L ≤ c ∧ c ≤ maxLen))
    (hB : HeapB w h A L c P n) (hP : Plc w P n pl) (hne : h ≠ P) (hxs : ∀ j, j < L → xs[j * 2]? = some (.int .i64 ((a j).1 : Nat)) ∧ xs[j * 2 + 1]? = some (.int .i64 (a j).2)) (hlen : xs.length = L * 2)
    (hown : w'.ownsRow 0 54 2 v' (L + 1) (xs ++ [.int .i64 0, .int .i64 0])) (hg : w.grownBy w' (Value.slice A L c).ownBlock) (hb : v'.ownBlock = (Value.slice A L c).ownBlock ∨ v'.ownBlock = some w.heap.size) :
    ∃ g cap, v' = .slice (some ⟨g, 0, none⟩) (L + 1) cap ∧ L + 1 ≤ cap ∧ cap ≤ maxLen ∧ Arr w' g cap (L + 1) (upd a L (0, 0)) ∧ (g = E ∨ g = w.heap.size) ∧ h ≠ g ∧ g ≠ P ∧ HeapB w' h A L c P n ∧ Plc w' P n pl ∧ Fr w w' h E P := by
  rcases hown.2 with ⟨_, h0⟩ | ⟨g, cap, cur, rfl, -, hcells, hcap, hcm, hsz, htake⟩
  · omega
  have lh := hB.lt
  have lP := Row.lt hP
  have hgE : (g = E ∧ h ≠ E ∧ E ≠ P) ∨ g = w.heap.size := by
    rcases hb with hb | hb
    · rcases hA with ⟨rfl, -, -, -⟩ | ⟨rfl, -, q1, q2, -⟩
      · simp [Value.ownBlock] at hb
      · simp [Value.ownBlock] at hb
        exact .inl ⟨hb, q1, q2⟩
    · simp [Value.ownBlock] at hb
      exact .inr hb
  have hkeep : ∀ k, k < w.heap.size → k ≠ E → w'.heap[k]? = w.heap[k]? := by
    intro k hk hkE
    refine hg.block k hk ?_
    rcases hA with ⟨rfl, -, -, -⟩ | ⟨rfl, -⟩
    · simp [Value.ownBlock]
    · simp [Value.ownBlock]; exact hkE
  have hkeep2 : ∀ k, k < w.heap.size → (k = h ∨ k = P) → w'.heap[k]? = w.heap[k]? := by
    intro k hk hkk
    refine hg.block k hk ?_
    rcases hA with ⟨rfl, -, -, -⟩ | ⟨rfl, -, q1, q2, -⟩
    · simp [Value.ownBlock]
    · simp [Value.ownBlock]; omega
  refine ⟨g, cap, rfl, hcap, hcm, ⟨_, row_of_cells hcells hsz, fun j hj => ?_⟩, by omega, by omega, by omega, hB.keep (hkeep2 h lh (.inl rfl)), hP.keep (hkeep2 P lP (.inr rfl)), hg.os, hg.tape, hg.output, hg.size, fun k hk _ hkE _ => hkeep k hk hkE⟩
  have hget : ∀ i u, i < (L + 1) * 2 → (xs ++ [Value.int .i64 0, .int .i64 0])[i]? = some u → cur.getD i undef = u := by
    intro i u hi hu
    rw [← htake, List.getElem?_take_of_lt hi] at hu
    have : cur[i]? = some u := by simpa using hu
    rw [Array.getD_eq_getD_getElem?, this]; rfl
  unfold upd
  by_cases e : j = L
  · subst e
    rw [if_pos rfl]
    refine ⟨hget _ _ (by omega) ?_, hget _ _ (by omega) ?_⟩
    · rw [List.getElem?_append_right (by omega), hlen]; simp
    · rw [List.getElem?_append_right (by omega), hlen, show j * 2 + 1 - j * 2 = 1 by omega]; rfl
  · rw [if_neg e]
    obtain ⟨q1, q2⟩ := hxs j (by omega)
    refine ⟨hget _ _ (by omega) ?_, hget _ _ (by omega) ?_⟩
    · rw [List.getElem?_append_left (by omega)]; exact q1
    · rw [List.getElem?_append_left (by omega)]; exact q2
end Go.Proofs.Ytijoaiehnemgnaa
