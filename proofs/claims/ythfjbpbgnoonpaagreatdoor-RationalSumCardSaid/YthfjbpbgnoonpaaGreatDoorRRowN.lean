/- An argument of layer 2's laws, opened. -/
import Derived.Test.YthfjbpbgnoonpaaGreatDoorRRowKit
import Derived.Test.YthfjbpbgnoonpaaGreatDoorRYb
namespace Go.Proofs.YthfjbpbgnoonpaaGreatDoor
open Go.ChangeShapes Go.WideShapes Go.ChangeAt Go.RowKit

theorem cNum : Tryz.prog.cellsOf 24 = 3 := by kernel_rfl
set_option maxRecDepth 100000 in
theorem open_digits {H : Type} {enc : TypeId × Value → H} {W : World} {v : Value} {k : Nat} {y : DataW H × List MemPlace}
    (h : DataW.trod enc Tryz.prog W 0 (fun _ => true) true k 22 [v] = some y) (hlt : ∀ x ∈ y.2, x.block < W.heap.size) :
    ∃ A n c ds, v = .slice A n c ∧ n ≤ 9223372036854775807 ∧ ds.length = n ∧ (∀ d ∈ ds, d < 4294967296) ∧ LA W v ds := by
  rcases open_ints Tryz.underlying22 Tryz.underlying90 c32 h with ⟨hcs, hx⟩ | ⟨a, len, cap, zs, hcs, _, hl, hm, hz, hx, hcell, hwz⟩
  · obtain rfl : v = .slice none 0 0 := by simpa using hcs
    exact ⟨none, 0, 0, [], rfl, by omega, rfl, by simp, none, 0, rfl, fun i hi => by simp at hi⟩
  · obtain rfl : v = .slice (some a) len cap := by simpa using hcs
    subst hx
    simp only [if_true] at hz
    have hwf : ∀ n ∈ zs, 0 ≤ n ∧ n < 4294967296 := fun n hn => by
      have := hwz n hn
      simp [Lit.wf, IntKind.min, IntKind.max, IntKind.signed, IntKind.bits] at this
      omega
    have hlen : ((zs.take len).map Int.toNat).length = len := by simp; omega
    refine ⟨some a, len, cap, (zs.take len).map Int.toNat, rfl, by unfold maxLen at hm; omega, hlen, ?_, ?_⟩
    · intro d hd
      obtain ⟨z, hz1, rfl⟩ := List.mem_map.1 hd
      have := hwf z (List.mem_of_mem_take hz1)
      omega
    · refine ⟨some a, cap, by rw [hlen], fun i hi => ?_⟩
      rw [hlen] at hi
      obtain ⟨b, off, spot⟩ := a
      refine ⟨_, rfl, hlt (.cell b off) (MemPlace.mem_row.2 ⟨0, by omega, by simp⟩), ?_⟩
      rw [hcell i (by omega)]
      have hi2 : i < zs.length := by omega
      have := hwf (zs[i]) (List.getElem_mem hi2)
      simp [u32f, List.getD, hi, hi2]
      omega
set_option maxRecDepth 100000 in
/-- An argument that is a fraction's digits. -/
theorem open_num {H : Type} {enc : TypeId × Value → H} {W : World} {v : Value} {d : DataW H} {p : List MemPlace} {r : Reach} {base : Nat}
    (hval : Value.okWide Tryz.prog W r base 24 v) (h : DataW.Trod enc Tryz.prog W 0 (fun _ => true) true 24 v d p) (hlt : ∀ x ∈ p, x.block < W.heap.size) :
    ∃ b A n c A2 n2 c2 ds es, v = .agg #[.bool b, .slice A n c, .slice A2 n2 c2] ∧ ArgN W A n c A2 n2 c2 ds es := by
  obtain ⟨v0, v1, v2, y0, y1, y2, k, rfl, rfl, rfl, h0, h1, h2⟩ := Joins.open_agg3 Tryz.underlying24 (by kernel_rfl) cNum hval h
  obtain ⟨b, e0, -⟩ := DataW.trod_bool Tryz.underlying4 h0
  obtain rfl : v0 = .bool b := by simpa using e0
  obtain ⟨A, n, c, ds, rfl, hn, hl, hd, hA⟩ := open_digits h1 (fun x hx => hlt x (by simp [hx]))
  obtain ⟨A2, n2, c2, es, rfl, hn2, hl2, hd2, hA2⟩ := open_digits h2 (fun x hx => hlt x (by simp [hx]))
  exact ⟨b, A, n, c, A2, n2, c2, ds, es, rfl, ⟨hA, hA2, hd, hd2, hn, hn2, hl, hl2⟩⟩
end Go.Proofs.YthfjbpbgnoonpaaGreatDoor
