/- An argument that is a list of records, opened. -/
import Derived.Test.YtamkegnnlbefdabCRowKit
import Derived.Test.YtamkegnnlbefdabCoH
namespace Go.Proofs.Ytamkegnnlbefdab
open Go.ChangeShapes Go.WideShapes Go.ChangeAt Go.RowKit Go.Deep

abbrev rsT : TypeId := 22
theorem cRR : Try.prog.cellsOf rrT = 2 := by kernel_rfl
theorem cIn : Try.prog.cellsOf 3 = 1 := by kernel_rfl
theorem cSl : Try.prog.cellsOf 27 = 1 := by kernel_rfl
theorem bU8 : Try.prog.bytesOf u8T = 1 := by kernel_rfl
theorem mem_weightsAll {H : Type} {P : Program} {e : TypeId} {x : Nat} {d : DataW H} : ∀ {l : List (DataW H)}, d ∈ l → x ∈ DataW.weights P e d → x ∈ DataW.weightsAll P e l
  | [], h, _ => by simp at h
  | a :: l, h, hx => by
    simp only [DataW.weightsAll, List.mem_append]
    rcases List.mem_cons.1 h with rfl | h
    · exact .inl hx
    · exact .inr (mem_weightsAll h hx)
theorem two_of {α : Type} {xs : List α} (h : xs.length = 2) : ∃ a b, xs = [a, b] := by
  match xs, h with
  | [a, b], _ => exact ⟨a, b, rfl⟩
theorem radd_lit (b off i : Nat) : (⟨b, off, none⟩ : Addr).add i = ⟨b, off + i, none⟩ := by
  unfold Addr.add
  split
  · rename_i h0; subst h0; rfl
  · rfl
theorem rspot_none {w : World} {a : Addr} {v : Value} (h : w.cell? a = some v) : a.spot = none := by
  cases hs : a.spot with
  | none => rfl
  | some s =>
    simp only [World.cell?] at h
    split at h
    · simp [hs] at h
    · cases h
set_option maxRecDepth 100000 in
/-- Bytes, with their number within the reach. -/
theorem open_bytesR {H : Type} {enc : TypeId × Value → H} {W : World} {v : Value} {k : Nat} {y : DataW H × List MemPlace}
    (h : DataW.trod enc Try.prog W 0 (fun _ => true) true k 27 [v] = some y) (hlt : ∀ x ∈ y.2, x.block < W.heap.size) (hw : ∀ x ∈ DataW.weights Try.prog 27 y.1, x ≤ reachBytes) : ∃ A n c l, v = .slice A n c ∧ By W v l ∧ l.length ≤ reachBytes := by
  obtain ⟨A, n, c, l, rfl, hy⟩ := open_bytes h hlt
  refine ⟨A, n, c, l, rfl, hy, ?_⟩
  obtain ⟨e, -, -⟩ := hy.len
  rcases open_ints uSl Try.underlying5 cU8 h with ⟨hcs, hx⟩ | ⟨a, len, cap, zs, hcs, _, hl, hm, hz, hx, hcell, hwz⟩
  · have : n = 0 := by simp at hcs; exact hcs.2.1
    omega
  · have hn : n = len := by simp at hcs; exact hcs.2.1
    subst hx
    have := hw _ (by simp only [DataW.weights, uSl]; exact List.mem_cons_self)
    rw [bU8] at this
    simp [lits] at this hz
    omega
set_option maxRecDepth 100000 in
/-- An argument that is a list of records. -/
theorem open_recArg {H : Type} {enc : TypeId × Value → H} {W : World} {v : Value} {d : DataW H} {p : List MemPlace} {r : Reach} {base : Nat}
    (hval : Value.okWide Try.prog W r base rsT v) (h : DataW.Trod enc Try.prog W 0 (fun _ => true) true rsT v d p) (hlt : ∀ x ∈ p, x.block < W.heap.size) (hw : ∀ x ∈ DataW.weights Try.prog rsT d, decide (x ≤ reachBytes) = true) :
    ∃ A n c rs, v = .slice A n c ∧ Rcs W v rs ∧ ∀ i (hi : i < rs.length), (rs[i]).2.length ≤ 140737488351232 := by
  obtain ⟨a0, len, cap, rfl⟩ := okWide_slice Try.underlying22 hval
  obtain ⟨fuel, hf⟩ := h
  rcases open_slice Try.underlying22 hf with ⟨hcs, hx⟩ | ⟨a, len', cap', m, n, D, Pl, hcs, _, hl, hm, hz, hx, hel⟩
  · simp [Value.cells] at hcs
    obtain ⟨rfl, rfl, rfl⟩ := hcs
    exact ⟨none, 0, 0, [], rfl, Rcs.nil _, fun i hi => by simp at hi⟩
  · simp [Value.cells] at hcs
    obtain ⟨rfl, rfl, rfl⟩ := hcs
    simp only [Prod.mk.injEq] at hx
    obtain ⟨rfl, rfl⟩ := hx
    simp only [if_true] at hz
    subst hz
    have each : ∀ i, ∃ q : Rc, i < len → q.2.length ≤ 140737488351232 ∧ ∃ u, W.cell? (a.add (i * 2)) = some (.int .i64 q.1) ∧ W.cell? ⟨a.block, (a.add (i * 2)).off + 1, none⟩ = some u ∧ By W u q.2 := by
      intro i
      by_cases hi : i < len
      · obtain ⟨cs', hc, ht⟩ := hel i (by omega)
        rw [cRR] at hc
        obtain ⟨_, hcl, hcc⟩ := World.cells?_some hc
        obtain ⟨c0, c1, rfl⟩ := two_of hcl
        obtain ⟨xs, n', -, hx, -, hlen, hg⟩ := DataW.trod_struct Try.underlying43 ht
        obtain ⟨y0, y1, rfl⟩ := two_of hlen
        have t0 := hg 0 _ rfl
        have t1 := hg 1 _ rfl
        simp only [List.getElem_toArray, List.getElem_cons_zero, List.getElem_cons_succ, cIn, cSl] at t0 t1
        have hD : D i = .agg [y0.1, y1.1] ∧ Pl i = y0.2 ++ y1.2 := by
          injection hx with h1 h2
          exact ⟨by simpa using h1, by simpa using h2⟩
        have hin : ∀ x ∈ Pl i, x.block < W.heap.size := fun x hx => hlt x (List.mem_append_right _ (List.mem_flatMap.2 ⟨i, List.mem_range.2 (by omega), hx⟩))
        have hwi : ∀ x ∈ DataW.weights Try.prog 27 y1.1, x ≤ reachBytes := fun x hx => by
          refine of_decide_eq_true (hw x ?_)
          simp only [DataW.weights, Try.underlying22]
          refine List.mem_cons_of_mem _ (List.mem_append_left _ (mem_weightsAll (d := D i) (List.mem_map.2 ⟨i, List.mem_range.2 hi, rfl⟩) ?_))
          rw [hD.1]
          simp only [DataW.weights, Try.underlying43]
          simp only [List.map_cons, List.map_nil, DataW.weightsEach, List.mem_append]
          exact .inr (.inl hx)
        obtain ⟨z, e0, -, -⟩ := DataW.trod_int Try.underlying3 (by simpa using t0)
        obtain rfl : c0 = .int .i64 z := by simpa using e0
        obtain ⟨A1, n1, k1, l, rfl, hy, hyl⟩ := open_bytesR (v := c1) (y := y1) (by simpa using t1) (fun x hx => hin x (by rw [hD.2]; simp [hx])) hwi
        have q0 := hcc 0 (by omega)
        have q1 := hcc 1 (by omega)
        have ea : ∀ b : Addr, b.add 0 = b := fun b => by cases b; simp [Addr.add]
        rw [ea] at q0
        refine ⟨(z, l), fun _ => ⟨hyl, _, by simpa using q0, ?_, hy⟩⟩
        rw [show (a.add (i * 2)).add 1 = ⟨(a.add (i * 2)).block, (a.add (i * 2)).off + 1, none⟩ by unfold Addr.add; simp, add_block] at q1
        simpa using q1
      · exact ⟨(0, []), fun h => absurd h hi⟩
    obtain ⟨q, hq⟩ := Classical.axiomOfChoice each
    refine ⟨some a, len, m, (List.range len).map q, rfl, ⟨some a, m, by simp, by simpa using hl, by unfold maxLen at hm; omega, fun i hi => ?_⟩, fun i hi => ?_⟩
    · simp at hi
      obtain ⟨b, off, spot⟩ := a
      obtain ⟨_, u0, k0, -, -⟩ := hq 0 (by omega)
      have hs : spot = none := by
        have := rspot_none k0
        simpa [Addr.add] using this
      subst hs
      have hb : b < W.heap.size := by
        refine hlt (.cell b off) (List.mem_append_left _ (MemPlace.mem_row.2 ⟨0, ?_, by simp⟩))
        rw [cRR]
        omega
      obtain ⟨_, u, k1, k2, k3⟩ := hq i hi
      rw [radd_lit] at k1 k2
      refine ⟨b, off, u, rfl, hb, ?_, k2, ?_⟩
      · simpa using k1
      · simpa using k3
    · simp at hi
      simpa using (hq i hi).1
end Go.Proofs.Ytamkegnnlbefdab
