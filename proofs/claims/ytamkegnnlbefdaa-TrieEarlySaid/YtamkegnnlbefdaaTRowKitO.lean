/- An argument that is a list of calls, opened. -/
import Derived.Test.YtamkegnnlbefdaaTRowKit
import Derived.Test.YtamkegnnlbefdaaTrBe
import Derived.Deep.Slices
import Derived.Deep.Strs
namespace Go.Proofs.Ytamkegnnlbefdaa
open Go.ChangeShapes Go.WideShapes Go.ChangeAt Go.RowKit Go.Deep

theorem cOp : Try.prog.cellsOf 60 = 4 := by kernel_rfl
theorem cBool : Try.prog.cellsOf 4 = 1 := by kernel_rfl
theorem zadd_one (a : Addr) (i : Nat) (h : 0 < i) : a.add i = ⟨a.block, a.off + i, none⟩ := by
  unfold Addr.add
  rw [if_neg (by omega)]
theorem zadd_zero (a : Addr) : a.add 0 = a := by
  unfold Addr.add
  rw [if_pos rfl]
theorem zadd_lit (b off i : Nat) : (⟨b, off, none⟩ : Addr).add i = ⟨b, off + i, none⟩ := by
  unfold Addr.add
  split
  · rename_i h0; subst h0; rfl
  · rfl
theorem spot_none {w : World} {a : Addr} {v : Value} (h : w.cell? a = some v) : a.spot = none := by
  cases hs : a.spot with
  | none => rfl
  | some s =>
    simp only [World.cell?] at h
    split at h
    · simp [hs] at h
    · cases h
/-- What an element is. -/
def ElO (W : World) (a : Addr) (q : OpV) : Prop := q.2.1 < 4294967296 ∧ W.cell? a = some (.bool q.1) ∧ W.cell? ⟨a.block, a.off + 1, none⟩ = some (.int .u32 (q.2.1 : Int)) ∧ W.cell? ⟨a.block, a.off + 2, none⟩ = some (.int .i64 q.2.2.1) ∧ W.cell? ⟨a.block, a.off + 3, none⟩ = some (.int .i64 q.2.2.2)
set_option maxRecDepth 100000 in
theorem open_ops {H : Type} {enc : TypeId × Value → H} {W : World} {v : Value} {d : DataW H} {p : List MemPlace} {r : Reach} {base : Nat}
    (hval : Value.okWide Try.prog W r base 22 v) (h : DataW.Trod enc Try.prog W 0 (fun _ => true) true 22 v d p) (hlt : ∀ x ∈ p, x.block < W.heap.size) :
    ∃ ops, OpsL W v ops := by
  obtain ⟨a0, len, cap, rfl⟩ := okWide_slice Try.underlying22 hval
  obtain ⟨fuel, hf⟩ := h
  rcases open_slice Try.underlying22 hf with ⟨hcs, hx⟩ | ⟨a, len', cap', m, n, D, Pl, hcs, _, hl, hm, hz, hx, hel⟩
  · simp [Value.cells] at hcs
    obtain ⟨rfl, rfl, rfl⟩ := hcs
    exact ⟨[], none, 0, rfl, fun i hi => by simp at hi⟩
  · simp [Value.cells] at hcs
    obtain ⟨rfl, rfl, rfl⟩ := hcs
    simp only [Prod.mk.injEq] at hx
    obtain ⟨rfl, rfl⟩ := hx
    simp only [if_true] at hz
    subst hz
    have each : ∀ i, ∃ q : OpV, i < len → ElO W (a.add (i * 4)) q := by
      intro i
      by_cases hi : i < len
      · obtain ⟨cs', hc, ht⟩ := hel i (by omega)
        rw [cOp] at hc
        obtain ⟨_, hcl, hcc⟩ := World.cells?_some hc
        match cs', hcl with
        | [c0, c1, c2, c3], _ =>
          obtain ⟨xs, n', -, hx', -, hlen, hg⟩ := DataW.trod_struct Try.underlying60 ht
          obtain ⟨y0, y1, rfl⟩ := two_of hlen
          have h0 := hg 0 _ rfl
          have h1 := hg 1 _ rfl
          simp only [List.getElem_toArray, List.getElem_cons_zero, List.getElem_cons_succ, cBool, cRt] at h0 h1
          obtain ⟨s, e0, -⟩ := DataW.trod_bool Try.underlying4 (by simpa using h0)
          obtain ⟨x, l, z, rfl, rfl, rfl, ha, -⟩ := open_rcells (c0 := c1) (c1 := c2) (c2 := c3) (by simpa using h1)
          have q0 := hcc 0 (by omega)
          have q1 := hcc 1 (by omega)
          have q2 := hcc 2 (by omega)
          have q3 := hcc 3 (by omega)
          rw [zadd_zero] at q0
          rw [zadd_one _ _ (by omega)] at q1 q2 q3
          obtain rfl : c0 = .bool s := by simpa using e0
          exact ⟨(s, x, l, z), fun _ => ⟨ha, by simpa using q0, by simpa using q1, by simpa using q2, by simpa using q3⟩⟩
      · exact ⟨(false, 0, 0, 0), fun h => absurd h hi⟩
    obtain ⟨q, hq⟩ := Classical.axiomOfChoice each
    obtain ⟨b, off, spot⟩ := a
    refine ⟨(List.range len).map q, some ⟨b, off, spot⟩, m, by simp, fun i hi => ?_⟩
    have hil : i < len := by simpa using hi
    obtain ⟨-, h0, -⟩ := hq 0 (by omega)
    rw [Nat.zero_mul, zadd_zero] at h0
    have hs : spot = none := spot_none h0
    subst hs
    have hb : b < W.heap.size := by
      refine hlt (.cell b off) (List.mem_append_left _ (MemPlace.mem_row.2 ⟨0, ?_, by simp⟩))
      rw [cOp]
      omega
    obtain ⟨k, k0, k1, k2, k3⟩ := hq i hil
    rw [zadd_lit] at k0 k1 k2 k3
    rw [show ((List.range len).map q)[i] = q i by simp]
    exact ⟨k, b, off, rfl, hb, k0, k1, k2, k3⟩
set_option maxRecDepth 100000 in
/-- An argument that is a prefix. -/
theorem open_pfx {H : Type} {enc : TypeId × Value → H} {W : World} {v : Value} {d : DataW H} {p : List MemPlace} {r : Reach} {base : Nat}
    (hval : Value.okWide Try.prog W r base 35 v) (h : DataW.Trod enc Try.prog W 0 (fun _ => true) true 35 v d p) :
    ∃ (a : Nat) (l : Int), v = .agg #[.int .u32 (a : Int), .int .i64 l] ∧ a < 4294967296 ∧ p = [] := by
  obtain ⟨cs, rfl, hsz⟩ := okWide_struct Try.underlying35 hval
  rw [cPx] at hsz
  obtain ⟨c0, c1, rfl⟩ := Joins.array2 hsz
  obtain ⟨fuel, hf⟩ := h
  obtain ⟨a, l, rfl, rfl, ha, hp⟩ := open_pcells (by simpa [Value.cells] using hf)
  exact ⟨a, l, rfl, ha, hp⟩
end Go.Proofs.Ytamkegnnlbefdaa
