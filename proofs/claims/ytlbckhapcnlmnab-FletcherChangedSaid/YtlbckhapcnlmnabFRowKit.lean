/- What the rows of layer 8's laws share: arguments opened. -/
import Derived.Test.YtlbckhapcnlmnabRows
import Derived.Test.YtlbckhapcnlmnabFlA
import Derived.WalkKit
import Derived.ProofKit
import Derived.OpenShut
import Derived.Deep.Slices
import Derived.Deep.Fields
import Derived.Lib.SmallJoins
namespace Go.Proofs.Ytlbckhapcnlmnab
open Go.ChangeShapes Go.WideShapes Go.ChangeAt Go.RowKit Go.Deep

theorem ownK : ownKnob Try.prog.godebug = none := by kernel_rfl
theorem laidOutT : laidOutB Try.prog = true := by kernel_rfl
theorem cU8 : Try.prog.cellsOf u8T = 1 := by kernel_rfl
theorem byte_wf {x : Int} (h : (Lit.int .u8 x).wf = true) : 0 ≤ x ∧ x < 256 := by
  simp [Lit.wf, IntKind.min, IntKind.max, IntKind.signed, IntKind.bits] at h
  omega
set_option maxRecDepth 100000 in
theorem open_bytes {H : Type} {enc : TypeId × Value → H} {W : World} {v : Value} {k : Nat} {y : DataW H × List MemPlace}
    (h : DataW.trod enc Try.prog W 0 (fun _ => true) true k 22 [v] = some y) (hlt : ∀ x ∈ y.2, x.block < W.heap.size) : ∃ A n c l, v = .slice A n c ∧ By W v l := by
  rcases open_ints uSl Try.underlying5 cU8 h with ⟨hcs, hx⟩ | ⟨a, len, cap, zs, hcs, _, hl, hm, hz, hx, hcell, hwz⟩
  · obtain rfl : v = .slice none 0 0 := by simpa using hcs
    exact ⟨none, 0, 0, [], rfl, By.nil _⟩
  · obtain rfl : v = .slice (some a) len cap := by simpa using hcs
    subst hx
    simp only [if_true] at hz
    have hlen : ((zs.take len).map fun x => UInt8.ofNat x.toNat).length = len := by simp; omega
    refine ⟨some a, len, cap, (zs.take len).map fun x => UInt8.ofNat x.toNat, rfl, some a, cap, by rw [hlen], by rw [hlen]; exact hl, by unfold maxLen at hm; omega, fun i hi => ?_⟩
    rw [hlen] at hi
    obtain ⟨b, off, spot⟩ := a
    refine ⟨_, rfl, hlt (.cell b off) (MemPlace.mem_row.2 ⟨0, by omega, by simp⟩), ?_⟩
    rw [hcell i (by omega), bf_get _ (by rw [hlen]; exact hi)]
    have hi2 : i < zs.length := by omega
    have hw := byte_wf (hwz (zs[i]) (List.getElem_mem hi2))
    unfold encB
    simp [List.getD, hi2]
    omega
set_option maxRecDepth 100000 in
/-- An argument that is a list of bytes. -/
theorem open_byteArg {H : Type} {enc : TypeId × Value → H} {W : World} {v : Value} {d : DataW H} {p : List MemPlace} {r : Reach} {base : Nat}
    (hval : Value.okWide Try.prog W r base 22 v) (h : DataW.Trod enc Try.prog W 0 (fun _ => true) true 22 v d p) (hlt : ∀ x ∈ p, x.block < W.heap.size) : ∃ A n c l, v = .slice A n c ∧ By W v l := by
  obtain ⟨a0, len, cap, rfl⟩ := okWide_slice uSl hval
  obtain ⟨fuel, hf⟩ := h
  exact open_bytes (y := (d, p)) (by simpa [Value.cells] using hf) hlt
set_option maxRecDepth 100000 in
/-- An argument that is an array of two numbers. -/
theorem open_arr2 {H : Type} {enc : TypeId × Value → H} {W : World} {t e : TypeId} {q : IntKind} (hu : Try.prog.underlying t = some (.array 2 e)) (he : Try.prog.underlying e = some (.int q)) (hc : Try.prog.cellsOf t = 2) (hc1 : Try.prog.cellsOf e = 1)
    {v : Value} {d : DataW H} {p : List MemPlace} {r : Reach} {base : Nat} (hval : Value.okWide Try.prog W r base t v) (h : DataW.Trod enc Try.prog W 0 (fun _ => true) true t v d p) :
    ∃ x y : Int, v = .agg #[.int q x, .int q y] ∧ (Lit.int q x).wf = true ∧ (Lit.int q y).wf = true := by
  simp only [Value.okWide, hu] at hval
  obtain ⟨cs, rfl, hn, -⟩ := hval
  rw [hc] at hn
  obtain ⟨l⟩ := cs
  obtain ⟨a, b, rfl⟩ : ∃ a b, l = [a, b] := by
    match l, hn with
    | [a, b], _ => exact ⟨a, b, rfl⟩
  obtain ⟨fuel, hf⟩ := h
  cases fuel with
  | zero => simp [DataW.trod] at hf
  | succ m =>
    rw [DataW.trod_step] at hf
    unfold DataW.trodStep at hf
    simp only [hu, Value.cells] at hf
    rw [if_pos (by rw [hc]; rfl), hc1] at hf
    simp only [Option.map_eq_some_iff] at hf
    obtain ⟨ys, hy, -⟩ := hf
    rw [show List.range 2 = [0, 1] from rfl] at hy
    rw [List.mapM_cons] at hy
    simp only [bind, Option.bind_eq_some_iff, pure, Option.some.injEq] at hy
    obtain ⟨y0, h0, ys, hy, -⟩ := hy
    rw [List.mapM_cons] at hy
    simp only [bind, Option.bind_eq_some_iff, pure, Option.some.injEq] at hy
    obtain ⟨y1, h1, -⟩ := hy
    obtain ⟨x, e0, -, w0⟩ := DataW.trod_int he h0
    obtain ⟨y, e1, -, w1⟩ := DataW.trod_int he h1
    simp at e0 e1
    subst e0 e1
    exact ⟨x, y, rfl, w0, w1⟩
end Go.Proofs.Ytlbckhapcnlmnab
