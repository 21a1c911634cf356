/- Taking an operation of a drawn region first. -/
import Derived.Test.YtlbckhapcnlmnabPMem
import Derived.Deep.RegionHeld3
namespace Go.Proofs.Ytlbckhapcnlmnab
open Go.RowKit

/-- wpAnyH_take, with the slot told by itself: the state stays written out. -/
theorem wpAnyH_takeD {P : Program} {ops : Array Oper} {Q : Exit → Act → World → Prop} {md : Region.Mode} {S : World → Prop} (i : Nat) {oi : Oper} {v : Value} {d : Tmp} {fuel : Nat} {listed : Array Bool} {a : Act} {w : World} (hi : ops[i]? = some oi)
    (hd : (ops[i]?.bind fun o => o.dst) = some d)
    (hs : Region.noSelect ops = true) (hf : Region.free md ops listed i = true) (hr : (Region.ready md ops listed).contains i = true)
    (hQ : ∀ c a w, Q (.panic c) (a.put oi.dst v) w → Q (.panic c) a w) (hy : YieldsIf P ops S oi v a) (hS : S w)
    (h : wpAnyH P md ops Q S fuel (listed.setIfInBounds i true) { tmps := a.tmps.setIfInBounds d v, defers := a.defers } w) : wpAnyH P md ops Q S (fuel + 1) listed a w := by
  have e : oi.dst = some d := by
    rw [hi] at hd
    exact hd
  refine wpAnyH_take hi hs hf hr hQ hy hS ?_
  unfold Act.put
  rw [e]
  exact h
end Go.Proofs.Ytlbckhapcnlmnab
