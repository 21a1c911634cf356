/- slices.Backward over []uint32, as an iterator. -/
import Derived.Test.YtapblmbjbpkieaaDoorIter
import Derived.Test.YtapblmbjbpkieaaDoorProg
namespace Go.Proofs.YtapblmbjbpkieaaDoor
open Go.RowKit
attribute [local go_sem] Oper.semAt_some

/-- The indexes that have come after k rounds. -/
def dn (n k : Nat) : List Nat := (List.range k).map fun j => n - 1 - j
theorem dn_succ (n k : Nat) : dn n (k + 1) = dn n k ++ [n - 1 - k] := by simp [dn, List.range_succ]
theorem dn_len (n k : Nat) : (dn n k).length = k := by simp [dn]

/-- What the loop's invariant must say: the box, and the cell that is read next. -/
def BackR (Bs : Nat) (A : Option Addr) (n c : Nat) (g : Nat → Nat) (pre : List Nat) (W : World) : Prop :=
  W.cell? ⟨Bs, 0, none⟩ = some (.slice A n c) ∧ (pre.length < n → ∃ a, A = some a ∧ W.cell? (a.add (n - 1 - pre.length)) = some (.int .u32 (g (n - 1 - pre.length) : Nat)))

set_option maxRecDepth 100000 in
set_option maxHeartbeats 2000000 in
theorem back_iter (F : Fence) (n' : Nat) (hF : F.fn 72) (hro : F.round = none) (hn : 1 ≤ n') (Bs : Nat) (A : Option Addr) (n c : Nat) (g : Nat → Nat) (hlen : n ≤ 1000000000) (w : World) :
    Iterates F n' Tryd.prog 72 #[.pointer (some ⟨Bs, 0, none⟩)] (fun k : Nat => #[Value.int .i64 k, .int .u32 (g k : Nat)]) (BackR Bs A n c g) (fun pre x => pre = dn n pre.length ∧ x = n - 1 - pre.length) (fun xs => xs = dn n n) (fun pre => ∃ k, k < n ∧ pre = dn n (k + 1)) n w := by
  intro l J Jx W hW hJR hY h0
  have hbox := (hJR _ _ h0).1
  refine callsIn_of_wp Tryd.func72 rfl hF ?_ hro
  simp only [Tryd.ntmps72, List.size_toArray, List.length_cons, List.length_nil, Nat.reduceAdd, Nat.reduceSub, Array.replicate_succ, Array.replicate_zero, List.push_toArray, List.append_toArray, List.nil_append, List.cons_append]
  gi_wp2
  gi_loopw [3] (fun i wr => ∃ r : Nat, r ≤ n ∧ i = .int .i64 ((r : Int) - 1) ∧ J (dn n (n - r)) wr) (fun i _ => (intOf i + 1).toNat)
  case atStart => exact ⟨n, Nat.le_refl _, rfl, by rw [Nat.sub_self]; exact h0⟩
  case round =>
    obtain ⟨r, hr, rfl, hJ⟩ := hrel
    by_cases hlt : 0 < r
    · obtain ⟨m, rfl⟩ : ∃ m, r = m + 1 := ⟨r - 1, by omega⟩
      have hR := hJR _ _ hJ
      obtain ⟨hbox2, hcell0⟩ := hR
      rw [dn_len] at hcell0
      obtain ⟨a, rfl, hcell⟩ := hcell0 (by omega)
      clear hcell0
      have hidx : n - 1 - (n - (m + 1)) = m := by omega
      rw [hidx] at hcell
      obtain ⟨fn, tmps, assign, body, hy, hRd⟩ := hY _ m wr hJ (by rw [dn_len]; omega) ⟨by rw [dn_len], by rw [dn_len]; omega⟩
      try dsimp only at hy
      have hdn : dn n (n - (m + 1)) ++ [m] = dn n (n - (m + 1) + 1) := by rw [dn_succ, hidx]
      rw [hdn] at hRd
      clear hdn
      have hm : (((m + 1 : Nat) : Int) - 1) = (m : Int) := by omega
      rw [hm]
      gi_wp2
      refine hRd.mono ?_
      rintro e W3 (⟨rfl, hJ3⟩ | ⟨rfl, hJx3⟩)
      · gi_wp2
        go_roundw
        case rel => exact ⟨m, by omega, rfl, by rw [show n - m = n - (m + 1) + 1 by omega]; exact hJ3⟩
        case measure => simp [intOf]
      · gi_wp2
        refine bodyPost_ret (results_none rfl _ _ _) rfl ?_
        exact ⟨⟨_, rfl⟩, .inr ⟨_, ⟨n - (m + 1), by omega, rfl⟩, hJx3⟩⟩
    · obtain rfl : r = 0 := by omega
      gi_wp2
      go_end0
      exact ⟨⟨_, rfl⟩, .inl ⟨_, rfl, hJ⟩⟩

set_option maxHeartbeats 1000000 in
theorem backward_in (F : Fence) (n : Nat) (hF : F.fn 50) (hro : F.round = none) (A : Option Addr) (len cap : Nat) (w : World) :
    CallsIn F n Tryd.prog 50 #[.slice A len cap] w fun e w' => e = .returned (.func (.func 72) #[] #[.pointer (some ⟨w.heap.size, 0, none⟩)]) ∧ w' = w.alloc (.cells #[.slice A len cap] 22) := by
  refine callsIn_of_wp Tryd.func50 rfl hF ?_ hro
  simp only [Tryd.ntmps50, List.size_toArray, List.length_cons, List.length_nil, Nat.reduceAdd, Nat.reduceSub, Array.replicate_succ, Array.replicate_zero, List.push_toArray, List.append_toArray, List.nil_append, List.cons_append]
  gi_wp2
  go_ret
  exact ⟨rfl, rfl⟩
end Go.Proofs.YtapblmbjbpkieaaDoor
