/- The law PrefixOrder: the short ways; the two appends. -/
import Derived.Test.YtgpgoadalnojdaaGreatDoorAggJ
namespace Go.Proofs.YtgpgoadalnojdaaGreatDoor
open Go.RowKit

set_option maxRecDepth 100000 in
set_option maxHeartbeats 16000000 in
theorem lawOrder_many {w : World} {A : Option Addr} {n c : Nat} {z : Int} (hV : Vars w) (hn : ¬ n ≤ 30) :
    Calls Tryz.prog 5 #[.slice A n c, .int .i64 z] w fun e w' => e = .returned (.bool true) ∧ Below w.heap.size w w' := by
  have hAw := Lib.hid (fun (W : World) (hW : Below w.heap.size w W) => awake_any W (hV.below hW))
  have hFw := Lib.hid (few_any A n c)
  rw [decide_eq_false hn] at hFw
  clear hV
  go_enter Tryz.func5, Tryz.ntmps5
  go_wp2_with fail
  refine (hAw.out _ (Below.refl _ _)).mono ?_
  rintro e w1 ⟨rfl, hb1⟩
  have H1 := Lib.hid hb1
  clear hb1
  go_wp2_with fail
  refine (hFw.out _).mono ?_
  rintro e w2 ⟨rfl, rfl⟩
  go_wp2_with fail
  refine (hAw.out _ H1.out).mono ?_
  rintro e w3 ⟨rfl, hb3⟩
  have H3 := Lib.hid (H1.out.trans (hb3.mono H1.out.size))
  clear hb3
  go_wp2_with fail
  go_ret
  exact ⟨rfl, H3.out⟩

set_option maxRecDepth 100000 in
set_option maxHeartbeats 16000000 in
theorem lawOrder_neg {w : World} {A : Option Addr} {n c : Nat} {z : Int} (hV : Vars w) (hn : n ≤ 30) (hz : z < 0) :
    Calls Tryz.prog 5 #[.slice A n c, .int .i64 z] w fun e w' => e = .returned (.bool true) ∧ Below w.heap.size w w' := by
  have hAw := Lib.hid (fun (W : World) (hW : Below w.heap.size w W) => awake_any W (hV.below hW))
  have hFw := Lib.hid (few_any A n c)
  rw [decide_eq_true hn] at hFw
  clear hV
  go_enter Tryz.func5, Tryz.ntmps5
  go_wp2_with fail
  refine (hAw.out _ (Below.refl _ _)).mono ?_
  rintro e w1 ⟨rfl, hb1⟩
  have H1 := Lib.hid hb1
  clear hb1
  go_wp2_with fail
  refine (hFw.out _).mono ?_
  rintro e w2 ⟨rfl, rfl⟩
  go_wp2_with fail
  refine (hAw.out _ H1.out).mono ?_
  rintro e w3 ⟨rfl, hb3⟩
  have H3 := Lib.hid (H1.out.trans (hb3.mono H1.out.size))
  clear hb3
  go_wp2_with fail
  go_ret
  exact ⟨rfl, H3.out⟩

set_option maxRecDepth 100000 in
set_option maxHeartbeats 16000000 in
theorem lawOrder_big {w : World} {A : Option Addr} {n c : Nat} {z : Int} (hV : Vars w) (hn : n ≤ 30) (hz0 : ¬ z < 0) (hz : (n : Int) < z) :
    Calls Tryz.prog 5 #[.slice A n c, .int .i64 z] w fun e w' => e = .returned (.bool true) ∧ Below w.heap.size w w' := by
  have hAw := Lib.hid (fun (W : World) (hW : Below w.heap.size w W) => awake_any W (hV.below hW))
  have hFw := Lib.hid (few_any A n c)
  rw [decide_eq_true hn] at hFw
  clear hV
  go_enter Tryz.func5, Tryz.ntmps5
  go_wp2_with fail
  refine (hAw.out _ (Below.refl _ _)).mono ?_
  rintro e w1 ⟨rfl, hb1⟩
  have H1 := Lib.hid hb1
  clear hb1
  go_wp2_with fail
  refine (hFw.out _).mono ?_
  rintro e w2 ⟨rfl, rfl⟩
  go_wp2_with fail
  refine (hAw.out _ H1.out).mono ?_
  rintro e w3 ⟨rfl, hb3⟩
  have H3 := Lib.hid (H1.out.trans (hb3.mono H1.out.size))
  clear hb3
  go_wp2_with fail
  go_ret
  exact ⟨rfl, H3.out⟩

/-- What Aggregate returns, in one form. -/
structure AggU (W : World) (n : Nat) (xs : Nat → Nat × Int) (v : Value) (X : List Px) (e0 : Int) (W' : World) : Prop where
  own : OwnP W' W.heap.size v X
  canon : Canon X
  len : X.length ≤ n
  below : Below W.heap.size W W'
  what : (AllV n xs ∧ e0 = 0 ∧ ∀ x, U X x ↔ U (pl n xs) x) ∨ (¬ AllV n xs ∧ e0 = 1 ∧ X = [])
def AggV (W : World) (n : Nat) (xs : Nat → Nat × Int) (e : Ending) (W' : World) : Prop := ∃ v X e0, e = .returned (.tuple #[v, .int .i64 e0]) ∧ AggU W n xs v X e0 W'
theorem agg_v {w : World} {A : Option Addr} {n c : Nat} {xs : Nat → Nat × Int} (hL : PxL w A n xs) (hn : n ≤ 1000) :
    Calls Tryz.prog 8 #[.slice A n c] w (AggV w n xs) := by
  refine (agg_any hL hn).mono ?_
  rintro e w' (⟨h1, v, X, rfl, h2, h3, h4, h5, h6⟩ | ⟨h1, rfl, h2⟩)
  · exact ⟨v, X, 0, rfl, h2, h3, h4, h6, .inl ⟨h1, rfl, h5⟩⟩
  · exact ⟨_, [], 1, rfl, OwnP.nil _ _, canon_nil_, Nat.zero_le _, h2, .inr ⟨h1, rfl, rfl⟩⟩
theorem wp_append_none {w : World} {o : Oper} {a : Act} {K : Act → World → Prop} {Q : Exit → Act → World → Prop} (s x : Operand) (t : TypeId)
    (ho : o.op = .call { callee := .builtin .append, args := #[s, x], argTypes := #[t, t] })
    (base : Nat) (e : TypeId) (i : TypeInfo) (size : Nat) (ht : Tryz.prog.underlying t = some (.slice e)) (hi : Tryz.prog.info? e = some i)
    (v : Value) (n : Nat) (xs : List Value) (hs : a.eval s = v) (hown : w.ownsRow base e size v n xs) (hx : a.eval x = .slice none 0 0)
    (h : K (a.put o.dst v) w) : o.wp Tryz.prog a w K Q := by
  have hrun := run_append_owned_none (P := Tryz.prog) (w := w) base t o.type e i size ht hi v n xs hown
  unfold Oper.wp
  simp [execOp, ho, resolve, invoke, builtin, hs, hx, hrun, Result.andThen]
  exact h
/-- What the law keeps: the aggregate's row. -/
theorem SI.gb {w wr wr' : World} {v : Value} {X : List Px} {bw : Nat} {row : Option Nat} (h : SI w v X wr) (hg : wr.grownBy wr' row) (hr : ∀ k, row = some k → bw ≤ k) (hw : ∀ k, v.ownBlock = some k → k < bw) (hb : w.heap.size ≤ bw) : SI w v X wr' := by
  refine ⟨h.1.trans (below_of_gb hg h.1.size (fun k hk => Nat.le_trans hb (hr k hk))), h.2.gb hg ?_⟩
  cases hv : v.ownBlock with
  | none => exact .inl rfl
  | some k =>
    refine .inr fun e => ?_
    have h1 := hr k e.symm
    have h2 := hw k hv
    omega
end Go.Proofs.YtgpgoadalnojdaaGreatDoor
