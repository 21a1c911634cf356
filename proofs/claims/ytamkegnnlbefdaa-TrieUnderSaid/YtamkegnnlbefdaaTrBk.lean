/- Contracts of package trie: Under; visit with a closure that collects. -/
import Derived.Test.YtamkegnnlbefdaaTrBf
import Derived.Test.YtamkegnnlbefdaaTrBl
namespace Go.Proofs.Ytamkegnnlbefdaa
open Go.RowKit

/-- The closure's state: the list's box. -/
def UnI (w : World) (g : Nat) (pre : List Rt) (W : World) : Prop :=
  Below w.heap.size w W ∧ w.heap.size ≤ g ∧ ∃ v, Blk W g [v] slT ∧ OwnT w.heap.size W v pre ∧ ∃ A n c, v = .slice A n c
theorem UnI.below {w W W' : World} {g : Nat} {pre : List Rt} (h : UnI w g pre W) (hb : Below W.heap.size W W') : UnI w g pre W' := by
  obtain ⟨h2, h3, v, h4, h5, h6⟩ := h
  exact ⟨h2.trans (hb.mono h2.size), h3, v, h4.step hb, h5.below hb, h6⟩
theorem un_step {w W : World} {g : Nat} {pre : List Rt} {x : Rt} (h : UnI w g pre W) (hl : pre.length ≤ 100000) (ty : TypeId) :
    ∃ A2 n2 c2 A3 n3 c3 Wb, Blk W g [.slice A2 n2 c2] slT ∧ (Builtin.append_ #[slT, slT] ty #[.slice A2 n2 c2, .slice (some ⟨W.heap.size, 0, none⟩) 1 1]).run Try.prog (W.alloc (.cells #[.int .u32 (x.1.1 : Int), .int .i64 (x.1.2 : Int), .int .i64 x.2] rtT)) = .ok (Value.slice A3 n3 c3) Wb ∧
      Wb.cell? ⟨g, 0, none⟩ = some (.slice A2 n2 c2) ∧ Wb.frozen? ⟨g, 0, none⟩ = false ∧ UnI w g (pre ++ [x]) (Wb.setCell ⟨g, 0, none⟩ (Value.slice A3 n3 c3)) := by
  obtain ⟨h2, h3, v, h4, h5, A2, n2, c2, rfl⟩ := h
  obtain ⟨v', Wb, hr, ho, hg⟩ := run_app1 Try.underlying25 ty x h5 (by omega) h2.size
  obtain ⟨A3, c3, rfl, -⟩ := ho.form
  have b4 := hg.blk h4 (own_ne h5 h4 (by decide))
  have low : Below w.heap.size w Wb := h2.trans (hg.below h5.base_ h2.size)
  refine ⟨A2, n2, c2, A3, _, c3, Wb, h4, hr, b4.cell rfl, b4.frozen, ⟨low.setCell (by simpa using h3) _, h3, _, b4.set_ 0 _, ?_, A3, _, c3, rfl⟩⟩
  refine World.ownsRow.kept (row := some g) ho ⟨rfl, rfl, rfl, by simp [World.setCell], fun k _ hn => Below.heap_setCell _ _ _ _ (fun e => hn (by rw [e]))⟩ (.inr ?_)
  exact own_ne ho b4 (by decide)
abbrev cloV (g : Nat) : Value := .func (.func 42) #[] #[.pointer (some ⟨g, 0, none⟩)]
set_option maxRecDepth 100000 in
set_option maxHeartbeats 2000000 in
theorem clo_any {w W : World} {g : Nat} {pre : List Rt} (x : Rt) (h : UnI w g pre W) (hl : pre.length ≤ 100000) :
    Calls Try.prog 42 #[.agg #[.int .u32 (x.1.1 : Int), .int .i64 (x.1.2 : Int), .int .i64 x.2], .pointer (some ⟨g, 0, none⟩)] W fun e W' => e = .returned (.bool true) ∧ UnI w g (pre ++ [x]) W' := by
  obtain ⟨w1, hw1, S⟩ : ∃ w1, W.alloc (.cells #[.int .u32 (x.1.1 : Int), .int .i64 (x.1.2 : Int), .int .i64 x.2] rtT) = w1 ∧ Hid (Sr W [fun W => UnI w g pre W] [(W.heap.size, [.int .u32 (x.1.1 : Int), .int .i64 (x.1.2 : Int), .int .i64 x.2], rtT)] w1) :=
    ⟨_, rfl, ((Sr.start W).push (fun _ _ hb h => h.below hb) h).alloc [.int .u32 (x.1.1 : Int), .int .i64 (x.1.2 : Int), .int .i64 x.2] rtT⟩
  obtain ⟨A2, n2, c2, A3, n3, c3, Wb, hbl, hr, kc, kf, hI2⟩ := un_step (x := x) (S.out.fact 0 rfl : UnI w g pre w1) hl slT
  have q4 := hbl.cell (i := 0) rfl
  have HR := Lib.hid hr
  have HX := Lib.hid hI2
  clear h hl hbl hr hI2
  have c0x0 := (S.out.at 0 rfl).cell (i := 0) rfl
  have c0x1 := (S.out.at 0 rfl).cell (i := 1) rfl
  have c0x2 := (S.out.at 0 rfl).cell (i := 2) rfl
  go_enter Try.func42, Try.ntmps42
  go_wp2_with (at_builtin; go_loud (refine wpList_app rfl (.tmp 4) (.tmp 6) _ rfl rfl rfl HR.out ?_))
  go_ret
  exact ⟨rfl, HX.out⟩
set_option maxRecDepth 100000 in
set_option maxHeartbeats 4000000 in
theorem visitU {w : World} {gb : Nat} (T : Tr) : ∀ (cur : Value) (pre : List Rt) (W : World) (S : Nat → Prop), At T w cur S → UnI w gb pre W → pre.length + (routes T).length ≤ 100000 →
    Calls Try.prog 41 #[cur, cloV gb] W fun e W' => e = .returned (.bool true) ∧ UnI w gb (pre ++ routes T) W' := by
  induction T with
  | nil =>
    intro cur pre W S ht hI _
    obtain rfl := ht.nil_val
    have HI := Lib.hid hI
    clear hI
    unfold cloV
    go_enter Try.func41, Try.ntmps41
    go_wp2_with fail
    go_ret
    exact ⟨rfl, by simpa [routes] using HI.out⟩
  | node p x h tl tr ihl ihr =>
    intro cur pre W S ht hI hN
    obtain ⟨g, u, v, Sl, Sr', rfl, hg, hb, hl, hr, d1, d2⟩ := ht
    have HBk := Lib.hid (fun pre2 W2 (hj : UnI w gb pre2 W2) => hb.step hj.1)
    have HI := Lib.hid hI
    have hleft := Lib.hid (fun pre2 W2 (hj : UnI w gb pre2 W2) (hn : pre2.length + (routes tl).length ≤ 100000) => ihl u pre2 W2 Sl hl hj hn)
    have hright := Lib.hid (fun pre2 W2 (hj : UnI w gb pre2 W2) (hn : pre2.length + (routes tr).length ≤ 100000) => ihr v pre2 W2 Sr' hr hj hn)
    have hroute := Lib.hid (route_any (HBk.out _ _ hI))
    rw [len_node] at hN
    have c3 := (HBk.out _ _ hI).cell (i := 3) rfl
    have c4 := (HBk.out _ _ hI).cell (i := 4) rfl
    clear ihl ihr hl hr d1 d2 hb hg hI
    unfold ptr at hroute ⊢
    unfold cloV at *
    cases h with
    | true =>
      simp only [if_true] at hN
      clear c4
      go_enter Try.func41, Try.ntmps41
      go_wp2_with fail
      refine hroute.out.mono ?_
      rintro e W1 ⟨rfl, hb1⟩
      have HC := Lib.hid (clo_any (p, x) (HI.out.below hb1) (by omega))
      clear hb1 hroute c3
      unfold rtV
      go_wp2_with fail
      refine HC.out.mono ?_
      rintro e W2 ⟨rfl, hj2⟩
      have c4 := (HBk.out _ _ hj2).cell (i := 4) rfl
      have HL := Lib.hid (hleft.out _ _ hj2 (by simp; omega))
      clear hj2 HC hleft
      go_wp2_with fail
      refine HL.out.mono ?_
      rintro e W3 ⟨rfl, hj3⟩
      have c5 := (HBk.out _ _ hj3).cell (i := 5) rfl
      have HR := Lib.hid (hright.out _ _ hj3 (by simp; omega))
      clear hj3 HL hright c4
      go_wp2_with fail
      refine HR.out.mono ?_
      rintro e W4 ⟨rfl, hj4⟩
      have HJ := Lib.hid hj4
      clear hj4 HR c5
      go_wp2_with fail
      go_ret
      exact ⟨rfl, by simpa [routes, List.append_assoc] using HJ.out⟩
    | false =>
      simp only [Bool.false_eq_true, if_false] at hN
      have HL := Lib.hid (hleft.out _ _ HI.out (by omega))
      clear hleft hroute
      go_enter Try.func41, Try.ntmps41
      go_wp2_with fail
      refine HL.out.mono ?_
      rintro e W3 ⟨rfl, hj3⟩
      have c5 := (HBk.out _ _ hj3).cell (i := 5) rfl
      have HR := Lib.hid (hright.out _ _ hj3 (by simp; omega))
      clear hj3 HL hright c4 c3
      go_wp2_with fail
      refine HR.out.mono ?_
      rintro e W4 ⟨rfl, hj4⟩
      have HJ := Lib.hid hj4
      clear hj4 HR c5
      go_wp2_with fail
      go_ret
      exact ⟨rfl, by simpa [routes, List.append_assoc] using HJ.out⟩
end Go.Proofs.Ytamkegnnlbefdaa
