/- Many calls: build. -/
import Derived.Test.YtamkegnnlbefdaaTrBd
namespace Go.Proofs.Ytamkegnnlbefdaa
open Go.RowKit

/-- A list of calls as an argument. -/
def OpsL (W : World) (v : Value) (ops : List OpV) : Prop := ∃ A c, v = .slice A ops.length c ∧ ∀ i (h : i < ops.length), ops[i].2.1 < 4294967296 ∧ ∃ b off, A = some ⟨b, off, none⟩ ∧ b < W.heap.size ∧
  W.cell? ⟨b, off + i * 4, none⟩ = some (.bool ops[i].1) ∧ W.cell? ⟨b, off + i * 4 + 1, none⟩ = some (.int .u32 (ops[i].2.1 : Int)) ∧ W.cell? ⟨b, off + i * 4 + 2, none⟩ = some (.int .i64 ops[i].2.2.1) ∧ W.cell? ⟨b, off + i * 4 + 3, none⟩ = some (.int .i64 ops[i].2.2.2)
theorem OpsL.below {W W' : World} {v : Value} {ops : List OpV} (h : OpsL W v ops) (hb : Below W.heap.size W W') : OpsL W' v ops := by
  obtain ⟨A, c, rfl, h1⟩ := h
  refine ⟨A, c, rfl, fun i hi => ?_⟩
  obtain ⟨k0, b, off, e, k1, c0, c1, c2, c3⟩ := h1 i hi
  exact ⟨k0, b, off, e, Nat.lt_of_lt_of_le k1 hb.size, (hb.cell (p := ⟨b, off + i * 4, none⟩) k1).trans c0, (hb.cell (p := ⟨b, off + i * 4 + 1, none⟩) k1).trans c1, (hb.cell (p := ⟨b, off + i * 4 + 2, none⟩) k1).trans c2, (hb.cell (p := ⟨b, off + i * 4 + 3, none⟩) k1).trans c3⟩
/-- The trie and the table after some calls. -/
def Bth (w : World) (gt : Nat) (T : Tr) (vr : Value) (W : World) : Prop := OwnF w gt T (fun g => vr.ownBlock = some g) W ∧ OwnT w.heap.size W vr (routes T)
theorem OwnT.same {base : Nat} {W W' : World} {v : Value} {L : List Rt} (h : OwnT base W v L) (hk : ∀ g, v.ownBlock = some g → W'.heap[g]? = W.heap[g]?) : OwnT base W' v L := by
  refine ⟨h.1, h.2.imp id ?_⟩
  rintro ⟨g, cap, cur, rfl, h2, h3, h4⟩
  exact ⟨g, cap, cur, rfl, h2, (hk g rfl).trans h3, h4⟩
theorem Bth.below {w W W' : World} {gt : Nat} {T : Tr} {vr : Value} (h : Bth w gt T vr W) (hb : Below W.heap.size W W') : Bth w gt T vr W' := ⟨h.1.below hb, h.2.below hb⟩
def BuJ (w : World) (gt n : Nat) (vr vi : Value) (wr : World) : Prop := ∃ (yr : Value) (i : Nat) (T : Tr), yr = vr ∧ vi = .int .i64 (i : Nat) ∧ i ≤ n ∧ Hid (Bth w gt T yr wr ∧ (routes T).length ≤ i)
def BuQ (w : World) (e : Ending) (W : World) : Prop := ∃ gt T vr, e = .returned (.tuple #[.pointer (some ⟨gt, 0, none⟩), vr, .bool true]) ∧ Bth w gt T vr W ∧ (routes T).length ≤ 80
set_option maxRecDepth 100000 in
set_option maxHeartbeats 8000000 in
theorem build_any {w : World} {v : Value} {ops : List OpV} (h : OpsL w v ops) (hn : ops.length ≤ 80) : Calls Try.prog 11 #[v] w (BuQ w) := by
  have hN := Lib.hid (own_new (Below.refl w.heap.size w))
  have HO := Lib.hid h
  obtain ⟨A, c, rfl, -⟩ := h
  obtain ⟨n, hnn⟩ : ∃ n, ops.length = n := ⟨_, rfl⟩
  have HN := Lib.hid hnn
  rw [hnn] at hn HO ⊢
  clear hnn
  go_enter Try.func11, Try.ntmps11
  go_wp2_with fail
  refine hN.out.mono ?_
  rintro e w1 ⟨gt, rfl, ho⟩
  have H := Lib.hid (show Bth w gt .nil (.slice none 0 0) w1 ∧ (routes .nil).length ≤ 0 from ⟨⟨ho.f (by simp [Value.ownBlock]), OwnT.nil _ _⟩, Nat.le_refl _⟩)
  clear ho hN
  unfold ptr
  go_wp2_with fail
  go_loopw [6, 7] (fun vr vi wr => BuJ w gt n vr vi wr) (fun _ vi _ => n - (intOf vi).toNat)
  case atStart => exact ⟨_, 0, .nil, rfl, rfl, Nat.zero_le _, H⟩
  case round =>
    clear H
    obtain ⟨wq, rfl⟩ : ∃ x, x = wr := ⟨_, rfl⟩
    obtain ⟨yr, i, T, rfl, rfl, hi, H⟩ := hrel
    by_cases hin : i < n
    · have hi' : (i : Int) < (n : Int) := by omega
      have hz0 : (0 : Int) ≤ (i : Int) := by omega
      have hw3 : IntKind.i64.wrap ((i : Int) + 1) = (i : Int) + 1 := IntWalk.i64_in _ (by omega)
      have hir : i < ops.length := by rw [HN.out]; exact hin
      obtain ⟨A', c', e', hel⟩ := HO.out.below H.out.1.1.own.low
      injection e' with e1 e2 e3
      subst e1 e3
      clear e2
      obtain ⟨ha, b, off, rfl, hb, k0, k1, k2, k3⟩ := hel i hir
      obtain ⟨⟨rem, a, l, z⟩, hx⟩ : ∃ x, ops[i] = x := ⟨_, rfl⟩
      rw [hx] at ha k0 k1 k2 k3
      dsimp only at ha k0 k1 k2 k3
      have HC := Lib.hid (fun W (hW : Below wq.heap.size wq W) => (show W.cell? ⟨b, off + i * 4, none⟩ = some (.bool rem) ∧ W.cell? ⟨b, off + i * 4 + 1, none⟩ = some (.int .u32 (a : Int)) ∧ W.cell? ⟨b, off + i * 4 + 2, none⟩ = some (.int .i64 l) ∧ W.cell? ⟨b, off + i * 4 + 3, none⟩ = some (.int .i64 z) from
        ⟨(hW.cell (p := ⟨b, off + i * 4, none⟩) hb).trans k0, (hW.cell (p := ⟨b, off + i * 4 + 1, none⟩) hb).trans k1, (hW.cell (p := ⟨b, off + i * 4 + 2, none⟩) hb).trans k2, (hW.cell (p := ⟨b, off + i * 4 + 3, none⟩) hb).trans k3⟩))
      have hl : (routes T).length ≤ 1000 := by have := H.out.2; omega
      have hD := Lib.hid (refDo_any (rem := rem) (l := l) (z := z) H.out.1.2 H.out.1.1.own.low.size H.out.1.1.own.wf ha hl)
      have hE := Lib.hid (fun W (F : Nat → Prop) (hW : OwnF w gt T F W) (hF : ∀ g, F g → g < W.heap.size) => do_any (rem := rem) (l := l) (z := z) hW hF ha hl)
      have HX := Lib.hid (stepT_wf (rem := rem) (l := l) (z := z) ha H.out.1.1.own.wf)
      generalize stepT rem a l z T = x at hD hE HX
      unfold encO at hD hE
      unfold ptr at hE
      dsimp only at hD hE
      clear hel hb ha hx hl
      go_wp2_with fail
      refine hD.out.mono ?_
      rintro e w2 ⟨v', rfl, ho, hb, hv⟩
      have HR := Lib.hid ho
      have HB := Lib.hid hb
      obtain ⟨j0, j1, j2, j3⟩ := HC.out w2 hb
      have hof : OwnF w gt T (fun g => v'.ownBlock = some g) w2 := by
        rcases hv with rfl | hv
        · exact H.out.1.1.below hb
        · exact (H.out.1.1.fresh hv).below hb
      have hE2 := Lib.hid (hE.out w2 _ hof (fun g hg => (ho.lt g hg).2))
      clear ho hb hv hof hD hE k0 k1 k2 k3 HC
      go_wp2_with fail
      refine hE2.out.mono ?_
      rintro e w3 ⟨rfl, ho, hk⟩
      have HJ := Lib.hid (show Bth w gt x.1 v' w3 ∧ (routes x.1).length ≤ i + 1 from ⟨⟨ho, HR.out.same hk⟩, by have := H.out.2; have := HX.out.2; omega⟩)
      clear ho hk hE2 HX HR HB H j0 j1 j2 j3
      go_wp2_with fail
      go_roundw
      case rel => exact ⟨v', i + 1, x.1, rfl, by go_num, by omega, HJ⟩
      case measure => simp [intOf]; omega
    · obtain rfl : i = n := by omega
      have hi' : ¬ (i : Int) < (i : Int) := by omega
      have HQ := Lib.hid (show BuQ w (.returned (.tuple #[.pointer (some ⟨gt, 0, none⟩), yr, .bool true])) wq from ⟨gt, T, yr, rfl, H.out.1, by have := H.out.2; omega⟩)
      clear H
      go_wp2_with fail
      refine bodyPost_ret (v := .tuple #[.pointer (some ⟨gt, 0, none⟩), yr, .bool true]) (by simp [results, Try.results11, go_sem]) rfl ?_
      exact HQ.out
end Go.Proofs.Ytamkegnnlbefdaa
