/- Contracts of package trie: add, hang. -/
import Derived.Test.YtamkegnnlbefdaaTrE
namespace Go.Proofs.Ytamkegnnlbefdaa
open Go.RowKit

abbrev trT : TypeId := 64
def trC (r : Value) (R N : Nat) : List Value := [r, .int .i64 (R : Int), .int .i64 (N : Int)]
theorem Cel.set_same {W : World} {a : Addr} {v u : Value} (h : Cel W a v) (hs : a.spot = none) : Cel (W.setCell a u) a u := by
  obtain ⟨cs, ty, h1, h2⟩ := h
  obtain ⟨b, o, s⟩ := a
  obtain rfl : s = none := hs
  exact ⟨_, ty, h1.set_ o u, by simp [(List.getElem?_eq_some_iff.1 h2).1]⟩
theorem Cel.set_other {W : World} {a : Addr} {v u : Value} {g i : Nat} (h : Cel W a v) (hne : ¬ (a.block = g ∧ a.off = i)) : Cel (W.setCell ⟨g, i, none⟩ u) a v := by
  obtain ⟨cs, ty, h1, h2⟩ := h
  by_cases hb : a.block = g
  · subst hb
    exact ⟨_, ty, h1.set_ i u, by rw [List.getElem?_set_ne (fun e => hne ⟨rfl, e.symm⟩)]; exact h2⟩
  · exact ⟨cs, ty, h1.far (p := ⟨g, i, none⟩) hb u, h2⟩
theorem Kp.far {W W' : World} {a : Addr} {g : Nat} (h : Kp W W' a g) {p : Addr} (hp : g ≠ p.block) (u : Value) : Kp W (W'.setCell p u) a g :=
  ⟨fun hg => (Below.heap_setCell W' p u g hp).trans (h.1 hg), fun hg cs t hc => by obtain ⟨z, hz⟩ := h.2 hg cs t hc; exact ⟨z, hz.far hp u⟩⟩
theorem kp_set {W W' : World} {a : Addr} {g : Nat} (hs : a.spot = none) (h : W'.heap[g]? = W.heap[g]?) (u : Value) : Kp W (W'.setCell a u) a g := by
  obtain ⟨b, o, s⟩ := a
  obtain rfl : s = none := hs
  refine ⟨fun hg => (Below.heap_setCell W' ⟨b, o, none⟩ u g hg).trans h, fun hg cs t hc => ⟨u, ?_⟩⟩
  obtain rfl : g = b := hg
  exact (hc.same h).set_ o u
/-- What add leaves. -/
def AddQ (w : World) (gt : Nat) (a : Addr) (p : Px) (r0 : Value) (R N : Nat) (e : Ending) (W : World) : Prop :=
  ∃ gn, e = .returned (ptr gn) ∧ w.heap.size ≤ gn ∧ Blk W gn (ndC p 0 false (.pointer none) (.pointer none)) ndT ∧ Cel W a (ptr gn) ∧ (∃ r1, Blk W gt (trC r1 R (N + 1)) trT ∧ (a.block ≠ gt → r1 = r0)) ∧
    (∀ g, g < w.heap.size → g ≠ gt → Kp w W a g) ∧ Fr (fun g => g = gt ∨ g = a.block) w W
set_option maxRecDepth 100000 in
set_option maxHeartbeats 4000000 in
theorem add_walk {w w1 w2 w3 w4 : World} {gt gn : Nat} {a : Addr} {p : Px} {v0 : Value} {N : Nat} (hN : N < 4611686018427387904) (_hs : a.spot = none)
    (hw1 : w.alloc (.cells #[.int .u32 (p.1 : Int), .int .i64 (p.2 : Int)] 35) = w1) (hw2 : w1.alloc (.cells #[.int .u32 (p.1 : Int), .int .i64 (p.2 : Int), .int .i64 0, .bool false, .pointer none, .pointer none] 71) = w2)
    (hgn : w1.heap.size = gn) (hw3 : w2.setCell a (.pointer (some ⟨gn, 0, none⟩)) = w3) (hw4 : w3.setCell ⟨gt, 2, none⟩ (.int .i64 ((N : Int) + 1)) = w4)
    (b0 : w1.cell? ⟨w.heap.size, 0, none⟩ = some (.int .u32 (p.1 : Int))) (b1 : w1.cell? ⟨w.heap.size, 1, none⟩ = some (.int .i64 (p.2 : Int)))
    (ca : w2.cell? a = some v0) (fa : w2.frozen? a = false) (cN : w3.cell? ⟨gt, 2, none⟩ = some (.int .i64 (N : Int))) (fN : w3.frozen? ⟨gt, 2, none⟩ = false) (c4 : w4.cell? a = some (.pointer (some ⟨gn, 0, none⟩))) :
    Calls Try.prog 54 #[.pointer (some ⟨gt, 0, none⟩), .pointer (some a), pv p.1 p.2] w fun e W => e = .returned (.pointer (some ⟨gn, 0, none⟩)) ∧ W = w4 := by
  have hwN : IntKind.i64.wrap ((N : Int) + 1) = (N : Int) + 1 := IntWalk.i64_in _ (by omega)
  clear hN
  go_enter Try.func54, Try.ntmps54
  go_wp2_with fail
  go_ret
  exact ⟨rfl, rfl⟩
theorem add_any {w : World} {gt : Nat} {a : Addr} {p : Px} {r0 v0 : Value} {R N : Nat} (hB : Blk w gt (trC r0 R N) trT) (hC : Cel w a v0) (hs : a.spot = none) (ha : a.block = gt → a.off = 0) (hN : N < 4611686018427387904) :
    Calls Try.prog 54 #[ptr gt, .pointer (some a), pv p.1 p.2] w (AddQ w gt a p r0 R N) := by
  obtain ⟨w1, hw1⟩ : ∃ w1, w.alloc (.cells #[.int .u32 (p.1 : Int), .int .i64 (p.2 : Int)] 35) = w1 := ⟨_, rfl⟩
  obtain ⟨w2, hw2⟩ : ∃ w2, w1.alloc (.cells #[.int .u32 (p.1 : Int), .int .i64 (p.2 : Int), .int .i64 0, .bool false, .pointer none, .pointer none] 71) = w2 := ⟨_, rfl⟩
  obtain ⟨gn, hgn⟩ : ∃ gn, w1.heap.size = gn := ⟨_, rfl⟩
  obtain ⟨w3, hw3⟩ : ∃ w3, w2.setCell a (.pointer (some ⟨gn, 0, none⟩)) = w3 := ⟨_, rfl⟩
  obtain ⟨w4, hw4⟩ : ∃ w4, w3.setCell ⟨gt, 2, none⟩ (.int .i64 ((N : Int) + 1)) = w4 := ⟨_, rfl⟩
  have e1 : w1.heap.size = w.heap.size + 1 := by rw [← hw1, size_alloc']
  have B1 : Below w.heap.size w w1 := by rw [← hw1]; exact (Below.refl _ w).alloc (Nat.le_refl _) _
  have B2 : Below w.heap.size w w2 := by rw [← hw2]; exact B1.alloc (by omega) _
  have hbox : Blk w1 w.heap.size [.int .u32 (p.1 : Int), .int .i64 (p.2 : Int)] 35 := by rw [← hw1]; exact Blk.new w _ _
  have hnode : Blk w2 gn (ndC p 0 false (.pointer none) (.pointer none)) ndT := by rw [← hw2, ← hgn]; exact Blk.new w1 (ndC p 0 false (.pointer none) (.pointer none)) ndT
  have hal := hC.lt
  have hgl := hB.lt
  have C2 : Cel w2 a v0 := hC.same (B2.block _ hal)
  have T2 : Blk w2 gt (trC r0 R N) trT := hB.same (B2.block _ hgl)
  have ho : ∀ i, i ≠ 0 → ¬ (gt = a.block ∧ i = a.off) := fun i hi h => hi (h.2.trans (ha h.1.symm))
  obtain ⟨ab, ao, asp⟩ := a
  obtain rfl : asp = none := hs
  have N3 : Cel w3 ⟨gt, 2, none⟩ (.int .i64 (N : Int)) := by rw [← hw3]; exact Cel.set_other (a := ⟨gt, 2, none⟩) ⟨_, _, T2, rfl⟩ (ho 2 (by omega))
  have A3 : Cel w3 ⟨ab, ao, none⟩ (.pointer (some ⟨gn, 0, none⟩)) := by rw [← hw3]; exact C2.set_same rfl
  have A4 : Cel w4 ⟨ab, ao, none⟩ (.pointer (some ⟨gn, 0, none⟩)) := by rw [← hw4]; exact A3.set_other (fun h => ho 2 (by omega) ⟨h.1.symm, h.2.symm⟩)
  have hnb : gn ≠ ab := by have : ab < w.heap.size := hal; omega
  have hng : gn ≠ gt := by omega
  refine (add_walk hN rfl hw1 hw2 hgn hw3 hw4 (hbox.cell rfl) (hbox.cell rfl) (C2.cell rfl) (C2.frozen rfl) (N3.cell rfl) (N3.frozen rfl) (A4.cell rfl)).mono ?_
  rintro e W ⟨rfl, rfl⟩
  refine ⟨gn, rfl, by omega, ?_, A4, ?_, fun g hg hne => ?_, ?_⟩
  · rw [← hw4, ← hw3]
    exact (hnode.far (p := ⟨ab, ao, none⟩) hnb _).far (p := ⟨gt, 2, none⟩) hng _
  · by_cases hag : ab = gt
    · subst hag
      obtain rfl : ao = 0 := ha rfl
      refine ⟨.pointer (some ⟨gn, 0, none⟩), ?_, fun h => absurd rfl h⟩
      rw [← hw4, ← hw3]
      exact (T2.set_ 0 _).set_ 2 _
    · refine ⟨r0, ?_, fun _ => rfl⟩
      rw [← hw4, ← hw3]
      exact (T2.far (p := ⟨ab, ao, none⟩) (fun e => hag e.symm) _).set_ 2 _
  · rw [← hw4, ← hw3]
    exact (kp_set (a := ⟨ab, ao, none⟩) rfl (B2.block g hg) _).far (p := ⟨gt, 2, none⟩) hne _
  · rw [← hw4, ← hw3]
    exact ((Fr.of_below B2).trans (Fr.set w2 ⟨ab, ao, none⟩ _ (S := fun g => g = ab) rfl) (fun _ h => h) (fun g h => .inl (.inr h))).trans (Fr.set _ ⟨gt, 2, none⟩ _ (S := fun g => g = gt) rfl) (fun _ h => h) (fun g h => .inl (.inl h))
def setV (d : Bool) (u v z : Value) : Value × Value := if d then (u, z) else (z, v)
set_option maxRecDepth 100000 in
set_option maxHeartbeats 4000000 in
theorem hang_any {w : World} {g gk : Nat} {q p : Px} {x y : Int} {h hk : Bool} {u v ku kv : Value} (hb : Blk w g (ndC q x h u v) ndT) (hkb : Blk w gk (ndC p y hk ku kv) ndT) (hn : q.2 ≤ 32) (hne : g ≠ gk) :
    Calls Try.prog 56 #[ptr g, ptr gk] w fun e W => e = .returned (.tuple #[]) ∧ Blk W g (ndC q x h (setV (dir p.1 q.2) u v (ptr gk)).1 (setV (dir p.1 q.2) u v (ptr gk)).2) ndT ∧ Fr (fun j => j = g) w W := by
  have S := Lib.hid (((Sr.start w).add hkb (fun q hq => by simp at hq)).add hb (fun q hq => by simp at hq; rw [hq]; exact hne.symm))
  have hTw := Lib.hid (fun W (hb : Blk W g (ndC q x h u v) ndT) => toward_any p.1 hb hn)
  generalize dir p.1 q.2 = d at hTw ⊢
  have HN := Lib.hid hne
  clear hb hkb hn hne
  unfold ptr at hTw ⊢
  have c0 := (S.out.at 1 rfl).cell (i := 0) rfl
  go_enter Try.func56, Try.ntmps56
  go_wp2_with fail
  refine (hTw.out _ (S.out.at 0 rfl)).mono ?_
  rintro e w2 ⟨rfl, hb⟩
  replace S := Lib.hid (S.out.below hb)
  have hbk := S.out.at 0 rfl
  have HB := Lib.hid hbk
  clear hb hTw c0
  cases d
  · have ck := hbk.cell (i := 4) rfl
    have fk := hbk.frozen (i := 4)
    clear hbk
    unfold kidAt
    simp only [Bool.false_eq_true, if_false]
    go_wp2_with fail
    exact bodyPost_end (results_none rfl _ _ _) rfl ⟨rfl, HB.out.set_ 4 _, (Fr.of_below S.out.low).trans (Fr.set _ ⟨g, 4, none⟩ _ (S := fun j => j = g) rfl) (fun _ h => h) (fun _ h => .inl h)⟩
  · have ck := hbk.cell (i := 5) rfl
    have fk := hbk.frozen (i := 5)
    clear hbk
    unfold kidAt
    simp only [if_true]
    go_wp2_with fail
    exact bodyPost_end (results_none rfl _ _ _) rfl ⟨rfl, HB.out.set_ 5 _, (Fr.of_below S.out.low).trans (Fr.set _ ⟨g, 5, none⟩ _ (S := fun j => j = g) rfl) (fun _ h => h) (fun _ h => .inl h)⟩
end Go.Proofs.Ytamkegnnlbefdaa
