/- The heap and the reference's heap side by side. -/
import Derived.Test.YtijoaiehnemgnaaHRefC
namespace Go.Proofs.Ytijoaiehnemgnaa
open Go.RowKit

def Pair (w : World) (R : List Nat) (h P n r hB kB : Nat) (M MR : Nat → Option Int) (W : World) : Prop :=
  HS w R h P n M W ∧ RefI W r hB kB n MR ∧ Oth R h P W ∧ r ∈ R ∧ hB ∈ R ∧ kB ∈ R ∧ w.heap.size ≤ hB ∧ w.heap.size ≤ kB ∧ (w.heap.size ≤ h ∧ w.heap.size ≤ P) ∧ n ≤ 65536
section
variable {w W W' : World} {R : List Nat} {h P n r hB kB : Nat} {M MR : Nat → Option Int}
theorem Pair.below (hp : Pair w R h P n r hB kB M MR W) : Below w.heap.size w W := by obtain ⟨⟨_, _, _, _, hb⟩, _⟩ := hp; exact hb
theorem Pair.heap {M' : Nat → Option Int} (hp : Pair w R h P n r hB kB M MR W) (h1 : HS w R h P n M' W') (h2 : Same R W W') : Pair w R h P n r hB kB M' MR W' := by
  obtain ⟨k1, k2, k3, k4, k5, k6, k7⟩ := hp
  exact ⟨h1, k2.keep (h2.1 r k4) (h2.1 hB k5) (h2.1 kB k6), k3.same h2, k4, k5, k6, k7⟩
theorem Pair.ref {M' : Nat → Option Int} (hp : Pair w R h P n r hB kB M MR W) (h1 : RefI W' r hB kB n M') (h2 : Only W W' hB kB) : Pair w R h P n r hB kB M M' W' := by
  obtain ⟨⟨E, a1, a2, a3, a4⟩, k2, k3, k4, k5, k6, k7, k8, k9, k10⟩ := hp
  have l := a1.lt
  have hs := a4.size
  have b5 := (k3 hB k5).2
  have b6 := (k3 kB k6).2
  have eE1 : E ≠ hB := fun e => a3 (e ▸ k5)
  have eE2 : E ≠ kB := fun e => a3 (e ▸ k6)
  refine ⟨⟨E, a1.keep (h2.2.2.2.2 h l.1 (Ne.symm b5.1) (Ne.symm b6.1)) (h2.2.2.2.2 E l.2.1 eE1 eE2) (h2.2.2.2.2 P l.2.2 (Ne.symm b5.2) (Ne.symm b6.2)), a2, a3, a4.trans (h2.below k7 k8 hs)⟩, h1, fun k hk => ⟨Nat.lt_of_lt_of_le (k3 k hk).1 h2.2.2.2.1, (k3 k hk).2⟩, k4, k5, k6, k7, k8, k9, k10⟩
/-- One more block that is not to be touched: a young one. -/
theorem Pair.more (hp : Pair w R h P n r hB kB M MR W) (o : Obj) : Pair w (W.heap.size :: R) h P n r hB kB M MR (W.alloc o) := by
  obtain ⟨⟨E, a1, a2, a3, a4⟩, k2, k3, k4, k5, k6, k7, k8, k9, k10⟩ := hp
  have l := a1.lt
  have b := (Below.refl W.heap.size W).alloc (Nat.le_refl _) o
  have hs := a4.size
  have lr := k2.lt
  have hsz : (W.alloc o).heap.size = W.heap.size + 1 := by simp
  refine ⟨⟨E, a1.below b, a2, fun hm => ?_, a4.trans (b.mono hs)⟩, k2.keep (b.block r lr.1) (b.block hB lr.2.1) (b.block kB lr.2.2), fun k hk => ?_, .tail _ k4, .tail _ k5, .tail _ k6, k7, k8, k9, k10⟩
  · rcases List.mem_cons.1 hm with e | hm
    · omega
    · exact a3 hm
  · rcases List.mem_cons.1 hk with e | hk
    · subst e; exact ⟨by omega, by omega, by omega⟩
    · have := (k3 k hk).1
      exact ⟨by omega, (k3 k hk).2⟩
theorem Pair.less {b : Nat} (hp : Pair w (b :: R) h P n r hB kB M MR W) (h1 : r ∈ R) (h2 : hB ∈ R) (h3 : kB ∈ R) : Pair w R h P n r hB kB M MR W := by
  obtain ⟨⟨E, a1, a2, a3, a4⟩, k2, k3, k4, k5, k6, k7⟩ := hp
  exact ⟨⟨E, a1, a2, fun hm => a3 (.tail _ hm), a4⟩, k2, fun k hk => k3 k (.tail _ hk), h1, h2, h3, k7⟩
theorem Pair.drew (hp : Pair w R h P n r hB kB M MR W) : Pair w R h P n r hB kB M MR W.drew := by
  obtain ⟨⟨E, a1, a2, a3, a4⟩, k⟩ := hp
  exact ⟨⟨E, a1, a2, a3, a4.drew⟩, k⟩

def PrS (w W : World) (R : List Nat) (h P n r hB kB : Nat) (M MR : Nat → Option Int) (x : Int) (e : Ending) (W' : World) : Prop := e = .returned (.int .i64 x) ∧ Pair w R h P n r hB kB M MR W' ∧ (Same R W W' ∨ Only W W' hB kB)
theorem p_set (i key : Int) (hp : Pair w R h P n r hB kB M MR W) : Calls Try.prog 11 #[.pointer (some ⟨h, 0, none⟩), .int .i64 i, .int .i64 key] W (PrS w W R h P n r hB kB (setM M n i key) MR (setE n i)) := by
  refine (set_hs i key hp.2.2.2.2.2.2.2.2.1 hp.2.2.1 hp.1).mono ?_
  rintro e W' ⟨rfl, h1, h2⟩
  exact ⟨rfl, hp.heap h1 h2, .inl h2⟩
theorem p_rset (i key : Int) (hp : Pair w R h P n r hB kB M MR W) : Calls Try.prog 12 #[.pointer (some ⟨r, 0, none⟩), .int .i64 i, .int .i64 key] W (PrS w W R h P n r hB kB M (setM MR n i key) (setE n i)) := by
  refine (rset_any i key hp.2.1).mono ?_
  rintro e W' ⟨rfl, h1, h2⟩
  exact ⟨rfl, hp.ref h1 h2, .inr h2⟩
theorem p_remove (i : Int) (hp : Pair w R h P n r hB kB M MR W) : Calls Try.prog 15 #[.pointer (some ⟨h, 0, none⟩), .int .i64 i] W (PrS w W R h P n r hB kB (remM M n i) MR (remE M n i)) := by
  refine (remove_hs i hp.2.2.2.2.2.2.2.2.1 hp.2.2.1 hp.1).mono ?_
  rintro e W' ⟨rfl, h1, h2⟩
  exact ⟨rfl, hp.heap h1 h2, .inl h2⟩
theorem p_rremove (i : Int) (hp : Pair w R h P n r hB kB M MR W) : Calls Try.prog 16 #[.pointer (some ⟨r, 0, none⟩), .int .i64 i] W (PrS w W R h P n r hB kB M (remM MR n i) (remE MR n i)) := by
  refine (rremove_any i hp.2.1).mono ?_
  rintro e W' ⟨rfl, h1, h2⟩
  exact ⟨rfl, hp.ref h1 h2, .inr h2⟩
theorem p_key (i : Int) (hp : Pair w R h P n r hB kB M MR W) : Calls Try.prog 17 #[.pointer (some ⟨h, 0, none⟩), .int .i64 i] W fun e W' => e = keyEnd (keyOf M n i) ∧ Pair w R h P n r hB kB M MR W' ∧ Same R W W' := by
  refine (key_hs i hp.2.2.1 hp.1).mono ?_
  rintro e W' ⟨rfl, h1, h2⟩
  exact ⟨rfl, hp.heap h1 h2, h2⟩
theorem p_rkey (i : Int) (hp : Pair w R h P n r hB kB M MR W) : Calls Try.prog 18 #[.pointer (some ⟨r, 0, none⟩), .int .i64 i] W fun e W' => e = keyEnd (keyOf MR n i) ∧ W' = W := rkey_any i hp.2.1
theorem p_len (hp : Pair w R h P n r hB kB M MR W) : Calls Try.prog 19 #[.pointer (some ⟨h, 0, none⟩)] W fun e W' => e = .returned (.int .i64 (cnt M n : Nat)) ∧ W' = W := len_hs hp.1
theorem p_rlen (hp : Pair w R h P n r hB kB M MR W) : Calls Try.prog 20 #[.pointer (some ⟨r, 0, none⟩)] W fun e W' => e = .returned (.int .i64 (cnt MR n : Nat)) ∧ W' = W := rlen_any hp.2.2.2.2.2.2.2.2.2 hp.2.1
end

/-- What Pop returns: nothing, or the first item and its key. -/
def PopV (M : Nat → Option Int) (n : Nat) (o : Option (Nat × Int)) : Prop :=
  (o = none ∧ ∀ j, j < n → M j = none) ∨ ∃ i k, o = some (i, k) ∧ i < n ∧ M i = some k ∧ ∀ j l, j < n → M j = some l → k < l ∨ (k = l ∧ i ≤ j)
def popE (o : Option (Nat × Int)) : Ending := match o with
  | none => .returned (.tuple #[.int .i64 0, .int .i64 0, .bool false])
  | some (i, k) => .returned (.tuple #[.int .i64 (i : Nat), .int .i64 k, .bool true])
def popM (M : Nat → Option Int) (o : Option (Nat × Int)) : Nat → Option Int := match o with
  | none => M
  | some (i, _) => mset M i none
theorem popV_same {M : Nat → Option Int} {n : Nat} {o o' : Option (Nat × Int)} (h : PopV M n o) (h' : PopV M n o') : o = o' := by
  rcases h with ⟨rfl, h1⟩ | ⟨i, k, rfl, h1, h2, h3⟩ <;> rcases h' with ⟨rfl, g1⟩ | ⟨j, l, rfl, g1, g2, g3⟩
  · rfl
  · rw [h1 j g1] at g2; cases g2
  · rw [g1 i h1] at h2; cases h2
  · have a := h3 j l g1 g2
    have b := g3 i k h1 h2
    have e1 : k = l := by omega
    have e2 : i = j := by omega
    rw [e1, e2]
section
variable {w W W' : World} {R : List Nat} {h P n r hB kB : Nat} {M MR : Nat → Option Int}
def PrP (w W : World) (R : List Nat) (h P n r hB kB : Nat) (M MR : Nat → Option Int) (e : Ending) (W' : World) : Prop := ∃ o, PopV M n o ∧ e = popE o ∧ Pair w R h P n r hB kB (popM M o) MR W' ∧ Same R W W'
def PrQ (w W : World) (R : List Nat) (h P n r hB kB : Nat) (M MR : Nat → Option Int) (e : Ending) (W' : World) : Prop := ∃ o, PopV MR n o ∧ e = popE o ∧ Pair w R h P n r hB kB M (popM MR o) W' ∧ Only W W' hB kB
theorem p_pop (hp : Pair w R h P n r hB kB M MR W) : Calls Try.prog 13 #[.pointer (some ⟨h, 0, none⟩)] W (PrP w W R h P n r hB kB M MR) := by
  refine (pop_hs hp.2.2.2.2.2.2.2.2.1 hp.2.2.1 hp.1).mono ?_
  rintro e W' (⟨h0, rfl, h1, h2⟩ | ⟨i, k, hi, hF, rfl, h1, h2⟩)
  · exact ⟨none, .inl ⟨rfl, cnt_zero h0⟩, rfl, hp.heap h1 h2, h2⟩
  · exact ⟨some (i, k), .inr ⟨i, k, rfl, hi, hF.1, fun j l _ hl => hF.2 j l hl⟩, rfl, hp.heap h1 h2, h2⟩
theorem p_rpop (hp : Pair w R h P n r hB kB M MR W) : Calls Try.prog 14 #[.pointer (some ⟨r, 0, none⟩)] W (PrQ w W R h P n r hB kB M MR) := by
  refine (rpop_any hp.2.2.2.2.2.2.2.2.2 hp.2.1).mono ?_
  rintro e W' (⟨h0, rfl, h1, h2⟩ | ⟨i, k, hi, hM, hF, rfl, h1, h2⟩)
  · exact ⟨none, .inl ⟨rfl, h0⟩, rfl, hp.ref h1 h2, h2⟩
  · exact ⟨some (i, k), .inr ⟨i, k, rfl, hi, hM, hF⟩, rfl, hp.ref h1 h2, h2⟩
end
/-- Both heaps made. -/
theorem pair_new {w W W1 W2 : World} {n : Nat} {e e2 : Ending} (hn : n ≤ 65536) (hb : Below w.heap.size w W) (h1 : NewH W n e W1) (h2 : NewR W1 n e2 W2) :
    ∃ h P r hB kB, e = .returned (.tuple #[.pointer (some ⟨h, 0, none⟩), .int .i64 0]) ∧ e2 = .returned (.pointer (some ⟨r, 0, none⟩)) ∧ Pair w [r, hB, kB] h P n r hB kB (fun _ => none) (fun _ => none) W2 := by
  obtain ⟨h, P, rfl, a1, a2, a3, a4⟩ := h1
  obtain ⟨r, hB, kB, rfl, b1, b2, b3, b4, b5⟩ := h2
  have s1 := hb.size
  have s2 := a4.size
  have l := a1.lt
  have lr := b1.lt
  refine ⟨h, P, r, hB, kB, rfl, rfl, ⟨h, a1.below b5, by omega, ?_, (hb.trans (a4.mono s1)).trans (b5.mono (by omega))⟩, b1, ?_, by simp, by simp, by simp, by omega, by omega, ⟨by omega, by omega⟩, hn⟩
  · simp; omega
  · intro k hk
    simp at hk
    rcases hk with rfl | rfl | rfl
    · exact ⟨lr.1, by omega, by omega⟩
    · exact ⟨lr.2.1, by omega, by omega⟩
    · exact ⟨lr.2.2, by omega, by omega⟩
end Go.Proofs.Ytijoaiehnemgnaa
