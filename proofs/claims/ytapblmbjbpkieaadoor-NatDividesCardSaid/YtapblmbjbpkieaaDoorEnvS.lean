/- Boxes and numbers together: contracts of nat's operations over them. -/
import Derived.Test.YtapblmbjbpkieaaDoorEnv
import Derived.Test.YtapblmbjbpkieaaDoorDivM
import Derived.Test.YtapblmbjbpkieaaDoorGcdM
namespace Go.Proofs.YtapblmbjbpkieaaDoor
open Go.RowKit

/-- In world W, behind w: values that stand for numbers, and boxes that hold values, the youngest first. -/
def St (w : World) (L : List (Value × Nat × Nat)) (B : List (Nat × Value)) (W : World) : Prop :=
  Tab w ∧ Env W L ∧ (∀ b, b ∈ B → One W b.1 b.2 26 ∧ w.heap.size ≤ b.1) ∧ B.Pairwise (fun p q => q.1 < p.1) ∧ Below w.heap.size w W
section
variable {w W W' : World} {L L' : List (Value × Nat × Nat)} {B B' : List (Nat × Value)}
theorem St.low (h : St w L B W) : Below w.heap.size w W := h.2.2.2.2
theorem St.begin (hT : Tab w) (hb : Below w.heap.size w W) : St w [] [] W := ⟨hT, ⟨hT.below hb, fun p hp => by simp at hp⟩, fun b hb => by simp at hb, .nil, hb⟩
theorem St.below (h : St w L B W) (hb : Below W.heap.size W W') : St w L B W' :=
  ⟨h.1, h.2.1.below hb, fun b hm => ⟨(h.2.2.1 b hm).1.step hb, (h.2.2.1 b hm).2⟩, h.2.2.2.1, h.2.2.2.2.trans (hb.mono h.2.2.2.2.size)⟩
theorem St.drew (h : St w L B W) : St w L B W.drew := ⟨h.1, h.2.1.drew, h.2.2.1, h.2.2.2.1, h.2.2.2.2.drew⟩
theorem St.push (h : St w L B W) {v : Value} {k a : Nat} (hv : IsNat W v k) (hk : k < 4294967296 ^ a) : St w ((v, k, a) :: L) B W := ⟨h.1, h.2.1.push hv hk, h.2.2⟩
theorem St.alloc (h : St w L B W) (v : Value) : St w L ((W.heap.size, v) :: B) (W.alloc (.cells #[v] 26)) := by
  have hb := (Below.refl W.heap.size W).alloc (Nat.le_refl _) (.cells #[v] 26)
  obtain ⟨h1, h2, h3, h4, h5⟩ := h.below hb
  refine ⟨h1, h2, fun b hm => ?_, List.pairwise_cons.2 ⟨fun q hq => ((h.2.2.1 q hq).1).lt, h4⟩, h5⟩
  rcases List.mem_cons.1 hm with rfl | hm
  · exact ⟨One.new _ _ _, h.2.2.2.2.size⟩
  · exact h3 b hm
theorem St.allocD (h : St w L B W) (v : Value) : St w L ((W.heap.size, v) :: B) (W.drew.alloc (.cells #[v] 26)) := h.drew.alloc v
theorem St.alloc2 (h : St w L B W) (v v2 : Value) : St w L ((W.heap.size + 1, v2) :: (W.heap.size, v) :: B) ((W.alloc (.cells #[v] 26)).alloc (.cells #[v2] 26)) := by
  have := (h.alloc v).alloc v2
  rwa [show (W.alloc (.cells #[v] 26)).heap.size = W.heap.size + 1 by simp] at this
theorem St.one (h : St w L B W) {b : Nat} {v : Value} (hm : (b, v) ∈ B) : One W b v 26 := (h.2.2.1 _ hm).1
theorem St.cell (h : St w L B W) {b : Nat} {v : Value} (hm : (b, v) ∈ B) : W.cell? ⟨b, 0, none⟩ = some v := (h.one hm).cell
theorem St.frozen (h : St w L B W) {b : Nat} {v : Value} (hm : (b, v) ∈ B) : W.frozen? ⟨b, 0, none⟩ = false := (h.one hm).frozen
theorem St.sub (h : St w L B W) (hL : ∀ p, p ∈ L' → p ∈ L) (hB : B'.Sublist B) : St w L' B' W :=
  ⟨h.1, ⟨h.2.1.1, fun p hp => h.2.1.2 p (hL p hp)⟩, fun b hm => h.2.2.1 b (hB.subset hm), h.2.2.2.1.sublist hB, h.2.2.2.2⟩
theorem St.sub2 (h : St w L B W) (hL : L'.Sublist L) (hB : B'.Sublist B) : St w L' B' W := h.sub (fun _ hp => hL.subset hp) hB
theorem St.store0 {b : Nat} {v0 : Value} (h : St w L ((b, v0) :: B) W) (v : Value) : St w L ((b, v) :: B) (W.setCell ⟨b, 0, none⟩ v) := by
  obtain ⟨h1, h2, h3, h4, h5⟩ := h
  have hb := h3 _ (.head _)
  have h6 := h5.setCell hb.2 v (p := ⟨b, 0, none⟩)
  have h7 := List.pairwise_cons.1 h4
  refine ⟨h1, h2.far (h1.below h6) hb.1.row, fun q hq => ?_, List.pairwise_cons.2 ⟨h7.1, h7.2⟩, h6⟩
  rcases List.mem_cons.1 hq with rfl | hq
  · exact ⟨hb.1.set_ v, hb.2⟩
  · have := h7.1 q hq
    have h8 := h3 q (.tail _ hq)
    simp only at this
    exact ⟨h8.1.far (p := ⟨b, 0, none⟩) (by show q.1 ≠ b; omega) v, h8.2⟩
theorem St.store1 {b : Nat} {p : Nat × Value} {v0 : Value} (h : St w L (p :: (b, v0) :: B) W) (v : Value) : St w L (p :: (b, v) :: B) (W.setCell ⟨b, 0, none⟩ v) := by
  have h0 := St.store0 (h.sub (L' := L) (B' := (b, v0) :: B) (fun _ h => h) (.cons _ (List.Sublist.refl _))) v
  obtain ⟨h1, h2, h3, h4, h5⟩ := h
  have h7 := List.pairwise_cons.1 h4
  have h8 := h7.1 _ (.head _)
  simp only at h8
  have hp := h3 _ (.head _)
  refine ⟨h1, h0.2.1, fun q hq => ?_, List.pairwise_cons.2 ⟨fun q hq => ?_, h0.2.2.2.1⟩, h0.2.2.2.2⟩
  · rcases List.mem_cons.1 hq with rfl | hq
    · exact ⟨hp.1.far (p := ⟨b, 0, none⟩) (by show q.1 ≠ b; omega) v, hp.2⟩
    · exact h0.2.2.1 q hq
  · rcases List.mem_cons.1 hq with rfl | hq
    · exact h8
    · exact h7.1 q (.tail _ hq)

def OpS (w : World) (L : List (Value × Nat × Nat)) (B : List (Nat × Value)) (k a : Nat) (e : Ending) (w' : World) : Prop := ∃ A n c, e = .returned (.agg #[.slice A n c]) ∧ St w ((.agg #[.slice A n c], k, a) :: L) B w'
section
variable {u v : Value} {k j a b : Nat}
theorem opS {e : Ending} {w' : World} (S : St w L B W) (h : OpE W L k a e w') : OpS w L B k a e w' := by
  obtain ⟨A, n, c, rfl, h1, h2⟩ := h
  have h3 := S.below h2
  exact ⟨A, n, c, rfl, h3.1, h1, h3.2.2⟩
theorem addS (S : St w L B W) (hu : (u, k, a) ∈ L) (hv : (v, j, b) ∈ L) (ha : a ≤ 400) (hb : b ≤ 400) : Calls Tryd.prog 22 #[u, v] W (OpS w L B (k + j) (a + b + 1)) :=
  (addE S.2.1 hu hv ha hb).mono fun _ _ h => opS S h
theorem mulS (S : St w L B W) (hu : (u, k, a) ∈ L) (hv : (v, j, b) ∈ L) (ha : a ≤ 400) (hb : b ≤ 400) : Calls Tryd.prog 25 #[u, v] W (OpS w L B (k * j) (a + b)) :=
  (mulE S.2.1 hu hv ha hb).mono fun _ _ h => opS S h
theorem gcdS (S : St w L B W) (hu : (u, k, a) ∈ L) (hv : (v, j, b) ∈ L) (ha : a ≤ 400) (hb : b ≤ 400) (hj : 0 < j) : Calls Tryd.prog 29 #[u, v] W (OpS w L B (Nat.gcd k j) b) := by
  obtain ⟨h1, h2⟩ := S.2.1.2 _ hu
  obtain ⟨h3, h4⟩ := S.2.1.2 _ hv
  simp only at h1 h2 h3 h4
  have l1 := digs_len (b := 4294967296) (by omega) h2
  have l2 := digs_len (b := 4294967296) (by omega) h4
  refine (gcd_any (by omega) (by omega) h1 h3).mono ?_
  rintro e w' ⟨r, rfl, hr, hb⟩
  obtain ⟨A, n, c, -, rfl⟩ := isNat_digs hr
  exact ⟨A, n, c, rfl, (S.below hb).push hr (Nat.lt_of_le_of_lt (Nat.gcd_le_right k hj) h4)⟩
def OpD (w : World) (L : List (Value × Nat × Nat)) (B : List (Nat × Value)) (q a r b : Nat) (e : Ending) (w' : World) : Prop := ∃ A n c A2 n2 c2, e = .returned (.tuple #[.agg #[.slice A n c], .agg #[.slice A2 n2 c2], .int .i64 0]) ∧ St w ((.agg #[.slice A2 n2 c2], r, b) :: (.agg #[.slice A n c], q, a) :: L) B w'
theorem divS (S : St w L B W) (hu : (u, k, a) ∈ L) (hv : (v, j, b) ∈ L) (ha : a ≤ 400) (hb : b ≤ 400) (hj : 0 < j) : Calls Tryd.prog 27 #[u, v] W (OpD w L B (k / j) a (k % j) b) := by
  obtain ⟨h1, h2⟩ := S.2.1.2 _ hu
  obtain ⟨h3, h4⟩ := S.2.1.2 _ hv
  simp only at h1 h2 h3 h4
  have l1 := digs_len (b := 4294967296) (by omega) h2
  have l2 := digs_len (b := 4294967296) (by omega) h4
  refine (divMod_any (by omega) (by omega) hj h1 h3).mono ?_
  rintro e w' ⟨q, r, rfl, hq, hr, hb⟩
  obtain ⟨A, n, c, -, rfl⟩ := isNat_digs hq
  obtain ⟨A2, n2, c2, -, rfl⟩ := isNat_digs hr
  exact ⟨A, n, c, A2, n2, c2, rfl, ((S.below hb).push hq (Nat.lt_of_le_of_lt (Nat.div_le_self k j) h2)).push hr (Nat.lt_trans (Nat.mod_lt k hj) h4)⟩
theorem cmpS_lt (S : St w L B W) (hu : (u, k, a) ∈ L) (hv : (v, j, b) ∈ L) (ha : a ≤ 400) (hb : b ≤ 400) (h : k < j) : Calls Tryd.prog 17 #[u, v] W fun e w' => e = .returned (.int .i64 (-1)) ∧ St w L B w' := by
  obtain ⟨h1, h2⟩ := S.2.1.2 _ hu
  obtain ⟨h3, h4⟩ := S.2.1.2 _ hv
  simp only at h1 h2 h3 h4
  have l1 := digs_len (b := 4294967296) (by omega) h2
  have l2 := digs_len (b := 4294967296) (by omega) h4
  refine (cmp_any (by omega) (by omega) h1 h3).mono ?_
  rintro e w' ⟨rfl, hb⟩
  refine ⟨?_, S.below hb⟩
  unfold cmpI
  rw [if_pos h]
theorem cmpS_eq (S : St w L B W) (hu : (u, k, a) ∈ L) (hv : (v, j, b) ∈ L) (ha : a ≤ 400) (hb : b ≤ 400) (h : k = j) : Calls Tryd.prog 17 #[u, v] W fun e w' => e = .returned (.int .i64 0) ∧ St w L B w' := by
  obtain ⟨h1, h2⟩ := S.2.1.2 _ hu
  obtain ⟨h3, h4⟩ := S.2.1.2 _ hv
  simp only at h1 h2 h3 h4
  have l1 := digs_len (b := 4294967296) (by omega) h2
  have l2 := digs_len (b := 4294967296) (by omega) h4
  refine (cmp_any (by omega) (by omega) h1 h3).mono ?_
  rintro e w' ⟨rfl, hb⟩
  refine ⟨?_, S.below hb⟩
  subst h
  unfold cmpI
  rw [if_neg (Nat.lt_irrefl _), if_neg (Nat.lt_irrefl _)]
theorem zeroS (S : St w L B W) (hu : (u, k, a) ∈ L) (ha : a ≤ 400) : Calls Tryd.prog 18 #[u] W fun e w' => e = .returned (.bool (decide (k = 0))) ∧ St w L B w' := by
  obtain ⟨h1, h2⟩ := S.2.1.2 _ hu
  simp only at h1 h2
  have l1 := digs_len (b := 4294967296) (by omega) h2
  refine (isZero_any (by omega) h1).mono ?_
  rintro e w' ⟨rfl, hb⟩
  exact ⟨rfl, S.below hb⟩
theorem zeroS_yes (S : St w L B W) (hu : (u, k, a) ∈ L) (ha : a ≤ 400) (h : k = 0) : Calls Tryd.prog 18 #[u] W fun e w' => e = .returned (.bool true) ∧ St w L B w' := by
  have := zeroS S hu ha
  rwa [decide_eq_true h] at this
theorem zeroS_no (S : St w L B W) (hu : (u, k, a) ∈ L) (ha : a ≤ 400) (h : 0 < k) : Calls Tryd.prog 18 #[u] W fun e w' => e = .returned (.bool false) ∧ St w L B w' := by
  have := zeroS S hu ha
  rwa [decide_eq_false (Nat.ne_of_gt h)] at this
end
end
/-- What the law rests on. -/
theorem div_whole (k j : Nat) : k / j * j + k % j = k := by rw [Nat.mul_comm]; exact Nat.div_add_mod k j
theorem gcd_scaled (k j i : Nat) : Nat.gcd (k * i) (j * i) % i = 0 := by rw [Nat.gcd_mul_right]; exact Nat.mul_mod_left _ _
theorem left_gcd (x y : Nat) : x % Nat.gcd x y = 0 := Nat.mod_eq_zero_of_dvd (Nat.gcd_dvd_left x y)
theorem right_gcd (x y : Nat) : y % Nat.gcd x y = 0 := Nat.mod_eq_zero_of_dvd (Nat.gcd_dvd_right x y)
theorem gcd_more {x y : Nat} (h : 0 < y) : 0 < Nat.gcd x y := Nat.gcd_pos_of_pos_right _ h
end Go.Proofs.YtapblmbjbpkieaaDoor
