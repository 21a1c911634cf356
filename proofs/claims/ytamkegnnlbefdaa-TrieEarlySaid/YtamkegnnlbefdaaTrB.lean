/- Contracts of package trie: bit, toward. -/
import Derived.Test.YtamkegnnlbefdaaTrA
namespace Go.Proofs.Ytamkegnnlbefdaa
open Go.RowKit

/-- The state of a walk behind the world w: facts that stay, blocks known whole (the youngest first). -/
def Stb (P : World → Prop) : Prop := ∀ W W' : World, Below W.heap.size W W' → P W → P W'
def Sr (w : World) (L : List (World → Prop)) (B : List (Nat × List Value × TypeId)) (W : World) : Prop :=
  (∀ P, P ∈ L → Stb P ∧ P W) ∧ (∀ b, b ∈ B → Blk W b.1 b.2.1 b.2.2) ∧ B.Pairwise (fun p q => p.1 ≠ q.1) ∧ Below w.heap.size w W
section
variable {w W W' : World} {L : List (World → Prop)} {B B' : List (Nat × List Value × TypeId)} {P : World → Prop} {g i : Nat} {cs : List Value} {t : TypeId} {u v : Value}
theorem stb_blk (g : Nat) (cs : List Value) (t : TypeId) : Stb (fun W => Blk W g cs t) := fun _ _ hb h => h.step hb
theorem stb_true {p : Prop} : Stb (fun _ => p) := fun _ _ _ h => h
theorem Sr.low (h : Sr w L B W) : Below w.heap.size w W := h.2.2.2
theorem Sr.start (w : World) : Sr w [] [] w := ⟨fun P hp => by simp at hp, fun b hb => by simp at hb, .nil, Below.refl _ _⟩
theorem Sr.fact (h : Sr w L B W) (n : Nat) (hn : L[n]? = some P) : P W := (h.1 P (List.mem_of_getElem? hn)).2
theorem Sr.at (h : Sr w L B W) (n : Nat) (hn : B[n]? = some (g, cs, t)) : Blk W g cs t := h.2.1 _ (List.mem_of_getElem? hn)
theorem Sr.push (h : Sr w L B W) (hs : Stb P) (hP : P W) : Sr w (P :: L) B W := ⟨fun Q hq => by
  rcases List.mem_cons.1 hq with rfl | hq
  · exact ⟨hs, hP⟩
  · exact h.1 Q hq, h.2⟩
theorem Sr.below (h : Sr w L B W) (hb : Below W.heap.size W W') : Sr w L B W' :=
  ⟨fun Q hq => ⟨(h.1 Q hq).1, (h.1 Q hq).1 _ _ hb (h.1 Q hq).2⟩, fun b hm => (h.2.1 b hm).step hb, h.2.2.1, h.2.2.2.trans (hb.mono h.2.2.2.size)⟩
theorem Sr.drew (h : Sr w L B W) : Sr w L B W.drew := h.below ((Below.refl W.heap.size W).drew)
theorem Sr.alloc (h : Sr w L B W) (cs : List Value) (t : TypeId) : Sr w L ((W.heap.size, cs, t) :: B) (W.alloc (.cells cs.toArray t)) := by
  obtain ⟨e1, e2, e3, e4⟩ := h.below ((Below.refl W.heap.size W).alloc (Nat.le_refl _) (.cells cs.toArray t))
  refine ⟨e1, fun b hm => ?_, List.pairwise_cons.2 ⟨fun q hq => Nat.ne_of_gt (h.2.1 q hq).lt, e3⟩, e4⟩
  rcases List.mem_cons.1 hm with rfl | hm
  · exact Blk.new W cs t
  · exact e2 b hm
theorem Sr.add (h : Sr w L B W) (hb : Blk W g cs t) (hd : ∀ q, q ∈ B → q.1 ≠ g) : Sr w L ((g, cs, t) :: B) W :=
  ⟨h.1, fun b hm => by
    rcases List.mem_cons.1 hm with rfl | hm
    · exact hb
    · exact h.2.1 b hm, List.pairwise_cons.2 ⟨fun q hq => (hd q hq).symm, h.2.2.1⟩, h.2.2.2⟩
theorem Sr.sub2 {L' : List (World → Prop)} (h : Sr w L B W) (hL : L'.Sublist L) (hB : B'.Sublist B) : Sr w L' B' W :=
  ⟨fun P hp => h.1 P (hL.subset hp), fun b hm => h.2.1 b (hB.subset hm), h.2.2.1.sublist hB, h.2.2.2⟩
/-- A store into block number n, which the call made itself; no fact is held. -/
theorem Sr.set (h : Sr w [] B W) (n : Nat) (hn : B[n]? = some (g, cs, t)) (hg : w.heap.size ≤ g) (i : Nat) (u : Value) (hB : B' = B.set n (g, cs.set i u, t)) : Sr w [] B' (W.setCell ⟨g, i, none⟩ u) := by
  obtain ⟨e1, e2, e3, e4⟩ := h
  obtain ⟨hn1, hn2⟩ := List.getElem?_eq_some_iff.1 hn
  have hpw := List.pairwise_iff_getElem.1 e3
  subst hB
  refine ⟨fun P hp => by simp at hp, fun b hm2 => ?_, ?_, e4.setCell hg u (p := ⟨g, i, none⟩)⟩
  · obtain ⟨j, hj, rfl⟩ := List.getElem_of_mem hm2
    simp only [List.length_set] at hj
    rw [List.getElem_set]
    by_cases hnj : n = j
    · rw [if_pos hnj]
      have := e2 _ (List.getElem_mem hn1)
      rw [hn2] at this
      exact this.set_ i u
    · rw [if_neg hnj]
      have h3 := e2 _ (List.getElem_mem hj)
      refine h3.far (p := ⟨g, i, none⟩) ?_ u
      intro he
      simp only at he
      rcases Nat.lt_or_gt_of_ne hnj with hlt | hlt
      · have := hpw n j hn1 hj hlt; rw [hn2] at this; exact this he.symm
      · have := hpw j n hj hn1 hlt; rw [hn2] at this; exact this he
  · refine List.pairwise_iff_getElem.2 fun a b ha hb' hab => ?_
    simp only [List.length_set] at ha hb'
    have key : ∀ j (hj : j < B.length), ((B.set n (g, cs.set i u, t))[j]'(by simpa using hj)).1 = (B[j]).1 := by
      intro j hj
      rw [List.getElem_set]
      split
      · rename_i he; subst he; rw [hn2]
      · rfl
    rw [key a ha, key b hb']
    exact hpw a b ha hb' hab
end
theorem run_shl_any (a n : Nat) (hn : n ≤ 32) : Op.shift .shl .u32 (a : Int) .i64 (n : Int) = pure (.int .u32 ((a * 2 ^ n % 4294967296 : Nat) : Int)) := by
  have h0 : (0 : Int) ≤ (n : Int) := by omega
  have h1 : (n : Int) ≤ 32 := by omega
  refine (shift_shl .u32 .i64 (a : Int) (n : Int) h0 h1).trans ?_
  rw [Int.toNat_natCast]
  congr 2
theorem run_shr_31 (x : Nat) : Op.shift .shr .u32 (x : Int) .u64 31 = pure (.int .u32 ((x / 2147483648 : Nat) : Int)) := by
  refine (shift_shr .u32 .u64 (x : Int) 31 (by omega) (by decide)).trans ?_
  congr 2
def bitN (b : Bool) : Nat := if b then 1 else 0
theorem bit_eq {a n : Nat} (hn : n ≤ 32) : a * 2 ^ n % 4294967296 / 2147483648 = bitN (dir a n) := by
  have e0 : (4294967296 : Nat) = 2147483648 * 2 := rfl
  rcases Nat.lt_or_ge n 32 with h | h
  · have e1 : (2147483648 : Nat) = 2 ^ (31 - n) * 2 ^ n := by rw [← Nat.pow_add, show 31 - n + n = 31 by omega]
    have e2 : a * 2 ^ n % 4294967296 / 2147483648 = a / 2 ^ (31 - n) % 2 := by
      rw [e0, Nat.mod_mul_right_div_self, e1, Nat.mul_div_mul_right _ _ (Nat.two_pow_pos n)]
    rw [e2]
    unfold dir bitN
    rw [decide_eq_true h, Bool.and_true]
    by_cases h2 : a / 2 ^ (31 - n) % 2 = 1
    · rw [h2]; simp
    · have := Nat.mod_lt (a / 2 ^ (31 - n)) (show 0 < 2 by omega)
      rw [decide_eq_false h2]
      simp only [Bool.false_eq_true, if_false]
      omega
  · obtain rfl : n = 32 := by omega
    have : a * 2 ^ 32 % 4294967296 = 0 := Nat.mul_mod_left a 4294967296
    rw [this]
    unfold dir bitN
    simp
set_option maxRecDepth 100000 in
theorem bit_any (a n : Nat) (w : World) (hn : n ≤ 32) : Calls Try.prog 53 #[.int .u32 (a : Int), .int .i64 (n : Int)] w fun e w' => e = .returned (.int .u32 (bitN (dir a n) : Nat)) ∧ w' = w := by
  have hE1 := run_shl_any a n hn
  have hE2 := run_shr_31 (a * 2 ^ n % 4294967296)
  have hq := bit_eq (a := a) hn
  generalize a * 2 ^ n % 4294967296 = q at hE1 hE2 hq
  rw [hq] at hE2
  generalize bitN (dir a n) = r at hE2 ⊢
  have hN := Lib.hid hn
  clear hq hn
  go_enter Try.func53, Try.ntmps53
  go_wp2
  go_ret
  exact ⟨rfl, rfl⟩
set_option maxRecDepth 100000 in
theorem toward_any {w : World} {g : Nat} {p : Px} {x : Int} {h : Bool} {u v : Value} (a : Nat) (hb : Blk w g (ndC p x h u v) ndT) (hn : p.2 ≤ 32) :
    Calls Try.prog 34 #[ptr g, .int .u32 (a : Int)] w fun e w' => e = .returned (.pointer (some (kidAt g (dir a p.2)))) ∧ Below w.heap.size w w' := by
  have S := Lib.hid ((Sr.start w).add hb (fun q hq => by simp at hq))
  have hB := Lib.hid (fun W => bit_any a p.2 W hn)
  clear hb
  unfold ptr kidAt
  unfold ndC at S
  obtain ⟨d, hd⟩ : ∃ d, dir a p.2 = d := ⟨_, rfl⟩
  rw [hd] at hB ⊢
  obtain ⟨j, hj⟩ : ∃ j : Int, ((bitN d : Nat) : Int) = j := ⟨_, rfl⟩
  rw [hj] at hB
  clear hd
  cases d
  all_goals
    first
    | obtain rfl : j = 0 := hj.symm
    | obtain rfl : j = 1 := hj.symm
    clear hj
    go_enter Try.func34, Try.ntmps34
    go_wp2_with fail
    refine wp_region_held_drew (S := fun W' => W'.cell? ⟨g, 1, none⟩ = some (.int .i64 (p.2 : Int))) (by kernel_rfl) ((S.out.drew.at 0 rfl).cell (i := 1) rfl) (fun hHeld => ?_)
    replace S := Lib.hid S.out.drew
    generalize w.drew = w1 at S hHeld ⊢
    refine wpAnyH_takeD 0 (v := ?_) rfl rfl (by kernel_rfl) (by kernel_rfl) (by kernel_rfl) (fun _ _ _ h => h) (Or.inl ⟨by rfl, ?_⟩) hHeld ?_
    rotate_left
    focus (intro w hSw; (try dsimp only at hSw); go_simp; try with_reducible rfl)
    try simp only [List.setIfInBounds_toArray, List.set_cons_zero, List.set_cons_succ]
    refine wpAnyH_takeD 1 (v := ?_) rfl rfl (by kernel_rfl) (by kernel_rfl) (by kernel_rfl) (fun _ _ _ h => h) (Or.inl ⟨by rfl, ?_⟩) hHeld ?_
    rotate_left
    focus (intro w hSw; (try dsimp only at hSw); go_simp; try with_reducible rfl)
    try simp only [List.setIfInBounds_toArray, List.set_cons_zero, List.set_cons_succ]
    refine wpAnyH_takeD 2 (v := ?_) rfl rfl (by kernel_rfl) (by kernel_rfl) (by kernel_rfl) (fun _ _ _ h => h) (Or.inl ⟨by rfl, ?_⟩) hHeld ?_
    rotate_left
    focus (intro w hSw; (try dsimp only at hSw); go_simp; try with_reducible rfl)
    try simp only [List.setIfInBounds_toArray, List.set_cons_zero, List.set_cons_succ]
    refine wpAnyH_takeD 3 (v := ?_) rfl rfl (by kernel_rfl) (by kernel_rfl) (by kernel_rfl) (fun _ _ _ h => h) (Or.inl ⟨by rfl, ?_⟩) hHeld ?_
    rotate_left
    focus (intro w hSw; (try dsimp only at hSw); go_simp; try with_reducible rfl)
    try simp only [List.setIfInBounds_toArray, List.set_cons_zero, List.set_cons_succ]
    refine wpAnyH_takeD 4 (v := ?_) rfl rfl (by kernel_rfl) (by kernel_rfl) (by kernel_rfl) (fun _ _ _ h => h) (Or.inl ⟨by rfl, ?_⟩) hHeld ?_
    rotate_left
    focus (intro w hSw; (try dsimp only at hSw); go_simp; try with_reducible rfl)
    try simp only [List.setIfInBounds_toArray, List.set_cons_zero, List.set_cons_succ]
    refine wpAnyH_takeD 5 (v := ?_) rfl rfl (by kernel_rfl) (by kernel_rfl) (by kernel_rfl) (fun _ _ _ h => h) (Or.inl ⟨by rfl, ?_⟩) hHeld ?_
    rotate_left
    focus (intro w hSw; (try dsimp only at hSw); go_simp; try with_reducible rfl)
    try simp only [List.setIfInBounds_toArray, List.set_cons_zero, List.set_cons_succ]
    refine wpAnyH_takeD 6 (v := ?_) rfl rfl (by kernel_rfl) (by kernel_rfl) (by kernel_rfl) (fun _ _ _ h => h) (Or.inl ⟨by rfl, ?_⟩) hHeld ?_
    rotate_left
    focus (intro w hSw; (try dsimp only at hSw); go_simp; try with_reducible rfl)
    try simp only [List.setIfInBounds_toArray, List.set_cons_zero, List.set_cons_succ]
    refine wpAnyH_takeD 8 (v := ?_) rfl rfl (by kernel_rfl) (by kernel_rfl) (by kernel_rfl) (fun _ _ _ h => h) (Or.inl ⟨by rfl, ?_⟩) hHeld ?_
    rotate_left
    focus (intro w hSw; (try dsimp only at hSw); go_simp; try with_reducible rfl)
    try simp only [List.setIfInBounds_toArray, List.set_cons_zero, List.set_cons_succ]
    refine wpAnyH_takeD 9 (v := ?_) rfl rfl (by kernel_rfl) (by kernel_rfl) (by kernel_rfl) (fun _ _ _ h => h) (Or.inl ⟨by rfl, ?_⟩) hHeld ?_
    rotate_left
    focus (intro w hSw; (try dsimp only at hSw); go_simp; try with_reducible rfl)
    try simp only [List.setIfInBounds_toArray, List.set_cons_zero, List.set_cons_succ]
    refine wpAnyH_ready (rs := [7]) (by kernel_rfl) (by simp) ?_
    refine AllReadyH.cons rfl (fun K hK => ?_) AllReadyH.nil
    go_simp
    refine (hB.out _).mono ?_
    rintro e w2 ⟨rfl, rfl⟩
    refine hK.out _ _ ((S.out.at 0 rfl).cell (i := 1) rfl) (fun hHeld => ?_)
    clear hK K
    refine wpAnyH_takeD 10 (v := ?_) rfl rfl (by kernel_rfl) (by kernel_rfl) (by kernel_rfl) (fun _ _ _ h => h) (Or.inl ⟨by rfl, ?_⟩) hHeld ?_
    rotate_left
    focus (intro w hSw; (try dsimp only at hSw); go_simp; try with_reducible rfl)
    try simp only [List.setIfInBounds_toArray, List.set_cons_zero, List.set_cons_succ]
    refine wpAnyH_takeD 11 (v := ?_) rfl rfl (by kernel_rfl) (by kernel_rfl) (by kernel_rfl) (fun _ _ _ h => h) (Or.inl ⟨by rfl, ?_⟩) hHeld ?_
    rotate_left
    focus (intro w hSw; (try dsimp only at hSw); go_simp; try with_reducible rfl)
    try simp only [List.setIfInBounds_toArray, List.set_cons_zero, List.set_cons_succ]
    refine wpAnyH_done (by kernel_rfl) ?_ _
    go_wp2_with fail
    go_ret
    exact ⟨rfl, S.out.low⟩
end Go.Proofs.Ytamkegnnlbefdaa
