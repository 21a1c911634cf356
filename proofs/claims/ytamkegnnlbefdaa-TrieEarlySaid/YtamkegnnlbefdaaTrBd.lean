/- One call on a trie and on a table of the reference: do, Do. -/
import Derived.Test.YtamkegnnlbefdaaTrBc
import Derived.Test.YtamkegnnlbefdaaTrK
namespace Go.Proofs.Ytamkegnnlbefdaa
open Go.RowKit

/-- A call: is it Remove, the prefix, the value. -/
abbrev OpV := Bool × Nat × Int × Int
abbrev encO (o : OpV) : Value := .agg #[.bool o.1, .int .u32 (o.2.1 : Int), .int .i64 o.2.2.1, .int .i64 o.2.2.2]
/-- What a call makes of the tree, and its answer. -/
def stepT (rem : Bool) (a : Nat) (l z : Int) (T : Tr) : Tr × Int :=
  if vldB a l = false then (T, 1)
  else if rem = true then (if (valT (a, l.toNat) (reachT (a, l.toNat) T)).isSome = true then (del (a, l.toNat) T, 0) else (T, 8))
  else (put comF (a, l.toNat) z T, 0)
theorem good_px {a : Nat} {l : Int} (ha : a < 4294967296) (h : ¬ vldB a l = false) : ∃ n : Nat, l = n ∧ Vld (a, n) := by
  have h1 : vldB a l = true := by simpa using h
  obtain ⟨n, rfl, -, -⟩ := vldB_true h1
  exact ⟨n, rfl, (vldB_vld ha).1 h1⟩
theorem insR_len (r : Rt) : ∀ (L : List Rt) (d : Bool), (insR r d L).length ≤ L.length + 1
  | [], d => by cases d <;> simp [insR]
  | x :: L, d => by
    rw [insR]
    split
    · have := insR_len r L d; simp; omega
    · split
      · rename_i h1 h2
        have h3 : ∀ M : List Rt, (insR r true M).length ≤ M.length := by
          intro M
          induction M with
          | nil => simp [insR]
          | cons y M ih => rw [insR]; split <;> simp <;> omega
        have := h3 L; simp; omega
      · have := insR_len r L d; simp; omega
theorem stepT_wf {rem : Bool} {a : Nat} {l z : Int} {T : Tr} (ha : a < 4294967296) (hw : WF T) : WF (stepT rem a l z T).1 ∧ (routes (stepT rem a l z T).1).length ≤ (routes T).length + 1 := by
  unfold stepT
  split
  · exact ⟨hw, Nat.le_succ _⟩
  · rename_i hv
    obtain ⟨n, rfl, hp⟩ := good_px ha hv
    rw [Int.toNat_natCast]
    split
    · split
      · rename_i h2
        obtain ⟨y, hy⟩ := Option.isSome_iff_exists.1 h2
        have hm := (get_iff hp hw y).1 hy
        obtain ⟨i, hi, he⟩ := List.getElem_of_mem hm
        refine ⟨(del_wf hw).1, ?_⟩
        rw [del_routes hp hw hi (by rw [he]), List.length_eraseIdx]
        split <;> omega
      · exact ⟨hw, Nat.le_succ _⟩
    · refine ⟨put_wf com_is hp hw, ?_⟩
      rw [put_routes com_is hp hw]
      exact insR_len _ _ _
theorem cnt_small {T : Tr} (hw : WF T) (hl : (routes T).length ≤ 1000) : cnt T < 4611686018427387900 := by
  obtain ⟨h1, h2, h3⟩ := cnt_bounds hw
  cases hn : T.isNil with
  | true => rw [h3 hn]; omega
  | false => have := h2 hn; omega
/-- A trie of the call's own that has no block of F. -/
def OwnF (w : World) (gt : Nat) (T : Tr) (F : Nat → Prop) (W : World) : Prop := ∃ S0, TrieP W gt T S0 ∧ (∀ g, S0 g → w.heap.size ≤ g) ∧ w.heap.size ≤ gt ∧ Below w.heap.size w W ∧ ∀ g, F g → ¬ S0 g ∧ g ≠ gt
section
variable {w W W' : World} {gt a : Nat} {l z : Int} {T : Tr} {F F' : Nat → Prop}
theorem OwnF.own (h : OwnF w gt T F W) : Own w gt T W := by
  obtain ⟨S0, h1, h2, h3, h4, h5⟩ := h
  exact ⟨S0, h1, h2, h3, h4⟩
theorem Own.f (h : Own w gt T W) (hF : ∀ g, ¬ F g) : OwnF w gt T F W := by
  obtain ⟨S0, h1, h2, h3, h4⟩ := h
  exact ⟨S0, h1, h2, h3, h4, fun g hg => absurd hg (hF g)⟩
theorem OwnF.below (h : OwnF w gt T F W) (hb : Below W.heap.size W W') : OwnF w gt T F W' := by
  obtain ⟨S0, h1, h2, h3, h4, h5⟩ := h
  exact ⟨S0, h1.below hb, h2, h3, h4.trans (hb.mono h4.size), h5⟩
theorem OwnF.fresh (h : OwnF w gt T F W) (hF : ∀ g, F' g → W.heap.size ≤ g) : OwnF w gt T F' W := by
  obtain ⟨S0, h1, h2, h3, h4, h5⟩ := h
  refine ⟨S0, h1, h2, h3, h4, fun g hg => ⟨fun hs => ?_, fun e => ?_⟩⟩
  · have := h1.2.lt g hs; have := hF g hg; omega
  · obtain ⟨⟨r1, hB, -⟩, -⟩ := h1.2
    have := hB.lt; have := hF g hg; omega
theorem stb_ownF (w : World) (gt : Nat) (T : Tr) (F : Nat → Prop) : Stb (fun W => OwnF w gt T F W) := fun _ _ hb h => h.below hb
theorem own_putO (h : OwnF w gt T F W) (hF : ∀ g, F g → g < W.heap.size) (ha : a < 4294967296) (hl : (routes T).length ≤ 1000) :
    Calls Try.prog 24 #[ptr gt, .agg #[.int .u32 (a : Int), .int .i64 l, .int .i64 z]] W fun e W' => e = .returned (.int .i64 (stepT false a l z T).2) ∧ OwnF w gt (stepT false a l z T).1 F W' ∧ ∀ g, F g → W'.heap[g]? = W.heap[g]? := by
  unfold stepT
  by_cases hv : vldB a l = false
  · rw [if_pos hv]
    exact (put_bad ha hv).mono fun e W' h2 => ⟨h2.1, h.below h2.2, fun g hg => h2.2.block g (hF g hg)⟩
  · rw [if_neg hv, if_neg (by decide)]
    obtain ⟨n, rfl, hp⟩ := good_px ha hv
    rw [Int.toNat_natCast]
    have hc := cnt_small h.own.wf hl
    obtain ⟨S0, h1, h2, h3, h4, h5⟩ := h
    refine (put_any (z := z) hp h1 hc).mono ?_
    rintro e W' ⟨S0', rfl, k5, k6, k7⟩
    have hs := h4.size
    refine ⟨rfl, ⟨S0', k5, fun g hg => (k7 g hg).elim (h2 g) (fun h8 => by omega), h3, h4.trans (k6.low hs (fun g hg => hg.elim (h2 g) (fun e => by omega))), fun g hg => ⟨fun hs' => ?_, (h5 g hg).2⟩⟩, fun g hg => k6.block g (hF g hg) (fun hs' => hs'.elim (h5 g hg).1 (h5 g hg).2)⟩
    exact (k7 g hs').elim (h5 g hg).1 (fun h8 => by have := hF g hg; omega)
theorem own_remO (h : OwnF w gt T F W) (hF : ∀ g, F g → g < W.heap.size) (ha : a < 4294967296) (hl : (routes T).length ≤ 1000) :
    Calls Try.prog 26 #[ptr gt, pv a l] W fun e W' => e = .returned (.int .i64 (stepT true a l z T).2) ∧ OwnF w gt (stepT true a l z T).1 F W' ∧ ∀ g, F g → W'.heap[g]? = W.heap[g]? := by
  unfold stepT
  by_cases hv : vldB a l = false
  · rw [if_pos hv]
    exact (remove_bad ha hv).mono fun e W' h2 => ⟨h2.1, h.below h2.2, fun g hg => h2.2.block g (hF g hg)⟩
  · rw [if_neg hv, if_pos rfl]
    obtain ⟨n, rfl, hp⟩ := good_px ha hv
    rw [Int.toNat_natCast]
    have hc := cnt_small h.own.wf hl
    obtain ⟨S0, h1, h2, h3, h4, h5⟩ := h
    refine (remove_any hp h1 hc).mono ?_
    have hs := h4.size
    rintro e W' (⟨k1, rfl, k3⟩ | ⟨k1, rfl, k3, k4⟩)
    · rw [if_neg (by rw [k1]; simp)]
      exact ⟨rfl, ⟨S0, h1.below k3, h2, h3, h4.trans (k3.mono hs), h5⟩, fun g hg => k3.block g (hF g hg)⟩
    · rw [if_pos k1]
      exact ⟨rfl, ⟨S0, k3, h2, h3, h4.trans (k4.low hs (fun g hg => hg.elim (h2 g) (fun e => by omega))), h5⟩, fun g hg => k4.block g (hF g hg) (fun hs' => hs'.elim (h5 g hg).1 (h5 g hg).2)⟩
end
def RefR (base : Nat) (w : World) (v : Value) (x : Tr × Int) (e : Ending) (W : World) : Prop := ∃ v', e = .returned (.tuple #[v', .int .i64 x.2]) ∧ OwnT base W v' (routes x.1) ∧ Below w.heap.size w W ∧ (v' = v ∨ ∀ g, v'.ownBlock = some g → w.heap.size ≤ g)
theorem ref_putO {base : Nat} {w : World} {v : Value} {a : Nat} {l z : Int} {T : Tr} (h : OwnT base w v (routes T)) (hb : base ≤ w.heap.size) (hw : WF T) (ha : a < 4294967296) (hl : (routes T).length ≤ 1000) :
    Calls Try.prog 50 #[v, .agg #[.int .u32 (a : Int), .int .i64 l, .int .i64 z]] w (RefR base w v (stepT false a l z T)) := by
  unfold stepT
  by_cases hv : vldB a l = false
  · rw [if_pos hv]
    exact (refPut_bad ha hv).mono fun e W' h2 => ⟨v, h2.1, h.below h2.2, h2.2, .inl rfl⟩
  · rw [if_neg hv, if_neg (by decide)]
    obtain ⟨n, rfl, hp⟩ := good_px ha hv
    rw [Int.toNat_natCast]
    refine (refPut_good (p := (a, n)) h.tl hp (by omega)).mono ?_
    rintro e W' ⟨k1, v', rfl, k2⟩
    exact ⟨v', rfl, by rw [put_routes com_is hp hw]; exact k2.down hb, k1, .inr k2.base_⟩
theorem ref_remO {base : Nat} {w : World} {v : Value} {a : Nat} {l z : Int} {T : Tr} (h : OwnT base w v (routes T)) (hb : base ≤ w.heap.size) (hw : WF T) (ha : a < 4294967296) (hl : (routes T).length ≤ 1000) :
    Calls Try.prog 49 #[v, pv a l] w (RefR base w v (stepT true a l z T)) := by
  unfold stepT
  by_cases hv : vldB a l = false
  · rw [if_pos hv]
    exact (refRemove_bad ha hv).mono fun e W' h2 => ⟨v, h2.1, h.below h2.2, h2.2, .inl rfl⟩
  · rw [if_neg hv, if_pos rfl]
    obtain ⟨n, rfl, hp⟩ := good_px ha hv
    rw [Int.toNat_natCast]
    refine (refRemove_good (p := (a, n)) h.tl h.rw_ hp (by omega)).mono ?_
    rintro e W' ⟨k1, (⟨v', i, hi, rfl, he, k2⟩ | ⟨rfl, k2⟩)⟩
    · have hs : (valT (a, n) (reachT (a, n) T)).isSome = true := by
        rw [Option.isSome_iff_exists]
        refine ⟨(routes T)[i].2, (get_iff hp hw _).2 ?_⟩
        rw [show ((a, n), (routes T)[i].2) = (routes T)[i] from by rw [← he]]
        exact List.getElem_mem hi
      rw [if_pos hs]
      exact ⟨v', rfl, by rw [del_routes hp hw hi he]; exact k2.down hb, k1, .inr k2.base_⟩
    · have hs : ¬ (valT (a, n) (reachT (a, n) T)).isSome = true := by
        intro h1
        obtain ⟨y, hy⟩ := Option.isSome_iff_exists.1 h1
        exact k2 _ ((get_iff hp hw y).1 hy) rfl
      rw [if_neg hs]
      exact ⟨v, rfl, h.below k1, k1, .inl rfl⟩
set_option maxRecDepth 100000 in
theorem do_any {w W : World} {gt a : Nat} {rem : Bool} {l z : Int} {T : Tr} {F : Nat → Prop} (h : OwnF w gt T F W) (hF : ∀ g, F g → g < W.heap.size) (ha : a < 4294967296) (hl : (routes T).length ≤ 1000) :
    Calls Try.prog 30 #[ptr gt, encO (rem, a, l, z)] W fun e W' => e = .returned (.int .i64 (stepT rem a l z T).2) ∧ OwnF w gt (stepT rem a l z T).1 F W' ∧ ∀ g, F g → W'.heap[g]? = W.heap[g]? := by
  obtain ⟨w1, hw1, S⟩ : ∃ w1, W.alloc (.cells #[.bool rem, .int .u32 (a : Int), .int .i64 l, .int .i64 z] 60) = w1 ∧ Hid (Sr W [fun W => OwnF w gt T F W] [(W.heap.size, [.bool rem, .int .u32 (a : Int), .int .i64 l, .int .i64 z], 60)] w1) :=
    ⟨_, rfl, ((Sr.start W).push (stb_ownF _ _ _ _) h).alloc [.bool rem, .int .u32 (a : Int), .int .i64 l, .int .i64 z] 60⟩
  have hs1 := S.out.low.size
  have hP := Lib.hid (own_putO (l := l) (z := z) (S.out.fact 0 rfl : OwnF w gt T F w1) (fun g hg => Nat.lt_of_lt_of_le (hF g hg) hs1) ha hl)
  have hR := Lib.hid (own_remO (l := l) (z := z) (S.out.fact 0 rfl : OwnF w gt T F w1) (fun g hg => Nat.lt_of_lt_of_le (hF g hg) hs1) ha hl)
  have hK := Lib.hid (fun g (hg : F g) => S.out.low.block g (hF g hg))
  unfold ptr at hP hR ⊢
  unfold encO
  clear h ha hl hF hs1
  go_enter Try.func30, Try.ntmps30
  have c0x0 := (S.out.at 0 rfl).cell (i := 0) rfl
  have c0x1 := (S.out.at 0 rfl).cell (i := 1) rfl
  have c0x2 := (S.out.at 0 rfl).cell (i := 2) rfl
  have c0x3 := (S.out.at 0 rfl).cell (i := 3) rfl
  cases rem with
  | true =>
    generalize stepT true a l z T = x at hR ⊢
    go_wp2_with fail
    refine hR.out.mono ?_
    rintro e w2 ⟨rfl, ho, hk⟩
    have HQ := Lib.hid (And.intro ho fun g hg => (hk g hg).trans (hK.out g hg))
    clear ho hk hK hR hP hw1 S c0x0 c0x1 c0x2 c0x3
    go_wp2_with fail
    go_ret
    exact ⟨rfl, HQ.out⟩
  | false =>
    generalize stepT false a l z T = x at hP ⊢
    go_wp2_with fail
    refine hP.out.mono ?_
    rintro e w2 ⟨rfl, ho, hk⟩
    have HQ := Lib.hid (And.intro ho fun g hg => (hk g hg).trans (hK.out g hg))
    clear ho hk hK hR hP hw1 S c0x0 c0x1 c0x2 c0x3
    go_wp2_with fail
    go_ret
    exact ⟨rfl, HQ.out⟩
set_option maxRecDepth 100000 in
theorem refDo_any {base : Nat} {w : World} {v : Value} {a : Nat} {rem : Bool} {l z : Int} {T : Tr} (h : OwnT base w v (routes T)) (hb : base ≤ w.heap.size) (hw : WF T) (ha : a < 4294967296) (hl : (routes T).length ≤ 1000) :
    Calls Try.prog 29 #[v, encO (rem, a, l, z)] w (RefR base w v (stepT rem a l z T)) := by
  obtain ⟨w1, hw1, S⟩ : ∃ w1, w.alloc (.cells #[.bool rem, .int .u32 (a : Int), .int .i64 l, .int .i64 z] 60) = w1 ∧ Hid (Sr w [fun W => OwnT base W v (routes T)] [(w.heap.size, [.bool rem, .int .u32 (a : Int), .int .i64 l, .int .i64 z], 60)] w1) :=
    ⟨_, rfl, ((Sr.start w).push (fun _ _ hb h => h.below hb) h).alloc [.bool rem, .int .u32 (a : Int), .int .i64 l, .int .i64 z] 60⟩
  have hP := Lib.hid (ref_putO (l := l) (z := z) (S.out.fact 0 rfl : OwnT base w1 v (routes T)) (Nat.le_trans hb S.out.low.size) hw ha hl)
  have hR := Lib.hid (ref_remO (l := l) (z := z) (S.out.fact 0 rfl : OwnT base w1 v (routes T)) (Nat.le_trans hb S.out.low.size) hw ha hl)
  unfold encO
  have hB := Lib.hid S.out.low
  clear h ha hl hw hb
  go_enter Try.func29, Try.ntmps29
  have c0x0 := (S.out.at 0 rfl).cell (i := 0) rfl
  have c0x1 := (S.out.at 0 rfl).cell (i := 1) rfl
  have c0x2 := (S.out.at 0 rfl).cell (i := 2) rfl
  have c0x3 := (S.out.at 0 rfl).cell (i := 3) rfl
  cases rem with
  | true =>
    generalize stepT true a l z T = x at hR ⊢
    go_wp2_with fail
    refine hR.out.mono ?_
    rintro e w2 ⟨v', rfl, ho, hb, hv⟩
    have HQ := Lib.hid (show RefR base w v x (.returned (.tuple #[v', .int .i64 x.2])) w2 from ⟨v', rfl, ho, hB.out.trans (hb.mono hB.out.size), hv.imp id fun h g hg => Nat.le_trans hB.out.size (h g hg)⟩)
    clear ho hR hP hb hv hB hw1 S c0x0 c0x1 c0x2 c0x3
    go_wp2_with fail
    go_ret2
    exact HQ.out
  | false =>
    generalize stepT false a l z T = x at hP ⊢
    go_wp2_with fail
    refine hP.out.mono ?_
    rintro e w2 ⟨v', rfl, ho, hb, hv⟩
    have HQ := Lib.hid (show RefR base w v x (.returned (.tuple #[v', .int .i64 x.2])) w2 from ⟨v', rfl, ho, hB.out.trans (hb.mono hB.out.size), hv.imp id fun h g hg => Nat.le_trans hB.out.size (h g hg)⟩)
    clear ho hR hP hb hv hB hw1 S c0x0 c0x1 c0x2 c0x3
    go_wp2_with fail
    go_ret2
    exact HQ.out
end Go.Proofs.Ytamkegnnlbefdaa
