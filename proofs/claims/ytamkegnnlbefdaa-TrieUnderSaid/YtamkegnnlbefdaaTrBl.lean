/- The reference's Under. -/
import Derived.Test.YtamkegnnlbefdaaTrBe
namespace Go.Proofs.Ytamkegnnlbefdaa
open Go.RowKit

/-- The routes that a prefix covers. -/
def undR (a : Nat) (l : Int) (rs : List Rt) : List Rt := rs.filter (fun r => covB a l r.1.1 (r.1.2 : Int))
theorem undR_step {a : Nat} {l : Int} {rs : List Rt} {i : Nat} (hi : i < rs.length) : undR a l (rs.take (i + 1)) = undR a l (rs.take i) ++ (if covB a l rs[i].1.1 (rs[i].1.2 : Int) = true then [rs[i]] else []) := by
  unfold undR
  rw [List.take_succ_eq_append_getElem hi, List.filter_append, List.filter_cons, List.filter_nil]
theorem undR_len (a : Nat) (l : Int) (rs : List Rt) : (undR a l rs).length ≤ rs.length := List.length_filter_le _ _
def UnJ (w1 : World) (a : Nat) (l : Int) (rs : List Rt) (v5 v6 : Value) (wr : World) : Prop := ∃ (yv : Value) (i : Nat), yv = v5 ∧ v6 = .int .i64 (i : Nat) ∧ i ≤ rs.length ∧ Hid (StT w1 wr yv (undR a l (rs.take i)))
def UnQ (w : World) (L : List Rt) (e : Ending) (W : World) : Prop := ∃ v, e = .returned v ∧ OwnT w.heap.size W v L ∧ Below w.heap.size w W
set_option maxRecDepth 100000 in
set_option maxHeartbeats 8000000 in
theorem refUnder_any {w : World} {v : Value} {rs : List Rt} {a : Nat} {l : Int} (h : TL w v rs) (hv : ∀ r ∈ rs, Vld r.1) (ha : a < 4294967296) (hn : rs.length ≤ 10000) :
    Calls Try.prog 22 #[v, pv a l] w (UnQ w (undR a l rs)) := by
  obtain ⟨b, hb⟩ : ∃ b, w.heap.size = b := ⟨_, rfl⟩
  obtain ⟨w1, hw1, HL1, HBX, hw1s⟩ : ∃ w1, w.alloc (.cells #[.int .u32 (a : Int), .int .i64 l] 35) = w1 ∧ Hid (Below w.heap.size w w1) ∧ Blk w1 b [.int .u32 (a : Int), .int .i64 l] 35 ∧ w.heap.size ≤ w1.heap.size :=
    ⟨_, rfl, (Below.refl _ w).alloc (Nat.le_refl _) _, by rw [← hb]; exact Blk.new w [.int .u32 (a : Int), .int .i64 l] 35, by simp⟩
  have HT := Lib.hid (h.below HL1.out)
  have HS1 := Lib.hid hw1s
  have HVl := Lib.hid hv
  have HPB := Lib.hid (fun W (hW : Below w1.heap.size w1 W) => (show W.cell? ⟨b, 0, none⟩ = some (.int .u32 (a : Int)) ∧ W.cell? ⟨b, 1, none⟩ = some (.int .i64 l) from ⟨(HBX.step hW).cell (i := 0) rfl, (HBX.step hW).cell (i := 1) rfl⟩))
  obtain ⟨A, c, rfl, -⟩ := h
  obtain ⟨n, hnn⟩ : ∃ n, rs.length = n := ⟨_, rfl⟩
  have HN := Lib.hid hnn
  rw [hnn] at hn HT ⊢
  have ST := Lib.hid (show StT w1 w1 (.slice none 0 0) (undR a l (rs.take 0)) from ⟨Below.refl _ _, OwnT.nil _ _⟩)
  clear hnn hw1s HBX hv
  go_enter Try.func22, Try.ntmps22
  try simp only [hb]
  go_wp2_with fail
  clear hw1
  go_loopw [5, 6] (fun v5 v6 wr => UnJ w1 a l rs v5 v6 wr) (fun _ vi _ => n - (intOf vi).toNat)
  case atStart => exact ⟨_, 0, rfl, rfl, Nat.zero_le _, ST⟩
  case round =>
    clear ST
    obtain ⟨wq, rfl⟩ : ∃ x, x = wr := ⟨_, rfl⟩
    obtain ⟨yv, i, rfl, rfl, hi, ST⟩ := hrel
    rw [HN.out] at hi
    by_cases hin : i < n
    · have hi' : (i : Int) < (n : Int) := by omega
      have hz0 : (0 : Int) ≤ (i : Int) := by omega
      have hw3 : IntKind.i64.wrap ((i : Int) + 1) = (i : Int) + 1 := IntWalk.i64_in _ (by omega)
      have hir : i < rs.length := by rw [HN.out]; exact hin
      have hlen : (undR a l (rs.take i)).length ≤ 10000 := Nat.le_trans (undR_len _ _ _) (by rw [List.length_take]; omega)
      obtain ⟨A', c', e', hel⟩ := HT.out
      injection e' with e1 e2 e3
      subst e1 e3
      clear e2
      obtain ⟨g, rfl, hg, k0, k1, k2⟩ := hel i hir
      have hst := undR_step (a := a) (l := l) hir
      have hpv := HVl.out _ (List.getElem_mem hir)
      obtain ⟨⟨⟨ra, rl⟩, rv⟩, hx⟩ : ∃ x, rs[i] = x := ⟨_, rfl⟩
      rw [hx] at k0 k1 k2 hst hpv
      dsimp only at k0 k1 k2 hst hpv
      have HC := Lib.hid (fun W (hW : Below w1.heap.size w1 W) => (show W.cell? ⟨g, i * 3, none⟩ = some (.int .u32 (ra : Int)) ∧ W.cell? ⟨g, i * 3 + 1, none⟩ = some (.int .i64 (rl : Int)) ∧ W.cell? ⟨g, i * 3 + 2, none⟩ = some (.int .i64 rv) ∧ W.cell? ⟨b, 0, none⟩ = some (.int .u32 (a : Int)) ∧ W.cell? ⟨b, 1, none⟩ = some (.int .i64 l) from
        ⟨(hW.cell (p := ⟨g, i * 3, none⟩) hg).trans k0, (hW.cell (p := ⟨g, i * 3 + 1, none⟩) hg).trans k1, (hW.cell (p := ⟨g, i * 3 + 2, none⟩) hg).trans k2, HPB.out W hW⟩))
      have HK := Lib.hid (fun W => refCovers_any a l ra (rl : Int) W ha (vld_lt hpv))
      have HST := Lib.hid hst
      clear hel hg k0 k1 k2 hx hst hpv
      go_wp2_with fail
      obtain ⟨d0, d1, d2, b0, b1⟩ := HC.out _ ST.out.low
      have ST1 := Lib.hid (ST.out.below (Below.refl _ wq).drew)
      refine wp_region_held_drew (S := fun W' => W'.cell? ⟨g, i * 3, none⟩ = some (.int .u32 (ra : Int)) ∧ W'.cell? ⟨g, i * 3 + 1, none⟩ = some (.int .i64 (rl : Int)) ∧ W'.cell? ⟨b, 0, none⟩ = some (.int .u32 (a : Int)) ∧ W'.cell? ⟨b, 1, none⟩ = some (.int .i64 l)) (by kernel_rfl) ⟨d0, d1, b0, b1⟩ (fun hHeld => ?_)
      generalize wq.drew = w3 at ST1 hHeld ⊢
      clear d0 d1 d2 b0 b1 ST
      refine wpAnyH_takeD 0 (v := ?_) rfl rfl (by kernel_rfl) (by kernel_rfl) (by kernel_rfl) (fun _ _ _ h => h) (Or.inl ⟨by rfl, ?_⟩) hHeld ?_
      rotate_left
      focus (intro w hSw; (try dsimp only at hSw); go_simp; try with_reducible rfl)
      try simp only [List.setIfInBounds_toArray, List.set_cons_zero, List.set_cons_succ]
      refine wpAnyH_takeD 1 (v := ?_) rfl rfl (by kernel_rfl) (by kernel_rfl) (by kernel_rfl) (fun _ _ _ h => h) (Or.inl ⟨by rfl, ?_⟩) hHeld ?_
      rotate_left
      focus (intro w hSw; (try dsimp only at hSw); go_simp; try with_reducible rfl)
      try simp only [List.setIfInBounds_toArray, List.set_cons_zero, List.set_cons_succ]
      refine wpAnyH_takeD 2 (v := ?_) rfl rfl (by kernel_rfl) (by kernel_rfl) (by kernel_rfl) (fun _ _ _ h => h) (Or.inl ⟨by rfl, ?_⟩) hHeld ?_
      rotate_left
      focus (intro w hSw; (try dsimp only at hSw); go_simp; try with_reducible rfl)
      try simp only [List.setIfInBounds_toArray, List.set_cons_zero, List.set_cons_succ]
      refine wpAnyH_takeD 3 (v := ?_) rfl rfl (by kernel_rfl) (by kernel_rfl) (by kernel_rfl) (fun _ _ _ h => h) (Or.inl ⟨by rfl, ?_⟩) hHeld ?_
      rotate_left
      focus (intro w hSw; (try dsimp only at hSw); go_simp; try with_reducible rfl)
      try simp only [List.setIfInBounds_toArray, List.set_cons_zero, List.set_cons_succ]
      refine wpAnyH_takeD 4 (v := ?_) rfl rfl (by kernel_rfl) (by kernel_rfl) (by kernel_rfl) (fun _ _ _ h => h) (Or.inl ⟨by rfl, ?_⟩) hHeld ?_
      rotate_left
      focus (intro w hSw; (try dsimp only at hSw); go_simp; try with_reducible rfl)
      try simp only [List.setIfInBounds_toArray, List.set_cons_zero, List.set_cons_succ]
      refine wpAnyH_takeD 5 (v := ?_) rfl rfl (by kernel_rfl) (by kernel_rfl) (by kernel_rfl) (fun _ _ _ h => h) (Or.inl ⟨by rfl, ?_⟩) hHeld ?_
      rotate_left
      focus (intro w hSw; (try dsimp only at hSw); go_simp; try with_reducible rfl)
      try simp only [List.setIfInBounds_toArray, List.set_cons_zero, List.set_cons_succ]
      by_cases hc : covB a l ra (rl : Int) = true
      · rw [hc] at HK
        rw [if_pos hc] at HST
        clear hc
        refine wpAnyH_ready (rs := [6]) (by kernel_rfl) (by simp) ?_
        refine AllReadyH.cons rfl (fun K hK => ?_) AllReadyH.nil
        go_simp
        refine (HK.out _).mono ?_
        rintro e w5 ⟨rfl, hb5⟩
        have ST3 := Lib.hid (ST1.out.below hb5)
        clear ST1 hb5
        obtain ⟨d0, d1, d2, b0, b1⟩ := HC.out _ ST3.out.low
        refine hK.out _ _ ⟨d0, d1, b0, b1⟩ (fun hHeld => ?_)
        clear hK K
        refine wpAnyH_done (by kernel_rfl) ?_ _
        clear hHeld b0 b1
        obtain ⟨v6, w6, hr6, st6⟩ := ST3.out.app Try.underlying26 26 ((ra, rl), rv) (by omega)
        have HR6 := Lib.hid hr6
        have ST6 := Lib.hid (show StT w1 w6 v6 (undR a l (rs.take (i + 1))) from by rw [HST.out]; exact st6)
        clear hr6 st6 ST3
        go_wp2_with (at_builtin; go_loud (refine wpList_app rfl (.tmp 20) (.tmp 25) _ rfl rfl rfl HR6.out ?_))
        go_roundw
        case rel => first | exact ⟨v6, i + 1, rfl, by go_num, by omega, ST6⟩ | ((repeat apply Exists.intro); refine ⟨?_, rfl⟩; exact ⟨v6, i + 1, rfl, by go_num, by omega, ST6⟩)
        case measure => simp [intOf]; omega
      · rw [Bool.eq_false_iff.2 hc] at HK
        rw [if_neg hc, List.append_nil] at HST
        clear hc
        refine wpAnyH_ready (rs := [6]) (by kernel_rfl) (by simp) ?_
        refine AllReadyH.cons rfl (fun K hK => ?_) AllReadyH.nil
        go_simp
        refine (HK.out _).mono ?_
        rintro e w5 ⟨rfl, hb5⟩
        have ST3 := Lib.hid (show StT w1 w5 yv (undR a l (rs.take (i + 1))) from by rw [HST.out]; exact ST1.out.below hb5)
        clear ST1 hb5
        obtain ⟨d0, d1, d2, b0, b1⟩ := HC.out _ ST3.out.low
        refine hK.out _ _ ⟨d0, d1, b0, b1⟩ (fun hHeld => ?_)
        clear hK K d0 d1 d2 b0 b1
        refine wpAnyH_done (by kernel_rfl) ?_ _
        clear hHeld
        go_wp2_with fail
        go_roundw
        case rel => first | exact ⟨yv, i + 1, rfl, by go_num, by omega, ST3⟩ | ((repeat apply Exists.intro); refine ⟨?_, rfl⟩; exact ⟨yv, i + 1, rfl, by go_num, by omega, ST3⟩)
        case measure => simp [intOf]; omega
    · obtain rfl : i = n := by omega
      have hi' : ¬ (i : Int) < (i : Int) := by omega
      have HQ := Lib.hid (show UnQ w (undR a l rs) (.returned yv) wq from ⟨yv, rfl, by
        have h1 := ST.out.own
        rw [List.take_of_length_le (Nat.le_of_eq HN.out)] at h1
        exact h1.down HS1.out, HL1.out.trans (ST.out.low.mono HS1.out)⟩)
      clear ST HL1 HPB HT
      go_wp2_with fail
      go_ret
      exact HQ.out
end Go.Proofs.Ytamkegnnlbefdaa
