/- The law TrieUnder. -/
import Derived.Test.YtamkegnnlbefdaaTrBm
import Derived.Test.YtamkegnnlbefdaaTrBg
namespace Go.Proofs.Ytamkegnnlbefdaa
open Go.RowKit

theorem own_under {w W : World} {gt a : Nat} {l : Int} {T : Tr} (h : Own w gt T W) (ha : a < 4294967296) (hl : (routes T).length ≤ 1000) : Calls Try.prog 21 #[.pointer (some ⟨gt, 0, none⟩), pv a l] W (UnQ W (undR a l (routes T))) := by
  obtain ⟨S0, h1, h2, h3, h4⟩ := h
  exact under_any h1 ha hl
theorem stb_bthU (w : World) (gt : Nat) (T : Tr) (vr : Value) : Stb (fun W => Bth w gt T vr W) := fun _ _ hb h => h.below hb
set_option maxRecDepth 100000 in
set_option maxHeartbeats 8000000 in
theorem lawUnder {w : World} {v : Value} {ops : List OpV} {a : Nat} {l : Int} (h : OpsL w v ops) (ha : a < 4294967296) :
    Calls Try.prog 5 #[v, pv a l] w fun e W => e = .returned (.bool true) ∧ Below w.heap.size w W := by
  have hA := Lib.hid (fun W => awake_any W)
  have HO := Lib.hid h
  obtain ⟨A, c, rfl, -⟩ := h
  obtain ⟨w0, hw0, S⟩ : ∃ w1, w.alloc (.cells #[.int .u32 (a : Int), .int .i64 l] 35) = w1 ∧ Hid (Sr w [] [(w.heap.size, [.int .u32 (a : Int), .int .i64 l], 35)] w1) :=
    ⟨_, rfl, (Sr.start w).alloc [.int .u32 (a : Int), .int .i64 l] 35⟩
  by_cases hn : ops.length ≤ 80
  · have hB := Lib.hid (fun W (hW : Below w.heap.size w W) => build_any (HO.out.below hW) hn)
    obtain ⟨n, hnn⟩ : ∃ n, ops.length = n := ⟨_, rfl⟩
    rw [hnn] at hn hB ⊢
    have hn1 : ¬ (80 : Int) < (n : Int) := by omega
    have hn2 : (n : Int) ≤ 80 := by omega
    clear hnn HO
    go_enter Try.func5, Try.ntmps5
    go_wp2_with fail
    refine (hA.out _).mono ?_
    rintro e w1 ⟨rfl, hb⟩
    replace S := Lib.hid (S.out.below hb)
    clear hb hA hw0
    have hB2 := Lib.hid (hB.out w1 S.out.low)
    clear hB
    go_wp2_with fail
    refine hB2.out.mono ?_
    rintro e w2 ⟨gt, T, vr, rfl, hb, hl⟩
    replace S := Lib.hid ((S.out.below hb.1.own.low).push (stb_bthU _ _ _ _) hb)
    have hwf := hb.1.own.wf
    have hU := Lib.hid (fun W (h : Bth w1 gt T vr W) => own_under (l := l) h.1.own ha (by omega))
    have hR := Lib.hid (fun W (h : Bth w1 gt T vr W) => refUnder_any (l := l) h.2.tl (routes_vldU hwf) ha (by omega))
    have hlen := undR_len a l (routes T)
    obtain ⟨L, hL⟩ : ∃ L, undR a l (routes T) = L := ⟨_, rfl⟩
    rw [hL] at hU hR hlen
    have hSm := Lib.hid (fun W v1 v2 (h1 : OwnT w.heap.size W v1 L) (h2 : OwnT w.heap.size W v2 L) => same_any h1.tl h2.tl (by omega))
    clear hB2 hb hl hwf ha hL hlen
    have c0x0 := (S.out.at 0 rfl).cell (i := 0) rfl
    have c0x1 := (S.out.at 0 rfl).cell (i := 1) rfl
    go_wp2_with fail
    refine wp_region_held_drew (S := fun W' => W'.cell? ⟨w.heap.size, 0, none⟩ = some (.int .u32 (a : Int)) ∧ W'.cell? ⟨w.heap.size, 1, none⟩ = some (.int .i64 l)) (by kernel_rfl) ⟨c0x0, c0x1⟩ (fun hHeld => ?_)
    replace S := Lib.hid S.out.drew
    generalize w2.drew = w3 at S hHeld ⊢
    clear c0x0 c0x1
    refine wpAnyH_takeD 0 (v := ?_) rfl rfl (by kernel_rfl) (by kernel_rfl) (by kernel_rfl) (fun _ _ _ h => h) (Or.inl ⟨by rfl, ?_⟩) hHeld ?_
    rotate_left
    focus (intro w hSw; (try dsimp only at hSw); go_simp; try with_reducible rfl)
    try simp only [List.setIfInBounds_toArray, List.set_cons_zero, List.set_cons_succ]
    refine wpAnyH_takeD 1 (v := ?_) rfl rfl (by kernel_rfl) (by kernel_rfl) (by kernel_rfl) (fun _ _ _ h => h) (Or.inl ⟨by rfl, ?_⟩) hHeld ?_
    rotate_left
    focus (intro w hSw; (try dsimp only at hSw); go_simp; try with_reducible rfl)
    try simp only [List.setIfInBounds_toArray, List.set_cons_zero, List.set_cons_succ]
    refine wpAnyH_takeD 2 (v := ?_) rfl rfl (by kernel_rfl) (by kernel_rfl) (by kernel_rfl) (fun _ _ _ h => h) (Or.inl ⟨by rfl, ?_⟩) hHeld ?_
    rotate_left
    focus (intro w hSw; (try dsimp only at hSw); go_simp; try with_reducible rfl)
    try simp only [List.setIfInBounds_toArray, List.set_cons_zero, List.set_cons_succ]
    refine wpAnyH_takeD 3 (v := ?_) rfl rfl (by kernel_rfl) (by kernel_rfl) (by kernel_rfl) (fun _ _ _ h => h) (Or.inl ⟨by rfl, ?_⟩) hHeld ?_
    rotate_left
    focus (intro w hSw; (try dsimp only at hSw); go_simp; try with_reducible rfl)
    try simp only [List.setIfInBounds_toArray, List.set_cons_zero, List.set_cons_succ]
    refine wpAnyH_takeD 5 (v := ?_) rfl rfl (by kernel_rfl) (by kernel_rfl) (by kernel_rfl) (fun _ _ _ h => h) (Or.inl ⟨by rfl, ?_⟩) hHeld ?_
    rotate_left
    focus (intro w hSw; (try dsimp only at hSw); go_simp; try with_reducible rfl)
    try simp only [List.setIfInBounds_toArray, List.set_cons_zero, List.set_cons_succ]
    refine wpAnyH_takeD 6 (v := ?_) rfl rfl (by kernel_rfl) (by kernel_rfl) (by kernel_rfl) (fun _ _ _ h => h) (Or.inl ⟨by rfl, ?_⟩) hHeld ?_
    rotate_left
    focus (intro w hSw; (try dsimp only at hSw); go_simp; try with_reducible rfl)
    try simp only [List.setIfInBounds_toArray, List.set_cons_zero, List.set_cons_succ]
    refine wpAnyH_ready (rs := [4]) (by kernel_rfl) (by simp) ?_
    refine AllReadyH.cons rfl (fun K hK => ?_) AllReadyH.nil
    go_simp
    refine (hU.out _ (S.out.fact 0 rfl)).mono ?_
    rintro e w4 ⟨v1, rfl, ho, hb⟩
    have HO1 := Lib.hid (ho.down S.out.low.size)
    replace S := Lib.hid (S.out.below hb)
    clear ho hb hU
    refine hK.out _ _ ⟨(S.out.at 0 rfl).cell rfl, (S.out.at 0 rfl).cell rfl⟩ (fun hHeld => ?_)
    clear hK K
    refine wpAnyH_ready (rs := [7]) (by kernel_rfl) (by simp) ?_
    refine AllReadyH.cons rfl (fun K hK => ?_) AllReadyH.nil
    go_simp
    refine (hR.out _ (S.out.fact 0 rfl)).mono ?_
    rintro e w5 ⟨v2, rfl, ho, hb⟩
    have HO2 := Lib.hid (ho.down S.out.low.size)
    replace HO1 := Lib.hid (HO1.out.below hb)
    replace S := Lib.hid (S.out.below hb)
    clear ho hb hR
    refine hK.out _ _ ⟨(S.out.at 0 rfl).cell rfl, (S.out.at 0 rfl).cell rfl⟩ (fun hHeld => ?_)
    clear hK K
    refine wpAnyH_ready (rs := [8]) (by kernel_rfl) (by simp) ?_
    refine AllReadyH.cons rfl (fun K hK => ?_) AllReadyH.nil
    go_simp
    refine (hSm.out _ _ _ HO1.out HO2.out).mono ?_
    rintro e w6 ⟨rfl, hb⟩
    replace S := Lib.hid (S.out.below hb)
    clear hb hSm HO1 HO2
    refine hK.out _ _ ⟨(S.out.at 0 rfl).cell rfl, (S.out.at 0 rfl).cell rfl⟩ (fun hHeld => ?_)
    clear hK K
    refine wpAnyH_takeD 9 (v := ?_) rfl rfl (by kernel_rfl) (by kernel_rfl) (by kernel_rfl) (fun _ _ _ h => h) (Or.inl ⟨by rfl, ?_⟩) hHeld ?_
    rotate_left
    focus (intro w hSw; (try dsimp only at hSw); go_simp; try with_reducible rfl)
    try simp only [List.setIfInBounds_toArray, List.set_cons_zero, List.set_cons_succ]
    refine wpAnyH_takeD 10 (v := ?_) rfl rfl (by kernel_rfl) (by kernel_rfl) (by kernel_rfl) (fun _ _ _ h => h) (Or.inl ⟨by rfl, ?_⟩) hHeld ?_
    rotate_left
    focus (intro w hSw; (try dsimp only at hSw); go_simp; try with_reducible rfl)
    try simp only [List.setIfInBounds_toArray, List.set_cons_zero, List.set_cons_succ]
    refine wpAnyH_done (by kernel_rfl) ?_ _
    clear hHeld
    go_wp2_with fail
    go_ret
    exact ⟨rfl, S.out.low⟩
  · obtain ⟨n, hnn⟩ : ∃ n, ops.length = n := ⟨_, rfl⟩
    rw [hnn] at hn ⊢
    have hn1 : (80 : Int) < (n : Int) := by omega
    clear hnn HO ha
    go_enter Try.func5, Try.ntmps5
    go_wp2_with fail
    refine (hA.out _).mono ?_
    rintro e w1 ⟨rfl, hb⟩
    replace S := Lib.hid (S.out.below hb)
    clear hb hw0
    go_wp2_with fail
    refine (hA.out _).mono ?_
    rintro e w2 ⟨rfl, hb⟩
    replace S := Lib.hid (S.out.below hb)
    clear hb hA
    go_wp2_with fail
    go_ret
    exact ⟨rfl, S.out.low⟩
end Go.Proofs.Ytamkegnnlbefdaa
