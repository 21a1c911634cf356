/- Contracts of the reference of layer 5: Put of a bad prefix, Remove. -/
import Derived.Test.YtamkegnnlbefdaaTrBb
namespace Go.Proofs.Ytamkegnnlbefdaa
open Go.RowKit

set_option maxRecDepth 100000 in
theorem refPut_bad {w : World} {v : Value} {a : Nat} {l z : Int} (ha : a < 4294967296) (hv : vldB a l = false) :
    Calls Try.prog 50 #[v, .agg #[.int .u32 (a : Int), .int .i64 l, .int .i64 z]] w fun e W => e = .returned (.tuple #[v, .int .i64 1]) ∧ Below w.heap.size w W := by
  obtain ⟨w1, hw1, S⟩ : ∃ w1, w.alloc (.cells #[.int .u32 (a : Int), .int .i64 l, .int .i64 z] 37) = w1 ∧ Hid (Sr w [] [(w.heap.size, [.int .u32 (a : Int), .int .i64 l, .int .i64 z], 37)] w1) :=
    ⟨_, rfl, (Sr.start w).alloc [.int .u32 (a : Int), .int .i64 l, .int .i64 z] 37⟩
  have hV := Lib.hid (fun W => refValid_any a l W ha)
  rw [hv] at hV
  clear hv ha
  go_enter Try.func50, Try.ntmps50
  have c0x0 := (S.out.at 0 rfl).cell (i := 0) rfl
  have c0x1 := (S.out.at 0 rfl).cell (i := 1) rfl
  have c0x2 := (S.out.at 0 rfl).cell (i := 2) rfl
  go_wp2_with fail
  refine (hV.out _).mono ?_
  rintro e w2 ⟨rfl, hb⟩
  replace S := Lib.hid (S.out.below hb)
  clear hb hw1 hV c0x0 c0x1 c0x2
  go_wp2_with fail
  go_ret2
  exact ⟨rfl, S.out.low⟩
set_option maxRecDepth 100000 in
theorem refRemove_bad {w : World} {v : Value} {a : Nat} {l : Int} (ha : a < 4294967296) (hv : vldB a l = false) :
    Calls Try.prog 49 #[v, pv a l] w fun e W => e = .returned (.tuple #[v, .int .i64 1]) ∧ Below w.heap.size w W := by
  obtain ⟨w1, hw1, S⟩ : ∃ w1, w.alloc (.cells #[.int .u32 (a : Int), .int .i64 l] 35) = w1 ∧ Hid (Sr w [] [(w.heap.size, [.int .u32 (a : Int), .int .i64 l], 35)] w1) :=
    ⟨_, rfl, (Sr.start w).alloc [.int .u32 (a : Int), .int .i64 l] 35⟩
  have hV := Lib.hid (fun W => refValid_any a l W ha)
  rw [hv] at hV
  clear hv ha
  go_enter Try.func49, Try.ntmps49
  have c0x0 := (S.out.at 0 rfl).cell (i := 0) rfl
  have c0x1 := (S.out.at 0 rfl).cell (i := 1) rfl
  go_wp2_with fail
  refine (hV.out _).mono ?_
  rintro e w2 ⟨rfl, hb⟩
  replace S := Lib.hid (S.out.below hb)
  clear hb hw1 hV c0x0 c0x1
  go_wp2_with fail
  go_ret2
  exact ⟨rfl, S.out.low⟩
def RmR (w : World) (p : Px) (v : Value) (rs : List Rt) (e : Ending) (W : World) : Prop := Below w.heap.size w W ∧
  ((∃ v' i, ∃ h : i < rs.length, e = .returned (.tuple #[v', .int .i64 0]) ∧ rs[i].1 = p ∧ OwnT w.heap.size W v' (rs.eraseIdx i)) ∨ (e = .returned (.tuple #[v, .int .i64 8]) ∧ ∀ r ∈ rs, r.1 ≠ p))
theorem hit_px {p : Px} {r : Rt} : HitB p.1 (p.2 : Int) r ↔ r.1 = p := by
  unfold HitB
  exact ⟨fun ⟨h1, h2⟩ => Prod.ext h1 (by omega), fun h => by rw [h]; exact ⟨rfl, rfl⟩⟩
theorem erase_cut {α : Type} (L : List α) (i : Nat) : L.eraseIdx i = L.take i ++ L.drop (i + 1) := List.eraseIdx_eq_take_drop_succ L i
set_option maxRecDepth 100000 in
set_option maxHeartbeats 8000000 in
theorem refRemove_good {w : World} {v : Value} {rs : List Rt} {p : Px} (h : TL w v rs) (hr : Rw w v rs) (hp : Vld p) (hn : rs.length ≤ 100000) :
    Calls Try.prog 49 #[v, pv p.1 p.2] w (RmR w p v rs) := by
  obtain ⟨w1, hw1, S⟩ : ∃ w1, w.alloc (.cells #[.int .u32 (p.1 : Int), .int .i64 (p.2 : Int)] 35) = w1 ∧ Hid (Sr w [fun W => TL W v rs] [(w.heap.size, [.int .u32 (p.1 : Int), .int .i64 (p.2 : Int)], 35)] w1) :=
    ⟨_, rfl, ((Sr.start w).push (stb_tl _ _) h).alloc [.int .u32 (p.1 : Int), .int .i64 (p.2 : Int)] 35⟩
  have hV := Lib.hid (fun W => refValid_any p.1 (p.2 : Int) W (vld_lt hp))
  rw [(vldB_vld (vld_lt hp)).2 hp] at hV
  have hF := Lib.hid (fun W (h : TL W v rs) => refFind_any (a := p.1) (l := (p.2 : Int)) h (by omega))
  have HR := Lib.hid hr
  obtain ⟨A, c, rfl, hc1, hc2⟩ := hr.form
  obtain ⟨n, hnn⟩ : ∃ n, rs.length = n := ⟨_, rfl⟩
  have HN := Lib.hid hnn
  rw [hnn] at hn S hF hc1 HR ⊢
  clear hnn hr h
  go_enter Try.func49, Try.ntmps49
  have c0x0 := (S.out.at 0 rfl).cell (i := 0) rfl
  have c0x1 := (S.out.at 0 rfl).cell (i := 1) rfl
  go_wp2_with fail
  refine (hV.out _).mono ?_
  rintro e w2 ⟨rfl, hb⟩
  replace S := Lib.hid (S.out.below hb)
  clear hb hw1 hV c0x0 c0x1
  have c0x0 := (S.out.at 0 rfl).cell (i := 0) rfl
  have c0x1 := (S.out.at 0 rfl).cell (i := 1) rfl
  go_wp2_with fail
  refine (hF.out _ (S.out.fact 0 rfl)).mono ?_
  rintro e w3 ⟨hb, hc⟩
  replace S := Lib.hid (S.out.below hb)
  clear hb hF c0x0 c0x1
  rcases hc with ⟨i, hi, hh, hj, rfl⟩ | ⟨hj, rfl⟩
  · have hin : i < n := by rw [← HN.out]; exact hi
    have hi0 : ¬ (i : Int) < 0 := by omega
    have hi1 : (0 : Int) ≤ (i : Int) := by omega
    have hi2 : (i : Int) ≤ (c : Int) := by omega
    have hi3 : IntKind.i64.wrap ((i : Int) + 1) = (i : Int) + 1 := IntWalk.i64_in _ (by omega)
    have hi4 : (i : Int) + 1 ≤ (n : Int) := by omega
    have hi5 : (0 : Int) ≤ (i : Int) + 1 := by omega
    have hi6 : (n : Int) ≤ (c : Int) := by omega
    have HI := Lib.hid (show rs[i].1 = p from hit_px.1 hh)
    obtain ⟨A', c', e', hel⟩ := (S.out.fact 0 rfl : TL _ _ rs)
    injection e' with e1 e2 e3
    subst e1 e3
    clear e2
    obtain ⟨g, rfl, -⟩ := hel i hi
    clear hh hj hel
    go_wp2_with fail
    refine wp_region_held_drew (S := fun _ => True) (by kernel_rfl) trivial (fun hHeld => ?_)
    have HB := Lib.hid (S.out.low.drew)
    obtain ⟨wd, hwd⟩ : ∃ wd, w3.drew = wd := ⟨_, rfl⟩
    rw [hwd] at HB ⊢
    clear hwd S
    refine wpAnyH_takeD 1 (v := ?_) rfl rfl (by kernel_rfl) (by kernel_rfl) (by kernel_rfl) (fun _ _ _ h => h) (Or.inl ⟨by rfl, ?_⟩) hHeld ?_
    rotate_left
    focus (intro w hSw; (try dsimp only at hSw); go_simp; try with_reducible rfl)
    try simp only [List.setIfInBounds_toArray, List.set_cons_zero, List.set_cons_succ]
    refine wpAnyH_takeD 2 (v := ?_) rfl rfl (by kernel_rfl) (by kernel_rfl) (by kernel_rfl) (fun _ _ _ h => h) (Or.inl ⟨by rfl, ?_⟩) hHeld ?_
    rotate_left
    focus (intro w hSw; (try dsimp only at hSw); go_simp; try with_reducible rfl)
    try simp only [List.setIfInBounds_toArray, List.set_cons_zero, List.set_cons_succ]
    refine wpAnyH_takeD 3 (v := ?_) rfl rfl (by kernel_rfl) (by kernel_rfl) (by kernel_rfl) (fun _ _ _ h => h) (Or.inl ⟨by rfl, ?_⟩) hHeld ?_
    rotate_left
    focus (intro w hSw; (try dsimp only at hSw); go_simp; try with_reducible rfl)
    try simp only [List.setIfInBounds_toArray, List.set_cons_zero, List.set_cons_succ]
    refine wpAnyH_takeD 5 (v := ?_) rfl rfl (by kernel_rfl) (by kernel_rfl) (by kernel_rfl) (fun _ _ _ h => h) (Or.inl ⟨by rfl, ?_⟩) hHeld ?_
    rotate_left
    focus (intro w hSw; (try dsimp only at hSw); go_simp; try with_reducible rfl)
    try simp only [List.setIfInBounds_toArray, List.set_cons_zero, List.set_cons_succ]
    refine wpAnyH_takeD 6 (v := ?_) rfl rfl (by kernel_rfl) (by kernel_rfl) (by kernel_rfl) (fun _ _ _ h => h) (Or.inl ⟨by rfl, ?_⟩) hHeld ?_
    rotate_left
    focus (intro w hSw; (try dsimp only at hSw); go_simp; try with_reducible rfl)
    try simp only [List.setIfInBounds_toArray, List.set_cons_zero, List.set_cons_succ]
    refine wpAnyH_takeD 7 (v := ?_) rfl rfl (by kernel_rfl) (by kernel_rfl) (by kernel_rfl) (fun _ _ _ h => h) (Or.inl ⟨by rfl, ?_⟩) hHeld ?_
    rotate_left
    focus (intro w hSw; (try dsimp only at hSw); go_simp; try with_reducible rfl)
    try simp only [List.setIfInBounds_toArray, List.set_cons_zero, List.set_cons_succ]
    refine wpAnyH_takeD 8 (v := ?_) rfl rfl (by kernel_rfl) (by kernel_rfl) (by kernel_rfl) (fun _ _ _ h => h) (Or.inl ⟨by rfl, ?_⟩) hHeld ?_
    rotate_left
    focus (intro w hSw; (try dsimp only at hSw); go_simp; try with_reducible rfl)
    try simp only [List.setIfInBounds_toArray, List.set_cons_zero, List.set_cons_succ]
    refine wpAnyH_ready (rs := [0]) (by kernel_rfl) (by simp) ?_
    refine AllReadyH.cons rfl (fun K hK => ?_) AllReadyH.nil
    go_simp
    obtain ⟨wa, hwa⟩ : ∃ wa, wd.alloc (.cells #[] 37) = wa := ⟨_, rfl⟩
    have HA := Lib.hid (show StT w wa (.slice (some ⟨wd.heap.size, 0, none⟩) 0 0) [] from by
      rw [← hwa]
      exact ⟨HB.out.alloc HB.out.size _, World.ownsRow_made wd #[] 0 HB.out.size (Nat.zero_le _) (by simp)⟩)
    obtain ⟨v5, wb, hr5, ho5, hg5⟩ := run_appM (ts := 26) Try.underlying26 26 HA.out.own ((HR.out.below HA.out.low).hd (k := i) (by omega)) (by simp; omega) HA.out.low.size
    have hlb := HA.out.low.trans (hg5.below HA.out.own.base_ HA.out.low.size)
    have hcut := (HR.out.below hlb).tl_ (k := i + 1) (by omega)
    obtain ⟨v6, wc, hr6, ho6, hg6⟩ := run_appM (ts := 26) Try.underlying26 26 ho5 hcut (by simp only [List.nil_append, List.length_take, List.length_drop]; have := HN.out; omega) hlb.size
    have HQ := Lib.hid (show RmR w p (.slice (some ⟨g, 0, none⟩) n c) rs (.returned (.tuple #[v6, .int .i64 0])) wc from ⟨hlb.trans (hg6.below ho5.base_ hlb.size), .inl ⟨v6, i, hi, rfl, HI.out, by rw [erase_cut]; simpa using ho6⟩⟩)
    have HR5 := Lib.hid hr5
    have HR6 := Lib.hid hr6
    clear hr5 ho5 hg5 hlb hcut hr6 ho6 hg6 HA HB
    rw [hwa]
    refine hK.out _ _ trivial (fun hHeld => ?_)
    clear hK K hwa
    refine wpAnyH_ready (rs := [4]) (by kernel_rfl) (by simp) ?_
    refine AllReadyH.cons rfl (fun K hK => ?_) AllReadyH.nil
    refine wp_app (.tmp 17) (.tmp 20) 26 rfl rfl rfl HR5.out ?_
    refine hK.out _ _ trivial (fun hHeld => ?_)
    clear hK K
    refine wpAnyH_ready (rs := [9]) (by kernel_rfl) (by simp) ?_
    refine AllReadyH.cons rfl (fun K hK => ?_) AllReadyH.nil
    refine wp_app (.tmp 21) (.tmp 25) 26 rfl rfl rfl HR6.out ?_
    refine hK.out _ _ trivial (fun hHeld => ?_)
    clear hK K
    refine wpAnyH_takeD 10 (v := ?_) rfl rfl (by kernel_rfl) (by kernel_rfl) (by kernel_rfl) (fun _ _ _ h => h) (Or.inl ⟨by rfl, ?_⟩) hHeld ?_
    rotate_left
    focus (intro w hSw; (try dsimp only at hSw); go_simp; try with_reducible rfl)
    try simp only [List.setIfInBounds_toArray, List.set_cons_zero, List.set_cons_succ]
    refine wpAnyH_takeD 11 (v := ?_) rfl rfl (by kernel_rfl) (by kernel_rfl) (by kernel_rfl) (fun _ _ _ h => h) (Or.inl ⟨by rfl, ?_⟩) hHeld ?_
    rotate_left
    focus (intro w hSw; (try dsimp only at hSw); go_simp; try with_reducible rfl)
    try simp only
    refine wpAnyH_done (by kernel_rfl) ?_ _
    clear hHeld
    generalize Value.slice (if c = i + 1 then some (⟨g, 0, none⟩ : Addr) else some ⟨g, (i + 1) * 3, none⟩) (n - (i + 1)) (c - (i + 1)) = q25
    go_wp2_with fail
    go_ret2
    exact HQ.out
  · have HQ := Lib.hid (show RmR w p (.slice A n c) rs (.returned (.tuple #[.slice A n c, .int .i64 8])) w3 from ⟨S.out.low, .inr ⟨rfl, fun r hr he => by
      obtain ⟨j, hj1, rfl⟩ := List.getElem_of_mem hr
      exact hj j hj1 (hit_px.2 he)⟩⟩)
    clear hj
    go_wp2_with fail
    go_ret2
    exact HQ.out
end Go.Proofs.Ytamkegnnlbefdaa
