/- Rows of prefixes of the call's own (layer 5's reference): with; meet. -/
import Derived.Test.YtamkegnnlbefdaaTrBb
namespace Go.Proofs.Ytamkegnnlbefdaa
open Go.RowKit

abbrev pxT : TypeId := 35
def encX (p : Px) : List Value := [.int .u32 (p.1 : Int), .int .i64 (p.2 : Int)]
def flX (L : List Px) : List Value := L.flatMap encX
theorem flX_len (L : List Px) : (flX L).length = L.length * 2 := by
  induction L with
  | nil => rfl
  | cons x L ih => simp only [flX, List.flatMap_cons, List.length_append, List.length_cons] at *; simp [encX] at *; omega
theorem flX_get (L : List Px) {i : Nat} (hi : i < L.length) (c : Nat) (hc : c < 2) : (flX L)[i * 2 + c]? = (encX L[i])[c]? := by
  induction L generalizing i with
  | nil => simp at hi
  | cons x L ih =>
    cases i with
    | zero =>
      simp only [flX, List.flatMap_cons, Nat.zero_mul, Nat.zero_add, List.getElem_cons_zero]
      rw [List.getElem?_append_left (by simp [encX]; omega)]
    | succ i =>
      have := ih (i := i) (by simpa using hi)
      simp only [flX, List.flatMap_cons, List.getElem_cons_succ] at *
      rw [List.getElem?_append_right (by simp [encX]; omega), ← this]
      congr 1
      simp [encX]
      omega
def OwnX (base : Nat) (W : World) (v : Value) (L : List Px) : Prop := W.ownsRow base pxT 2 v L.length (flX L)
section
variable {w W W' : World} {base g : Nat} {v v' : Value} {L : List Px}
theorem OwnX.lt (h : OwnX base W v L) : ∀ k, v.ownBlock = some k → base ≤ k ∧ k < W.heap.size := World.ownsRow.lt h
theorem OwnX.base_ (h : OwnX base W v L) : ∀ k, v.ownBlock = some k → base ≤ k := fun k hk => (h.lt k hk).1
theorem OwnX.nil (base : Nat) (W : World) : OwnX base W (.slice none 0 0) [] := World.ownsRow_nil W base _ 2
theorem OwnX.below (h : OwnX base W v L) (hb : Below W.heap.size W W') : OwnX base W' v L := World.ownsRow.kept (row := none) h ⟨hb.os, hb.tape, hb.output, hb.size, fun k hk _ => hb.block k hk⟩ (by cases v.ownBlock <;> simp)
theorem OwnX.form (h : OwnX base W v L) : ∃ A c, v = .slice A L.length c ∧ L.length ≤ c ∧ c ≤ 9223372036854775807 := by
  rcases h.2 with ⟨rfl, h0⟩ | ⟨g, cap, cur, rfl, _, _, h1, h2, _⟩
  · exact ⟨none, 0, by rw [h0], by omega, by omega⟩
  · exact ⟨_, _, rfl, h1, by unfold maxLen at h2; omega⟩
theorem OwnX.at_ {A : Option Addr} {n c i : Nat} (h : OwnX base W (.slice A n c) L) (hi : i < L.length) : ∃ g, A = some ⟨g, 0, none⟩ ∧ g < W.heap.size ∧ W.cell? ⟨g, i * 2, none⟩ = some (.int .u32 (L[i].1 : Int)) ∧ W.cell? ⟨g, i * 2 + 1, none⟩ = some (.int .i64 (L[i].2 : Int)) := by
  obtain ⟨g, cap, hv, _, hlt⟩ := World.ownsRow.form h (by omega)
  obtain ⟨rfl, _, _⟩ := Value.slice.inj hv
  have k0 := World.ownsRow.cells h (g := g) rfl (i * 2 + 0) (.int .u32 (L[i].1 : Int)) (by rw [flX_get L hi 0 (by omega)]; rfl)
  have k1 := World.ownsRow.cells h (g := g) rfl (i * 2 + 1) (.int .i64 (L[i].2 : Int)) (by rw [flX_get L hi 1 (by omega)]; rfl)
  rw [row_at] at k0 k1
  exact ⟨g, rfl, hlt, k0, k1⟩
theorem infoX : (Try.prog.info? pxT).map (fun i => (i.zero, i.size, i.bytes)) = some (some (.agg #[.int .u32 0, .int .i64 0]), 2, 16) := by kernel_rfl
theorem run_appX (ty : TypeId) (r : Px) (h : OwnX base W v L) (hl : L.length ≤ 900000000000) (hbase : base ≤ W.heap.size) :
    ∃ v' W', (Builtin.append_ #[65, 65] ty #[v, .slice (some ⟨W.heap.size, 0, none⟩) 1 1]).run Try.prog (W.alloc (.cells #[.int .u32 (r.1 : Int), .int .i64 (r.2 : Int)] pxT)) = .ok v' W' ∧ OwnX base W' v' (L ++ [r]) ∧ Below base W W' := by
  obtain ⟨i0, hi, hz0, hz1, hz2⟩ := info_parts infoX
  have hb := (Below.refl W.heap.size W).alloc (Nat.le_refl _) (.cells (encX r).toArray pxT)
  have hcells : ∀ j u, (encX r)[j]? = some u → (W.alloc (.cells (encX r).toArray pxT)).cell? ((⟨W.heap.size, 0, none⟩ : Addr).add j) = some u := by
    intro j u hu
    rw [row_at]
    exact (Blk.new W (encX r) pxT).cell hu
  obtain ⟨v', W', hrun, h2, h3, -, h5⟩ := run_append_own_at (P := Try.prog) (W.alloc (.cells (encX r).toArray pxT)) base 65 ty pxT i0 _ 2 16 Try.underlying65 hi hz0 hz1 hz2 rfl (by omega) v L.length _ (h.below hb) ⟨W.heap.size, 0, none⟩ 1 1 (encX r) rfl hcells
    (fun u hu => by simp [encX] at hu; rcases hu with rfl | rfl <;> rfl) (by unfold maxLen; omega) (by omega) (by simp; omega)
  refine ⟨v', W', hrun, ?_, ((Below.refl base W).alloc hbase _).grown h3 (by simp; omega) (h.below hb).base_⟩
  unfold OwnX flX
  rw [List.flatMap_append, List.length_append]
  simpa [flX] using h2
end
def WthQ (base : Nat) (w : World) (M : List Px) (e : Ending) (W : World) : Prop := ∃ v', e = .returned v' ∧ OwnX base W v' M ∧ Below base w W
set_option maxRecDepth 100000 in
set_option maxHeartbeats 4000000 in
theorem with_any {base : Nat} {w : World} {v : Value} {M : List Px} {p : Px} (h : OwnX base w v M) (hbase : base ≤ w.heap.size) (hl : M.length ≤ 100000) : Calls Try.prog 31 #[v, pv p.1 (p.2 : Int)] w (WthQ base w (withL M p)) := by
  obtain ⟨w1, hw1, S⟩ : ∃ w1, w.alloc (.cells #[.int .u32 (p.1 : Int), .int .i64 (p.2 : Int)] pxT) = w1 ∧ Hid (Sr w [fun W => OwnX base W v M] [(w.heap.size, [.int .u32 (p.1 : Int), .int .i64 (p.2 : Int)], pxT)] w1) :=
    ⟨_, rfl, ((Sr.start w).push (fun _ _ hb h => h.below hb) h).alloc [.int .u32 (p.1 : Int), .int .i64 (p.2 : Int)] pxT⟩
  have HBase := Lib.hid hbase
  obtain ⟨A, c, rfl, -⟩ := h.form
  obtain ⟨n, hnn⟩ : ∃ n, M.length = n := ⟨_, rfl⟩
  have HN := Lib.hid hnn
  rw [hnn] at hl S ⊢
  clear hnn h hbase
  go_enter Try.func31, Try.ntmps31
  go_wp2_with fail
  clear hw1
  go_loopw [5] (fun vi wr => ∃ i : Nat, vi = .int .i64 (i : Nat) ∧ i ≤ n ∧ Hid (∀ j (hj : j < M.length), j < i → M[j] ≠ p) ∧ Hid (Sr w [fun W => OwnX base W (.slice A n c) M] [(w.heap.size, [.int .u32 (p.1 : Int), .int .i64 (p.2 : Int)], pxT)] wr)) (fun vi _ => n - (intOf vi).toNat)
  case atStart => exact ⟨0, rfl, Nat.zero_le _, fun j _ hj => by omega, S⟩
  case round =>
    clear S
    obtain ⟨wq, rfl⟩ : ∃ x, x = wr := ⟨_, rfl⟩
    obtain ⟨i, rfl, hi, HJ, S⟩ := hrel
    by_cases hin : i < n
    · have hi' : (i : Int) < (n : Int) := by omega
      have hz0 : (0 : Int) ≤ (i : Int) := by omega
      have hw3 : IntKind.i64.wrap ((i : Int) + 1) = (i : Int) + 1 := IntWalk.i64_in _ (by omega)
      have hir : i < M.length := by rw [HN.out]; exact hin
      replace S := Lib.hid S.out.drew
      obtain ⟨g, rfl, hg, d0, d1⟩ := (S.out.fact 0 rfl : OwnX _ _ _ _).at_ hir
      obtain ⟨⟨ra, rl⟩, hx⟩ : ∃ x, M[i] = x := ⟨_, rfl⟩
      rw [hx] at d0 d1
      dsimp only at d0 d1
      have HX := Lib.hid hx
      have b0 := (S.out.at 0 rfl).cell (i := 0) rfl
      have b1 := (S.out.at 0 rfl).cell (i := 1) rfl
      clear hg hx
      go_wp2_with fail
      by_cases hh : ra = p.1 ∧ rl = p.2
      · have HQ := Lib.hid (show WthQ base w (withL M p) (.returned (.slice (some ⟨g, 0, none⟩) n c)) wq.drew from ⟨_, rfl, by
          unfold withL
          rw [if_pos (by rw [show p = M[i] from by rw [HX.out]; exact Prod.ext hh.1.symm hh.2.symm]; exact List.getElem_mem hir)]
          exact S.out.fact 0 rfl, S.out.low.mono HBase.out⟩)
        obtain ⟨pa, hpa⟩ : ∃ pa, p.1 = pa := ⟨_, rfl⟩
        obtain ⟨pl, hpl⟩ : ∃ pl, p.2 = pl := ⟨_, rfl⟩
        rw [hpa] at b0
        rw [hpl] at b1
        obtain ⟨rfl, rfl⟩ : ra = pa ∧ rl = pl := ⟨hh.1.trans hpa, hh.2.trans hpl⟩
        clear hpa hpl hh
        refine wp_region_held_drew (S := fun W' => W'.cell? ⟨g, i * 2, none⟩ = some (.int .u32 (ra : Int)) ∧ W'.cell? ⟨g, i * 2 + 1, none⟩ = some (.int .i64 (rl : Int)) ∧ W'.cell? ⟨w.heap.size, 0, none⟩ = some (.int .u32 (ra : Int)) ∧ W'.cell? ⟨w.heap.size, 1, none⟩ = some (.int .i64 (rl : Int))) (by kernel_rfl) ⟨d0, d1, b0, b1⟩ (fun hHeld => ?_)
        generalize wq.drew = w3 at S HQ d0 d1 b0 b1 hHeld ⊢
        clear d0 d1 b0 b1
        refine wpAnyH_takeD 0 (v := ?_) rfl rfl (by kernel_rfl) (by kernel_rfl) (by kernel_rfl) (fun _ _ _ h => h) (Or.inl ⟨by rfl, ?_⟩) hHeld ?_
        rotate_left
        focus (intro w hSw; (try dsimp only at hSw); go_simp; try with_reducible rfl)
        try simp only [List.setIfInBounds_toArray, List.set_cons_zero, List.set_cons_succ]
        refine wpAnyH_takeD 1 (v := ?_) rfl rfl (by kernel_rfl) (by kernel_rfl) (by kernel_rfl) (fun _ _ _ h => h) (Or.inl ⟨by rfl, ?_⟩) hHeld ?_
        rotate_left
        focus (intro w hSw; (try dsimp only at hSw); go_simp; try with_reducible rfl)
        try simp only [List.setIfInBounds_toArray, List.set_cons_zero, List.set_cons_succ]
        refine wpAnyH_takeD 2 (v := ?_) rfl rfl (by kernel_rfl) (by kernel_rfl) (by kernel_rfl) (fun _ _ _ h => h) (Or.inl ⟨by rfl, ?_⟩) hHeld ?_
        rotate_left
        focus (intro w hSw; (try dsimp only at hSw); go_simp; try with_reducible rfl)
        try simp only [List.setIfInBounds_toArray, List.set_cons_zero, List.set_cons_succ]
        refine wpAnyH_takeD 3 (v := ?_) rfl rfl (by kernel_rfl) (by kernel_rfl) (by kernel_rfl) (fun _ _ _ h => h) (Or.inl ⟨by rfl, ?_⟩) hHeld ?_
        rotate_left
        focus (intro w hSw; (try dsimp only at hSw); go_simp; try with_reducible rfl)
        try simp only [List.setIfInBounds_toArray, List.set_cons_zero, List.set_cons_succ]
        refine wpAnyH_takeD 4 (v := ?_) rfl rfl (by kernel_rfl) (by kernel_rfl) (by kernel_rfl) (fun _ _ _ h => h) (Or.inl ⟨by rfl, ?_⟩) hHeld ?_
        rotate_left
        focus (intro w hSw; (try dsimp only at hSw); go_simp; try with_reducible rfl)
        try simp only [List.setIfInBounds_toArray, List.set_cons_zero, List.set_cons_succ]
        refine wpAnyH_takeD 5 (v := ?_) rfl rfl (by kernel_rfl) (by kernel_rfl) (by kernel_rfl) (fun _ _ _ h => h) (Or.inl ⟨by rfl, ?_⟩) hHeld ?_
        rotate_left
        focus (intro w hSw; (try dsimp only at hSw); go_simp; try with_reducible rfl)
        try simp only [List.setIfInBounds_toArray, List.set_cons_zero, List.set_cons_succ]
        refine wpAnyH_done (by kernel_rfl) ?_ _
        clear hHeld
        go_wp2_with fail
        go_ret
        exact HQ.out
      · have HNE := Lib.hid (show (ra : Int) = (p.1 : Int) → ¬ (rl : Int) = (p.2 : Int) from fun h1 h2 => hh ⟨by omega, by omega⟩)
        have HQ := Lib.hid (show ∀ j (hj : j < M.length), j < i + 1 → M[j] ≠ p from fun j hj hji => by
          rcases Nat.lt_or_ge j i with h1 | h1
          · exact HJ.out j hj h1
          · obtain rfl : j = i := by omega
            rw [HX.out]
            exact fun h2 => hh ⟨congrArg Prod.fst h2, congrArg Prod.snd h2⟩)
        clear hh
        refine wp_region_held_drew (S := fun W' => W'.cell? ⟨g, i * 2, none⟩ = some (.int .u32 (ra : Int)) ∧ W'.cell? ⟨g, i * 2 + 1, none⟩ = some (.int .i64 (rl : Int)) ∧ W'.cell? ⟨w.heap.size, 0, none⟩ = some (.int .u32 (p.1 : Int)) ∧ W'.cell? ⟨w.heap.size, 1, none⟩ = some (.int .i64 (p.2 : Int))) (by kernel_rfl) ⟨d0, d1, b0, b1⟩ (fun hHeld => ?_)
        generalize wq.drew = w3 at S d0 d1 b0 b1 hHeld ⊢
        clear d0 d1 b0 b1
        refine wpAnyH_takeD 0 (v := ?_) rfl rfl (by kernel_rfl) (by kernel_rfl) (by kernel_rfl) (fun _ _ _ h => h) (Or.inl ⟨by rfl, ?_⟩) hHeld ?_
        rotate_left
        focus (intro w hSw; (try dsimp only at hSw); go_simp; try with_reducible rfl)
        try simp only [List.setIfInBounds_toArray, List.set_cons_zero, List.set_cons_succ]
        refine wpAnyH_takeD 1 (v := ?_) rfl rfl (by kernel_rfl) (by kernel_rfl) (by kernel_rfl) (fun _ _ _ h => h) (Or.inl ⟨by rfl, ?_⟩) hHeld ?_
        rotate_left
        focus (intro w hSw; (try dsimp only at hSw); go_simp; try with_reducible rfl)
        try simp only [List.setIfInBounds_toArray, List.set_cons_zero, List.set_cons_succ]
        refine wpAnyH_takeD 2 (v := ?_) rfl rfl (by kernel_rfl) (by kernel_rfl) (by kernel_rfl) (fun _ _ _ h => h) (Or.inl ⟨by rfl, ?_⟩) hHeld ?_
        rotate_left
        focus (intro w hSw; (try dsimp only at hSw); go_simp; try with_reducible rfl)
        try simp only [List.setIfInBounds_toArray, List.set_cons_zero, List.set_cons_succ]
        refine wpAnyH_takeD 3 (v := ?_) rfl rfl (by kernel_rfl) (by kernel_rfl) (by kernel_rfl) (fun _ _ _ h => h) (Or.inl ⟨by rfl, ?_⟩) hHeld ?_
        rotate_left
        focus (intro w hSw; (try dsimp only at hSw); go_simp; try with_reducible rfl)
        try simp only [List.setIfInBounds_toArray, List.set_cons_zero, List.set_cons_succ]
        refine wpAnyH_takeD 4 (v := ?_) rfl rfl (by kernel_rfl) (by kernel_rfl) (by kernel_rfl) (fun _ _ _ h => h) (Or.inl ⟨by rfl, ?_⟩) hHeld ?_
        rotate_left
        focus (intro w hSw; (try dsimp only at hSw); go_simp; try with_reducible rfl)
        try simp only [List.setIfInBounds_toArray, List.set_cons_zero, List.set_cons_succ]
        refine wpAnyH_takeD 5 (v := .bool false) rfl rfl (by kernel_rfl) (by kernel_rfl) (by kernel_rfl) (fun _ _ _ h => h) (Or.inl ⟨by rfl, ?_⟩) hHeld ?_
        · intro w hSw
          go_simp
          intro e1 e2
          exact HNE.out (by omega) (by omega)
        simp only [List.setIfInBounds_toArray, List.set_cons_zero, List.set_cons_succ]
        refine wpAnyH_done (by kernel_rfl) ?_ _
        clear hHeld
        go_wp2_with fail
        go_roundw
        case rel => exact ⟨i + 1, by go_num, by omega, HQ, S⟩
        case measure => simp [intOf]; omega
    · obtain rfl : i = n := by omega
      have hi' : ¬ (i : Int) < (i : Int) := by omega
      have b0 := (S.out.at 0 rfl).cell (i := 0) rfl
      have b1 := (S.out.at 0 rfl).cell (i := 1) rfl
      obtain ⟨v6, w6, hr6, ho6, hb6⟩ := run_appX 65 p (S.out.fact 0 rfl : OwnX _ _ _ _) (by rw [HN.out]; omega) (Nat.le_trans HBase.out S.out.low.size)
      have HR6 := Lib.hid hr6
      have HQ := Lib.hid (show WthQ base w (withL M p) (.returned v6) w6 from ⟨_, rfl, by
        unfold withL
        rw [if_neg (fun hm => by
          obtain ⟨j, hj, he⟩ := List.getElem_of_mem hm
          exact HJ.out j hj (by rw [← HN.out]; exact hj) he)]
        exact ho6, (S.out.low.mono HBase.out).trans hb6⟩)
      clear hr6 ho6 hb6 S HJ
      go_wp2_with (at_builtin; go_loud (refine wpList_app rfl (.tmp 19) (.tmp 21) _ rfl rfl rfl HR6.out ?_))
      go_ret
      exact HQ.out
end Go.Proofs.Ytamkegnnlbefdaa
