/- Contracts of the reference of layer 5: Put. -/
import Derived.Test.YtamkegnnlbefdaaTrBa
import Derived.LoopTactic
import Derived.Deep.RegionHeld3
namespace Go.Proofs.Ytamkegnnlbefdaa
open Go.RowKit

theorem cmpS_neg {p q : Px} : cmpS p.1 (p.2 : Int) q.1 (q.2 : Int) < 0 ↔ Lt p q := by
  unfold Lt
  rcases Nat.lt_trichotomy p.1 q.1 with h | h | h
  · rw [cmpS_lt h]; exact ⟨fun _ => .inl h, fun _ => by decide⟩
  · rw [h, cmpS_eq]
    unfold cmpI
    constructor
    · intro h1
      split at h1
      · exact .inr ⟨rfl, by omega⟩
      · split at h1 <;> omega
    · rintro (h1 | ⟨_, h1⟩)
      · omega
      · rw [if_pos (by omega)]; decide
  · rw [cmpS_gt h]
    constructor
    · intro h1; omega
    · intro h1; omega
/-- What the rounds of Put keep: what is written, and what is still to come. -/
def PutI (r : Rt) (rs L : List Rt) (d : Bool) (i : Nat) : Prop := L ++ insR r d (rs.drop i) = insR r false rs ∧ L.length ≤ 2 * i
section
variable {r : Rt} {rs L : List Rt} {d : Bool} {i : Nat}
theorem PutI.start : PutI r rs [] false 0 := ⟨by simp, by simp⟩
theorem PutI.same (h : PutI r rs L d i) (hi : i < rs.length) (e : rs[i].1 = r.1) : PutI r rs L d (i + 1) := by
  obtain ⟨h1, h2⟩ := h
  rw [List.drop_eq_getElem_cons hi, insR, if_pos e] at h1
  exact ⟨h1, by omega⟩
theorem PutI.plain (h : PutI r rs L d i) (hi : i < rs.length) (e : ¬ rs[i].1 = r.1) (hd : ¬ (d = false ∧ Lt r.1 rs[i].1)) : PutI r rs (L ++ [rs[i]]) d (i + 1) := by
  obtain ⟨h1, h2⟩ := h
  rw [List.drop_eq_getElem_cons hi, insR, if_neg e, if_neg hd] at h1
  exact ⟨by simpa using h1, by simp; omega⟩
theorem PutI.new (h : PutI r rs L false i) (hi : i < rs.length) (e : ¬ rs[i].1 = r.1) (hd : Lt r.1 rs[i].1) : PutI r rs (L ++ [r] ++ [rs[i]]) true (i + 1) := by
  obtain ⟨h1, h2⟩ := h
  rw [List.drop_eq_getElem_cons hi, insR, if_neg e, if_pos ⟨rfl, hd⟩] at h1
  exact ⟨by simpa using h1, by simp; omega⟩
theorem PutI.stop (h : PutI r rs L true rs.length) : L = insR r false rs := by
  obtain ⟨h1, h2⟩ := h
  simpa [insR] using h1
theorem PutI.last (h : PutI r rs L false rs.length) : L ++ [r] = insR r false rs := by
  obtain ⟨h1, h2⟩ := h
  simpa [insR] using h1
end
def PutJ (w1 : World) (r : Rt) (rs : List Rt) (n : Nat) (vo vd vi : Value) (wr : World) : Prop := ∃ (yo : Value) (d : Bool) (i : Nat) (L : List Rt), yo = vo ∧ vd = .bool d ∧ vi = .int .i64 (i : Nat) ∧ i ≤ n ∧ Hid (PutI r rs L d i) ∧ Hid (StT w1 wr yo L)
def PutR (w : World) (r : Rt) (rs : List Rt) (e : Ending) (W : World) : Prop := Below w.heap.size w W ∧ ∃ v', e = .returned (.tuple #[v', .int .i64 0]) ∧ OwnT w.heap.size W v' (insR r false rs)
set_option maxRecDepth 100000 in
set_option maxHeartbeats 16000000 in
theorem refPut_good {w : World} {v : Value} {rs : List Rt} {p : Px} {z : Int} (h : TL w v rs) (hp : Vld p) (hn : rs.length ≤ 100000) :
    Calls Try.prog 50 #[v, .agg #[.int .u32 (p.1 : Int), .int .i64 (p.2 : Int), .int .i64 z]] w (PutR w (p, z) rs) := by
  obtain ⟨b, hb⟩ : ∃ b, w.heap.size = b := ⟨_, rfl⟩
  obtain ⟨w1, hw1, HL1, HBX, hw1s⟩ : ∃ w1, w.alloc (.cells #[.int .u32 (p.1 : Int), .int .i64 (p.2 : Int), .int .i64 z] rtT) = w1 ∧ Hid (Below w.heap.size w w1) ∧ Blk w1 b [.int .u32 (p.1 : Int), .int .i64 (p.2 : Int), .int .i64 z] rtT ∧ w.heap.size ≤ w1.heap.size :=
    ⟨_, rfl, (Below.refl _ w).alloc (Nat.le_refl _) _, by rw [← hb]; exact Blk.new w [.int .u32 (p.1 : Int), .int .i64 (p.2 : Int), .int .i64 z] rtT, by simp⟩
  have HT := Lib.hid (h.below HL1.out)
  have HBX := Lib.hid HBX
  have HS1 := Lib.hid hw1s
  have HV := Lib.hid (fun W => refValid_any p.1 (p.2 : Int) W (vld_lt hp))
  rw [(vldB_vld (vld_lt hp)).2 hp] at HV
  have HPB := Lib.hid (fun W (hW : Below w1.heap.size w1 W) => (show W.cell? ⟨b, 0, none⟩ = some (.int .u32 (p.1 : Int)) ∧ W.cell? ⟨b, 1, none⟩ = some (.int .i64 (p.2 : Int)) ∧ W.cell? ⟨b, 2, none⟩ = some (.int .i64 z) from ⟨(HBX.out.step hW).cell (i := 0) rfl, (HBX.out.step hW).cell (i := 1) rfl, (HBX.out.step hW).cell (i := 2) rfl⟩))
  obtain ⟨A, c, rfl, -⟩ := h
  obtain ⟨n, hnn⟩ : ∃ n, rs.length = n := ⟨_, rfl⟩
  have HN := Lib.hid hnn
  rw [hnn] at hn HT ⊢
  clear hnn hp hw1s
  obtain ⟨b0, b1, b2⟩ := HPB.out w1 (Below.refl _ _)
  go_enter Try.func50, Try.ntmps50
  try simp only [hb]
  go_wp2_with fail
  refine (HV.out _).mono ?_
  rintro e w2 ⟨rfl, hb2⟩
  have ST := Lib.hid (show StT w1 w2 (.slice none 0 0) [] from ⟨hb2, OwnT.nil _ _⟩)
  clear hb2 b0 b1 b2 hw1 HV
  go_wp2_with fail
  go_loopw [6, 7, 8] (fun vo vd vi wr => PutJ w1 (p, z) rs n vo vd vi wr) (fun _ _ vi _ => n - (intOf vi).toNat)
  case atStart => exact ⟨_, false, 0, [], rfl, rfl, rfl, Nat.zero_le _, PutI.start, ST⟩
  case round =>
    clear ST
    obtain ⟨wq, rfl⟩ : ∃ x, x = wr := ⟨_, rfl⟩
    obtain ⟨yo, d, i, L, rfl, rfl, rfl, hi, HI, ST⟩ := hrel
    by_cases hin : i < n
    · have hi' : (i : Int) < (n : Int) := by omega
      have hz0 : (0 : Int) ≤ (i : Int) := by omega
      have hw3 : IntKind.i64.wrap ((i : Int) + 1) = (i : Int) + 1 := IntWalk.i64_in _ (by omega)
      have hir : i < rs.length := by rw [HN.out]; exact hin
      have hL := HI.out.2
      obtain ⟨A', c', e', hel⟩ := HT.out
      injection e' with e1 _ e3
      subst e1 e3
      obtain ⟨g, rfl, hg, k0, k1, k2⟩ := hel i hir
      obtain ⟨⟨⟨ra, rl⟩, rv⟩, hx⟩ : ∃ x, rs[i] = x := ⟨_, rfl⟩
      rw [hx] at k0 k1 k2
      have HX := Lib.hid hx
      have HC := Lib.hid (fun W (hW : Below w1.heap.size w1 W) => (show W.cell? ⟨g, i * 3, none⟩ = some (.int .u32 (ra : Int)) ∧ W.cell? ⟨g, i * 3 + 1, none⟩ = some (.int .i64 (rl : Int)) ∧ W.cell? ⟨g, i * 3 + 2, none⟩ = some (.int .i64 rv) ∧ W.cell? ⟨b, 0, none⟩ = some (.int .u32 (p.1 : Int)) ∧ W.cell? ⟨b, 1, none⟩ = some (.int .i64 (p.2 : Int)) ∧ W.cell? ⟨b, 2, none⟩ = some (.int .i64 z) from
        ⟨(hW.cell (p := ⟨g, i * 3, none⟩) hg).trans k0, (hW.cell (p := ⟨g, i * 3 + 1, none⟩) hg).trans k1, (hW.cell (p := ⟨g, i * 3 + 2, none⟩) hg).trans k2, HPB.out W hW⟩))
      have hlen : L.length ≤ 200000 := by omega
      clear hel hg k0 k1 k2 hx hL
      go_wp2_with fail
      by_cases hq : ra = p.1 ∧ rl = p.2
      · have HI2 := Lib.hid (HI.out.same hir (by rw [HX.out]; exact Prod.ext hq.1 hq.2))
        obtain ⟨pa, hpa⟩ : ∃ pa, p.1 = pa := ⟨_, rfl⟩
        obtain ⟨pl, hpl⟩ : ∃ pl, p.2 = pl := ⟨_, rfl⟩
        rw [hpa, hpl] at HC
        obtain ⟨rfl, rfl⟩ : ra = pa ∧ rl = pl := ⟨hq.1.trans hpa, hq.2.trans hpl⟩
        clear hpa hpl hq HPB HBX
        obtain ⟨d0, d1, d2, b0, b1, b2⟩ := HC.out _ ST.out.low
        have ST1 := Lib.hid (ST.out.below (Below.refl _ wq).drew)
        refine wp_region_held_drew (S := fun W' => W'.cell? ⟨g, i * 3, none⟩ = some (.int .u32 (ra : Int)) ∧ W'.cell? ⟨g, i * 3 + 1, none⟩ = some (.int .i64 (rl : Int)) ∧ W'.cell? ⟨b, 0, none⟩ = some (.int .u32 (ra : Int)) ∧ W'.cell? ⟨b, 1, none⟩ = some (.int .i64 (rl : Int))) (by kernel_rfl) ⟨d0, d1, b0, b1⟩ (fun hHeld => ?_)
        generalize wq.drew = w3 at ST1 hHeld ⊢
        clear d0 d1 d2 b0 b1 b2 ST
        refine wpAnyH_takeD 0 (v := ?_) rfl rfl (by kernel_rfl) (by kernel_rfl) (by kernel_rfl) (fun _ _ _ h => h) (Or.inl ⟨by rfl, ?_⟩) hHeld ?_
        rotate_left
        focus (intro w hSw; (try dsimp only at hSw); go_simp; try with_reducible rfl)
        try simp only [List.setIfInBounds_toArray, List.set_cons_zero, List.set_cons_succ]
        refine wpAnyH_takeD 1 (v := ?_) rfl rfl (by kernel_rfl) (by kernel_rfl) (by kernel_rfl) (fun _ _ _ h => h) (Or.inl ⟨by rfl, ?_⟩) hHeld ?_
        rotate_left
        focus (intro w hSw; (try dsimp only at hSw); go_simp; try with_reducible rfl)
        try simp only [List.setIfInBounds_toArray, List.set_cons_zero, List.set_cons_succ]
        refine wpAnyH_takeD 2 (v := ?_) rfl rfl (by kernel_rfl) (by kernel_rfl) (by kernel_rfl) (fun _ _ _ h => h) (Or.inl ⟨by rfl, ?_⟩) hHeld ?_
        rotate_left
        focus (intro w hSw; (try dsimp only at hSw); go_simp; try with_reducible rfl)
        try simp only [List.setIfInBounds_toArray, List.set_cons_zero, List.set_cons_succ]
        refine wpAnyH_takeD 3 (v := ?_) rfl rfl (by kernel_rfl) (by kernel_rfl) (by kernel_rfl) (fun _ _ _ h => h) (Or.inl ⟨by rfl, ?_⟩) hHeld ?_
        rotate_left
        focus (intro w hSw; (try dsimp only at hSw); go_simp; try with_reducible rfl)
        try simp only [List.setIfInBounds_toArray, List.set_cons_zero, List.set_cons_succ]
        refine wpAnyH_takeD 4 (v := ?_) rfl rfl (by kernel_rfl) (by kernel_rfl) (by kernel_rfl) (fun _ _ _ h => h) (Or.inl ⟨by rfl, ?_⟩) hHeld ?_
        rotate_left
        focus (intro w hSw; (try dsimp only at hSw); go_simp; try with_reducible rfl)
        try simp only [List.setIfInBounds_toArray, List.set_cons_zero, List.set_cons_succ]
        refine wpAnyH_takeD 5 (v := ?_) rfl rfl (by kernel_rfl) (by kernel_rfl) (by kernel_rfl) (fun _ _ _ h => h) (Or.inl ⟨by rfl, ?_⟩) hHeld ?_
        rotate_left
        focus (intro w hSw; (try dsimp only at hSw); go_simp; try with_reducible rfl)
        try simp only [List.setIfInBounds_toArray, List.set_cons_zero, List.set_cons_succ]
        refine wpAnyH_takeD 6 (v := ?_) rfl rfl (by kernel_rfl) (by kernel_rfl) (by kernel_rfl) (fun _ _ _ h => h) (Or.inl ⟨by rfl, ?_⟩) hHeld ?_
        rotate_left
        focus (intro w hSw; (try dsimp only at hSw); go_simp; try with_reducible rfl)
        try simp only [List.setIfInBounds_toArray, List.set_cons_zero, List.set_cons_succ]
        refine wpAnyH_takeD 7 (v := ?_) rfl rfl (by kernel_rfl) (by kernel_rfl) (by kernel_rfl) (fun _ _ _ h => h) (Or.inl ⟨by rfl, ?_⟩) hHeld ?_
        rotate_left
        focus (intro w hSw; (try dsimp only at hSw); go_simp; try with_reducible rfl)
        try simp only [List.setIfInBounds_toArray, List.set_cons_zero, List.set_cons_succ]
        refine wpAnyH_done (by kernel_rfl) ?_ _
        clear hHeld
        go_wp2_with fail
        go_roundw
        case rel => exact ⟨_, d, i + 1, L, rfl, rfl, by go_num, by omega, HI2, ST1⟩
        case measure => simp [intOf]; omega
      · have HNE := Lib.hid (show (ra : Int) = (p.1 : Int) → ¬ (rl : Int) = (p.2 : Int) from fun h1 h2 => hq ⟨by omega, by omega⟩)
        have hne : ¬ rs[i].1 = (p, z).1 := by rw [HX.out]; exact fun h => hq ⟨congrArg Prod.fst h, congrArg Prod.snd h⟩
        have HK := Lib.hid (fun W => refCompare_any p.1 (p.2 : Int) ra (rl : Int) W)
        have HKI := Lib.hid (cmpS_neg (p := p) (q := (ra, rl)))
        obtain ⟨k, hk⟩ : ∃ k, cmpS p.1 (p.2 : Int) ra (rl : Int) = k := ⟨_, rfl⟩
        rw [show cmpS p.1 (p.2 : Int) (ra, rl).1 ((ra, rl).2 : Int) = k from hk] at HKI
        rw [hk] at HK
        clear hk hq
        cases d with
        | true =>
          have HI2 := Lib.hid (HI.out.plain hir hne (by simp))
          clear hne HK HKI
          obtain ⟨d0, d1, d2, b0, b1, b2⟩ := HC.out _ ST.out.low
          have ST1 := Lib.hid (ST.out.below (Below.refl _ wq).drew)
          refine wp_region_held_drew (S := fun W' => W'.cell? ⟨g, i * 3, none⟩ = some (.int .u32 (ra : Int)) ∧ W'.cell? ⟨g, i * 3 + 1, none⟩ = some (.int .i64 (rl : Int)) ∧ W'.cell? ⟨b, 0, none⟩ = some (.int .u32 (p.1 : Int)) ∧ W'.cell? ⟨b, 1, none⟩ = some (.int .i64 (p.2 : Int))) (by kernel_rfl) ⟨d0, d1, b0, b1⟩ (fun hHeld => ?_)
          generalize wq.drew = w3 at ST1 hHeld ⊢
          clear d0 d1 d2 b0 b1 b2 ST
          refine wpAnyH_takeD 0 (v := ?_) rfl rfl (by kernel_rfl) (by kernel_rfl) (by kernel_rfl) (fun _ _ _ h => h) (Or.inl ⟨by rfl, ?_⟩) hHeld ?_
          rotate_left
          focus (intro w hSw; (try dsimp only at hSw); go_simp; try with_reducible rfl)
          try simp only [List.setIfInBounds_toArray, List.set_cons_zero, List.set_cons_succ]
          refine wpAnyH_takeD 1 (v := ?_) rfl rfl (by kernel_rfl) (by kernel_rfl) (by kernel_rfl) (fun _ _ _ h => h) (Or.inl ⟨by rfl, ?_⟩) hHeld ?_
          rotate_left
          focus (intro w hSw; (try dsimp only at hSw); go_simp; try with_reducible rfl)
          try simp only [List.setIfInBounds_toArray, List.set_cons_zero, List.set_cons_succ]
          refine wpAnyH_takeD 2 (v := ?_) rfl rfl (by kernel_rfl) (by kernel_rfl) (by kernel_rfl) (fun _ _ _ h => h) (Or.inl ⟨by rfl, ?_⟩) hHeld ?_
          rotate_left
          focus (intro w hSw; (try dsimp only at hSw); go_simp; try with_reducible rfl)
          try simp only [List.setIfInBounds_toArray, List.set_cons_zero, List.set_cons_succ]
          refine wpAnyH_takeD 3 (v := ?_) rfl rfl (by kernel_rfl) (by kernel_rfl) (by kernel_rfl) (fun _ _ _ h => h) (Or.inl ⟨by rfl, ?_⟩) hHeld ?_
          rotate_left
          focus (intro w hSw; (try dsimp only at hSw); go_simp; try with_reducible rfl)
          try simp only [List.setIfInBounds_toArray, List.set_cons_zero, List.set_cons_succ]
          refine wpAnyH_takeD 4 (v := ?_) rfl rfl (by kernel_rfl) (by kernel_rfl) (by kernel_rfl) (fun _ _ _ h => h) (Or.inl ⟨by rfl, ?_⟩) hHeld ?_
          rotate_left
          focus (intro w hSw; (try dsimp only at hSw); go_simp; try with_reducible rfl)
          try simp only [List.setIfInBounds_toArray, List.set_cons_zero, List.set_cons_succ]
          refine wpAnyH_takeD 5 (v := ?_) rfl rfl (by kernel_rfl) (by kernel_rfl) (by kernel_rfl) (fun _ _ _ h => h) (Or.inl ⟨by rfl, ?_⟩) hHeld ?_
          rotate_left
          focus (intro w hSw; (try dsimp only at hSw); go_simp; try with_reducible rfl)
          try simp only [List.setIfInBounds_toArray, List.set_cons_zero, List.set_cons_succ]
          refine wpAnyH_takeD 6 (v := ?_) rfl rfl (by kernel_rfl) (by kernel_rfl) (by kernel_rfl) (fun _ _ _ h => h) (Or.inl ⟨by rfl, ?_⟩) hHeld ?_
          rotate_left
          focus (intro w hSw; (try dsimp only at hSw); go_simp; try with_reducible rfl)
          try simp only [List.setIfInBounds_toArray, List.set_cons_zero, List.set_cons_succ]
          refine wpAnyH_takeD 7 (v := .bool false) rfl rfl (by kernel_rfl) (by kernel_rfl) (by kernel_rfl) (fun _ _ _ h => h) (Or.inl ⟨by rfl, ?_⟩) hHeld ?_
          · intro w hSw
            go_simp
            intro e1 e2
            exact HNE.out (by omega) (by omega)
          simp only [List.setIfInBounds_toArray, List.set_cons_zero, List.set_cons_succ]
          refine wpAnyH_done (by kernel_rfl) ?_ _
          clear hHeld
          go_wp2_with fail
          obtain ⟨d0, d1, d2, b0, b1, b2⟩ := HC.out _ ST1.out.low
          have ST2 := Lib.hid (ST1.out.below (Below.refl _ w3).drew)
          refine wp_region_held_drew (S := fun W' => W'.cell? ⟨g, i * 3, none⟩ = some (.int .u32 (ra : Int)) ∧ W'.cell? ⟨g, i * 3 + 1, none⟩ = some (.int .i64 (rl : Int)) ∧ W'.cell? ⟨b, 0, none⟩ = some (.int .u32 (p.1 : Int)) ∧ W'.cell? ⟨b, 1, none⟩ = some (.int .i64 (p.2 : Int))) (by kernel_rfl) ⟨d0, d1, b0, b1⟩ (fun hHeld => ?_)
          generalize w3.drew = w4 at ST2 hHeld ⊢
          clear d0 d1 d2 b0 b1 b2 ST1
          refine wpAnyH_takeD 0 (v := ?_) rfl rfl (by kernel_rfl) (by kernel_rfl) (by kernel_rfl) (fun _ _ _ h => h) (Or.inl ⟨by rfl, ?_⟩) hHeld ?_
          rotate_left
          focus (intro w hSw; (try dsimp only at hSw); go_simp; try with_reducible rfl)
          try simp only [List.setIfInBounds_toArray, List.set_cons_zero, List.set_cons_succ]
          refine wpAnyH_takeD 1 (v := ?_) rfl rfl (by kernel_rfl) (by kernel_rfl) (by kernel_rfl) (fun _ _ _ h => h) (Or.inl ⟨by rfl, ?_⟩) hHeld ?_
          rotate_left
          focus (intro w hSw; (try dsimp only at hSw); go_simp; try with_reducible rfl)
          try simp only [List.setIfInBounds_toArray, List.set_cons_zero, List.set_cons_succ]
          refine wpAnyH_takeD 2 (v := ?_) rfl rfl (by kernel_rfl) (by kernel_rfl) (by kernel_rfl) (fun _ _ _ h => h) (Or.inl ⟨by rfl, ?_⟩) hHeld ?_
          rotate_left
          focus (intro w hSw; (try dsimp only at hSw); go_simp; try with_reducible rfl)
          try simp only [List.setIfInBounds_toArray, List.set_cons_zero, List.set_cons_succ]
          refine wpAnyH_takeD 3 (v := undef) rfl rfl (by kernel_rfl) (by kernel_rfl) (by kernel_rfl) (fun _ _ _ h => h) (Or.inr ⟨by rfl, rfl⟩) hHeld ?_
          simp only [List.setIfInBounds_toArray, List.set_cons_zero, List.set_cons_succ]
          refine wpAnyH_takeD 4 (v := undef) rfl rfl (by kernel_rfl) (by kernel_rfl) (by kernel_rfl) (fun _ _ _ h => h) (Or.inr ⟨by rfl, rfl⟩) hHeld ?_
          simp only [List.setIfInBounds_toArray, List.set_cons_zero, List.set_cons_succ]
          refine wpAnyH_takeD 5 (v := undef) rfl rfl (by kernel_rfl) (by kernel_rfl) (by kernel_rfl) (fun _ _ _ h => h) (Or.inr ⟨by rfl, rfl⟩) hHeld ?_
          simp only [List.setIfInBounds_toArray, List.set_cons_zero, List.set_cons_succ]
          refine wpAnyH_takeD 6 (v := undef) rfl rfl (by kernel_rfl) (by kernel_rfl) (by kernel_rfl) (fun _ _ _ h => h) (Or.inr ⟨by rfl, rfl⟩) hHeld ?_
          simp only [List.setIfInBounds_toArray, List.set_cons_zero, List.set_cons_succ]
          refine wpAnyH_takeD 7 (v := undef) rfl rfl (by kernel_rfl) (by kernel_rfl) (by kernel_rfl) (fun _ _ _ h => h) (Or.inr ⟨by rfl, rfl⟩) hHeld ?_
          simp only [List.setIfInBounds_toArray, List.set_cons_zero, List.set_cons_succ]
          refine wpAnyH_takeD 8 (v := undef) rfl rfl (by kernel_rfl) (by kernel_rfl) (by kernel_rfl) (fun _ _ _ h => h) (Or.inr ⟨by rfl, rfl⟩) hHeld ?_
          simp only [List.setIfInBounds_toArray, List.set_cons_zero, List.set_cons_succ]
          refine wpAnyH_takeD 9 (v := undef) rfl rfl (by kernel_rfl) (by kernel_rfl) (by kernel_rfl) (fun _ _ _ h => h) (Or.inr ⟨by rfl, rfl⟩) hHeld ?_
          simp only [List.setIfInBounds_toArray, List.set_cons_zero, List.set_cons_succ]
          refine wpAnyH_takeD 10 (v := undef) rfl rfl (by kernel_rfl) (by kernel_rfl) (by kernel_rfl) (fun _ _ _ h => h) (Or.inr ⟨by rfl, rfl⟩) hHeld ?_
          simp only [List.setIfInBounds_toArray, List.set_cons_zero, List.set_cons_succ]
          refine wpAnyH_takeD 11 (v := undef) rfl rfl (by kernel_rfl) (by kernel_rfl) (by kernel_rfl) (fun _ _ _ h => h) (Or.inr ⟨by rfl, rfl⟩) hHeld ?_
          simp only [List.setIfInBounds_toArray, List.set_cons_zero, List.set_cons_succ]
          refine wpAnyH_takeD 12 (v := ?_) rfl rfl (by kernel_rfl) (by kernel_rfl) (by kernel_rfl) (fun _ _ _ h => h) (Or.inl ⟨by rfl, ?_⟩) hHeld ?_
          rotate_left
          focus (intro w hSw; (try dsimp only at hSw); go_simp; try with_reducible rfl)
          try simp only [List.setIfInBounds_toArray, List.set_cons_zero, List.set_cons_succ]
          refine wpAnyH_done (by kernel_rfl) ?_ _
          clear hHeld
          obtain ⟨w5, rfl⟩ : ∃ x, x = w4 := ⟨_, rfl⟩
          have ST3 := Lib.hid ST2.out
          clear ST2
          obtain ⟨d0, d1, d2, b0, b1, b2⟩ := HC.out _ ST3.out.low
          obtain ⟨v6, w6, hr6, st6⟩ := ST3.out.app Try.underlying26 26 ((ra, rl), rv) (by omega)
          have HR6 := Lib.hid hr6
          have ST6 := Lib.hid st6
          clear hr6 st6 ST3 b0 b1 b2
          go_wp2_with (at_builtin; go_loud (refine wpList_app rfl (.tmp 45) (.tmp 50) _ rfl rfl rfl HR6.out ?_))
          go_roundw
          case rel => exact ⟨_, _, _, ⟨v6, true, i + 1, L ++ [((ra, rl), rv)], rfl, rfl, by go_num, by omega, by rw [HX.out] at HI2; exact HI2, ST6⟩, rfl, rfl, rfl⟩
          case measure => simp [intOf]; omega
        | false =>
          by_cases hk0 : k < 0
          · have HI2 := Lib.hid (HI.out.new hir hne (by rw [HX.out]; exact HKI.out.1 hk0))
            clear hne HKI
            obtain ⟨d0, d1, d2, b0, b1, b2⟩ := HC.out _ ST.out.low
            have ST1 := Lib.hid (ST.out.below (Below.refl _ wq).drew)
            refine wp_region_held_drew (S := fun W' => W'.cell? ⟨g, i * 3, none⟩ = some (.int .u32 (ra : Int)) ∧ W'.cell? ⟨g, i * 3 + 1, none⟩ = some (.int .i64 (rl : Int)) ∧ W'.cell? ⟨b, 0, none⟩ = some (.int .u32 (p.1 : Int)) ∧ W'.cell? ⟨b, 1, none⟩ = some (.int .i64 (p.2 : Int))) (by kernel_rfl) ⟨d0, d1, b0, b1⟩ (fun hHeld => ?_)
            generalize wq.drew = w3 at ST1 hHeld ⊢
            clear d0 d1 d2 b0 b1 b2 ST
            refine wpAnyH_takeD 0 (v := ?_) rfl rfl (by kernel_rfl) (by kernel_rfl) (by kernel_rfl) (fun _ _ _ h => h) (Or.inl ⟨by rfl, ?_⟩) hHeld ?_
            rotate_left
            focus (intro w hSw; (try dsimp only at hSw); go_simp; try with_reducible rfl)
            try simp only [List.setIfInBounds_toArray, List.set_cons_zero, List.set_cons_succ]
            refine wpAnyH_takeD 1 (v := ?_) rfl rfl (by kernel_rfl) (by kernel_rfl) (by kernel_rfl) (fun _ _ _ h => h) (Or.inl ⟨by rfl, ?_⟩) hHeld ?_
            rotate_left
            focus (intro w hSw; (try dsimp only at hSw); go_simp; try with_reducible rfl)
            try simp only [List.setIfInBounds_toArray, List.set_cons_zero, List.set_cons_succ]
            refine wpAnyH_takeD 2 (v := ?_) rfl rfl (by kernel_rfl) (by kernel_rfl) (by kernel_rfl) (fun _ _ _ h => h) (Or.inl ⟨by rfl, ?_⟩) hHeld ?_
            rotate_left
            focus (intro w hSw; (try dsimp only at hSw); go_simp; try with_reducible rfl)
            try simp only [List.setIfInBounds_toArray, List.set_cons_zero, List.set_cons_succ]
            refine wpAnyH_takeD 3 (v := ?_) rfl rfl (by kernel_rfl) (by kernel_rfl) (by kernel_rfl) (fun _ _ _ h => h) (Or.inl ⟨by rfl, ?_⟩) hHeld ?_
            rotate_left
            focus (intro w hSw; (try dsimp only at hSw); go_simp; try with_reducible rfl)
            try simp only [List.setIfInBounds_toArray, List.set_cons_zero, List.set_cons_succ]
            refine wpAnyH_takeD 4 (v := ?_) rfl rfl (by kernel_rfl) (by kernel_rfl) (by kernel_rfl) (fun _ _ _ h => h) (Or.inl ⟨by rfl, ?_⟩) hHeld ?_
            rotate_left
            focus (intro w hSw; (try dsimp only at hSw); go_simp; try with_reducible rfl)
            try simp only [List.setIfInBounds_toArray, List.set_cons_zero, List.set_cons_succ]
            refine wpAnyH_takeD 5 (v := ?_) rfl rfl (by kernel_rfl) (by kernel_rfl) (by kernel_rfl) (fun _ _ _ h => h) (Or.inl ⟨by rfl, ?_⟩) hHeld ?_
            rotate_left
            focus (intro w hSw; (try dsimp only at hSw); go_simp; try with_reducible rfl)
            try simp only [List.setIfInBounds_toArray, List.set_cons_zero, List.set_cons_succ]
            refine wpAnyH_takeD 6 (v := ?_) rfl rfl (by kernel_rfl) (by kernel_rfl) (by kernel_rfl) (fun _ _ _ h => h) (Or.inl ⟨by rfl, ?_⟩) hHeld ?_
            rotate_left
            focus (intro w hSw; (try dsimp only at hSw); go_simp; try with_reducible rfl)
            try simp only [List.setIfInBounds_toArray, List.set_cons_zero, List.set_cons_succ]
            refine wpAnyH_takeD 7 (v := .bool false) rfl rfl (by kernel_rfl) (by kernel_rfl) (by kernel_rfl) (fun _ _ _ h => h) (Or.inl ⟨by rfl, ?_⟩) hHeld ?_
            · intro w hSw
              go_simp
              intro e1 e2
              exact HNE.out (by omega) (by omega)
            simp only [List.setIfInBounds_toArray, List.set_cons_zero, List.set_cons_succ]
            refine wpAnyH_done (by kernel_rfl) ?_ _
            clear hHeld
            go_wp2_with fail
            obtain ⟨d0, d1, d2, b0, b1, b2⟩ := HC.out _ ST1.out.low
            have ST2 := Lib.hid (ST1.out.below (Below.refl _ w3).drew)
            refine wp_region_held_drew (S := fun W' => W'.cell? ⟨g, i * 3, none⟩ = some (.int .u32 (ra : Int)) ∧ W'.cell? ⟨g, i * 3 + 1, none⟩ = some (.int .i64 (rl : Int)) ∧ W'.cell? ⟨b, 0, none⟩ = some (.int .u32 (p.1 : Int)) ∧ W'.cell? ⟨b, 1, none⟩ = some (.int .i64 (p.2 : Int))) (by kernel_rfl) ⟨d0, d1, b0, b1⟩ (fun hHeld => ?_)
            generalize w3.drew = w4 at ST2 hHeld ⊢
            clear d0 d1 d2 b0 b1 b2 ST1
            refine wpAnyH_takeD 0 (v := ?_) rfl rfl (by kernel_rfl) (by kernel_rfl) (by kernel_rfl) (fun _ _ _ h => h) (Or.inl ⟨by rfl, ?_⟩) hHeld ?_
            rotate_left
            focus (intro w hSw; (try dsimp only at hSw); go_simp; try with_reducible rfl)
            try simp only [List.setIfInBounds_toArray, List.set_cons_zero, List.set_cons_succ]
            refine wpAnyH_takeD 1 (v := ?_) rfl rfl (by kernel_rfl) (by kernel_rfl) (by kernel_rfl) (fun _ _ _ h => h) (Or.inl ⟨by rfl, ?_⟩) hHeld ?_
            rotate_left
            focus (intro w hSw; (try dsimp only at hSw); go_simp; try with_reducible rfl)
            try simp only [List.setIfInBounds_toArray, List.set_cons_zero, List.set_cons_succ]
            refine wpAnyH_takeD 2 (v := ?_) rfl rfl (by kernel_rfl) (by kernel_rfl) (by kernel_rfl) (fun _ _ _ h => h) (Or.inl ⟨by rfl, ?_⟩) hHeld ?_
            rotate_left
            focus (intro w hSw; (try dsimp only at hSw); go_simp; try with_reducible rfl)
            try simp only [List.setIfInBounds_toArray, List.set_cons_zero, List.set_cons_succ]
            refine wpAnyH_takeD 3 (v := ?_) rfl rfl (by kernel_rfl) (by kernel_rfl) (by kernel_rfl) (fun _ _ _ h => h) (Or.inl ⟨by rfl, ?_⟩) hHeld ?_
            rotate_left
            focus (intro w hSw; (try dsimp only at hSw); go_simp; try with_reducible rfl)
            try simp only [List.setIfInBounds_toArray, List.set_cons_zero, List.set_cons_succ]
            refine wpAnyH_takeD 4 (v := ?_) rfl rfl (by kernel_rfl) (by kernel_rfl) (by kernel_rfl) (fun _ _ _ h => h) (Or.inl ⟨by rfl, ?_⟩) hHeld ?_
            rotate_left
            focus (intro w hSw; (try dsimp only at hSw); go_simp; try with_reducible rfl)
            try simp only [List.setIfInBounds_toArray, List.set_cons_zero, List.set_cons_succ]
            refine wpAnyH_takeD 5 (v := ?_) rfl rfl (by kernel_rfl) (by kernel_rfl) (by kernel_rfl) (fun _ _ _ h => h) (Or.inl ⟨by rfl, ?_⟩) hHeld ?_
            rotate_left
            focus (intro w hSw; (try dsimp only at hSw); go_simp; try with_reducible rfl)
            try simp only [List.setIfInBounds_toArray, List.set_cons_zero, List.set_cons_succ]
            refine wpAnyH_takeD 6 (v := ?_) rfl rfl (by kernel_rfl) (by kernel_rfl) (by kernel_rfl) (fun _ _ _ h => h) (Or.inl ⟨by rfl, ?_⟩) hHeld ?_
            rotate_left
            focus (intro w hSw; (try dsimp only at hSw); go_simp; try with_reducible rfl)
            try simp only [List.setIfInBounds_toArray, List.set_cons_zero, List.set_cons_succ]
            refine wpAnyH_takeD 7 (v := ?_) rfl rfl (by kernel_rfl) (by kernel_rfl) (by kernel_rfl) (fun _ _ _ h => h) (Or.inl ⟨by rfl, ?_⟩) hHeld ?_
            rotate_left
            focus (intro w hSw; (try dsimp only at hSw); go_simp; try with_reducible rfl)
            try simp only [List.setIfInBounds_toArray, List.set_cons_zero, List.set_cons_succ]
            refine wpAnyH_takeD 8 (v := ?_) rfl rfl (by kernel_rfl) (by kernel_rfl) (by kernel_rfl) (fun _ _ _ h => h) (Or.inl ⟨by rfl, ?_⟩) hHeld ?_
            rotate_left
            focus (intro w hSw; (try dsimp only at hSw); go_simp; try with_reducible rfl)
            try simp only [List.setIfInBounds_toArray, List.set_cons_zero, List.set_cons_succ]
            refine wpAnyH_takeD 9 (v := ?_) rfl rfl (by kernel_rfl) (by kernel_rfl) (by kernel_rfl) (fun _ _ _ h => h) (Or.inl ⟨by rfl, ?_⟩) hHeld ?_
            rotate_left
            focus (intro w hSw; (try dsimp only at hSw); go_simp; try with_reducible rfl)
            try simp only [List.setIfInBounds_toArray, List.set_cons_zero, List.set_cons_succ]
            refine wpAnyH_ready (rs := [10]) (by kernel_rfl) (by simp) ?_
            refine AllReadyH.cons rfl (fun K hK => ?_) AllReadyH.nil
            go_simp
            refine (HK.out _).mono ?_
            rintro e w5 ⟨rfl, hb⟩
            have ST3 := Lib.hid (ST2.out.below hb)
            clear ST2 hb
            obtain ⟨d0, d1, d2, b0, b1, b2⟩ := HC.out _ ST3.out.low
            refine hK.out _ _ ⟨d0, d1, b0, b1⟩ (fun hHeld => ?_)
            clear hK K d0 d1 d2 b0 b1 b2
            refine wpAnyH_takeD 11 (v := ?_) rfl rfl (by kernel_rfl) (by kernel_rfl) (by kernel_rfl) (fun _ _ _ h => h) (Or.inl ⟨by rfl, ?_⟩) hHeld ?_
            rotate_left
            focus (intro w hSw; (try dsimp only at hSw); go_simp; try with_reducible rfl)
            try simp only [List.setIfInBounds_toArray, List.set_cons_zero, List.set_cons_succ]
            refine wpAnyH_takeD 12 (v := ?_) rfl rfl (by kernel_rfl) (by kernel_rfl) (by kernel_rfl) (fun _ _ _ h => h) (Or.inl ⟨by rfl, ?_⟩) hHeld ?_
            rotate_left
            focus (intro w hSw; (try dsimp only at hSw); go_simp; try with_reducible rfl)
            try simp only [List.setIfInBounds_toArray, List.set_cons_zero, List.set_cons_succ]
            refine wpAnyH_done (by kernel_rfl) ?_ _
            clear hHeld
            obtain ⟨d0, d1, d2, b0, b1, b2⟩ := HC.out _ ST3.out.low
            obtain ⟨v6, w6, hr6, st6⟩ := ST3.out.app Try.underlying26 26 (p, z) (by omega)
            have HR6 := Lib.hid hr6
            have ST6 := Lib.hid st6
            obtain ⟨d06, d16, d26, -, -, -⟩ := HC.out _ st6.low
            obtain ⟨v7, w7, hr7, st7⟩ := st6.app Try.underlying26 26 ((ra, rl), rv) (by simp; omega)
            have HR7 := Lib.hid hr7
            have ST7 := Lib.hid st7
            clear hr6 st6 hr7 st7 ST3 ST6 d0 d1 d2
            go_wp2_with (first
              | (at_builtin; refine wpList_app rfl (.tmp 41) (.tmp 43) _ rfl rfl rfl HR6.out ?_)
              | (at_builtin; go_loud (refine wpList_app rfl (.tmp 45) (.tmp 50) _ rfl rfl rfl HR7.out ?_)))
            go_roundw
            case rel => exact ⟨_, _, _, ⟨v7, true, i + 1, L ++ [(p, z)] ++ [((ra, rl), rv)], rfl, rfl, by go_num, by omega, by rw [HX.out] at HI2; exact HI2, ST7⟩, rfl, rfl, rfl⟩
            case measure => simp [intOf]; omega
          · have HI2 := Lib.hid (HI.out.plain hir hne (fun h => hk0 (HKI.out.2 (by have := h.2; rw [HX.out] at this; exact this))))
            clear hne HKI
            obtain ⟨d0, d1, d2, b0, b1, b2⟩ := HC.out _ ST.out.low
            have ST1 := Lib.hid (ST.out.below (Below.refl _ wq).drew)
            refine wp_region_held_drew (S := fun W' => W'.cell? ⟨g, i * 3, none⟩ = some (.int .u32 (ra : Int)) ∧ W'.cell? ⟨g, i * 3 + 1, none⟩ = some (.int .i64 (rl : Int)) ∧ W'.cell? ⟨b, 0, none⟩ = some (.int .u32 (p.1 : Int)) ∧ W'.cell? ⟨b, 1, none⟩ = some (.int .i64 (p.2 : Int))) (by kernel_rfl) ⟨d0, d1, b0, b1⟩ (fun hHeld => ?_)
            generalize wq.drew = w3 at ST1 hHeld ⊢
            clear d0 d1 d2 b0 b1 b2 ST
            refine wpAnyH_takeD 0 (v := ?_) rfl rfl (by kernel_rfl) (by kernel_rfl) (by kernel_rfl) (fun _ _ _ h => h) (Or.inl ⟨by rfl, ?_⟩) hHeld ?_
            rotate_left
            focus (intro w hSw; (try dsimp only at hSw); go_simp; try with_reducible rfl)
            try simp only [List.setIfInBounds_toArray, List.set_cons_zero, List.set_cons_succ]
            refine wpAnyH_takeD 1 (v := ?_) rfl rfl (by kernel_rfl) (by kernel_rfl) (by kernel_rfl) (fun _ _ _ h => h) (Or.inl ⟨by rfl, ?_⟩) hHeld ?_
            rotate_left
            focus (intro w hSw; (try dsimp only at hSw); go_simp; try with_reducible rfl)
            try simp only [List.setIfInBounds_toArray, List.set_cons_zero, List.set_cons_succ]
            refine wpAnyH_takeD 2 (v := ?_) rfl rfl (by kernel_rfl) (by kernel_rfl) (by kernel_rfl) (fun _ _ _ h => h) (Or.inl ⟨by rfl, ?_⟩) hHeld ?_
            rotate_left
            focus (intro w hSw; (try dsimp only at hSw); go_simp; try with_reducible rfl)
            try simp only [List.setIfInBounds_toArray, List.set_cons_zero, List.set_cons_succ]
            refine wpAnyH_takeD 3 (v := ?_) rfl rfl (by kernel_rfl) (by kernel_rfl) (by kernel_rfl) (fun _ _ _ h => h) (Or.inl ⟨by rfl, ?_⟩) hHeld ?_
            rotate_left
            focus (intro w hSw; (try dsimp only at hSw); go_simp; try with_reducible rfl)
            try simp only [List.setIfInBounds_toArray, List.set_cons_zero, List.set_cons_succ]
            refine wpAnyH_takeD 4 (v := ?_) rfl rfl (by kernel_rfl) (by kernel_rfl) (by kernel_rfl) (fun _ _ _ h => h) (Or.inl ⟨by rfl, ?_⟩) hHeld ?_
            rotate_left
            focus (intro w hSw; (try dsimp only at hSw); go_simp; try with_reducible rfl)
            try simp only [List.setIfInBounds_toArray, List.set_cons_zero, List.set_cons_succ]
            refine wpAnyH_takeD 5 (v := ?_) rfl rfl (by kernel_rfl) (by kernel_rfl) (by kernel_rfl) (fun _ _ _ h => h) (Or.inl ⟨by rfl, ?_⟩) hHeld ?_
            rotate_left
            focus (intro w hSw; (try dsimp only at hSw); go_simp; try with_reducible rfl)
            try simp only [List.setIfInBounds_toArray, List.set_cons_zero, List.set_cons_succ]
            refine wpAnyH_takeD 6 (v := ?_) rfl rfl (by kernel_rfl) (by kernel_rfl) (by kernel_rfl) (fun _ _ _ h => h) (Or.inl ⟨by rfl, ?_⟩) hHeld ?_
            rotate_left
            focus (intro w hSw; (try dsimp only at hSw); go_simp; try with_reducible rfl)
            try simp only [List.setIfInBounds_toArray, List.set_cons_zero, List.set_cons_succ]
            refine wpAnyH_takeD 7 (v := .bool false) rfl rfl (by kernel_rfl) (by kernel_rfl) (by kernel_rfl) (fun _ _ _ h => h) (Or.inl ⟨by rfl, ?_⟩) hHeld ?_
            · intro w hSw
              go_simp
              intro e1 e2
              exact HNE.out (by omega) (by omega)
            simp only [List.setIfInBounds_toArray, List.set_cons_zero, List.set_cons_succ]
            refine wpAnyH_done (by kernel_rfl) ?_ _
            clear hHeld
            go_wp2_with fail
            obtain ⟨d0, d1, d2, b0, b1, b2⟩ := HC.out _ ST1.out.low
            have ST2 := Lib.hid (ST1.out.below (Below.refl _ w3).drew)
            refine wp_region_held_drew (S := fun W' => W'.cell? ⟨g, i * 3, none⟩ = some (.int .u32 (ra : Int)) ∧ W'.cell? ⟨g, i * 3 + 1, none⟩ = some (.int .i64 (rl : Int)) ∧ W'.cell? ⟨b, 0, none⟩ = some (.int .u32 (p.1 : Int)) ∧ W'.cell? ⟨b, 1, none⟩ = some (.int .i64 (p.2 : Int))) (by kernel_rfl) ⟨d0, d1, b0, b1⟩ (fun hHeld => ?_)
            generalize w3.drew = w4 at ST2 hHeld ⊢
            clear d0 d1 d2 b0 b1 b2 ST1
            refine wpAnyH_takeD 0 (v := ?_) rfl rfl (by kernel_rfl) (by kernel_rfl) (by kernel_rfl) (fun _ _ _ h => h) (Or.inl ⟨by rfl, ?_⟩) hHeld ?_
            rotate_left
            focus (intro w hSw; (try dsimp only at hSw); go_simp; try with_reducible rfl)
            try simp only [List.setIfInBounds_toArray, List.set_cons_zero, List.set_cons_succ]
            refine wpAnyH_takeD 1 (v := ?_) rfl rfl (by kernel_rfl) (by kernel_rfl) (by kernel_rfl) (fun _ _ _ h => h) (Or.inl ⟨by rfl, ?_⟩) hHeld ?_
            rotate_left
            focus (intro w hSw; (try dsimp only at hSw); go_simp; try with_reducible rfl)
            try simp only [List.setIfInBounds_toArray, List.set_cons_zero, List.set_cons_succ]
            refine wpAnyH_takeD 2 (v := ?_) rfl rfl (by kernel_rfl) (by kernel_rfl) (by kernel_rfl) (fun _ _ _ h => h) (Or.inl ⟨by rfl, ?_⟩) hHeld ?_
            rotate_left
            focus (intro w hSw; (try dsimp only at hSw); go_simp; try with_reducible rfl)
            try simp only [List.setIfInBounds_toArray, List.set_cons_zero, List.set_cons_succ]
            refine wpAnyH_takeD 3 (v := ?_) rfl rfl (by kernel_rfl) (by kernel_rfl) (by kernel_rfl) (fun _ _ _ h => h) (Or.inl ⟨by rfl, ?_⟩) hHeld ?_
            rotate_left
            focus (intro w hSw; (try dsimp only at hSw); go_simp; try with_reducible rfl)
            try simp only [List.setIfInBounds_toArray, List.set_cons_zero, List.set_cons_succ]
            refine wpAnyH_takeD 4 (v := ?_) rfl rfl (by kernel_rfl) (by kernel_rfl) (by kernel_rfl) (fun _ _ _ h => h) (Or.inl ⟨by rfl, ?_⟩) hHeld ?_
            rotate_left
            focus (intro w hSw; (try dsimp only at hSw); go_simp; try with_reducible rfl)
            try simp only [List.setIfInBounds_toArray, List.set_cons_zero, List.set_cons_succ]
            refine wpAnyH_takeD 5 (v := ?_) rfl rfl (by kernel_rfl) (by kernel_rfl) (by kernel_rfl) (fun _ _ _ h => h) (Or.inl ⟨by rfl, ?_⟩) hHeld ?_
            rotate_left
            focus (intro w hSw; (try dsimp only at hSw); go_simp; try with_reducible rfl)
            try simp only [List.setIfInBounds_toArray, List.set_cons_zero, List.set_cons_succ]
            refine wpAnyH_takeD 6 (v := ?_) rfl rfl (by kernel_rfl) (by kernel_rfl) (by kernel_rfl) (fun _ _ _ h => h) (Or.inl ⟨by rfl, ?_⟩) hHeld ?_
            rotate_left
            focus (intro w hSw; (try dsimp only at hSw); go_simp; try with_reducible rfl)
            try simp only [List.setIfInBounds_toArray, List.set_cons_zero, List.set_cons_succ]
            refine wpAnyH_takeD 7 (v := ?_) rfl rfl (by kernel_rfl) (by kernel_rfl) (by kernel_rfl) (fun _ _ _ h => h) (Or.inl ⟨by rfl, ?_⟩) hHeld ?_
            rotate_left
            focus (intro w hSw; (try dsimp only at hSw); go_simp; try with_reducible rfl)
            try simp only [List.setIfInBounds_toArray, List.set_cons_zero, List.set_cons_succ]
            refine wpAnyH_takeD 8 (v := ?_) rfl rfl (by kernel_rfl) (by kernel_rfl) (by kernel_rfl) (fun _ _ _ h => h) (Or.inl ⟨by rfl, ?_⟩) hHeld ?_
            rotate_left
            focus (intro w hSw; (try dsimp only at hSw); go_simp; try with_reducible rfl)
            try simp only [List.setIfInBounds_toArray, List.set_cons_zero, List.set_cons_succ]
            refine wpAnyH_takeD 9 (v := ?_) rfl rfl (by kernel_rfl) (by kernel_rfl) (by kernel_rfl) (fun _ _ _ h => h) (Or.inl ⟨by rfl, ?_⟩) hHeld ?_
            rotate_left
            focus (intro w hSw; (try dsimp only at hSw); go_simp; try with_reducible rfl)
            try simp only [List.setIfInBounds_toArray, List.set_cons_zero, List.set_cons_succ]
            refine wpAnyH_ready (rs := [10]) (by kernel_rfl) (by simp) ?_
            refine AllReadyH.cons rfl (fun K hK => ?_) AllReadyH.nil
            go_simp
            refine (HK.out _).mono ?_
            rintro e w5 ⟨rfl, hb⟩
            have ST3 := Lib.hid (ST2.out.below hb)
            clear ST2 hb
            obtain ⟨d0, d1, d2, b0, b1, b2⟩ := HC.out _ ST3.out.low
            refine hK.out _ _ ⟨d0, d1, b0, b1⟩ (fun hHeld => ?_)
            clear hK K d0 d1 d2 b0 b1 b2
            refine wpAnyH_takeD 11 (v := ?_) rfl rfl (by kernel_rfl) (by kernel_rfl) (by kernel_rfl) (fun _ _ _ h => h) (Or.inl ⟨by rfl, ?_⟩) hHeld ?_
            rotate_left
            focus (intro w hSw; (try dsimp only at hSw); go_simp; try with_reducible rfl)
            try simp only [List.setIfInBounds_toArray, List.set_cons_zero, List.set_cons_succ]
            refine wpAnyH_takeD 12 (v := ?_) rfl rfl (by kernel_rfl) (by kernel_rfl) (by kernel_rfl) (fun _ _ _ h => h) (Or.inl ⟨by rfl, ?_⟩) hHeld ?_
            rotate_left
            focus (intro w hSw; (try dsimp only at hSw); go_simp; try with_reducible rfl)
            try simp only [List.setIfInBounds_toArray, List.set_cons_zero, List.set_cons_succ]
            refine wpAnyH_done (by kernel_rfl) ?_ _
            clear hHeld
            obtain ⟨d0, d1, d2, b0, b1, b2⟩ := HC.out _ ST3.out.low
            obtain ⟨v6, w6, hr6, st6⟩ := ST3.out.app Try.underlying26 26 ((ra, rl), rv) (by omega)
            have HR6 := Lib.hid hr6
            have ST6 := Lib.hid st6
            clear hr6 st6 ST3 b0 b1 b2
            go_wp2_with (at_builtin; go_loud (refine wpList_app rfl (.tmp 45) (.tmp 50) _ rfl rfl rfl HR6.out ?_))
            go_roundw
            case rel => exact ⟨_, _, _, ⟨v6, false, i + 1, L ++ [((ra, rl), rv)], rfl, rfl, by go_num, by omega, by rw [HX.out] at HI2; exact HI2, ST6⟩, rfl, rfl, rfl⟩
            case measure => simp [intOf]; omega
    · obtain rfl : i = n := by omega
      have hi' : ¬ (i : Int) < (i : Int) := by omega
      have hL := HI.out.2
      have hlen : L.length ≤ 200000 := by omega
      cases d with
      | true =>
        have HQ := Lib.hid (show PutR w (p, z) rs (.returned (.tuple #[yo, .int .i64 0])) wq from ⟨HL1.out.trans (ST.out.low.mono HS1.out), _, rfl, by
          have h1 := HI.out
          rw [← HN.out] at h1
          rw [← h1.stop]
          exact ST.out.own.down HS1.out⟩)
        clear HL1 HPB HBX HT HI
        go_wp2_with fail
        go_ret2
        exact HQ.out
      | false =>
        obtain ⟨b0, b1, b2⟩ := HPB.out _ ST.out.low
        obtain ⟨v6, w6, hr6, st6⟩ := ST.out.app Try.underlying26 26 (p, z) (by omega)
        have HR6 := Lib.hid hr6
        have HQ := Lib.hid (show PutR w (p, z) rs (.returned (.tuple #[v6, .int .i64 0])) w6 from ⟨HL1.out.trans (st6.low.mono HS1.out), _, rfl, by
          have h1 := HI.out
          rw [← HN.out] at h1
          rw [← h1.last]
          exact st6.own.down HS1.out⟩)
        clear hr6 st6 HL1 HPB HBX HT HI ST
        go_wp2_with (at_builtin; go_loud (refine wpList_app rfl (.tmp 54) (.tmp 56) _ rfl rfl rfl HR6.out ?_))
        go_ret2
        exact HQ.out
end Go.Proofs.Ytamkegnnlbefdaa
