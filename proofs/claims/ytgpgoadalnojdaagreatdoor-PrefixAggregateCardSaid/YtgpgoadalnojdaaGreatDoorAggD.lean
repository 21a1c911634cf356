/- Contract of package prefix: add. -/
import Derived.Test.YtgpgoadalnojdaaGreatDoorAggC
import Derived.Test.YtgpgoadalnojdaaGreatDoorPfxA
namespace Go.Proofs.YtgpgoadalnojdaaGreatDoor
open Go.RowKit

theorem covB_vld {p q : Px} (hp : Vld p) (hq : Vld q) : covB p.1 (p.2 : Int) q.1 (q.2 : Int) = true ↔ Cov p q := by
  unfold covB hasB
  rw [(vldB_vld (vld_lt hq)).2 hq, (vldB_vld (vld_lt hp)).2 hp]
  simp only [Bool.true_and, Bool.and_eq_true, decide_eq_true_eq, Int.toNat_natCast]
  unfold Cov
  rw [has_fst hp.2.1]
  exact and_congr (by omega) Iff.rfl
theorem AddI.start {W w1 : World} {base : Nat} {v : Value} {X : List Px} {p : Px} (hO : OwnP W base v X) (hB : PB w1 W.heap.size p.1 p.2) (hb : Below W.heap.size W w1) (hS : Stk X p) : AddI W base v X p w1 v X p :=
  ⟨hO.below hb, hB, hS, fun _ => Iff.rfl, .inr ⟨rfl, Nat.le_refl _⟩, List.Sublist.refl _, gb_of hb none, rfl⟩
theorem AddI.below {W wr wr' : World} {base : Nat} {v0 v : Value} {X0 X : List Px} {p0 q : Px} (h : AddI W base v0 X0 p0 wr v X q) (hb : Below wr.heap.size wr wr') : AddI W base v0 X0 p0 wr' v X q :=
  ⟨h.own.below hb, h.box.step hb, h.stk, h.same, h.le, h.sub, gb_below h.gb hb, h.blk⟩
theorem le_trans_ {p q r : Px} (h1 : Le p q) (h2 : Le q r) : Le p r := by unfold Le at *; omega
theorem AddI.join {W wr : World} {base : Nat} {v0 : Value} {X0 Y : List Px} {p0 q t : Px} {g cap : Nat} (h : AddI W base v0 X0 p0 wr (.slice (some ⟨g, 0, none⟩) (Y.length + 1) cap) (Y ++ [t]) q) (hs : Sib t q) (hg : g < W.heap.size) :
    AddI W base v0 X0 p0 ((wr.setCell ⟨W.heap.size, 0, none⟩ (.int .u32 (t.1 : Int))).setCell ⟨W.heap.size, 1, none⟩ (.int .i64 ((t.2 : Int) - 1))) (.slice (some ⟨g, 0, none⟩) Y.length cap) Y (t.1, t.2 - 1) := by
  obtain ⟨s1, s2, s3⟩ := stk_join h.stk hs
  have hne : ∀ k, (Value.slice (some ⟨g, 0, none⟩) Y.length cap).ownBlock = some k → k ≠ W.heap.size := by
    intro k hk
    simp only [Value.ownBlock, Option.some.injEq] at hk
    omega
  refine ⟨(h.own.pop.set_ ⟨W.heap.size, 0, none⟩ _ hne).set_ ⟨W.heap.size, 1, none⟩ _ hne, ?_, s1, fun x => (s2 x).trans (h.same x), le_trans_ s3 h.le, (List.sublist_append_left Y [t]).trans h.sub, gb_set (gb_set h.gb _ _ (Nat.le_refl _)) _ _ (Nat.le_refl _), h.blk⟩
  have hB := h.box
  have h0 := hs.2.1
  unfold PB at hB ⊢
  rw [show ((t.2 : Int) - 1) = ((t.2 - 1 : Nat) : Int) by omega]
  simp [World.setCell, Array.getElem?_modify, hB]

set_option maxRecDepth 100000 in
set_option maxHeartbeats 8000000 in
theorem add_cov {W : World} {base : Nat} {v : Value} {Y : List Px} {t p : Px} (hO : OwnP W base v (Y ++ [t])) (hX : Canon (Y ++ [t])) (hp : Vld p) (hle : ∀ x ∈ Y ++ [t], Le x p) (hc : Cov t p) :
    Calls Tryz.prog 21 #[v, pv p.1 p.2] W (AddPost W base v (Y ++ [t]) p) := by
  have ht := hX.1 t (by simp)
  have hC := Lib.hid (fun W' => covers_any t.1 t.2 p.1 p.2 W' (vld_lt ht) (vld_lt hp))
  rw [(covB_vld ht hp).2 hc] at hC
  obtain ⟨g, cap, rfl, hgb, hgl, hcap, hcm⟩ := hO.some_ (by simp)
  have hF := Lib.hid (fun (W' : World) (hb : Below W.heap.size W W') => (show AddPost W base (.slice (some ⟨g, 0, none⟩) (Y ++ [t]).length cap) (Y ++ [t]) p (.returned (.slice (some ⟨g, 0, none⟩) (Y ++ [t]).length cap)) W' from
    ⟨_, _, rfl, hO.below hb, hX, by omega, fun x => (cov_same (by simp) ht hp hc x).symm, hle, gb_of hb _, .inl rfl⟩))
  have hlen : (Y ++ [t]).length = Y.length + 1 := by simp
  rw [hlen] at hO hF ⊢
  obtain ⟨c0, c1⟩ := OwnP.top (by rw [← hlen]; rw [hlen]; exact hO)
  obtain ⟨w1, hw1, hB1, hb1⟩ := fresh_box W p.1 p.2
  have d0 : w1.cell? ⟨g, Y.length * 2, none⟩ = some (.int .u32 (t.1 : Int)) := (hb1.cell (p := ⟨g, Y.length * 2, none⟩) hgl).trans c0
  have d1 : w1.cell? ⟨g, Y.length * 2 + 1, none⟩ = some (.int .i64 (t.2 : Int)) := (hb1.cell (p := ⟨g, Y.length * 2 + 1, none⟩) hgl).trans c1
  have p0 := hB1.cell0
  have p1 := hB1.cell1
  obtain ⟨k, hk⟩ : ∃ k, Y.length = k := ⟨_, rfl⟩
  obtain ⟨a, ha⟩ : ∃ a, t.1 = a := ⟨_, rfl⟩
  obtain ⟨l, hl⟩ : ∃ l, t.2 = l := ⟨_, rfl⟩
  obtain ⟨b, hb⟩ : ∃ b, p.1 = b := ⟨_, rfl⟩
  obtain ⟨m, hm⟩ : ∃ m, p.2 = m := ⟨_, rfl⟩
  have hkm : (k : Int) + 1 ≤ 9223372036854775807 := by unfold maxLen at hcm; omega
  have hz1 : (0 : Int) < ((k + 1 : Nat) : Int) := by omega
  have hz2 : (0 : Int) < (k : Int) + 1 := by omega
  rw [hk] at d0 d1 hF ⊢
  rw [ha, hl, hb, hm] at hC
  rw [ha] at d0
  rw [hl] at d1
  rw [hb, hm] at hw1
  rw [hb] at p0
  rw [hm] at p1
  rw [hb, hm]
  have HB := Lib.hid hb1
  have hgl' := hgl
  have hW1 : W.heap.size < w1.heap.size := hB1.lt
  clear hO hX hp hle hc ht hgb hgl hcap hcm c0 c1 hB1 hb1 ha hl hb hm hk hlen
  go_enter Tryz.func21, Tryz.ntmps21
  go_wp2_with fail
  refine wp_region_held_drew (S := fun W' => W'.cell? ⟨g, k * 2, none⟩ = some (.int .u32 (a : Int)) ∧ W'.cell? ⟨g, k * 2 + 1, none⟩ = some (.int .i64 (l : Int)) ∧ W'.cell? ⟨W.heap.size, 0, none⟩ = some (.int .u32 (b : Int)) ∧ W'.cell? ⟨W.heap.size, 1, none⟩ = some (.int .i64 (m : Int))) (by kernel_rfl) ⟨d0, d1, p0, p1⟩ (fun hHeld => ?_)
  refine wpAnyH_takeD 0 (v := ?_) rfl rfl (by kernel_rfl) (by kernel_rfl) (by kernel_rfl) (fun _ _ _ h => h) (Or.inl ⟨by rfl, ?_⟩) hHeld ?_
  rotate_left
  focus (intro w hSw; (try dsimp only at hSw); go_simp; try with_reducible rfl)
  simp only [List.setIfInBounds_toArray, List.set_cons_zero, List.set_cons_succ]
  refine wpAnyH_takeD 1 (v := ?_) rfl rfl (by kernel_rfl) (by kernel_rfl) (by kernel_rfl) (fun _ _ _ h => h) (Or.inl ⟨by rfl, ?_⟩) hHeld ?_
  rotate_left
  focus (intro w hSw; (try dsimp only at hSw); go_simp; try with_reducible rfl)
  simp only [List.setIfInBounds_toArray, List.set_cons_zero, List.set_cons_succ]
  refine wpAnyH_takeD 2 (v := ?_) rfl rfl (by kernel_rfl) (by kernel_rfl) (by kernel_rfl) (fun _ _ _ h => h) (Or.inl ⟨by rfl, ?_⟩) hHeld ?_
  rotate_left
  focus (intro w hSw; (try dsimp only at hSw); go_simp; try with_reducible rfl)
  simp only [List.setIfInBounds_toArray, List.set_cons_zero, List.set_cons_succ]
  refine wpAnyH_takeD 3 (v := ?_) rfl rfl (by kernel_rfl) (by kernel_rfl) (by kernel_rfl) (fun _ _ _ h => h) (Or.inl ⟨by rfl, ?_⟩) hHeld ?_
  rotate_left
  focus (intro w hSw; (try dsimp only at hSw); go_simp; try with_reducible rfl)
  simp only [List.setIfInBounds_toArray, List.set_cons_zero, List.set_cons_succ]
  refine wpAnyH_takeD 4 (v := ?_) rfl rfl (by kernel_rfl) (by kernel_rfl) (by kernel_rfl) (fun _ _ _ h => h) (Or.inl ⟨by rfl, ?_⟩) hHeld ?_
  rotate_left
  focus (intro w hSw; (try dsimp only at hSw); go_simp; try with_reducible rfl)
  simp only [List.setIfInBounds_toArray, List.set_cons_zero, List.set_cons_succ]
  refine wpAnyH_takeD 5 (v := ?_) rfl rfl (by kernel_rfl) (by kernel_rfl) (by kernel_rfl) (fun _ _ _ h => h) (Or.inl ⟨by rfl, ?_⟩) hHeld ?_
  rotate_left
  focus (intro w hSw; (try dsimp only at hSw); go_simp; try with_reducible rfl)
  simp only [List.setIfInBounds_toArray, List.set_cons_zero, List.set_cons_succ]
  refine wpAnyH_takeD 6 (v := ?_) rfl rfl (by kernel_rfl) (by kernel_rfl) (by kernel_rfl) (fun _ _ _ h => h) (Or.inl ⟨by rfl, ?_⟩) hHeld ?_
  rotate_left
  focus (intro w hSw; (try dsimp only at hSw); go_simp; try with_reducible rfl)
  simp only [List.setIfInBounds_toArray, List.set_cons_zero, List.set_cons_succ]
  refine wpAnyH_takeD 7 (v := ?_) rfl rfl (by kernel_rfl) (by kernel_rfl) (by kernel_rfl) (fun _ _ _ h => h) (Or.inl ⟨by rfl, ?_⟩) hHeld ?_
  rotate_left
  focus (intro w hSw; (try dsimp only at hSw); go_simp; try with_reducible rfl)
  simp only [List.setIfInBounds_toArray, List.set_cons_zero, List.set_cons_succ]
  have hwk : IntKind.i64.wrap (k : Int) = (k : Int) := IntWalk.i64_in _ (by omega)
  have hk0 : (0 : Int) ≤ (k : Int) := by omega
  have hk1 : (k : Int) < (k : Int) + 1 := by omega
  refine wpAnyH_takeD 8 (v := ?_) rfl rfl (by kernel_rfl) (by kernel_rfl) (by kernel_rfl) (fun _ _ _ h => h) (Or.inl ⟨by rfl, ?_⟩) hHeld ?_
  rotate_left
  focus (intro w hSw; (try dsimp only at hSw); go_simp; try with_reducible rfl)
  simp only [List.setIfInBounds_toArray, List.set_cons_zero, List.set_cons_succ]
  refine wpAnyH_takeD 9 (v := ?_) rfl rfl (by kernel_rfl) (by kernel_rfl) (by kernel_rfl) (fun _ _ _ h => h) (Or.inl ⟨by rfl, ?_⟩) hHeld ?_
  rotate_left
  focus (intro w hSw; (try dsimp only at hSw); go_simp; try with_reducible rfl)
  simp only [List.setIfInBounds_toArray, List.set_cons_zero, List.set_cons_succ]
  refine wpAnyH_takeD 10 (v := ?_) rfl rfl (by kernel_rfl) (by kernel_rfl) (by kernel_rfl) (fun _ _ _ h => h) (Or.inl ⟨by rfl, ?_⟩) hHeld ?_
  rotate_left
  focus (intro w hSw; (try dsimp only at hSw); go_simp; try with_reducible rfl)
  simp only [List.setIfInBounds_toArray, List.set_cons_zero, List.set_cons_succ]
  refine wpAnyH_ready (rs := [11]) (by kernel_rfl) (by simp) ?_
  refine AllReadyH.cons rfl (fun K hK => ?_) AllReadyH.nil
  go_simp
  refine (hC.out _).mono ?_
  rintro e w5 ⟨rfl, hb5⟩
  refine hK.out _ _ ⟨(hb5.cell (p := ⟨g, k * 2, none⟩) (Nat.lt_of_lt_of_le hgl' HB.out.size)).trans hHeld.1, (hb5.cell (p := ⟨g, k * 2 + 1, none⟩) (Nat.lt_of_lt_of_le hgl' HB.out.size)).trans hHeld.2.1, (hb5.cell (p := ⟨W.heap.size, 0, none⟩) hW1).trans hHeld.2.2.1, (hb5.cell (p := ⟨W.heap.size, 1, none⟩) hW1).trans hHeld.2.2.2⟩ (fun hHeld => ?_)
  clear hK K
  refine wpAnyH_takeD 12 (v := ?_) rfl rfl (by kernel_rfl) (by kernel_rfl) (by kernel_rfl) (fun _ _ _ h => h) (Or.inl ⟨by rfl, ?_⟩) hHeld ?_
  rotate_left
  focus (intro w hSw; (try dsimp only at hSw); go_simp; try with_reducible rfl)
  simp only [List.setIfInBounds_toArray, List.set_cons_zero, List.set_cons_succ]
  refine wpAnyH_done (by kernel_rfl) ?_ _
  have H5 := Lib.hid (HB.out.drew.trans (hb5.mono HB.out.size))
  go_wp2_with fail
  go_ret
  exact hF.out _ H5.out


theorem pb_set2 {w : World} {b a0 a : Nat} {l0 l : Int} (h : PB w b a0 l0) : PB ((w.setCell ⟨b, 0, none⟩ (.int .u32 (a : Int))).setCell ⟨b, 1, none⟩ (.int .i64 l)) b a l := by
  unfold PB at h ⊢
  simp [World.setCell, Array.getElem?_modify, h]
theorem AddI.far {W wr : World} {base : Nat} {v0 v : Value} {X0 X : List Px} {p0 q : Px} (h : AddI W base v0 X0 p0 wr v X q) (p : Addr) (u : Value) (h1 : W.heap.size < p.block) (h2 : ∀ k, v.ownBlock = some k → k ≠ p.block) : AddI W base v0 X0 p0 (wr.setCell p u) v X q :=
  ⟨h.own.set_ p u h2, h.box.far (by omega) u, h.stk, h.same, h.le, h.sub, gb_set h.gb p u (by omega), h.blk⟩
theorem pb_frozen {w : World} {b a : Nat} {l : Int} (h : PB w b a l) (i : Nat) : w.frozen? ⟨b, i, none⟩ = false := by
  unfold PB at h
  simp [World.frozen?, h]

theorem AddI.top {W wr : World} {base : Nat} {v0 : Value} {X0 Y : List Px} {p0 q t : Px} {g cap j : Nat} (h : AddI W base v0 X0 p0 wr (.slice (some ⟨g, 0, none⟩) (j + 1) cap) (Y ++ [t]) q) (hj : Y.length = j) :
    wr.cell? ⟨g, j * 2, none⟩ = some (.int .u32 (t.1 : Int)) ∧ wr.cell? ⟨g, j * 2 + 1, none⟩ = some (.int .i64 (t.2 : Int)) := by subst hj; exact OwnP.top h.own

theorem own_ne {g n cap k bz : Nat} (h : g < bz) (hk : (Value.slice (some ⟨g, 0, none⟩) n cap).ownBlock = some k) : k ≠ bz := by
  have e7 : g = k := by simpa [Value.ownBlock] using hk
  omega
theorem AddI.join_ {W wr : World} {base : Nat} {v0 : Value} {X0 Y : List Px} {p0 q t : Px} {g cap j : Nat} (h : AddI W base v0 X0 p0 wr (.slice (some ⟨g, 0, none⟩) (j + 1) cap) (Y ++ [t]) q) (hj : Y.length = j) (hs : Sib t q) (hg : g < W.heap.size) :
    AddI W base v0 X0 p0 ((wr.setCell ⟨W.heap.size, 0, none⟩ (.int .u32 (t.1 : Int))).setCell ⟨W.heap.size, 1, none⟩ (.int .i64 ((t.2 : Int) - 1))) (.slice (some ⟨g, 0, none⟩) j cap) Y (t.1, t.2 - 1) := by subst hj; exact h.join hs hg
def lenV : Value → Nat
  | .slice _ n _ => n
  | _ => 0
set_option maxRecDepth 100000 in
set_option maxHeartbeats 8000000 in
theorem add_more {W : World} {base : Nat} {v : Value} {Z : List Px} {r p : Px} (hO : OwnP W base v (Z ++ [r])) (hX : Canon (Z ++ [r])) (hp : Vld p) (hle : ∀ x ∈ Z ++ [r], Le x p) (hc : ¬ Cov r p) (hn : (Z ++ [r]).length ≤ 1000) (hbase : base ≤ W.heap.size) :
    Calls Tryz.prog 21 #[v, pv p.1 p.2] W (AddPost W base v (Z ++ [r]) p) := by
  have ht := hX.1 r (by simp)
  have hC := Lib.hid (fun W' => covers_any r.1 r.2 p.1 p.2 W' (vld_lt ht) (vld_lt hp))
  rw [show covB r.1 (r.2 : Int) p.1 (p.2 : Int) = false from by rw [← Bool.not_eq_true]; exact fun h => hc ((covB_vld ht hp).1 h)] at hC
  have hS : Stk (Z ++ [r]) p := stk_start hX hp hle (fun Y t e => by
    obtain ⟨-, e2⟩ := List.append_inj' e rfl
    injection e2 with e2
    subst e2
    exact hc)
  have hJ := Lib.hid (fun (a n b k : Nat) W' (hv : Vld (a, n)) => join_any a n b k W' hv)
  obtain ⟨g, cap, rfl, hgb, hgl, hcap, hcm⟩ := hO.some_ (by simp)
  obtain ⟨w1, hw1, hB1, hb1⟩ := fresh_box W p.1 p.2
  have HI := Lib.hid (AddI.start hO hB1 hb1 hS)
  have HLE := Lib.hid hle
  have hlen : (Z ++ [r]).length = Z.length + 1 := by simp
  have hO' : OwnP W base (.slice (some ⟨g, 0, none⟩) (Z.length + 1) cap) (Z ++ [r]) := by rw [← hlen]; exact hO
  obtain ⟨c0, c1⟩ := OwnP.top hO'
  have d0 : w1.cell? ⟨g, Z.length * 2, none⟩ = some (.int .u32 (r.1 : Int)) := (hb1.cell (p := ⟨g, Z.length * 2, none⟩) hgl).trans c0
  have d1 : w1.cell? ⟨g, Z.length * 2 + 1, none⟩ = some (.int .i64 (r.2 : Int)) := (hb1.cell (p := ⟨g, Z.length * 2 + 1, none⟩) hgl).trans c1
  have p0 := hB1.cell0
  have p1 := hB1.cell1
  have hNX := Lib.hid hn
  obtain ⟨X0, hX0⟩ : ∃ X0, Z ++ [r] = X0 := ⟨_, rfl⟩
  rw [hX0] at HI HLE hNX hlen ⊢
  rw [hlen] at HI ⊢
  obtain ⟨k, hk⟩ : ∃ k, Z.length = k := ⟨_, rfl⟩
  have hkn : k ≤ 1000 := by rw [← hk]; simp at hn; omega
  rw [hk] at d0 d1 HI hlen ⊢
  obtain ⟨a, ha⟩ : ∃ a, r.1 = a := ⟨_, rfl⟩
  obtain ⟨l, hl⟩ : ∃ l, r.2 = l := ⟨_, rfl⟩
  rw [ha, hl] at hC
  rw [ha] at d0
  rw [hl] at d1
  have HB := Lib.hid hb1
  have hW1 : W.heap.size < w1.heap.size := hB1.lt
  have hz1 : (0 : Int) < ((k + 1 : Nat) : Int) := by omega
  have hz2 : (0 : Int) < (k : Int) + 1 := by omega
  have HBASE := Lib.hid hbase
  have HGB := Lib.hid hgb
  clear hO hO' hX hp hle hc ht hgb hcap hcm c0 c1 hB1 hb1 ha hl hk hS hX0 hn hbase
  go_enter Tryz.func21, Tryz.ntmps21
  go_wp2_with fail
  refine wp_region_held_drew (S := fun W' => W'.cell? ⟨g, k * 2, none⟩ = some (.int .u32 (a : Int)) ∧ W'.cell? ⟨g, k * 2 + 1, none⟩ = some (.int .i64 (l : Int)) ∧ W'.cell? ⟨W.heap.size, 0, none⟩ = some (.int .u32 (p.1 : Int)) ∧ W'.cell? ⟨W.heap.size, 1, none⟩ = some (.int .i64 (p.2 : Int))) (by kernel_rfl) ⟨d0, d1, p0, p1⟩ (fun hHeld => ?_)
  refine wpAnyH_takeD 0 (v := ?_) rfl rfl (by kernel_rfl) (by kernel_rfl) (by kernel_rfl) (fun _ _ _ h => h) (Or.inl ⟨by rfl, ?_⟩) hHeld ?_
  rotate_left
  focus (intro w hSw; (try dsimp only at hSw); go_simp; try with_reducible rfl)
  simp only [List.setIfInBounds_toArray, List.set_cons_zero, List.set_cons_succ]
  refine wpAnyH_takeD 1 (v := ?_) rfl rfl (by kernel_rfl) (by kernel_rfl) (by kernel_rfl) (fun _ _ _ h => h) (Or.inl ⟨by rfl, ?_⟩) hHeld ?_
  rotate_left
  focus (intro w hSw; (try dsimp only at hSw); go_simp; try with_reducible rfl)
  simp only [List.setIfInBounds_toArray, List.set_cons_zero, List.set_cons_succ]
  refine wpAnyH_takeD 2 (v := ?_) rfl rfl (by kernel_rfl) (by kernel_rfl) (by kernel_rfl) (fun _ _ _ h => h) (Or.inl ⟨by rfl, ?_⟩) hHeld ?_
  rotate_left
  focus (intro w hSw; (try dsimp only at hSw); go_simp; try with_reducible rfl)
  simp only [List.setIfInBounds_toArray, List.set_cons_zero, List.set_cons_succ]
  refine wpAnyH_takeD 3 (v := ?_) rfl rfl (by kernel_rfl) (by kernel_rfl) (by kernel_rfl) (fun _ _ _ h => h) (Or.inl ⟨by rfl, ?_⟩) hHeld ?_
  rotate_left
  focus (intro w hSw; (try dsimp only at hSw); go_simp; try with_reducible rfl)
  simp only [List.setIfInBounds_toArray, List.set_cons_zero, List.set_cons_succ]
  refine wpAnyH_takeD 4 (v := ?_) rfl rfl (by kernel_rfl) (by kernel_rfl) (by kernel_rfl) (fun _ _ _ h => h) (Or.inl ⟨by rfl, ?_⟩) hHeld ?_
  rotate_left
  focus (intro w hSw; (try dsimp only at hSw); go_simp; try with_reducible rfl)
  simp only [List.setIfInBounds_toArray, List.set_cons_zero, List.set_cons_succ]
  refine wpAnyH_takeD 5 (v := ?_) rfl rfl (by kernel_rfl) (by kernel_rfl) (by kernel_rfl) (fun _ _ _ h => h) (Or.inl ⟨by rfl, ?_⟩) hHeld ?_
  rotate_left
  focus (intro w hSw; (try dsimp only at hSw); go_simp; try with_reducible rfl)
  simp only [List.setIfInBounds_toArray, List.set_cons_zero, List.set_cons_succ]
  refine wpAnyH_takeD 6 (v := ?_) rfl rfl (by kernel_rfl) (by kernel_rfl) (by kernel_rfl) (fun _ _ _ h => h) (Or.inl ⟨by rfl, ?_⟩) hHeld ?_
  rotate_left
  focus (intro w hSw; (try dsimp only at hSw); go_simp; try with_reducible rfl)
  simp only [List.setIfInBounds_toArray, List.set_cons_zero, List.set_cons_succ]
  refine wpAnyH_takeD 7 (v := ?_) rfl rfl (by kernel_rfl) (by kernel_rfl) (by kernel_rfl) (fun _ _ _ h => h) (Or.inl ⟨by rfl, ?_⟩) hHeld ?_
  rotate_left
  focus (intro w hSw; (try dsimp only at hSw); go_simp; try with_reducible rfl)
  simp only [List.setIfInBounds_toArray, List.set_cons_zero, List.set_cons_succ]
  have hwk : IntKind.i64.wrap (k : Int) = (k : Int) := IntWalk.i64_in _ (by omega)
  have hk0 : (0 : Int) ≤ (k : Int) := by omega
  have hk1 : (k : Int) < (k : Int) + 1 := by omega
  refine wpAnyH_takeD 8 (v := ?_) rfl rfl (by kernel_rfl) (by kernel_rfl) (by kernel_rfl) (fun _ _ _ h => h) (Or.inl ⟨by rfl, ?_⟩) hHeld ?_
  rotate_left
  focus (intro w hSw; (try dsimp only at hSw); go_simp; try with_reducible rfl)
  simp only [List.setIfInBounds_toArray, List.set_cons_zero, List.set_cons_succ]
  refine wpAnyH_takeD 9 (v := ?_) rfl rfl (by kernel_rfl) (by kernel_rfl) (by kernel_rfl) (fun _ _ _ h => h) (Or.inl ⟨by rfl, ?_⟩) hHeld ?_
  rotate_left
  focus (intro w hSw; (try dsimp only at hSw); go_simp; try with_reducible rfl)
  simp only [List.setIfInBounds_toArray, List.set_cons_zero, List.set_cons_succ]
  refine wpAnyH_takeD 10 (v := ?_) rfl rfl (by kernel_rfl) (by kernel_rfl) (by kernel_rfl) (fun _ _ _ h => h) (Or.inl ⟨by rfl, ?_⟩) hHeld ?_
  rotate_left
  focus (intro w hSw; (try dsimp only at hSw); go_simp; try with_reducible rfl)
  simp only [List.setIfInBounds_toArray, List.set_cons_zero, List.set_cons_succ]
  refine wpAnyH_ready (rs := [11]) (by kernel_rfl) (by simp) ?_
  refine AllReadyH.cons rfl (fun K hK => ?_) AllReadyH.nil
  go_simp
  refine (hC.out _).mono ?_
  rintro e w5 ⟨rfl, hb5⟩
  refine hK.out _ _ ⟨(hb5.cell (p := ⟨g, k * 2, none⟩) (Nat.lt_of_lt_of_le hgl HB.out.size)).trans hHeld.1, (hb5.cell (p := ⟨g, k * 2 + 1, none⟩) (Nat.lt_of_lt_of_le hgl HB.out.size)).trans hHeld.2.1, (hb5.cell (p := ⟨W.heap.size, 0, none⟩) hW1).trans hHeld.2.2.1, (hb5.cell (p := ⟨W.heap.size, 1, none⟩) hW1).trans hHeld.2.2.2⟩ (fun hHeld => ?_)
  clear hK K
  refine wpAnyH_takeD 12 (v := ?_) rfl rfl (by kernel_rfl) (by kernel_rfl) (by kernel_rfl) (fun _ _ _ h => h) (Or.inl ⟨by rfl, ?_⟩) hHeld ?_
  rotate_left
  focus (intro w hSw; (try dsimp only at hSw); go_simp; try with_reducible rfl)
  simp only [List.setIfInBounds_toArray, List.set_cons_zero, List.set_cons_succ]
  refine wpAnyH_done (by kernel_rfl) ?_ _
  have HI5 := Lib.hid (HI.out.below ((Below.refl _ w1).drew.trans hb5))
  clear HI hb5 hHeld p0 p1 d0 d1 hw1 HB hC
  go_wp2_with fail
  go_loopw [0] (fun v wr => ∃ X q, Hid (AddI W base (.slice (some ⟨g, 0, none⟩) (k + 1) cap) X0 p wr v X q)) (fun v _ => lenV v)
  case atStart => exact ⟨_, _, HI5⟩
  case round =>
    clear HI5 hwk hk0 hk1 hz1 hz2 hW1
    obtain ⟨wq, rfl⟩ : ∃ x, x = wr := ⟨_, rfl⟩
    obtain ⟨X, q, HI⟩ := hrel
    obtain ⟨A, cap', rfl, hcm', hA⟩ := HI.out.own.form
    rcases List.eq_nil_or_concat X with rfl | ⟨Y, t, rfl⟩
    · have H8 := HI
      simp only [List.length_nil] at H8 ⊢
      have q0 := H8.out.box.cell0
      have q1 := H8.out.box.cell1
      have HX := Lib.hid (H8.out.own.alloc (.cells #[.int .u32 (q.1 : Int), .int .i64 (q.2 : Int)] 32))
      have hbx := heap_alloc_new wq (.cells #[.int .u32 (q.1 : Int), .int .i64 (q.2 : Int)] 32)
      have hnews : Hid (∀ (i : Nat) u, (encP q)[i]? = some u → (wq.alloc (.cells #[.int .u32 (q.1 : Int), .int .i64 (q.2 : Int)] 32)).cell? (Addr.add ⟨wq.heap.size, 0, none⟩ i) = some u) := by
        intro i u hu
        rw [row_at, cell_of_row _ _ i _ _ (0, 0) hbx]
        simpa [encP] using hu
      obtain ⟨i0, hi, hz0, hz9, hz8⟩ := info_parts infoPx
      have hcs : (pv 0 0).cells.size = 2 := by first | rfl | decide | kernel_rfl
      have HD := Lib.hid (fun v' w2 h1 h2 h3 => H8.out.done (w2 := w2) (v' := v') HLE.out (fun Y' t' e' => by simp at e') (.cells #[.int .u32 (q.1 : Int), .int .i64 (q.2 : Int)] 32) h1 h2 h3 w2 rfl)
      have hbse : base ≤ (wq.alloc (.cells #[.int .u32 (q.1 : Int), .int .i64 (q.2 : Int)] 32)).heap.size := by
        have h1 := H8.out.gb.size
        have h2 := HBASE.out
        simp
        omega
      clear hbx H8 HI hA
      go_wp2_with (at_builtin; go_loud (refine wpList_append_own_at _ rfl (.tmp 43) (.tmp 45) _ rfl base 32 i0 _ 2 16 Tryz.underlying22 hi hz0 hz9 hz8 hcs (by decide) (.slice A 0 cap') 0 (fl []) rfl HX.out ⟨wq.heap.size, 0, none⟩ 1 1 (encP q) rfl rfl hnews.out (encP_one q) (by unfold maxLen; omega) (by omega) hbse ?_; intro v' w2 hown2 hg2 hnil hb2; have HF := Lib.hid (HD.out _ _ hown2 hg2 hb2); clear hown2 hg2 hnil hb2))
      go_ret
      exact HF.out
    · rw [List.concat_eq_append] at HI ⊢
      have hyn : Y.length ≤ 1000 := by have h1 := HI.out.sub.length_le; simp at h1; omega
      obtain ⟨g', cap2, e2, hgb2, hgl2, hcap2, hcm2⟩ := HI.out.own.some_ (by simp)
      rw [e2] at HI ⊢
      have hlen2 : (Y ++ [t]).length = Y.length + 1 := by simp
      rw [hlen2] at HI hcap2 ⊢
      obtain ⟨c0, c1⟩ := OwnP.top HI.out.own
      have p0 := HI.out.box.cell0
      have p1 := HI.out.box.cell1
      have hWW : W.heap.size < wq.heap.size := HI.out.box.lt
      have hJ2 := Lib.hid (fun W' => hJ.out t.1 t.2 q.1 q.2 W' (HI.out.stk.canon.1 t (by simp)))
      obtain ⟨a', l', ok, hv, hok⟩ : ∃ (a' : Nat) (l' : Int) (ok : Bool), (if Sib (t.1, t.2) (q.1, q.2) then Value.tuple #[pv t.1 ((t.2 : Int) - 1), .bool true] else .tuple #[pv 0 0, .bool false]) = .tuple #[pv a' l', .bool ok] ∧ ((ok = true ∧ Sib t q ∧ a' = t.1 ∧ l' = (t.2 : Int) - 1) ∨ (ok = false ∧ ¬ Sib t q)) := by
        by_cases hs : Sib (t.1, t.2) (q.1, q.2)
        · rw [if_pos hs]; exact ⟨_, _, _, rfl, .inl ⟨rfl, hs, rfl, rfl⟩⟩
        · rw [if_neg hs]; exact ⟨0, 0, false, rfl, .inr ⟨rfl, hs⟩⟩
      rw [hv] at hJ2
      have HOK := Lib.hid hok
      obtain ⟨j, hj⟩ : ∃ j, Y.length = j := ⟨_, rfl⟩
      rw [hj] at c0 c1 HI hyn hcap2 ⊢
      have hjk := Lib.hid hj
      have hcpj : (j : Int) ≤ (cap2 : Int) := by omega
      have hcpk : j ≤ cap2 := by omega
      clear hv hok hj hlen2 e2 hA hcm' hcap2
      have hz1 : (0 : Int) < ((j + 1 : Nat) : Int) := by omega
      have hz2 : (0 : Int) < (j : Int) + 1 := by omega
      have hwk : IntKind.i64.wrap (j : Int) = (j : Int) := IntWalk.i64_in _ (by omega)
      have hk0 : (0 : Int) ≤ (j : Int) := by omega
      have hk1 : (j : Int) < (j : Int) + 1 := by omega
      go_wp2_with fail
      refine wp_region_held_drew (S := fun W' => W'.cell? ⟨g', j * 2, none⟩ = some (.int .u32 (t.1 : Int)) ∧ W'.cell? ⟨g', j * 2 + 1, none⟩ = some (.int .i64 (t.2 : Int)) ∧ W'.cell? ⟨W.heap.size, 0, none⟩ = some (.int .u32 (q.1 : Int)) ∧ W'.cell? ⟨W.heap.size, 1, none⟩ = some (.int .i64 (q.2 : Int))) (by kernel_rfl) ⟨c0, c1, p0, p1⟩ (fun hHeld => ?_)
      obtain ⟨wd, hwd⟩ : ∃ wd, wq.drew = wd := ⟨_, rfl⟩
      have H0 := Lib.hid (HI.out.below (Below.refl _ wq).drew)
      have HWD := Lib.hid (show g' < wd.heap.size ∧ W.heap.size < wd.heap.size by rw [← hwd]; exact ⟨hgl2, hWW⟩)
      rw [hwd] at hHeld H0 ⊢
      clear hwd HI c0 c1 p0 p1 hgl2 hWW
      refine wpAnyH_takeD 0 (v := ?_) rfl rfl (by kernel_rfl) (by kernel_rfl) (by kernel_rfl) (fun _ _ _ h => h) (Or.inl ⟨by rfl, ?_⟩) hHeld ?_
      rotate_left
      focus (intro w hSw; (try dsimp only at hSw); go_simp; try with_reducible rfl)
      simp only [List.setIfInBounds_toArray, List.set_cons_zero, List.set_cons_succ]
      refine wpAnyH_takeD 1 (v := ?_) rfl rfl (by kernel_rfl) (by kernel_rfl) (by kernel_rfl) (fun _ _ _ h => h) (Or.inl ⟨by rfl, ?_⟩) hHeld ?_
      rotate_left
      focus (intro w hSw; (try dsimp only at hSw); go_simp; try with_reducible rfl)
      simp only [List.setIfInBounds_toArray, List.set_cons_zero, List.set_cons_succ]
      refine wpAnyH_takeD 2 (v := ?_) rfl rfl (by kernel_rfl) (by kernel_rfl) (by kernel_rfl) (fun _ _ _ h => h) (Or.inl ⟨by rfl, ?_⟩) hHeld ?_
      rotate_left
      focus (intro w hSw; (try dsimp only at hSw); go_simp; try with_reducible rfl)
      simp only [List.setIfInBounds_toArray, List.set_cons_zero, List.set_cons_succ]
      refine wpAnyH_takeD 3 (v := ?_) rfl rfl (by kernel_rfl) (by kernel_rfl) (by kernel_rfl) (fun _ _ _ h => h) (Or.inl ⟨by rfl, ?_⟩) hHeld ?_
      rotate_left
      focus (intro w hSw; (try dsimp only at hSw); go_simp; try with_reducible rfl)
      simp only [List.setIfInBounds_toArray, List.set_cons_zero, List.set_cons_succ]
      refine wpAnyH_takeD 4 (v := ?_) rfl rfl (by kernel_rfl) (by kernel_rfl) (by kernel_rfl) (fun _ _ _ h => h) (Or.inl ⟨by rfl, ?_⟩) hHeld ?_
      rotate_left
      focus (intro w hSw; (try dsimp only at hSw); go_simp; try with_reducible rfl)
      simp only [List.setIfInBounds_toArray, List.set_cons_zero, List.set_cons_succ]
      refine wpAnyH_takeD 5 (v := ?_) rfl rfl (by kernel_rfl) (by kernel_rfl) (by kernel_rfl) (fun _ _ _ h => h) (Or.inl ⟨by rfl, ?_⟩) hHeld ?_
      rotate_left
      focus (intro w hSw; (try dsimp only at hSw); go_simp; try with_reducible rfl)
      simp only [List.setIfInBounds_toArray, List.set_cons_zero, List.set_cons_succ]
      refine wpAnyH_takeD 6 (v := ?_) rfl rfl (by kernel_rfl) (by kernel_rfl) (by kernel_rfl) (fun _ _ _ h => h) (Or.inl ⟨by rfl, ?_⟩) hHeld ?_
      rotate_left
      focus (intro w hSw; (try dsimp only at hSw); go_simp; try with_reducible rfl)
      simp only [List.setIfInBounds_toArray, List.set_cons_zero, List.set_cons_succ]
      refine wpAnyH_ready (rs := [7, 11]) (by kernel_rfl) (by simp) ?_
      refine AllReadyH.cons rfl (fun K hK => ?_) (AllReadyH.cons rfl (fun K hK => ?_) AllReadyH.nil)
      · go_simp
        refine (hJ2.out _).mono ?_
        rintro e w6 ⟨rfl, hb6⟩
        have H6 := Lib.hid (H0.out.below hb6)
        refine hK.out _ _ ⟨(H6.out.top hjk.out).1, (H6.out.top hjk.out).2, H6.out.box.cell0, H6.out.box.cell1⟩ (fun hHeld => ?_)
        clear hK K
        refine wpAnyH_takeD 8 (v := ?_) rfl rfl (by kernel_rfl) (by kernel_rfl) (by kernel_rfl) (fun _ _ _ h => h) (Or.inl ⟨by rfl, ?_⟩) hHeld ?_
        rotate_left
        focus (intro w hSw; (try dsimp only at hSw); go_simp; try with_reducible rfl)
        simp only [List.setIfInBounds_toArray, List.set_cons_zero, List.set_cons_succ]
        refine wpAnyH_takeD 9 (v := ?_) rfl rfl (by kernel_rfl) (by kernel_rfl) (by kernel_rfl) (fun _ _ _ h => h) (Or.inl ⟨by rfl, ?_⟩) hHeld ?_
        rotate_left
        focus (intro w hSw; (try dsimp only at hSw); go_simp; try with_reducible rfl)
        simp only [List.setIfInBounds_toArray, List.set_cons_zero, List.set_cons_succ]
        refine wpAnyH_takeD 10 (v := ?_) rfl rfl (by kernel_rfl) (by kernel_rfl) (by kernel_rfl) (fun _ _ _ h => h) (Or.inl ⟨by rfl, ?_⟩) hHeld ?_
        rotate_left
        focus (intro w hSw; (try dsimp only at hSw); go_simp; try with_reducible rfl)
        simp only [List.setIfInBounds_toArray, List.set_cons_zero, List.set_cons_succ]
        refine wpAnyH_ready (rs := [11]) (by kernel_rfl) (by simp) ?_
        refine AllReadyH.cons rfl (fun K hK => ?_) AllReadyH.nil
        go_simp
        obtain ⟨bz, hbz⟩ : ∃ b, w6.heap.size = b := ⟨_, rfl⟩
        obtain ⟨w7, hw7⟩ : ∃ w7, w6.alloc (.cells #[.int .u32 0, .int .i64 0] 32) = w7 := ⟨_, rfl⟩
        have hZ : PB w7 bz 0 0 := by rw [← hw7, ← hbz]; exact PB.new w6 0 0
        have H7 := Lib.hid (H6.out.below ((Below.refl _ w6).alloc (Nat.le_refl _) (.cells #[.int .u32 0, .int .i64 0] 32)))
        have hgz := Lib.hid (show g' < bz ∧ W.heap.size < bz by have h9 := hb6.size; have e9 := HWD.out; omega)
        rw [hw7] at H7 ⊢
        refine hK.out _ _ ⟨(H7.out.top hjk.out).1, (H7.out.top hjk.out).2, H7.out.box.cell0, H7.out.box.cell1⟩ (fun hHeld => ?_)
        clear hK K
        have hz0' := hZ.cell0
        have hz1' := hZ.cell1
        have hf0 := pb_frozen hZ 0
        have hf1 := pb_frozen hZ 1
        refine wpAnyH_ready (rs := [12]) (by kernel_rfl) (by simp) ?_
        refine AllReadyH.cons rfl (fun K hK => ?_) AllReadyH.nil
        go_simp
        have H8 := Lib.hid ((H7.out.far ⟨bz, 0, none⟩ (.int .u32 (a' : Int)) hgz.out.2 (fun k hk => own_ne hgz.out.1 hk)).far ⟨bz, 1, none⟩ (.int .i64 l') hgz.out.2 (fun k hk => own_ne hgz.out.1 hk))
        have P8 := Lib.hid (pb_set2 (a := a') (l := l') hZ)
        obtain ⟨Wz, hWz⟩ : ∃ Wz, (w7.setCell ⟨bz, 0, none⟩ (.int .u32 (a' : Int))).setCell ⟨bz, 1, none⟩ (.int .i64 l') = Wz := ⟨_, rfl⟩
        rw [hWz] at H8 P8 ⊢
        refine hK.out _ _ ⟨(H8.out.top hjk.out).1, (H8.out.top hjk.out).2, H8.out.box.cell0, H8.out.box.cell1⟩ (fun hHeld => ?_)
        clear hK K
        refine wpAnyH_takeD 13 (v := ?_) rfl rfl (by kernel_rfl) (by kernel_rfl) (by kernel_rfl) (fun _ _ _ h => h) (Or.inl ⟨by rfl, ?_⟩) hHeld ?_
        rotate_left
        focus (intro w hSw; (try dsimp only at hSw); go_simp; try with_reducible rfl)
        simp only [List.setIfInBounds_toArray, List.set_cons_zero, List.set_cons_succ]
        refine wpAnyH_done (by kernel_rfl) ?_ _
        clear hZ hz0' hz1' hf0 hf1 hgz H6 H7 H0 hb6 hw7 hbz hHeld hWz
        have y0 := P8.out.cell0
        have y1 := P8.out.cell1
        have q0 := H8.out.box.cell0
        have q1 := H8.out.box.cell1
        have hgg : g' = g := by have := H8.out.blk; injection this
        subst hgg
        have hjc := Lib.hid hcm2
        obtain ⟨hok, hs, ha', hl'⟩ | ⟨hok, hns⟩ := HOK.out
        · subst hok
          have f0 := pb_frozen H8.out.box 0
          have f1 := pb_frozen H8.out.box 1
          clear hHeld
          go_wp2_with fail
          go_region
          have HJN := Lib.hid ((H8.out.join_ hjk.out hs hgl).below (Below.refl _ _).drew)
          go_wp2_with fail
          go_roundw
          case rel => exact ⟨Y, (t.1, t.2 - 1), HJN⟩
          case measure => simp [lenV]
        · subst hok
          have HX := Lib.hid (H8.out.own.alloc (.cells #[.int .u32 (q.1 : Int), .int .i64 (q.2 : Int)] 32))
          have hbx := heap_alloc_new Wz (.cells #[.int .u32 (q.1 : Int), .int .i64 (q.2 : Int)] 32)
          have hnews : Hid (∀ (i : Nat) u, (encP q)[i]? = some u → (Wz.alloc (.cells #[.int .u32 (q.1 : Int), .int .i64 (q.2 : Int)] 32)).cell? (Addr.add ⟨Wz.heap.size, 0, none⟩ i) = some u) := by
            intro i u hu
            rw [row_at, cell_of_row _ _ i _ _ (0, 0) hbx]
            simpa [encP] using hu
          obtain ⟨i0, hi, hz0, hz9, hz8⟩ := info_parts infoPx
          have hcs : (pv 0 0).cells.size = 2 := by first | rfl | decide | kernel_rfl
          have HD := Lib.hid (fun v' w2 h1 h2 h3 => H8.out.done (w2 := w2) (v' := v') HLE.out (fun Y' t' e' => by
            obtain ⟨-, e2⟩ := List.append_inj' e' rfl
            injection e2 with e2
            subst e2
            exact hns) (.cells #[.int .u32 (q.1 : Int), .int .i64 (q.2 : Int)] 32) h1 h2 h3 w2 rfl)
          have hYl : (Y ++ [t]).length = j + 1 := by have := hjk.out; simp; omega
          rw [hYl] at HX HD
          have hbse : base ≤ (Wz.alloc (.cells #[.int .u32 (q.1 : Int), .int .i64 (q.2 : Int)] 32)).heap.size := by
            have h1 := HX.out.lt g' rfl
            omega
          clear hHeld y0 y1 hbx P8 H8
          go_wp2_with (at_builtin; go_loud (refine wpList_append_own_at _ rfl (.tmp 43) (.tmp 45) _ rfl base 32 i0 _ 2 16 Tryz.underlying22 hi hz0 hz9 hz8 hcs (by decide) (.slice (some ⟨g', 0, none⟩) (j + 1) cap2) (j + 1) (fl (Y ++ [t])) rfl HX.out ⟨Wz.heap.size, 0, none⟩ 1 1 (encP q) rfl rfl hnews.out (encP_one q) (by unfold maxLen; omega) (by omega) hbse ?_; intro v' w2 hown2 hg2 hnil hb2; have HF := Lib.hid (HD.out _ _ hown2 hg2 hb2); clear hown2 hg2 hnil hb2))
          go_ret
          exact HF.out
      · go_simp
        have H6 := H0
        obtain ⟨bz, hbz⟩ : ∃ b, wd.heap.size = b := ⟨_, rfl⟩
        obtain ⟨w7, hw7⟩ : ∃ w7, wd.alloc (.cells #[.int .u32 0, .int .i64 0] 32) = w7 := ⟨_, rfl⟩
        have hZ : PB w7 bz 0 0 := by rw [← hw7, ← hbz]; exact PB.new wd 0 0
        have H7 := Lib.hid (H6.out.below ((Below.refl _ wd).alloc (Nat.le_refl _) (.cells #[.int .u32 0, .int .i64 0] 32)))
        have hgz := Lib.hid (show g' < bz ∧ W.heap.size < bz by have e9 := HWD.out; omega)
        rw [hw7] at H7 ⊢
        refine hK.out _ _ ⟨(H7.out.top hjk.out).1, (H7.out.top hjk.out).2, H7.out.box.cell0, H7.out.box.cell1⟩ (fun hHeld => ?_)
        clear hK K
        refine wpAnyH_ready (rs := [7]) (by kernel_rfl) (by simp) ?_
        refine AllReadyH.cons rfl (fun K hK => ?_) AllReadyH.nil
        go_simp
        refine (hJ2.out _).mono ?_
        rintro e w9 ⟨rfl, hb9⟩
        have H9 := Lib.hid (H7.out.below hb9)
        replace hZ := hZ.step hb9
        refine hK.out _ _ ⟨(H9.out.top hjk.out).1, (H9.out.top hjk.out).2, H9.out.box.cell0, H9.out.box.cell1⟩ (fun hHeld => ?_)
        clear hK K
        refine wpAnyH_takeD 8 (v := ?_) rfl rfl (by kernel_rfl) (by kernel_rfl) (by kernel_rfl) (fun _ _ _ h => h) (Or.inl ⟨by rfl, ?_⟩) hHeld ?_
        rotate_left
        focus (intro w hSw; (try dsimp only at hSw); go_simp; try with_reducible rfl)
        simp only [List.setIfInBounds_toArray, List.set_cons_zero, List.set_cons_succ]
        refine wpAnyH_takeD 9 (v := ?_) rfl rfl (by kernel_rfl) (by kernel_rfl) (by kernel_rfl) (fun _ _ _ h => h) (Or.inl ⟨by rfl, ?_⟩) hHeld ?_
        rotate_left
        focus (intro w hSw; (try dsimp only at hSw); go_simp; try with_reducible rfl)
        simp only [List.setIfInBounds_toArray, List.set_cons_zero, List.set_cons_succ]
        refine wpAnyH_takeD 10 (v := ?_) rfl rfl (by kernel_rfl) (by kernel_rfl) (by kernel_rfl) (fun _ _ _ h => h) (Or.inl ⟨by rfl, ?_⟩) hHeld ?_
        rotate_left
        focus (intro w hSw; (try dsimp only at hSw); go_simp; try with_reducible rfl)
        simp only [List.setIfInBounds_toArray, List.set_cons_zero, List.set_cons_succ]
        have hz0' := hZ.cell0
        have hz1' := hZ.cell1
        have hf0 := pb_frozen hZ 0
        have hf1 := pb_frozen hZ 1
        refine wpAnyH_ready (rs := [12]) (by kernel_rfl) (by simp) ?_
        refine AllReadyH.cons rfl (fun K hK => ?_) AllReadyH.nil
        go_simp
        have H8 := Lib.hid ((H9.out.far ⟨bz, 0, none⟩ (.int .u32 (a' : Int)) hgz.out.2 (fun k hk => own_ne hgz.out.1 hk)).far ⟨bz, 1, none⟩ (.int .i64 l') hgz.out.2 (fun k hk => own_ne hgz.out.1 hk))
        have P8 := Lib.hid (pb_set2 (a := a') (l := l') hZ)
        obtain ⟨Wz, hWz⟩ : ∃ Wz, (w9.setCell ⟨bz, 0, none⟩ (.int .u32 (a' : Int))).setCell ⟨bz, 1, none⟩ (.int .i64 l') = Wz := ⟨_, rfl⟩
        rw [hWz] at H8 P8 ⊢
        refine hK.out _ _ ⟨(H8.out.top hjk.out).1, (H8.out.top hjk.out).2, H8.out.box.cell0, H8.out.box.cell1⟩ (fun hHeld => ?_)
        clear hK K
        refine wpAnyH_takeD 13 (v := ?_) rfl rfl (by kernel_rfl) (by kernel_rfl) (by kernel_rfl) (fun _ _ _ h => h) (Or.inl ⟨by rfl, ?_⟩) hHeld ?_
        rotate_left
        focus (intro w hSw; (try dsimp only at hSw); go_simp; try with_reducible rfl)
        simp only [List.setIfInBounds_toArray, List.set_cons_zero, List.set_cons_succ]
        refine wpAnyH_done (by kernel_rfl) ?_ _
        clear hZ hz0' hz1' hf0 hf1 hgz H6 H7 H9 H0 hb9 hw7 hbz hHeld hWz
        have y0 := P8.out.cell0
        have y1 := P8.out.cell1
        have q0 := H8.out.box.cell0
        have q1 := H8.out.box.cell1
        have hgg : g' = g := by have := H8.out.blk; injection this
        subst hgg
        have hjc := Lib.hid hcm2
        obtain ⟨hok, hs, ha', hl'⟩ | ⟨hok, hns⟩ := HOK.out
        · subst hok
          have f0 := pb_frozen H8.out.box 0
          have f1 := pb_frozen H8.out.box 1
          clear hHeld
          go_wp2_with fail
          go_region
          have HJN := Lib.hid ((H8.out.join_ hjk.out hs hgl).below (Below.refl _ _).drew)
          go_wp2_with fail
          go_roundw
          case rel => exact ⟨Y, (t.1, t.2 - 1), HJN⟩
          case measure => simp [lenV]
        · subst hok
          have HX := Lib.hid (H8.out.own.alloc (.cells #[.int .u32 (q.1 : Int), .int .i64 (q.2 : Int)] 32))
          have hbx := heap_alloc_new Wz (.cells #[.int .u32 (q.1 : Int), .int .i64 (q.2 : Int)] 32)
          have hnews : Hid (∀ (i : Nat) u, (encP q)[i]? = some u → (Wz.alloc (.cells #[.int .u32 (q.1 : Int), .int .i64 (q.2 : Int)] 32)).cell? (Addr.add ⟨Wz.heap.size, 0, none⟩ i) = some u) := by
            intro i u hu
            rw [row_at, cell_of_row _ _ i _ _ (0, 0) hbx]
            simpa [encP] using hu
          obtain ⟨i0, hi, hz0, hz9, hz8⟩ := info_parts infoPx
          have hcs : (pv 0 0).cells.size = 2 := by first | rfl | decide | kernel_rfl
          have HD := Lib.hid (fun v' w2 h1 h2 h3 => H8.out.done (w2 := w2) (v' := v') HLE.out (fun Y' t' e' => by
            obtain ⟨-, e2⟩ := List.append_inj' e' rfl
            injection e2 with e2
            subst e2
            exact hns) (.cells #[.int .u32 (q.1 : Int), .int .i64 (q.2 : Int)] 32) h1 h2 h3 w2 rfl)
          have hYl : (Y ++ [t]).length = j + 1 := by have := hjk.out; simp; omega
          rw [hYl] at HX HD
          have hbse : base ≤ (Wz.alloc (.cells #[.int .u32 (q.1 : Int), .int .i64 (q.2 : Int)] 32)).heap.size := by
            have h1 := HX.out.lt g' rfl
            omega
          clear hHeld y0 y1 hbx P8 H8
          go_wp2_with (at_builtin; go_loud (refine wpList_append_own_at _ rfl (.tmp 43) (.tmp 45) _ rfl base 32 i0 _ 2 16 Tryz.underlying22 hi hz0 hz9 hz8 hcs (by decide) (.slice (some ⟨g', 0, none⟩) (j + 1) cap2) (j + 1) (fl (Y ++ [t])) rfl HX.out ⟨Wz.heap.size, 0, none⟩ 1 1 (encP q) rfl rfl hnews.out (encP_one q) (by unfold maxLen; omega) (by omega) hbse ?_; intro v' w2 hown2 hg2 hnil hb2; have HF := Lib.hid (HD.out _ _ hown2 hg2 hb2); clear hown2 hg2 hnil hb2))
          go_ret
          exact HF.out
end Go.Proofs.YtgpgoadalnojdaaGreatDoor
