/- The law PrefixAggregate. -/
import Derived.Test.YtgpgoadalnojdaaGreatDoorAggP
namespace Go.Proofs.YtgpgoadalnojdaaGreatDoor
open Go.RowKit

set_option maxRecDepth 100000 in
set_option maxHeartbeats 16000000 in
theorem lawAgg_many {w : World} {A : Option Addr} {n c : Nat} (hV : Vars w) (hn : ¬ n ≤ 30) :
    Calls Tryz.prog 3 #[.slice A n c] w fun e w' => e = .returned (.bool true) ∧ Below w.heap.size w w' := by
  have hAw := Lib.hid (fun (W : World) (hW : Below w.heap.size w W) => awake_any W (hV.below hW))
  have hFw := Lib.hid (few_any A n c)
  rw [decide_eq_false hn] at hFw
  clear hV hn
  go_enter Tryz.func3, Tryz.ntmps3
  go_wp2_with fail
  refine (hAw.out _ (Below.refl _ _)).mono ?_
  rintro e w1 ⟨rfl, hb1⟩
  have H1 := Lib.hid hb1
  clear hb1
  go_wp2_with fail
  refine (hFw.out _).mono ?_
  rintro e w2 ⟨rfl, rfl⟩
  go_wp2_with fail
  refine (hAw.out _ H1.out).mono ?_
  rintro e w3 ⟨rfl, hb3⟩
  have H3 := Lib.hid (H1.out.trans (hb3.mono H1.out.size))
  clear hb3
  go_wp2_with fail
  go_ret
  exact ⟨rfl, H3.out⟩

theorem own_or (v : Value) : v.ownBlock = none ∨ v.ownBlock ≠ none := by
  cases v.ownBlock with
  | none => exact .inl rfl
  | some k => exact .inr (by simp)
theorem px_own {w : World} {a : Addr} {n : Nat} {xs : Nat → Nat × Int} (h : PxL w (some a) n xs) : ∀ (j : Nat) u, (flr n xs)[j]? = some u → w.cell? (a.add j) = some u := fun j u hu => by
  have h9 := px_cells h (f := 0) (m := n) (by omega) j u (by simpa using hu)
  rw [Nat.zero_mul, add_nought] at h9
  exact h9
set_option maxRecDepth 100000 in
set_option maxHeartbeats 32000000 in
theorem lawAgg_few {w : World} {A : Option Addr} {n c : Nat} {xs : Nat → Nat × Int} (hL : PxL w A n xs) (hV : Vars w) (hn : n ≤ 30) (hnc : n ≤ c) (hc0 : A = none → c = 0) :
    Calls Tryz.prog 3 #[.slice A n c] w fun e w' => e = .returned (.bool true) ∧ Below w.heap.size w w' := by
  have hAw := Lib.hid (fun (W : World) (hW : Below w.heap.size w W) => awake_any W (hV.below hW))
  have hFw := Lib.hid (few_any A n c)
  rw [decide_eq_true hn] at hFw
  have HL := Lib.hid hL
  have hRA := Lib.hid (fun (W : World) (hW : Below w.heap.size w W) (R : List Px) hR => ragg_any (c := c) (R := R) (hL.below hW) (by omega) hR)
  have HXS : Hid (∀ i, i < n → (xs i).1 < 4294967296) := Lib.hid (fun i hi => (hL i hi).elim fun b h => h.elim fun off h => h.2.2.2.2)
  clear hV hL
  go_enter Tryz.func3, Tryz.ntmps3
  go_wp2_with fail
  refine (hAw.out _ (Below.refl _ _)).mono ?_
  rintro e w1 ⟨rfl, hb1⟩
  have H1 := Lib.hid hb1
  clear hb1
  go_wp2_with fail
  refine (hFw.out _).mono ?_
  rintro e w2 ⟨rfl, rfl⟩
  clear hFw hAw
  have hT := Tryz.underlying22
  obtain ⟨i0, hi, hz0, hz9, hz8⟩ := info_parts infoPx
  have hcs : (pv 0 0).cells.size = 2 := by first | rfl | decide | kernel_rfl
  obtain ⟨wa, hwa⟩ : ∃ wa, w2.alloc (.cells #[] 32) = wa := ⟨_, rfl⟩
  have HA0 := Lib.hid (show wa.ownsRow w2.heap.size 32 2 (.slice (some ⟨w2.heap.size, 0, none⟩) 0 0) 0 [] by rw [← hwa]; exact World.ownsRow_made w2 #[] 0 (Nat.le_refl _) (Nat.zero_le _) (by simp))
  have HB0 := Lib.hid (show Below w.heap.size w wa by rw [← hwa]; exact H1.out.alloc H1.out.size _)
  have HS0 := Lib.hid (show w2.heap.size ≤ wa.heap.size by rw [← hwa]; simp)
  have HW2 := Lib.hid H1.out.size
  clear H1
  cases A with
  | none =>
    obtain rfl : c = 0 := hc0 rfl
    obtain rfl : n = 0 := by omega
    go_wp2_with (at_builtin; go_loud (refine wpList_append_own_none rfl (.tmp 16) (.tmp 17) _ rfl w2.heap.size 32 i0 2 hT hi (.slice (some ⟨w2.heap.size, 0, none⟩) 0 0) 0 [] rfl HA0.out rfl ?_))
    obtain ⟨wb, hwb⟩ : ∃ wb, wa = wb := ⟨_, rfl⟩
    have HR : Hid (OwnR wb w.heap.size (.slice (some ⟨w2.heap.size, 0, none⟩) 0 0) 0 xs) := Lib.hid (by
      rw [← hwb]
      have h9 := HA0.out
      rcases h9.2 with ⟨h8, -⟩ | ⟨g, cap, cur, h8, hg, r⟩
      · cases h8
      · exact ⟨rfl, .inr ⟨g, cap, cur, h8, Nat.le_trans HW2.out hg, r⟩⟩)
    have HB := Lib.hid (show Below w.heap.size w wb by rw [← hwb]; exact HB0.out)
    subst hwb
    obtain ⟨A4, c4, e4, hpx⟩ := OwnR.px HR.out HXS.out
    obtain ⟨rfl, rfl⟩ : some ⟨w2.heap.size, 0, none⟩ = A4 ∧ 0 = c4 := by injection e4 with e5 _ e6; exact ⟨e5, e6⟩
    have HP4 := Lib.hid hpx
    have hAg := Lib.hid (agg_v (c := 0) hpx (by omega))
    clear hpx HA0 HS0 HB0 hi hz0 hz9 hz8 hcs hT hwa
    refine hAg.out.mono ?_
    rintro e w5 ⟨v2, X, e1, rfl, hU⟩
    have H5 := Lib.hid (And.intro (HB.out.trans (hU.below.mono HB.out.size)) (And.intro (HR.out.kept (gb_of hU.below none) (own_or _)) (OwnP.base hU.own HB.out.size)))
    have HU := Lib.hid (And.intro hU.canon (And.intro hU.len hU.what))
    have HP5 := Lib.hid (HP4.out.below hU.below)
    clear hU hAg HB HR HP4
    go_wp2_with fail
    refine (hRA.out w5 H5.out.1 X (fun hv => by
      rcases HU.out.2.2 with ⟨h5, h6, h7⟩ | ⟨h5, -⟩
      · exact agg_same HU.out.1 (pl_vld HL.out hv) h7
      · exact absurd hv h5)).mono ?_
    rintro e w6 hra
    have hres : ∃ v3, e = .returned (.tuple #[v3, .int .i64 e1]) ∧ OwnP w6 w.heap.size v3 X ∧ Below w5.heap.size w5 w6 := by
      rcases hra with ⟨h1, v3, h2, h3, h4⟩ | ⟨h1, h2, h3⟩
      · rcases HU.out.2.2 with ⟨h5, h6, h7⟩ | ⟨h5, -⟩
        · exact ⟨v3, by rw [h2, h6], OwnP.base h3 H5.out.1.size, h4⟩
        · exact absurd h1 h5
      · rcases HU.out.2.2 with ⟨h5, -⟩ | ⟨-, h6, h7⟩
        · exact absurd h5 h1
        · exact ⟨_, by rw [h2, h6], by rw [h7]; exact OwnP.nil _ _, h3⟩
    obtain ⟨v3, rfl, ho3, hb6⟩ := hres
    have H6 := Lib.hid (H5.out.1.trans (hb6.mono H5.out.1.size))
    have HP6 := Lib.hid (HP5.out.below hb6)
    obtain ⟨A5, c5, hv5, hpx5⟩ := (H5.out.2.2.below hb6).px HU.out.1.1
    obtain ⟨A6, c6, hv6, hpx6⟩ := ho3.px HU.out.1.1
    subst hv5 hv6
    have hS1 := Lib.hid (same_true (c := c5) (d := c6) hpx5 hpx6 (by have := HU.out.2.1; omega))
    clear hra ho3 hb6 hpx5 hpx6 H5 HP5 hRA HU
    go_wp2_with fail
    refine hS1.out.mono ?_
    rintro e w7 ⟨rfl, hb7⟩
    have H7 := Lib.hid (H6.out.trans (hb7.mono H6.out.size))
    have hS2 := Lib.hid (same_true (c := 0) (d := 0) (HP6.out.below hb7) (HL.out.below H7.out) (by omega))
    clear hb7 hS1 H6 HP6
    go_wp2_with fail
    refine hS2.out.mono ?_
    rintro e w8 ⟨rfl, hb8⟩
    have H8 := Lib.hid (H7.out.trans (hb8.mono H7.out.size))
    clear hb8 H7
    go_wp2_with fail
    go_ret
    exact ⟨by simp, H8.out⟩
  | some a =>
    go_wp2_with (at_builtin; go_loud (refine wpList_append_own _ rfl (.tmp 16) (.tmp 17) _ rfl w2.heap.size 32 i0 _ 2 16 hT hi hz0 hz9 hz8 hcs (by decide) (.slice (some ⟨w2.heap.size, 0, none⟩) 0 0) 0 [] rfl HA0.out a n c (flr n xs) rfl (flr_length _ _) (px_own (HL.out.below HB0.out)) (flr_one _ _) (by unfold maxLen; omega) (by omega) HS0.out ?_; intro y1 wb g1 g2 hnil))
    have HR : Hid (OwnR wb w.heap.size y1 n xs) := Lib.hid (by
      rw [List.nil_append, Nat.zero_add] at g1
      obtain ⟨h8, h9⟩ := g1
      refine ⟨h8, ?_⟩
      rcases h9 with h9 | ⟨g, cap, cur, h9, hg, r⟩
      · exact .inl h9
      · exact .inr ⟨g, cap, cur, h9, Nat.le_trans HW2.out hg, r⟩)
    have HB := Lib.hid (show Below w.heap.size w wb from HB0.out.trans (below_of_gb g2 HB0.out.size (fun k hk => Nat.le_trans HW2.out (HA0.out.lt k hk).1)))
    clear g1 g2 hnil
    obtain ⟨A4, c4, e4, hpx⟩ := OwnR.px HR.out HXS.out
    subst e4
    have HP4 := Lib.hid hpx
    have hAg := Lib.hid (agg_v (c := c4) hpx (by omega))
    clear hpx HA0 HS0 HB0 hi hz0 hz9 hz8 hcs hT hwa
    refine hAg.out.mono ?_
    rintro e w5 ⟨v2, X, e1, rfl, hU⟩
    have H5 := Lib.hid (And.intro (HB.out.trans (hU.below.mono HB.out.size)) (And.intro (HR.out.kept (gb_of hU.below none) (own_or _)) (OwnP.base hU.own HB.out.size)))
    have HU := Lib.hid (And.intro hU.canon (And.intro hU.len hU.what))
    have HP5 := Lib.hid (HP4.out.below hU.below)
    clear hU hAg HB HR HP4
    go_wp2_with fail
    refine (hRA.out w5 H5.out.1 X (fun hv => by
      rcases HU.out.2.2 with ⟨h5, h6, h7⟩ | ⟨h5, -⟩
      · exact agg_same HU.out.1 (pl_vld HL.out hv) h7
      · exact absurd hv h5)).mono ?_
    rintro e w6 hra
    have hres : ∃ v3, e = .returned (.tuple #[v3, .int .i64 e1]) ∧ OwnP w6 w.heap.size v3 X ∧ Below w5.heap.size w5 w6 := by
      rcases hra with ⟨h1, v3, h2, h3, h4⟩ | ⟨h1, h2, h3⟩
      · rcases HU.out.2.2 with ⟨h5, h6, h7⟩ | ⟨h5, -⟩
        · exact ⟨v3, by rw [h2, h6], OwnP.base h3 H5.out.1.size, h4⟩
        · exact absurd h1 h5
      · rcases HU.out.2.2 with ⟨h5, -⟩ | ⟨-, h6, h7⟩
        · exact absurd h5 h1
        · exact ⟨_, by rw [h2, h6], by rw [h7]; exact OwnP.nil _ _, h3⟩
    obtain ⟨v3, rfl, ho3, hb6⟩ := hres
    have H6 := Lib.hid (H5.out.1.trans (hb6.mono H5.out.1.size))
    have HP6 := Lib.hid (HP5.out.below hb6)
    obtain ⟨A5, c5, hv5, hpx5⟩ := (H5.out.2.2.below hb6).px HU.out.1.1
    obtain ⟨A6, c6, hv6, hpx6⟩ := ho3.px HU.out.1.1
    subst hv5 hv6
    have hS1 := Lib.hid (same_true (c := c5) (d := c6) hpx5 hpx6 (by have := HU.out.2.1; omega))
    clear hra ho3 hb6 hpx5 hpx6 H5 HP5 hRA HU
    go_wp2_with fail
    refine hS1.out.mono ?_
    rintro e w7 ⟨rfl, hb7⟩
    have H7 := Lib.hid (H6.out.trans (hb7.mono H6.out.size))
    have hS2 := Lib.hid (same_true (c := c4) (d := c) (HP6.out.below hb7) (HL.out.below H7.out) (by omega))
    clear hb7 hS1 H6 HP6
    go_wp2_with fail
    refine hS2.out.mono ?_
    rintro e w8 ⟨rfl, hb8⟩
    have H8 := Lib.hid (H7.out.trans (hb8.mono H7.out.size))
    clear hb8 H7
    go_wp2_with fail
    go_ret
    exact ⟨by simp, H8.out⟩
theorem lawAgg {w : World} {A : Option Addr} {n c : Nat} {xs : Nat → Nat × Int} (hL : PxL w A n xs) (hV : Vars w) (hnc : n ≤ c) (hc0 : A = none → c = 0) :
    Calls Tryz.prog 3 #[.slice A n c] w fun e w' => e = .returned (.bool true) ∧ Below w.heap.size w w' := by
  by_cases hn : n ≤ 30
  · exact lawAgg_few hL hV hn hnc hc0
  · exact lawAgg_many hV hn
end Go.Proofs.YtgpgoadalnojdaaGreatDoor
