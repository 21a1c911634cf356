/- Contracts of package prefix: addrText, Text. -/
import Derived.Test.YtgpgoadalnojdaaGreatDoorPfxI
namespace Go.Proofs.YtgpgoadalnojdaaGreatDoor
open Go.RowKit

def byt (a k : Nat) : Nat := a / 2 ^ (8 * (3 - k)) % 256
theorem str_app (x y : List UInt8) : str x ++ str y = str (x ++ y) := by
  apply ByteArray.ext
  simp [str]
theorem itoa_byte {n : Nat} (h : n < 256) : Lib.itoa (n : Int) = dd n := by
  unfold Lib.itoa
  rw [if_neg (by omega), ← dd_eq (by omega)]; simp
theorem infoStr : (Tryz.prog.info? 9).map (fun i => (i.zero, i.size, i.bytes)) = some (some (.string ByteArray.empty), 1, 16) := by kernel_rfl
theorem byt_lt (a k : Nat) : byt a k < 256 := Nat.mod_lt _ (by omega)
/-- The first k parts of an address' text. -/
def parF (a k : Nat) : Nat → Value := fun j => if j < k then .string (str (dd (byt a j))) else .string ByteArray.empty
theorem run_and255 (x : Nat) (hx : x < 4294967296) : bits BinOp.and IntKind.u32 (x : Int) 255 = ((x % 256 : Nat) : Int) := by
  have := u32_and_nat x 255 hx (by omega)
  rw [show ((255 : Nat) : Int) = 255 from rfl] at this
  rw [this, Nat.and_two_pow_sub_one_eq_mod x 8]
/-- The address part of a text. -/
def atx (a : Nat) : List UInt8 := dd (byt a 0) ++ 46 :: (dd (byt a 1) ++ 46 :: (dd (byt a 2) ++ 46 :: dd (byt a 3)))
theorem atx_tx (a l : Nat) : atx a ++ 47 :: dd l = tx a l := by
  unfold atx tx byt
  simp

set_option maxRecDepth 100000 in
set_option maxHeartbeats 4000000 in
theorem addrText_any (a : Nat) (w : World) (ha : a < 4294967296) (hV : Vars w) :
    Calls Tryz.prog 29 #[.int .u32 (a : Int)] w fun e w' => e = .returned (.string (str (atx a))) ∧ Below w.heap.size w w' := by
  obtain ⟨i0, hi, hz0, hz1, hz2⟩ := info_parts infoStr
  have HA := Lib.hid ha
  have hItoa := Lib.hid (fun (W : World) (n : Nat) (hn : n < 256) (hW : Below w.heap.size w W) => itoa_any n W (by omega) (by omega) (hV.below hW))
  clear hV ha
  go_enter Tryz.func29, Tryz.ntmps29
  go_wp2_with (refine wpList_make_row rfl (.const (.int .i64 4)) (.const (.int .i64 4)) _ rfl 9 i0 _ Tryz.underlying66 hi hz0 hz1 rfl _ _ _ _ 4 rfl rfl rfl rfl (by rw [hz2]; omega) (by simp [maxLen]) w w.heap.size (Below.refl _ _) (Nat.le_refl _) (fun w1 hrow hb1 hs1 => ?_))
  obtain ⟨g, hg⟩ : ∃ g, w.heap.size = g := ⟨_, rfl⟩
  have hI0 : Row w1 g 9 4 (parF a 0) := by rw [← hg]; exact hrow.out.same (fun j _ => by simp [parF])
  have HI0 := Lib.hid (And.intro hI0 hb1.out)
  have HG := Lib.hid hg
  rw [hg]
  clear hrow hb1 hs1 hi hz0 hz1 hz2 hI0 hg
  go_loopw [9] (fun i wr => ∃ k : Nat, k ≤ 4 ∧ i = .int .i64 k ∧ Row wr g 9 4 (parF a k) ∧ Below w.heap.size w wr) (fun i _ => 4 - (intOf i).toNat)
  case atStart => exact ⟨0, by omega, rfl, HI0.out.1, HI0.out.2⟩
  case round =>
    clear HI0
    obtain ⟨k, hk, rfl, hR, hb⟩ := hrel
    by_cases hlt : k < 4
    · have HB := Lib.hid hb
      have HR := Lib.hid hR
      have hI := Lib.hid (hItoa.out wr (byt a k) (byt_lt a k) hb)
      rw [itoa_byte (byt_lt a k)] at hI
      have hsh : ∃ sft q : Nat, 8 * (3 - (k : Int)) = sft ∧ a / 2 ^ sft = q ∧ q % 256 = byt a k ∧ q < 4294967296 ∧ sft ≤ 24 := ⟨8 * (3 - k), _, by omega, rfl, rfl, Nat.lt_of_le_of_lt (Nat.div_le_self _ _) HA.out, by omega⟩
      obtain ⟨sft, q, e1, e2, e3, e4, e5⟩ := hsh
      have hE1 : Op.shift .shr .u32 (a : Int) .i64 (sft : Int) = pure (.int .u32 (q : Int)) := by
        refine (shift_shr .u32 .i64 (a : Int) (sft : Int) (by omega) (by show (sft : Int) ≤ 32; omega)).trans ?_
        rw [Int.toNat_natCast, ← e2]
        congr 2
      have hE2 := run_and255 q e4
      rw [e3] at hE2
      have hW1 : IntKind.i64.wrap (3 - (k : Int)) = 3 - (k : Int) := IntWalk.i64_in _ (by omega)
      have hW2 : IntKind.i64.wrap (8 * (3 - (k : Int))) = (sft : Int) := by rw [← e1]; exact IntWalk.i64_in _ (by omega)
      obtain ⟨bt, hbt⟩ : ∃ bt, byt a k = bt := ⟨_, rfl⟩
      rw [hbt] at hI hE2
      have hbl : bt < 256 := by rw [← hbt]; exact byt_lt a k
      have HBT := Lib.hid (And.intro hbt e1)
      clear hR hb e1 e2 e3 e4 e5 hbt
      go_wp2_with fail
      refine hI.out.mono ?_
      rintro e w2 ⟨rfl, hb2⟩
      have HR2 := Lib.hid (HR.out.below hb2 HR.out.lt)
      have HB2 := Lib.hid (HB.out.trans (hb2.mono HB.out.size))
      clear hb2
      have hc := HR2.out.cell k hlt
      have hf := HR2.out.frozen k
      have HR3 := Lib.hid (HR2.out.set_ (f' := parF a (k + 1)) k (.string (str (dd bt))) (fun j _ => by
        unfold parF
        by_cases h1 : j = k
        · subst h1; rw [if_pos (by omega), if_pos rfl, HBT.out.1]
        · rw [if_neg h1]
          by_cases h2 : j < k
          · rw [if_pos h2, if_pos (by omega)]
          · rw [if_neg h2, if_neg (by omega)]))
      have HB3 := Lib.hid (HB2.out.setCell (p := ⟨g, k, none⟩) (by show w.heap.size ≤ g; rw [HG.out]; exact Nat.le_refl _) (.string (str (dd bt))))
      have hcv : w2.cell? ⟨g, k, none⟩ = some (parF a k k) := hc
      obtain ⟨u, hu⟩ : ∃ u, parF a k k = u := ⟨_, rfl⟩
      rw [hu] at hcv
      clear hc hu
      go_wp2_with fail
      exact ⟨⟨k + 1, by omega, by go_num, HR3.out, HB3.out⟩, by simp [intOf]; omega⟩
    · obtain rfl : k = 4 := by omega
      have HR := Lib.hid hR
      have HB := Lib.hid hb
      have hJ := Lib.hid (Tryz.strings_Join g 0 4 [str (dd (byt a 0)), str (dd (byt a 1)), str (dd (byt a 2)), str (dd (byt a 3))] ⟨#[46]⟩ wr (fun j x hx => by
        have hj : j < 4 := (List.getElem?_eq_some_iff.1 hx).1
        rw [Nat.zero_add, HR.out.cell j hj]
        unfold parF
        rw [if_pos hj]
        rcases (by omega : j = 0 ∨ j = 1 ∨ j = 2 ∨ j = 3) with rfl | rfl | rfl | rfl <;> (simp at hx; rw [hx])) HR.out.lt (by simp) (by simp) (by
        have h0 := (dd_facts _ (byt_lt a 0)).2.2.1
        have h1 := (dd_facts _ (byt_lt a 1)).2.2.1
        have h2 := (dd_facts _ (byt_lt a 2)).2.2.1
        have h3 := (dd_facts _ (byt_lt a 3)).2.2.1
        simp [Lib.join, List.intercalate, data_str]
        omega))
      have hjoin : Lib.join ([str (dd (byt a 0)), str (dd (byt a 1)), str (dd (byt a 2)), str (dd (byt a 3))].map (·.data.toList)) (⟨#[46]⟩ : ByteArray).data.toList = atx a := by
        simp [Lib.join, List.intercalate, data_str, atx]
      rw [hjoin] at hJ
      clear hR hb hjoin
      go_wp2_with fail
      refine hJ.out.mono ?_
      rintro e w2 ⟨rfl, hb2⟩
      have HB2 := Lib.hid (HB.out.trans (hb2.mono HB.out.size))
      clear hb2
      go_wp2_with fail
      go_ret
      exact ⟨rfl, HB2.out⟩

theorem atx_len (a : Nat) : (atx a).length ≤ 15 := by
  have h0 := (dd_facts _ (byt_lt a 0)).2.2.1
  have h1 := (dd_facts _ (byt_lt a 1)).2.2.1
  have h2 := (dd_facts _ (byt_lt a 2)).2.2.1
  have h3 := (dd_facts _ (byt_lt a 3)).2.2.1
  simp [atx]
  omega
def txV (a : Nat) (l : Int) : List UInt8 := if vldB a l then tx a l.toNat else []
set_option maxHeartbeats 4000000 in
theorem text_good (a n : Nat) (w : World) (ha : a < 4294967296) (hV : Vars w) (hv : vldB a (n : Int) = true) :
    Calls Tryz.prog 16 #[pv a n] w fun e w' => e = .returned (.string (str (tx a n))) ∧ Below w.heap.size w w' := by
  have hVal := Lib.hid (fun W => valid_any a n W ha)
  rw [hv] at hVal
  obtain ⟨n', hn', hle, -⟩ := vldB_true hv
  obtain rfl : n = n' := by omega
  have hAd := Lib.hid (fun (W : World) (hW : Below w.heap.size w W) => addrText_any a W ha (hV.below hW))
  have hIt := Lib.hid (fun (W : World) (hW : Below w.heap.size w W) => itoa_any n W (by omega) (by omega) (hV.below hW))
  rw [itoa_byte (show n < 256 by omega)] at hIt
  obtain ⟨w1, hw1⟩ : ∃ w1, w.alloc (.cells #[.int .u32 (a : Int), .int .i64 (n : Int)] 32) = w1 := ⟨_, rfl⟩
  have hP : PB w1 w.heap.size a n := by rw [← hw1]; exact PB.new _ _ _
  have hb1 : Below w.heap.size w w1 := by rw [← hw1]; exact (Below.refl _ _).alloc (Nat.le_refl _) _
  have H1 := Lib.hid (And.intro hP hb1)
  have c0 := hP.cell0
  have c1 := hP.cell1
  have ht : str (atx a) ++ ⟨#[47]⟩ ++ str (dd n) = str (tx a n) := by
    rw [← atx_tx, show (⟨#[47]⟩ : ByteArray) = str [47] from rfl, str_app, str_app]
    simp
  have HT := Lib.hid ht
  have hsz := atx_len a
  have hsd := (dd_facts n (by omega)).2.2.1
  have hz1 : ¬ 9223372036854775807 < (str (atx a)).size + 1 := by rw [str_size]; omega
  have hz2 : ¬ 9223372036854775807 < (str (atx a)).size + 1 + (str (dd n)).size := by rw [str_size, str_size]; omega
  clear hP hb1 hv hn' hle hV ha ht hsz hsd
  go_enter Tryz.func16, Tryz.ntmps16
  go_wp2_with fail
  refine (hVal.out _).mono ?_
  rintro e w2 ⟨rfl, hb2⟩
  have H2 := Lib.hid (And.intro (H1.out.1.step hb2) (H1.out.2.trans (hb2.mono H1.out.2.size)))
  clear hb2 hw1 c0 c1
  have c0 := H2.out.1.cell0
  have c1 := H2.out.1.cell1
  go_wp2_with fail
  refine wp_region_held_drew (S := fun W' => W'.cell? ⟨w.heap.size, 0, none⟩ = some (.int .u32 (a : Int)) ∧ W'.cell? ⟨w.heap.size, 1, none⟩ = some (.int .i64 (n : Int))) (by kernel_rfl) ⟨c0, c1⟩ (fun hHeld => ?_)
  obtain ⟨w3, hw3⟩ : ∃ w3, w2.drew = w3 := ⟨_, rfl⟩
  have H3 := Lib.hid (And.intro H2.out.1.drew H2.out.2.drew)
  rw [hw3] at hHeld H3 ⊢
  clear hw3 H2 c0 c1
  refine wpAnyH_takeD 0 (v := ?_) rfl rfl (by kernel_rfl) (by kernel_rfl) (by kernel_rfl) (fun _ _ _ h => h) (Or.inl ⟨by rfl, ?_⟩) hHeld ?_
  rotate_left
  focus (intro w hSw; (try dsimp only at hSw); go_simp; try with_reducible rfl)
  simp only [List.setIfInBounds_toArray, List.set_cons_zero, List.set_cons_succ]
  refine wpAnyH_takeD 1 (v := ?_) rfl rfl (by kernel_rfl) (by kernel_rfl) (by kernel_rfl) (fun _ _ _ h => h) (Or.inl ⟨by rfl, ?_⟩) hHeld ?_
  rotate_left
  focus (intro w hSw; (try dsimp only at hSw); go_simp; try with_reducible rfl)
  simp only [List.setIfInBounds_toArray, List.set_cons_zero, List.set_cons_succ]
  refine wpAnyH_takeD 4 (v := ?_) rfl rfl (by kernel_rfl) (by kernel_rfl) (by kernel_rfl) (fun _ _ _ h => h) (Or.inl ⟨by rfl, ?_⟩) hHeld ?_
  rotate_left
  focus (intro w hSw; (try dsimp only at hSw); go_simp; try with_reducible rfl)
  simp only [List.setIfInBounds_toArray, List.set_cons_zero, List.set_cons_succ]
  refine wpAnyH_takeD 5 (v := ?_) rfl rfl (by kernel_rfl) (by kernel_rfl) (by kernel_rfl) (fun _ _ _ h => h) (Or.inl ⟨by rfl, ?_⟩) hHeld ?_
  rotate_left
  focus (intro w hSw; (try dsimp only at hSw); go_simp; try with_reducible rfl)
  simp only [List.setIfInBounds_toArray, List.set_cons_zero, List.set_cons_succ]
  refine wpAnyH_ready (rs := [2]) (by kernel_rfl) (by simp) ?_
  refine AllReadyH.cons rfl (fun K hK => ?_) AllReadyH.nil
  go_simp
  refine (hAd.out _ H3.out.2).mono ?_
  rintro e w4 ⟨rfl, hb4⟩
  have H4 := Lib.hid (And.intro (H3.out.1.step hb4) (H3.out.2.trans (hb4.mono H3.out.2.size)))
  clear hb4
  refine hK.out _ _ ⟨H4.out.1.cell0, H4.out.1.cell1⟩ (fun hHeld => ?_)
  clear hK K
  refine wpAnyH_takeD 3 (v := ?_) rfl rfl (by kernel_rfl) (by kernel_rfl) (by kernel_rfl) (fun _ _ _ h => h) (Or.inl ⟨by rfl, ?_⟩) hHeld ?_
  rotate_left
  focus (intro w hSw; (try dsimp only at hSw); go_simp; try with_reducible rfl)
  simp only [List.setIfInBounds_toArray, List.set_cons_zero, List.set_cons_succ]
  refine wpAnyH_ready (rs := [6]) (by kernel_rfl) (by simp) ?_
  refine AllReadyH.cons rfl (fun K hK => ?_) AllReadyH.nil
  go_simp
  refine (hIt.out _ H4.out.2).mono ?_
  rintro e w5 ⟨rfl, hb5⟩
  have H5 := Lib.hid (And.intro (H4.out.1.step hb5) (H4.out.2.trans (hb5.mono H4.out.2.size)))
  clear hb5
  refine hK.out _ _ ⟨H5.out.1.cell0, H5.out.1.cell1⟩ (fun hHeld => ?_)
  clear hK K
  refine wpAnyH_takeD 7 (v := ?_) rfl rfl (by kernel_rfl) (by kernel_rfl) (by kernel_rfl) (fun _ _ _ h => h) (Or.inl ⟨by rfl, ?_⟩) hHeld ?_
  rotate_left
  focus (intro w hSw; (try dsimp only at hSw); go_simp; try with_reducible rfl)
  simp only [List.setIfInBounds_toArray, List.set_cons_zero, List.set_cons_succ]
  refine wpAnyH_takeD 8 (v := ?_) rfl rfl (by kernel_rfl) (by kernel_rfl) (by kernel_rfl) (fun _ _ _ h => h) (Or.inl ⟨by rfl, ?_⟩) hHeld ?_
  rotate_left
  focus (intro w hSw; (try dsimp only at hSw); go_simp; try with_reducible rfl)
  simp only [List.setIfInBounds_toArray, List.set_cons_zero, List.set_cons_succ]
  refine wpAnyH_done (by kernel_rfl) ?_ _
  go_wp2_with fail
  go_ret
  exact ⟨by rw [← HT.out]; rfl, H5.out.2⟩
set_option maxHeartbeats 4000000 in
theorem text_bad (a : Nat) (l : Int) (w : World) (ha : a < 4294967296) (hv : vldB a l = false) :
    Calls Tryz.prog 16 #[pv a l] w fun e w' => e = .returned (.string (str [])) ∧ Below w.heap.size w w' := by
  have hVal := Lib.hid (fun W => valid_any a l W ha)
  rw [hv] at hVal
  obtain ⟨w1, hw1⟩ : ∃ w1, w.alloc (.cells #[.int .u32 (a : Int), .int .i64 l] 32) = w1 := ⟨_, rfl⟩
  have hP : PB w1 w.heap.size a l := by rw [← hw1]; exact PB.new _ _ _
  have hb1 : Below w.heap.size w w1 := by rw [← hw1]; exact (Below.refl _ _).alloc (Nat.le_refl _) _
  have H1 := Lib.hid hb1
  have c0 := hP.cell0
  have c1 := hP.cell1
  clear hP hb1 hv
  go_enter Tryz.func16, Tryz.ntmps16
  go_wp2_with fail
  refine (hVal.out _).mono ?_
  rintro e w2 ⟨rfl, hb2⟩
  have H2 := Lib.hid (H1.out.trans (hb2.mono H1.out.size))
  clear hb2 hw1 c0 c1
  go_wp2_with fail
  go_ret
  exact ⟨rfl, H2.out⟩
theorem text_any (a : Nat) (l : Int) (w : World) (ha : a < 4294967296) (hV : Vars w) :
    Calls Tryz.prog 16 #[pv a l] w fun e w' => e = .returned (.string (str (txV a l))) ∧ Below w.heap.size w w' := by
  unfold txV
  cases hv : vldB a l with
  | true =>
    obtain ⟨n, rfl, _, _⟩ := vldB_true hv
    simp only [if_true, Int.toNat_natCast]
    exact text_good a n w ha hV hv
  | false => exact text_bad a l w ha hv
end Go.Proofs.YtgpgoadalnojdaaGreatDoor
