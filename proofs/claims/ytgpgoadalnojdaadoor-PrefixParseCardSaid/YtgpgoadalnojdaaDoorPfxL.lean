/- Contracts of the reference of package prefix: number, Text. -/
import Derived.Test.YtgpgoadalnojdaaDoorPfxJ
import Derived.WalkSpells
import Derived.Laws.IdiomStrings
import Derived.WalkLawsBesides
namespace Go.Proofs.YtgpgoadalnojdaaDoor
open Go.RowKit

theorem run_string_byte (w : World) (n : Int) (h : 0 ≤ n ∧ n < 256) : (convert 56 9 (.slice (some ⟨w.heap.size, 0, none⟩) 1 1)).run Tryd.prog (w.alloc (.cells #[.int .u8 n] 5)) =
    .ok (.string ⟨#[UInt8.ofNat n.toNat]⟩) (w.alloc (.cells #[.int .u8 n] 5)) := by
  refine run_convert_bytes_back (P := Tryd.prog) _ 56 9 5 ⟨w.heap.size, 0, none⟩ 1 [UInt8.ofNat n.toNat] Tryd.underlying56 Tryd.underlying5 Tryd.underlying9 ?_
  intro j hj
  simp at hj
  subst hj
  rw [show (Addr.add ⟨w.heap.size, 0, none⟩ 0 : Addr) = ⟨w.heap.size, 0, none⟩ from rfl, World.cell?_alloc_at _ _ _ _ rfl]
  simp
  omega
theorem run_chr (w : World) (d : Nat) (h : d < 10) : (convert 56 9 (.slice (some ⟨w.heap.size, 0, none⟩) 1 1)).run Tryd.prog (w.alloc (.cells #[.int .u8 (48 + (d : Int))] 5)) =
    .ok (.string (str [UInt8.ofNat (48 + d)])) (w.alloc (.cells #[.int .u8 (48 + (d : Int))] 5)) := by
  rw [run_string_byte w _ ⟨by omega, by omega⟩]
  unfold str
  rw [show (48 + (d : Int)).toNat = 48 + d by omega]

set_option maxRecDepth 100000 in
set_option maxHeartbeats 2000000 in
theorem num_small (n : Nat) (w : World) (h : n < 10) : Calls Tryd.prog 27 #[.int .i64 (n : Int)] w fun e w' => e = .returned (.string (str (dd n))) ∧ Below w.heap.size w w' := by
  have hc := run_chr w n h
  rw [show [UInt8.ofNat (48 + n)] = dd n by unfold dd; rw [if_pos h]] at hc
  obtain ⟨S, hS⟩ : ∃ S, str (dd n) = S := ⟨_, rfl⟩
  rw [hS] at hc ⊢
  clear hS
  have h1 : decide ((n : Int) < 10) = true := decide_eq_true (by omega)
  go_enter Tryd.func27, Tryd.ntmps27
  go_wp2_with fail
  go_ret
  exact ⟨rfl, (Below.refl _ _).alloc (Nat.le_refl _) _⟩
def numQ (w : World) (S : ByteArray) (e : Ending) (w' : World) : Prop := e = .returned (.string S) ∧ Below w.heap.size w w'
set_option maxRecDepth 100000 in
set_option maxHeartbeats 2000000 in
theorem num_step (n : Nat) (w : World) (h10 : ¬ n < 10) (h : n < 1000) (hq : ∀ W, Calls Tryd.prog 27 #[.int .i64 ((n / 10 : Nat) : Int)] W (numQ W (str (dd (n / 10))))) :
    Calls Tryd.prog 27 #[.int .i64 (n : Int)] w (numQ w (str (dd n))) := by
  have hq2 : ∀ W, Calls Tryd.prog 27 #[.int .i64 ((n : Int) / 10)] W (numQ W (str (dd (n / 10)))) := fun W => by
    have := hq W
    rwa [show ((n / 10 : Nat) : Int) = (n : Int) / 10 by omega] at this
  have hr2 : ∀ W, Calls Tryd.prog 27 #[.int .i64 ((n : Int) % 10)] W fun e w' => e = .returned (.string (str (dd (n % 10)))) ∧ Below W.heap.size W w' := fun W => by
    have := num_small (n % 10) W (Nat.mod_lt _ (by omega))
    rwa [show ((n % 10 : Nat) : Int) = (n : Int) % 10 by omega] at this
  have hA := Lib.hid hq2
  have hB := Lib.hid hr2
  have hl1 : (dd (n / 10)).length ≤ 3 := by unfold dd; split; simp; split <;> simp
  have hl2 : (dd (n % 10)).length ≤ 3 := by unfold dd; split; simp; split <;> simp
  have hz : ¬ 9223372036854775807 < (str (dd (n / 10))).size + (str (dd (n % 10))).size := by rw [str_size, str_size]; omega
  have ht : str (dd (n / 10)) ++ str (dd (n % 10)) = str (dd n) := by
    rw [str_app]
    congr 1
    have e1 : dd (n % 10) = [UInt8.ofNat (48 + n % 10)] := by unfold dd; rw [if_pos (Nat.mod_lt _ (by omega))]
    rw [e1, ← dd_eq (show n / 10 < 1000 by omega), ← dd_eq h]
    conv => rhs; rw [Lib.decDigits, dif_neg h10]
  obtain ⟨S, hS⟩ : ∃ S, str (dd (n / 10)) = S := ⟨_, rfl⟩
  obtain ⟨T, hT⟩ : ∃ T, str (dd (n % 10)) = T := ⟨_, rfl⟩
  obtain ⟨V, hV⟩ : ∃ V, str (dd n) = V := ⟨_, rfl⟩
  rw [hS] at hA ht hz
  rw [hT] at hB ht hz
  rw [hV] at ht ⊢
  have HT := Lib.hid ht
  have h1 : decide ((n : Int) < 10) = false := decide_eq_false (by omega)
  clear hq hq2 hr2 hl1 hl2 hS hT hV ht h10
  go_enter Tryd.func27, Tryd.ntmps27
  go_wp2_with fail
  (with_reducible refine (hA.out _).mono ?_)
  rintro e w1 ⟨rfl, hb1⟩
  have HB1 := Lib.hid hb1
  clear hb1
  go_wp2_with fail
  (with_reducible refine (hB.out _).mono ?_)
  rintro e w2 ⟨rfl, hb2⟩
  have HB2 := Lib.hid (HB1.out.trans (hb2.mono HB1.out.size))
  clear hb2
  go_wp2_with fail
  go_ret
  exact ⟨by rw [← HT.out]; rfl, HB2.out⟩
theorem num_any (n : Nat) (w : World) (h : n < 1000) : Calls Tryd.prog 27 #[.int .i64 (n : Int)] w (numQ w (str (dd n))) := by
  by_cases h1 : n < 10
  · exact num_small n w h1
  · refine num_step n w h1 h (fun W => ?_)
    by_cases h2 : n / 10 < 10
    · exact num_small _ W h2
    · exact num_step _ W h2 (by omega) (fun W => num_small _ W (by omega))

/-- The first j parts of an address' text. -/
def prt (a : Nat) : Nat → List UInt8
  | 0 => []
  | j + 1 => prt a j ++ dd (byt a j) ++ (if j < 3 then [46] else [])
theorem prt_four (a : Nat) : prt a 4 = atx a := by simp [prt, atx]
theorem prt_len (a : Nat) : ∀ j, (prt a j).length ≤ 4 * j
  | 0 => by simp [prt]
  | j + 1 => by
    have := prt_len a j
    have h0 := (dd_facts _ (byt_lt a j)).2.2.1
    simp only [prt, List.length_append]
    split <;> simp <;> omega
theorem data_size (l : List UInt8) : (str l).size = l.length := rfl

set_option maxRecDepth 100000 in
set_option maxHeartbeats 8000000 in
theorem refText_good (a n : Nat) (w : World) (ha : a < 4294967296) (hv : vldB a (n : Int) = true) :
    Calls Tryd.prog 10 #[pv a n] w fun e w' => e = .returned (.string (str (tx a n))) ∧ Below w.heap.size w w' := by
  have hVal := Lib.hid (fun W => refValid_any a n W ha)
  rw [hv] at hVal
  obtain ⟨n', hn', hle, -⟩ := vldB_true hv
  obtain rfl : n = n' := by omega
  have hN := Lib.hid (fun W => num_any n W (by omega))
  have hnl : n ≤ 32 := hle
  have HN := Lib.hid hnl
  obtain ⟨w1, hw1, hP, hb1⟩ := fresh_box w a n
  have H1 := Lib.hid (And.intro hP hb1)
  have c0 := hP.cell0
  have c1 := hP.cell1
  have HA := Lib.hid ha
  clear hP hb1 hv hn' hle ha hnl
  go_enter Tryd.func10, Tryd.ntmps10
  go_wp2_with fail
  refine (hVal.out _).mono ?_
  rintro e w2 ⟨rfl, hb2⟩
  have H2 := Lib.hid (And.intro (H1.out.1.step hb2) (H1.out.2.trans (hb2.mono H1.out.2.size)))
  clear hb2 hw1 c0 c1 H1
  go_wp2_with fail
  go_loopw [3, 4] (fun s i wr => ∃ j : Nat, j ≤ 4 ∧ i = .int .i64 (3 - (j : Int)) ∧ s = .string (str (prt a j)) ∧ PB wr w.heap.size a n ∧ Below w.heap.size w wr) (fun _ i _ => (intOf i + 1).toNat)
  case atStart => exact ⟨0, by omega, rfl, rfl, H2.out.1, H2.out.2⟩
  case round =>
    clear H2
    obtain ⟨j, hj, rfl, rfl, hP, hb⟩ := hrel
    have HP := Lib.hid (And.intro hP hb)
    have c0 := hP.cell0
    have c1 := hP.cell1
    clear hP hb
    by_cases hlt : j < 4
    · have hi0 : decide (0 ≤ 3 - (j : Int)) = true := decide_eq_true (by omega)
      obtain ⟨sft, q, e1, e2, e3, e4, e5⟩ : ∃ sft q : Nat, 8 * (3 - (j : Int)) = sft ∧ a / 2 ^ sft = q ∧ q % 256 = byt a j ∧ q < 4294967296 ∧ sft ≤ 24 := ⟨8 * (3 - j), _, by omega, rfl, rfl, Nat.lt_of_le_of_lt (Nat.div_le_self _ _) HA.out, by omega⟩
      have hE1 : Op.shift .shr .u32 (a : Int) .u64 (sft : Int) = pure (.int .u32 (q : Int)) := by
        refine (shift_shr .u32 .u64 (a : Int) (sft : Int) (by omega) (by show (sft : Int) ≤ 32; omega)).trans ?_
        rw [Int.toNat_natCast, ← e2]
        congr 2
      have hE2 := run_and255 q e4
      rw [e3] at hE2
      have hW2 : IntKind.i64.wrap (8 * (3 - (j : Int))) = (sft : Int) := by rw [← e1]; exact IntWalk.i64_in _ (by omega)
      have hW3 : IntKind.u64.wrap (sft : Int) = (sft : Int) := by simp [IntKind.wrap, IntKind.bits, IntKind.signed]; omega
      have hNum := Lib.hid (fun W => num_any (byt a j) W (by have := byt_lt a j; omega))
      have hsl := prt_len a j
      have hdl := (dd_facts _ (byt_lt a j)).2.2.1
      have hz1 : ¬ 9223372036854775807 < (str (prt a j)).size + (str (dd (byt a j))).size := by rw [data_size, data_size]; omega
      have hz2 : ¬ 9223372036854775807 < (str (prt a j)).size + (str (dd (byt a j))).size + 1 := by rw [data_size, data_size]; omega
      have hs1 : str (prt a j) ++ str (dd (byt a j)) = str (prt a j ++ dd (byt a j)) := str_app _ _
      have hs2 : str (prt a j) ++ str (dd (byt a j)) ++ ⟨#[46]⟩ = str (prt a j ++ dd (byt a j) ++ [46]) := by
        rw [hs1, show (⟨#[46]⟩ : ByteArray) = str [46] from rfl, str_app]
      have HS := Lib.hid (And.intro hs1 hs2)
      obtain ⟨bt, hbt⟩ : ∃ bt, byt a j = bt := ⟨_, rfl⟩
      have hbl : bt < 256 := by rw [← hbt]; exact byt_lt a j
      have HBT := Lib.hid hbt
      rw [hbt] at hNum hE2 hz1 hz2 HS
      clear e1 e2 e3 e4 e5 hbt hsl hdl hs1 hs2
      by_cases hl3 : j < 3
      · have hi3 : decide (0 < 3 - (j : Int)) = true := decide_eq_true (by omega)
        have hp1 : prt a (j + 1) = prt a j ++ dd bt ++ [46] := by rw [prt, if_pos hl3, HBT.out]
        have HP1 := Lib.hid hp1
        clear hp1
        go_wp2_with fail
        (with_reducible refine (hNum.out _).mono ?_)
        rintro e w3 ⟨rfl, hb3⟩
        have H3 := Lib.hid (And.intro (HP.out.1.step hb3) (HP.out.2.trans (hb3.mono HP.out.2.size)))
        clear hb3
        go_wp2_with fail
        exact ⟨⟨j + 1, by omega, by rw [show 3 - (j : Int) - 1 = 3 - ((j + 1 : Nat) : Int) by omega], by rw [HS.out.2, HP1.out], H3.out.1, H3.out.2⟩, by simp [intOf]; omega⟩
      · have hi3 : decide (0 < 3 - (j : Int)) = false := decide_eq_false (by omega)
        have hp1 : prt a (j + 1) = prt a j ++ dd bt := by rw [prt, if_neg hl3, HBT.out, List.append_nil]
        have HP1 := Lib.hid hp1
        clear hp1
        go_wp2_with fail
        (with_reducible refine (hNum.out _).mono ?_)
        rintro e w3 ⟨rfl, hb3⟩
        have H3 := Lib.hid (And.intro (HP.out.1.step hb3) (HP.out.2.trans (hb3.mono HP.out.2.size)))
        clear hb3
        go_wp2_with fail
        exact ⟨⟨j + 1, by omega, by rw [show 3 - (j : Int) - 1 = 3 - ((j + 1 : Nat) : Int) by omega], by rw [HS.out.1, HP1.out], H3.out.1, H3.out.2⟩, by simp [intOf]; omega⟩
    · obtain rfl : j = 4 := by omega
      have hi0 : decide (0 ≤ 3 - ((4 : Nat) : Int)) = false := by decide
      have hsl := atx_len a
      have hdl : (dd n).length ≤ 3 := (dd_facts n (by have := HN.out; omega)).2.2.1
      have hz1 : ¬ 9223372036854775807 < (str (atx a)).size + 1 := by rw [data_size]; omega
      have hz2 : ¬ 9223372036854775807 < (str (atx a)).size + 1 + (str (dd n)).size := by rw [data_size, data_size]; omega
      have ht : str (atx a) ++ ⟨#[47]⟩ ++ str (dd n) = str (tx a n) := by
        rw [← atx_tx, show (⟨#[47]⟩ : ByteArray) = str [47] from rfl, str_app, str_app]
        simp
      have HT := Lib.hid ht
      rw [prt_four]
      clear hlt hj hsl hdl ht
      go_wp2_with fail
      (with_reducible refine (hN.out _).mono ?_)
      rintro e w3 ⟨rfl, hb3⟩
      have HB3 := Lib.hid (HP.out.2.trans (hb3.mono HP.out.2.size))
      clear hb3
      go_wp2_with fail
      go_ret
      exact ⟨by rw [← HT.out]; rfl, HB3.out⟩
set_option maxHeartbeats 4000000 in
theorem refText_bad (a : Nat) (l : Int) (w : World) (ha : a < 4294967296) (hv : vldB a l = false) :
    Calls Tryd.prog 10 #[pv a l] w fun e w' => e = .returned (.string (str [])) ∧ Below w.heap.size w w' := by
  have hVal := Lib.hid (fun W => refValid_any a l W ha)
  rw [hv] at hVal
  obtain ⟨w1, hw1, hP, hb1⟩ := fresh_box w a l
  have H1 := Lib.hid hb1
  have c0 := hP.cell0
  have c1 := hP.cell1
  clear hP hb1 hv
  go_enter Tryd.func10, Tryd.ntmps10
  go_wp2_with fail
  refine (hVal.out _).mono ?_
  rintro e w2 ⟨rfl, hb2⟩
  have H2 := Lib.hid (H1.out.trans (hb2.mono H1.out.size))
  clear hb2 hw1 c0 c1
  go_wp2_with fail
  go_ret
  exact ⟨rfl, H2.out⟩
theorem refText_any (a : Nat) (l : Int) (w : World) (ha : a < 4294967296) :
    Calls Tryd.prog 10 #[pv a l] w fun e w' => e = .returned (.string (str (txV a l))) ∧ Below w.heap.size w w' := by
  unfold txV
  cases hv : vldB a l with
  | true =>
    obtain ⟨n, rfl, _, _⟩ := vldB_true hv
    simp only [if_true, Int.toNat_natCast]
    exact refText_good a n w ha hv
  | false => exact refText_bad a l w ha hv
end Go.Proofs.YtgpgoadalnojdaaDoor
