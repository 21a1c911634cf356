/- Contracts: slices.Grow and slices.Concat of bytes, AppendUint. -/
import Derived.Test.YtamkegnnlbefdabCoC
import Derived.Test.YtamkegnnlbefdabGrow
namespace Go.Proofs.Ytamkegnnlbefdab
open Go.RowKit

theorem grow_any {w : World} {n : Nat} (hn : n ≤ 100000000000000) :
    Calls Try.prog 33 #[.slice none 0 0, .int .i64 (n : Int)] w fun e w' => ∃ v', e = .returned v' ∧ OwnB w.heap.size w' v' [] ∧ Below w.heap.size w w' := by
  obtain ⟨i0, hi, hz0, hz1, hz2⟩ := info_parts infoB
  rcases Nat.eq_zero_or_pos n with h0 | h0
  · subst h0
    refine (Any8.slices_Grow_room Try.growB none 0 0 0 w (by omega) (by omega) (by omega) (by omega)).mono ?_
    rintro e w' ⟨rfl, rfl⟩
    exact ⟨_, rfl, OwnB.nil _ _, Below.refl _ _⟩
  · refine (Any8.slices_Grow_grow Try.growB i0 _ hi hz0 (by omega) none 0 0 n [] w (by omega) (by omega) (by rw [hz2]; omega) (by omega) (by simp) (fun _ => rfl) (fun a h => by cases h)).mono ?_
    rintro e w' ⟨rfl, rfl⟩
    have hG : n ≤ grownCap w (0 + n) 0 u8T := by have := grownCap_ge w (0 + n) 0 u8T; omega
    have hM := grownCap_le_maxLen w (0 + n) 0 u8T (by unfold maxLen; omega)
    refine ⟨_, rfl, ?_, ((Below.refl _ w).drew).alloc (Nat.le_refl _) _⟩
    refine World.ownsRow_made w.drew _ _ (Nat.le_refl _) hM ?_
    rw [Array.size_append, Array.size_append, size_zeroCells, size_zeroCells]
    show 0 + (0 + n - 0) * 1 + (grownCap w (0 + n) 0 u8T - (0 + n)) * 1 = grownCap w (0 + n) 0 u8T * 1
    omega
set_option maxRecDepth 100000 in
set_option maxHeartbeats 4000000 in
theorem concat_any {w : World} {g : Nat} {A1 A2 : Option Addr} {n1 c1 n2 c2 : Nat} {l1 l2 : List UInt8} (hg : Blk w g [.slice A1 n1 c1, .slice A2 n2 c2] 27) (h1 : By w (.slice A1 n1 c1) l1) (h2 : By w (.slice A2 n2 c2) l2) (hl : l1.length + l2.length ≤ 10000000000000) :
    Calls Try.prog 29 #[.slice (some ⟨g, 0, none⟩) 2 2] w fun e w' => ∃ v', e = .returned v' ∧ By w' v' (l1 ++ l2) ∧ Below w.heap.size w w' := by
  obtain ⟨e1, -, -⟩ := h1.len
  obtain ⟨e2, -, -⟩ := h2.len
  have b1 : n1 ≤ 10000000000000 := by omega
  have b2 : n2 ≤ 10000000000000 := by omega
  have b3 : n1 + n2 ≤ 10000000000000 := by omega
  have E1 := Lib.hid e1
  have E2 := Lib.hid e2
  have H1 := Lib.hid h1
  have H2 := Lib.hid h2
  have HG := Lib.hid hg
  have k0 := hg.cell (i := 0) rfl
  have k1 := hg.cell (i := 1) rfl
  have HGr := Lib.hid (grow_any (w := w) (n := n1 + n2) (by omega))
  clear e1 e2 h1 h2 hl hg
  go_enter Try.func29, Try.ntmps29
  go_wp2_with fail
  go_loop [3, 11] (fun n i => (i = .int .i64 0 ∧ n = .int .i64 0) ∨ (i = .int .i64 1 ∧ n = .int .i64 (n1 : Int)) ∨ (i = .int .i64 2 ∧ n = .int .i64 ((n1 + n2 : Nat) : Int))) (fun _ i => 2 - (intOf i).toNat)
  case atStart => exact .inl ⟨rfl, rfl⟩
  case round =>
    rcases hrel with ⟨rfl, rfl⟩ | ⟨rfl, rfl⟩ | ⟨rfl, rfl⟩
    · go_wp2_with fail
      go_round
      case rel => exact .inr (.inl ⟨rfl, by go_num⟩)
      case measure => simp [intOf]
    · go_wp2_with fail
      go_round
      case rel => exact .inr (.inr ⟨rfl, by go_num⟩)
      case measure => simp [intOf]
    · clear k0 k1
      go_wp2_with fail
      refine HGr.out.mono ?_
      rintro e w1 ⟨v1, rfl, hO, hb⟩
      have HO := Lib.hid hO
      have HB := Lib.hid hb
      clear hO hb HGr
      go_wp2_with fail
      go_loopw [6, 27] (fun x i wr => ∃ y : Value, y = x ∧ Hid (Below w.heap.size w wr) ∧ ((i = .int .i64 0 ∧ Hid (OwnB w.heap.size wr y [])) ∨ (i = .int .i64 1 ∧ Hid (OwnB w.heap.size wr y l1)) ∨ (i = .int .i64 2 ∧ Hid (OwnB w.heap.size wr y (l1 ++ l2))))) (fun _ i _ => 2 - (intOf i).toNat)
      case atStart => exact ⟨_, rfl, HB, .inl ⟨rfl, HO⟩⟩
      case round =>
        clear HO HB
        obtain ⟨wq, rfl⟩ : ∃ x, x = wr := ⟨_, rfl⟩
        obtain ⟨y, rfl, HB, hrel⟩ := hrel
        have k0 := (HB.out.cell (p := ⟨g, 0, none⟩) HG.out.lt).trans (HG.out.cell (i := 0) rfl)
        have k1 := (HB.out.cell (p := ⟨g, 1, none⟩) HG.out.lt).trans (HG.out.cell (i := 1) rfl)
        rcases hrel with ⟨rfl, HO⟩ | ⟨rfl, HO⟩ | ⟨rfl, HO⟩
        · obtain ⟨v', W', hr, h1, h2⟩ := run_appB 27 HO.out (H1.out.below HB.out) (by rw [← E1.out]; simp; omega) HB.out.size
          have HR := Lib.hid hr
          have HO' := Lib.hid (show OwnB w.heap.size W' v' l1 by simpa using h1)
          have HB' := Lib.hid (HB.out.trans (h2.below HO.out.base_ HB.out.size))
          clear hr h1 h2 k1
          go_wp2_with (at_builtin; go_loud (refine wpList_app rfl (.tmp 31) (.tmp 32) _ rfl rfl rfl HR.out ?_))
          go_roundw
          case rel => exact ⟨v', rfl, HB', .inr (.inl ⟨rfl, HO'⟩)⟩
          case measure => simp [intOf]
        · obtain ⟨v', W', hr, h1, h2⟩ := run_appB 27 HO.out (H2.out.below HB.out) (by rw [← E1.out, ← E2.out]; omega) HB.out.size
          have HR := Lib.hid hr
          have HO' := Lib.hid h1
          have HB' := Lib.hid (HB.out.trans (h2.below HO.out.base_ HB.out.size))
          clear hr h1 h2 k0
          go_wp2_with (at_builtin; go_loud (refine wpList_app rfl (.tmp 31) (.tmp 32) _ rfl rfl rfl HR.out ?_))
          go_roundw
          case rel => exact ⟨v', rfl, HB', .inr (.inr ⟨rfl, HO'⟩)⟩
          case measure => simp [intOf]
        · clear k0 k1
          go_wp2_with fail
          go_ret
          exact ⟨_, rfl, HO.out.by_, HB.out⟩
theorem shr_fits (n s : Nat) : ((n : Int) / 2 ^ (8 * s) != 0) = !fitsB n s := by
  have e : (2 : Int) ^ (8 * s) = ((256 ^ s : Nat) : Int) := by rw [Int.pow_mul]; simp
  rw [e]
  unfold fitsB
  by_cases h : n / 256 ^ s = 0
  · have e2 : (n : Int) / ((256 ^ s : Nat) : Int) = 0 := by omega
    rw [e2, decide_eq_true h]
    rfl
  · have e2 : (n : Int) / ((256 ^ s : Nat) : Int) ≠ 0 := by omega
    rw [decide_eq_false h]
    simpa using e2
set_option maxRecDepth 100000 in
set_option maxHeartbeats 4000000 in
theorem appendUint_any {w : World} {A : Option Addr} {m c n s : Nat} {l : List UInt8} (h : By w (.slice A m c) l) (h1 : 1 ≤ s) (h8 : s ≤ 8) (hf : fitsB n s = true) (hn : n < 18446744073709551616) (hl : l.length ≤ 1000000000000) :
    Calls Try.prog 20 #[.slice A m c, .int .u64 (n : Int), .int .i64 (s : Int)] w fun e w' => ∃ v', e = .returned (.tuple #[v', .int .i64 0]) ∧ By w' v' (l ++ be n s) ∧ Below w.heap.size w w' := by
  have g1 : ¬ ((s : Int) < 1) := by omega
  have g2 : ¬ ((s : Int) > 8) := by omega
  have g3 : ((n : Int) / 2 ^ (8 * s) != 0) = false := by rw [shr_fits, hf]; rfl
  have HA := Lib.hid (appendNumber_any (w := w) (base := w.heap.size) (l := []) (n := n) (s := s) (OwnB.nil _ _) (Nat.le_refl _) (by simp) h8 hn)
  have HY := Lib.hid h
  have HL := Lib.hid hl
  clear h hf hl
  go_enter Try.func20, Try.ntmps20
  go_wp2_with fail
  refine HA.out.mono ?_
  rintro e w1 ⟨v1, rfl, hO, hG⟩
  have hb1 : Below w.heap.size w w1 := hG.below (by simp [Value.ownBlock]) (Nat.le_refl _)
  obtain ⟨A2, c2, e2, -⟩ := hO.form
  rw [List.nil_append] at hO e2
  generalize (be n s).length = n2 at e2
  subst e2
  obtain ⟨w2, hw2, hbk, hb2⟩ : ∃ w2, w1.alloc (.cells #[.slice A m c, .slice A2 n2 c2] 27) = w2 ∧ Blk w2 w1.heap.size [.slice A m c, .slice A2 n2 c2] 27 ∧ Below w1.heap.size w1 w2 := ⟨_, rfl, Blk.new _ _ _, (Below.refl _ w1).alloc (Nat.le_refl _) _⟩
  have HC := Lib.hid (concat_any hbk ((HY.out.below hb1).below hb2) (hO.by_.below hb2) (by rw [be_len]; have := HL.out; omega))
  have HB := Lib.hid (hb1.trans (hb2.mono hb1.size))
  clear hO hG hb1 hb2 hbk HA
  go_wp2_with fail
  refine HC.out.mono ?_
  rintro e w3 ⟨v3, rfl, h3, hb3⟩
  have H3 := Lib.hid h3
  have HB3 := Lib.hid (HB.out.trans (hb3.mono HB.out.size))
  clear h3 hb3 HC hw2
  go_wp2_with fail
  go_ret2
  exact ⟨_, rfl, H3.out, HB3.out⟩
set_option maxRecDepth 100000 in
set_option maxHeartbeats 4000000 in
theorem appendUint_arg {w : World} {A : Option Addr} {m c n : Nat} {s : Int} (h : s < 1 ∨ 8 < s) :
    Calls Try.prog 20 #[.slice A m c, .int .u64 (n : Int), .int .i64 s] w fun e w' => e = .returned (.tuple #[.slice none 0 0, .int .i64 1]) ∧ w = w' := by
  by_cases g1 : s < 1
  · clear h
    go_enter Try.func20, Try.ntmps20
    go_wp2_with fail
    go_ret2
    exact ⟨rfl, rfl⟩
  · have g2 : s > 8 := by omega
    clear h
    go_enter Try.func20, Try.ntmps20
    go_wp2_with fail
    go_ret2
    exact ⟨rfl, rfl⟩
set_option maxRecDepth 100000 in
set_option maxHeartbeats 4000000 in
theorem appendUint_range {w : World} {A : Option Addr} {m c n s : Nat} (h1 : 1 ≤ s) (h8 : s ≤ 8) (hf : fitsB n s = false) :
    Calls Try.prog 20 #[.slice A m c, .int .u64 (n : Int), .int .i64 (s : Int)] w fun e w' => e = .returned (.tuple #[.slice none 0 0, .int .i64 2]) ∧ w = w' := by
  have g1 : ¬ ((s : Int) < 1) := by omega
  have g2 : ¬ ((s : Int) > 8) := by omega
  have g3 : ((n : Int) / 2 ^ (8 * s) != 0) = true := by rw [shr_fits, hf]; rfl
  clear hf
  go_enter Try.func20, Try.ntmps20
  go_wp2_with fail
  go_ret2
  exact ⟨rfl, rfl⟩
end Go.Proofs.Ytamkegnnlbefdab
