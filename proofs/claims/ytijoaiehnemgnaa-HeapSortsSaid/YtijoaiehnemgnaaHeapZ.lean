/- The walk of the law HeapChanged. -/
import Derived.Test.YtijoaiehnemgnaaHeapY
namespace Go.Proofs.Ytijoaiehnemgnaa
open Go.RowKit

/-- A list of m numbers. -/
def IntL (w : World) (A : Option Addr) (m : Nat) (xs : Nat → Int) : Prop := ∀ i, i < m → ∃ a, A = some a ∧ a.block < w.heap.size ∧ w.cell? (a.add i) = some (.int .i64 (xs i))
theorem IntL.below {w W : World} {A : Option Addr} {m : Nat} {xs : Nat → Int} (h : IntL w A m xs) (hb : Below w.heap.size w W) (i : Nat) (hi : i < m) : ∃ a, A = some a ∧ a.block < w.heap.size ∧ W.cell? (a.add i) = some (.int .i64 (xs i)) := by
  obtain ⟨a, rfl, h1, h2⟩ := h i hi
  exact ⟨a, rfl, h1, (hb.cell (by rw [add_block]; exact h1)).trans h2⟩
def U8L (w : World) (A : Option Addr) (m : Nat) (xs : Nat → Nat) : Prop := ∀ i, i < m → ∃ a, A = some a ∧ a.block < w.heap.size ∧ w.cell? (a.add i) = some (.int .u8 (xs i : Nat)) ∧ xs i < 256
theorem U8L.below {w W : World} {A : Option Addr} {m : Nat} {xs : Nat → Nat} (h : U8L w A m xs) (hb : Below w.heap.size w W) (i : Nat) (hi : i < m) : ∃ a, A = some a ∧ a.block < w.heap.size ∧ W.cell? (a.add i) = some (.int .u8 (xs i : Nat)) ∧ xs i < 256 := by
  obtain ⟨a, rfl, h1, h2, h3⟩ := h i hi
  exact ⟨a, rfl, h1, (hb.cell (by rw [add_block]; exact h1)).trans h2, h3⟩
/-- A list of m pairs of numbers. -/
def TwoL (w : World) (A : Option Addr) (m : Nat) (xs : Nat → Int × Int) : Prop := ∀ i, i < m → ∃ a, A = some a ∧ a.block < w.heap.size ∧ w.cell? (a.add (i * 2)) = some (.int .i64 (xs i).1) ∧ w.cell? ⟨(a.add (i * 2)).block, (a.add (i * 2)).off + 1, none⟩ = some (.int .i64 (xs i).2)
theorem TwoL.below {w W : World} {A : Option Addr} {m : Nat} {xs : Nat → Int × Int} (h : TwoL w A m xs) (hb : Below w.heap.size w W) (i : Nat) (hi : i < m) : ∃ a, A = some a ∧ a.block < w.heap.size ∧ W.cell? (a.add (i * 2)) = some (.int .i64 (xs i).1) ∧ W.cell? ⟨(a.add (i * 2)).block, (a.add (i * 2)).off + 1, none⟩ = some (.int .i64 (xs i).2) := by
  obtain ⟨a, rfl, h1, h2, h3⟩ := h i hi
  exact ⟨a, rfl, h1, (hb.cell (by rw [add_block]; exact h1)).trans h2, (hb.cell (p := ⟨_, _, none⟩) (by show (a.add (i * 2)).block < _; rw [add_block]; exact h1)).trans h3⟩

/-- A pair's box. -/
def boxT (w : World) (g : Nat) (t : Int × Int) : Prop := w.heap[g]? = some (.cells #[.int .i64 t.1, .int .i64 t.2] 45 (0, 0))
section
variable {w W W' : World} {R : List Nat} {h P n r hB kB g : Nat} {t : Int × Int}
theorem boxT.cell0 (hx : boxT w g t) : w.cell? ⟨g, 0, none⟩ = some (.int .i64 t.1) := by rw [cell_of_row w g 0 _ _ (0, 0) hx]; rfl
theorem boxT.cell1 (hx : boxT w g t) : w.cell? ⟨g, 1, none⟩ = some (.int .i64 t.2) := by rw [cell_of_row w g 1 _ _ (0, 0) hx]; rfl
theorem boxT.lt (hx : boxT w g t) : g < w.heap.size := by
  rcases Nat.lt_or_ge g w.heap.size with hlt | hge
  · exact hlt
  · unfold boxT at hx; rw [Array.getElem?_eq_none hge] at hx; cases hx
theorem boxT.kept (hx : boxT W g t) (hg : g ∈ R ∧ g ≠ hB ∧ g ≠ kB) (hs : Same R W W' ∨ Only W W' hB kB) : boxT W' g t := by
  rcases hs with hs | hs
  · exact (hs.1 g hg.1).trans hx
  · exact (hs.2.2.2.2 g hx.lt hg.2.1 hg.2.2).trans hx
end

set_option maxRecDepth 100000 in
set_option maxHeartbeats 8000000 in
theorem lawChanged_out {w : World} {n mc mg c1 c2 c3 : Nat} {A B C : Option Addr} (h : 100 < n ∨ n = 0 ∨ 200 < mc ∨ 100 < mg) :
    Calls Try.prog 5 #[.slice A n c1, .slice B mc c2, .slice C mg c3] w fun e w' => e = .returned (.bool true) ∧ Below w.heap.size w w' := by
  by_cases h1 : 100 < n
  · have h1' : (100 : Int) < (n : Int) := by omega
    clear h
    go_enter Try.func5, Try.ntmps5
    go_wp2_with fail
    refine awake_any.mono ?_
    rintro e w1 ⟨rfl, hb1⟩
    go_wp2_with fail
    go_ret
    exact ⟨rfl, hb1⟩
  have h1' : ¬ (100 : Int) < (n : Int) := by omega
  by_cases h2 : n = 0
  · subst h2
    clear h
    go_enter Try.func5, Try.ntmps5
    go_wp2_with fail
    refine awake_any.mono ?_
    rintro e w1 ⟨rfl, hb1⟩
    go_wp2_with fail
    go_ret
    exact ⟨rfl, hb1⟩
  have h2' : ((n : Int) == 0) = false := beq_eq_false_iff_ne.2 (by omega)
  by_cases h3 : 200 < mc
  · have h3' : (200 : Int) < (mc : Int) := by omega
    clear h
    go_enter Try.func5, Try.ntmps5
    go_wp2_with fail
    refine awake_any.mono ?_
    rintro e w1 ⟨rfl, hb1⟩
    go_wp2_with fail
    go_ret
    exact ⟨rfl, hb1⟩
  have h3' : ¬ (200 : Int) < (mc : Int) := by omega
  have h4 : 100 < mg := by omega
  have h4' : (100 : Int) < (mg : Int) := by omega
  clear h
  go_enter Try.func5, Try.ntmps5
  go_wp2_with fail
  refine awake_any.mono ?_
  rintro e w1 ⟨rfl, hb1⟩
  go_wp2_with fail
  go_ret
  exact ⟨rfl, hb1⟩

set_option maxRecDepth 100000 in
set_option maxHeartbeats 16000000 in
theorem lawChanged_few {w : World} {n mc mg c1 c2 c3 : Nat} {A B C : Option Addr} {ks : Nat → Int} {cs : Nat → Int × Int} {gs : Nat → Nat} (hn0 : 0 < n) (hn : n ≤ 100) (hmc : mc ≤ 200) (hmg : mg ≤ 100)
    (hA : IntL w A n ks) (hB : TwoL w B mc cs) (hC : U8L w C mg gs) :
    Calls Try.prog 5 #[.slice A n c1, .slice B mc c2, .slice C mg c3] w fun e w' => e = .returned (.bool true) ∧ Below w.heap.size w w' := by
  have hN := Lib.hid (fun W : World => new_any (w := W) (n := n) (by omega))
  have hRN := Lib.hid (fun W : World => rnew_any (w := W) (n := n) (by omega))
  have h1 : ¬ (100 < n) := by omega
  have h1' : ¬ (100 : Int) < (n : Int) := by omega
  have h2 : ¬ (n = 0) := by omega
  have h2' : ((n : Int) == 0) = false := beq_eq_false_iff_ne.2 (by omega)
  have h3 : ¬ (200 < mc) := by omega
  have h3' : ¬ (200 : Int) < (mc : Int) := by omega
  have h4 : ¬ (100 < mg) := by omega
  have h4' : ¬ (100 : Int) < (mg : Int) := by omega
  have hwn : IntKind.i64.wrap ((n : Int) + 1) = (n : Int) + 1 := IntWalk.i64_in _ (by omega)
  have HA := Lib.hid hA
  have HB := Lib.hid hB
  have HC := Lib.hid hC
  clear hA hB hC
  go_enter Try.func5, Try.ntmps5
  go_wp2_with fail
  refine awake_any.mono ?_
  rintro e w1 ⟨rfl, hb1⟩
  go_wp2_with fail
  refine (hN.out _).mono ?_
  rintro e w2 hn2
  have HN2 := Lib.hid hn2
  obtain ⟨h0, P0, rfl, -⟩ := hn2
  go_wp2_with fail
  refine (hRN.out _).mono ?_
  rintro e w3 hn3
  obtain ⟨h, P, r, hB, kB, e1, rfl, hp3⟩ := pair_new (by omega) hb1 HN2.out hn3
  obtain rfl : h0 = h := by injection e1 with e1; injection e1 with e1; simp at e1; exact e1
  have HI0 : Hid (CallI w h0 P n r hB kB w3) := ⟨_, hp3⟩
  clear hN hRN HN2 hn3 hp3 e1 hb1
  go_wp2_with fail
  go_loopw [59] (fun v wr => ∃ i : Nat, v = .int .i64 (i : Nat) ∧ i ≤ n ∧ CallI w h0 P n r hB kB wr) (fun v _ => n - (intOf v).toNat)
  case atStart => exact ⟨0, rfl, Nat.zero_le _, HI0.out⟩
  case round =>
    clear HI0
    obtain ⟨wq, rfl⟩ : ∃ x, x = wr := ⟨_, rfl⟩
    obtain ⟨i, rfl, hi, M, hp0⟩ := hrel
    by_cases him : i < n
    · obtain ⟨a, rfl, ha, a0⟩ := HA.out.below hp0.below i him
      have hz0 : (0 : Int) ≤ (i : Int) := by omega
      have hz1 : (i : Int) < (n : Int) := by omega
      have hwi : IntKind.i64.wrap ((i : Int) + 1) = (i : Int) + 1 := IntWalk.i64_in _ (by omega)
      have HP0 := Lib.hid hp0
      clear hp0
      go_wp2_with fail
      refine (p_set _ _ HP0.out).mono ?_
      rintro e w5 ⟨rfl, hp5, -⟩
      have HP5 := Lib.hid hp5
      clear hp5 HP0
      go_wp2_with fail
      refine (p_rset _ _ HP5.out).mono ?_
      rintro e w6 ⟨rfl, hp6, -⟩
      have HP6 := Lib.hid hp6
      clear hp6 HP5
      go_wp2_with fail
      go_roundw
      case rel => exact ⟨i + 1, by go_num, by omega, _, HP6.out⟩
      case measure => simp [intOf]; omega
    · have hi1 : ¬ ((i : Int) < (n : Int)) := by omega
      have HI1 : Hid (CallI w h0 P n r hB kB wq) := ⟨_, hp0⟩
      clear hp0
      go_wp2_with fail
      go_loopw [75] (fun v wr => ∃ i : Nat, v = .int .i64 (i : Nat) ∧ i ≤ mc ∧ CallI w h0 P n r hB kB wr) (fun v _ => mc - (intOf v).toNat)
      case atStart => exact ⟨0, rfl, Nat.zero_le _, HI1.out⟩
      case round =>
        clear HI1 him hi hi1
        obtain ⟨wz, rfl⟩ : ∃ x, x = wr := ⟨_, rfl⟩
        obtain ⟨j, rfl, hj, M, hp0⟩ := hrel
        by_cases hjm : j < mc
        · obtain ⟨a, rfl, ha, a0, a1⟩ := HB.out.below hp0.below j hjm
          have hz0 : (0 : Int) ≤ (j : Int) := by omega
          have hz1 : (j : Int) < (mc : Int) := by omega
          have hwi : IntKind.i64.wrap ((j : Int) + 1) = (j : Int) + 1 := IntWalk.i64_in _ (by omega)
          obtain ⟨w5, hw5⟩ : ∃ w5, wz.alloc (.cells #[.int .i64 (cs j).1, .int .i64 (cs j).2] 45) = w5 := ⟨_, rfl⟩
          have hp5 : Pair w (wz.heap.size :: [r, hB, kB]) h0 P n r hB kB M M w5 := by rw [← hw5]; exact hp0.more _
          have kX5 : boxT w5 wz.heap.size (cs j) := by rw [← hw5]; exact heap_alloc_new wz _
          have hgr : wz.heap.size ∈ wz.heap.size :: [r, hB, kB] ∧ wz.heap.size ≠ hB ∧ wz.heap.size ≠ kB := by
            have := hp0.2.1.lt
            exact ⟨.head _, by omega, by omega⟩
          have x0 := kX5.cell0
          have x1 := kX5.cell1
          clear hp0
          have HP5 := Lib.hid hp5
          have kX5 := Lib.hid kX5
          clear hp5
          go_wp2_with fail
          go_region_held3 (fun W' => W'.cell? ⟨wz.heap.size, 0, none⟩ = some (.int .i64 (cs j).1) ∧ W'.cell? ⟨wz.heap.size, 1, none⟩ = some (.int .i64 (cs j).2))
            (first | exact ⟨x0, x1⟩ | go_keep)
            (first
              | (go_at_call 11; refine (p_set (cs j).1 (cs j).2 HP5.out.drew).mono ?_; rintro e w6 ⟨rfl, hp6, hs6⟩; have kX6 := kX5.out.kept hgr hs6; have HP6 := Lib.hid hp6; replace x0 := kX6.cell0; replace x1 := kX6.cell1; clear hp6 hs6)
              | (go_at_call 12; refine (p_rset (cs j).1 (cs j).2 HP6.out).mono ?_; rintro e w7 ⟨rfl, hp7, hs7⟩; have kX := kX6.kept hgr hs7; have HP7 := Lib.hid hp7; replace x0 := kX.cell0; replace x1 := kX.cell1; clear hs7 hp7))
          generalize setM M n (cs j).1 (cs j).2 = MM at HP7
          generalize setE n (cs j).1 = ee
          clear HP6 kX6 x0 x1
          go_wp2_with fail
          go_roundw
          case rel => exact ⟨j + 1, by go_num, by omega, ⟨MM, HP7.out.less (by simp) (by simp) (by simp)⟩⟩
          case measure => simp [intOf]; omega
        · have hj1 : ¬ ((j : Int) < (mc : Int)) := by omega
          have HI1 : Hid (CallI w h0 P n r hB kB wz) := ⟨_, hp0⟩
          clear hp0
          go_wp2_with fail
          go_loopw [95] (fun v wr => ∃ i : Nat, v = .int .i64 (i : Nat) ∧ i ≤ mg ∧ CallI w h0 P n r hB kB wr) (fun v _ => mg - (intOf v).toNat)
          case atStart => exact ⟨0, rfl, Nat.zero_le _, HI1.out⟩
          case round =>
            clear HI1 hjm hj hj1
            obtain ⟨wy, rfl⟩ : ∃ x, x = wr := ⟨_, rfl⟩
            obtain ⟨k, rfl, hk, M, hp0⟩ := hrel
            by_cases hkm : k < mg
            · obtain ⟨a, rfl, ha, a0, a1⟩ := HC.out.below hp0.below k hkm
              have hz0 : (0 : Int) ≤ (k : Int) := by omega
              have hz1 : (k : Int) < (mg : Int) := by omega
              have hwi : IntKind.i64.wrap ((k : Int) + 1) = (k : Int) + 1 := IntWalk.i64_in _ (by omega)
              have hwg : IntKind.i64.wrap ((gs k : Nat) : Int) = (gs k : Nat) := IntWalk.i64_in _ (by omega)
              have HP0 := Lib.hid hp0
              clear hp0
              go_wp2_with fail
              refine (p_remove _ HP0.out).mono ?_
              rintro e w5 ⟨rfl, hp5, -⟩
              have HP5 := Lib.hid hp5
              clear hp5 HP0
              go_wp2_with fail
              refine (p_rremove _ HP5.out).mono ?_
              rintro e w6 ⟨rfl, hp6, -⟩
              have HP6 := Lib.hid hp6
              clear hp6 HP5
              generalize remM M n ((gs k : Nat) : Int) = MM at HP6
              generalize remE M n ((gs k : Nat) : Int) = ee
              go_wp2_with fail
              go_roundw
              case rel => exact ⟨k + 1, by go_num, by omega, _, HP6.out⟩
              case measure => simp [intOf]; omega
            · have hk1 : ¬ ((k : Int) < (mg : Int)) := by omega
              have HI1 : Hid (CallI w h0 P n r hB kB wy) := ⟨_, hp0⟩
              clear hp0
              go_wp2_with fail
              go_loopw [112] (fun v wr => ∃ i : Nat, v = .int .i64 (i : Nat) ∧ i ≤ n + 1 ∧ CallI w h0 P n r hB kB wr) (fun v _ => n + 1 - (intOf v).toNat)
              case atStart => exact ⟨0, rfl, Nat.zero_le _, HI1.out⟩
              case round =>
                clear HI1 hkm hk hk1
                obtain ⟨wx, rfl⟩ : ∃ x, x = wr := ⟨_, rfl⟩
                obtain ⟨l, rfl, hl, M, hp0⟩ := hrel
                by_cases hlm : l < n + 1
                · have hz1 : (l : Int) < (n : Int) + 1 := by omega
                  have hwi : IntKind.i64.wrap ((l : Int) + 1) = (l : Int) + 1 := IntWalk.i64_in _ (by omega)
                  have HP0 := Lib.hid hp0
                  clear hp0
                  go_wp2_with fail
                  refine (p_pop HP0.out).mono ?_
                  rintro e w6 ⟨o, ho, rfl, hp6, -⟩
                  rw [popE_eq]
                  have HP6 := Lib.hid hp6
                  have HO := Lib.hid ho
                  clear hp6 ho HP0
                  go_wp2_with fail
                  refine (p_rpop HP6.out).mono ?_
                  rintro e w7 ⟨o', ho', rfl, hp, -⟩
                  obtain rfl := popV_same HO.out ho'
                  rw [popE_eq]
                  have HP7 := Lib.hid hp
                  generalize popM M o = MM at HP7
                  generalize popI o = ii
                  generalize popK o = ll
                  generalize o.isSome = bo
                  clear HP6 HO ho' hp
                  go_wp2_with fail
                  go_roundw
                  case rel => exact ⟨l + 1, by go_num, by omega, _, HP7.out⟩
                  case measure => simp [intOf]; omega
                · have hl1 : ¬ ((l : Int) < (n : Int) + 1) := by omega
                  have hb := hp0.below
                  clear hp0
                  go_wp2_with fail
                  go_ret
                  exact ⟨rfl, hb⟩
end Go.Proofs.Ytijoaiehnemgnaa
