/- The walk of the law HeapCalls. -/
import Derived.Test.YtijoaiehnemgnaaHeapX
namespace Go.Proofs.Ytijoaiehnemgnaa
open Go.RowKit

/-- A list of m calls. -/
def ActL (w : World) (A : Option Addr) (m : Nat) (acts : Nat → Nat × Int × Int) : Prop := ∀ i, i < m → ∃ a, A = some a ∧ a.block < w.heap.size ∧ w.cell? (a.add (i * 3)) = some (.int .u8 ((acts i).1 : Nat)) ∧ w.cell? ⟨(a.add (i * 3)).block, (a.add (i * 3)).off + 1, none⟩ = some (.int .i64 (acts i).2.1) ∧ w.cell? ⟨(a.add (i * 3)).block, (a.add (i * 3)).off + 2, none⟩ = some (.int .i64 (acts i).2.2) ∧ (acts i).1 < 256
theorem ActL.below {w W : World} {A : Option Addr} {m : Nat} {acts : Nat → Nat × Int × Int} (h : ActL w A m acts) (hb : Below w.heap.size w W) (i : Nat) (hi : i < m) : ∃ a, A = some a ∧ a.block < w.heap.size ∧ W.cell? (a.add (i * 3)) = some (.int .u8 ((acts i).1 : Nat)) ∧ W.cell? ⟨(a.add (i * 3)).block, (a.add (i * 3)).off + 1, none⟩ = some (.int .i64 (acts i).2.1) ∧ W.cell? ⟨(a.add (i * 3)).block, (a.add (i * 3)).off + 2, none⟩ = some (.int .i64 (acts i).2.2) ∧ (acts i).1 < 256 := by
  obtain ⟨a, rfl, h1, h2, h3, h4, h5⟩ := h i hi
  exact ⟨a, rfl, h1, (hb.cell (by rw [add_block]; exact h1)).trans h2, (hb.cell (p := ⟨_, _, none⟩) (by show (a.add (i * 3)).block < _; rw [add_block]; exact h1)).trans h3, (hb.cell (p := ⟨_, _, none⟩) (by show (a.add (i * 3)).block < _; rw [add_block]; exact h1)).trans h4, h5⟩
def CallI (w : World) (h P n r hB kB : Nat) (W : World) : Prop := ∃ M, Pair w [r, hB, kB] h P n r hB kB M M W

/-- A call's box. -/
def boxA (w : World) (g : Nat) (t : Nat × Int × Int) : Prop := w.heap[g]? = some (.cells #[.int .u8 (t.1 : Nat), .int .i64 t.2.1, .int .i64 t.2.2] 31 (0, 0))
section
variable {w W W' : World} {R : List Nat} {h P n r hB kB g : Nat} {M MR : Nat → Option Int} {t : Nat × Int × Int}
theorem boxA.cell0 (hx : boxA w g t) : w.cell? ⟨g, 0, none⟩ = some (.int .u8 (t.1 : Nat)) := by rw [cell_of_row w g 0 _ _ (0, 0) hx]; rfl
theorem boxA.cell1 (hx : boxA w g t) : w.cell? ⟨g, 1, none⟩ = some (.int .i64 t.2.1) := by rw [cell_of_row w g 1 _ _ (0, 0) hx]; rfl
theorem boxA.cell2 (hx : boxA w g t) : w.cell? ⟨g, 2, none⟩ = some (.int .i64 t.2.2) := by rw [cell_of_row w g 2 _ _ (0, 0) hx]; rfl
theorem boxA.lt (hx : boxA w g t) : g < w.heap.size := by
  rcases Nat.lt_or_ge g w.heap.size with hlt | hge
  · exact hlt
  · unfold boxA at hx; rw [Array.getElem?_eq_none hge] at hx; cases hx
theorem boxA.kept (hx : boxA W g t) (hg : g ∈ R ∧ g ≠ hB ∧ g ≠ kB) (hs : Same R W W' ∨ Only W W' hB kB) : boxA W' g t := by
  rcases hs with hs | hs
  · exact (hs.1 g hg.1).trans hx
  · exact (hs.2.2.2.2 g hx.lt hg.2.1 hg.2.2).trans hx
end
theorem keyEnd_eq (o : Option Int) : keyEnd o = .returned (.tuple #[.int .i64 (o.getD 0), .bool o.isSome]) := by cases o <;> rfl
def popI (o : Option (Nat × Int)) : Int := match o with | none => 0 | some x => (x.1 : Int)
def popK (o : Option (Nat × Int)) : Int := match o with | none => 0 | some x => x.2
theorem popE_eq (o : Option (Nat × Int)) : popE o = .returned (.tuple #[.int .i64 (popI o), .int .i64 (popK o), .bool o.isSome]) := by cases o <;> rfl

set_option maxRecDepth 100000 in
set_option maxHeartbeats 8000000 in
theorem lawCalls_many {w : World} {s m c : Nat} {A : Option Addr} (hs : s < 256) (hm : 300 < m) (hm2 : m ≤ 9223372036854775807) :
    Calls Try.prog 3 #[.int .u8 (s : Nat), .slice A m c] w fun e w' => e = .returned (.bool true) ∧ Below w.heap.size w w' := by
  obtain ⟨n, hn⟩ : ∃ n, s % 40 = n := ⟨_, rfl⟩
  have hw1 : (s : Int).tmod 40 = (n : Int) := by rw [Int.tmod_eq_emod_of_nonneg (by omega)]; omega
  have hw2 : IntKind.u8.wrap (n : Int) = (n : Int) := IntWalk.u8_in _ ⟨by omega, by omega⟩
  have hw3 : IntKind.i64.wrap (n : Int) = (n : Int) := IntWalk.i64_in _ (by omega)
  have hn39 : n ≤ 65536 := by omega
  have hN := Lib.hid (fun W : World => new_any (w := W) hn39)
  have hRN := Lib.hid (fun W : World => rnew_any (w := W) hn39)
  have hm3 : (300 : Int) < (m : Int) := by omega
  clear hn hs
  go_enter Try.func3, Try.ntmps3
  go_wp2_with fail
  refine awake_any.mono ?_
  rintro e w1 ⟨rfl, hb1⟩
  go_wp2_with fail
  refine (hN.out _).mono ?_
  rintro e w2 hn2
  obtain ⟨h, P, rfl, k1, k2, k3, k4⟩ := hn2
  go_wp2_with fail
  refine (hRN.out _).mono ?_
  rintro e w3 ⟨r, hB, kB, rfl, b1, b2, b3, b4, b5⟩
  have hfin : Below w.heap.size w w3 := (hb1.trans (k4.mono hb1.size)).trans (b5.mono (Nat.le_trans hb1.size k4.size))
  clear k1 b1
  go_wp2_with fail
  go_ret
  exact ⟨rfl, hfin⟩

set_option maxRecDepth 100000 in
set_option maxHeartbeats 16000000 in
theorem lawCalls_few {w : World} {s m c : Nat} {A : Option Addr} {acts : Nat → Nat × Int × Int} (hs : s < 256) (hm : m ≤ 300) (hA : ActL w A m acts) :
    Calls Try.prog 3 #[.int .u8 (s : Nat), .slice A m c] w fun e w' => e = .returned (.bool true) ∧ Below w.heap.size w w' := by
  obtain ⟨n, hn⟩ : ∃ n, s % 40 = n := ⟨_, rfl⟩
  have hw1 : (s : Int).tmod 40 = (n : Int) := by rw [Int.tmod_eq_emod_of_nonneg (by omega)]; omega
  have hw2 : IntKind.u8.wrap (n : Int) = (n : Int) := IntWalk.u8_in _ ⟨by omega, by omega⟩
  have hw3 : IntKind.i64.wrap (n : Int) = (n : Int) := IntWalk.i64_in _ (by omega)
  have hn39 : n ≤ 39 := by omega
  have hN := Lib.hid (fun W : World => new_any (w := W) (n := n) (by omega))
  have hRN := Lib.hid (fun W : World => rnew_any (w := W) (n := n) (by omega))
  have hm3 : ¬ ((300 : Int) < (m : Int)) := by omega
  have hm4 : ¬ (300 < m) := by omega
  have HA := Lib.hid hA
  clear hn hs hA
  go_enter Try.func3, Try.ntmps3
  go_wp2_with fail
  refine awake_any.mono ?_
  rintro e w1 ⟨rfl, hb1⟩
  go_wp2_with fail
  refine (hN.out _).mono ?_
  rintro e w2 hn2
  have HN2 := Lib.hid hn2
  obtain ⟨h0, P0, rfl, -⟩ := hn2
  go_wp2_with fail
  refine (hRN.out _).mono ?_
  rintro e w3 hn3
  obtain ⟨h, P, r, hB, kB, e1, rfl, hp3⟩ := pair_new (by omega) hb1 HN2.out hn3
  obtain rfl : h0 = h := by injection e1 with e1; injection e1 with e1; simp at e1; exact e1
  have HI0 : Hid (CallI w h0 P n r hB kB w3) := ⟨_, hp3⟩
  clear hN hRN HN2 hn3 hp3 e1 hb1
  go_wp2_with fail
  go_loopw [54] (fun v wr => ∃ i : Nat, v = .int .i64 (i : Nat) ∧ i ≤ m ∧ CallI w h0 P n r hB kB wr) (fun v _ => m - (intOf v).toNat)
  case atStart => exact ⟨0, rfl, Nat.zero_le _, HI0.out⟩
  case round =>
    clear HI0
    obtain ⟨wq, rfl⟩ : ∃ x, x = wr := ⟨_, rfl⟩
    obtain ⟨i, rfl, hi, hC⟩ := hrel
    by_cases him : i < m
    · obtain ⟨M, hp0⟩ := hC
      obtain ⟨a, rfl, ha, a0, a1, a2, a3⟩ := HA.out.below hp0.below i him
      have hz0 : (0 : Int) ≤ (i : Int) := by omega
      have hz1 : (i : Int) < (m : Int) := by omega
      have hwi : IntKind.i64.wrap ((i : Int) + 1) = (i : Int) + 1 := IntWalk.i64_in _ (by omega)
      obtain ⟨w5, hw5⟩ : ∃ w5, wq.alloc (.cells #[.int .u8 ((acts i).1 : Nat), .int .i64 (acts i).2.1, .int .i64 (acts i).2.2] 31) = w5 := ⟨_, rfl⟩
      have hp5 : Pair w (wq.heap.size :: [r, hB, kB]) h0 P n r hB kB M M w5 := by rw [← hw5]; exact hp0.more _
      have kX5 : boxA w5 wq.heap.size (acts i) := by rw [← hw5]; exact heap_alloc_new wq _
      have hgr : wq.heap.size ∈ wq.heap.size :: [r, hB, kB] ∧ wq.heap.size ≠ hB ∧ wq.heap.size ≠ kB := by
        have := hp0.2.1.lt
        exact ⟨.head _, by omega, by omega⟩
      have x0 := kX5.cell0
      have x1 := kX5.cell1
      have x2 := kX5.cell2
      clear hp0
      have HP5 := Lib.hid hp5
      have kX5 := Lib.hid kX5
      clear hp5
      have hq : (acts i).1 % 4 = 0 ∨ (acts i).1 % 4 = 1 ∨ (acts i).1 % 4 = 2 ∨ (acts i).1 % 4 = 3 := by omega
      rcases hq with hq | hq | hq | hq
      · -- a key is set
        have hk : (((acts i).1 : Nat) : Int).tmod 4 = 0 := by rw [Int.tmod_eq_emod_of_nonneg (by omega)]; omega
        have hw8 : IntKind.u8.wrap 0 = 0 := by decide
        clear hq
        go_wp2_with fail
        go_region_held3 (fun W' => W'.cell? ⟨wq.heap.size, 1, none⟩ = some (.int .i64 (acts i).2.1) ∧ W'.cell? ⟨wq.heap.size, 2, none⟩ = some (.int .i64 (acts i).2.2))
          (first | exact ⟨x1, x2⟩ | go_keep)
          (first
            | (go_at_call 11; refine (p_set (acts i).2.1 (acts i).2.2 HP5.out.drew).mono ?_; rintro e w6 ⟨rfl, hp6, hs6⟩; have kX6 := kX5.out.kept hgr hs6; have HP6 := Lib.hid hp6; replace x1 := kX6.cell1; replace x2 := kX6.cell2; clear hp6 hs6)
            | (go_at_call 12; refine (p_rset (acts i).2.1 (acts i).2.2 HP6.out).mono ?_; rintro e w7 ⟨rfl, hp7, hs7⟩; have kX := kX6.kept hgr hs7; have hp := hp7; replace x1 := kX.cell1; replace x2 := kX.cell2; clear hs7 hp7))
        generalize setM M n (acts i).2.1 (acts i).2.2 = MM at hp
        generalize setE n (acts i).2.1 = ee
        clear HP6 kX6 x1 x2
        have HKY := Lib.hid (p_key (acts i).2.1 hp)
        rw [keyEnd_eq] at HKY
        have x1 := kX.cell1
        go_wp2_with fail
        refine HKY.out.mono ?_
        rintro e w8 ⟨rfl, hp8, hs8⟩
        have HKR := Lib.hid (p_rkey (acts i).2.1 hp8)
        rw [keyEnd_eq] at HKR
        generalize (keyOf MM n (acts i).2.1).getD 0 = kk at HKR ⊢
        generalize (keyOf MM n (acts i).2.1).isSome = bb at HKR ⊢
        have kX8 := kX.kept hgr (.inl hs8)
        have x18 := kX8.cell1
        have HP8 := Lib.hid hp8
        clear HKY hp kX x1 hs8 hp8
        go_wp2_with fail
        refine HKR.out.mono ?_
        rintro e w9 ⟨rfl, rfl⟩
        have HLN := Lib.hid (p_len HP8.out)
        have HLR := Lib.hid (p_rlen HP8.out)
        clear HKR
        go_wp2_with fail
        refine HLN.out.mono ?_
        rintro e w10 ⟨rfl, hw10⟩
        subst hw10
        go_wp2_with fail
        refine HLR.out.mono ?_
        rintro e w11 ⟨rfl, hw11⟩
        subst hw11
        clear HLN HLR
        go_wp2_with fail
        go_roundw
        case rel => exact ⟨i + 1, by go_num, by omega, ⟨MM, HP8.out.less (by simp) (by simp) (by simp)⟩⟩
        case measure => simp [intOf]; omega
      · -- a key is set
        have hk : (((acts i).1 : Nat) : Int).tmod 4 = 1 := by rw [Int.tmod_eq_emod_of_nonneg (by omega)]; omega
        have hw8 : IntKind.u8.wrap 1 = 1 := by decide
        clear hq
        go_wp2_with fail
        go_region_held3 (fun W' => W'.cell? ⟨wq.heap.size, 1, none⟩ = some (.int .i64 (acts i).2.1) ∧ W'.cell? ⟨wq.heap.size, 2, none⟩ = some (.int .i64 (acts i).2.2))
          (first | exact ⟨x1, x2⟩ | go_keep)
          (first
            | (go_at_call 11; refine (p_set (acts i).2.1 (acts i).2.2 HP5.out.drew).mono ?_; rintro e w6 ⟨rfl, hp6, hs6⟩; have kX6 := kX5.out.kept hgr hs6; have HP6 := Lib.hid hp6; replace x1 := kX6.cell1; replace x2 := kX6.cell2; clear hp6 hs6)
            | (go_at_call 12; refine (p_rset (acts i).2.1 (acts i).2.2 HP6.out).mono ?_; rintro e w7 ⟨rfl, hp7, hs7⟩; have kX := kX6.kept hgr hs7; have hp := hp7; replace x1 := kX.cell1; replace x2 := kX.cell2; clear hs7 hp7))
        generalize setM M n (acts i).2.1 (acts i).2.2 = MM at hp
        generalize setE n (acts i).2.1 = ee
        clear HP6 kX6 x1 x2
        have HKY := Lib.hid (p_key (acts i).2.1 hp)
        rw [keyEnd_eq] at HKY
        have x1 := kX.cell1
        go_wp2_with fail
        refine HKY.out.mono ?_
        rintro e w8 ⟨rfl, hp8, hs8⟩
        have HKR := Lib.hid (p_rkey (acts i).2.1 hp8)
        rw [keyEnd_eq] at HKR
        generalize (keyOf MM n (acts i).2.1).getD 0 = kk at HKR ⊢
        generalize (keyOf MM n (acts i).2.1).isSome = bb at HKR ⊢
        have kX8 := kX.kept hgr (.inl hs8)
        have x18 := kX8.cell1
        have HP8 := Lib.hid hp8
        clear HKY hp kX x1 hs8 hp8
        go_wp2_with fail
        refine HKR.out.mono ?_
        rintro e w9 ⟨rfl, rfl⟩
        have HLN := Lib.hid (p_len HP8.out)
        have HLR := Lib.hid (p_rlen HP8.out)
        clear HKR
        go_wp2_with fail
        refine HLN.out.mono ?_
        rintro e w10 ⟨rfl, hw10⟩
        subst hw10
        go_wp2_with fail
        refine HLR.out.mono ?_
        rintro e w11 ⟨rfl, hw11⟩
        subst hw11
        clear HLN HLR
        go_wp2_with fail
        go_roundw
        case rel => exact ⟨i + 1, by go_num, by omega, ⟨MM, HP8.out.less (by simp) (by simp) (by simp)⟩⟩
        case measure => simp [intOf]; omega
      · -- the first item is popped
        have hk : (((acts i).1 : Nat) : Int).tmod 4 = 2 := by rw [Int.tmod_eq_emod_of_nonneg (by omega)]; omega
        have hw8 : IntKind.u8.wrap 2 = 2 := by decide
        clear hq
        go_wp2_with fail
        refine (p_pop HP5.out).mono ?_
        rintro e w6 ⟨o, ho, rfl, hp6, hs6⟩
        rw [popE_eq]
        have kX6 := kX5.out.kept hgr (.inl hs6)
        have HP6 := Lib.hid hp6
        have HO := Lib.hid ho
        clear hp6 hs6 ho x1 x2
        go_wp2_with fail
        refine (p_rpop HP6.out).mono ?_
        rintro e w7 ⟨o', ho', rfl, hp, hs7⟩
        obtain rfl := popV_same HO.out ho'
        rw [popE_eq]
        have kX := kX6.kept hgr (.inr hs7)
        generalize popM M o = MM at hp
        generalize popI o = ii
        generalize popK o = ll
        generalize o.isSome = bo
        clear HP6 kX6 HO ho' hs7
        have HKY := Lib.hid (p_key (acts i).2.1 hp)
        rw [keyEnd_eq] at HKY
        have x1 := kX.cell1
        go_wp2_with fail
        refine HKY.out.mono ?_
        rintro e w8 ⟨rfl, hp8, hs8⟩
        have HKR := Lib.hid (p_rkey (acts i).2.1 hp8)
        rw [keyEnd_eq] at HKR
        generalize (keyOf MM n (acts i).2.1).getD 0 = kk at HKR ⊢
        generalize (keyOf MM n (acts i).2.1).isSome = bb at HKR ⊢
        have kX8 := kX.kept hgr (.inl hs8)
        have x18 := kX8.cell1
        have HP8 := Lib.hid hp8
        clear HKY hp kX x1 hs8 hp8
        go_wp2_with fail
        refine HKR.out.mono ?_
        rintro e w9 ⟨rfl, rfl⟩
        have HLN := Lib.hid (p_len HP8.out)
        have HLR := Lib.hid (p_rlen HP8.out)
        clear HKR
        go_wp2_with fail
        refine HLN.out.mono ?_
        rintro e w10 ⟨rfl, hw10⟩
        subst hw10
        go_wp2_with fail
        refine HLR.out.mono ?_
        rintro e w11 ⟨rfl, hw11⟩
        subst hw11
        clear HLN HLR
        go_wp2_with fail
        go_roundw
        case rel => exact ⟨i + 1, by go_num, by omega, ⟨MM, HP8.out.less (by simp) (by simp) (by simp)⟩⟩
        case measure => simp [intOf]; omega
      · -- an item is removed
        have hk : (((acts i).1 : Nat) : Int).tmod 4 = 3 := by rw [Int.tmod_eq_emod_of_nonneg (by omega)]; omega
        have hw8 : IntKind.u8.wrap 3 = 3 := by decide
        clear hq
        go_wp2_with fail
        go_region_held3 (fun W' => W'.cell? ⟨wq.heap.size, 1, none⟩ = some (.int .i64 (acts i).2.1))
          (first | exact x1 | go_keep)
          (first
            | (go_at_call 15; refine (p_remove (acts i).2.1 HP5.out.drew).mono ?_; rintro e w6 ⟨rfl, hp6, hs6⟩; have kX6 := kX5.out.kept hgr hs6; have HP6 := Lib.hid hp6; replace x1 := kX6.cell1; clear hp6 hs6)
            | (go_at_call 16; refine (p_rremove (acts i).2.1 HP6.out).mono ?_; rintro e w7 ⟨rfl, hp7, hs7⟩; have kX := kX6.kept hgr hs7; have hp := hp7; replace x1 := kX.cell1; clear hs7 hp7))
        generalize remM M n (acts i).2.1 = MM at hp
        generalize remE M n (acts i).2.1 = ee
        clear HP6 kX6 x1 x2
        have HKY := Lib.hid (p_key (acts i).2.1 hp)
        rw [keyEnd_eq] at HKY
        have x1 := kX.cell1
        go_wp2_with fail
        refine HKY.out.mono ?_
        rintro e w8 ⟨rfl, hp8, hs8⟩
        have HKR := Lib.hid (p_rkey (acts i).2.1 hp8)
        rw [keyEnd_eq] at HKR
        generalize (keyOf MM n (acts i).2.1).getD 0 = kk at HKR ⊢
        generalize (keyOf MM n (acts i).2.1).isSome = bb at HKR ⊢
        have kX8 := kX.kept hgr (.inl hs8)
        have x18 := kX8.cell1
        have HP8 := Lib.hid hp8
        clear HKY hp kX x1 hs8 hp8
        go_wp2_with fail
        refine HKR.out.mono ?_
        rintro e w9 ⟨rfl, rfl⟩
        have HLN := Lib.hid (p_len HP8.out)
        have HLR := Lib.hid (p_rlen HP8.out)
        clear HKR
        go_wp2_with fail
        refine HLN.out.mono ?_
        rintro e w10 ⟨rfl, hw10⟩
        subst hw10
        go_wp2_with fail
        refine HLR.out.mono ?_
        rintro e w11 ⟨rfl, hw11⟩
        subst hw11
        clear HLN HLR
        go_wp2_with fail
        go_roundw
        case rel => exact ⟨i + 1, by go_num, by omega, ⟨MM, HP8.out.less (by simp) (by simp) (by simp)⟩⟩
        case measure => simp [intOf]; omega
    · obtain ⟨M, hp0⟩ := hC
      have hi1 : ¬ ((i : Int) < (m : Int)) := by omega
      have HP0 := Lib.hid hp0
      clear hp0
      go_wp2_with fail
      go_loopw [21] (fun v wr => ∃ j : Int, v = .int .i64 j ∧ -1 ≤ j ∧ j ≤ (n : Int) + 1 ∧ Pair w [r, hB, kB] h0 P n r hB kB M M wr) (fun v _ => ((n : Int) + 1 - intOf v).toNat)
      case atStart => exact ⟨-1, rfl, by omega, by omega, HP0.out⟩
      case round =>
        clear HP0
        obtain ⟨wz, rfl⟩ : ∃ x, x = wr := ⟨_, rfl⟩
        obtain ⟨j, rfl, hj1, hj2, hp⟩ := hrel
        by_cases hjn : j ≤ (n : Int)
        · have hwj : IntKind.i64.wrap (j + 1) = j + 1 := IntWalk.i64_in _ (by omega)
          have HKY := Lib.hid (p_key j hp)
          rw [keyEnd_eq] at HKY
          clear hp
          go_wp2_with fail
          refine HKY.out.mono ?_
          rintro e w8 ⟨rfl, hp8, -⟩
          have HKR := Lib.hid (p_rkey j hp8)
          rw [keyEnd_eq] at HKR
          generalize (keyOf M n j).getD 0 = kk at HKR ⊢
          generalize (keyOf M n j).isSome = bb at HKR ⊢
          have HP8 := Lib.hid hp8
          clear HKY hp8
          go_wp2_with fail
          refine HKR.out.mono ?_
          rintro e w9 ⟨rfl, hw9⟩
          subst hw9
          clear HKR
          go_wp2_with fail
          go_roundw
          case rel => exact ⟨j + 1, rfl, by omega, by omega, HP8.out⟩
          case measure => simp [intOf]; omega
        · have hb := hp.below
          clear hp
          go_wp2_with fail
          go_ret
          exact ⟨rfl, hb⟩
end Go.Proofs.Ytijoaiehnemgnaa
