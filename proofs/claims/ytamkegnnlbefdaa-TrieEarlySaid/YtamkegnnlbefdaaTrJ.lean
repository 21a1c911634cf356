/- Contracts of package trie: Lookup, Len, Nodes, New; the helper route of the laws. -/
import Derived.Test.YtamkegnnlbefdaaTrI
namespace Go.Proofs.Ytamkegnnlbefdaa
open Go.RowKit

def lkV : Option Rt → Value
  | none => .tuple #[.agg #[.int .u32 0, .int .i64 0, .int .i64 0], .bool false]
  | some r => .tuple #[rtV r.1 r.2, .bool true]
def LastF (lo : Option Rt) (v : Value) (W : World) : Prop := match lo with
  | none => v = .pointer none
  | some r => ∃ g u z, v = ptr g ∧ Blk W g (ndC r.1 r.2 true u z) ndT
theorem stb_last (lo : Option Rt) (v : Value) : Stb (fun W => LastF lo v W) := fun W W' hb h => by
  cases lo with
  | none => exact h
  | some r => obtain ⟨g, u, z, e, hk⟩ := h; exact ⟨g, u, z, e, hk.step hb⟩
theorem stb_at (t : Tr) (v : Value) (S : Nat → Prop) : Stb (fun W => At t W v S) := fun _ _ hb h => h.below hb
def LkI (w : World) (a : Nat) (res : Option Rt) (n : Nat) (last cur : Value) (W : World) : Prop :=
  ∃ s lo S, cnt s = n ∧ WF s ∧ lkp a lo s = res ∧ Sr w [fun W => LastF lo last W, fun W => At s W cur S] [(w.heap.size, [.int .u32 0, .int .i64 0, .int .i64 0], 37)] W
theorem hasB_vld {q : Px} (hq : Vld q) (a : Nat) : hasB q.1 (q.2 : Int) a = decide (Has q a) := by
  unfold hasB
  rw [(vldB_vld (vld_lt hq)).2 hq, Int.toNat_natCast, Bool.true_and]
  exact decide_eq_decide.2 (has_fst hq.2.1 a)
set_option maxRecDepth 100000 in
set_option maxHeartbeats 8000000 in
theorem lookup_any {w : World} {gt a : Nat} {T : Tr} {S0 : Nat → Prop} (ha : a < 4294967296) (H : TrieP w gt T S0) :
    Calls Try.prog 17 #[ptr gt, .int .u32 (a : Int)] w fun e W => e = .returned (lkV (lkp a none T)) ∧ Below w.heap.size w W := by
  obtain ⟨res, hres⟩ : ∃ res, lkp a none T = res := ⟨_, rfl⟩
  rw [hres]
  obtain ⟨r0, hB0, hA0⟩ := H.2.blk
  obtain ⟨w1, hw1, S⟩ : ∃ w1, w.alloc (.cells #[.int .u32 0, .int .i64 0, .int .i64 0] 37) = w1 ∧ Hid (Sr w [fun W => Blk W gt (trC r0 (routes T).length (cnt T)) trT, fun W => LastF none (.pointer none) W, fun W => At T W r0 S0] [(w.heap.size, [.int .u32 0, .int .i64 0, .int .i64 0], 37)] w1) :=
    ⟨_, rfl, ((((Sr.start w).push (stb_at _ _ _) hA0).push (stb_last none _) rfl).push (stb_blk _ _ _) hB0).alloc [.int .u32 0, .int .i64 0, .int .i64 0] 37⟩
  have c0 := Blk.cell (S.out.fact 0 rfl) (i := 0) rfl
  have HI : Hid (LkI w a res (cnt T) (.pointer none) r0 w1) := ⟨T, none, S0, rfl, H.1, hres, S.out.sub2 (.cons _ (List.Sublist.refl _)) (List.Sublist.refl _)⟩
  have hC := Lib.hid (fun W (q : Px) (hq : Vld q) => contains_any q.1 (q.2 : Int) a W (vld_lt hq) ha)
  clear hB0 hA0 H hres
  unfold ptr
  go_enter Try.func17, Try.ntmps17
  go_wp2_with fail
  clear hw1 c0 S
  go_loopg [6, 7] (cnt T) (fun n last cur wr => LkI w a res n last cur wr)
  case atStart => exact HI.out
  case round =>
    clear HI
    obtain ⟨s, lo0, S1, hn, hws, hlk, hS⟩ := hrel
    have S := Lib.hid hS
    clear hS
    cases s with
    | nil =>
      obtain rfl := At.nil_val (S.out.fact 1 rfl)
      have HE : Hid (lo0 = res) := hlk
      clear hn hws hlk
      cases lo0 with
      | none =>
        have e1 := (S.out.fact 0 rfl)
        obtain rfl := e1
        replace S := Lib.hid (S.out.sub2 (L' := []) (List.nil_sublist _) (List.Sublist.refl _))
        have c0x0 := (S.out.at 0 rfl).cell (i := 0) rfl
        have c0x1 := (S.out.at 0 rfl).cell (i := 1) rfl
        have c0x2 := (S.out.at 0 rfl).cell (i := 2) rfl
        have c0x0 := (S.out.at 0 rfl).cell (i := 0) rfl
        have f0x0 := (S.out.at 0 rfl).frozen (i := 0)
        have c0x1 := (S.out.at 0 rfl).cell (i := 1) rfl
        have f0x1 := (S.out.at 0 rfl).frozen (i := 1)
        have c0x2 := (S.out.at 0 rfl).cell (i := 2) rfl
        have f0x2 := (S.out.at 0 rfl).frozen (i := 2)
        go_wp2_with fail
        have S1 := ((S.out.set 0 rfl (Nat.le_refl _) 0 (.int .u32 0) rfl).set 0 rfl (Nat.le_refl _) 1 (.int .i64 0) rfl).set 0 rfl (Nat.le_refl _) 2 (.int .i64 0) rfl
        simp only [List.set_cons_zero, List.set_cons_succ] at S1
        have T := Lib.hid S1
        clear S1
        have c0x0 := (T.out.at 0 rfl).cell (i := 0) rfl
        have c0x1 := (T.out.at 0 rfl).cell (i := 1) rfl
        have c0x2 := (T.out.at 0 rfl).cell (i := 2) rfl
        refine bodyPost_ret (v := .tuple #[.agg #[.int .u32 0, .int .i64 0, .int .i64 0], .bool false]) (by simp [results, Try.results17, go_sem, c0x0, c0x1, c0x2]) rfl ?_
        exact ⟨by rw [← HE.out]; rfl, T.out.low⟩
      | some lo =>
        obtain ⟨gl, ul, vl, rfl, hbl⟩ := S.out.fact 0 rfl
        replace S := Lib.hid (S.out.push (stb_blk gl _ _) hbl)
        clear hbl
        unfold ptr
        have hR := Lib.hid (fun W (hb : Blk W gl (ndC lo.1 lo.2 true ul vl) ndT) => route_any hb)
        unfold ptr at hR
        go_wp2_with fail
        refine (hR.out _ (S.out.fact 0 rfl)).mono ?_
        rintro e w9 ⟨rfl, hb⟩
        replace S := Lib.hid ((S.out.below hb).sub2 (L' := []) (List.nil_sublist _) (List.Sublist.refl _))
        clear hb hR
        have c0x0 := (S.out.at 0 rfl).cell (i := 0) rfl
        have c0x1 := (S.out.at 0 rfl).cell (i := 1) rfl
        have c0x2 := (S.out.at 0 rfl).cell (i := 2) rfl
        have c0x0 := (S.out.at 0 rfl).cell (i := 0) rfl
        have f0x0 := (S.out.at 0 rfl).frozen (i := 0)
        have c0x1 := (S.out.at 0 rfl).cell (i := 1) rfl
        have f0x1 := (S.out.at 0 rfl).frozen (i := 1)
        have c0x2 := (S.out.at 0 rfl).cell (i := 2) rfl
        have f0x2 := (S.out.at 0 rfl).frozen (i := 2)
        go_wp2_with fail
        have S1 := ((S.out.set 0 rfl (Nat.le_refl _) 0 (.int .u32 (lo.1.1 : Int)) rfl).set 0 rfl (Nat.le_refl _) 1 (.int .i64 (lo.1.2 : Int)) rfl).set 0 rfl (Nat.le_refl _) 2 (.int .i64 lo.2) rfl
        simp only [List.set_cons_zero, List.set_cons_succ] at S1
        have T := Lib.hid S1
        clear S1
        have c0x0 := (T.out.at 0 rfl).cell (i := 0) rfl
        have c0x1 := (T.out.at 0 rfl).cell (i := 1) rfl
        have c0x2 := (T.out.at 0 rfl).cell (i := 2) rfl
        refine bodyPost_ret (v := .tuple #[rtV lo.1 lo.2, .bool true]) (by simp [results, Try.results17, go_sem, c0x0, c0x1, c0x2]) rfl ?_
        exact ⟨by rw [← HE.out]; rfl, T.out.low⟩
    | node q x h l r =>
      obtain ⟨g, u, v, Sl, Sr', rfl, -, hbg, hal, har, -, -⟩ := (S.out.fact 1 rfl : At (.node q x h l r) wr _ S1)
      replace S := Lib.hid (((S.out.push (stb_at _ _ _) har).push (stb_at _ _ _) hal).push (stb_blk g _ _) hbg)
      have c0 := hbg.cell (i := 0) rfl
      have c1 := hbg.cell (i := 1) rfl
      have hq32 := hws.1.1
      have hCq := Lib.hid (fun W => hC.out W q hws.1)
      rw [hasB_vld hws.1] at hCq
      have HT := Lib.hid (fun W (hb : Blk W g (ndC q x h u v) ndT) => toward_any a hb hq32)
      unfold ptr at HT ⊢
      clear hbg hal har
      by_cases hH : Has q a
      · rw [decide_eq_true hH] at hCq
        have hl2 : lkp a (if h = true then some (q, x) else lo0) (kidOf (dir a q.2) l r) = res := by
          rw [← hlk]
          simp only [lkp, if_pos hH]
          unfold kidOf
          cases dir a q.2 <;> rfl
        have HK := Lib.hid (show lkp a (if h = true then some (q, x) else lo0) (kidOf (dir a q.2) l r) = res ∧ WF (kidOf (dir a q.2) l r) ∧ cnt (kidOf (dir a q.2) l r) < gk from ⟨hl2, by unfold kidOf; split; exact hws.2.2.2.2.2; exact hws.2.2.2.2.1, by rw [← hn, cnt_node]; unfold kidOf; split <;> omega⟩)
        clear hl2 hn hws hlk hH
        go_wp2_with fail
        refine (hCq.out _).mono ?_
        rintro e w2 ⟨rfl, hb⟩
        replace S := Lib.hid (S.out.below hb)
        clear hb hCq c0 c1
        have c3 := Blk.cell (S.out.fact 0 rfl) (i := 3) rfl
        cases h
        · go_wp2_with fail
          refine (HT.out _ (S.out.fact 0 rfl)).mono ?_
          rintro e w3 ⟨rfl, hb⟩
          replace S := Lib.hid (S.out.below hb)
          clear hb HT c3
          obtain ⟨d, hd⟩ : ∃ d, dir a q.2 = d := ⟨_, rfl⟩
          rw [hd] at HK ⊢
          clear hd
          cases d
          · have c9 := Blk.cell (S.out.fact 0 rfl) (i := 4) rfl
            unfold kidAt
            simp only [Bool.false_eq_true, if_false]
            go_wp2_with fail
            go_roundg (cnt l)
            case measure => exact HK.out.2.2
            case rel => exact ⟨l, lo0, Sl, rfl, HK.out.2.1, HK.out.1, ((S.out.sub2 (L' := []) (List.nil_sublist _) (List.Sublist.refl _)).push (stb_at _ _ _) (S.out.fact 1 rfl)).push (stb_last lo0 _) (S.out.fact 3 rfl)⟩
          · have c9 := Blk.cell (S.out.fact 0 rfl) (i := 5) rfl
            unfold kidAt
            simp only [if_true]
            go_wp2_with fail
            go_roundg (cnt r)
            case measure => exact HK.out.2.2
            case rel => exact ⟨r, lo0, Sr', rfl, HK.out.2.1, HK.out.1, ((S.out.sub2 (L' := []) (List.nil_sublist _) (List.Sublist.refl _)).push (stb_at _ _ _) (S.out.fact 2 rfl)).push (stb_last lo0 _) (S.out.fact 3 rfl)⟩
        · go_wp2_with fail
          refine (HT.out _ (S.out.fact 0 rfl)).mono ?_
          rintro e w3 ⟨rfl, hb⟩
          replace S := Lib.hid (S.out.below hb)
          clear hb HT c3
          obtain ⟨d, hd⟩ : ∃ d, dir a q.2 = d := ⟨_, rfl⟩
          rw [hd] at HK ⊢
          clear hd
          cases d
          · have c9 := Blk.cell (S.out.fact 0 rfl) (i := 4) rfl
            unfold kidAt
            simp only [Bool.false_eq_true, if_false]
            go_wp2_with fail
            go_roundg (cnt l)
            case measure => exact HK.out.2.2
            case rel => exact ⟨l, (some (q, x)), Sl, rfl, HK.out.2.1, HK.out.1, ((S.out.sub2 (L' := []) (List.nil_sublist _) (List.Sublist.refl _)).push (stb_at _ _ _) (S.out.fact 1 rfl)).push (stb_last (some (q, x)) _) ⟨g, u, v, rfl, S.out.fact 0 rfl⟩⟩
          · have c9 := Blk.cell (S.out.fact 0 rfl) (i := 5) rfl
            unfold kidAt
            simp only [if_true]
            go_wp2_with fail
            go_roundg (cnt r)
            case measure => exact HK.out.2.2
            case rel => exact ⟨r, (some (q, x)), Sr', rfl, HK.out.2.1, HK.out.1, ((S.out.sub2 (L' := []) (List.nil_sublist _) (List.Sublist.refl _)).push (stb_at _ _ _) (S.out.fact 2 rfl)).push (stb_last (some (q, x)) _) ⟨g, u, v, rfl, S.out.fact 0 rfl⟩⟩
      · rw [decide_eq_false hH] at hCq
        have he2 : lo0 = res := by rw [← hlk]; simp only [lkp, if_neg hH]
        have HE := Lib.hid he2
        clear he2 hn hws hlk hH HT
        go_wp2_with fail
        refine (hCq.out _).mono ?_
        rintro e w2 ⟨rfl, hb⟩
        replace S := Lib.hid (S.out.below hb)
        clear hb hCq c0 c1
        cases lo0 with
        | none =>
          have e1 := (S.out.fact 3 rfl)
          obtain rfl := e1
          replace S := Lib.hid (S.out.sub2 (L' := []) (List.nil_sublist _) (List.Sublist.refl _))
          have c0x0 := (S.out.at 0 rfl).cell (i := 0) rfl
          have c0x1 := (S.out.at 0 rfl).cell (i := 1) rfl
          have c0x2 := (S.out.at 0 rfl).cell (i := 2) rfl
          have c0x0 := (S.out.at 0 rfl).cell (i := 0) rfl
          have f0x0 := (S.out.at 0 rfl).frozen (i := 0)
          have c0x1 := (S.out.at 0 rfl).cell (i := 1) rfl
          have f0x1 := (S.out.at 0 rfl).frozen (i := 1)
          have c0x2 := (S.out.at 0 rfl).cell (i := 2) rfl
          have f0x2 := (S.out.at 0 rfl).frozen (i := 2)
          go_wp2_with fail
          have S1 := ((S.out.set 0 rfl (Nat.le_refl _) 0 (.int .u32 0) rfl).set 0 rfl (Nat.le_refl _) 1 (.int .i64 0) rfl).set 0 rfl (Nat.le_refl _) 2 (.int .i64 0) rfl
          simp only [List.set_cons_zero, List.set_cons_succ] at S1
          have T := Lib.hid S1
          clear S1
          have c0x0 := (T.out.at 0 rfl).cell (i := 0) rfl
          have c0x1 := (T.out.at 0 rfl).cell (i := 1) rfl
          have c0x2 := (T.out.at 0 rfl).cell (i := 2) rfl
          refine bodyPost_ret (v := .tuple #[.agg #[.int .u32 0, .int .i64 0, .int .i64 0], .bool false]) (by simp [results, Try.results17, go_sem, c0x0, c0x1, c0x2]) rfl ?_
          exact ⟨by rw [← HE.out]; rfl, T.out.low⟩
        | some lo =>
          obtain ⟨gl, ul, vl, rfl, hbl⟩ := S.out.fact 3 rfl
          replace S := Lib.hid (S.out.push (stb_blk gl _ _) hbl)
          clear hbl
          unfold ptr
          have hR := Lib.hid (fun W (hb : Blk W gl (ndC lo.1 lo.2 true ul vl) ndT) => route_any hb)
          unfold ptr at hR
          go_wp2_with fail
          refine (hR.out _ (S.out.fact 0 rfl)).mono ?_
          rintro e w9 ⟨rfl, hb⟩
          replace S := Lib.hid ((S.out.below hb).sub2 (L' := []) (List.nil_sublist _) (List.Sublist.refl _))
          clear hb hR
          have c0x0 := (S.out.at 0 rfl).cell (i := 0) rfl
          have c0x1 := (S.out.at 0 rfl).cell (i := 1) rfl
          have c0x2 := (S.out.at 0 rfl).cell (i := 2) rfl
          have c0x0 := (S.out.at 0 rfl).cell (i := 0) rfl
          have f0x0 := (S.out.at 0 rfl).frozen (i := 0)
          have c0x1 := (S.out.at 0 rfl).cell (i := 1) rfl
          have f0x1 := (S.out.at 0 rfl).frozen (i := 1)
          have c0x2 := (S.out.at 0 rfl).cell (i := 2) rfl
          have f0x2 := (S.out.at 0 rfl).frozen (i := 2)
          go_wp2_with fail
          have S1 := ((S.out.set 0 rfl (Nat.le_refl _) 0 (.int .u32 (lo.1.1 : Int)) rfl).set 0 rfl (Nat.le_refl _) 1 (.int .i64 (lo.1.2 : Int)) rfl).set 0 rfl (Nat.le_refl _) 2 (.int .i64 lo.2) rfl
          simp only [List.set_cons_zero, List.set_cons_succ] at S1
          have T := Lib.hid S1
          clear S1
          have c0x0 := (T.out.at 0 rfl).cell (i := 0) rfl
          have c0x1 := (T.out.at 0 rfl).cell (i := 1) rfl
          have c0x2 := (T.out.at 0 rfl).cell (i := 2) rfl
          refine bodyPost_ret (v := .tuple #[rtV lo.1 lo.2, .bool true]) (by simp [results, Try.results17, go_sem, c0x0, c0x1, c0x2]) rfl ?_
          exact ⟨by rw [← HE.out]; rfl, T.out.low⟩
set_option maxRecDepth 100000 in
theorem new_any (w : World) : Calls Try.prog 23 #[] w fun e W => ∃ gt, e = .returned (ptr gt) ∧ TrieP W gt .nil (fun _ => False) ∧ w.heap.size ≤ gt ∧ Below w.heap.size w W := by
  go_enter Try.func23, Try.ntmps23
  go_wp2_with fail
  go_ret
  refine ⟨w.heap.size, rfl, ⟨trivial, ⟨.pointer none, Blk.new w (trC (.pointer none) 0 0) trT, rfl⟩, fun h => h, fun _ h => h.elim⟩, Nat.le_refl _, (Below.refl _ w).alloc (Nat.le_refl _) _⟩
set_option maxRecDepth 100000 in
theorem len_any {w : World} {gt : Nat} {T : Tr} {S0 : Nat → Prop} (H : TrieP w gt T S0) : Calls Try.prog 14 #[ptr gt] w fun e W => e = .returned (.int .i64 ((routes T).length : Nat)) ∧ W = w := by
  obtain ⟨r, hB, -⟩ := H.2.blk
  have c1 := hB.cell (i := 1) rfl
  generalize (routes T).length = R at *
  clear hB H
  unfold ptr
  go_enter Try.func14, Try.ntmps14
  go_wp2_with fail
  go_ret
  exact ⟨rfl, rfl⟩
set_option maxRecDepth 100000 in
theorem nodes_any {w : World} {gt : Nat} {T : Tr} {S0 : Nat → Prop} (H : TrieP w gt T S0) : Calls Try.prog 15 #[ptr gt] w fun e W => e = .returned (.int .i64 (cnt T : Nat)) ∧ W = w := by
  obtain ⟨r, hB, -⟩ := H.2.blk
  have c2 := hB.cell (i := 2) rfl
  generalize cnt T = N at *
  clear hB H
  unfold ptr
  go_enter Try.func15, Try.ntmps15
  go_wp2_with fail
  go_ret
  exact ⟨rfl, rfl⟩
end Go.Proofs.Ytamkegnnlbefdaa
