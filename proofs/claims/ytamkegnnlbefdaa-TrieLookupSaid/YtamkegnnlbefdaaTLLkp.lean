/- The law TrieLookup. -/
import Derived.Test.YtamkegnnlbefdaaTrBe
import Derived.Test.YtamkegnnlbefdaaTrAa
namespace Go.Proofs.Ytamkegnnlbefdaa
open Go.RowKit

theorem routes_vld {T : Tr} (hw : WF T) : ∀ r ∈ routes T, Vld r.1 := fun r hr => wf_vld hw _ (routes_prefs r hr)
theorem lk_form (o : Option Rt) : ∃ (ra rl rv : Int) (f : Bool), lkV o = .tuple #[.agg #[.int .u32 ra, .int .i64 rl, .int .i64 rv], .bool f] := by
  cases o with
  | none => exact ⟨_, _, _, _, rfl⟩
  | some r => exact ⟨_, _, _, _, rfl⟩
theorem get_form (o : Option Int) : ∃ (x : Int) (f : Bool), getV o = .tuple #[.int .i64 x, .bool f] := by
  cases o with
  | none => exact ⟨_, _, rfl⟩
  | some r => exact ⟨_, _, rfl⟩
theorem lk_eq {w W : World} {T : Tr} {x : Nat} {e : Ending} (hw : WF T) (h : LkQ w (routes T) x e W) : e = .returned (lkV (lkp x none T)) ∧ Below w.heap.size w W := by
  obtain ⟨h1, o, h2, rfl⟩ := h
  obtain rfl : o = lkp x none T := best_uniq (routes_sorted hw) (routes_vld hw) h2 (lkp_none hw)
  refine ⟨?_, h1⟩
  cases lkp x none T <;> rfl
theorem gt_eq {w W : World} {T : Tr} {a : Nat} {l : Int} {e : Ending} (ha : a < 4294967296) (hw : WF T) (h : GtQ w a l (routes T) e W) : e = .returned (getV (getT a l T)) ∧ Below w.heap.size w W := by
  obtain ⟨h1, h2⟩ := h
  refine ⟨?_, h1⟩
  rcases h2 with ⟨i, hi, ⟨e1, e2⟩, -, rfl⟩ | ⟨h2, rfl⟩
  · have hm := List.getElem_mem hi
    have hv := routes_vld hw _ hm
    obtain ⟨⟨⟨b, n⟩, z⟩, hx⟩ : ∃ x, (routes T)[i] = x := ⟨_, rfl⟩
    rw [hx] at e1 e2 hm hv ⊢
    dsimp only at e1 e2 hv
    subst e1 e2
    unfold getT
    rw [if_pos ((vldB_vld ha).2 hv), Int.toNat_natCast, (get_iff hv hw z).2 hm]
    rfl
  · unfold getT
    by_cases hv : vldB a l = true
    · obtain ⟨n, rfl, hp⟩ := good_px ha (by rw [hv]; simp)
      rw [if_pos hv, Int.toNat_natCast]
      cases hy : valT (a, n) (reachT (a, n) T) with
      | none => rfl
      | some z =>
        obtain ⟨j, hj, he⟩ := List.getElem_of_mem ((get_iff hp hw z).1 hy)
        exact absurd ⟨by rw [he], by rw [he]⟩ (h2 j hj)
    · rw [if_neg hv]
      rfl
theorem own_get {w W : World} {gt a : Nat} {l : Int} {T : Tr} (h : Own w gt T W) (ha : a < 4294967296) : Calls Try.prog 19 #[ptr gt, pv a l] W fun e W' => e = .returned (getV (getT a l T)) ∧ Below W.heap.size W W' := by
  obtain ⟨S0, h1, h2, h3, h4⟩ := h
  exact get_any ha h1.1 h1.2.pl h1.2.lt
theorem stb_bth (w : World) (gt : Nat) (T : Tr) (vr : Value) : Stb (fun W => Bth w gt T vr W) := fun _ _ hb h => h.below hb
set_option maxRecDepth 100000 in
set_option maxHeartbeats 8000000 in
theorem lawLookup {w : World} {v : Value} {ops : List OpV} {x a : Nat} {l : Int} (h : OpsL w v ops) (hx : x < 4294967296) (ha : a < 4294967296) :
    Calls Try.prog 4 #[v, .int .u32 (x : Int), pv a l] w fun e W => e = .returned (.bool true) ∧ Below w.heap.size w W := by
  have hA := Lib.hid (fun W => awake_any W)
  have HO := Lib.hid h
  obtain ⟨A, c, rfl, -⟩ := h
  obtain ⟨w0, hw0, S⟩ : ∃ w1, w.alloc (.cells #[.int .u32 (a : Int), .int .i64 l] 35) = w1 ∧ Hid (Sr w [] [(w.heap.size, [.int .u32 (a : Int), .int .i64 l], 35)] w1) :=
    ⟨_, rfl, (Sr.start w).alloc [.int .u32 (a : Int), .int .i64 l] 35⟩
  obtain ⟨g0, hg0⟩ : ∃ g0, w.heap.size = g0 := ⟨_, rfl⟩
  by_cases hn : ops.length ≤ 80
  · have hB := Lib.hid (fun W (hW : Below w.heap.size w W) => build_any (HO.out.below hW) hn)
    obtain ⟨n, hnn⟩ : ∃ n, ops.length = n := ⟨_, rfl⟩
    rw [hnn] at hn hB ⊢
    have hn1 : ¬ (80 : Int) < (n : Int) := by omega
    have hn2 : (n : Int) ≤ 80 := by omega
    clear hnn HO
    have HG := Lib.hid hg0
    rw [show w.heap.size = g0 from hg0] at S
    go_enter Try.func4, Try.ntmps4
    go_wp2_with fail
    refine (hA.out _).mono ?_
    rintro e w1 ⟨rfl, hb⟩
    replace S := Lib.hid (S.out.below hb)
    clear hb hA hw0
    have hB2 := Lib.hid (hB.out w1 S.out.low)
    clear hB
    go_wp2_with fail
    refine hB2.out.mono ?_
    rintro e w2 ⟨gt, T, vr, rfl, hb, hl⟩
    replace S := Lib.hid ((S.out.below hb.1.own.low).push (stb_bth _ _ _ _) hb)
    have hwf := hb.1.own.wf
    have q1 := Lib.hid (fun W (h : Bth w1 gt T vr W) => own_lookup h.1.own hx)
    have q2 := Lib.hid (fun W (h : Bth w1 gt T vr W) => (refLookup_any (x := x) h.2.tl (routes_vld hwf) hx (by omega)).mono fun e W' h => lk_eq hwf h)
    have q3 := Lib.hid (fun W (h : Bth w1 gt T vr W) => own_get (l := l) h.1.own ha)
    have q4 := Lib.hid (fun W (h : Bth w1 gt T vr W) => (refGet_any (a := a) (l := l) h.2.tl (by omega)).mono fun e W' h => gt_eq ha hwf h)
    obtain ⟨ra, rl, rv, f, hf⟩ := lk_form (lkp x none T)
    obtain ⟨y, f2, hf2⟩ := get_form (getT a l T)
    rw [hf] at q1 q2
    rw [hf2] at q3 q4
    unfold ptr at q1 q3
    clear hB2 hb hl hf hf2 hwf hx ha
    go_wp2_with fail
    refine (q1.out _ (S.out.fact 0 rfl)).mono ?_
    rintro e w3 ⟨rfl, hb⟩
    replace S := Lib.hid ((S.out.below hb).alloc [.int .u32 ra, .int .i64 rl, .int .i64 rv] 37)
    generalize hx3 : w3.heap.size = x3 at S
    obtain ⟨w4, hw4⟩ : ∃ w4, w3.alloc (.cells #[.int .u32 ra, .int .i64 rl, .int .i64 rv] 37) = w4 := ⟨_, rfl⟩
    rw [hw4] at S
    clear hb q1
    go_wp2_with fail
    clear hw4 hx3
    refine (q2.out _ (S.out.fact 0 rfl)).mono ?_
    rintro e w5 ⟨rfl, hb⟩
    replace S := Lib.hid ((S.out.below hb).alloc [.int .u32 ra, .int .i64 rl, .int .i64 rv] 37)
    generalize hx5 : w5.heap.size = x5 at S
    obtain ⟨w6, hw6⟩ : ∃ w6, w5.alloc (.cells #[.int .u32 ra, .int .i64 rl, .int .i64 rv] 37) = w6 := ⟨_, rfl⟩
    rw [hw6] at S
    clear hb q2
    have c2x0 := (S.out.at 2 rfl).cell (i := 0) rfl
    have c2x1 := (S.out.at 2 rfl).cell (i := 1) rfl
    go_wp2_with fail
    clear hw6 hx5 c2x0 c2x1
    refine (q3.out _ (S.out.fact 0 rfl)).mono ?_
    rintro e w7 ⟨rfl, hb⟩
    replace S := Lib.hid (S.out.below hb)
    clear hb q3
    have c2x0 := (S.out.at 2 rfl).cell (i := 0) rfl
    have c2x1 := (S.out.at 2 rfl).cell (i := 1) rfl
    go_wp2_with fail
    clear c2x0 c2x1
    refine (q4.out _ (S.out.fact 0 rfl)).mono ?_
    rintro e w8 ⟨rfl, hb⟩
    replace S := Lib.hid (S.out.below hb)
    clear hb q4
    have c0x0 := (S.out.at 0 rfl).cell (i := 0) rfl
    have c0x1 := (S.out.at 0 rfl).cell (i := 1) rfl
    have c0x2 := (S.out.at 0 rfl).cell (i := 2) rfl
    have c1x0 := (S.out.at 1 rfl).cell (i := 0) rfl
    have c1x1 := (S.out.at 1 rfl).cell (i := 1) rfl
    have c1x2 := (S.out.at 1 rfl).cell (i := 2) rfl
    go_wp2_with fail
    go_ret
    exact ⟨rfl, S.out.low⟩
  · obtain ⟨n, hnn⟩ : ∃ n, ops.length = n := ⟨_, rfl⟩
    rw [hnn] at hn ⊢
    have hn1 : (80 : Int) < (n : Int) := by omega
    clear hnn HO hx ha hg0
    go_enter Try.func4, Try.ntmps4
    go_wp2_with fail
    refine (hA.out _).mono ?_
    rintro e w1 ⟨rfl, hb⟩
    replace S := Lib.hid (S.out.below hb)
    clear hb hw0
    go_wp2_with fail
    refine (hA.out _).mono ?_
    rintro e w2 ⟨rfl, hb⟩
    replace S := Lib.hid (S.out.below hb)
    clear hb hA
    go_wp2_with fail
    go_ret
    exact ⟨rfl, S.out.low⟩
end Go.Proofs.Ytamkegnnlbefdaa
