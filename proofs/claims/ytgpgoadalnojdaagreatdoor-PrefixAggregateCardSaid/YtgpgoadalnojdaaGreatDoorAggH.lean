/- The law PrefixSame. -/
import Derived.Test.YtgpgoadalnojdaaGreatDoorAggG
import Derived.Test.YtgpgoadalnojdaaGreatDoorPfxB
import Derived.Test.YtgpgoadalnojdaaGreatDoorPfxK
namespace Go.Proofs.YtgpgoadalnojdaaGreatDoor
open Go.RowKit

theorem few_any (A : Option Addr) (n c : Nat) (w : World) : Calls Tryz.prog 7 #[.slice A n c] w fun e w' => e = .returned (.bool (decide (n ≤ 30))) ∧ w' = w := by
  by_cases h : n ≤ 30
  · rw [decide_eq_true h]
    have h1 : (n : Int) ≤ 30 := by omega
    go_enter Tryz.func7, Tryz.ntmps7
    go_wp2
    go_ret
    exact ⟨rfl, rfl⟩
  · rw [decide_eq_false h]
    have h1 : ¬ (n : Int) ≤ 30 := by omega
    go_enter Tryz.func7, Tryz.ntmps7
    go_wp2
    go_ret
    exact ⟨rfl, rfl⟩
theorem hasB_has {p : Px} (hp : Vld p) (x : Nat) : hasB p.1 (p.2 : Int) x = true ↔ Has p x := by
  unfold hasB
  rw [(vldB_vld (vld_lt hp)).2 hp, Bool.true_and, decide_eq_true_eq, Int.toNat_natCast, has_fst hp.2.1]
theorem u_pl {n : Nat} {xs : Nat → Nat × Int} (hv : AllV n xs) (hV : ∀ p ∈ pl n xs, Vld p) (x : Nat) : U (pl n xs) x ↔ ∃ j, j < n ∧ hasB (xs j).1 (xs j).2 x = true := by
  have each : ∀ j, j < n → (hasB (xs j).1 (xs j).2 x = true ↔ Has (up (xs j)) x) := fun j hj => by
    obtain ⟨m, hm, -, -⟩ := vldB_true (hv j hj)
    have h := hasB_has (hV (up (xs j)) (List.mem_map.2 ⟨j, List.mem_range.2 hj, rfl⟩)) x
    rw [← h]
    simp [up, hm]
  constructor
  · rintro ⟨p, hp, hh⟩
    obtain ⟨j, hj, rfl⟩ := List.mem_map.1 hp
    rw [List.mem_range] at hj
    exact ⟨j, hj, (each j hj).2 hh⟩
  · rintro ⟨j, hj, hh⟩
    exact ⟨_, List.mem_map.2 ⟨j, List.mem_range.2 hj, rfl⟩, (each j hj).1 hh⟩
theorem u_take {M : List Px} {k : Nat} (hk : k < M.length) (x : Nat) : U (M.take (k + 1)) x ↔ (U (M.take k) x ∨ Has M[k] x) := by
  rw [List.take_succ_eq_append_getElem hk, u_snoc]

/-- The state of the law's loops: the list, and the aggregate's row. -/
def SI (w : World) (v : Value) (X : List Px) (wr : World) : Prop := Below w.heap.size w wr ∧ OwnP wr w.heap.size v X
theorem SI.below {w wr wr' : World} {v : Value} {X : List Px} (h : SI w v X wr) (hb : Below wr.heap.size wr wr') : SI w v X wr' := ⟨h.1.trans (hb.mono h.1.size), h.2.below hb⟩

set_option maxRecDepth 100000 in
set_option maxHeartbeats 16000000 in
theorem lawSame_many {w : World} {A : Option Addr} {n c : Nat} {x : Nat} (hV : Vars w) (hn : ¬ n ≤ 30) :
    Calls Tryz.prog 4 #[.slice A n c, .int .u32 (x : Int)] w fun e w' => e = .returned (.bool true) ∧ Below w.heap.size w w' := by
  have hAw := Lib.hid (fun (W : World) (hW : Below w.heap.size w W) => awake_any W (hV.below hW))
  have hFw := Lib.hid (few_any A n c)
  rw [decide_eq_false hn] at hFw
  clear hV hn
  go_enter Tryz.func4, Tryz.ntmps4
  go_wp2_with fail
  refine (hAw.out _ (Below.refl _ _)).mono ?_
  rintro e w1 ⟨rfl, hb1⟩
  have H1 := Lib.hid hb1
  clear hb1
  go_wp2_with fail
  refine (hFw.out _).mono ?_
  rintro e w2 ⟨rfl, rfl⟩
  go_wp2_with fail
  refine (hAw.out _ H1.out).mono ?_
  rintro e w3 ⟨rfl, hb3⟩
  have H3 := Lib.hid (H1.out.trans (hb3.mono H1.out.size))
  clear hb3
  go_wp2_with fail
  go_ret
  exact ⟨rfl, H3.out⟩

set_option maxRecDepth 100000 in
set_option maxHeartbeats 16000000 in
theorem lawSame_few {w : World} {A : Option Addr} {n c : Nat} {xs : Nat → Nat × Int} {x : Nat} (hL : PxL w A n xs) (hV : Vars w) (hn : n ≤ 30) (hx : x < 4294967296) :
    Calls Tryz.prog 4 #[.slice A n c, .int .u32 (x : Int)] w fun e w' => e = .returned (.bool true) ∧ Below w.heap.size w w' := by
  have hAw := Lib.hid (fun (W : World) (hW : Below w.heap.size w W) => awake_any W (hV.below hW))
  have hFw := Lib.hid (few_any A n c)
  rw [decide_eq_true hn] at hFw
  have HL := Lib.hid hL
  have hAg := Lib.hid (fun (W : World) (hW : Below w.heap.size w W) => agg_any (c := c) (hL.below hW) (by omega))
  have hCo := Lib.hid (fun (a : Nat) (l : Int) (W : World) (ha : a < 4294967296) => refContains_any a l x W ha hx)
  have HPL := Lib.hid (fun hv => pl_vld hL hv)
  clear hV hL hx
  go_enter Tryz.func4, Tryz.ntmps4
  go_wp2_with fail
  refine (hAw.out _ (Below.refl _ _)).mono ?_
  rintro e w1 ⟨rfl, hb1⟩
  have H1 := Lib.hid hb1
  clear hb1
  go_wp2_with fail
  refine (hFw.out _).mono ?_
  rintro e w2 ⟨rfl, rfl⟩
  go_wp2_with fail
  refine (hAg.out _ H1.out).mono ?_
  rintro e w3 (⟨hav, v, X, rfl, ho, hc, hl, hu, hb3⟩ | ⟨hav, rfl, hb3⟩)
  case inr =>
    have H3 := Lib.hid (H1.out.trans (hb3.mono H1.out.size))
    clear hb3 hav
    go_wp2_with fail
    go_ret
    exact ⟨rfl, H3.out⟩
  case inl =>
    have H3 := Lib.hid (show SI w v X w3 from ⟨H1.out.trans (hb3.mono H1.out.size), OwnP.base ho H1.out.size⟩)
    have HX := Lib.hid (And.intro hc (show ∀ y, U X y ↔ ∃ j, j < n ∧ hasB (xs j).1 (xs j).2 y = true from fun y => (hu y).trans (u_pl hav (HPL.out hav) y)))
    have HAV := Lib.hid hav
    obtain ⟨A2, cap2, rfl, -, -⟩ := ho.form
    obtain ⟨m, hm⟩ : ∃ m, X.length = m := ⟨_, rfl⟩
    have hmn : m ≤ 30 := by omega
    rw [hm] at H3 ⊢
    have HM := Lib.hid hm
    clear hb3 hav ho hc hu hl hm
    go_wp2_with fail
    go_loopw [9, 7] (fun vi vx wr => ∃ (i : Nat) (b : Bool), vi = .int .i64 (i : Nat) ∧ i ≤ n ∧ vx = .bool b ∧ Hid ((b = true ↔ ∃ j, j < i ∧ hasB (xs j).1 (xs j).2 x = true) ∧ SI w (.slice A2 m cap2) X wr)) (fun vi _ _ => n - (intOf vi).toNat)
    case atStart => exact ⟨0, false, rfl, Nat.zero_le _, rfl, Lib.hid ⟨by simp, H3.out⟩⟩
    case round =>
      clear H3
      obtain ⟨wq, rfl⟩ : ∃ x, x = wr := ⟨_, rfl⟩
      obtain ⟨i, b, rfl, hi, rfl, HI⟩ := hrel
      by_cases him : i < n
      · have hz0 : (0 : Int) ≤ (i : Int) := by omega
        have hz1 : (i : Int) < (n : Int) := by omega
        have hwi : IntKind.i64.wrap ((i : Int) + 1) = (i : Int) + 1 := IntWalk.i64_in _ (by omega)
        cases b with
        | true =>
          go_wp2_with fail
          go_roundw
          case rel =>
            refine ⟨i + 1, true, by go_num, by omega, rfl, Lib.hid ⟨?_, HI.out.2⟩⟩
            obtain ⟨j, hj, hh⟩ := HI.out.1.1 rfl
            exact ⟨fun _ => ⟨j, by omega, hh⟩, fun _ => rfl⟩
          case measure => simp [intOf]; omega
        | false =>
          obtain ⟨b, off, rfl, hb, c0, c1, ha⟩ := HL.out.below HI.out.2.1 i him
          have hC := Lib.hid (fun W => hCo.out (xs i).1 (xs i).2 W ha)
          obtain ⟨r, hr⟩ : ∃ r, hasB (xs i).1 (xs i).2 x = r := ⟨_, rfl⟩
          rw [hr] at hC
          have HR := Lib.hid hr
          clear hr
          go_wp2_with fail
          refine (hC.out _).mono ?_
          rintro e w5 ⟨rfl, hb5⟩
          have H5 := Lib.hid (HI.out.2.below hb5)
          clear hb5 c0 c1
          go_wp2_with fail
          go_roundw
          case rel =>
            refine ⟨i + 1, r, by go_num, by omega, rfl, Lib.hid ⟨?_, H5.out⟩⟩
            constructor
            · intro h; exact ⟨i, by omega, HR.out.trans h⟩
            · rintro ⟨j, hj, hh⟩
              rcases Nat.lt_succ_iff_lt_or_eq.1 hj with h | h
              · have := HI.out.1.2 ⟨j, h, hh⟩; cases this
              · rw [h] at hh; exact HR.out.symm.trans hh
          case measure => simp [intOf]; omega
      · obtain rfl : i = n := by omega
        have hi1 : ¬ ((i : Int) < (i : Int)) := by omega
        have HB := Lib.hid HI.out.1
        have H4 := Lib.hid HI.out.2
        clear HI him
        go_wp2_with fail
        go_loopw [10, 8] (fun vi vx wr => ∃ (k : Nat) (b2 : Bool), vi = .int .i64 (k : Nat) ∧ k ≤ m ∧ vx = .bool b2 ∧ Hid ((b2 = true ↔ U (X.take k) x) ∧ SI w (.slice A2 m cap2) X wr)) (fun vi _ _ => m - (intOf vi).toNat)
        case atStart => exact ⟨0, false, rfl, Nat.zero_le _, rfl, Lib.hid ⟨by simp [U], H4.out⟩⟩
        case round =>
          clear H4 hi1
          obtain ⟨wy, rfl⟩ : ∃ x, x = wr := ⟨_, rfl⟩
          obtain ⟨k, b2, rfl, hk, rfl, HK⟩ := hrel
          by_cases hkm : k < m
          · have hz0 : (0 : Int) ≤ (k : Int) := by omega
            have hz1 : (k : Int) < (m : Int) := by omega
            have hwi : IntKind.i64.wrap ((k : Int) + 1) = (k : Int) + 1 := IntWalk.i64_in _ (by omega)
            have hkX : k < X.length := by rw [HM.out]; exact hkm
            have hvk := HX.out.1.1 _ (List.getElem_mem hkX)
            cases b2 with
            | true =>
              go_wp2_with fail
              go_roundw
              case rel =>
                refine ⟨k + 1, true, by go_num, by omega, rfl, Lib.hid ⟨?_, HK.out.2⟩⟩
                rw [u_take hkX]
                exact ⟨fun _ => .inl (HK.out.1.1 rfl), fun _ => rfl⟩
              case measure => simp [intOf]; omega
            | false =>
              have HRW : OwnP wy w.heap.size (.slice A2 X.length cap2) X := by rw [HM.out]; exact HK.out.2.2
              obtain ⟨g, cap3, e3, hg, hgl, -, -⟩ := HRW.some_ (by omega)
              injection e3 with e4 _ e5
              subst e4 e5
              obtain ⟨c0, c1⟩ := HRW.cell hkX
              have hC := Lib.hid (fun W => hCo.out X[k].1 X[k].2 W (vld_lt hvk))
              obtain ⟨r, hr⟩ : ∃ r, hasB X[k].1 (X[k].2 : Int) x = r := ⟨_, rfl⟩
              rw [hr] at hC
              have HR := Lib.hid (hr ▸ hasB_has hvk x)
              obtain ⟨y, hy⟩ : ∃ y, X[k] = y := ⟨_, rfl⟩
              have HY := Lib.hid hy
              rw [hy] at c0 c1 hC HR
              clear hr hy HRW
              go_wp2_with fail
              refine (hC.out _).mono ?_
              rintro e w5 ⟨rfl, hb5⟩
              have H5 := Lib.hid (HK.out.2.below hb5)
              clear hb5 c0 c1
              go_wp2_with fail
              go_roundw
              case rel =>
                refine ⟨k + 1, r, by go_num, by omega, rfl, Lib.hid ⟨?_, H5.out⟩⟩
                rw [u_take hkX, HY.out]
                constructor
                · intro h; exact .inr (HR.out.1 h)
                · rintro (h | h)
                  · have := HK.out.1.2 h; cases this
                  · exact HR.out.2 h
              case measure => simp [intOf]; omega
          · obtain rfl : k = m := by omega
            have hi1 : ¬ ((k : Int) < (k : Int)) := by omega
            have hbb : b = b2 := by
              have h1 := HK.out.1
              rw [List.take_of_length_le (by rw [HM.out]; exact Nat.le_refl _), HX.out.2] at h1
              have h2 := HB.out.trans h1.symm
              cases b <;> cases b2 <;> simp_all
            subst hbb
            have H6 := Lib.hid HK.out.2.1
            clear HK
            go_wp2_with fail
            go_ret
            exact ⟨by simp, H6.out⟩
theorem lawSame {w : World} {A : Option Addr} {n c : Nat} {xs : Nat → Nat × Int} {x : Nat} (hL : PxL w A n xs) (hV : Vars w) (hx : x < 4294967296) :
    Calls Tryz.prog 4 #[.slice A n c, .int .u32 (x : Int)] w fun e w' => e = .returned (.bool true) ∧ Below w.heap.size w w' := by
  by_cases hn : n ≤ 30
  · exact lawSame_few hL hV hn hx
  · exact lawSame_many hV hn
end Go.Proofs.YtgpgoadalnojdaaGreatDoor
