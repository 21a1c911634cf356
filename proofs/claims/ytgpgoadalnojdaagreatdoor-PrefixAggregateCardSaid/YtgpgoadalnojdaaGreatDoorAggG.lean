/- Contract of package prefix: Aggregate. -/
import Derived.Test.YtgpgoadalnojdaaGreatDoorAggF
namespace Go.Proofs.YtgpgoadalnojdaaGreatDoor
open Go.RowKit

/-- What Aggregate returns. -/
def AggPost (w : World) (n : Nat) (xs : Nat → Nat × Int) (e : Ending) (w' : World) : Prop :=
  (AllV n xs ∧ ∃ v X, e = .returned (.tuple #[v, .int .i64 0]) ∧ OwnP w' w.heap.size v X ∧ Canon X ∧ X.length ≤ n ∧ (∀ x, U X x ↔ U (pl n xs) x) ∧ Below w.heap.size w w') ∨
  (¬ AllV n xs ∧ e = .returned (.tuple #[.slice none 0 0, .int .i64 1]) ∧ Below w.heap.size w w')
def lenM (v : Value) (m : Nat) : Nat := m - (intOf v).toNat
theorem pl_vld {w : World} {A : Option Addr} {n : Nat} {xs : Nat → Nat × Int} (h : PxL w A n xs) (hv : AllV n xs) : ∀ p ∈ pl n xs, Vld p := by
  intro p hp
  obtain ⟨i, hi, rfl⟩ := List.mem_map.1 hp
  rw [List.mem_range] at hi
  obtain ⟨b, off, -, -, -, -, h4⟩ := h i hi
  obtain ⟨m, hm, -, -⟩ := vldB_true (hv i hi)
  have := hv i hi
  rw [hm] at this
  have := (vldB_vld h4).1 this
  simpa [up, hm] using this

set_option maxRecDepth 100000 in
set_option maxHeartbeats 8000000 in
theorem agg_any {w : World} {A : Option Addr} {n c : Nat} {xs : Nat → Nat × Int} (hL : PxL w A n xs) (hn : n ≤ 1000) :
    Calls Tryz.prog 8 #[.slice A n c] w (AggPost w n xs) := by
  have HL := Lib.hid hL
  have HV := Lib.hid (fun i (W : World) (ha : (xs i).1 < 4294967296) => valid_any (xs i).1 (xs i).2 W ha)
  have HC := Lib.hid (fun (W : World) (hW : Below w.heap.size w W) hv => clone_any (c := c) (hL.below hW) hv hn)
  have HP := Lib.hid (fun hv => pl_vld hL hv)
  clear hL
  go_enter Tryz.func8, Tryz.ntmps8
  go_wp2_with fail
  go_loopw [12] (fun v wr => ∃ i : Nat, v = .int .i64 (i : Nat) ∧ i ≤ n ∧ Hid ((∀ j, j < i → vldB (xs j).1 (xs j).2 = true) ∧ Below w.heap.size w wr)) (fun v _ => n - (intOf v).toNat)
  case atStart => exact ⟨0, rfl, Nat.zero_le _, Lib.hid ⟨fun _ h => by omega, Below.refl _ _⟩⟩
  case round =>
    obtain ⟨wq, rfl⟩ : ∃ x, x = wr := ⟨_, rfl⟩
    obtain ⟨i, rfl, hi, HI⟩ := hrel
    by_cases him : i < n
    · obtain ⟨b, off, rfl, hb, c0, c1, ha⟩ := HL.out.below HI.out.2 i him
      have hz0 : (0 : Int) ≤ (i : Int) := by omega
      have hz1 : (i : Int) < (n : Int) := by omega
      have hwi : IntKind.i64.wrap ((i : Int) + 1) = (i : Int) + 1 := IntWalk.i64_in _ (by omega)
      obtain ⟨w1, hw1, hB1, hb1⟩ := fresh_box wq (xs i).1 (xs i).2
      have p0 := hB1.cell0
      have p1 := hB1.cell1
      have H1 := Lib.hid (HI.out.2.trans (hb1.mono HI.out.2.size))
      have hV := Lib.hid (fun W => HV.out i W ha)
      obtain ⟨r, hr⟩ : ∃ r, vldB (xs i).1 (xs i).2 = r := ⟨_, rfl⟩
      rw [hr] at hV
      have HR := Lib.hid hr
      clear hB1 hb1 hr
      go_wp2_with fail
      refine (hV.out _).mono ?_
      rintro e w5 ⟨rfl, hb5⟩
      have H5 := Lib.hid (H1.out.trans (hb5.mono H1.out.size))
      clear hb5 H1 p0 p1 c0 c1
      cases r with
      | true =>
        go_wp2_with fail
        go_roundw
        case rel =>
          refine ⟨i + 1, by go_num, by omega, Lib.hid ⟨fun j hj => ?_, H5.out⟩⟩
          rcases Nat.lt_succ_iff_lt_or_eq.1 hj with h | h
          · exact HI.out.1 j h
          · rw [h]; exact HR.out
        case measure => simp [intOf]; omega
      | false =>
        have HF : Hid (AggPost w n xs (.returned (.tuple #[.slice none 0 0, .int .i64 1])) w5) := Lib.hid (.inr ⟨(fun h => Bool.noConfusion (HR.out.symm.trans (h i him))), rfl, H5.out⟩)
        go_wp2_with fail
        exact bodyPost_ret (v := .tuple #[.slice none 0 0, .int .i64 1]) (by simp [results, Tryz.results8, go_sem]) rfl HF.out
    · obtain rfl : i = n := by omega
      have hi1 : ¬ ((i : Int) < (i : Int)) := by omega
      have hAV : Hid (AllV i xs) := Lib.hid HI.out.1
      have hC := Lib.hid (HC.out wq HI.out.2 hAV.out)
      have HB := Lib.hid HI.out.2
      clear HI HC HV him
      go_wp2_with fail
      refine hC.out.mono ?_
      rintro e w2 ⟨v2, rfl, ho2, hb2⟩
      have HO2 := Lib.hid (OwnP.base ho2 HB.out.size)
      have H2 := Lib.hid (HB.out.trans (hb2.mono HB.out.size))
      have hS := Lib.hid (sort_any HO2.out (by rw [pl_length]; exact hn))
      clear ho2 hb2 HB hC
      go_wp2_with fail
      refine hS.out.mono ?_
      rintro e w3 ⟨rfl, M, hperm, hpair, hown, hfr⟩
      have H3 := Lib.hid (hfr w H2.out)
      have hlen : M.length = i := by rw [hperm.length_eq, pl_length]
      have HI0 := Lib.hid (LI.start (w := w) hown H3.out H3.out.size)
      have HM := Lib.hid (And.intro hperm (And.intro hpair (show ∀ p ∈ M, Vld p from fun p hp => HP.out hAV.out p (hperm.mem_iff.1 hp))))
      obtain ⟨A2, cap2, rfl, -, -⟩ := hown.form
      rw [hlen] at HI0 ⊢
      have HLEN := Lib.hid hlen
      clear hperm hpair hown hfr hlen H2 hS HO2 HP
      go_wp2_with fail
      go_loopw [26, 7] (fun v vs wr => ∃ k : Nat, v = .int .i64 (k : Nat) ∧ k ≤ i ∧ Hid (LI w w.heap.size (.slice A2 i cap2) M k vs wr)) (fun v _ _ => i - (intOf v).toNat)
      case atStart => exact ⟨0, rfl, Nat.zero_le _, HI0⟩
      case round =>
        clear HI0 hi1
        obtain ⟨wy, rfl⟩ : ∃ x, x = wr := ⟨_, rfl⟩
        obtain ⟨k, rfl, hk, HK⟩ := hrel
        by_cases hkn : k < i
        · have hkM : k < M.length := by rw [HLEN.out]; exact hkn
          obtain ⟨g, cap3, e3, hg, hgl, -, -⟩ := HK.out.row.some_ (by omega)
          have HRW := HK.out.row
          rw [e3] at HRW
          obtain ⟨c0, c1⟩ := HRW.cell hkM
          rw [HLEN.out] at e3
          injection e3 with e4 _ e5
          subst e4 e5
          have hz0 : (0 : Int) ≤ (k : Int) := by omega
          have hz1 : (k : Int) < (i : Int) := by omega
          have hwi : IntKind.i64.wrap ((k : Int) + 1) = (k : Int) + 1 := IntWalk.i64_in _ (by omega)
          obtain ⟨x, hx⟩ : ∃ x, M[k] = x := ⟨_, rfl⟩
          obtain ⟨w4, hw4, hB4, hb4⟩ := fresh_box wy x.1 x.2
          have hAD := Lib.hid ((HK.out.below hb4).add hkM HM.out.2.2 HM.out.2.1 (by rw [HLEN.out]; exact hn))
          rw [hx] at c0 c1 hAD
          have p0 := hB4.cell0
          have p1 := hB4.cell1
          clear hB4 hb4 hx HRW HK
          go_wp2_with fail
          refine hAD.out.mono ?_
          rintro e w5 ⟨v5, rfl, hli⟩
          have HLI := Lib.hid hli
          clear hli hAD c0 c1 p0 p1 hw4
          go_wp2_with fail
          go_roundw
          case rel => exact ⟨k + 1, by go_num, by omega, HLI⟩
          case measure => simp [intOf]; omega
        · obtain rfl : k = i := by omega
          have hi1 : ¬ ((k : Int) < (k : Int)) := by omega
          have HF : Hid (AggPost w k xs (.returned (.tuple #[u7, .int .i64 0])) wy) := by
            obtain ⟨X, h1, h2, h3, h4, h5⟩ := HK.out.stack
            refine Lib.hid (.inl ⟨hAV.out, _, X, rfl, h1, h2, h3, fun x => ?_, HK.out.frame⟩)
            rw [h4, List.take_of_length_le (by rw [HLEN.out]; exact Nat.le_refl _)]
            exact ⟨fun ⟨p, hp, hh⟩ => ⟨p, HM.out.1.mem_iff.1 hp, hh⟩, fun ⟨p, hp, hh⟩ => ⟨p, HM.out.1.mem_iff.2 hp, hh⟩⟩
          clear HK
          go_wp2_with fail
          exact bodyPost_ret (by simp [results, Tryz.results8, go_sem]) rfl HF.out
end Go.Proofs.YtgpgoadalnojdaaGreatDoor
