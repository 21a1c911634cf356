/- Contract of the reference: Aggregate; the law PrefixAggregate. -/
import Derived.Test.YtgpgoadalnojdaaGreatDoorAggO
import Derived.Test.YtgpgoadalnojdaaGreatDoorAggL
namespace Go.Proofs.YtgpgoadalnojdaaGreatDoor
open Go.RowKit

theorem vl_of {w : World} {A : Option Addr} {n : Nat} {xs : Nat → Nat × Int} (h : PxL w A n xs) (hv : AllV n xs) : VL w A (pl n xs) := by
  refine ⟨?_, pl_vld h hv⟩
  rw [pl_length]
  intro i hi
  have e : xsOf (pl n xs) i = xs i := by
    obtain ⟨m, hm, -, -⟩ := vldB_true (hv i hi)
    unfold xsOf
    have e2 : (pl n xs).getD i (0, 0) = up (xs i) := by simp [pl, List.getD, hi]
    rw [e2]
    refine Prod.ext rfl ?_
    show ((xs i).2.toNat : Int) = (xs i).2
    rw [hm]; simp
  rw [e]
  exact h i hi
theorem root_agg {W : World} {A : Option Addr} {n c : Nat} {xs : Nat → Nat × Int} {R : List Px} (hL : PxL W A n xs) (hv : AllV n xs) (hn : n ≤ 1000) (hR : (aggR 32 (pl n xs) 0).1 = R) :
    Calls Tryz.prog 23 #[.slice A n c, pv 0 0] W fun e w' => ∃ v b, e = .returned (.tuple #[v, .bool b]) ∧ OwnP w' W.heap.size v R ∧ Below W.heap.size W w' := by
  obtain ⟨k, hk⟩ : ∃ k, 32 = k := ⟨_, rfl⟩
  have hz : ((32 - k : Nat) : Int) = 0 := by omega
  have h := refagg_any k W A c (pl n xs) 0 (by omega) (vl_of hL hv) (by rw [pl_length]; exact hn) (Nat.zero_mod _) (by rw [← hk]; omega)
  rw [pl_length, hz] at h
  rw [hk] at hR
  refine Calls.mono h ?_
  rintro e w' ⟨v, h1, h2, h3⟩
  rw [hR] at h2
  exact ⟨v, _, h1, h2, h3⟩
/-- What the reference's Aggregate returns. -/
def RAggPost (w : World) (n : Nat) (xs : Nat → Nat × Int) (R : List Px) (e : Ending) (w' : World) : Prop :=
  (AllV n xs ∧ ∃ v, e = .returned (.tuple #[v, .int .i64 0]) ∧ OwnP w' w.heap.size v R ∧ Below w.heap.size w w') ∨
  (¬ AllV n xs ∧ e = .returned (.tuple #[.slice none 0 0, .int .i64 1]) ∧ Below w.heap.size w w')

set_option maxRecDepth 100000 in
set_option maxHeartbeats 8000000 in
theorem ragg_any {w : World} {A : Option Addr} {n c : Nat} {xs : Nat → Nat × Int} {R : List Px} (hL : PxL w A n xs) (hn : n ≤ 1000) (hR : AllV n xs → (aggR 32 (pl n xs) 0).1 = R) :
    Calls Tryz.prog 9 #[.slice A n c] w (RAggPost w n xs R) := by
  have HL := Lib.hid hL
  have HV := Lib.hid (fun i (W : World) (ha : (xs i).1 < 4294967296) => refValid_any (xs i).1 (xs i).2 W ha)
  have HC : Hid (∀ (W : World), Below w.heap.size w W → AllV n xs → Calls Tryz.prog 23 #[.slice A n c, pv 0 0] W fun e w' => ∃ v b, e = .returned (.tuple #[v, .bool b]) ∧ OwnP w' W.heap.size v R ∧ Below W.heap.size W w') := Lib.hid (fun W hW hv => root_agg (hL.below hW) hv hn (hR hv))
  clear hR
  clear hL
  go_enter Tryz.func9, Tryz.ntmps9
  go_wp2_with fail
  go_loopw [4] (fun v wr => ∃ i : Nat, v = .int .i64 (i : Nat) ∧ i ≤ n ∧ Hid ((∀ j, j < i → vldB (xs j).1 (xs j).2 = true) ∧ Below w.heap.size w wr)) (fun v _ => n - (intOf v).toNat)
  case atStart => exact ⟨0, rfl, Nat.zero_le _, Lib.hid ⟨fun _ h => by omega, Below.refl _ _⟩⟩
  case round =>
    obtain ⟨wq, rfl⟩ : ∃ x, x = wr := ⟨_, rfl⟩
    obtain ⟨i, rfl, hi, HI⟩ := hrel
    by_cases him : i < n
    · obtain ⟨b, off, rfl, hb, c0, c1, ha⟩ := HL.out.below HI.out.2 i him
      have hz0 : (0 : Int) ≤ (i : Int) := by omega
      have hz1 : (i : Int) < (n : Int) := by omega
      have hwi : IntKind.i64.wrap ((i : Int) + 1) = (i : Int) + 1 := IntWalk.i64_in _ (by omega)
      have hV := Lib.hid (fun W => HV.out i W ha)
      obtain ⟨r, hr⟩ : ∃ r, vldB (xs i).1 (xs i).2 = r := ⟨_, rfl⟩
      rw [hr] at hV
      have HR := Lib.hid hr
      clear hr
      go_wp2_with fail
      refine (hV.out _).mono ?_
      rintro e w5 ⟨rfl, hb5⟩
      have H5 := Lib.hid (HI.out.2.trans (hb5.mono HI.out.2.size))
      clear hb5 c0 c1
      cases r with
      | true =>
        go_wp2_with fail
        go_roundw
        case rel =>
          refine ⟨i + 1, by go_num, by omega, Lib.hid ⟨fun j hj => ?_, H5.out⟩⟩
          rcases Nat.lt_succ_iff_lt_or_eq.1 hj with h | h
          · exact HI.out.1 j h
          · rw [h]; exact HR.out
        case measure => simp [intOf]; omega
      | false =>
        have HF : Hid (RAggPost w n xs R (.returned (.tuple #[.slice none 0 0, .int .i64 1])) w5) := Lib.hid (.inr ⟨(fun h => Bool.noConfusion (HR.out.symm.trans (h i him))), rfl, H5.out⟩)
        go_wp2_with fail
        exact bodyPost_ret (v := .tuple #[.slice none 0 0, .int .i64 1]) (by simp [results, Tryz.results9, go_sem]) rfl HF.out
    · obtain rfl : i = n := by omega
      have hi1 : ¬ ((i : Int) < (i : Int)) := by omega
      have hAV : Hid (AllV i xs) := Lib.hid HI.out.1
      have hC := Lib.hid (HC.out wq HI.out.2 hAV.out)
      have HB := Lib.hid HI.out.2
      clear HI HC HV him
      go_wp2_with fail
      refine hC.out.mono ?_
      rintro e w2 ⟨v, b2, rfl, ho, hb⟩
      have HF : Hid (RAggPost w i xs R (.returned (.tuple #[v, .int .i64 0])) w2) := Lib.hid (.inl ⟨hAV.out, v, rfl, OwnP.base ho HB.out.size, HB.out.trans (hb.mono HB.out.size)⟩)
      clear ho hb
      go_wp2_with fail
      exact bodyPost_ret (v := .tuple #[v, .int .i64 0]) (by simp [results, Tryz.results9, go_sem]) rfl HF.out
theorem agg_same {n : Nat} {xs : Nat → Nat × Int} {X : List Px} (hX : Canon X) (hV : ∀ p ∈ pl n xs, Vld p) (h : ∀ x, U X x ↔ U (pl n xs) x) : (aggR 32 (pl n xs) 0).1 = X := by
  obtain ⟨k, hk⟩ : ∃ k, 32 = k := ⟨_, rfl⟩
  have h2 := uniq k (a := 0) (by omega) (Nat.zero_mod _) (by rw [← hk]; omega) hX (fun p hp => by have := (hX.1 p hp).2.2; rw [← hk]; omega)
  rw [hk, aggR_eq k (by omega) (Nat.zero_mod _) (by rw [← hk]; omega) hV]
  simp only
  rw [h2]
  exact (canon_same fun x _ _ => (h x)).symm

end Go.Proofs.YtgpgoadalnojdaaGreatDoor
