/- Contract of package nat's GCD on numbers below 2^64. -/
import Derived.Test.YtdbhlmifioccgaaDoorDiv
namespace Go.Proofs.YtdbhlmifioccgaaDoor
open Go.RowKit

theorem divMod_small {u v : Value} {x y : Nat} {w : World} (hx : x < 18446744073709551616) (hy : y < 18446744073709551616) (hy0 : 0 < y) (hu : IsNat w u x) (hv : IsNat w v y) :
    Calls Tryd.prog 27 #[u, v] w (DivOk w (x / y) (x % y)) := by
  by_cases h : x < y
  · rw [Nat.div_eq_of_lt h, Nat.mod_eq_of_lt h]
    exact divMod_less hx hy h hu hv
  · exact divMod_ge hx hy (by omega) hy0 hu hv
def GcdR (G : Nat) (X Y : Value) : Prop := ∃ nx ny : Nat, X = .int .u64 nx ∧ Y = .int .u64 ny ∧ nx < 18446744073709551616 ∧ ny < 18446744073709551616 ∧ Nat.gcd nx ny = G

set_option maxRecDepth 100000 in
set_option maxHeartbeats 2000000 in
theorem gcd_small {u v : Value} {x y : Nat} {w : World} (hx : x < 18446744073709551616) (hy : y < 18446744073709551616) (hy0 : 0 < y) (hu : IsNat w u x) (hv : IsNat w v y) :
    Calls Tryd.prog 29 #[u, v] w (NewN w (Nat.gcd x y)) := by
  obtain ⟨s, rfl, A, ca, rfl, hca, hA⟩ := hu
  obtain ⟨t, rfl, B, cb, rfl, hcb, hB⟩ := hv
  have hlx := digs_small hx
  have hly := digs_small hy
  obtain ⟨n, hn⟩ : ∃ n, n = (digs 4294967296 x).length := ⟨_, rfl⟩
  obtain ⟨m, hm⟩ : ∃ m, m = (digs 4294967296 y).length := ⟨_, rfl⟩
  obtain ⟨w3, hw3⟩ : ∃ w3, (((w.alloc (.cells #[.slice A n ca] 26)).alloc (.cells #[.slice B m cb] 26)).alloc (.cells #[.slice none 0 0] 26)) = w3 := ⟨_, rfl⟩
  have hb3 : Below w.heap.size w w3 := by
    rw [← hw3]
    exact (((Below.refl _ w).alloc (Nat.le_refl _) _).alloc (by simp) _).alloc (by simp; omega) _
  have hs3 : w3.heap.size = w.heap.size + 3 := by rw [← hw3]; simp
  have o1 : One w3 w.heap.size (.slice A n ca) 26 := by rw [← hw3]; exact ((One.new w _ _).alloc _).alloc _
  have o2 : One w3 (w.heap.size + 1) (.slice B m cb) 26 := by
    have := (One.new (w.alloc (.cells #[.slice A n ca] 26)) (.slice B m cb) 26).alloc (.cells #[.slice none 0 0] 26)
    rw [hw3] at this
    simpa using this
  have o3 : One w3 (w.heap.size + 1 + 1) (.slice none 0 0) 26 := by
    have := One.new ((w.alloc (.cells #[.slice A n ca] 26)).alloc (.cells #[.slice B m cb] 26)) (.slice none 0 0) 26
    rw [hw3] at this
    simpa using this
  have hxA : IsNat w3 (.agg #[.slice A n ca]) x := ⟨_, rfl, A, ca, by rw [hn], hca, hA.step hb3⟩
  have hyB : IsNat w3 (.agg #[.slice B m cb]) y := ⟨_, rfl, B, cb, by rw [hm], hcb, hB.step hb3⟩
  have hz := isZero_any (w := w3) (by omega) hyB
  rw [decide_eq_false (show ¬ y = 0 by omega)] at hz
  have HD := Lib.hid (fun (W : World) (hb : Below w3.heap.size w3 W) => divMod_small (w := W) hx hy hy0 (hxA.below hb) (hyB.below hb))
  have HV := Lib.hid (fun (W : World) (hb : Below w3.heap.size w3 W) => uint64_any (w := W) (by omega) (hyB.below hb))
  have huy : U64Spec y = .returned (.tuple #[.int .u64 (y : Int), .bool true]) := by unfold U64Spec; rw [if_pos hy]
  rw [huy] at HV
  obtain ⟨R, hR⟩ : ∃ R : Nat, R = x % y := ⟨_, rfl⟩
  have hr1 : R < 18446744073709551616 := by rw [hR]; exact Nat.lt_of_le_of_lt (Nat.mod_le x y) hx
  have HR := Lib.hid (fun (W : World) (v : Value) (h : IsNat W v R) => uint64_any (w := W) (by have := digs_small hr1; omega) h)
  have hur : U64Spec R = .returned (.tuple #[.int .u64 (R : Int), .bool true]) := by unfold U64Spec; rw [if_pos hr1]
  rw [hur] at HR
  have hG0 : Nat.gcd y R = Nat.gcd x y := by rw [hR, Nat.gcd_comm y, ← Nat.gcd_rec, Nat.gcd_comm]
  have hG := Lib.hid hG0
  clear hG0
  rw [← hR] at HD
  have Hr1 := Lib.hid hr1
  have Hy := Lib.hid hy
  have hm2 : m ≤ 2 := by omega
  rw [← hn] at hca hA ⊢
  rw [← hm] at hcb hB ⊢
  clear hA hB hn hm hxA hyB huy hur hR hr1 hx hy hlx hly
  have d1 := o1.cell
  have d2 := o2.cell
  go_enter Tryd.func29, Tryd.ntmps29
  go_wp2_with fail
  refine wp_loop_rounds 1 ?_
  rw [rounds_succ]
  clear hw3
  go_wp2_with fail
  refine hz.mono ?_
  rintro e w5 ⟨rfl, hb5⟩
  have c1 := (o1.step hb5).cell
  have c2 := (o2.step hb5).cell
  clear hz
  go_wp2_with fail
  refine (HD.out _ hb5).mono ?_
  rintro e w6 ⟨vq, vr, rfl, ⟨sq, rfl, Aq, cq, rfl, hcq, hAq⟩, ⟨sr, rfl, Ar, cr, rfl, hcr, hAr⟩, hb6⟩
  have hb36 := hb5.trans (hb6.mono hb5.size)
  have hs6 : w.heap.size + 3 ≤ w6.heap.size := by have := hb36.size; omega
  obtain ⟨w7, hw7⟩ : ∃ w7, ((w6.alloc (.cells #[.slice Aq (digs 4294967296 (x / y)).length cq] 26)).alloc (.cells #[.slice Ar (digs 4294967296 R).length cr] 26)) = w7 := ⟨_, rfl⟩
  have hb67 : Below w6.heap.size w6 w7 := by
    rw [← hw7]
    exact ((Below.refl _ w6).alloc (Nat.le_refl _) _).alloc (by simp) _
  have o9 : One w7 (w6.heap.size + 1) (.slice Ar (digs 4294967296 R).length cr) 26 := by
    have := One.new (w6.alloc (.cells #[.slice Aq (digs 4294967296 (x / y)).length cq] 26)) (.slice Ar (digs 4294967296 R).length cr) 26
    rw [hw7] at this
    simpa using this
  have hb37 := hb36.trans (hb67.mono (by omega))
  have hNr : IsNat w7 (.agg #[.slice Ar (digs 4294967296 R).length cr]) R := IsNat.below ⟨_, rfl, Ar, cr, rfl, hcr, hAr⟩ hb67
  have c2 := (o2.step hb37).cell
  go_wp2_with fail
  clear hw7
  refine (HV.out _ hb37).mono ?_
  rintro e w8 ⟨rfl, hb8⟩
  have hb38 := hb37.trans (hb8.mono hb37.size)
  have c9 := (o9.step hb8).cell
  go_wp2_with fail
  refine (HR.out _ _ (hNr.below hb8)).mono ?_
  rintro e w9 ⟨rfl, hb9⟩
  have hb39 := hb38.trans (hb9.mono hb38.size)
  go_wp2_with fail
  have O3 := o3.step hb39
  have hlow : Below w.heap.size w w9 := hb3.trans (hb39.mono hb3.size)
  clear hb39 hb38 hb37 hb36 hb9 hb8 hb67 hNr o9 c9 c2 c1 hAr hAq d1 d2 HD HV HR hb6 hb5 o1 o2
  go_loopw [11, 13] (fun X Y wr => GcdR (Nat.gcd x y) X Y ∧ Below w9.heap.size w9 wr) (fun _ Y _ => (intOf Y).toNat)
  case atStart => exact ⟨⟨y, R, rfl, rfl, Hy.out, Hr1.out, hG.out⟩, Below.refl _ _⟩
  case round =>
    obtain ⟨⟨X, Y, rfl, rfl, hX, hY, hgc⟩, hbr⟩ := hrel
    by_cases h0 : Y = 0
    · subst h0
      have hO := natOf_any (w := wr) (X : Int) (by omega) (by omega)
      rw [Int.toNat_natCast] at hO
      rw [Nat.gcd_zero_right] at hgc
      subst hgc
      have o3r := O3.step hbr
      have hlr : Below w.heap.size w wr := hlow.trans (hbr.mono hlow.size)
      clear hX hY hG
      go_wp2_with fail
      refine hO.mono ?_
      rintro e w10 ⟨v, rfl, ⟨sg, rfl, Ag, cg, rfl, hcg, hAg⟩, hb10⟩
      have c3 := (o3r.step hb10).cell
      have f3 := (o3r.step hb10).frozen
      go_wp2_with fail
      have r3 := (o3r.step hb10).set_ (.slice Ag (digs 4294967296 (Nat.gcd x y)).length cg)
      refine bodyPost_ret (v := .agg #[.slice Ag (digs 4294967296 (Nat.gcd x y)).length cg]) (by simp [results, Tryd.results29, go_sem, r3.cell]) rfl ?_
      refine ⟨_, rfl, ?_, ?_⟩
      · exact IsNat.far ⟨_, rfl, Ag, cg, rfl, hcg, hAg⟩ (p := ⟨w.heap.size + 1 + 1, 0, none⟩) (o3r.step hb10).row (by decide) _
      · exact (hlr.trans (hb10.mono hlr.size)).setCell (by show w.heap.size ≤ w.heap.size + 1 + 1; omega) _
    · have hp : ¬ ((Y : Int) = 0) := by omega
      have ht : (X : Int).tmod (Y : Int) = ((X % Y : Nat) : Int) := by rw [Int.tmod_eq_emod_of_nonneg (by omega), Int.natCast_emod]
      have hlt : X % Y < Y := Nat.mod_lt _ (by omega)
      have hy2 : 0 < (Y : Int) := by omega
      have hy1 : ((Y : Int) == 0) = false := beq_eq_false_iff_ne.2 (by omega)
      go_wp2_with fail
      go_region
      all_goals (try go_wp2)
      all_goals
        rw [← Int.natCast_emod]
        refine ⟨⟨⟨Y, X % Y, rfl, rfl, hY, by omega, ?_⟩, hbr.drew⟩, ?_⟩
        · rw [← hgc, Nat.gcd_comm Y, ← Nat.gcd_rec, Nat.gcd_comm]
        · show (((X % Y : Nat) : Int)).toNat < ((Y : Nat) : Int).toNat
          rw [Int.toNat_natCast, Int.toNat_natCast]; exact hlt
end Go.Proofs.YtdbhlmifioccgaaDoor
