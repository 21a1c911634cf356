/- Contract of package nat's GCD. -/
import Derived.Test.YtapblmbjbpkieaaDoorDivM
import Derived.Deep.LoopGhost
namespace Go.Proofs.YtapblmbjbpkieaaDoor
open Go.RowKit

/-- At the head of GCD's first loop: the boxes of a and b, of numbers X and Y. -/
def GcdI (w : World) (G Y : Nat) (wr : World) : Prop :=
  ∃ (X : Nat) (A : Option Addr) (n ca : Nat) (B : Option Addr) (m cb : Nat), One wr w.heap.size (.slice A n ca) 26 ∧ One wr (w.heap.size + 1) (.slice B m cb) 26 ∧ One wr (w.heap.size + 1 + 1) (.slice none 0 0) 26 ∧
    IsNat wr (.agg #[.slice A n ca]) X ∧ IsNat wr (.agg #[.slice B m cb]) Y ∧ (digs 4294967296 X).length ≤ 400000 ∧ (digs 4294967296 Y).length ≤ 400000 ∧ m = (digs 4294967296 Y).length ∧ Nat.gcd X Y = G ∧ Below w.heap.size w wr
theorem isNat_len {w : World} {A : Option Addr} {n c k : Nat} (h : IsNat w (.agg #[.slice A n c]) k) : n = (digs 4294967296 k).length := by
  obtain ⟨s, e, A', c', rfl, _, _⟩ := h
  injection e with e
  have e2 : Value.slice A n c = Value.slice A' (digs 4294967296 k).length c' := by
    have := congrArg (fun a : Array Value => a[0]?) e
    simpa using this
  exact (Value.slice.inj e2).2.1
theorem digs_below {y : Nat} (h : (digs 4294967296 y).length ≤ 2) : y < 18446744073709551616 := by
  have h1 := val_lt (b := 4294967296) (digs 4294967296 y) (digs_lt (by omega) y)
  rw [val_digs (by omega)] at h1
  have h2 : (4294967296 : Nat) ^ (digs 4294967296 y).length ≤ 4294967296 ^ 2 := Nat.pow_le_pow_right (by omega) h
  have h4 : (4294967296 : Nat) ^ 2 = 18446744073709551616 := rfl
  rw [h4] at h2
  exact Nat.lt_of_lt_of_le h1 h2
theorem gcd_turn {X Y : Nat} : Nat.gcd Y (X % Y) = Nat.gcd X Y := by rw [Nat.gcd_comm Y, ← Nat.gcd_rec, Nat.gcd_comm]

theorem GcdI.drew {w W : World} {G Y : Nat} (h : GcdI w G Y W) : GcdI w G Y W.drew := by
  obtain ⟨X, A, n, ca, B, m, cb, h1, h2, h3, h4, h5, h6, h7, h8, h9, h10⟩ := h
  exact ⟨X, A, n, ca, B, m, cb, h1, h2, h3, h4, h5, h6, h7, h8, h9, h10.drew⟩
theorem gcd_next {w w7 : World} {G X Y : Nat} {A B Ar : Option Addr} {n ca m cb nr cr : Nat} (p1 : One w7 w.heap.size (.slice A n ca) 26) (p2 : One w7 (w.heap.size + 1) (.slice B m cb) 26) (p3 : One w7 (w.heap.size + 1 + 1) (.slice none 0 0) 26)
    (hY : IsNat w7 (.agg #[.slice B m cb]) Y) (hR : IsNat w7 (.agg #[.slice Ar nr cr]) (X % Y)) (hl : (digs 4294967296 Y).length ≤ 400000) (hY0 : 0 < Y) (hG : Nat.gcd X Y = G) (hlow : Below w.heap.size w w7) :
    GcdI w G (X % Y) ((w7.setCell ⟨w.heap.size, 0, none⟩ (.slice B m cb)).setCell ⟨w.heap.size + 1, 0, none⟩ (.slice Ar nr cr)) := by
  have q1 := (p1.set_ (.slice B m cb)).far (p := ⟨w.heap.size + 1, 0, none⟩) (by show w.heap.size ≠ w.heap.size + 1; omega) (.slice Ar nr cr)
  have p2' := p2.far (p := ⟨w.heap.size, 0, none⟩) (by show w.heap.size + 1 ≠ w.heap.size; omega) (.slice B m cb)
  have q2 := p2'.set_ (.slice Ar nr cr)
  have q3 := (p3.far (p := ⟨w.heap.size, 0, none⟩) (by show w.heap.size + 1 + 1 ≠ w.heap.size; omega) (.slice B m cb)).far (p := ⟨w.heap.size + 1, 0, none⟩) (by show w.heap.size + 1 + 1 ≠ w.heap.size + 1; omega) (.slice Ar nr cr)
  have lR : (digs 4294967296 (X % Y)).length ≤ (digs 4294967296 Y).length := digs_len_le (Nat.le_of_lt (Nat.mod_lt _ hY0))
  exact ⟨Y, _, _, _, _, _, _, q1, q2, q3, IsNat.far (IsNat.far hY (p := ⟨w.heap.size, 0, none⟩) p1.row (by decide) _) (p := ⟨w.heap.size + 1, 0, none⟩) p2'.row (by decide) _, IsNat.far (IsNat.far hR (p := ⟨w.heap.size, 0, none⟩) p1.row (by decide) _) (p := ⟨w.heap.size + 1, 0, none⟩) p2'.row (by decide) _, hl, by omega, isNat_len hR, by rw [gcd_turn]; exact hG,
    (hlow.setCell (Nat.le_refl _) _).setCell (by show w.heap.size ≤ w.heap.size + 1; omega) _⟩

set_option maxRecDepth 100000 in
set_option maxHeartbeats 4000000 in
theorem gcd_any {u v : Value} {x y : Nat} {w : World} (hlx : (digs 4294967296 x).length ≤ 400000) (hly : (digs 4294967296 y).length ≤ 400000) (hu : IsNat w u x) (hv : IsNat w v y) :
    Calls Tryd.prog 29 #[u, v] w (NewN w (Nat.gcd x y)) := by
  obtain ⟨s, rfl, A, ca, rfl, hca, hA⟩ := hu
  obtain ⟨t, rfl, B, cb, rfl, hcb, hB⟩ := hv
  obtain ⟨n, hn⟩ : ∃ n, n = (digs 4294967296 x).length := ⟨_, rfl⟩
  obtain ⟨m, hm⟩ : ∃ m, m = (digs 4294967296 y).length := ⟨_, rfl⟩
  obtain ⟨w3, hw3⟩ : ∃ w3, (((w.alloc (.cells #[.slice A n ca] 26)).alloc (.cells #[.slice B m cb] 26)).alloc (.cells #[.slice none 0 0] 26)) = w3 := ⟨_, rfl⟩
  have hI0 : GcdI w (Nat.gcd x y) y w3 := by
    have hb3 : Below w.heap.size w w3 := by
      rw [← hw3]
      exact (((Below.refl _ w).alloc (Nat.le_refl _) _).alloc (by simp) _).alloc (by simp; omega) _
    have o1 : One w3 w.heap.size (.slice A n ca) 26 := by rw [← hw3]; exact ((One.new w _ _).alloc _).alloc _
    have o2 : One w3 (w.heap.size + 1) (.slice B m cb) 26 := by
      have := (One.new (w.alloc (.cells #[.slice A n ca] 26)) (.slice B m cb) 26).alloc (.cells #[.slice none 0 0] 26)
      rw [hw3] at this
      simpa using this
    have o3 : One w3 (w.heap.size + 1 + 1) (.slice none 0 0) 26 := by
      have := One.new ((w.alloc (.cells #[.slice A n ca] 26)).alloc (.cells #[.slice B m cb] 26)) (.slice none 0 0) 26
      rw [hw3] at this
      simpa using this
    exact ⟨x, A, n, ca, B, m, cb, o1, o2, o3, ⟨_, rfl, A, ca, by rw [hn], hca, hA.step hb3⟩, ⟨_, rfl, B, cb, by rw [hm], hcb, hB.step hb3⟩, hlx, hly, hm, rfl, hb3⟩
  rw [← hn] at hca hA ⊢
  rw [← hm] at hcb hB ⊢
  obtain ⟨G, hG⟩ : ∃ G, G = Nat.gcd x y := ⟨_, rfl⟩
  rw [← hG] at hI0 ⊢
  clear hA hB hn hm hca hcb hlx hly hG
  go_enter Tryd.func29, Tryd.ntmps29
  go_wp2_with fail
  clear hw3
  go_loopg [7] y (fun Y _ wr => GcdI w G Y wr)
  case atStart => exact hI0
  case round =>
    clear hI0
    obtain ⟨w0, rfl⟩ : ∃ x, x = wr := ⟨_, rfl⟩
    obtain ⟨X, A, n, ca, B, m, cb, o1, o2, o3, hX, hY, hlX, hlY, hm, hG, hlow⟩ := hrel
    have d1 := o1.cell
    have d2 := o2.cell
    have hlm : m ≤ 400000 := by omega
    by_cases hm2 : 2 < m
    · have hY0 : 0 < gk := by
        rcases Nat.eq_zero_or_pos gk with h | h
        · rw [h, digs_zero] at hm; simp at hm; omega
        · exact h
      have HD := Lib.hid (divMod_any hlX hlY hY0 hX hY)
      have HYY := Lib.hid hY
      have HG := Lib.hid hG
      have HLY := Lib.hid hlY
      clear hX hm hG hlX hlY hY
      go_wp2_with fail
      refine HD.out.mono ?_
      rintro e w6 ⟨vq, vr, rfl, hvq, hvr, hb6⟩
      obtain ⟨Aq, nq, cq, -, rfl⟩ := isNat_digs hvq
      obtain ⟨Ar, nr, cr, -, rfl⟩ := isNat_digs hvr
      obtain ⟨w7, hw7⟩ : ∃ w7, ((w6.alloc (.cells #[.slice Aq nq cq] 26)).alloc (.cells #[.slice Ar nr cr] 26)) = w7 := ⟨_, rfl⟩
      have hb67 : Below w6.heap.size w6 w7 := by
        rw [← hw7]
        exact ((Below.refl _ w6).alloc (Nat.le_refl _) _).alloc (by simp) _
      have o9 : One w7 (w6.heap.size + 1) (.slice Ar nr cr) 26 := by
        have := One.new (w6.alloc (.cells #[.slice Aq nq cq] 26)) (.slice Ar nr cr) 26
        rw [hw7] at this
        simpa using this
      have hs6 := hb6.size
      have hl3 := o3.lt
      have hb07 := hb6.trans (hb67.mono hs6)
      have p1 := o1.step hb07
      have p2 := o2.step hb07
      have p3 := o3.step hb07
      have HY7 := Lib.hid (HYY.out.below hb07)
      have HR7 := Lib.hid (hvr.below hb67)
      have hlow7 : Below w.heap.size w w7 := hlow.trans (hb07.mono hlow.size)
      clear HD HYY hvq hvr hb6 hb67 hb07 d1 d2
      have HNX := Lib.hid (gcd_next p1 p2 p3 HY7.out HR7.out HLY.out hY0 HG.out hlow7)
      have f1 := p1.frozen
      have f2 := p2.frozen
      have c2 := p2.cell
      have c1 := p1.cell
      have c9 := o9.cell
      go_wp2_with fail
      clear hw7
      go_region
      all_goals (try go_wp2)
      all_goals
        go_roundg (X % gk)
        case measure => exact Nat.mod_lt _ hY0
        case rel => exact HNX.out.drew
    · have hY2 : gk < 18446744073709551616 := digs_below (by omega)
      have hz := isZero_any (w := w0) (by omega) hY
      by_cases hY0 : gk = 0
      · subst hY0
        rw [decide_eq_true rfl] at hz
        rw [Nat.gcd_zero_right] at hG
        subst hG
        have HX := Lib.hid hX
        have HZ := Lib.hid hz
        clear hX hY hlX hlY hm hz
        go_wp2_with fail
        refine HZ.out.mono ?_
        rintro e w5 ⟨rfl, hb5⟩
        have p1 := o1.step hb5
        have p3 := o3.step hb5
        have c1 := p1.cell
        have c3 := p3.cell
        have f3 := p3.frozen
        have hX5 := Lib.hid (HX.out.below hb5)
        clear d1 d2 HX HZ
        go_wp2_with fail
        have r3 := p3.set_ (.slice A n ca)
        refine bodyPost_ret (v := .agg #[.slice A n ca]) (by simp [results, Tryd.results29, go_sem, r3.cell]) rfl ?_
        exact ⟨_, rfl, IsNat.far hX5.out (p := ⟨w.heap.size + 1 + 1, 0, none⟩) p3.row (by decide) _, (hlow.trans (hb5.mono hlow.size)).setCell (by show w.heap.size ≤ w.heap.size + 1 + 1; omega) _⟩
      · rw [decide_eq_false hY0] at hz
        have hY1 : 0 < gk := by omega
        have HD := Lib.hid (fun (W : World) (hb : Below w0.heap.size w0 W) => divMod_any (w := W) hlX hlY hY1 (hX.below hb) (hY.below hb))
        have HV := Lib.hid (fun (W : World) (hb : Below w0.heap.size w0 W) => uint64_any (w := W) (by omega) (hY.below hb))
        have huy : U64Spec gk = .returned (.tuple #[.int .u64 (gk : Int), .bool true]) := by unfold U64Spec; rw [if_pos hY2]
        rw [huy] at HV
        obtain ⟨R, hR⟩ : ∃ R : Nat, R = X % gk := ⟨_, rfl⟩
        have hr1 : R < 18446744073709551616 := by rw [hR]; exact Nat.lt_trans (Nat.mod_lt _ hY1) hY2
        have HR := Lib.hid (fun (W : World) (v : Value) (h : IsNat W v R) => uint64_any (w := W) (by have := digs_small hr1; omega) h)
        have hur : U64Spec R = .returned (.tuple #[.int .u64 (R : Int), .bool true]) := by unfold U64Spec; rw [if_pos hr1]
        rw [hur] at HR
        have hG0 : Nat.gcd gk R = G := by rw [hR, gcd_turn]; exact hG
        have HG := Lib.hid hG0
        rw [← hR] at HD
        have Hr1 := Lib.hid hr1
        have HY2 := Lib.hid hY2
        have HZ := Lib.hid hz
        clear hX hY hlX hlY hm hz hG hG0 huy hur hR hr1 hY2
        go_wp2_with fail
        refine HZ.out.mono ?_
        rintro e w5 ⟨rfl, hb5⟩
        have c1 := (o1.step hb5).cell
        have c2 := (o2.step hb5).cell
        clear HZ d1 d2
        go_wp2_with fail
        refine (HD.out _ hb5).mono ?_
        rintro e w6 ⟨vq, vr, rfl, hvq, hvr, hb6⟩
        obtain ⟨Aq, nq, cq, -, rfl⟩ := isNat_digs hvq
        obtain ⟨Ar, nr, cr, -, rfl⟩ := isNat_digs hvr
        obtain ⟨w7, hw7⟩ : ∃ w7, ((w6.alloc (.cells #[.slice Aq nq cq] 26)).alloc (.cells #[.slice Ar nr cr] 26)) = w7 := ⟨_, rfl⟩
        have hb67 : Below w6.heap.size w6 w7 := by
          rw [← hw7]
          exact ((Below.refl _ w6).alloc (Nat.le_refl _) _).alloc (by simp) _
        have o9 : One w7 (w6.heap.size + 1) (.slice Ar nr cr) 26 := by
          have := One.new (w6.alloc (.cells #[.slice Aq nq cq] 26)) (.slice Ar nr cr) 26
          rw [hw7] at this
          simpa using this
        have hb06 := hb5.trans (hb6.mono hb5.size)
        have hb07 := hb06.trans (hb67.mono hb06.size)
        have hNr := hvr.below hb67
        have c2 := (o2.step hb07).cell
        clear hvq hvr hb6 hb5 hb67 hb06 HD c1
        go_wp2_with fail
        clear hw7
        refine (HV.out _ hb07).mono ?_
        rintro e w8 ⟨rfl, hb8⟩
        have hb08 := hb07.trans (hb8.mono hb07.size)
        have c9 := (o9.step hb8).cell
        go_wp2_with fail
        refine (HR.out _ _ (hNr.below hb8)).mono ?_
        rintro e w9 ⟨rfl, hb9⟩
        have hb09 := hb08.trans (hb9.mono hb08.size)
        go_wp2_with fail
        have O3 := o3.step hb09
        have hlow9 : Below w.heap.size w w9 := hlow.trans (hb09.mono hlow.size)
        clear hb09 hb08 hb07 hb9 hb8 hNr o9 c9 c2 HV HR o1 o2 o3 hlow
        go_loopw [11, 13] (fun X Y wr => GcdR G X Y ∧ Below w9.heap.size w9 wr) (fun _ Y _ => (intOf Y).toNat)
        case atStart => exact ⟨⟨gk, R, rfl, rfl, HY2.out, Hr1.out, HG.out⟩, Below.refl _ _⟩
        case round =>
          obtain ⟨⟨X, Y, rfl, rfl, hX, hY, hgc⟩, hbr⟩ := hrel
          by_cases h0 : Y = 0
          · subst h0
            have hO := natOf_any (w := wr) (X : Int) (by omega) (by omega)
            rw [Int.toNat_natCast] at hO
            rw [Nat.gcd_zero_right] at hgc
            subst hgc
            have o3r := O3.step hbr
            have hlr : Below w.heap.size w wr := hlow9.trans (hbr.mono hlow9.size)
            clear hX hY HG
            go_wp2_with fail
            refine hO.mono ?_
            rintro e w10 ⟨v, rfl, hvg, hb10⟩
            obtain ⟨Ag, ng, cg, -, rfl⟩ := isNat_digs hvg
            have c3 := (o3r.step hb10).cell
            have f3 := (o3r.step hb10).frozen
            go_wp2_with fail
            have r3 := (o3r.step hb10).set_ (.slice Ag ng cg)
            refine bodyPost_ret (v := .agg #[.slice Ag ng cg]) (by simp [results, Tryd.results29, go_sem, r3.cell]) rfl ?_
            refine ⟨_, rfl, ?_, ?_⟩
            · exact IsNat.far hvg (p := ⟨w.heap.size + 1 + 1, 0, none⟩) (o3r.step hb10).row (by decide) _
            · exact (hlr.trans (hb10.mono hlr.size)).setCell (by show w.heap.size ≤ w.heap.size + 1 + 1; omega) _
          · have hp : ¬ ((Y : Int) = 0) := by omega
            have ht : (X : Int).tmod (Y : Int) = ((X % Y : Nat) : Int) := by rw [Int.tmod_eq_emod_of_nonneg (by omega), Int.natCast_emod]
            have hlt : X % Y < Y := Nat.mod_lt _ (by omega)
            have hy2 : 0 < (Y : Int) := by omega
            have hy1 : ((Y : Int) == 0) = false := beq_eq_false_iff_ne.2 (by omega)
            go_wp2_with fail
            go_region
            all_goals (try go_wp2)
            all_goals
              rw [← Int.natCast_emod]
              refine ⟨⟨⟨Y, X % Y, rfl, rfl, hY, by omega, ?_⟩, hbr.drew⟩, ?_⟩
              · rw [← hgc, gcd_turn]
              · show (((X % Y : Nat) : Int)).toNat < ((Y : Nat) : Int).toNat
                rw [Int.toNat_natCast, Int.toNat_natCast]; exact hlt
end Go.Proofs.YtapblmbjbpkieaaDoor
