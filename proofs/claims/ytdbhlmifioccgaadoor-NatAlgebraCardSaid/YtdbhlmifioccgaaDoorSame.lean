/- Contract of the helper same of layer 1's laws. -/
import Derived.Test.YtdbhlmifioccgaaDoorLawSums
namespace Go.Proofs.YtdbhlmifioccgaaDoor
open Go.RowKit

set_option maxRecDepth 100000 in
set_option maxHeartbeats 4000000 in
theorem same_any {u v : Value} {k : Nat} {w : World} (hl : (digs 4294967296 k).length ≤ 1000) (hT : Tab w) (hu : IsNat w u k) (hv : IsNat w v k) :
    Calls Tryd.prog 37 #[u, v] w fun e w' => e = .returned (.bool true) ∧ Below w.heap.size w w' := by
  have HC := Lib.hid (fun (W : World) (p q : Value) (hu : IsNat W p k) (hv : IsNat W q k) => cmp_any (w := W) (by omega) (by omega) hu hv)
  rw [cmpI_self] at HC
  have HT := Lib.hid (fun (W : World) (p : Value) (hb : Below w.heap.size w W) (hu : IsNat W p k) => natText_any (w := W) hl (hT.below hb) hu)
  unfold str at HT
  obtain ⟨A, n, ca, -, rfl⟩ := isNat_digs hu
  obtain ⟨B, m, cb, -, rfl⟩ := isNat_digs hv
  obtain ⟨w2, hw2⟩ : ∃ w2, ((w.alloc (.cells #[.slice A n ca] 26)).alloc (.cells #[.slice B m cb] 26)) = w2 := ⟨_, rfl⟩
  have hb2 : Below w.heap.size w w2 := by rw [← hw2]; exact ((Below.refl _ w).alloc (Nat.le_refl _) _).alloc (by simp) _
  have o1 : One w2 w.heap.size (.slice A n ca) 26 := by rw [← hw2]; exact (One.new w _ _).alloc _
  have o2 : One w2 (w.heap.size + 1) (.slice B m cb) 26 := by
    have := One.new (w.alloc (.cells #[.slice A n ca] 26)) (.slice B m cb) 26
    rw [hw2] at this
    simpa using this
  have hu2 := hu.below hb2
  have hv2 := hv.below hb2
  have c1 := o1.cell
  have c2 := o2.cell
  have d1 : w2.drew.cell? ⟨w.heap.size, 0, none⟩ = some (.slice A n ca) := c1
  have d2 : w2.drew.cell? ⟨w.heap.size + 1, 0, none⟩ = some (.slice B m cb) := c2
  have P1 : One w2.drew w.heap.size (.slice A n ca) 26 := o1
  have P2 : One w2.drew (w.heap.size + 1) (.slice B m cb) 26 := o2
  have hu3 : IsNat w2.drew (.agg #[.slice A n ca]) k := hu2
  have hv3 : IsNat w2.drew (.agg #[.slice B m cb]) k := hv2
  have hb3 : Below w.heap.size w w2.drew := hb2.drew
  clear hu hv hb2 o1 o2 hu2 hv2 hT hl
  go_enter Tryd.func37, Tryd.ntmps37
  go_wp2_with fail
  clear hw2
  go_region_with (first
    | (go_at_call 17; refine (HC.out _ _ _ hu3 hv3).mono ?_; rintro e w4 ⟨rfl, hb4⟩; have c14 := (P1.step hb4).cell; have c24 := (P2.step hb4).cell; have hb34 := hb3.trans (hb4.mono hb3.size))
    | (go_at_call_of 15 (Value.agg #[Value.slice A n ca]); refine (HT.out _ _ hb34 (hu3.below hb4)).mono ?_; rintro e w5 ⟨rfl, hb5⟩; have c15 := ((P1.step hb4).step hb5).cell; have c25 := ((P2.step hb4).step hb5).cell; have hb35 := hb34.trans (hb5.mono hb34.size))
    | (go_at_call_of 15 (Value.agg #[Value.slice B m cb]); refine (HT.out _ _ hb35 ((hv3.below hb4).below hb5)).mono ?_; rintro e w6 ⟨rfl, hb6⟩))
  all_goals (try go_wp2)
  all_goals
    go_ret
    exact ⟨rfl, hb35.trans (hb6.mono hb35.size)⟩
end Go.Proofs.YtdbhlmifioccgaaDoor
