/- Contracts of the helpers of layer 1's laws: small, number, is, same. -/
import Derived.Test.YtdbhlmifioccgaaDoorGcd
namespace Go.Proofs.YtdbhlmifioccgaaDoor
open Go.RowKit

def NumPost (w : World) (k : Nat) (e : Ending) (w' : World) : Prop := ∃ vn vr, e = .returned (.tuple #[vn, vr]) ∧ IsNat w' vn k ∧ LI w' vr (digs 1000000 k) ∧ Below w.heap.size w w'
theorem dec_len12 {k : Nat} (h : k < 4294967296 ^ 12) : (dec k).length ≤ 116 := (dec_len k 116 (by omega) (Nat.lt_of_lt_of_le h (by decide))).1
theorem LI.far {w : World} {v : Value} {ds : List Nat} (h : LI w v ds) {p : Addr} {P : Option Addr} {m n : Nat} (hp : w.cell? p = some (.slice P m n)) (u : Value) : LI (w.setCell p u) v ds := by
  obtain ⟨A, c, h1, h2, h3⟩ := h
  refine ⟨A, c, h1, h2, fun i hi => ?_⟩
  obtain ⟨a, ha, hlt, hcell⟩ := h3 i hi
  refine ⟨a, ha, by simpa using hlt, (World.cell?_setCell_other w p _ u ?_).trans hcell⟩
  intro e
  rw [← e, hp] at hcell
  simp [i64f] at hcell

set_option maxRecDepth 100000 in
set_option maxHeartbeats 2000000 in
theorem number_any {v : Value} {ds : List Nat} {w : World} (hlen : ds.length ≤ 12) (hd : ∀ d ∈ ds, d < 4294967296) (hv : LA w v ds) :
    Calls Tryd.prog 13 #[v] w (NumPost w (val 4294967296 ds)) := by
  have hk : val 4294967296 ds < 4294967296 ^ 12 := Nat.lt_of_lt_of_le (val_lt ds hd) (Nat.pow_le_pow_right (by omega) hlen)
  have hMk := Lib.hid (fun (W : World) (hb : Below w.heap.size w W) => make_any (w := W) hlen hd (hv.below hb))
  obtain ⟨k, hk0⟩ : ∃ k, k = val 4294967296 ds := ⟨_, rfl⟩
  rw [← hk0] at hk hMk ⊢
  have hd6 := digs6_len hk
  have hd4 : (dec k).length ≤ 116 := dec_len12 hk
  have hT := Lib.hid (fun (W : World) (v : Value) (h : LI W v (digs 1000000 k)) => refText_any (w := W) (by omega) h)
  have hP := Lib.hid (fun (W : World) => parse_ok (s := ⟨(dec k).toArray⟩) (w := W) (dec_isText k) (by simp [ByteArray.size]; omega))
  have hnd : numL (⟨(dec k).toArray⟩ : ByteArray).data.toList = k := numL_dec k
  rw [hnd] at hP
  obtain ⟨A, c, rfl, hA⟩ := hv
  have hb0 : Below w.heap.size w (w.alloc (.cells #[.slice none 0 0] 26)) := (Below.refl _ w).alloc (Nat.le_refl _) _
  have o2 := One.new w (.slice none 0 0) 26
  clear hk hd hnd hk0 hd6 hd4 hA
  go_enter Tryd.func13, Tryd.ntmps13
  go_wp2_with fail
  refine (hMk.out _ hb0).mono ?_
  rintro e w1 ⟨v1, rfl, hl1, hb1⟩
  have o21 := o2.step hb1
  have hbw1 := hb0.trans (hb1.mono hb0.size)
  go_wp2_with fail
  refine (hT.out _ _ hl1).mono ?_
  rintro e w2 ⟨rfl, hb2⟩
  unfold str
  have o22 := o21.step hb2
  have hbw2 := hbw1.trans (hb2.mono hbw1.size)
  go_wp2_with fail
  refine (hP.out _).mono ?_
  rintro e w3 ⟨v3, rfl, ⟨s3, rfl, A3, c3, rfl, hc3, hA3⟩, hb3⟩
  have hbw3 := hbw2.trans (hb3.mono hbw2.size)
  have hl3 := (hl1.below hb2).below hb3
  have o23 := o22.step hb3
  obtain ⟨w4, hw4⟩ : ∃ w4, w3.alloc (.cells #[.slice A3 (digs 4294967296 k).length c3] 26) = w4 := ⟨_, rfl⟩
  have hb34 : Below w3.heap.size w3 w4 := by rw [← hw4]; exact (Below.refl _ _).alloc (Nat.le_refl _) _
  have o5 : One w4 w3.heap.size (.slice A3 (digs 4294967296 k).length c3) 26 := by rw [← hw4]; exact One.new _ _ _
  have o24 := o23.step hb34
  have c5 := o5.cell
  have f2 := o24.frozen
  have c2 := o24.cell
  have hl4 := hl3.below hb34
  have hN4 : IsNat w4 (.agg #[.slice A3 (digs 4294967296 k).length c3]) k := IsNat.below ⟨_, rfl, A3, c3, rfl, hc3, hA3⟩ hb34
  have hbw4 := hbw3.trans (hb34.mono hbw3.size)
  go_wp2_with fail
  have r2 := o24.set_ (.slice A3 (digs 4294967296 k).length c3)
  refine bodyPost_ret (v := .tuple #[.agg #[.slice A3 (digs 4294967296 k).length c3], v1]) (by simp [results, Tryd.results13, go_sem, r2.cell]) rfl ?_
  exact ⟨_, _, rfl, hN4.far (p := ⟨w.heap.size, 0, none⟩) o24.row (by decide) _, hl4.far c2 _, hbw4.setCell (Nat.le_refl _) _⟩

set_option maxRecDepth 100000 in
set_option maxHeartbeats 2000000 in
theorem is_any {u v : Value} {k j : Nat} {w : World} (hlk : (digs 4294967296 k).length ≤ 1000) (hlj : (digs 1000000 j).length ≤ 1000) (hT : Tab w) (hu : IsNat w u k) (hv : LI w v (digs 1000000 j)) :
    Calls Tryd.prog 16 #[u, v] w fun e w' => e = .returned (.bool (dec k == dec j)) ∧ Below w.heap.size w w' := by
  have hTx := Lib.hid (fun (W : World) (hb : Below w.heap.size w W) => natText_any (w := W) hlk (hT.below hb) (hu.below hb))
  have hRt := Lib.hid (fun (W : World) (hb : Below w.heap.size w W) => refText_any (w := W) hlj (hv.below hb))
  obtain ⟨s, rfl, A, c, rfl, hc, hA⟩ := hu
  have hb0 : Below w.heap.size w (w.alloc (.cells #[.slice A (digs 4294967296 k).length c] 26)) := (Below.refl _ w).alloc (Nat.le_refl _) _
  have hq : ((⟨(dec k).toArray⟩ : ByteArray) == ⟨(dec j).toArray⟩) = (dec k == dec j) := by
    show ((dec k).toArray == (dec j).toArray) = _
    simp
  clear hA hc hlk hlj hT hv
  go_enter Tryd.func16, Tryd.ntmps16
  go_wp2_with fail
  refine (hTx.out _ hb0).mono ?_
  rintro e w1 ⟨rfl, hb1⟩
  have hbw1 := hb0.trans (hb1.mono hb0.size)
  unfold str
  go_wp2_with fail
  refine (hRt.out _ hbw1).mono ?_
  rintro e w2 ⟨rfl, hb2⟩
  unfold str
  go_wp2_with fail
  go_ret
  exact ⟨rfl, hbw1.trans (hb2.mono hbw1.size)⟩

set_option maxRecDepth 100000 in
theorem small_any {a b : Value} {A B : Option Addr} {n m ca cb : Nat} {w : World} (ha : a = .slice A n ca) (hb : b = .slice B m cb) (hn : n ≤ 9223372036854775807) (hm : m ≤ 9223372036854775807) :
    Calls Tryd.prog 12 #[a, b] w fun e w' => e = .returned (.bool (decide (n ≤ 12) && decide (m ≤ 12))) ∧ w' = w := by
  subst ha hb
  by_cases h1 : n ≤ 12
  · by_cases h2 : m ≤ 12
    · go_enter Tryd.func12, Tryd.ntmps12
      go_wp2
      go_ret
      simp [h1, h2]
      omega
    · go_enter Tryd.func12, Tryd.ntmps12
      go_wp2
      go_ret
      simp [h1, h2]
      omega
  · go_enter Tryd.func12, Tryd.ntmps12
    go_wp2
    go_ret
    simp
end Go.Proofs.YtdbhlmifioccgaaDoor
