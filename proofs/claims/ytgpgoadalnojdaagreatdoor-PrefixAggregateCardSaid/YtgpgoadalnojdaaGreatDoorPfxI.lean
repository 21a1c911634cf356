/- Contracts of package prefix: Parse. -/
import Derived.Test.YtgpgoadalnojdaaGreatDoorPfxH
namespace Go.Proofs.YtgpgoadalnojdaaGreatDoor
open Go.RowKit

def parseV (o : Option Px) : Value := match o with
  | some p => .tuple #[pv p.1 (p.2 : Nat), .int .i64 0]
  | none => .tuple #[pv 0 0, .int .i64 3]
def ParsePost (w : World) (o : Option Px) (e : Ending) (w' : World) : Prop := e = .returned (parseV o) ∧ Below w.heap.size w w'
theorem cut_len (s : List UInt8) : (Lib.cut s [47]).1.length ≤ s.length ∧ (Lib.cut s [47]).2.1.length ≤ s.length := by
  unfold Lib.cut
  split
  · simp; omega
  · simp
theorem cut_any (s : ByteArray) (w : World) (hs : s.size < 4294967281) (hV : Vars w) : Calls Tryz.prog 25 #[.string s, .string ⟨#[47]⟩] w fun e w' =>
    e = .returned (.tuple #[.string (str (Lib.cut s.data.toList [47]).1), .string (str (Lib.cut s.data.toList [47]).2.1), .bool (Lib.cut s.data.toList [47]).2.2]) ∧ Below w.heap.size w w' := by
  obtain ⟨m, hm⟩ := hV.len
  refine (Tryz.strings_Cut s ⟨#[47]⟩ m w hs hm).mono ?_
  rintro e w' ⟨rfl, n, rfl⟩
  exact ⟨rfl, Joins.below_draws _ _ _⟩
theorem str_size (l : List UInt8) : (str l).size = l.length := rfl
theorem Ret1.two {w W : World} {b a : Nat} {l : Int} (h : Ret1 w b a l W) {W' : World} (hb : Below W.heap.size W W') (p : Addr) (hp : W.heap.size ≤ p.block) (u : Value) : Ret1 w b a l (W'.setCell p u) := by
  obtain ⟨h1, h2, h3⟩ := h
  have := h1.lt
  exact ⟨(h1.step hb).far (by omega) _, h2, (h3.trans (hb.mono h3.size)).setCell (Nat.le_trans h3.size hp) _⟩
/-- The box of a prefix that has just been made. -/
theorem fresh_box (W : World) (a : Nat) (l : Int) : ∃ W', W.alloc (.cells #[.int .u32 (a : Int), .int .i64 l] 32) = W' ∧ PB W' W.heap.size a l ∧ Below W.heap.size W W' :=
  ⟨_, rfl, PB.new W a l, (Below.refl _ _).alloc (Nat.le_refl _) _⟩

set_option maxHeartbeats 4000000 in
theorem parse_noaddr (s : ByteArray) (w : World) (hs : s.size < 4294967281) (hV : Vars w) (ha : pAddr (Lib.cut s.data.toList [47]).1 = none) :
    Calls Tryz.prog 13 #[.string s] w (ParsePost w none) := by
  obtain ⟨b, hb0⟩ : ∃ b, w.heap.size = b := ⟨_, rfl⟩
  have h1 : Ret1 w b 0 0 (w.alloc (.cells #[.int .u32 0, .int .i64 0] 32)) := ⟨by rw [← hb0]; exact PB.new _ _ _, by omega, (Below.refl _ _).alloc (Nat.le_refl _) _⟩
  obtain ⟨w1, hw1⟩ : ∃ w1, w.alloc (.cells #[.int .u32 0, .int .i64 0] 32) = w1 := ⟨_, rfl⟩
  rw [hw1] at h1
  have H1 := Lib.hid h1
  have B0 := Lib.hid hb0
  have hCut := Lib.hid (cut_any s w1 hs (hV.below h1.2.2))
  obtain ⟨A, hA⟩ : ∃ A, (Lib.cut s.data.toList [47]).1 = A := ⟨_, rfl⟩
  obtain ⟨B, hB⟩ : ∃ B, (Lib.cut s.data.toList [47]).2.1 = B := ⟨_, rfl⟩
  obtain ⟨fl, hfl⟩ : ∃ f, (Lib.cut s.data.toList [47]).2.2 = f := ⟨_, rfl⟩
  have hlen := cut_len s.data.toList
  have hss : s.data.toList.length = s.size := rfl
  rw [hA, hB] at hlen
  rw [hA, hB, hfl] at hCut
  have hAddr := Lib.hid (fun (W : World) (hW : Below w.heap.size w W) => parseAddr_any (str A) W (by rw [str_size]; omega) (hV.below hW))
  have hNum := Lib.hid (fun (W : World) (hW : Below w.heap.size w W) => parseNumber_any (str B) 32 W (by rw [str_size]; omega) (hV.below hW))
  rw [hA] at ha
  have hd : (str A).data.toList = A := rfl
  rw [hd, ha] at hAddr
  obtain ⟨o, ho⟩ : ∃ o, num (str B).data.toList 32 = o := ⟨_, rfl⟩
  rw [ho] at hNum
  clear hs hV h1 hb0 hA hB hfl hlen hss ho ha hd
  cases o with
  | none =>
    go_enter Tryz.func13, Tryz.ntmps13
    go_wp2_with fail
    try simp only [B0.out]
    refine hCut.out.mono ?_
    rintro e w2 ⟨rfl, hb2⟩
    have H2 := Lib.hid (H1.out.step hb2)
    have HA2 := Lib.hid (hAddr.out w2 H2.out.2.2)
    clear hb2 hw1
    go_wp2_with fail
    refine HA2.out.mono ?_
    rintro e w3 ⟨rfl, hb3⟩
    have H3 := Lib.hid (H2.out.step hb3)
    have HN3 := Lib.hid (hNum.out w3 H3.out.2.2)
    clear hb3
    unfold addrV
    go_wp2_with fail
    refine HN3.out.mono ?_
    rintro e w4 ⟨rfl, hb4⟩
    have H4 := Lib.hid (H3.out.step hb4)
    clear hb4
    unfold numV
    go_upto_region 5 with fail
    obtain ⟨w5, hw5, hP5, hb5⟩ := fresh_box w4 0 0
    have H5 := Lib.hid (H4.out.step hb5)
    have P5 := Lib.hid (And.intro hP5 (show b ≠ w4.heap.size by have := H4.out.1.lt; omega))
    rw [show w4.alloc (.cells #[.int .u32 0, .int .i64 0] 32) = w5 from hw5]
    generalize w4.heap.size = g at P5 ⊢
    clear hw5 hP5 hb5
    have f0 := H5.out.1.frozen 0
    have f1 := H5.out.1.frozen 1
    have c0 : w5.cell? ⟨b, 0, none⟩ = some (.int .u32 0) := H5.out.1.cell0
    have c1 := H5.out.1.cell1
    go_wp2_with fail
    have HT := Lib.hid (show Ret1 w b 0 0 ((w5.setCell ⟨b, 0, none⟩ (.int .u32 0)).setCell ⟨b, 1, none⟩ (.int .i64 0)) from H5.out.set1 0 0)
    generalize (w5.setCell ⟨b, 0, none⟩ (.int .u32 0)).setCell ⟨b, 1, none⟩ (.int .i64 0) = W7 at HT ⊢
    have z0 := HT.out.1.cell0
    have z1 := HT.out.1.cell1
    exact bodyPost_ret (v := .tuple #[pv 0 0, .int .i64 3]) (by simp [results, Tryz.results13, go_sem, z0, z1]) rfl ⟨rfl, HT.out.2.2⟩
  | some n =>
    go_enter Tryz.func13, Tryz.ntmps13
    go_wp2_with fail
    try simp only [B0.out]
    refine hCut.out.mono ?_
    rintro e w2 ⟨rfl, hb2⟩
    have H2 := Lib.hid (H1.out.step hb2)
    have HA2 := Lib.hid (hAddr.out w2 H2.out.2.2)
    clear hb2 hw1
    go_wp2_with fail
    refine HA2.out.mono ?_
    rintro e w3 ⟨rfl, hb3⟩
    have H3 := Lib.hid (H2.out.step hb3)
    have HN3 := Lib.hid (hNum.out w3 H3.out.2.2)
    clear hb3
    unfold addrV
    go_wp2_with fail
    refine HN3.out.mono ?_
    rintro e w4 ⟨rfl, hb4⟩
    have H4 := Lib.hid (H3.out.step hb4)
    clear hb4
    unfold numV
    go_upto_region 5 with fail
    obtain ⟨w5, hw5, hP5, hb5⟩ := fresh_box w4 0 (n : Int)
    have H5 := Lib.hid (H4.out.step hb5)
    have P5 := Lib.hid (And.intro hP5 (show b ≠ w4.heap.size by have := H4.out.1.lt; omega))
    rw [show w4.alloc (.cells #[.int .u32 0, .int .i64 (n : Int)] 32) = w5 from hw5]
    generalize w4.heap.size = g at P5 ⊢
    clear hw5 hP5 hb5
    have f0 := H5.out.1.frozen 0
    have f1 := H5.out.1.frozen 1
    have c0 : w5.cell? ⟨b, 0, none⟩ = some (.int .u32 0) := H5.out.1.cell0
    have c1 := H5.out.1.cell1
    go_wp2_with fail
    have HT := Lib.hid (show Ret1 w b 0 0 ((w5.setCell ⟨b, 0, none⟩ (.int .u32 0)).setCell ⟨b, 1, none⟩ (.int .i64 0)) from H5.out.set1 0 0)
    generalize (w5.setCell ⟨b, 0, none⟩ (.int .u32 0)).setCell ⟨b, 1, none⟩ (.int .i64 0) = W7 at HT ⊢
    have z0 := HT.out.1.cell0
    have z1 := HT.out.1.cell1
    exact bodyPost_ret (v := .tuple #[pv 0 0, .int .i64 3]) (by simp [results, Tryz.results13, go_sem, z0, z1]) rfl ⟨rfl, HT.out.2.2⟩

set_option maxHeartbeats 4000000 in
theorem parse_nonum (s : ByteArray) (w : World) (a : Nat) (hs : s.size < 4294967281) (hV : Vars w) (ha : pAddr (Lib.cut s.data.toList [47]).1 = some a) (hn : num (Lib.cut s.data.toList [47]).2.1 32 = none) :
    Calls Tryz.prog 13 #[.string s] w (ParsePost w none) := by
  obtain ⟨b, hb0⟩ : ∃ b, w.heap.size = b := ⟨_, rfl⟩
  have h1 : Ret1 w b 0 0 (w.alloc (.cells #[.int .u32 0, .int .i64 0] 32)) := ⟨by rw [← hb0]; exact PB.new _ _ _, by omega, (Below.refl _ _).alloc (Nat.le_refl _) _⟩
  obtain ⟨w1, hw1⟩ : ∃ w1, w.alloc (.cells #[.int .u32 0, .int .i64 0] 32) = w1 := ⟨_, rfl⟩
  rw [hw1] at h1
  have H1 := Lib.hid h1
  have B0 := Lib.hid hb0
  have hCut := Lib.hid (cut_any s w1 hs (hV.below h1.2.2))
  obtain ⟨A, hA⟩ : ∃ A, (Lib.cut s.data.toList [47]).1 = A := ⟨_, rfl⟩
  obtain ⟨B, hB⟩ : ∃ B, (Lib.cut s.data.toList [47]).2.1 = B := ⟨_, rfl⟩
  obtain ⟨fl, hfl⟩ : ∃ f, (Lib.cut s.data.toList [47]).2.2 = f := ⟨_, rfl⟩
  have hlen := cut_len s.data.toList
  have hss : s.data.toList.length = s.size := rfl
  rw [hA, hB] at hlen
  rw [hA, hB, hfl] at hCut
  have hAddr := Lib.hid (fun (W : World) (hW : Below w.heap.size w W) => parseAddr_any (str A) W (by rw [str_size]; omega) (hV.below hW))
  have hNum := Lib.hid (fun (W : World) (hW : Below w.heap.size w W) => parseNumber_any (str B) 32 W (by rw [str_size]; omega) (hV.below hW))
  rw [hA] at ha
  have hd : (str A).data.toList = A := rfl
  rw [hd, ha] at hAddr
  rw [hB] at hn
  have hd2 : (str B).data.toList = B := rfl
  rw [hd2, hn] at hNum
  clear hs hV h1 hb0 hA hB hfl hlen hss ha hd hd2 hn
  go_enter Tryz.func13, Tryz.ntmps13
  go_wp2_with fail
  try simp only [B0.out]
  refine hCut.out.mono ?_
  rintro e w2 ⟨rfl, hb2⟩
  have H2 := Lib.hid (H1.out.step hb2)
  have HA2 := Lib.hid (hAddr.out w2 H2.out.2.2)
  clear hb2 hw1
  go_wp2_with fail
  refine HA2.out.mono ?_
  rintro e w3 ⟨rfl, hb3⟩
  have H3 := Lib.hid (H2.out.step hb3)
  have HN3 := Lib.hid (hNum.out w3 H3.out.2.2)
  clear hb3
  unfold addrV
  go_wp2_with fail
  refine HN3.out.mono ?_
  rintro e w4 ⟨rfl, hb4⟩
  have H4 := Lib.hid (H3.out.step hb4)
  clear hb4
  unfold numV
  go_upto_region 5 with fail
  obtain ⟨w5, hw5, hP5, hb5⟩ := fresh_box w4 a 0
  have H5 := Lib.hid (H4.out.step hb5)
  have P5 := Lib.hid (And.intro hP5 (show b ≠ w4.heap.size by have := H4.out.1.lt; omega))
  rw [show w4.alloc (.cells #[.int .u32 (a : Int), .int .i64 0] 32) = w5 from hw5]
  generalize w4.heap.size = g at P5 ⊢
  clear hw5 hP5 hb5
  have f0 := H5.out.1.frozen 0
  have f1 := H5.out.1.frozen 1
  have c0 : w5.cell? ⟨b, 0, none⟩ = some (.int .u32 0) := H5.out.1.cell0
  have c1 := H5.out.1.cell1
  go_wp2_with fail
  have HT := Lib.hid (show Ret1 w b 0 0 ((w5.setCell ⟨b, 0, none⟩ (.int .u32 0)).setCell ⟨b, 1, none⟩ (.int .i64 0)) from H5.out.set1 0 0)
  generalize (w5.setCell ⟨b, 0, none⟩ (.int .u32 0)).setCell ⟨b, 1, none⟩ (.int .i64 0) = W7 at HT ⊢
  have z0 := HT.out.1.cell0
  have z1 := HT.out.1.cell1
  exact bodyPost_ret (v := .tuple #[pv 0 0, .int .i64 3]) (by simp [results, Tryz.results13, go_sem, z0, z1]) rfl ⟨rfl, HT.out.2.2⟩

set_option maxHeartbeats 4000000 in
theorem parse_both (s : ByteArray) (w : World) (a n : Nat) (hs : s.size < 4294967281) (hV : Vars w) (ha : pAddr (Lib.cut s.data.toList [47]).1 = some a) (hn : num (Lib.cut s.data.toList [47]).2.1 32 = some n) :
    Calls Tryz.prog 13 #[.string s] w (ParsePost w (if vldB a (n : Int) then some (a, n) else none)) := by
  have ha2 := pAddr_lt ha
  obtain ⟨b, hb0⟩ : ∃ b, w.heap.size = b := ⟨_, rfl⟩
  have h1 : Ret1 w b 0 0 (w.alloc (.cells #[.int .u32 0, .int .i64 0] 32)) := ⟨by rw [← hb0]; exact PB.new _ _ _, by omega, (Below.refl _ _).alloc (Nat.le_refl _) _⟩
  obtain ⟨w1, hw1⟩ : ∃ w1, w.alloc (.cells #[.int .u32 0, .int .i64 0] 32) = w1 := ⟨_, rfl⟩
  rw [hw1] at h1
  have H1 := Lib.hid h1
  have B0 := Lib.hid hb0
  have hCut := Lib.hid (cut_any s w1 hs (hV.below h1.2.2))
  obtain ⟨A, hA⟩ : ∃ A, (Lib.cut s.data.toList [47]).1 = A := ⟨_, rfl⟩
  obtain ⟨B, hB⟩ : ∃ B, (Lib.cut s.data.toList [47]).2.1 = B := ⟨_, rfl⟩
  obtain ⟨fl, hfl⟩ : ∃ f, (Lib.cut s.data.toList [47]).2.2 = f := ⟨_, rfl⟩
  have hlen := cut_len s.data.toList
  have hss : s.data.toList.length = s.size := rfl
  rw [hA, hB] at hlen
  rw [hA, hB, hfl] at hCut
  have hAddr := Lib.hid (fun (W : World) (hW : Below w.heap.size w W) => parseAddr_any (str A) W (by rw [str_size]; omega) (hV.below hW))
  have hNum := Lib.hid (fun (W : World) (hW : Below w.heap.size w W) => parseNumber_any (str B) 32 W (by rw [str_size]; omega) (hV.below hW))
  rw [hA] at ha
  have hd : (str A).data.toList = A := rfl
  rw [hd, ha] at hAddr
  rw [hB] at hn
  have hd2 : (str B).data.toList = B := rfl
  rw [hd2, hn] at hNum
  have hVal := Lib.hid (fun W => valid_any a n W ha2)
  obtain ⟨v, hv⟩ : ∃ v, vldB a (n : Int) = v := ⟨_, rfl⟩
  rw [hv] at hVal ⊢
  obtain ⟨o, ho⟩ : ∃ o, (if v = true then some ((a, n) : Px) else none) = o := ⟨_, rfl⟩
  rw [ho]
  have HO := Lib.hid ho.symm
  clear hs hV h1 hb0 hA hB hfl hlen hss ha hd hd2 hn ha2 hv ho
  go_enter Tryz.func13, Tryz.ntmps13
  go_wp2_with fail
  try simp only [B0.out]
  refine hCut.out.mono ?_
  rintro e w2 ⟨rfl, hb2⟩
  have H2 := Lib.hid (H1.out.step hb2)
  have HA2 := Lib.hid (hAddr.out w2 H2.out.2.2)
  clear hb2 hw1
  go_wp2_with fail
  refine HA2.out.mono ?_
  rintro e w3 ⟨rfl, hb3⟩
  have H3 := Lib.hid (H2.out.step hb3)
  have HN3 := Lib.hid (hNum.out w3 H3.out.2.2)
  clear hb3
  unfold addrV
  go_wp2_with fail
  refine HN3.out.mono ?_
  rintro e w4 ⟨rfl, hb4⟩
  have H4 := Lib.hid (H3.out.step hb4)
  clear hb4
  unfold numV
  go_upto_region 5 with fail
  obtain ⟨w5, hw5, hP5, hb5⟩ := fresh_box w4 a (n : Int)
  have H5 := Lib.hid (H4.out.step hb5)
  have P5 := Lib.hid (And.intro hP5 (show b ≠ w4.heap.size by have := H4.out.1.lt; omega))
  rw [show w4.alloc (.cells #[.int .u32 (a : Int), .int .i64 (n : Int)] 32) = w5 from hw5]
  generalize w4.heap.size = g at P5 ⊢
  clear hw5 hP5 hb5

  have p0 := P5.out.1.cell0
  have p1 := P5.out.1.cell1
  go_wp2_with fail
  refine (hVal.out _).mono ?_
  rintro e w6 ⟨rfl, hb6⟩
  have H6 := Lib.hid (H5.out.step hb6)
  have P6 := Lib.hid (P5.out.1.step hb6)
  clear hb6 p0 p1
  have f0 := H6.out.1.frozen 0
  have f1 := H6.out.1.frozen 1
  have c0 : w6.cell? ⟨b, 0, none⟩ = some (.int .u32 0) := H6.out.1.cell0
  have c1 := H6.out.1.cell1
  have p0 := P6.out.cell0
  have p1 := P6.out.cell1
  cases v with
  | false =>
    go_wp2_with fail
    have HT := Lib.hid (show Ret1 w b 0 0 ((w6.setCell ⟨b, 0, none⟩ (.int .u32 0)).setCell ⟨b, 1, none⟩ (.int .i64 0)) from H6.out.set1 0 0)
    generalize (w6.setCell ⟨b, 0, none⟩ (.int .u32 0)).setCell ⟨b, 1, none⟩ (.int .i64 0) = W7 at HT ⊢
    have z0 := HT.out.1.cell0
    have z1 := HT.out.1.cell1
    exact bodyPost_ret (v := .tuple #[pv 0 0, .int .i64 3]) (by simp [results, Tryz.results13, go_sem, z0, z1]) rfl ⟨by rw [HO.out]; rfl, HT.out.2.2⟩
  | true =>
    go_wp2_with fail
    have HT := Lib.hid (H6.out.set1 a (n : Int))
    generalize (w6.setCell ⟨b, 0, none⟩ (.int .u32 (a : Int))).setCell ⟨b, 1, none⟩ (.int .i64 (n : Int)) = W7 at HT ⊢
    have z0 := HT.out.1.cell0
    have z1 := HT.out.1.cell1
    exact bodyPost_ret (v := .tuple #[pv a (n : Int), .int .i64 0]) (by simp [results, Tryz.results13, go_sem, z0, z1]) rfl ⟨by rw [HO.out]; rfl, HT.out.2.2⟩

theorem vldB_vld {a n : Nat} (ha : a < 4294967296) : vldB a (n : Int) = true ↔ Vld (a, n) := by
  rw [vld_iff ha]
  unfold vldB
  rw [decide_eq_true_iff, Int.toNat_natCast]
  omega
theorem parse_any (s : ByteArray) (w : World) (hs : s.size < 4294967281) (hV : Vars w) : Calls Tryz.prog 13 #[.string s] w (ParsePost w (pPfx s.data.toList)) := by
  unfold pPfx
  cases ha : pAddr (Lib.cut s.data.toList [47]).1 with
  | none => exact parse_noaddr s w hs hV ha
  | some a =>
    cases hn : num (Lib.cut s.data.toList [47]).2.1 32 with
    | none => exact parse_nonum s w a hs hV ha hn
    | some n =>
      have h := parse_both s w a n hs hV ha hn
      simp only
      have he : (if vldB a (n : Int) = true then some (a, n) else none) = (if Vld (a, n) then some (a, n) else none) := by
        by_cases hv : Vld (a, n)
        · rw [if_pos hv, if_pos ((vldB_vld (pAddr_lt ha)).2 hv)]
        · rw [if_neg hv, if_neg (fun h => hv ((vldB_vld (pAddr_lt ha)).1 h))]
      rw [← he]
      exact h
end Go.Proofs.YtgpgoadalnojdaaGreatDoor
