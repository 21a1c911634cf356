/- Walk of the law PrefixParse. -/
import Derived.Test.YtgpgoadalnojdaaDoorLawSpl
import Derived.Test.YtgpgoadalnojdaaDoorPfxN
namespace Go.Proofs.YtgpgoadalnojdaaDoor
open Go.RowKit

set_option maxRecDepth 100000 in
set_option maxHeartbeats 8000000 in
theorem lawParse_long (s : ByteArray) (w : World) (hs : 100 < s.size) (hm : s.size ≤ 9223372036854775807) (hV : Vars w) :
    Calls Tryd.prog 4 #[.string s] w fun e w' => e = .returned (.bool true) ∧ Below w.heap.size w w' := by
  have hAw := Lib.hid (fun (W : World) (hW : Below w.heap.size w W) => awake_any W (hV.below hW))
  have hb : decide (100 < s.size) = true := decide_eq_true hs
  clear hV
  go_enter Tryd.func4, Tryd.ntmps4
  go_wp2_with fail
  refine (hAw.out _ (Below.refl _ _)).mono ?_
  rintro e w1 ⟨rfl, hb1⟩
  have H1 := Lib.hid hb1
  clear hb1
  go_wp2_with fail
  refine (hAw.out _ H1.out).mono ?_
  rintro e w2 ⟨rfl, hb2⟩
  have H2 := Lib.hid (H1.out.trans (hb2.mono H1.out.size))
  clear hb2
  go_wp2_with fail
  go_ret
  exact ⟨rfl, H2.out⟩
set_option maxRecDepth 100000 in
set_option maxHeartbeats 8000000 in
theorem lawParse_few (s : ByteArray) (w : World) (hs : s.size ≤ 100) (hV : Vars w) :
    Calls Tryd.prog 4 #[.string s] w fun e w' => e = .returned (.bool true) ∧ Below w.heap.size w w' := by
  have hAw := Lib.hid (fun (W : World) (hW : Below w.heap.size w W) => awake_any W (hV.below hW))
  have hP := Lib.hid (fun (W : World) (hW : Below w.heap.size w W) => parse_any s W (by omega) (hV.below hW))
  have hR := Lib.hid (fun W => refParse_any s W hs)
  obtain ⟨a, l, e, hf⟩ : ∃ (a : Nat) (l : Int) (e : Int), parseV (pPfx s.data.toList) = .tuple #[pv a l, .int .i64 e] := by
    cases pPfx s.data.toList with
    | none => exact ⟨0, 0, 3, rfl⟩
    | some p => exact ⟨p.1, p.2, 0, rfl⟩
  have hP2 := Lib.hid (fun (W : World) (hW : Below w.heap.size w W) => (hP.out W hW).mono (R' := fun en w' => en = .returned (.tuple #[pv a l, .int .i64 e]) ∧ Below W.heap.size W w') (fun en w' h => by unfold ParsePost at h; rwa [hf] at h))
  have hR2 := Lib.hid (fun (W : World) => (hR.out W).mono (R' := fun en w' => en = .returned (.tuple #[pv a l, .int .i64 e]) ∧ Below W.heap.size W w') (fun en w' h => by unfold RpPost ParsePost at h; rwa [hf] at h))
  have hb : decide (100 < s.size) = false := decide_eq_false (by omega)
  clear hV hP hR hf
  go_enter Tryd.func4, Tryd.ntmps4
  go_wp2_with fail
  refine (hAw.out _ (Below.refl _ _)).mono ?_
  rintro en w1 ⟨rfl, hb1⟩
  have H1 := Lib.hid (show Bx w [] w1 from ⟨hb1, fun x hx => by cases hx⟩)
  clear hb1
  go_wp2_with fail
  refine (hP2.out _ H1.out.1).mono ?_
  rintro en v1 ⟨rfl, hb⟩
  have H2 := Lib.hid (H1.out.step hb)
  clear hb H1
  go_upto_region 4 with fail
  have G2 := Lib.hid (H2.out.alloc1 a l)
  generalize v1.alloc (.cells #[.int .u32 (a : Int), .int .i64 l] 24) = u1 at G2 ⊢
  obtain ⟨bp, hbp⟩ : ∃ b, v1.heap.size = b := ⟨_, rfl⟩
  rw [hbp] at G2 ⊢
  clear hbp H2
  go_wp2_with fail
  refine (hR2.out _).mono ?_
  rintro en v2 ⟨rfl, hb⟩
  have H3 := Lib.hid (G2.out.step hb)
  clear hb G2
  go_upto_region 5 with fail
  have G3 := Lib.hid (H3.out.alloc1 a l)
  generalize v2.alloc (.cells #[.int .u32 (a : Int), .int .i64 l] 24) = u2 at G3 ⊢
  obtain ⟨bq, hbq⟩ : ∃ b, v2.heap.size = b := ⟨_, rfl⟩
  rw [hbq] at G3 ⊢
  clear hbq H3
  have p0 := (G3.out.get (b := bp) (a := a) (l := l) (by simp)).cell0
  have p1 := (G3.out.get (b := bp) (a := a) (l := l) (by simp)).cell1
  have q0 := (G3.out.get (b := bq) (a := a) (l := l) (by simp)).cell0
  have q1 := (G3.out.get (b := bq) (a := a) (l := l) (by simp)).cell1
  go_wp2_with fail
  go_ret
  exact ⟨rfl, G3.out.1⟩
theorem lawParse (s : ByteArray) (w : World) (hm : s.size ≤ 9223372036854775807) (hV : Vars w) :
    Calls Tryd.prog 4 #[.string s] w fun e w' => e = .returned (.bool true) ∧ Below w.heap.size w w' := by
  by_cases h : 100 < s.size
  · exact lawParse_long s w h hm hV
  · exact lawParse_few s w (by omega) hV
end Go.Proofs.YtgpgoadalnojdaaDoor
