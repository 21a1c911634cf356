/- The walk of the law TrieNil. -/
import Derived.Test.YtiiielpcipdgjaaTrNi
namespace Go.Proofs.Ytiiielpcipdgjaa
open Go.RowKit

set_option maxRecDepth 100000 in
set_option maxHeartbeats 16000000 in
theorem lawNil {w : World} (pa pl z : Int) : Calls Try.prog 9 #[.agg #[.int .u32 pa, .int .i64 pl, .int .i64 z]] w fun e w' => e = .returned (.bool true) ∧ Below w.heap.size w w' := by
  obtain ⟨w1, hw1, S⟩ : ∃ w1, w.alloc (.cells #[.int .u32 pa, .int .i64 pl, .int .i64 z] 37) = w1 ∧ Hid (Sr w [] [(w.heap.size, [.int .u32 pa, .int .i64 pl, .int .i64 z], 37)] w1) :=
    ⟨_, rfl, (Sr.start w).alloc [.int .u32 pa, .int .i64 pl, .int .i64 z] 37⟩
  have hAw := Lib.hid (fun W => awake_any W)
  have hLk := Lib.hid (fun W => nil_lookup W pa)
  have hGt := Lib.hid (fun W => nil_get W pa pl)
  have hPt := Lib.hid (fun W => nil_put W pa pl z)
  have hRm := Lib.hid (fun W => nil_remove W pa pl)
  have hRt := Lib.hid (fun W => routes_nil_any W)
  have hUn := Lib.hid (fun W => nil_under W 0 0)
  have hLn := Lib.hid (fun W => nil_len W)
  have hNd := Lib.hid (fun W => nil_nodes W)
  have hVd := Lib.hid (fun W => refValid_any 0 0 W (by omega))
  rw [show vldB 0 0 = true by decide] at hVd
  go_enter Try.func9, Try.ntmps9
  go_wp2_with fail
  refine (hAw.out _).mono ?_
  rintro e w2 ⟨rfl, hb⟩
  replace S := Lib.hid (S.out.below hb)
  clear hb hw1 hAw
  have c0x0 := (S.out.at 0 rfl).cell (i := 0) rfl
  have c0x1 := (S.out.at 0 rfl).cell (i := 1) rfl
  have c0x2 := (S.out.at 0 rfl).cell (i := 2) rfl
  go_wp2_with fail
  refine (hLk.out _).mono ?_
  rintro e w3 ⟨rfl, hb⟩
  replace S := Lib.hid ((S.out.below hb).alloc [.int .u32 0, .int .i64 0, .int .i64 0] 37)
  clear hb hLk c0x0 c0x1 c0x2
  have c1x0 := (S.out.at 1 rfl).cell (i := 0) rfl
  have c1x1 := (S.out.at 1 rfl).cell (i := 1) rfl
  have c1x2 := (S.out.at 1 rfl).cell (i := 2) rfl
  go_wp2_with fail
  clear c1x0 c1x1 c1x2
  generalize hx3 : w3.heap.size = x3 at S ⊢
  generalize World.alloc w3 _ = w4 at S ⊢
  clear hx3
  refine (hGt.out _).mono ?_
  rintro e w5 ⟨rfl, hb⟩
  replace S := Lib.hid (S.out.below hb)
  clear hb hGt
  have c1x0 := (S.out.at 1 rfl).cell (i := 0) rfl
  have c1x1 := (S.out.at 1 rfl).cell (i := 1) rfl
  have c1x2 := (S.out.at 1 rfl).cell (i := 2) rfl
  go_wp2_with fail
  refine (hPt.out _).mono ?_
  rintro e w6 ⟨rfl, hb⟩
  replace S := Lib.hid (S.out.below hb)
  clear hb hPt c1x0 c1x1 c1x2
  have c1x0 := (S.out.at 1 rfl).cell (i := 0) rfl
  have c1x1 := (S.out.at 1 rfl).cell (i := 1) rfl
  have c1x2 := (S.out.at 1 rfl).cell (i := 2) rfl
  go_wp2_with fail
  refine (hRm.out _).mono ?_
  rintro e w7 ⟨rfl, hb⟩
  replace S := Lib.hid (S.out.below hb)
  clear hb hRm c1x0 c1x1 c1x2
  have c0x0 := (S.out.at 0 rfl).cell (i := 0) rfl
  have c0x1 := (S.out.at 0 rfl).cell (i := 1) rfl
  have c0x2 := (S.out.at 0 rfl).cell (i := 2) rfl
  go_wp2_with fail
  refine (hRt.out _).mono ?_
  rintro e w8 ⟨rfl, hb⟩
  replace S := Lib.hid (S.out.below hb)
  clear hb hRt c0x0 c0x1 c0x2
  go_wp2_with fail
  refine (hUn.out _).mono ?_
  rintro e w9 ⟨rfl, hb⟩
  replace S := Lib.hid (S.out.below hb)
  clear hb hUn
  go_wp2_with fail
  refine (hLn.out _).mono ?_
  rintro e w10 ⟨rfl, hb⟩
  replace S := Lib.hid (S.out.below hb)
  clear hb hLn
  go_wp2_with fail
  refine (hNd.out _).mono ?_
  rintro e w11 ⟨rfl, hb⟩
  replace S := Lib.hid (S.out.below hb)
  clear hb hNd
  go_wp2_with fail
  refine (hVd.out _).mono ?_
  rintro e w12 ⟨rfl, hb⟩
  replace S := Lib.hid (S.out.below hb)
  clear hb hVd
  go_wp2_with fail
  go_ret
  exact ⟨rfl, S.out.low⟩
end Go.Proofs.Ytiiielpcipdgjaa
