/- The walk of the law FletcherJoins. -/
import Derived.Test.YtlbckhapcnlmnabFlG
namespace Go.Proofs.Ytlbckhapcnlmnab
open Go.RowKit

set_option maxRecDepth 100000 in
set_option maxHeartbeats 8000000 in
theorem lawJoins_large {w : World} {A B : Option Addr} {n c m d : Nat} {z : Int} (hn : 1000 < n ∨ 1000 < m) (hn2 : n ≤ 9223372036854775807) (hm2 : m ≤ 9223372036854775807) : Calls Try.prog 5 #[.slice A n c, .slice B m d, .int .i64 z] w fun e w' => e = .returned (.bool true) ∧ Below w.heap.size w w' := by
  have HA := Lib.hid (awake_any w)
  by_cases h1 : 1000 < n
  · have g1 : (n : Int) > 1000 := by omega
    clear hn h1
    go_enter Try.func5, Try.ntmps5
    go_wp2_with fail
    refine HA.out.mono ?_
    rintro e w1 ⟨rfl, hb⟩
    have HB := Lib.hid hb
    clear hb HA
    go_wp2_with fail
    go_ret
    exact ⟨rfl, HB.out⟩
  · have g1 : ¬ ((n : Int) > 1000) := by omega
    have g2 : (m : Int) > 1000 := by omega
    clear hn h1
    go_enter Try.func5, Try.ntmps5
    go_wp2_with fail
    refine HA.out.mono ?_
    rintro e w1 ⟨rfl, hb⟩
    have HB := Lib.hid hb
    clear hb HA
    go_wp2_with fail
    go_ret
    exact ⟨rfl, HB.out⟩
abbrev ar2 (x y : Int) : List Value := [.int .i64 x, .int .i64 y]
/-- What Join returns for the sums of l and m. -/
theorem join_sums (l m : List UInt8) (k : Nat) (hk : m.length % 255 = k) : J1 (s1 l % 255) (s1 m % 255) = ((s1 (l ++ m) % 255 : Nat) : Int) ∧ J2 (s1 l % 255) (s2 l % 255) (s2 m % 255) k = ((s2 (l ++ m) % 255 : Nat) : Int) := by
  unfold J1 J2
  rw [s1_append, s2_append]
  have h : k * (s1 l % 255) % 255 = m.length * s1 l % 255 := by rw [← hk, ← Nat.mul_mod]
  constructor
  · congr 1
    omega
  · congr 1
    omega
set_option maxRecDepth 100000 in
set_option maxHeartbeats 16000000 in
theorem lawJoins {w : World} {A B : Option Addr} {n c m d : Nat} {l1 l2 : List UInt8} {z : Int} (h1 : By w (.slice A n c) l1) (h2 : By w (.slice B m d) l2) :
    Calls Try.prog 5 #[.slice A n c, .slice B m d, .int .i64 z] w fun e w' => e = .returned (.bool true) ∧ Below w.heap.size w w' := by
  obtain ⟨hn, hc, hc2⟩ := h1.len
  obtain ⟨hm, hd, hd2⟩ := h2.len
  by_cases hl : 1000 < n ∨ 1000 < m
  · exact lawJoins_large hl (by omega) (by omega)
  · have g1 : ¬ ((n : Int) > 1000) := by omega
    have g2 : ¬ ((m : Int) > 1000) := by omega
    have HA := Lib.hid (awake_any w)
    have H1 := Lib.hid h1
    have H2 := Lib.hid h2
    have HLn := Lib.hid (show l1.length + l2.length ≤ 2000 ∧ n = l1.length ∧ m = l2.length by omega)
    have HR := Lib.hid (fun W (hW : Below w.heap.size w W) => refSum_any (h1.below hW))
    have HS := Lib.hid (fun W (hW : Below w.heap.size w W) => refSum_any (h2.below hW))
    have HR2 := Lib.hid (fun W A c (hW : By W (.slice A (l1.length + l2.length) c) (l1 ++ l2)) => refSum_any hW)
    obtain ⟨k, hk⟩ : ∃ k : Nat, z % 255 = (k : Int) := ⟨(z % 255).toNat, by omega⟩
    obtain ⟨j, hj⟩ : ∃ j, l2.length % 255 = j := ⟨_, rfl⟩
    have a1 : s1 l1 % 255 < 255 := Nat.mod_lt _ (by decide)
    have a2 : s2 l1 % 255 < 255 := Nat.mod_lt _ (by decide)
    have a3 : s1 l2 % 255 < 255 := Nat.mod_lt _ (by decide)
    have a4 : s2 l2 % 255 < 255 := Nat.mod_lt _ (by decide)
    have HJ1 := Lib.hid (fun W => join_any (s1 l1 % 255) (s2 l1 % 255) (s1 l2 % 255) (s2 l2 % 255) j (m : Int) a1 a2 a3 a4 (by omega) W)
    rw [(join_sums l1 l2 j hj).1, (join_sums l1 l2 j hj).2] at HJ1
    have HJ2 := Lib.hid (fun W => join_any (s1 l1 % 255) (s2 l1 % 255) (s1 l2 % 255) (s2 l2 % 255) k z a1 a2 a3 a4 hk W)
    have HJ3 := Lib.hid (fun W => join_any (s1 l1 % 255) (s2 l1 % 255) (s1 l2 % 255) (s2 l2 % 255) k (k : Int) a1 a2 a3 a4 (by omega) W)
    have HD := Lib.hid (fun W => reduced_any z W)
    rw [hk] at HD
    obtain ⟨X, hX⟩ : ∃ X : Int, ((s1 l1 % 255 : Nat) : Int) = X := ⟨_, rfl⟩
    obtain ⟨Y, hY⟩ : ∃ Y : Int, ((s2 l1 % 255 : Nat) : Int) = Y := ⟨_, rfl⟩
    obtain ⟨U, hU⟩ : ∃ U : Int, ((s1 l2 % 255 : Nat) : Int) = U := ⟨_, rfl⟩
    obtain ⟨V, hV⟩ : ∃ V : Int, ((s2 l2 % 255 : Nat) : Int) = V := ⟨_, rfl⟩
    rw [hX, hY] at HR
    rw [hU, hV] at HS
    rw [hX, hY, hU, hV] at HJ1 HJ2 HJ3
    generalize ((s1 (l1 ++ l2) % 255 : Nat) : Int) = P at HR2 HJ1
    generalize ((s2 (l1 ++ l2) % 255 : Nat) : Int) = Q at HR2 HJ1
    generalize J1 (s1 l1 % 255) (s1 l2 % 255) = R at HJ2 HJ3
    generalize J2 (s1 l1 % 255) (s2 l1 % 255) (s2 l2 % 255) k = T at HJ2 HJ3
    clear h1 h2 hl hn hm a1 a2 a3 a4 hX hY hU hV hk hj
    go_enter Try.func5, Try.ntmps5
    go_wp2_with fail
    refine HA.out.mono ?_
    rintro e w1 ⟨rfl, hb⟩
    have HB := Lib.hid hb
    clear hb HA
    obtain ⟨g3, hg3⟩ : ∃ g3, w1.heap.size = g3 := ⟨_, rfl⟩
    obtain ⟨w2, hw2⟩ : ∃ w2, w1.alloc (.cells #[.int .i64 0, .int .i64 0] 31) = w2 := ⟨_, rfl⟩
    have hG3 : Blk w2 g3 (ar2 0 0) 31 := by rw [← hw2, ← hg3]; exact Blk.new w1 _ _
    have hb2 : Below w.heap.size w w2 := by rw [← hw2]; exact HB.out.alloc HB.out.size _
    obtain ⟨g4, hg4⟩ : ∃ g4, w2.heap.size = g4 := ⟨_, rfl⟩
    obtain ⟨w3, hw3⟩ : ∃ w3, w2.alloc (.cells #[.int .i64 0, .int .i64 0] 31) = w3 := ⟨_, rfl⟩
    have hG4 : Blk w3 g4 (ar2 0 0) 31 := by rw [← hw3, ← hg4]; exact Blk.new w2 _ _
    have hG3' : Blk w3 g3 (ar2 0 0) 31 := by rw [← hw3]; exact hG3.alloc _
    have hb3 : Below w.heap.size w w3 := by rw [← hw3]; exact hb2.alloc hb2.size _
    have HX := Lib.hid (show g3 ≠ g4 ∧ w.heap.size ≤ g3 ∧ w.heap.size ≤ g4 by have := hG3.lt; have := hb2.size; have := HB.out.size; omega)
    have HB3 := Lib.hid hb3
    have HG3 := Lib.hid hG3'
    have HG4 := Lib.hid hG4
    clear hG3 hG3' hG4 hb2 hb3 HB
    go_wp2_with fail
    refine (HR.out _ HB3.out).mono ?_
    rintro e w4 ⟨rfl, rfl⟩
    clear HR hw2 hw3 hg3 hg4
    have c0 := HG3.out.cell (i := 0) rfl
    have c1 := HG3.out.cell (i := 1) rfl
    have f0 := HG3.out.frozen (i := 0)
    have f1 := HG3.out.frozen (i := 1)
    have hG3 : Blk ((w3.setCell ⟨g3, 0, none⟩ (.int .i64 X)).setCell ⟨g3, 1, none⟩ (.int .i64 Y)) g3 (ar2 X Y) 31 := (HG3.out.set_ 0 (.int .i64 X)).set_ 1 (.int .i64 Y)
    have hG4 : Blk ((w3.setCell ⟨g3, 0, none⟩ (.int .i64 X)).setCell ⟨g3, 1, none⟩ (.int .i64 Y)) g4 (ar2 0 0) 31 := (HG4.out.far (p := ⟨g3, 0, none⟩) (fun e => HX.out.1 e.symm) _).far (p := ⟨g3, 1, none⟩) (fun e => HX.out.1 e.symm) _
    have hb4 : Below w.heap.size w ((w3.setCell ⟨g3, 0, none⟩ (.int .i64 X)).setCell ⟨g3, 1, none⟩ (.int .i64 Y)) := (HB3.out.setCell (p := ⟨g3, 0, none⟩) HX.out.2.1 _).setCell (p := ⟨g3, 1, none⟩) HX.out.2.1 _
    have HG3b := Lib.hid hG3
    have HG4b := Lib.hid hG4
    have HB4 := Lib.hid hb4
    clear hG3 hG4 hb4 HG3 HG4 HB3
    go_wp2_with fail
    clear c0 c1 f0 f1
    generalize (w3.setCell ⟨g3, 0, none⟩ (.int .i64 X)).setCell ⟨g3, 1, none⟩ (.int .i64 Y) = w4 at HG3b HG4b HB4 ⊢
    refine (HS.out _ HB4.out).mono ?_
    rintro e w5 ⟨rfl, rfl⟩
    clear HS
    have c0 := HG4b.out.cell (i := 0) rfl
    have c1 := HG4b.out.cell (i := 1) rfl
    have f0 := HG4b.out.frozen (i := 0)
    have f1 := HG4b.out.frozen (i := 1)
    have hG4 : Blk ((w4.setCell ⟨g4, 0, none⟩ (.int .i64 U)).setCell ⟨g4, 1, none⟩ (.int .i64 V)) g4 (ar2 U V) 31 := (HG4b.out.set_ 0 (.int .i64 U)).set_ 1 (.int .i64 V)
    have hG3 : Blk ((w4.setCell ⟨g4, 0, none⟩ (.int .i64 U)).setCell ⟨g4, 1, none⟩ (.int .i64 V)) g3 (ar2 X Y) 31 := (HG3b.out.far (p := ⟨g4, 0, none⟩) HX.out.1 _).far (p := ⟨g4, 1, none⟩) HX.out.1 _
    have hb4 : Below w.heap.size w ((w4.setCell ⟨g4, 0, none⟩ (.int .i64 U)).setCell ⟨g4, 1, none⟩ (.int .i64 V)) := (HB4.out.setCell (p := ⟨g4, 0, none⟩) HX.out.2.2 _).setCell (p := ⟨g4, 1, none⟩) HX.out.2.2 _
    obtain ⟨w6, hw6⟩ : ∃ w6, (w4.setCell ⟨g4, 0, none⟩ (.int .i64 U)).setCell ⟨g4, 1, none⟩ (.int .i64 V) = w6 := ⟨_, rfl⟩
    rw [hw6] at hG3 hG4 hb4
    have HG3 := Lib.hid hG3
    have HG4 := Lib.hid hG4
    have HB5 := Lib.hid hb4
    have q0 := hG3.cell (i := 0) rfl
    have q1 := hG3.cell (i := 1) rfl
    have r0 := hG4.cell (i := 0) rfl
    have r1 := hG4.cell (i := 1) rfl
    clear hG3 hG4 hb4 HG3b HG4b HB4
    go_wp2_with fail
    refine (HJ1.out _).mono ?_
    rintro e w7 ⟨rfl, hb⟩
    have hG3 := HG3.out.step hb
    have hG4 := HG4.out.step hb
    have hb7 := HB5.out.trans (hb.mono HB5.out.size)
    obtain ⟨v1, W1, A2, c2, W2, a1, a2, hy, hlow⟩ := bytes_cat (H1.out.below hb7) (H2.out.below hb7) (by have := HLn.out; omega)
    replace HG3 := Lib.hid (hG3.step hlow)
    replace HG4 := Lib.hid (hG4.step hlow)
    have HB8 := Lib.hid (hb7.trans (hlow.mono hb7.size))
    have HR1 := Lib.hid a1
    have HR3 := Lib.hid a2
    have HY := Lib.hid hy
    clear hG3 hG4 hb hb7 hy hlow a1 a2 q0 q1 r0 r1 hw6 HJ1 HB5
    go_wp2_with (first
      | (at_builtin; refine wpList_app rfl (.tmp 50) (.tmp 51) _ rfl rfl rfl HR1.out ?_)
      | (at_builtin; refine wpList_app rfl (.tmp 52) (.tmp 53) _ rfl rfl rfl HR3.out ?_))
    refine (HR2.out _ _ _ HY.out).mono ?_
    rintro e w8 ⟨rfl, rfl⟩
    have q0 := HG3.out.cell (i := 0) rfl
    have q1 := HG3.out.cell (i := 1) rfl
    have r0 := HG4.out.cell (i := 0) rfl
    have r1 := HG4.out.cell (i := 1) rfl
    clear HR2 HR1 HR3 HY
    go_wp2_with fail
    refine (HJ2.out _).mono ?_
    rintro e w8 ⟨rfl, hb⟩
    replace HG3 := Lib.hid (HG3.out.step hb)
    replace HG4 := Lib.hid (HG4.out.step hb)
    have HB9 := Lib.hid (HB8.out.trans (hb.mono HB8.out.size))
    clear hb q0 q1 r0 r1 HB8 HJ2
    have q0 := HG3.out.cell (i := 0) rfl
    have q1 := HG3.out.cell (i := 1) rfl
    have r0 := HG4.out.cell (i := 0) rfl
    have r1 := HG4.out.cell (i := 1) rfl
    go_wp2_with fail
    refine wp_region_held_drew (S := fun W' => W'.cell? ⟨g3, 0, none⟩ = some (.int .i64 X) ∧ W'.cell? ⟨g3, 1, none⟩ = some (.int .i64 Y) ∧ W'.cell? ⟨g4, 0, none⟩ = some (.int .i64 U) ∧ W'.cell? ⟨g4, 1, none⟩ = some (.int .i64 V)) (by kernel_rfl) ⟨q0, q1, r0, r1⟩ (fun hHeld => ?_)
    generalize hw9 : World.drew w8 = w9 at hHeld ⊢
    replace HB9 := Lib.hid (show Below w.heap.size w w9 by rw [← hw9]; exact HB9.out.drew)
    replace HG3 := Lib.hid (show Blk w9 g3 (ar2 X Y) 31 by rw [← hw9]; exact HG3.out)
    replace HG4 := Lib.hid (show Blk w9 g4 (ar2 U V) 31 by rw [← hw9]; exact HG4.out)
    clear hw9 q0 q1 r0 r1
    refine wpAnyH_takeD 0 (v := ?_) rfl rfl (by kernel_rfl) (by kernel_rfl) (by kernel_rfl) (fun _ _ _ h => h) (Or.inl ⟨by rfl, ?_⟩) hHeld ?_
    rotate_left
    focus (intro w hSw; (try dsimp only at hSw); go_simp; try with_reducible rfl)
    try simp only [List.setIfInBounds_toArray, List.set_cons_zero, List.set_cons_succ]
    refine wpAnyH_takeD 1 (v := ?_) rfl rfl (by kernel_rfl) (by kernel_rfl) (by kernel_rfl) (fun _ _ _ h => h) (Or.inl ⟨by rfl, ?_⟩) hHeld ?_
    rotate_left
    focus (intro w hSw; (try dsimp only at hSw); go_simp; try with_reducible rfl)
    try simp only [List.setIfInBounds_toArray, List.set_cons_zero, List.set_cons_succ]
    refine wpAnyH_takeD 2 (v := ?_) rfl rfl (by kernel_rfl) (by kernel_rfl) (by kernel_rfl) (fun _ _ _ h => h) (Or.inl ⟨by rfl, ?_⟩) hHeld ?_
    rotate_left
    focus (intro w hSw; (try dsimp only at hSw); go_simp; try with_reducible rfl)
    try simp only [List.setIfInBounds_toArray, List.set_cons_zero, List.set_cons_succ]
    refine wpAnyH_ready (rs := [3]) (by kernel_rfl) (by simp) ?_
    refine AllReadyH.cons rfl (fun K hK => ?_) AllReadyH.nil
    go_simp
    refine (HD.out _).mono ?_
    rintro e w10 ⟨rfl, rfl⟩
    refine hK.out _ _ hHeld (fun hHeld => ?_)
    clear hK K
    refine wpAnyH_ready (rs := [4]) (by kernel_rfl) (by simp) ?_
    refine AllReadyH.cons rfl (fun K hK => ?_) AllReadyH.nil
    go_simp
    refine (HJ3.out _).mono ?_
    rintro e w10 ⟨rfl, hb⟩
    replace HG3 := Lib.hid (HG3.out.step hb)
    replace HG4 := Lib.hid (HG4.out.step hb)
    replace HB9 := Lib.hid (HB9.out.trans (hb.mono HB9.out.size))
    clear hb
    refine hK.out _ _ ⟨HG3.out.cell (i := 0) rfl, HG3.out.cell (i := 1) rfl, HG4.out.cell (i := 0) rfl, HG4.out.cell (i := 1) rfl⟩ (fun hHeld => ?_)
    clear hK K
    refine wpAnyH_takeD 5 (v := ?_) rfl rfl (by kernel_rfl) (by kernel_rfl) (by kernel_rfl) (fun _ _ _ h => h) (Or.inl ⟨by rfl, ?_⟩) hHeld ?_
    rotate_left
    focus (intro w hSw; (try dsimp only at hSw); go_simp; try with_reducible rfl)
    try simp only [List.setIfInBounds_toArray, List.set_cons_zero, List.set_cons_succ]
    refine wpAnyH_takeD 6 (v := ?_) rfl rfl (by kernel_rfl) (by kernel_rfl) (by kernel_rfl) (fun _ _ _ h => h) (Or.inl ⟨by rfl, ?_⟩) hHeld ?_
    rotate_left
    focus (intro w hSw; (try dsimp only at hSw); go_simp; try with_reducible rfl)
    try simp only [List.setIfInBounds_toArray, List.set_cons_zero, List.set_cons_succ]
    refine wpAnyH_takeD 7 (v := ?_) rfl rfl (by kernel_rfl) (by kernel_rfl) (by kernel_rfl) (fun _ _ _ h => h) (Or.inl ⟨by rfl, ?_⟩) hHeld ?_
    rotate_left
    focus (intro w hSw; (try dsimp only at hSw); go_simp; try with_reducible rfl)
    try simp only [List.setIfInBounds_toArray, List.set_cons_zero, List.set_cons_succ]
    refine wpAnyH_takeD 8 (v := ?_) rfl rfl (by kernel_rfl) (by kernel_rfl) (by kernel_rfl) (fun _ _ _ h => h) (Or.inl ⟨by rfl, ?_⟩) hHeld ?_
    rotate_left
    focus (intro w hSw; (try dsimp only at hSw); go_simp; try with_reducible rfl)
    try simp only [List.setIfInBounds_toArray, List.set_cons_zero, List.set_cons_succ]
    refine wpAnyH_takeD 9 (v := ?_) rfl rfl (by kernel_rfl) (by kernel_rfl) (by kernel_rfl) (fun _ _ _ h => h) (Or.inl ⟨by rfl, ?_⟩) hHeld ?_
    rotate_left
    focus (intro w hSw; (try dsimp only at hSw); go_simp; try with_reducible rfl)
    try simp only [List.setIfInBounds_toArray, List.set_cons_zero, List.set_cons_succ]
    refine wpAnyH_done (by kernel_rfl) ?_ _
    clear hHeld HG3 HG4 HD HJ3
    go_wp2_with fail
    go_ret
    exact ⟨rfl, HB9.out⟩
end Go.Proofs.Ytlbckhapcnlmnab
