/- Contracts: size, own, back, Same. -/
import Derived.Test.YtamkegnnlbefdabCoK
namespace Go.Proofs.Ytamkegnnlbefdab
open Go.RowKit

theorem bsz_snoc (rs : List Rc) (k : Nat) (h : k < rs.length) : bsz (rs.take (k + 1)) = bsz (rs.take k) + rs[k].2.length := by
  rw [take_snocR rs k h, bsz_append]
  simp [bsz]
set_option maxRecDepth 100000 in
set_option maxHeartbeats 8000000 in
theorem size_any {w : World} {A : Option Addr} {n c : Nat} {rs : List Rc} (h : Rcs w (.slice A n c) rs) (hl : bsz rs ≤ 9223372036854775807) :
    Calls Try.prog 11 #[.slice A n c] w fun e w' => e = .returned (.int .i64 (bsz rs : Nat)) ∧ w = w' := by
  obtain ⟨e, hc, hc2⟩ := h.len
  have H := Lib.hid h
  have HL := Lib.hid hl
  have HE := Lib.hid e
  have hn : n ≤ 9223372036854775807 := by omega
  clear h hl e
  go_enter Try.func11, Try.ntmps11
  go_wp2_with fail
  go_loop [3, 4] (fun x i => ∃ k z : Nat, i = .int .i64 (k : Int) ∧ x = .int .i64 (z : Int) ∧ k ≤ n ∧ Hid (z = bsz (rs.take k))) (fun _ i => n - (intOf i).toNat)
  case atStart => exact ⟨0, 0, rfl, rfl, Nat.zero_le _, rfl⟩
  case round =>
    obtain ⟨k, z, rfl, rfl, hk, HZ⟩ := hrel
    by_cases hlt : k < n
    · have hlt' : (k : Int) < (n : Int) := by omega
      have hkr : k < rs.length := by rw [← HE.out]; exact hlt
      obtain ⟨b, off, A1, n1, c1, rfl, hb, q0, q1, hy⟩ := H.out.at_ hkr
      have HS := Lib.hid (bsz_snoc rs k hkr)
      have HN := Lib.hid hy.len.1
      have hz : z + n1 ≤ 9223372036854775807 := by
        have h1 := bsz_take rs (k + 1)
        have h2 := HS.out
        have h3 := HZ.out
        have h4 := HL.out
        have h5 := HN.out
        omega
      clear hy
      go_wp2_with fail
      go_round
      case rel => exact ⟨k + 1, z + n1, by go_num, by go_num, by omega, (by rw [HS.out, HZ.out, HN.out] : z + n1 = bsz (rs.take (k + 1)))⟩
      case measure => simp [intOf]; omega
    · obtain rfl : k = n := by omega
      have HF := Lib.hid (show bsz rs = z by rw [HZ.out, HE.out, List.take_length])
      go_wp2_with fail
      go_ret
      exact ⟨by rw [HF.out]; rfl, rfl⟩
set_option maxRecDepth 100000 in
set_option maxHeartbeats 8000000 in
theorem own_any {w : World} {A : Option Addr} {n c : Nat} {rs : List Rc} (h : Rcs w (.slice A n c) rs) (hl : n ≤ 10000000) :
    Calls Try.prog 12 #[.slice A n c] w fun e w' => ∃ A' c', e = .returned (.slice A' n c') ∧ Rcs w' (.slice A' n c') rs ∧ Below w.heap.size w w' := by
  obtain ⟨e, hc, hc2⟩ := h.len
  have H := Lib.hid h
  have HE := Lib.hid e
  clear h e
  go_enter Try.func12, Try.ntmps12
  go_wp2_with fail
  go_loopw [3, 4] (fun x i wr => ∃ (k : Nat) (y : Value), y = x ∧ i = .int .i64 (k : Int) ∧ k ≤ n ∧ Hid (Below w.heap.size w wr ∧ ∃ M, OwnR prT w.heap.size wr y M ∧ RowB By w M (rs.take k))) (fun _ i _ => n - (intOf i).toNat)
  case atStart => exact ⟨0, _, rfl, rfl, Nat.zero_le _, Below.refl _ _, [], OwnR.nil _ _ _, RowB.nil _ _⟩
  case round =>
    obtain ⟨wq, rfl⟩ : ∃ x, x = wr := ⟨_, rfl⟩
    obtain ⟨k, y, rfl, rfl, hk, HS⟩ := hrel
    by_cases hlt : k < n
    · have hlt' : (k : Int) < (n : Int) := by omega
      have hkr : k < rs.length := by rw [← HE.out]; exact hlt
      obtain ⟨b, off, A1, n1, c1, rfl, hb, q0, q1, hy⟩ := H.out.at_ hkr
      obtain ⟨hlow, M, ho, hr⟩ := HS.out
      replace q0 := (hlow.cell (p := ⟨b, off + k * 2, none⟩) hb).trans q0
      replace q1 := (hlow.cell (p := ⟨b, off + k * 2 + 1, none⟩) hb).trans q1
      have hb1 : Below wq.heap.size wq (wq.alloc (.cells #[.int .i64 rs[k].1, .slice A1 n1 c1] prT)) := (Below.refl _ _).alloc (Nat.le_refl _) _
      have hM : M.length = k := by rw [hr.1, List.length_take]; omega
      obtain ⟨v', W', hrun, ho', hg⟩ := run_appP 25 (ho.below hb1) (rs[k].1, .slice A1 n1 c1) rfl (gb := wq.heap.size) (c := 1) (Blk.new wq [.int .i64 rs[k].1, .slice A1 n1 c1] prT) (by omega) (Nat.le_trans hlow.size hb1.size)
      have HN := Lib.hid (show Below w.heap.size w W' ∧ ∃ M, OwnR prT w.heap.size W' v' M ∧ RowB By w M (rs.take (k + 1)) from
        ⟨(hlow.trans (hb1.mono hlow.size)).trans (hg.below (ho.below hb1).base_ (Nat.le_trans hlow.size hb1.size)), _, ho', by rw [take_snocR rs k hkr]; exact hr.snoc hy⟩)
      have HR := Lib.hid hrun
      clear hlow ho hr hb1 hM hrun ho' hg hy HS
      generalize rs[k].1 = t at q0 HR
      go_wp2_with (at_builtin; go_loud (refine wpList_app rfl (.tmp 11) (.tmp 16) _ rfl rfl rfl HR.out ?_))
      go_roundw
      case rel => exact ⟨k + 1, v', rfl, by go_num, by omega, HN⟩
      case measure => simp [intOf]; omega
    · obtain rfl : k = n := by omega
      obtain ⟨hlow, M, ho, hr⟩ := HS.out
      have hM : M.length = k := by rw [hr.1, List.length_take, ← HE.out, Nat.min_self]
      rw [HE.out, List.take_length] at hr
      obtain ⟨A', c', rfl, -⟩ := ho.form
      rw [hM] at ho HS ⊢
      have HF := Lib.hid (ho.rcs (hr.keep (fun u l hu => hu.below hlow)))
      have HB := Lib.hid hlow
      clear ho hr hlow hM HS
      go_wp2_with fail
      go_ret
      exact ⟨_, _, rfl, HF.out, HB.out⟩
set_option maxRecDepth 100000 in
set_option maxHeartbeats 8000000 in
theorem back_any {w : World} {A : Option Addr} {n c : Nat} {rs : List Rc} (h : Rcs w (.slice A n c) rs) (hl : n ≤ 10000000) :
    Calls Try.prog 16 #[.slice A n c] w fun e w' => ∃ A' c', e = .returned (.slice A' n c') ∧ Rcs w' (.slice A' n c') rs ∧ Below w.heap.size w w' := by
  obtain ⟨e, hc, hc2⟩ := h.len
  have H := Lib.hid h
  have HE := Lib.hid e
  clear h e
  go_enter Try.func16, Try.ntmps16
  go_wp2_with fail
  go_loopw [3, 4] (fun x i wr => ∃ (k : Nat) (y : Value), y = x ∧ i = .int .i64 (k : Int) ∧ k ≤ n ∧ Hid (Below w.heap.size w wr ∧ ∃ M, OwnR rrT w.heap.size wr y M ∧ RowB By w M (rs.take k))) (fun _ i _ => n - (intOf i).toNat)
  case atStart => exact ⟨0, _, rfl, rfl, Nat.zero_le _, Below.refl _ _, [], OwnR.nil _ _ _, RowB.nil _ _⟩
  case round =>
    obtain ⟨wq, rfl⟩ : ∃ x, x = wr := ⟨_, rfl⟩
    obtain ⟨k, y, rfl, rfl, hk, HS⟩ := hrel
    by_cases hlt : k < n
    · have hlt' : (k : Int) < (n : Int) := by omega
      have hkr : k < rs.length := by rw [← HE.out]; exact hlt
      obtain ⟨b, off, A1, n1, c1, rfl, hb, q0, q1, hy⟩ := H.out.at_ hkr
      obtain ⟨hlow, M, ho, hr⟩ := HS.out
      replace q0 := (hlow.cell (p := ⟨b, off + k * 2, none⟩) hb).trans q0
      replace q1 := (hlow.cell (p := ⟨b, off + k * 2 + 1, none⟩) hb).trans q1
      have hb1 : Below wq.heap.size wq (wq.alloc (.cells #[.int .i64 rs[k].1, .slice A1 n1 c1] rrT)) := (Below.refl _ _).alloc (Nat.le_refl _) _
      have hM : M.length = k := by rw [hr.1, List.length_take]; omega
      obtain ⟨v', W', hrun, ho', hg⟩ := run_appF 22 (ho.below hb1) (rs[k].1, .slice A1 n1 c1) rfl (gb := wq.heap.size) (c := 1) (Blk.new wq [.int .i64 rs[k].1, .slice A1 n1 c1] rrT) (by omega) (Nat.le_trans hlow.size hb1.size)
      have HN := Lib.hid (show Below w.heap.size w W' ∧ ∃ M, OwnR rrT w.heap.size W' v' M ∧ RowB By w M (rs.take (k + 1)) from
        ⟨(hlow.trans (hb1.mono hlow.size)).trans (hg.below (ho.below hb1).base_ (Nat.le_trans hlow.size hb1.size)), _, ho', by rw [take_snocR rs k hkr]; exact hr.snoc hy⟩)
      have HR := Lib.hid hrun
      clear hlow ho hr hb1 hM hrun ho' hg hy HS
      generalize rs[k].1 = t at q0 HR
      go_wp2_with (at_builtin; go_loud (refine wpList_app rfl (.tmp 11) (.tmp 16) _ rfl rfl rfl HR.out ?_))
      go_roundw
      case rel => exact ⟨k + 1, v', rfl, by go_num, by omega, HN⟩
      case measure => simp [intOf]; omega
    · obtain rfl : k = n := by omega
      obtain ⟨hlow, M, ho, hr⟩ := HS.out
      have hM : M.length = k := by rw [hr.1, List.length_take, ← HE.out, Nat.min_self]
      rw [HE.out, List.take_length] at hr
      obtain ⟨A', c', rfl, -⟩ := ho.form
      rw [hM] at ho HS ⊢
      have HF := Lib.hid (ho.rcs (hr.keep (fun u l hu => hu.below hlow)))
      have HB := Lib.hid hlow
      clear ho hr hlow hM HS
      go_wp2_with fail
      go_ret
      exact ⟨_, _, rfl, HF.out, HB.out⟩
set_option maxRecDepth 100000 in
set_option maxHeartbeats 8000000 in
theorem same_any {w : World} {A B : Option Addr} {n c m d : Nat} {rs : List Rc} (h : Rcs w (.slice A n c) rs) (h2 : Rcs w (.slice B m d) rs) :
    Calls Try.prog 15 #[.slice A n c, .slice B m d] w fun e w' => e = .returned (.bool true) ∧ Below w.heap.size w w' := by
  obtain ⟨e, hc, hc2⟩ := h.len
  obtain ⟨e2, -, -⟩ := h2.len
  obtain rfl : m = n := by rw [e, e2]
  have H := Lib.hid h
  have H2 := Lib.hid h2
  have HE := Lib.hid e
  have hn : m ≤ 9223372036854775807 := by omega
  clear h h2 e e2
  go_enter Try.func15, Try.ntmps15
  go_wp2_with fail
  go_loopw [5] (fun i wr => ∃ k : Nat, i = .int .i64 (k : Int) ∧ k ≤ m ∧ Hid (Below w.heap.size w wr)) (fun i _ => m - (intOf i).toNat)
  case atStart => exact ⟨0, rfl, Nat.zero_le _, Below.refl _ _⟩
  case round =>
    obtain ⟨wq, rfl⟩ : ∃ x, x = wr := ⟨_, rfl⟩
    obtain ⟨k, rfl, hk, HS⟩ := hrel
    by_cases hlt : k < m
    · have hlt' : (k : Int) < (m : Int) := by omega
      have hkr : k < rs.length := by rw [← HE.out]; exact hlt
      obtain ⟨b, off, A1, n1, c1, rfl, hb, q0, q1, hy⟩ := (H.out.below HS.out.drew).at_ hkr
      obtain ⟨b2, off2, A2, n2, c2, rfl, hb2, q2, q3, hy2⟩ := (H2.out.below HS.out.drew).at_ hkr
      have k1 := hy.conv
      have k2 := hy2.conv
      generalize rs[k].1 = t at q0 q2
      generalize (⟨rs[k].2.toArray⟩ : ByteArray) = s at k1 k2
      have HQ := Lib.hid (⟨q0, q1, q2, q3, k1, k2⟩ : _ ∧ _ ∧ _ ∧ _ ∧ _ ∧ _)
      clear q0 q1 q2 q3 k1 k2 hy hy2 hb hb2
      go_wp2_with fail
      refine wp_region_held_drew (S := fun W' => W'.cell? ⟨b, off + k * 2, none⟩ = some (.int .i64 t) ∧ W'.cell? ⟨b, off + k * 2 + 1, none⟩ = some (.slice A1 n1 c1) ∧ W'.cell? ⟨b2, off2 + k * 2, none⟩ = some (.int .i64 t) ∧ W'.cell? ⟨b2, off2 + k * 2 + 1, none⟩ = some (.slice A2 n2 c2) ∧ (convert 27 9 (.slice A1 n1 c1)).run Try.prog W' = .ok (.string s) W' ∧ (convert 27 9 (.slice A2 n2 c2)).run Try.prog W' = .ok (.string s) W') (by kernel_rfl) HQ.out (fun hHeld => ?_)
      replace HS := Lib.hid HS.out.drew
      generalize wq.drew = w2 at HS hHeld ⊢
      clear HQ
      refine wpAnyH_takeD 0 (v := ?_) rfl rfl (by kernel_rfl) (by kernel_rfl) (by kernel_rfl) (fun _ _ _ h => h) (Or.inl ⟨by rfl, ?_⟩) hHeld ?_
      rotate_left
      focus (intro w hSw; (try dsimp only at hSw); go_simp; try with_reducible rfl)
      try simp only [List.setIfInBounds_toArray, List.set_cons_zero, List.set_cons_succ]
      refine wpAnyH_takeD 1 (v := ?_) rfl rfl (by kernel_rfl) (by kernel_rfl) (by kernel_rfl) (fun _ _ _ h => h) (Or.inl ⟨by rfl, ?_⟩) hHeld ?_
      rotate_left
      focus (intro w hSw; (try dsimp only at hSw); go_simp; try with_reducible rfl)
      try simp only [List.setIfInBounds_toArray, List.set_cons_zero, List.set_cons_succ]
      refine wpAnyH_takeD 2 (v := ?_) rfl rfl (by kernel_rfl) (by kernel_rfl) (by kernel_rfl) (fun _ _ _ h => h) (Or.inl ⟨by rfl, ?_⟩) hHeld ?_
      rotate_left
      focus (intro w hSw; (try dsimp only at hSw); go_simp; try with_reducible rfl)
      try simp only [List.setIfInBounds_toArray, List.set_cons_zero, List.set_cons_succ]
      refine wpAnyH_takeD 3 (v := ?_) rfl rfl (by kernel_rfl) (by kernel_rfl) (by kernel_rfl) (fun _ _ _ h => h) (Or.inl ⟨by rfl, ?_⟩) hHeld ?_
      rotate_left
      focus (intro w hSw; (try dsimp only at hSw); go_simp; try with_reducible rfl)
      try simp only [List.setIfInBounds_toArray, List.set_cons_zero, List.set_cons_succ]
      refine wpAnyH_takeD 4 (v := ?_) rfl rfl (by kernel_rfl) (by kernel_rfl) (by kernel_rfl) (fun _ _ _ h => h) (Or.inl ⟨by rfl, ?_⟩) hHeld ?_
      rotate_left
      focus (intro w hSw; (try dsimp only at hSw); go_simp; try with_reducible rfl)
      try simp only [List.setIfInBounds_toArray, List.set_cons_zero, List.set_cons_succ]
      refine wpAnyH_takeD 5 (v := ?_) rfl rfl (by kernel_rfl) (by kernel_rfl) (by kernel_rfl) (fun _ _ _ h => h) (Or.inl ⟨by rfl, ?_⟩) hHeld ?_
      rotate_left
      focus (intro w hSw; (try dsimp only at hSw); go_simp; try with_reducible rfl)
      try simp only [List.setIfInBounds_toArray, List.set_cons_zero, List.set_cons_succ]
      refine wpAnyH_takeD 6 (v := ?_) rfl rfl (by kernel_rfl) (by kernel_rfl) (by kernel_rfl) (fun _ _ _ h => h) (Or.inl ⟨by rfl, ?_⟩) hHeld ?_
      rotate_left
      focus (intro w hSw; (try dsimp only at hSw); go_simp; try with_reducible rfl)
      try simp only [List.setIfInBounds_toArray, List.set_cons_zero, List.set_cons_succ]
      refine wpAnyH_takeD 7 (v := ?_) rfl rfl (by kernel_rfl) (by kernel_rfl) (by kernel_rfl) (fun _ _ _ h => h) (Or.inl ⟨by rfl, ?_⟩) hHeld ?_
      rotate_left
      focus (intro w hSw; (try dsimp only at hSw); go_simp; try with_reducible rfl)
      try simp only [List.setIfInBounds_toArray, List.set_cons_zero, List.set_cons_succ]
      refine wpAnyH_takeD 8 (v := ?_) rfl rfl (by kernel_rfl) (by kernel_rfl) (by kernel_rfl) (fun _ _ _ h => h) (Or.inl ⟨by rfl, ?_⟩) hHeld ?_
      rotate_left
      focus (intro w hSw; (try dsimp only at hSw); go_simp; try with_reducible rfl)
      try simp only [List.setIfInBounds_toArray, List.set_cons_zero, List.set_cons_succ]
      refine wpAnyH_takeD 9 (v := ?_) rfl rfl (by kernel_rfl) (by kernel_rfl) (by kernel_rfl) (fun _ _ _ h => h) (Or.inl ⟨by rfl, ?_⟩) hHeld ?_
      rotate_left
      focus (intro w hSw; (try dsimp only at hSw); go_simp; try with_reducible rfl)
      try simp only [List.setIfInBounds_toArray, List.set_cons_zero, List.set_cons_succ]
      refine wpAnyH_takeD 10 (v := ?_) rfl rfl (by kernel_rfl) (by kernel_rfl) (by kernel_rfl) (fun _ _ _ h => h) (Or.inl ⟨by rfl, ?_⟩) hHeld ?_
      rotate_left
      focus (intro w hSw; (try dsimp only at hSw); go_simp; try with_reducible rfl)
      try simp only [List.setIfInBounds_toArray, List.set_cons_zero, List.set_cons_succ]
      refine wpAnyH_takeD 11 (v := ?_) rfl rfl (by kernel_rfl) (by kernel_rfl) (by kernel_rfl) (fun _ _ _ h => h) (Or.inl ⟨by rfl, ?_⟩) hHeld ?_
      rotate_left
      focus (intro w hSw; (try dsimp only at hSw); go_simp; try with_reducible rfl)
      try simp only [List.setIfInBounds_toArray, List.set_cons_zero, List.set_cons_succ]
      refine wpAnyH_takeD 12 (v := ?_) rfl rfl (by kernel_rfl) (by kernel_rfl) (by kernel_rfl) (fun _ _ _ h => h) (Or.inl ⟨by rfl, ?_⟩) hHeld ?_
      rotate_left
      focus (intro w hSw; (try dsimp only at hSw); go_simp; try with_reducible rfl)
      try simp only [List.setIfInBounds_toArray, List.set_cons_zero, List.set_cons_succ]
      refine wpAnyH_takeD 13 (v := ?_) rfl rfl (by kernel_rfl) (by kernel_rfl) (by kernel_rfl) (fun _ _ _ h => h) (Or.inl ⟨by rfl, ?_⟩) hHeld ?_
      rotate_left
      focus (intro w hSw; (try dsimp only at hSw); go_simp; try with_reducible rfl)
      try simp only [List.setIfInBounds_toArray, List.set_cons_zero, List.set_cons_succ]
      refine wpAnyH_takeD 14 (v := ?_) rfl rfl (by kernel_rfl) (by kernel_rfl) (by kernel_rfl) (fun _ _ _ h => h) (Or.inl ⟨by rfl, ?_⟩) hHeld ?_
      rotate_left
      focus (intro w hSw; (try dsimp only at hSw); go_simp; try with_reducible rfl)
      try simp only [List.setIfInBounds_toArray, List.set_cons_zero, List.set_cons_succ]
      refine wpAnyH_takeD 15 (v := ?_) rfl rfl (by kernel_rfl) (by kernel_rfl) (by kernel_rfl) (fun _ _ _ h => h) (Or.inl ⟨by rfl, ?_⟩) hHeld ?_
      rotate_left
      focus (intro w hSw; (try dsimp only at hSw); go_simp; try with_reducible rfl)
      try simp only [List.setIfInBounds_toArray, List.set_cons_zero, List.set_cons_succ]
      refine wpAnyH_takeD 16 (v := ?_) rfl rfl (by kernel_rfl) (by kernel_rfl) (by kernel_rfl) (fun _ _ _ h => h) (Or.inl ⟨by rfl, ?_⟩) hHeld ?_
      rotate_left
      focus (intro w hSw; (try dsimp only at hSw); go_simp; try with_reducible rfl)
      try simp only [List.setIfInBounds_toArray, List.set_cons_zero, List.set_cons_succ]
      refine wpAnyH_takeD 17 (v := ?_) rfl rfl (by kernel_rfl) (by kernel_rfl) (by kernel_rfl) (fun _ _ _ h => h) (Or.inl ⟨by rfl, ?_⟩) hHeld ?_
      rotate_left
      focus (intro w hSw; (try dsimp only at hSw); go_simp; try with_reducible rfl)
      try simp only [List.setIfInBounds_toArray, List.set_cons_zero, List.set_cons_succ]
      refine wpAnyH_takeD 18 (v := ?_) rfl rfl (by kernel_rfl) (by kernel_rfl) (by kernel_rfl) (fun _ _ _ h => h) (Or.inl ⟨by rfl, ?_⟩) hHeld ?_
      rotate_left
      focus (intro w hSw; (try dsimp only at hSw); go_simp; try with_reducible rfl)
      try simp only [List.setIfInBounds_toArray, List.set_cons_zero, List.set_cons_succ]
      refine wpAnyH_takeD 19 (v := ?_) rfl rfl (by kernel_rfl) (by kernel_rfl) (by kernel_rfl) (fun _ _ _ h => h) (Or.inl ⟨by rfl, ?_⟩) hHeld ?_
      rotate_left
      focus (intro w hSw; (try dsimp only at hSw); go_simp; try with_reducible rfl)
      try simp only [List.setIfInBounds_toArray, List.set_cons_zero, List.set_cons_succ]
      refine wpAnyH_takeD 20 (v := ?_) rfl rfl (by kernel_rfl) (by kernel_rfl) (by kernel_rfl) (fun _ _ _ h => h) (Or.inl ⟨by rfl, ?_⟩) hHeld ?_
      rotate_left
      focus (intro w hSw; (try dsimp only at hSw); go_simp; try with_reducible rfl)
      try simp only [List.setIfInBounds_toArray, List.set_cons_zero, List.set_cons_succ]
      refine wpAnyH_takeD 21 (v := ?_) rfl rfl (by kernel_rfl) (by kernel_rfl) (by kernel_rfl) (fun _ _ _ h => h) (Or.inl ⟨by rfl, ?_⟩) hHeld ?_
      rotate_left
      focus (intro w hSw; (try dsimp only at hSw); go_simp; try with_reducible rfl)
      try simp only [List.setIfInBounds_toArray, List.set_cons_zero, List.set_cons_succ]
      refine wpAnyH_takeD 22 (v := ?_) rfl rfl (by kernel_rfl) (by kernel_rfl) (by kernel_rfl) (fun _ _ _ h => h) (Or.inl ⟨by rfl, ?_⟩) hHeld ?_
      rotate_left
      focus (intro w hSw; (try dsimp only at hSw); go_simp; try with_reducible rfl)
      try simp only [List.setIfInBounds_toArray, List.set_cons_zero, List.set_cons_succ]
      refine wpAnyH_takeD 23 (v := ?_) rfl rfl (by kernel_rfl) (by kernel_rfl) (by kernel_rfl) (fun _ _ _ h => h) (Or.inl ⟨by rfl, ?_⟩) hHeld ?_
      rotate_left
      focus (intro w hSw; (try dsimp only at hSw); go_simp; try with_reducible rfl)
      try simp only [List.setIfInBounds_toArray, List.set_cons_zero, List.set_cons_succ]
      refine wpAnyH_takeD 24 (v := ?_) rfl rfl (by kernel_rfl) (by kernel_rfl) (by kernel_rfl) (fun _ _ _ h => h) (Or.inl ⟨by rfl, ?_⟩) hHeld ?_
      rotate_left
      focus (intro w hSw; (try dsimp only at hSw); go_simp; try with_reducible rfl)
      try simp only [List.setIfInBounds_toArray, List.set_cons_zero, List.set_cons_succ]
      refine wpAnyH_takeD 25 (v := ?_) rfl rfl (by kernel_rfl) (by kernel_rfl) (by kernel_rfl) (fun _ _ _ h => h) (Or.inl ⟨by rfl, ?_⟩) hHeld ?_
      rotate_left
      focus (intro w hSw; (try dsimp only at hSw); go_simp; try with_reducible rfl)
      try simp only [List.setIfInBounds_toArray, List.set_cons_zero, List.set_cons_succ]
      refine wpAnyH_done (by kernel_rfl) ?_ _
      clear hHeld
      go_wp2_with fail
      go_roundw
      case rel => exact ⟨k + 1, by go_num, by omega, HS⟩
      case measure => simp [intOf]; omega
    · obtain rfl : k = m := by omega
      go_wp2_with fail
      go_ret
      exact ⟨rfl, HS.out⟩
end Go.Proofs.Ytamkegnnlbefdab
