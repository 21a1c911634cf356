/- Contract: the reference's Decode. -/
import Derived.Test.YtamkegnnlbefdabCoN
import Derived.Test.YtamkegnnlbefdabCoI
namespace Go.Proofs.Ytamkegnnlbefdab
open Go.RowKit

theorem copyT {W : World} {A : Option Addr} {n c : Nat} {l : List UInt8} (h : By W (.slice A n c) l) (hl : l.length ≤ 100000000) (ty : TypeId) :
    ∃ A2 c2 W2, (Builtin.append_ #[27, 27] ty #[.slice (some ⟨W.heap.size, 0, none⟩) 0 0, .slice A n c]).run Try.prog (W.alloc (.cells #[] u8T)) = .ok (.slice A2 n c2) W2 ∧ ByT W2 (.slice A2 n c2) l ∧ Below W.heap.size W W2 := by
  have hb1 : Below W.heap.size W (W.alloc (.cells #[] u8T)) := (Below.refl _ W).alloc (Nat.le_refl _) _
  have h0 := OwnB.made (base := W.heap.size) W [] (Nat.le_refl _) (by simp)
  obtain ⟨v', W2, hr, ho, hg⟩ := run_appB ty h0 (h.below hb1) (by simp; omega) (by simp)
  obtain ⟨A2, c2, rfl, -⟩ := ho.form
  have e : ([] ++ l).length = n := by rw [List.nil_append]; exact h.len.1.symm
  rw [e] at hr ho
  exact ⟨A2, c2, W2, hr, ho.byT, hb1.trans (((hg.below h0.base_ (by simp))).mono (by simp))⟩
/-- The loop's state. -/
def RDI (w : World) (b : List UInt8) (v : Value) (t : List UInt8) (pre : List Rc) (y : Value) (M : List C2) (W : World) : Prop :=
  By w v t ∧ At7 b pre t ∧ Below w.heap.size w W ∧ OwnR rrT w.heap.size W y M ∧ RowB ByT W M pre
theorem RDI.low {w W : World} {b t : List UInt8} {v y : Value} {pre : List Rc} {M : List C2} (h : RDI w b v t pre y M W) : Below w.heap.size w W := h.2.2.1
theorem rd_done {w W : World} {b : List UInt8} {v y : Value} {pre : List Rc} {M : List C2} (h : RDI w b v [] pre y M W) : DecP Rcs w b (.returned (.tuple #[y, .int .i64 0])) W := by
  obtain ⟨-, h2, h3, h4, h5⟩ := h
  obtain ⟨A, c, rfl, -⟩ := h4.form
  exact ⟨h3, .inl ⟨pre, A, _, c, h2.done, rfl, h4.rcs h5.by_⟩⟩
theorem rd_bad {w W : World} {b t : List UInt8} {v y : Value} {pre : List Rc} {M : List C2} (h : RDI w b v t pre y M W) (hd : dec1 t = none) (ht : t ≠ []) : DecP Rcs w b (.returned (.tuple #[.slice none 0 0, .int .i64 4])) W :=
  ⟨h.low, .inr ⟨h.2.1.bad hd ht, rfl⟩⟩
/-- A round's memory: the copy, the new element. -/
theorem rd_step {w W : World} {b t rest : List UInt8} {v y : Value} {A3 : Option Addr} {N c3 : Nat} {pre : List Rc} {M : List C2} {r : Rc} (h : RDI w b v t pre y M W) (hd : dec1 t = some (r, rest)) (hl : b.length ≤ 100000000) (hv : By W (.slice A3 N c3) r.2) (v2 : Value) (hv2 : By w v2 rest) :
    ∃ A2 c2 W2 v' W4, (Builtin.append_ #[27, 27] 27 #[.slice (some ⟨W.heap.size, 0, none⟩) 0 0, .slice A3 N c3]).run Try.prog (W.alloc (.cells #[] u8T)) = .ok (.slice A2 N c2) W2 ∧ Below w.heap.size w W2 ∧
      (Builtin.append_ #[22, 22] 22 #[y, .slice (some ⟨W2.heap.size, 0, none⟩) 1 1]).run Try.prog (W2.alloc (.cells #[.int .i64 r.1, .slice A2 N c2] rrT)) = .ok v' W4 ∧ RDI w b v2 rest (pre ++ [r]) v' (M ++ [(r.1, .slice A2 N c2)]) W4 := by
  obtain ⟨h1, h2, h3, h4, h5⟩ := h
  have hlen := at7_len h2
  have hrl : r.2.length ≤ 100000000 := by
    have h7 := congrArg List.length (dec1_some hd).1
    have h8 := congrArg List.length h2.2
    simp [one_len] at h7 h8
    omega
  obtain ⟨A2, c2, W2, hr1, hT, hb1⟩ := copyT hv hrl 27
  have hb2 : Below W2.heap.size W2 (W2.alloc (.cells #[.int .i64 r.1, .slice A2 N c2] rrT)) := (Below.refl _ _).alloc (Nat.le_refl _) _
  have ho2 := (h4.below hb1).below hb2
  have low2 := h3.trans (hb1.mono h3.size)
  obtain ⟨v', W4, hr2, ho, hg⟩ := run_appF 22 ho2 (r.1, .slice A2 N c2) rfl (gb := W2.heap.size) (c := 1) (Blk.new W2 [.int .i64 r.1, .slice A2 N c2] rrT) (by rw [h5.1]; omega) (Nat.le_trans low2.size hb2.size)
  have k1 : K8 W2 W4 := (K8.below hb2).trans (K8.grown ho2 (by decide) hg.1)
  refine ⟨A2, c2, W2, v', W4, hr1, low2, hr2, hv2, h2.step hd, (low2.trans (hb2.mono low2.size)).trans (hg.below ho2.base_ (Nat.le_trans low2.size hb2.size)), ho, ?_⟩
  exact (h5.keep fun u l hu => hu.keep ((K8.below hb1).trans k1)).snoc (hT.keep k1)
theorem take_mid (t : List UInt8) (N : Nat) : (t.drop 3).take N = (t.drop 3).take (3 + N - 3) := by rw [Nat.add_sub_cancel_left]
set_option maxRecDepth 100000 in
set_option maxHeartbeats 16000000 in
theorem refDecode_any {w : World} {A : Option Addr} {n c : Nat} {b : List UInt8} (h : By w (.slice A n c) b) (hl : b.length ≤ 100000000) :
    Calls Try.prog 18 #[.slice A n c] w (DecP Rcs w b) := by
  have H := Lib.hid h
  have HL := Lib.hid hl
  clear h hl
  go_enter Try.func18, Try.ntmps18
  go_wp2_with fail
  go_loopw [0, 4] (fun v x wr => ∃ (A' : Option Addr) (n' c' : Nat) (t : List UInt8) (pre : List Rc) (M : List C2) (y : Value), y = x ∧ v = .slice A' n' c' ∧ Hid (RDI w b (.slice A' n' c') t pre y M wr)) (fun v _ _ => lenV v)
  case atStart => exact ⟨A, n, c, b, [], [], _, rfl, rfl, H.out, ⟨by cases decS b <;> simp, by simp [body_nil]⟩, Below.refl _ _, OwnR.nil _ _ _, RowB.nil _ _⟩
  case round =>
    obtain ⟨wq, rfl⟩ : ∃ x, x = wr := ⟨_, rfl⟩
    obtain ⟨A', n', c', t, pre, M, y, rfl, rfl, HS⟩ := hrel
    obtain ⟨e1, hc1, hc2⟩ := HS.out.1.len
    by_cases ht : t = []
    · obtain rfl : n' = 0 := by rw [e1, ht]; rfl
      have HD := Lib.hid (show DecP Rcs w b (.returned (.tuple #[y, .int .i64 0])) wq from rd_done (by have := HS.out; rw [ht] at this; exact this))
      clear e1 HS
      go_wp2_with fail
      go_ret2
      exact HD.out
    · have hn : 0 < n' := by
        rw [e1]
        exact List.length_pos_iff.2 ht
      have hn' : (0 : Int) < (n' : Int) := by omega
      have hn1 : ¬ n' = 0 := by omega
      by_cases h3 : n' < 3
      · have h3' : (n' : Int) < 3 := by omega
        have HD := Lib.hid (rd_bad HS.out (dec1_short (by omega)) ht)
        clear e1 HS ht h3
        go_wp2_with fail
        go_ret2
        exact HD.out
      · have h3' : ¬ ((n' : Int) < 3) := by omega
        have h3n : 3 ≤ t.length := by omega
        obtain ⟨a, rfl, hab, q0⟩ := HS.out.1.at_ (i := 0) (by omega)
        obtain ⟨_, ea, -, q1⟩ := HS.out.1.at_ (i := 1) (by omega)
        cases ea
        obtain ⟨_, ea, -, q2⟩ := HS.out.1.at_ (i := 2) (by omega)
        cases ea
        have hdec := dec1_eq h3n
        obtain ⟨b0, hb0, hb0l⟩ : ∃ b0 : Nat, t[0].toNat = b0 ∧ b0 < 256 := ⟨_, rfl, t[0].toNat_lt⟩
        obtain ⟨b1, hb1, hb1l⟩ : ∃ b1 : Nat, t[1].toNat = b1 ∧ b1 < 256 := ⟨_, rfl, t[1].toNat_lt⟩
        obtain ⟨b2, hb2, hb2l⟩ : ∃ b2 : Nat, t[2].toNat = b2 ∧ b2 < 256 := ⟨_, rfl, t[2].toNat_lt⟩
        rw [hb0] at q0
        rw [hb1] at q1
        rw [hb2] at q2
        rw [hb0, hb1, hb2] at hdec
        have cell : ∀ {W : World} {k : Nat} {v : Value}, Below w.heap.size w W → w.cell? (a.add k) = some v → W.cell? (a.add k) = some v := fun hw hq => (hw.cell (p := a.add _) (by rw [add_block]; exact hab)).trans hq
        have z0 := cell HS.out.low q0
        have z0' := z0
        rw [show a.add 0 = a by cases a; simp [Addr.add]] at z0'
        by_cases hz : b0 = 0
        · have HD := Lib.hid (rd_bad HS.out (hdec.trans (if_pos (.inl hz))) ht)
          subst hz
          clear e1 HS ht h3 hb0 hb1 hb2 hdec q0 q1 q2 cell h3n
          go_wp2_with fail
          go_ret2
          exact HD.out
        · have hzb : ((b0 : Int) == 0) = false := by simp; omega
          obtain ⟨N, hN⟩ : ∃ N : Nat, N = b1 * 256 + b2 := ⟨_, rfl⟩
          have hNi : 256 * (b1 : Int) + (b2 : Int) = (N : Int) := by omega
          have hNl : N ≤ 70000 := by omega
          have u1 : IntKind.i64.wrap (b1 : Int) = (b1 : Int) := IntWalk.i64_in _ (by omega)
          have u2 : IntKind.i64.wrap (b2 : Int) = (b2 : Int) := IntWalk.i64_in _ (by omega)
          have u0 : IntKind.i64.wrap (b0 : Int) = (b0 : Int) := IntWalk.i64_in _ (by omega)
          have u3 : IntKind.i64.wrap (256 * (b1 : Int)) = 256 * (b1 : Int) := IntWalk.i64_in _ (by omega)
          have u4 : IntKind.i64.wrap (N : Int) = (N : Int) := IntWalk.i64_in _ (by omega)
          have u5 : IntKind.i64.wrap (3 + (N : Int)) = 3 + (N : Int) := IntWalk.i64_in _ (by omega)
          have u6 : (3 + (N : Int)).toNat = 3 + N := by omega
          have HQ := Lib.hid (⟨q0, q1, q2⟩ : _ ∧ _ ∧ _)
          have HC := Lib.hid hab
          have HT := Lib.hid ht
          have HN := Lib.hid hN
          have HE := Lib.hid e1
          have HD := Lib.hid hdec
          have gn1 : ¬ n' ≤ 1 := by omega
          have gn2 : ¬ n' ≤ 2 := by omega
          have gm1 : 1 < n' := by omega
          have gi1 : ¬ ((n' : Int) ≤ 1) := by omega
          have gi2 : ¬ ((n' : Int) ≤ 2) := by omega
          have gm2 : 2 < n' := by omega
          clear e1 ht h3 hb0 hb1 hb2 hdec q0 q1 q2 cell hN hab hb0l hb1l hb2l
          go_wp2_with fail
          clear z0 z0'
          have z1 := ((HS.out.low.drew).cell (p := a.add 1) (by rw [add_block]; exact HC.out)).trans HQ.out.2.1
          have z2 := ((HS.out.low.drew).cell (p := a.add 2) (by rw [add_block]; exact HC.out)).trans HQ.out.2.2
          refine wp_region_held_drew (S := fun W' => W'.cell? (a.add 1) = some (.int .u8 (b1 : Int)) ∧ W'.cell? (a.add 2) = some (.int .u8 (b2 : Int)) ∧ W'.cell? ⟨a.block, a.off + 1, none⟩ = some (.int .u8 (b1 : Int)) ∧ W'.cell? ⟨a.block, a.off + 2, none⟩ = some (.int .u8 (b2 : Int))) (by kernel_rfl) ⟨z1, z2, z1, z2⟩ (fun hHeld => ?_)
          have HS2 := Lib.hid (show RDI w b (.slice (some a) n' c') t pre y M wq.drew from ⟨HS.out.1, HS.out.2.1, HS.out.low.drew, HS.out.2.2.2.1.below ((Below.refl _ _).drew), HS.out.2.2.2.2.keep (fun u l hu => hu.keep (K8.below ((Below.refl _ _).drew)))⟩)
          clear HS z1 z2
          generalize wq.drew = w2 at HS2 hHeld ⊢
          refine wpAnyH_takeD 0 (v := ?_) rfl rfl (by kernel_rfl) (by kernel_rfl) (by kernel_rfl) (fun _ _ _ h => h) (Or.inl ⟨by rfl, ?_⟩) hHeld ?_
          rotate_left
          focus (intro w hSw; (try dsimp only at hSw); go_simp; try with_reducible rfl)
          try simp only [List.setIfInBounds_toArray, List.set_cons_zero, List.set_cons_succ]
          refine wpAnyH_takeD 1 (v := ?_) rfl rfl (by kernel_rfl) (by kernel_rfl) (by kernel_rfl) (fun _ _ _ h => h) (Or.inl ⟨by rfl, ?_⟩) hHeld ?_
          rotate_left
          focus (intro w hSw; (try dsimp only at hSw); go_simp; try with_reducible rfl)
          try simp only [List.setIfInBounds_toArray, List.set_cons_zero, List.set_cons_succ]
          refine wpAnyH_takeD 2 (v := ?_) rfl rfl (by kernel_rfl) (by kernel_rfl) (by kernel_rfl) (fun _ _ _ h => h) (Or.inl ⟨by rfl, ?_⟩) hHeld ?_
          rotate_left
          focus (intro w hSw; (try dsimp only at hSw); go_simp; try with_reducible rfl)
          try simp only [List.setIfInBounds_toArray, List.set_cons_zero, List.set_cons_succ]
          refine wpAnyH_takeD 3 (v := ?_) rfl rfl (by kernel_rfl) (by kernel_rfl) (by kernel_rfl) (fun _ _ _ h => h) (Or.inl ⟨by rfl, ?_⟩) hHeld ?_
          rotate_left
          focus (intro w hSw; (try dsimp only at hSw); go_simp; try with_reducible rfl)
          try simp only [List.setIfInBounds_toArray, List.set_cons_zero, List.set_cons_succ]
          refine wpAnyH_takeD 4 (v := ?_) rfl rfl (by kernel_rfl) (by kernel_rfl) (by kernel_rfl) (fun _ _ _ h => h) (Or.inl ⟨by rfl, ?_⟩) hHeld ?_
          rotate_left
          focus (intro w hSw; (try dsimp only at hSw); go_simp; try with_reducible rfl)
          try simp only [List.setIfInBounds_toArray, List.set_cons_zero, List.set_cons_succ]
          refine wpAnyH_takeD 5 (v := ?_) rfl rfl (by kernel_rfl) (by kernel_rfl) (by kernel_rfl) (fun _ _ _ h => h) (Or.inl ⟨by rfl, ?_⟩) hHeld ?_
          rotate_left
          focus (intro w hSw; (try dsimp only at hSw); go_simp; try with_reducible rfl)
          try simp only [List.setIfInBounds_toArray, List.set_cons_zero, List.set_cons_succ]
          refine wpAnyH_takeD 6 (v := ?_) rfl rfl (by kernel_rfl) (by kernel_rfl) (by kernel_rfl) (fun _ _ _ h => h) (Or.inl ⟨by rfl, ?_⟩) hHeld ?_
          rotate_left
          focus (intro w hSw; (try dsimp only at hSw); go_simp; try with_reducible rfl)
          try simp only [List.setIfInBounds_toArray, List.set_cons_zero, List.set_cons_succ]
          refine wpAnyH_takeD 7 (v := ?_) rfl rfl (by kernel_rfl) (by kernel_rfl) (by kernel_rfl) (fun _ _ _ h => h) (Or.inl ⟨by rfl, ?_⟩) hHeld ?_
          rotate_left
          focus (intro w hSw; (try dsimp only at hSw); go_simp; try with_reducible rfl)
          try simp only [List.setIfInBounds_toArray, List.set_cons_zero, List.set_cons_succ]
          refine wpAnyH_takeD 8 (v := ?_) rfl rfl (by kernel_rfl) (by kernel_rfl) (by kernel_rfl) (fun _ _ _ h => h) (Or.inl ⟨by rfl, ?_⟩) hHeld ?_
          rotate_left
          focus (intro w hSw; (try dsimp only at hSw); go_simp; try with_reducible rfl)
          try simp only [List.setIfInBounds_toArray, List.set_cons_zero, List.set_cons_succ]
          refine wpAnyH_takeD 9 (v := ?_) rfl rfl (by kernel_rfl) (by kernel_rfl) (by kernel_rfl) (fun _ _ _ h => h) (Or.inl ⟨by rfl, ?_⟩) hHeld ?_
          rotate_left
          focus (intro w hSw; (try dsimp only at hSw); go_simp; try with_reducible rfl)
          try simp only [List.setIfInBounds_toArray, List.set_cons_zero, List.set_cons_succ]
          refine wpAnyH_takeD 10 (v := ?_) rfl rfl (by kernel_rfl) (by kernel_rfl) (by kernel_rfl) (fun _ _ _ h => h) (Or.inl ⟨by rfl, ?_⟩) hHeld ?_
          rotate_left
          focus (intro w hSw; (try dsimp only at hSw); go_simp; try with_reducible rfl)
          try simp only [List.setIfInBounds_toArray, List.set_cons_zero, List.set_cons_succ]
          refine wpAnyH_done (by kernel_rfl) ?_ _
          clear hHeld
          by_cases hlong : t.length < N + 3
          · have gl : (n' : Int) < 3 + (N : Int) := by have := HE.out; omega
            have HZ := Lib.hid (rd_bad HS2.out (HD.out.trans (if_pos (.inr (by have := HN.out; omega)))) HT.out)
            clear hlong
            go_wp2_with fail
            go_ret2
            exact HZ.out
          · have gl : ¬ ((n' : Int) < 3 + (N : Int)) := by have := HE.out; omega
            have gN : N + 3 ≤ t.length := by omega
            have hd := HD.out
            rw [if_neg (by have := HN.out; omega), ← HN.out] at hd
            have HDd := Lib.hid hd
            have gs1 : (3 : Int) ≤ 3 + (N : Int) := by omega
            have gs2 : 3 + (N : Int) ≤ (c' : Int) := by have := HE.out; omega
            have gs3 : ¬ (n' < 3 + N) := by have := HE.out; omega
            have gs4 : 3 + (N : Int) ≤ (n' : Int) := by have := HE.out; omega
            have gs5 : 3 + N ≤ c' := by omega
            have gs6 : 3 + N ≤ n' := by omega
            have hHS3 := Lib.hid (show RDI w b (.slice (some a) n' c') t pre y M w2.drew from ⟨HS2.out.1, HS2.out.2.1, HS2.out.low.drew, HS2.out.2.2.2.1.below ((Below.refl _ _).drew), HS2.out.2.2.2.2.keep (fun u l hu => hu.keep (K8.below ((Below.refl _ _).drew)))⟩)
            clear hd hlong HS2
            go_wp2_with fail
            have z0 := ((hHS3.out.low).cell (p := a.add 0) (by rw [add_block]; exact HC.out)).trans HQ.out.1
            have z0' := z0
            rw [show a.add 0 = a by cases a; simp [Addr.add]] at z0'
            refine wp_region_held_drew (S := fun W' => W'.cell? (a.add 0) = some (.int .u8 (b0 : Int)) ∧ W'.cell? a = some (.int .u8 (b0 : Int))) (by kernel_rfl) ⟨z0, z0'⟩ (fun hHeld => ?_)
            clear z0 z0'
            generalize w2.drew = w5 at hHS3 hHeld ⊢
            have hst : ∀ W, Below w.heap.size w W → W.cell? (a.add 0) = some (.int .u8 (b0 : Int)) ∧ W.cell? a = some (.int .u8 (b0 : Int)) := fun W hw => by
              have z0 := (hw.cell (p := a.add 0) (by rw [add_block]; exact HC.out)).trans HQ.out.1
              refine ⟨z0, ?_⟩
              rwa [show a.add 0 = a by cases a; simp [Addr.add]] at z0
            have HST := Lib.hid hst
            have hv := ((hHS3.out.1.tl (k := 3) (by omega)).hd (k := N) (by rw [List.length_drop]; omega)).below hHS3.out.low
            have hv2 := hHS3.out.1.tl (k := 3 + N) (by omega)
            obtain ⟨A2, c2, W3, v4, W4, r1, lowa, r2, hR⟩ := rd_step (r := ((b0 : Int), (t.drop 3).take N)) hHS3.out HDd.out HL.out hv _ hv2
            have R1 := Lib.hid r1
            have R2 := Lib.hid r2
            have HLa := Lib.hid lowa
            have HLow := Lib.hid hHS3.out.low
            have HZ := Lib.hid hR
            clear hst hv hv2 r1 lowa r2 hR hHS3
            refine wpAnyH_takeD 0 (v := ?_) rfl rfl (by kernel_rfl) (by kernel_rfl) (by kernel_rfl) (fun _ _ _ h => h) (Or.inl ⟨by rfl, ?_⟩) hHeld ?_
            rotate_left
            focus (intro w hSw; (try dsimp only at hSw); go_simp; try with_reducible rfl)
            try simp only [List.setIfInBounds_toArray, List.set_cons_zero, List.set_cons_succ]
            refine wpAnyH_takeD 1 (v := ?_) rfl rfl (by kernel_rfl) (by kernel_rfl) (by kernel_rfl) (fun _ _ _ h => h) (Or.inl ⟨by rfl, ?_⟩) hHeld ?_
            rotate_left
            focus (intro w hSw; (try dsimp only at hSw); go_simp; try with_reducible rfl)
            try simp only [List.setIfInBounds_toArray, List.set_cons_zero, List.set_cons_succ]
            refine wpAnyH_takeD 2 (v := ?_) rfl rfl (by kernel_rfl) (by kernel_rfl) (by kernel_rfl) (fun _ _ _ h => h) (Or.inl ⟨by rfl, ?_⟩) hHeld ?_
            rotate_left
            focus (intro w hSw; (try dsimp only at hSw); go_simp; try with_reducible rfl)
            try simp only [List.setIfInBounds_toArray, List.set_cons_zero, List.set_cons_succ]
            refine wpAnyH_takeD 3 (v := ?_) rfl rfl (by kernel_rfl) (by kernel_rfl) (by kernel_rfl) (fun _ _ _ h => h) (Or.inl ⟨by rfl, ?_⟩) hHeld ?_
            rotate_left
            focus (intro w hSw; (try dsimp only at hSw); go_simp; try with_reducible rfl)
            try simp only [List.setIfInBounds_toArray, List.set_cons_zero, List.set_cons_succ]
            refine wpAnyH_takeD 4 (v := ?_) rfl rfl (by kernel_rfl) (by kernel_rfl) (by kernel_rfl) (fun _ _ _ h => h) (Or.inl ⟨by rfl, ?_⟩) hHeld ?_
            rotate_left
            focus (intro w hSw; (try dsimp only at hSw); go_simp; try with_reducible rfl)
            try simp only [List.setIfInBounds_toArray, List.set_cons_zero, List.set_cons_succ]
            refine wpAnyH_takeD 6 (v := ?_) rfl rfl (by kernel_rfl) (by kernel_rfl) (by kernel_rfl) (fun _ _ _ h => h) (Or.inl ⟨by rfl, ?_⟩) hHeld ?_
            rotate_left
            focus (intro w hSw; (try dsimp only at hSw); go_simp; try with_reducible rfl)
            try simp only [List.setIfInBounds_toArray, List.set_cons_zero, List.set_cons_succ]
            refine wpAnyH_takeD 7 (v := ?_) rfl rfl (by kernel_rfl) (by kernel_rfl) (by kernel_rfl) (fun _ _ _ h => h) (Or.inl ⟨by rfl, ?_⟩) hHeld ?_
            rotate_left
            focus (intro w hSw; (try dsimp only at hSw); go_simp; try with_reducible rfl)
            try simp only [List.setIfInBounds_toArray, List.set_cons_zero, List.set_cons_succ]
            refine wpAnyH_takeD 8 (v := ?_) rfl rfl (by kernel_rfl) (by kernel_rfl) (by kernel_rfl) (fun _ _ _ h => h) (Or.inl ⟨by rfl, ?_⟩) hHeld ?_
            rotate_left
            focus (intro w hSw; (try dsimp only at hSw); go_simp; try with_reducible rfl)
            try simp only [List.setIfInBounds_toArray, List.set_cons_zero, List.set_cons_succ]
            refine wpAnyH_takeD 9 (v := .slice (tlA (some a) c' 3) N (c' - 3)) rfl rfl (by kernel_rfl) (by kernel_rfl) (by kernel_rfl) (fun _ _ _ h => h) (Or.inl ⟨by rfl, ?_⟩) hHeld ?_
            · intro w hSw
              go_simp
              rfl
            simp only [List.setIfInBounds_toArray, List.set_cons_zero, List.set_cons_succ]
            refine wpAnyH_ready (rs := [5]) (by kernel_rfl) (by simp) ?_
            refine AllReadyH.cons rfl (fun K hK => ?_) AllReadyH.nil
            go_simp
            refine hK.out _ _ (HST.out _ (HLow.out.alloc HLow.out.size _)) (fun hHeld => ?_)
            clear hK K
            refine wpAnyH_ready (rs := [10]) (by kernel_rfl) (by simp) ?_
            refine AllReadyH.cons rfl (fun K hK => ?_) AllReadyH.nil
            refine wp_app (.tmp 38) (.tmp 42) 27 rfl rfl rfl R1.out ?_
            refine hK.out _ _ (HST.out _ HLa.out) (fun hHeld => ?_)
            clear hK K
            simp only [Act.put, List.setIfInBounds_toArray]
            refine wpAnyH_takeD 11 (v := ?_) rfl rfl (by kernel_rfl) (by kernel_rfl) (by kernel_rfl) (fun _ _ _ h => h) (Or.inl ⟨by rfl, ?_⟩) hHeld ?_
            rotate_left
            focus (intro w hSw; (try dsimp only at hSw); go_simp; try with_reducible rfl)
            try simp only [List.setIfInBounds_toArray, List.set_cons_zero, List.set_cons_succ]
            refine wpAnyH_ready (rs := [12]) (by kernel_rfl) (by simp) ?_
            refine AllReadyH.cons rfl (fun K hK => ?_) AllReadyH.nil
            go_simp
            refine hK.out _ _ (HST.out _ (HLa.out.alloc HLa.out.size _)) (fun hHeld => ?_)
            clear hK K
            refine wpAnyH_ready (rs := [13]) (by kernel_rfl) (by simp) ?_
            refine AllReadyH.cons rfl (fun K hK => ?_) AllReadyH.nil
            refine wp_app (.tmp 33) (.tmp 45) 22 rfl rfl rfl R2.out ?_
            refine hK.out _ _ (HST.out _ HZ.out.low) (fun hHeld => ?_)
            clear hK K
            simp only [Act.put, List.setIfInBounds_toArray]
            refine wpAnyH_takeD 14 (v := ?_) rfl rfl (by kernel_rfl) (by kernel_rfl) (by kernel_rfl) (fun _ _ _ h => h) (Or.inl ⟨by rfl, ?_⟩) hHeld ?_
            rotate_left
            focus (intro w hSw; (try dsimp only at hSw); go_simp; try with_reducible rfl)
            try simp only [List.setIfInBounds_toArray, List.set_cons_zero, List.set_cons_succ]
            refine wpAnyH_done (by kernel_rfl) ?_ _
            clear hHeld
            go_wp2_with fail
            go_roundw
            case rel => exact ⟨_, _, _, _, _, _, _, rfl, rfl, HZ⟩
            case measure => simp [lenV]; omega
end Go.Proofs.Ytamkegnnlbefdab
