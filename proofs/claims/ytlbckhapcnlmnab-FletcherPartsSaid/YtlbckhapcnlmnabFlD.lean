/- Contracts: balance, Seal. -/
import Derived.Test.YtlbckhapcnlmnabFlC
namespace Go.Proofs.Ytlbckhapcnlmnab
open Go.RowKit

theorem OwnB.at2 {base n c i : Nat} {W : World} {ad : Addr} {l : List UInt8} (h : OwnB base W (.slice (some ad) n c) l) (hi : i < l.length) :
    W.cell? (ad.add i) = some (.int .u8 (l[i].toNat : Int)) ∧ W.frozen? (ad.add i) = false ∧ base ≤ (ad.add i).block ∧ (∀ (x : UInt8) (u : Value), u = encB x → OwnB base (W.setCell (ad.add i) u) (.slice (some ad) n c) (l.set i x)) := by
  have hb := h.by_.at_ hi
  obtain ⟨a, e1, -, e3⟩ := hb
  injection e1 with e1
  subst e1
  refine ⟨e3, ?_⟩
  have hl := h.1
  rcases h.2 with ⟨e, _⟩ | ⟨g, cap, cur, e, h2, h3, h4, h5, h6, h7⟩
  · cases e
  · obtain ⟨e1, e4, rfl⟩ := Value.slice.inj e
    injection e1 with e1
    subst e1
    rw [row_at]
    refine ⟨by simp [World.frozen?, h3], h2, fun x u hu => ⟨by simp, .inr ⟨g, c, cur.setIfInBounds i (encB x), by rw [List.length_set]; exact e, h2, ?_, by rw [List.length_set]; exact h4, h5, by simpa using h6, ?_⟩⟩⟩
    · subst hu
      simp [World.setCell, Array.getElem?_modify, h3]
    · rw [Nat.mul_one] at h7 ⊢
      rw [List.length_set, Array.toList_setIfInBounds, List.take_set, h7, List.map_set]
def bX (F S W : Nat) : Int := ((W : Int) % 255 * (F : Int) - (S : Int)) % 255
def bY (F S W : Nat) : Int := (-(F : Int) - bX F S W) % 255
theorem bX_in (F S W : Nat) : 0 ≤ bX F S W ∧ bX F S W < 255 := by unfold bX; omega
theorem bY_in (F S W : Nat) : 0 ≤ bY F S W ∧ bY F S W < 255 := by unfold bY; omega
theorem enc_u8 (x : Int) (h : 0 ≤ x ∧ x < 255) : encB (u8 x) = .int .u8 x := by
  unfold encB
  rw [u8_nat x h.1 (by omega), Int.toNat_of_nonneg h.1]
set_option maxRecDepth 100000 in
set_option maxHeartbeats 4000000 in
theorem balance_any (F S W : Nat) (hF : F < 255) (hS : S < 255) (w : World) :
    Calls Try.prog 20 #[.int .i64 (F : Int), .int .i64 (S : Int), .int .i64 (W : Int)] w fun e w' => e = .returned (.tuple #[encB (u8 (bX F S W)), encB (u8 (bY F S W))]) ∧ w = w' := by
  rw [enc_u8 _ (bX_in F S W), enc_u8 _ (bY_in F S W)]
  have hx := bX_in F S W
  have hy := bY_in F S W
  have r0 := Lib.hid (fun w => reduce_any (W : Int) w)
  have ex : bX F S W = ((W : Int) % 255 * (F : Int) - (S : Int)) % 255 := rfl
  have ey : bY F S W = (-(F : Int) - bX F S W) % 255 := rfl
  obtain ⟨R, hR⟩ : ∃ R : Nat, (W : Int) % 255 = (R : Int) := ⟨((W : Int) % 255).toNat, by omega⟩
  have hR2 : R < 255 := by omega
  rw [hR] at r0 ex
  have hm : R * F ≤ 255 * 255 := Nat.mul_le_mul (by omega) (by omega)
  obtain ⟨M, hM⟩ : ∃ M, R * F = M := ⟨_, rfl⟩
  have hM' : (R : Int) * (F : Int) = (M : Int) := by rw [← hM]; simp
  rw [hM'] at ex
  have hw1 : IntKind.i64.wrap ((R : Int) * (F : Int)) = (M : Int) := by rw [hM']; exact IntWalk.i64_in _ (by omega)
  have hw2 : IntKind.i64.wrap ((M : Int) - (S : Int)) = (M : Int) - (S : Int) := IntWalk.i64_in _ (by omega)
  have r1 := Lib.hid (fun w => reduce_any ((M : Int) - (S : Int)) w)
  rw [← ex] at r1
  generalize bX F S W = X at *
  have hw3 : IntKind.i64.wrap (-(F : Int)) = -(F : Int) := IntWalk.i64_in _ (by omega)
  have hw4 : IntKind.i64.wrap (-(F : Int) - X) = -(F : Int) - X := IntWalk.i64_in _ (by omega)
  have r2 := Lib.hid (fun w => reduce_any (-(F : Int) - X) w)
  rw [← ey] at r2
  generalize bY F S W = Y at *
  have hu1 : IntKind.u8.wrap X = X := IntWalk.u8_in _ (by omega)
  have hu2 : IntKind.u8.wrap Y = Y := IntWalk.u8_in _ (by omega)
  clear ex ey hR hM hM' hm
  go_enter Try.func20, Try.ntmps20
  go_wp2_with fail
  refine (r0.out _).mono ?_
  rintro e w1 ⟨rfl, rfl⟩
  go_wp2_with fail
  refine (r1.out _).mono ?_
  rintro e w1 ⟨rfl, rfl⟩
  go_wp2_with fail
  refine (r2.out _).mono ?_
  rintro e w1 ⟨rfl, rfl⟩
  go_wp2_with fail
  go_ret2
  exact ⟨rfl, rfl⟩
/-- bytes.Clone. -/
theorem clone_any {w : World} {A : Option Addr} {n c : Nat} {l : List UInt8} (h : By w (.slice A n c) l) (hl : n ≤ 140737488355328) (h0 : 0 < l.length) :
    Calls Try.prog 19 #[.slice A n c] w fun e w' => ∃ ad c', e = .returned (.slice (some ad) n c') ∧ OwnB w.heap.size w' (.slice (some ad) n c') l ∧ Below w.heap.size w w' := by
  obtain ⟨e, hc, hc2⟩ := h.len
  obtain ⟨a, rfl, -⟩ := h.at_ h0
  refine (Try.bytes_Clone_at a n c (l.map (fun x => (x.toNat : Int))) w (by simp [e]) hl (fun i hi => ?_)).mono ?_
  · obtain ⟨a', e1, _, e2⟩ := h.at_ (i := i) (by omega)
    injection e1 with e1
    subst e1
    rw [e2]
    simp [List.getD, show i < l.length by omega]
  · rintro e' w' ⟨v', rfl, ho, -, hb⟩
    have ho' : OwnB w.heap.size w' v' l := by
      unfold OwnB
      rw [← e]
      have e5 : (l.map (fun x => (x.toNat : Int))).map (Value.int .u8) = l.map encB := by simp [encB, Function.comp_def]
      rw [e5] at ho
      exact ho
    obtain ⟨A', c', rfl, -⟩ := ho'.form
    obtain ⟨ad, rfl, -⟩ := ho'.by_.at_ h0
    rw [← e] at ho' ⊢
    exact ⟨ad, c', rfl, ho', hb⟩
def SealQ (w : World) (l : List UInt8) (k : Nat) (e : Ending) (w' : World) : Prop := ∃ ad c', e = .returned (.tuple #[.slice (some ad) l.length c', .int .i64 0]) ∧ OwnB w.heap.size w' (.slice (some ad) l.length c') (sealB l k) ∧ Below w.heap.size w w'
set_option maxRecDepth 100000 in
set_option maxHeartbeats 4000000 in
theorem seal_any {w : World} {A : Option Addr} {n c k : Nat} {l : List UInt8} (h : By w (.slice A n c) l) (hk : k + 1 < l.length) (hl : l.length ≤ 100000) :
    Calls Try.prog 16 #[.slice A n c, .int .i64 (k : Int)] w (SealQ w l k) := by
  obtain ⟨hn, hc, hc2⟩ := h.len
  have HC := Lib.hid (clone_any h (by omega) (by omega))
  obtain rfl := hn
  obtain ⟨k1, hk1⟩ : ∃ k1, k + 1 = k1 := ⟨_, rfl⟩
  have hw1 : IntKind.i64.wrap ((k : Int) + 1) = (k1 : Int) := by rw [← hk1]; exact IntWalk.i64_in _ (by omega)
  have hge : ¬ ((k : Int) ≥ (l.length : Int) - 1) := by omega
  have hz : ¬ ((k : Int) < 0) := by omega
  have g1 : (k : Int) < (l.length : Int) := by omega
  have g2 : (k1 : Int) < (l.length : Int) := by omega
  have HS := Lib.hid (fun W c' ad (hW : By W (.slice (some ad) l.length c') (zeroed l k)) => sum_any hW)
  have HBa := Lib.hid (fun W => balance_any (s1 (zeroed l k) % 255) (s2 (zeroed l k) % 255) (l.length - k - 1) (Nat.mod_lt _ (by decide)) (Nat.mod_lt _ (by decide)) W)
  obtain ⟨x, hx⟩ : ∃ x, u8 (bX (s1 (zeroed l k) % 255) (s2 (zeroed l k) % 255) (l.length - k - 1)) = x := ⟨_, rfl⟩
  obtain ⟨y, hy⟩ : ∃ y, u8 (bY (s1 (zeroed l k) % 255) (s2 (zeroed l k) % 255) (l.length - k - 1)) = y := ⟨_, rfl⟩
  have HL := Lib.hid (show sealB l k = ((zeroed l k).set k x).set k1 y by rw [← hx, ← hy, ← hk1]; rfl)
  have HK := Lib.hid (show k < l.length ∧ k1 < l.length ∧ zeroed l k = (l.set k 0).set k1 0 by subst hk1; exact ⟨by omega, by omega, rfl⟩)
  rw [hx, hy] at HBa
  unfold encB at HBa
  obtain ⟨X, hX⟩ : ∃ X : Int, (x.toNat : Int) = X := ⟨_, rfl⟩
  obtain ⟨Y, hY⟩ : ∃ Y : Int, (y.toNat : Int) = Y := ⟨_, rfl⟩
  have HXY := Lib.hid (show Value.int .u8 X = encB x ∧ Value.int .u8 Y = encB y by subst hX hY; exact ⟨rfl, rfl⟩)
  rw [hX, hY] at HBa
  obtain ⟨F, hF⟩ : ∃ F : Int, ((s1 (zeroed l k) % 255 : Nat) : Int) = F := ⟨_, rfl⟩
  obtain ⟨S, hS⟩ : ∃ S : Int, ((s2 (zeroed l k) % 255 : Nat) : Int) = S := ⟨_, rfl⟩
  rw [hF, hS] at HBa HS
  have hwd : IntKind.i64.wrap ((l.length : Int) - (k : Int)) = (l.length : Int) - (k : Int) := IntWalk.i64_in _ (by omega)
  have hwd2 : IntKind.i64.wrap ((l.length : Int) - (k : Int) - 1) = ((l.length - k - 1 : Nat) : Int) := by rw [IntWalk.i64_in _ (by omega)]; omega
  have hwd3 : IntKind.i64.wrap ((l.length : Int) - 1) = (l.length : Int) - 1 := IntWalk.i64_in _ (by omega)
  generalize l.length - k - 1 = wt at hwd2 HBa hx hy
  clear hx hy hX hY hF hS hk1
  go_enter Try.func16, Try.ntmps16
  go_wp2_with fail
  refine HC.out.mono ?_
  rintro e w1 ⟨ad, c', rfl, ho, hb⟩
  have t1 := ho.at2 HK.out.1
  have t2 := (t1.2.2.2 0 (.int .u8 0) rfl).at2 (i := k1) (by rw [List.length_set]; exact HK.out.2.1)
  have f1 := t1.2.1
  have f2 := (ho.at2 HK.out.2.1).2.1
  have c1 := t1.1
  have c2 := t2.1
  have hO2 := t2.2.2.2 0 (.int .u8 0) rfl
  rw [← HK.out.2.2] at hO2
  have HO2 := Lib.hid hO2
  have HB2 := Lib.hid ((hb.setCell t1.2.2.1 (.int .u8 0)).setCell t2.2.2.1 (.int .u8 0))
  clear t1 t2 hO2 hb ho HC h
  go_wp2_with fail
  clear c1 c2 f1 f2
  refine (HS.out _ _ _ HO2.out.by_).mono ?_
  rintro e w2 ⟨rfl, rfl⟩
  clear HS
  generalize hW2 : (w1.setCell (ad.add k) (Value.int IntKind.u8 0)).setCell (ad.add k1) (Value.int IntKind.u8 0) = W2 at HO2 HB2 ⊢
  clear hW2
  have e0 : (zeroed l k).length = l.length := zeroed_len l k
  have E0 := Lib.hid e0
  clear e0
  go_wp2_with fail
  refine (HBa.out _).mono ?_
  rintro e w3 ⟨rfl, rfl⟩
  clear HBa
  have hO2 := HO2.out
  have t1 := hO2.at2 (i := k) (by rw [E0.out]; exact HK.out.1)
  have t2 := (t1.2.2.2 x (.int .u8 X) HXY.out.1).at2 (i := k1) (by rw [List.length_set, E0.out]; exact HK.out.2.1)
  have f1 := t1.2.1
  have f2 := (hO2.at2 (i := k1) (by rw [E0.out]; exact HK.out.2.1)).2.1
  have c1 := t1.1
  have c2 := t2.1
  have hO3 := t2.2.2.2 y (.int .u8 Y) HXY.out.2
  rw [← HL.out] at hO3
  have HQ := Lib.hid (show SealQ w l k (.returned (.tuple #[.slice (some ad) l.length c', .int .i64 0])) ((W2.setCell (ad.add k) (.int .u8 X)).setCell (ad.add k1) (.int .u8 Y)) from ⟨ad, c', rfl, hO3, (HB2.out.setCell t1.2.2.1 _).setCell t2.2.2.1 _⟩)
  clear t1 t2 hO3 hO2 HO2 HB2
  go_wp2_with fail
  go_ret2
  exact HQ.out
end Go.Proofs.Ytlbckhapcnlmnab
