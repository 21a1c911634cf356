/- Contracts of package heap: Set. -/
import Derived.Test.YtijoaiehnemgnaaHeapS
namespace Go.Proofs.Ytijoaiehnemgnaa
open Go.RowKit

theorem fr_chain {w w3 w' : World} {h E P g : Nat} (hF : Fr w w3 h E P) (hO : Only w3 w' g P) (hg : g = E ∨ w.heap.size ≤ g) : Fr w w' h E P :=
  ⟨hO.1.trans hF.1, hO.2.1.trans hF.2.1, hO.2.2.1.trans hF.2.2.1, Nat.le_trans hF.2.2.2.1 hO.2.2.2.1, fun k hk a b c => (hO.2.2.2.2 k (Nat.lt_of_lt_of_le hk hF.2.2.2.1) (by omega) c).trans (hF.2.2.2.2 k hk a b c)⟩
theorem has_none {i : Int} {n : Nat} (hi : ¬ (0 ≤ i ∧ i < (n : Int))) : (decide (0 ≤ i) && decide (i < (n : Int))) = false := by
  by_cases h0 : 0 ≤ i
  · rw [decide_eq_true h0, decide_eq_false (fun h => hi ⟨h0, h⟩)]; rfl
  · rw [decide_eq_false h0]; rfl

set_option maxRecDepth 100000 in
theorem set_bad {w : World} {h E P n : Nat} {M : Nat → Option Int} {i key : Int} (hi : ¬ (0 ≤ i ∧ i < (n : Int))) (hH : IsH w h E P n M) :
    Calls Try.prog 11 #[.pointer (some ⟨h, 0, none⟩), .int .i64 i, .int .i64 key] w fun e w' => e = .returned (.int .i64 2) ∧ HOut w h E P n M w' := by
  have hHas := Lib.hid (has_any i hH)
  rw [has_none hi] at hHas
  have HH := Lib.hid hH
  clear hH hi
  go_enter Try.func11, Try.ntmps11
  go_wp2_with fail
  refine hHas.out.mono ?_
  rintro e w1 ⟨rfl, rfl⟩
  go_wp2_with fail
  go_ret
  exact ⟨rfl, hout_below HH.out (Below.refl _ _)⟩

set_option maxRecDepth 100000 in
set_option maxHeartbeats 4000000 in
theorem set_old {w : World} {h E P n j : Nat} {M : Nat → Option Int} {key k : Int} (hj : j < n) (hM : M j = some k) (hH : IsH w h E P n M) :
    Calls Try.prog 11 #[.pointer (some ⟨h, 0, none⟩), .int .i64 (j : Nat), .int .i64 key] w fun e w' => e = .returned (.int .i64 0) ∧ HOut w h E P n (mset M j (some key)) w' := by
  have hHas := Lib.hid (has_any (j : Int) hH)
  have hd : (decide (0 ≤ (j : Int)) && decide ((j : Int) < (n : Int))) = true := by simp; omega
  rw [hd] at hHas
  obtain ⟨A, c, L, a, pl, hB, hP, hne, hO, hHo, hPl, hL, hn, hA⟩ := hH
  have c1 := hB.cell1
  obtain ⟨p, hp, hap⟩ := hHo.2.1 j k hM
  have hpj : pl j = (p : Int) := by have := hPl.1 p hp (by omega); rwa [hap] at this
  have p0 := hP.cell j hj
  rw [hpj] at p0
  rcases hA with ⟨-, h0, -⟩ | ⟨rfl, hE, n1, n3, hLc, hcm⟩
  · omega
  have hcl := cnt_le M n
  have hai : (a p).1 = j := by rw [hap]
  have HPUT := Lib.hid (put_arr (x := (j, key)) hB hE hP hp hj hLc n1 hne n3)
  unfold ent at HPUT
  have HALL := Lib.hid (And.intro (upd_inv (j, key) hO hp) (And.intro (upd_holds (k := key) hHo hp hai) (upd_places (k := key) hHo hp hai hPl)))
  have hcn : Hid (L = cnt (mset M j (some key)) n) := by
    unfold Hid
    have := cnt_set M j (some key) n hj
    rw [hM] at this
    simp at this
    omega
  have HN := Lib.hid (And.intro n1 (And.intro hne (And.intro n3 (And.intro hLc (And.intro hcm hn)))))
  have hz0 : (0 : Int) ≤ (j : Int) := by omega
  have hz1 : (j : Int) < (n : Int) := by omega
  have hpn : ((p : Int) == -1) = false := beq_eq_false_iff_ne.2 (by omega)
  have hLb : L ≤ 65536 := by omega
  clear hd hB hP hE hO hHo hPl hL hap hai hM hpj hcl n1 hne n3 hLc hcm hn
  go_enter Try.func11, Try.ntmps11
  go_wp2_with fail
  refine hHas.out.mono ?_
  rintro e w1 ⟨rfl, rfl⟩
  go_wp2_with fail
  refine HPUT.out.mono ?_
  rintro e w2 ⟨⟨v, rfl⟩, kB, kE, kP, kO⟩
  have HST := Lib.hid (settle_any (h := h) (E := E) (P := P) (c := c) (L := L) (n := n) (M := mset M j (some key)) ⟨HN.out.1, HN.out.2.1, HN.out.2.2.1, HN.out.2.2.2.1, by omega⟩ hp HALL.out.1 HALL.out.2.1 HALL.out.2.2 kB kE kP)
  have kF : Fr w1 w2 h E P := fr_only kO
  clear kB kE kP kO HPUT
  go_wp2_with fail
  refine HST.out.mono ?_
  rintro e w7 ⟨⟨v2, rfl⟩, a7, pl7, r1, r2, r3, r4, r5, r6, r7⟩
  have HFIN : Hid (HOut w1 h E P n (mset M j (some key)) w7) := ⟨E, ⟨_, c, L, a7, pl7, r4, r6, HN.out.2.1, r1, r2, r3, hcn.out, HN.out.2.2.2.2.2, .inr ⟨rfl, r5, HN.out.1, HN.out.2.2.1, HN.out.2.2.2.1, HN.out.2.2.2.2.1⟩⟩, .inl rfl, kF.trans (fr_only r7)⟩
  clear r1 r2 r3 r4 r5 r6 r7 kF HST
  go_wp2_with fail
  go_ret
  exact ⟨rfl, HFIN.out⟩

set_option maxRecDepth 100000 in
set_option maxHeartbeats 4000000 in
theorem set_new {w : World} {h E P n j : Nat} {M : Nat → Option Int} {key : Int} (hj : j < n) (hM : M j = none) (hH : IsH w h E P n M) :
    Calls Try.prog 11 #[.pointer (some ⟨h, 0, none⟩), .int .i64 (j : Nat), .int .i64 key] w fun e w' => e = .returned (.int .i64 0) ∧ HOut w h E P n (mset M j (some key)) w' := by
  have hHas := Lib.hid (has_any (j : Int) hH)
  have hd : (decide (0 ≤ (j : Int)) && decide ((j : Int) < (n : Int))) = true := by simp; omega
  rw [hd] at hHas
  obtain ⟨A, c, L, a, pl, hB, hP, hne, hO, hHo, hPl, hL, hn, hA⟩ := hH
  have c0 := hB.cell0
  have c1 := hB.cell1
  have hpj : pl j = -1 := hPl.2 j hM
  have p0 := hP.cell j hj
  rw [hpj] at p0
  have hcl := cnt_le M n
  have hLb : L ≤ 65536 := by omega
  -- the world behind the slice that is appended
  have b1 := (Below.refl w.heap.size w).alloc (Nat.le_refl _) (.cells #[.int .i64 0, .int .i64 0] 54)
  have hA1 : (A = none ∧ L = 0 ∧ c = 0 ∧ E = h) ∨ (A = some ⟨E, 0, none⟩ ∧ Arr (w.alloc (.cells #[.int .i64 0, .int .i64 0] 54)) E c L a ∧ h ≠ E ∧ E ≠ P ∧ L ≤ c ∧ c ≤ maxLen) :=
    hA.imp id (fun ⟨e, hE, r⟩ => ⟨e, hE.keep (b1.block E hE.lt), r⟩)
  have hB1 := hB.keep (b1.block h hB.lt)
  have hP1 : Plc _ P n pl := Plc.keep hP (b1.block P (Row.lt hP))
  obtain ⟨xs, hown, hxs⟩ := own_entries hA1
  have hxl := hown.1
  have HAP := Lib.hid (fun (v' : Value) (w2 : World) h1 h2 h3 => append_post (v' := v') (w' := w2) hA1 hB1 hP1 hne hxs hxl h1 h2 h3)
  have HOWN := Lib.hid hown
  have hbx := heap_alloc_new w (.cells #[.int .i64 0, .int .i64 0] 54)
  obtain ⟨i0, hi, hz0, hz1, hz2⟩ := info_parts infoEntry
  have HALL := Lib.hid (And.intro (new_inv (j, key) hO) (And.intro (new_holds (k := key) hHo hj hM) (new_places (k := key) hHo hM hPl)))
  have hcn : Hid (L + 1 = cnt (mset M j (some key)) n) := by
    unfold Hid
    have := cnt_set M j (some key) n hj
    rw [hM] at this
    simp at this
    omega
  have HN := Lib.hid (And.intro hne hn)
  have hnews : Hid (∀ (i : Nat) u, [Value.int .i64 0, .int .i64 0][i]? = some u → (w.alloc (.cells #[.int .i64 0, .int .i64 0] 54)).cell? (Addr.add ⟨w.heap.size, 0, none⟩ i) = some u) := by
    intro i u hu
    rw [row_at, cell_of_row _ _ i _ _ (0, 0) hbx]
    simpa using hu
  have hcs : (Value.agg #[.int .i64 0, .int .i64 0]).cells.size = 2 := by first | rfl | decide | kernel_rfl
  have hzj0 : (0 : Int) ≤ (j : Int) := by omega
  have hzj1 : (j : Int) < (n : Int) := by omega
  have hlh := hB.lt
  clear hd hB hP hO hHo hPl hL hM hpj hcl hne hn hA hA1 hB1 hP1 hown hxs hbx b1 hxl
  go_enter Try.func11, Try.ntmps11
  go_wp2_with fail
  refine hHas.out.mono ?_
  rintro e w1 ⟨rfl, rfl⟩
  go_wp2_with (at_builtin; go_loud (refine wpList_append_own_at _ rfl (.tmp 32) (.tmp 34) _ rfl 0 54 i0 _ 2 16 Try.underlying48 hi hz0 hz1 hz2 hcs (by decide) (.slice A L c) L xs rfl HOWN.out ⟨w1.heap.size, 0, none⟩ 1 1 [.int .i64 0, .int .i64 0] rfl rfl hnews.out (fun u hu => by simp at hu; subst hu; rfl) (by unfold maxLen; omega) (by omega) (Nat.zero_le _) ?_; intro v' w2 hown2 hg2 hnil hb2; obtain ⟨g, cap, rfl, hcap, hcapm, kE, hgE, n1, n3, kB, kP, kF⟩ := HAP.out _ _ hown2 hg2 hb2; have d0 := kB.cell0; have d1 := kB.frozen 0; have HK := Lib.hid (And.intro kE (And.intro kB (And.intro kP kF))); clear kE kB kP kF hown2 hg2 hnil hb2))
  obtain ⟨kE, kB, kP, kF⟩ := HK.out
  have hgw : g = E ∨ w1.heap.size ≤ g := by
    rcases hgE with h | h
    · exact .inl h
    · right; rw [h]; simp
  have lg := kE.lt
  have hs1 : w1.heap.size ≤ w2.heap.size := by have := kF.2.2.2.1; simp at this; omega
  have kF1 : Fr w1 w2 h E P := (fr_below ((Below.refl w1.heap.size w1).alloc (Nat.le_refl _) _)).trans kF
  have HPUT := Lib.hid (put_arr (w := w2.setCell ⟨h, 0, none⟩ (.slice (some ⟨g, 0, none⟩) (L + 1) cap)) (x := (j, key)) (place := L) (kB.set0 _ _ _) (kE.keep (Below.heap_setCell w2 ⟨h, 0, none⟩ _ g (by show g ≠ h; omega))) (Plc.keep kP (Below.heap_setCell w2 ⟨h, 0, none⟩ _ P (by show P ≠ h; have := HN.out.1; omega))) (by omega) hj hcap n1 HN.out.1 n3)
  have kF3 : Fr w1 (w2.setCell ⟨h, 0, none⟩ (.slice (some ⟨g, 0, none⟩) (L + 1) cap)) h E P := kF1.set_ (.inl rfl) _
  unfold ent at HPUT
  clear kE kB kP kF kF1 HK HAP HOWN
  refine HPUT.out.mono ?_
  rintro e w4 ⟨⟨v, rfl⟩, kB, kE, kP, kO⟩
  have kE' := kE.same (b := upd a L (j, key)) (fun t ht => by unfold upd; by_cases e : t = L <;> simp [e])
  have HST := Lib.hid (settle_any (h := h) (E := g) (P := P) (c := cap) (L := L + 1) (n := n) (M := mset M j (some key)) ⟨n1, HN.out.1, n3, hcap, by omega⟩ (by omega) HALL.out.1 HALL.out.2.1 HALL.out.2.2 kB kE' kP)
  have kF4 := fr_chain kF3 kO hgw
  clear kE kE' kB kP kO kF3 HPUT
  go_wp2_with fail
  refine HST.out.mono ?_
  rintro e w7 ⟨⟨v2, rfl⟩, a7, pl7, r1, r2, r3, r4, r5, r6, r7⟩
  have HFIN : Hid (HOut w1 h E P n (mset M j (some key)) w7) := ⟨g, ⟨_, cap, L + 1, a7, pl7, r4, r6, HN.out.1, r1, r2, r3, hcn.out, HN.out.2, .inr ⟨rfl, r5, n1, n3, hcap, hcapm⟩⟩, hgw, fr_chain kF4 r7 hgw⟩
  clear r1 r2 r3 r4 r5 r6 r7 kF4 HST
  go_wp2_with fail
  go_ret
  exact ⟨rfl, HFIN.out⟩
/-- What Set returns, and what it leaves. -/
def setE (n : Nat) (i : Int) : Int := if 0 ≤ i ∧ i < (n : Int) then 0 else 2
def setM (M : Nat → Option Int) (n : Nat) (i key : Int) : Nat → Option Int := if 0 ≤ i ∧ i < (n : Int) then mset M i.toNat (some key) else M
theorem set_any {w : World} {h E P n : Nat} {M : Nat → Option Int} (i key : Int) (hH : IsH w h E P n M) :
    Calls Try.prog 11 #[.pointer (some ⟨h, 0, none⟩), .int .i64 i, .int .i64 key] w fun e w' => e = .returned (.int .i64 (setE n i)) ∧ HOut w h E P n (setM M n i key) w' := by
  unfold setE setM
  by_cases hi : 0 ≤ i ∧ i < (n : Int)
  · rw [if_pos hi, if_pos hi]
    obtain ⟨j, rfl⟩ := Int.eq_ofNat_of_zero_le hi.1
    rw [Int.toNat_natCast]
    cases hM : M j with
    | none => exact set_new (by omega) hM hH
    | some k => exact set_old (by omega) hM hH
  · rw [if_neg hi, if_neg hi]
    exact set_bad hi hH
end Go.Proofs.Ytijoaiehnemgnaa
