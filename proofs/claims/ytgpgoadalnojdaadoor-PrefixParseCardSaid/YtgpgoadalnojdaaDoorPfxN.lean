/- Contract of the reference of package prefix: Parse. -/
import Derived.Test.YtgpgoadalnojdaaDoorPfxL
import Derived.Laws.Bits128
import Derived.BigRegion
namespace Go.Proofs.YtgpgoadalnojdaaDoor
open Go.RowKit

theorem i64_and255 (n : Int) : bits .and .i64 n 255 = n % 256 := by
  have h127 : (BitVec.ofInt 64 255).toNat = 2 ^ 8 - 1 := by decide
  have key : (BitVec.ofInt 64 n &&& BitVec.ofInt 64 255).toNat = (n % ((2 ^ 64 : Nat) : Int)).toNat % 2 ^ 8 := by
    rw [BitVec.toNat_and, BitVec.toNat_ofInt, h127, Nat.and_two_pow_sub_one_eq_mod]
  show IntKind.i64.wrap ((BitVec.ofInt 64 n &&& BitVec.ofInt 64 255).toNat : Nat) = n % 256
  rw [key, IntKind.wrap_i64]
  omega
/-- Five numbers that are being read, and which one it is. -/
abbrev Lst := (Nat → Int) × Nat
def upd5 (m : Nat → Int) (k : Nat) (x : Int) : Nat → Int := fun j => if j = k then x else m j
def lstep (st : Lst) (c : UInt8) : Lst :=
  if 48 ≤ c.toNat ∧ c.toNat ≤ 57 then (upd5 st.1 st.2 (wrap64 (wrap64 (st.1 st.2 * 10) + ((c.toNat : Int) - 48))), st.2)
  else (st.1, if st.2 < 4 then st.2 + 1 else st.2)
def lread (l : List UInt8) : Lst := l.foldl lstep (fun _ => 0, 0)
theorem wrap_small {x : Int} (h0 : 0 ≤ x) (h1 : x < 1000000) : wrap64 x = x := by
  unfold wrap64; omega
theorem chr_nat {d : Nat} (h : d < 10) : (UInt8.ofNat (48 + d)).toNat = 48 + d := by
  simp; omega
theorem lstep_digit {m : Nat → Int} {k d v : Nat} (hm : m k = v) (hv : v < 1000) (hd : d < 10) : lstep (m, k) (UInt8.ofNat (48 + d)) = (upd5 m k ((v * 10 + d : Nat) : Int), k) := by
  unfold lstep
  have e := chr_nat hd
  rw [if_pos (by rw [e]; omega), e]
  simp only [hm]
  rw [wrap_small (x := (v : Int) * 10) (by omega) (by omega), wrap_small (by omega) (by omega)]
  congr 2
  omega
theorem upd5_upd5 (m : Nat → Int) (k : Nat) (x y : Int) : upd5 (upd5 m k x) k y = upd5 m k y := by
  funext j; unfold upd5; split <;> rfl
theorem upd5_at (m : Nat → Int) (k : Nat) (x : Int) : upd5 m k x k = x := by simp [upd5]
theorem lread_dd {m : Nat → Int} {k n : Nat} (hm : m k = 0) (hn : n < 1000) : (dd n).foldl lstep (m, k) = (upd5 m k (n : Int), k) := by
  unfold dd
  split
  · rename_i h
    simp only [List.foldl_cons, List.foldl_nil]
    rw [lstep_digit (v := 0) hm (by omega) h]
    simp
  · rename_i h
    split
    · rename_i h2
      simp only [List.foldl_cons, List.foldl_nil]
      rw [lstep_digit (d := n / 10) (v := 0) hm (by omega) (by omega), lstep_digit (d := n % 10) (v := 0 * 10 + n / 10) (by rw [upd5_at]) (by omega) (by omega), upd5_upd5]
      congr 2
      omega
    · rename_i h2
      simp only [List.foldl_cons, List.foldl_nil]
      rw [lstep_digit (d := n / 100) (v := 0) hm (by omega) (by omega), lstep_digit (d := n / 10 % 10) (v := 0 * 10 + n / 100) (by rw [upd5_at]) (by omega) (by omega),
        lstep_digit (d := n % 10) (v := (0 * 10 + n / 100) * 10 + n / 10 % 10) (by rw [upd5_at]) (by omega) (by omega), upd5_upd5, upd5_upd5]
      congr 2
      omega
theorem lstep_sep {m : Nat → Int} {k : Nat} {c : UInt8} (hc : c = 46 ∨ c = 47) (hk : k < 4) : lstep (m, k) c = (m, k + 1) := by
  unfold lstep
  rw [if_neg (by rcases hc with rfl | rfl <;> decide)]
  simp [hk]
theorem lread_tx (a l : Nat) (hl : l < 1000) : (lread (tx a l)).1 0 = (a / 16777216 % 256 : Nat) ∧ (lread (tx a l)).1 1 = (a / 65536 % 256 : Nat) ∧ (lread (tx a l)).1 2 = (a / 256 % 256 : Nat) ∧ (lread (tx a l)).1 3 = (a % 256 : Nat) ∧ (lread (tx a l)).1 4 = (l : Nat) := by
  unfold lread tx
  simp only [List.foldl_append, List.foldl_cons]
  generalize hb0 : a / 16777216 % 256 = b0
  generalize hb1 : a / 65536 % 256 = b1
  generalize hb2 : a / 256 % 256 = b2
  generalize hb3 : a % 256 = b3
  rw [lread_dd (m := fun _ => 0) (k := 0) (n := b0) rfl (by omega)]
  generalize hm1 : upd5 (fun _ => 0) 0 (b0 : Int) = m1
  rw [lstep_sep (m := m1) (k := 0) (.inl rfl) (by omega), lread_dd (m := m1) (k := 0 + 1) (n := b1) (by rw [← hm1]; rfl) (by omega)]
  generalize hm2 : upd5 m1 (0 + 1) (b1 : Int) = m2
  rw [lstep_sep (m := m2) (k := 0 + 1) (.inl rfl) (by omega), lread_dd (m := m2) (k := 0 + 1 + 1) (n := b2) (by rw [← hm2, ← hm1]; rfl) (by omega)]
  generalize hm3 : upd5 m2 (0 + 1 + 1) (b2 : Int) = m3
  rw [lstep_sep (m := m3) (k := 0 + 1 + 1) (.inl rfl) (by omega), lread_dd (m := m3) (k := 0 + 1 + 1 + 1) (n := b3) (by rw [← hm3, ← hm2, ← hm1]; rfl) (by omega)]
  generalize hm4 : upd5 m3 (0 + 1 + 1 + 1) (b3 : Int) = m4
  rw [lstep_sep (m := m4) (k := 0 + 1 + 1 + 1) (.inr rfl) (by omega), lread_dd (m := m4) (k := 0 + 1 + 1 + 1 + 1) (n := l) (by rw [← hm4, ← hm3, ← hm2, ← hm1]; rfl) hl]
  subst hm4 hm3 hm2 hm1
  exact ⟨rfl, rfl, rfl, rfl, rfl⟩
theorem lread_le : ∀ (l : List UInt8) (st : Lst), st.2 ≤ 4 → (l.foldl lstep st).2 ≤ 4
  | [], st, h => h
  | c :: l, st, h => by
    rw [List.foldl_cons]
    refine lread_le l _ ?_
    unfold lstep
    split
    · exact h
    · show (if st.2 < 4 then st.2 + 1 else st.2) ≤ 4
      split <;> omega
/-- The address that the first four numbers make. -/
def lacc (m : Nat → Int) : Nat → Nat
  | 0 => 0
  | j + 1 => lacc m j * 256 % 4294967296 + (m j % 256).toNat
theorem lacc_lt (m : Nat → Int) : ∀ j, lacc m j < 4294967296
  | 0 => by simp [lacc]
  | j + 1 => by
    have := lacc_lt m j
    simp only [lacc]
    omega
theorem lacc_tx {a l : Nat} (ha : a < 4294967296) (hl : l < 1000) : lacc (lread (tx a l)).1 4 = a := by
  obtain ⟨h0, h1, h2, h3, _⟩ := lread_tx a l hl
  simp only [lacc, h0, h1, h2, h3]
  omega
theorem lread_snoc (l : List UInt8) (c : UInt8) : lread (l ++ [c]) = lstep (lread l) c := by unfold lread; rw [List.foldl_append]; rfl

theorem loose_fin {s : List UInt8} {m : Nat → Int} (hm : ∀ a l, Vld (a, l) → s = tx a l → m = (lread (tx a l)).1) (hne : s ≠ []) :
    (txV (lacc m 4) (m 4) = s ∧ ∃ n : Nat, m 4 = n ∧ pPfx s = some (lacc m 4, n)) ∨ (txV (lacc m 4) (m 4) ≠ s ∧ pPfx s = none) := by
  by_cases h : txV (lacc m 4) (m 4) = s
  · left
    refine ⟨h, ?_⟩
    unfold txV at h
    cases hv : vldB (lacc m 4) (m 4) with
    | false => rw [hv] at h; exact absurd h.symm hne
    | true =>
      obtain ⟨n, hn, hn32, _⟩ := vldB_true hv
      rw [hv, hn] at h
      simp only [if_true, Int.toNat_natCast] at h
      refine ⟨n, hn, ?_⟩
      rw [← h]
      rw [hn] at hv
      exact pPfx_tx ((vldB_vld (lacc_lt m 4)).1 hv)
  · right
    refine ⟨h, ?_⟩
    cases hp : pPfx s with
    | none => rfl
    | some p =>
      exfalso
      obtain ⟨hv, hs⟩ := pPfx_inv hp
      have hl : p.2 < 1000 := by have := hv.1; omega
      have hmm := hm p.1 p.2 hv hs
      have ha := lacc_tx (a := p.1) (l := p.2) (vld_lt hv) hl
      rw [← hmm] at ha
      have h4 := (lread_tx p.1 p.2 hl).2.2.2.2
      rw [← hmm] at h4
      apply h
      rw [ha, h4]
      unfold txV
      rw [if_pos ((vldB_vld (vld_lt hv)).2 hv), Int.toNat_natCast]
      exact hs.symm
theorem read_end {s : List UInt8} {i k : Nat} {m : Nat → Int} (hr : lread (s.take i) = (m, k)) (hi : s.length ≤ i ∨ 20 ≤ i) : ∀ a l, Vld (a, l) → s = tx a l → m = (lread (tx a l)).1 := by
  intro a l hv hs
  have hl := (tx_len (a := a) (l := l) hv.1).1
  rw [← hs] at hl
  rw [List.take_of_length_le (by omega)] at hr
  rw [← hs, hr]
theorem run_and255i (x : Int) : bits BinOp.and IntKind.i64 x 255 = (((x % 256).toNat : Nat) : Int) := by
  rw [i64_and255]; omega
theorem PB.set0 {w : World} {b a a' : Nat} {l : Int} (h : PB w b a l) : PB (w.setCell ⟨b, 0, none⟩ (.int .u32 (a' : Int))) b a' l := by
  unfold PB at h ⊢
  simp [World.setCell, Array.getElem?_modify, h]
theorem px_nil' : pPfx [] = none := by
  unfold pPfx
  have h1 : Lib.cut [] [47] = (([] : List UInt8), [], false) := cut_no (by simp)
  rw [h1]
  have h2 : num [] 32 = none := by decide +kernel
  simp only [h2]
  cases pAddr [] <;> rfl
/-- The five numbers in memory. -/
abbrev Arr5 (W : World) (b : Nat) (m : Nat → Int) : Prop := Row W b 50 5 (fun j => .int .i64 (m j))
def RpPost (w : World) (o : Option Px) (e : Ending) (w' : World) : Prop := ParsePost w o e w'
set_option maxRecDepth 100000 in
set_option maxHeartbeats 8000000 in
theorem refParse_any (s : ByteArray) (w : World) (hs : s.size ≤ 100) : Calls Tryd.prog 14 #[.string s] w (RpPost w (pPfx s.data.toList)) := by
  have HS := Lib.hid hs
  go_enter Tryd.func14, Tryd.ntmps14
  go_wp2_with fail
  have h1 : Ret1 w w.heap.size 0 0 ((w.alloc (.cells #[.int .u32 0, .int .i64 0] 24)).alloc (.cells #[.int .i64 0, .int .i64 0, .int .i64 0, .int .i64 0, .int .i64 0] 50)) :=
    ⟨(PB.new w 0 0).alloc _, Nat.le_refl _, ((Below.refl _ _).alloc (Nat.le_refl _) _).alloc (by simp) _⟩
  have h2 : Arr5 ((w.alloc (.cells #[.int .u32 0, .int .i64 0] 24)).alloc (.cells #[.int .i64 0, .int .i64 0, .int .i64 0, .int .i64 0, .int .i64 0] 50)) (w.heap.size + 1) (fun _ => 0) := by
    have := heap_alloc_new (w.alloc (.cells #[.int .u32 0, .int .i64 0] 24)) (.cells #[.int .i64 0, .int .i64 0, .int .i64 0, .int .i64 0, .int .i64 0] 50)
    rw [show (w.alloc (.cells #[.int .u32 0, .int .i64 0] 24)).heap.size = w.heap.size + 1 by simp] at this
    exact this
  have H1 := Lib.hid (And.intro h1 h2)
  clear h1 h2
  generalize (w.alloc (.cells #[.int .u32 0, .int .i64 0] 24)).alloc (.cells #[.int .i64 0, .int .i64 0, .int .i64 0, .int .i64 0, .int .i64 0] 50) = w1 at H1 ⊢
  obtain ⟨b1, hb1⟩ : ∃ b, w.heap.size + 1 = b := ⟨_, rfl⟩
  obtain ⟨b0, hb0⟩ : ∃ b, w.heap.size = b := ⟨_, rfl⟩
  rw [hb1] at H1 ⊢
  rw [hb0] at H1 ⊢
  have HN := Lib.hid (show w.heap.size ≤ b1 ∧ b0 ≠ b1 by omega)
  clear hb1 hb0
  go_loopw [5, 6] (fun kk ii wr => ∃ (i k : Nat) (m : Nat → Int), i ≤ s.size ∧ i ≤ 20 ∧ k ≤ 4 ∧ ii = .int .i64 i ∧ kk = .int .i64 k ∧ lread (s.data.toList.take i) = (m, k) ∧ Arr5 wr b1 m ∧ Ret1 w b0 0 0 wr) (fun _ i _ => 20 - (intOf i).toNat)
  case atStart => exact ⟨0, 0, fun _ => 0, by omega, by omega, by omega, rfl, rfl, by simp [lread], H1.out.2, H1.out.1⟩
  case round =>
    clear H1
    obtain ⟨i, k, m, hi, hi20, hk4, rfl, rfl, hread, hA, hR⟩ := hrel
    have HR := Lib.hid (And.intro hread (And.intro hA hR))
    clear hread hA hR
    by_cases hlt : i < s.size
    · by_cases h20 : i < 20
      · by_cases hd : 48 ≤ s[i].toNat ∧ s[i].toNat ≤ 57
        · have hc := HR.out.2.1.cell k (by omega)
          have hf := HR.out.2.1.frozen k
          obtain ⟨x, hx⟩ : ∃ x, m k = x := ⟨_, rfl⟩
          have HX := Lib.hid hx
          rw [hx] at hc
          clear hx
          have hk5 : (k : Int) < 5 := by omega
          go_wp2_with fail
          go_region
          have hst : lread (s.data.toList.take (i + 1)) = (upd5 m k (wrap64 (wrap64 (x * 10) + ((s[i].toNat : Int) - 48))), k) := by
            have hts : s.data.toList.take (i + 1) = s.data.toList.take i ++ [s[i]] := by
              rw [List.take_succ_eq_append_getElem (by simpa using hlt)]; rfl
            rw [hts, lread_snoc, HR.out.1]
            unfold lstep
            rw [if_pos hd]
            simp only [HX.out]
          generalize wrap64 (wrap64 (x * 10) + ((s[i].toNat : Int) - 48)) = v at hst ⊢
          have hA3 : Arr5 (wr.setCell ⟨b1, k, none⟩ (.int .i64 v)) b1 (upd5 m k v) := HR.out.2.1.set_ k _ (fun j _ => by unfold upd5; split <;> rfl)
          have hR3 : Ret1 w b0 0 0 (wr.setCell ⟨b1, k, none⟩ (.int .i64 v)) := ⟨HR.out.2.2.1.far (p := ⟨b1, k, none⟩) HN.out.2 _, HR.out.2.2.2.1, HR.out.2.2.2.2.setCell (p := ⟨b1, k, none⟩) HN.out.1 _⟩
          have H3 := Lib.hid (And.intro hst (And.intro hA3.drew hR3.drew))
          generalize (wr.setCell ⟨b1, k, none⟩ (.int .i64 v)).drew = w3 at H3 ⊢
          clear hc hf hst hA3 hR3 hk5
          go_wp2_with fail
          exact ⟨⟨i + 1, k, _, by omega, by omega, hk4, by go_num, rfl, H3.out.1, H3.out.2.1, H3.out.2.2⟩, by simp [intOf]; omega⟩
        · have hst : lread (s.data.toList.take (i + 1)) = (m, if k < 4 then k + 1 else k) := by
            have hts : s.data.toList.take (i + 1) = s.data.toList.take i ++ [s[i]] := by
              rw [List.take_succ_eq_append_getElem (by simpa using hlt)]; rfl
            rw [hts, lread_snoc, HR.out.1]
            unfold lstep
            rw [if_neg hd]
          have H3 := Lib.hid hst
          clear hst
          by_cases hk3 : k < 4
          · have hstep := H3.out
            rw [if_pos hk3] at hstep
            have H4 := Lib.hid hstep
            clear hstep H3
            by_cases h48 : 48 ≤ s[i].toNat
            · have h57 : decide ((s[i].toNat : Int) ≤ 57) = false := decide_eq_false (by omega)
              clear hd
              go_wp2_with fail
              exact ⟨⟨i + 1, k + 1, m, by omega, by omega, by omega, by go_num, by go_num, H4.out, HR.out.2.1, HR.out.2.2⟩, by simp [intOf]; omega⟩
            · have h57 : decide (48 ≤ (s[i].toNat : Int)) = false := decide_eq_false (by omega)
              clear hd
              go_wp2_with fail
              exact ⟨⟨i + 1, k + 1, m, by omega, by omega, by omega, by go_num, by go_num, H4.out, HR.out.2.1, HR.out.2.2⟩, by simp [intOf]; omega⟩
          · have hstep := H3.out
            rw [if_neg hk3] at hstep
            have H4 := Lib.hid hstep
            clear hstep H3
            obtain rfl : k = 4 := by omega
            by_cases h48 : 48 ≤ s[i].toNat
            · have h57 : decide ((s[i].toNat : Int) ≤ 57) = false := decide_eq_false (by omega)
              clear hd
              go_wp2_with fail
              exact ⟨⟨i + 1, 4, m, by omega, by omega, by omega, by go_num, rfl, H4.out, HR.out.2.1, HR.out.2.2⟩, by simp [intOf]; omega⟩
            · have h57 : decide (48 ≤ (s[i].toNat : Int)) = false := decide_eq_false (by omega)
              clear hd
              go_wp2_with fail
              exact ⟨⟨i + 1, 4, m, by omega, by omega, by omega, by go_num, rfl, H4.out, HR.out.2.1, HR.out.2.2⟩, by simp [intOf]; omega⟩
      · have HM := Lib.hid (read_end HR.out.1 (.inr (by omega)))
        have c4 := HR.out.2.1.cell 4 (by omega)
        obtain ⟨y4, hy4⟩ : ∃ y, m 4 = y := ⟨_, rfl⟩
        have HY4 := Lib.hid hy4
        rw [hy4] at c4
        clear hy4 hi hi20 hk4
        go_upto_region 11 with fail
        obtain ⟨w3, hw3, hP3, hb3⟩ := fresh_box wr 0 y4
        rw [show wr.alloc (.cells #[.int .u32 0, .int .i64 y4] 24) = w3 from hw3]
        have H3 := Lib.hid (And.intro hP3 (And.intro (HR.out.2.1.below hb3 HR.out.2.1.lt) (And.intro (HR.out.2.2.step hb3) (show b1 < wr.heap.size ∧ b0 < wr.heap.size from ⟨HR.out.2.1.lt, HR.out.2.2.1.lt⟩))))
        generalize wr.heap.size = bp at H3 ⊢
        clear hw3 hP3 hb3 c4
        go_wp2_with fail
        go_loopw [8] (fun jj wq => ∃ j : Nat, j ≤ 4 ∧ jj = .int .i64 j ∧ PB wq bp (lacc m j) y4 ∧ Arr5 wq b1 m ∧ Ret1 w b0 0 0 wq) (fun jj _ => 4 - (intOf jj).toNat)
        case atStart => exact ⟨0, by omega, rfl, H3.out.1, H3.out.2.1, H3.out.2.2.1⟩
        case round =>
          obtain ⟨j, hj, rfl, hP, hA, hR⟩ := hrel
          have H4 := Lib.hid (And.intro hP (And.intro hA hR))
          have HSZ := Lib.hid (H3.out.2.2.2)
          clear hP hA hR H3
          by_cases hj4 : j < 4
          · have d0 := H4.out.1.cell0
            have d1 := H4.out.1.cell1
            have df := H4.out.1.frozen 0
            have cj := H4.out.2.1.cell j (by omega)
            obtain ⟨x, hx⟩ : ∃ x, m j = x := ⟨_, rfl⟩
            have HX := Lib.hid hx
            rw [hx] at cj
            obtain ⟨z, hz⟩ : ∃ z, (x % 256).toNat = z := ⟨_, rfl⟩
            have hz256 : z < 256 := by omega
            have hE1 := run_and255i x
            rw [hz] at hE1
            obtain ⟨A, hAe⟩ : ∃ A, lacc m j = A := ⟨_, rfl⟩
            have hAlt : A < 4294967296 := by rw [← hAe]; exact lacc_lt m j
            have hE2 := run_byte_or A z hAlt hz256
            rw [hAe] at d0
            obtain ⟨B, hB⟩ : ∃ B, A * 256 % 4294967296 + z = B := ⟨_, rfl⟩
            rw [hB] at hE2
            have HB := Lib.hid (show lacc m (j + 1) = B by rw [lacc, hAe, HX.out, hz, hB])
            clear hx hz hAe hB
            go_wp2_with fail
            go_region
            have hP5 : PB (wr.setCell ⟨bp, 0, none⟩ (.int .u32 (B : Int))) bp (lacc m (j + 1)) y4 := by rw [HB.out]; exact H4.out.1.set0
            have hA5 : Arr5 (wr.setCell ⟨bp, 0, none⟩ (.int .u32 (B : Int))) b1 m := H4.out.2.1.far (p := ⟨bp, 0, none⟩) (by have := HSZ.out.1; show b1 ≠ bp; omega) _
            have hR5 : Ret1 w b0 0 0 (wr.setCell ⟨bp, 0, none⟩ (.int .u32 (B : Int))) := ⟨H4.out.2.2.1.far (p := ⟨bp, 0, none⟩) (by have := HSZ.out.2; show b0 ≠ bp; omega) _, H4.out.2.2.2.1, H4.out.2.2.2.2.setCell (p := ⟨bp, 0, none⟩) (by have := HSZ.out.1; have := HN.out.1; show w.heap.size ≤ bp; omega) _⟩
            have H5 := Lib.hid (And.intro hP5.drew (And.intro (show Arr5 (wr.setCell ⟨bp, 0, none⟩ (.int .u32 (B : Int))).drew b1 m from hA5) hR5.drew))
            generalize (wr.setCell ⟨bp, 0, none⟩ (.int .u32 (B : Int))).drew = w5 at H5 ⊢
            clear hP5 hA5 hR5 d0 d1 df cj
            go_wp2_with fail
            exact ⟨⟨j + 1, by omega, by go_num, H5.out.1, H5.out.2.1, H5.out.2.2⟩, by simp [intOf]; omega⟩
          · obtain rfl : j = 4 := by omega
            obtain ⟨A, hAe⟩ : ∃ A, lacc m 4 = A := ⟨_, rfl⟩
            have hAlt : A < 4294967296 := by rw [← hAe]; exact lacc_lt m 4
            have hT := Lib.hid (fun W => refText_any A y4 W hAlt)
            have p0 := H4.out.1.cell0
            have p1 := H4.out.1.cell1
            rw [hAe] at p0
            have HP := Lib.hid (show PB wr bp A y4 by rw [← hAe]; exact H4.out.1)
            have f0 := H4.out.2.2.1.frozen 0
            have f1 := H4.out.2.2.1.frozen 1
            have c0 : wr.cell? ⟨b0, 0, none⟩ = some (.int .u32 0) := H4.out.2.2.1.cell0
            have c1 := H4.out.2.2.1.cell1
            by_cases hs0 : s.data.toList = []
            · have hsl : s.toList = [] := by rw [ByteArray.toList_eq]; exact hs0
              have hsl2 : s.toList.isEmpty = true := by rw [hsl]; rfl
              have HO := Lib.hid (show pPfx s.data.toList = none by rw [hs0]; exact px_nil')
              clear hs0 hAe hAlt hT p0 p1
              go_wp2_with fail
              have HT := Lib.hid (show Ret1 w b0 0 0 ((wr.setCell ⟨b0, 0, none⟩ (.int .u32 0)).setCell ⟨b0, 1, none⟩ (.int .i64 0)) from H4.out.2.2.set1 0 0)
              generalize (wr.setCell ⟨b0, 0, none⟩ (.int .u32 0)).setCell ⟨b0, 1, none⟩ (.int .i64 0) = W7 at HT ⊢
              have z0 := HT.out.1.cell0
              have z1 := HT.out.1.cell1
              exact bodyPost_ret (v := .tuple #[pv 0 0, .int .i64 3]) (by simp [results, Tryd.results14, go_sem, z0, z1]) rfl ⟨by rw [HO.out]; rfl, HT.out.2.2⟩
            · have hsl : ¬ s.toList = [] := by rw [ByteArray.toList_eq]; exact hs0
              have hsl2 : s.toList.isEmpty = false := by simpa using hsl
              have hfin := loose_fin HM.out hs0
              rw [hAe, HY4.out] at hfin
              have hste := str_eq (txV A y4) s
              obtain ⟨t, ht⟩ : ∃ t, str (txV A y4) = t := ⟨_, rfl⟩
              rw [ht] at hT hste
              have HF := Lib.hid (And.intro hfin hste)
              clear hs0 hAe hAlt ht hfin hste f0 f1 c0 c1
              rcases HF.out.1 with ⟨h1, n, h2, h3⟩ | ⟨h1, h3⟩
              · have hq : (t.toList == s.toList) = true := by rw [HF.out.2, h1]; simp
                have HO := Lib.hid h3
                clear h1 h3 HF
                subst h2
                go_wp2_with fail
                refine (hT.out _).mono ?_
                rintro en w6 ⟨rfl, hb6⟩
                have H6 := Lib.hid (And.intro (HP.out.step hb6) (H4.out.2.2.step hb6))
                clear hb6 p0 p1
                have p0 := H6.out.1.cell0
                have p1 := H6.out.1.cell1
                have f0 := H6.out.2.1.frozen 0
                have f1 := H6.out.2.1.frozen 1
                have c0 : w6.cell? ⟨b0, 0, none⟩ = some (.int .u32 0) := H6.out.2.1.cell0
                have c1 := H6.out.2.1.cell1
                go_wp2_with fail
                have HT := Lib.hid (H6.out.2.set1 A (n : Int))
                generalize (w6.setCell ⟨b0, 0, none⟩ (.int .u32 (A : Int))).setCell ⟨b0, 1, none⟩ (.int .i64 (n : Int)) = W7 at HT ⊢
                have z0 := HT.out.1.cell0
                have z1 := HT.out.1.cell1
                exact bodyPost_ret (v := .tuple #[pv A (n : Int), .int .i64 0]) (by simp [results, Tryd.results14, go_sem, z0, z1]) rfl ⟨by rw [HO.out]; rfl, HT.out.2.2⟩
              · have hq : (t.toList == s.toList) = false := by rw [HF.out.2]; simpa using h1
                have HO := Lib.hid h3
                clear h1 h3 HF
                go_wp2_with fail
                refine (hT.out _).mono ?_
                rintro en w6 ⟨rfl, hb6⟩
                have H6 := Lib.hid (H4.out.2.2.step hb6)
                clear hb6 p0 p1
                have f0 := H6.out.1.frozen 0
                have f1 := H6.out.1.frozen 1
                have c0 : w6.cell? ⟨b0, 0, none⟩ = some (.int .u32 0) := H6.out.1.cell0
                have c1 := H6.out.1.cell1
                go_wp2_with fail
                have HT := Lib.hid (show Ret1 w b0 0 0 ((w6.setCell ⟨b0, 0, none⟩ (.int .u32 0)).setCell ⟨b0, 1, none⟩ (.int .i64 0)) from H6.out.set1 0 0)
                generalize (w6.setCell ⟨b0, 0, none⟩ (.int .u32 0)).setCell ⟨b0, 1, none⟩ (.int .i64 0) = W7 at HT ⊢
                have z0 := HT.out.1.cell0
                have z1 := HT.out.1.cell1
                exact bodyPost_ret (v := .tuple #[pv 0 0, .int .i64 3]) (by simp [results, Tryd.results14, go_sem, z0, z1]) rfl ⟨by rw [HO.out]; rfl, HT.out.2.2⟩
    · have HM := Lib.hid (read_end HR.out.1 (.inl (by show s.size ≤ i; omega)))
      have c4 := HR.out.2.1.cell 4 (by omega)
      obtain ⟨y4, hy4⟩ : ∃ y, m 4 = y := ⟨_, rfl⟩
      have HY4 := Lib.hid hy4
      rw [hy4] at c4
      clear hy4 hi hi20 hk4
      go_upto_region 11 with fail
      obtain ⟨w3, hw3, hP3, hb3⟩ := fresh_box wr 0 y4
      rw [show wr.alloc (.cells #[.int .u32 0, .int .i64 y4] 24) = w3 from hw3]
      have H3 := Lib.hid (And.intro hP3 (And.intro (HR.out.2.1.below hb3 HR.out.2.1.lt) (And.intro (HR.out.2.2.step hb3) (show b1 < wr.heap.size ∧ b0 < wr.heap.size from ⟨HR.out.2.1.lt, HR.out.2.2.1.lt⟩))))
      generalize wr.heap.size = bp at H3 ⊢
      clear hw3 hP3 hb3 c4
      go_wp2_with fail
      go_loopw [8] (fun jj wq => ∃ j : Nat, j ≤ 4 ∧ jj = .int .i64 j ∧ PB wq bp (lacc m j) y4 ∧ Arr5 wq b1 m ∧ Ret1 w b0 0 0 wq) (fun jj _ => 4 - (intOf jj).toNat)
      case atStart => exact ⟨0, by omega, rfl, H3.out.1, H3.out.2.1, H3.out.2.2.1⟩
      case round =>
        obtain ⟨j, hj, rfl, hP, hA, hR⟩ := hrel
        have H4 := Lib.hid (And.intro hP (And.intro hA hR))
        have HSZ := Lib.hid (H3.out.2.2.2)
        clear hP hA hR H3
        by_cases hj4 : j < 4
        · have d0 := H4.out.1.cell0
          have d1 := H4.out.1.cell1
          have df := H4.out.1.frozen 0
          have cj := H4.out.2.1.cell j (by omega)
          obtain ⟨x, hx⟩ : ∃ x, m j = x := ⟨_, rfl⟩
          have HX := Lib.hid hx
          rw [hx] at cj
          obtain ⟨z, hz⟩ : ∃ z, (x % 256).toNat = z := ⟨_, rfl⟩
          have hz256 : z < 256 := by omega
          have hE1 := run_and255i x
          rw [hz] at hE1
          obtain ⟨A, hAe⟩ : ∃ A, lacc m j = A := ⟨_, rfl⟩
          have hAlt : A < 4294967296 := by rw [← hAe]; exact lacc_lt m j
          have hE2 := run_byte_or A z hAlt hz256
          rw [hAe] at d0
          obtain ⟨B, hB⟩ : ∃ B, A * 256 % 4294967296 + z = B := ⟨_, rfl⟩
          rw [hB] at hE2
          have HB := Lib.hid (show lacc m (j + 1) = B by rw [lacc, hAe, HX.out, hz, hB])
          clear hx hz hAe hB
          go_wp2_with fail
          go_region
          have hP5 : PB (wr.setCell ⟨bp, 0, none⟩ (.int .u32 (B : Int))) bp (lacc m (j + 1)) y4 := by rw [HB.out]; exact H4.out.1.set0
          have hA5 : Arr5 (wr.setCell ⟨bp, 0, none⟩ (.int .u32 (B : Int))) b1 m := H4.out.2.1.far (p := ⟨bp, 0, none⟩) (by have := HSZ.out.1; show b1 ≠ bp; omega) _
          have hR5 : Ret1 w b0 0 0 (wr.setCell ⟨bp, 0, none⟩ (.int .u32 (B : Int))) := ⟨H4.out.2.2.1.far (p := ⟨bp, 0, none⟩) (by have := HSZ.out.2; show b0 ≠ bp; omega) _, H4.out.2.2.2.1, H4.out.2.2.2.2.setCell (p := ⟨bp, 0, none⟩) (by have := HSZ.out.1; have := HN.out.1; show w.heap.size ≤ bp; omega) _⟩
          have H5 := Lib.hid (And.intro hP5.drew (And.intro (show Arr5 (wr.setCell ⟨bp, 0, none⟩ (.int .u32 (B : Int))).drew b1 m from hA5) hR5.drew))
          generalize (wr.setCell ⟨bp, 0, none⟩ (.int .u32 (B : Int))).drew = w5 at H5 ⊢
          clear hP5 hA5 hR5 d0 d1 df cj
          go_wp2_with fail
          exact ⟨⟨j + 1, by omega, by go_num, H5.out.1, H5.out.2.1, H5.out.2.2⟩, by simp [intOf]; omega⟩
        · obtain rfl : j = 4 := by omega
          obtain ⟨A, hAe⟩ : ∃ A, lacc m 4 = A := ⟨_, rfl⟩
          have hAlt : A < 4294967296 := by rw [← hAe]; exact lacc_lt m 4
          have hT := Lib.hid (fun W => refText_any A y4 W hAlt)
          have p0 := H4.out.1.cell0
          have p1 := H4.out.1.cell1
          rw [hAe] at p0
          have HP := Lib.hid (show PB wr bp A y4 by rw [← hAe]; exact H4.out.1)
          have f0 := H4.out.2.2.1.frozen 0
          have f1 := H4.out.2.2.1.frozen 1
          have c0 : wr.cell? ⟨b0, 0, none⟩ = some (.int .u32 0) := H4.out.2.2.1.cell0
          have c1 := H4.out.2.2.1.cell1
          by_cases hs0 : s.data.toList = []
          · have hsl : s.toList = [] := by rw [ByteArray.toList_eq]; exact hs0
            have hsl2 : s.toList.isEmpty = true := by rw [hsl]; rfl
            have HO := Lib.hid (show pPfx s.data.toList = none by rw [hs0]; exact px_nil')
            clear hs0 hAe hAlt hT p0 p1
            go_wp2_with fail
            have HT := Lib.hid (show Ret1 w b0 0 0 ((wr.setCell ⟨b0, 0, none⟩ (.int .u32 0)).setCell ⟨b0, 1, none⟩ (.int .i64 0)) from H4.out.2.2.set1 0 0)
            generalize (wr.setCell ⟨b0, 0, none⟩ (.int .u32 0)).setCell ⟨b0, 1, none⟩ (.int .i64 0) = W7 at HT ⊢
            have z0 := HT.out.1.cell0
            have z1 := HT.out.1.cell1
            exact bodyPost_ret (v := .tuple #[pv 0 0, .int .i64 3]) (by simp [results, Tryd.results14, go_sem, z0, z1]) rfl ⟨by rw [HO.out]; rfl, HT.out.2.2⟩
          · have hsl : ¬ s.toList = [] := by rw [ByteArray.toList_eq]; exact hs0
            have hsl2 : s.toList.isEmpty = false := by simpa using hsl
            have hfin := loose_fin HM.out hs0
            rw [hAe, HY4.out] at hfin
            have hste := str_eq (txV A y4) s
            obtain ⟨t, ht⟩ : ∃ t, str (txV A y4) = t := ⟨_, rfl⟩
            rw [ht] at hT hste
            have HF := Lib.hid (And.intro hfin hste)
            clear hs0 hAe hAlt ht hfin hste f0 f1 c0 c1
            rcases HF.out.1 with ⟨h1, n, h2, h3⟩ | ⟨h1, h3⟩
            · have hq : (t.toList == s.toList) = true := by rw [HF.out.2, h1]; simp
              have HO := Lib.hid h3
              clear h1 h3 HF
              subst h2
              go_wp2_with fail
              refine (hT.out _).mono ?_
              rintro en w6 ⟨rfl, hb6⟩
              have H6 := Lib.hid (And.intro (HP.out.step hb6) (H4.out.2.2.step hb6))
              clear hb6 p0 p1
              have p0 := H6.out.1.cell0
              have p1 := H6.out.1.cell1
              have f0 := H6.out.2.1.frozen 0
              have f1 := H6.out.2.1.frozen 1
              have c0 : w6.cell? ⟨b0, 0, none⟩ = some (.int .u32 0) := H6.out.2.1.cell0
              have c1 := H6.out.2.1.cell1
              go_wp2_with fail
              have HT := Lib.hid (H6.out.2.set1 A (n : Int))
              generalize (w6.setCell ⟨b0, 0, none⟩ (.int .u32 (A : Int))).setCell ⟨b0, 1, none⟩ (.int .i64 (n : Int)) = W7 at HT ⊢
              have z0 := HT.out.1.cell0
              have z1 := HT.out.1.cell1
              exact bodyPost_ret (v := .tuple #[pv A (n : Int), .int .i64 0]) (by simp [results, Tryd.results14, go_sem, z0, z1]) rfl ⟨by rw [HO.out]; rfl, HT.out.2.2⟩
            · have hq : (t.toList == s.toList) = false := by rw [HF.out.2]; simpa using h1
              have HO := Lib.hid h3
              clear h1 h3 HF
              go_wp2_with fail
              refine (hT.out _).mono ?_
              rintro en w6 ⟨rfl, hb6⟩
              have H6 := Lib.hid (H4.out.2.2.step hb6)
              clear hb6 p0 p1
              have f0 := H6.out.1.frozen 0
              have f1 := H6.out.1.frozen 1
              have c0 : w6.cell? ⟨b0, 0, none⟩ = some (.int .u32 0) := H6.out.1.cell0
              have c1 := H6.out.1.cell1
              go_wp2_with fail
              have HT := Lib.hid (show Ret1 w b0 0 0 ((w6.setCell ⟨b0, 0, none⟩ (.int .u32 0)).setCell ⟨b0, 1, none⟩ (.int .i64 0)) from H6.out.set1 0 0)
              generalize (w6.setCell ⟨b0, 0, none⟩ (.int .u32 0)).setCell ⟨b0, 1, none⟩ (.int .i64 0) = W7 at HT ⊢
              have z0 := HT.out.1.cell0
              have z1 := HT.out.1.cell1
              exact bodyPost_ret (v := .tuple #[pv 0 0, .int .i64 3]) (by simp [results, Tryd.results14, go_sem, z0, z1]) rfl ⟨by rw [HO.out]; rfl, HT.out.2.2⟩
end Go.Proofs.YtgpgoadalnojdaaDoor
