/- Contract of package nat's Sub. -/
import Derived.Test.YtapblmbjbpkieaaDoorSums
namespace Go.Proofs.YtapblmbjbpkieaaDoor
open Go.RowKit

def DiffOk (w : World) (k : Nat) (e : Ending) (w' : World) : Prop := ∃ v, e = .returned (.tuple #[v, .int .i64 0]) ∧ IsNat w' v k ∧ Below w.heap.size w w'

set_option maxRecDepth 100000 in
set_option maxHeartbeats 1000000 in
theorem subtractFrom_none {P Q : Option Addr} {cp cb : Nat} {w : World} : Calls Tryd.prog 53 #[.slice P 0 cp, .slice Q 0 cb] w fun e w' => e = .returned (.int .u32 0) ∧ w = w' := by
  go_enter Tryd.func53, Tryd.ntmps53
  go_wp2
  go_loop [5, 11] (fun c i => c = .int .u32 0 ∧ i = .int .i64 0) (fun _ i => (intOf i).toNat)
  case atStart => exact ⟨rfl, rfl⟩
  case round =>
    obtain ⟨rfl, rfl⟩ := hrel
    go_wp2
    go_loop [5, 8] (fun c i => c = .int .u32 0 ∧ i = .int .i64 0) (fun _ i => (intOf i).toNat)
    case atStart => exact ⟨rfl, rfl⟩
    case round =>
      obtain ⟨rfl, rfl⟩ := hrel
      go_wp2
      go_ret
      exact ⟨rfl, rfl⟩

theorem diff_math {p T x y k c : Nat} (h : T + y = x + p * c) (hk : x - y = k) (hle : y ≤ x) (hT : T < p) : T = k := by
  rcases Nat.eq_zero_or_pos c with rfl | hc
  · simp at h; omega
  · have h5 : p * 1 ≤ p * c := Nat.mul_le_mul_left _ hc
    omega

set_option maxRecDepth 100000 in
set_option maxHeartbeats 1500000 in
theorem natSub_less {u v : Value} {x y : Nat} {w : World} (hlx : (digs 4294967296 x).length ≤ 1000) (hly : (digs 4294967296 y).length ≤ 1000) (hlt : x < y) (hu : IsNat w u x) (hv : IsNat w v y) :
    Calls Tryd.prog 20 #[u, v] w fun e w' => e = .returned (.tuple #[.agg #[.slice none 0 0], .int .i64 2]) ∧ Below w.heap.size w w' := by
  obtain ⟨A, n, ca, hn, rfl⟩ := isNat_digs hu
  obtain ⟨B, m, cb, hm, rfl⟩ := isNat_digs hv
  obtain ⟨w3, hw3⟩ : ∃ w3, (((w.alloc (.cells #[.slice A n ca] 26)).alloc (.cells #[.slice B m cb] 26)).alloc (.cells #[.slice none 0 0] 26)) = w3 := ⟨_, rfl⟩
  have hb3 : Below w.heap.size w w3 := by
    rw [← hw3]
    exact (((Below.refl _ w).alloc (Nat.le_refl _) _).alloc (by simp) _).alloc (by simp; omega) _
  have o3 : One w3 (w.heap.size + 1 + 1) (.slice none 0 0) 26 := by
    have := (One.new ((w.alloc (.cells #[.slice A n ca] 26)).alloc (.cells #[.slice B m cb] 26)) (.slice none 0 0) 26)
    rw [hw3] at this
    simpa using this
  have d1 : w3.cell? ⟨w.heap.size, 0, none⟩ = some (.slice A n ca) := by
    have := ((One.new w (.slice A n ca) 26).alloc (.cells #[.slice B m cb] 26)).alloc (.cells #[.slice none 0 0] 26)
    rw [hw3] at this
    exact this.cell
  have d2 : w3.cell? ⟨w.heap.size + 1, 0, none⟩ = some (.slice B m cb) := by
    have := (One.new (w.alloc (.cells #[.slice A n ca] 26)) (.slice B m cb) 26).alloc (.cells #[.slice none 0 0] 26)
    rw [hw3] at this
    simpa using this.cell
  have HC := Lib.hid (cmp_any (w := w3) (by omega) (by omega) (hu.below hb3) (hv.below hb3))
  have hci : cmpI x y = -1 := by unfold cmpI; rw [if_pos hlt]
  rw [hci] at HC
  clear hci hn hm hlt hlx hly hu hv
  go_enter Tryd.func20, Tryd.ntmps20
  go_wp2_with fail
  clear hw3
  refine HC.out.mono ?_
  rintro e w4 ⟨rfl, hb4⟩
  have oR4 := o3.step hb4
  have hR4 := oR4.cell
  have hff := oR4.frozen
  go_wp2_with fail
  have oR5 := oR4.set_ (.slice none 0 0)
  refine bodyPost_ret (v := .tuple #[.agg #[.slice none 0 0], .int .i64 2]) (by simp [results, Tryd.results20, go_sem, oR5.cell]) rfl ?_
  exact ⟨rfl, (hb3.trans (hb4.mono hb3.size)).setCell (by show w.heap.size ≤ w.heap.size + 1 + 1; omega) _⟩

set_option maxRecDepth 100000 in
set_option maxHeartbeats 1500000 in
theorem natSub_ge {u v : Value} {x y : Nat} {w : World} (hlx : (digs 4294967296 x).length ≤ 1000) (hly : (digs 4294967296 y).length ≤ 1000) (hle : y ≤ x) (hu : IsNat w u x) (hv : IsNat w v y) :
    Calls Tryd.prog 20 #[u, v] w (DiffOk w (x - y)) := by
  have hu0 := hu
  have hv0 := hv
  obtain ⟨s, rfl, A, ca, rfl, hca, hA⟩ := hu
  obtain ⟨t, rfl, B, cb, rfl, hcb, hB⟩ := hv
  obtain ⟨xs, hxs⟩ : ∃ xs, xs = digs 4294967296 x := ⟨_, rfl⟩
  obtain ⟨ys, hys⟩ : ∃ ys, ys = digs 4294967296 y := ⟨_, rfl⟩
  have hvx : Hid (val 4294967296 xs = x) := by rw [hxs]; exact val_digs (by omega) x
  have hvy : Hid (val 4294967296 ys = y) := by rw [hys]; exact val_digs (by omega) y
  have hdx : Hid (∀ d ∈ xs, d < 4294967296) := by rw [hxs]; exact digs_lt (by omega) x
  have hdy : Hid (∀ d ∈ ys, d < 4294967296) := by rw [hys]; exact digs_lt (by omega) y
  have hll : ys.length ≤ xs.length := by
    rcases Nat.lt_or_ge xs.length ys.length with h | h
    · rw [hxs, hys] at h
      have := cmp_len h
      omega
    · exact h
  obtain ⟨w3, hw3⟩ : ∃ w3, (((w.alloc (.cells #[.slice A (digs 4294967296 x).length ca] 26)).alloc (.cells #[.slice B (digs 4294967296 y).length cb] 26)).alloc (.cells #[.slice none 0 0] 26)) = w3 := ⟨_, rfl⟩
  have hb3 : Below w.heap.size w w3 := by
    rw [← hw3]
    exact (((Below.refl _ w).alloc (Nat.le_refl _) _).alloc (by simp) _).alloc (by simp; omega) _
  have o1 : One w3 w.heap.size (.slice A (digs 4294967296 x).length ca) 26 := by rw [← hw3]; exact ((One.new w _ _).alloc _).alloc _
  have o2 : One w3 (w.heap.size + 1) (.slice B (digs 4294967296 y).length cb) 26 := by
    have := (One.new (w.alloc (.cells #[.slice A (digs 4294967296 x).length ca] 26)) (.slice B (digs 4294967296 y).length cb) 26).alloc (.cells #[.slice none 0 0] 26)
    rw [hw3] at this
    simpa using this
  have o3 : One w3 (w.heap.size + 1 + 1) (.slice none 0 0) 26 := by
    have := (One.new ((w.alloc (.cells #[.slice A (digs 4294967296 x).length ca] 26)).alloc (.cells #[.slice B (digs 4294967296 y).length cb] 26)) (.slice none 0 0) 26)
    rw [hw3] at this
    simpa using this
  have HC := Lib.hid (cmp_any (w := w3) (by omega) (by omega) (hu0.below hb3) (hv0.below hb3))
  have hci : cmpI x y = 0 ∨ cmpI x y = 1 := by unfold cmpI; rw [if_neg (by omega)]; split <;> simp
  obtain ⟨cc, hcc⟩ : ∃ cc, cmpI x y = cc := ⟨_, rfl⟩
  rw [hcc] at HC hci
  have hc0 : 0 ≤ cc := by omega
  have HLE := Lib.hid hle
  have HDX := Lib.hid (show Hid (∀ d ∈ xs, d < 4294967296) from hdx)
  have d1 := o1.cell
  have d2 := o2.cell
  rw [← hxs] at hlx hca hA hw3 o1 HC d1 ⊢
  rw [← hys] at hly hcb hB hw3 o2 HC d2 ⊢
  clear hci hcc hxs hys hu0 hv0 HDX
  have hs3 : w.heap.size + 1 + 1 + 1 ≤ w3.heap.size := by rw [← hw3]; simp
  go_enter Tryd.func20, Tryd.ntmps20
  go_wp2_with fail
  clear hw3
  refine HC.out.mono ?_
  rintro e w4 ⟨rfl, hb4⟩
  have p1 := o1.step hb4
  have p2 := o2.step hb4
  have p3 := o3.step hb4
  have hbw4 := hb3.trans (hb4.mono hb3.size)
  have hs4 : w.heap.size + 1 + 1 + 1 ≤ w4.heap.size := by have := hb4.size; omega
  have d1 := p1.cell
  clear HC o1 o2 o3 d2 hb3 hb4 hs3
  go_wp2_with fail
  refine (clone_any rfl (by omega) (hA.step hbw4)).mono ?_
  rintro e w5 ⟨v5, rfl, hown, hb5⟩
  have q2 := p2.step hb5
  have q3 := p3.step hb5
  have d2 := q2.cell
  have hbw5 := hbw4.trans (hb5.mono hbw4.size)
  have hs5 : w.heap.size + 1 + 1 + 1 ≤ w5.heap.size := by have := hb5.size; omega
  clear p1 p2 p3 d1
  rcases hown.2 with ⟨h0, h1⟩ | ⟨g, cap, cur, h0, hg, -⟩
  · subst h0
    obtain rfl : xs = [] := List.eq_nil_of_length_eq_zero h1
    obtain rfl : ys = [] := List.eq_nil_of_length_eq_zero (by simpa using hll)
    have HS := Lib.hid (fun W : World => subtractFrom_none (P := none) (Q := B) (cp := 0) (cb := cb) (w := W))
    have HF := Lib.hid (fun W : World => fromDigits_new (w := W) (v := .slice none 0 0) (ds := []) (by simp) (by simp) ⟨none, 0, rfl, Nat.le_refl _, .inl rfl, fun i hi => by simp at hi⟩)
    have hxy : Hid (x - y = val 4294967296 []) := by unfold Hid; rw [← hvx.out, ← hvy.out]; rfl
    rw [← hxy.out] at HF
    clear hown hxy h1 hA hB hb5
    simp only [List.length_nil] at *
    go_wp2_with fail
    refine (HS.out _).mono ?_
    rintro e w6 ⟨rfl, rfl⟩
    go_wp2_with fail
    refine (HF.out _).mono ?_
    rintro e w7 ⟨v7, rfl, hv7, hb7⟩
    obtain ⟨A7, n7, c7, -, rfl⟩ := isNat_digs hv7
    have r3 := q3.step hb7
    have hR := r3.cell
    have hff := r3.frozen
    go_wp2_with fail
    have r4 := r3.set_ (.slice A7 n7 c7)
    refine bodyPost_ret (v := .tuple #[.agg #[.slice A7 n7 c7], .int .i64 0]) (by simp [results, Tryd.results20, go_sem, r4.cell]) rfl ?_
    exact ⟨_, rfl, hv7.far r3.row (by decide) _, (hbw5.trans (hb7.mono hbw5.size)).setCell (by show w.heap.size ≤ w.heap.size + 1 + 1; omega) _⟩
  · subst h0
    obtain ⟨N, f, hcap, hN, hrow, hf⟩ := row_of_own hown
    have hP : RowP w5 g N f 0 xs.length (fun j => xs.getD j 0) := RowP.of hrow (fun j hj => by rw [Nat.zero_add, hf j hj]; rfl)
    have hBc : Cells w5 g B ys.length (u32f ys) := ((hB.step hbw4).cells.below hb5).more hg
    have HS := Lib.hid (subtractFrom_any (w := w5) (off := 0) (cp := cap) (cb := cb) rfl hll (by omega) (by omega) (by omega) hdy.out (fun j => getD_lt0 (by omega) hdx.out j) hP hBc hcap)
    clear hown hP hBc hrow hf hA hB
    have hnet : Hid (w4.heap.size ≤ g) := hg
    go_wp2_with fail
    refine HS.out.mono ?_
    rintro e w6 ⟨c, t, rfl, ht, htb, htv, -, hgr⟩
    have hv6 : Hid (val 4294967296 (seg t 0 xs.length) = x - y) := by
      rw [seg_getD_more xs _ (Nat.le_refl _), hvx.out, hvy.out] at htv
      have := val_lt (seg t 0 xs.length) (seg_lt htb 0 xs.length)
      rw [seg_len] at this
      exact diff_math htv rfl HLE.out this
    have HF := Lib.hid (fromDigits_new (by rw [seg_len]; omega) (seg_lt htb 0 xs.length) (rowP_LU ht hN hcap))
    rw [hv6.out] at HF
    have r3 := q3.grown hgr (by have := hnet.out; omega)
    have hbw6 := hbw5.grown hgr hbw5.size (fun k hk => by cases hk; have := hnet.out; omega)
    clear ht htb htv hgr hv6 HS
    go_wp2_with fail
    refine HF.out.mono ?_
    rintro e w7 ⟨v7, rfl, hv7, hb7⟩
    obtain ⟨A7, n7, c7, -, rfl⟩ := isNat_digs hv7
    have r4 := r3.step hb7
    have hR := r4.cell
    have hff := r4.frozen
    go_wp2_with fail
    have r5 := r4.set_ (.slice A7 n7 c7)
    refine bodyPost_ret (v := .tuple #[.agg #[.slice A7 n7 c7], .int .i64 0]) (by simp [results, Tryd.results20, go_sem, r5.cell]) rfl ?_
    exact ⟨_, rfl, hv7.far r4.row (by decide) _, (hbw6.trans (hb7.mono hbw6.size)).setCell (by show w.heap.size ≤ w.heap.size + 1 + 1; omega) _⟩
end Go.Proofs.YtapblmbjbpkieaaDoor
