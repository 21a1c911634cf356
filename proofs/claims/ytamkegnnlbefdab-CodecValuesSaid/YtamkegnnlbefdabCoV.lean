/- Contract: Values. -/
import Derived.Test.YtamkegnnlbefdabCoL
namespace Go.Proofs.Ytamkegnnlbefdab
open Go.RowKit

def valS (kind : Int) (rs : List Rc) : List (List UInt8) := (rs.filter (fun r => r.1 == kind)).map (·.2)
theorem valS_nil (kind : Int) : valS kind [] = [] := rfl
theorem valS_snoc (kind : Int) (rs : List Rc) (r : Rc) : valS kind (rs ++ [r]) = valS kind rs ++ if r.1 = kind then [r.2] else [] := by
  unfold valS
  rw [List.filter_append, List.map_append]
  by_cases h : r.1 = kind <;> simp [h]
theorem valS_take {kind : Int} {rs : List Rc} {k : Nat} (h : k < rs.length) : valS kind (rs.take (k + 1)) = valS kind (rs.take k) ++ if rs[k].1 = kind then [rs[k].2] else [] := by
  rw [take_snocR rs k h, valS_snoc]
theorem valS_at {kind : Int} {rs : List Rc} {k : Nat} (h : k < rs.length) (he : rs[k].1 = kind) : ∃ h2 : (valS kind (rs.take k)).length < (valS kind rs).length, (valS kind rs)[(valS kind (rs.take k)).length] = rs[k].2 := by
  have e : valS kind rs = valS kind (rs.take k) ++ (rs[k].2 :: valS kind (rs.drop (k + 1))) := by
    have hap : ∀ a b : List Rc, valS kind (a ++ b) = valS kind a ++ valS kind b := fun a b => by simp [valS]
    have h2 := hap (rs.take (k + 1)) (rs.drop (k + 1))
    rw [List.take_append_drop] at h2
    rw [h2, valS_take h, if_pos he]
    simp
  have hlt : (valS kind (rs.take k)).length < (valS kind rs).length := by rw [e]; simp
  refine ⟨hlt, ?_⟩
  have := congrArg (fun l => l[(valS kind (rs.take k)).length]?) e
  simp only [List.getElem?_append_right (Nat.le_refl _), Nat.sub_self, List.getElem?_cons_zero] at this
  rw [List.getElem?_eq_getElem hlt] at this
  exact Option.some.inj this
abbrev bsT : TypeId := 27
/-- A slice value that reads as a list of lists of bytes. -/
def Vls (W : World) (v : Value) (ls : List (List UInt8)) : Prop := ∃ A c, v = .slice A ls.length c ∧ ls.length ≤ c ∧ c ≤ 9223372036854775807 ∧ ∀ i (hi : i < ls.length), ∃ b off u, A = some ⟨b, off, none⟩ ∧ b < W.heap.size ∧ W.cell? ⟨b, off + i, none⟩ = some u ∧ By W u ls[i]
def OwnV (base : Nat) (W : World) (v : Value) (M : List Value) : Prop := W.ownsRow base bsT 1 v M.length M
def RowV (W : World) (M : List Value) (ls : List (List UInt8)) : Prop := M.length = ls.length ∧ ∀ i (h1 : i < M.length) (h2 : i < ls.length), ByT W M[i] ls[i]
section
variable {w W W' : World} {base : Nat} {v : Value} {M : List Value} {ls : List (List UInt8)}
theorem Vls.below (h : Vls W v ls) (hb : Below W.heap.size W W') : Vls W' v ls := by
  obtain ⟨A, c, h1, h2, h3, h4⟩ := h
  refine ⟨A, c, h1, h2, h3, fun i hi => ?_⟩
  obtain ⟨b, off, u, e, hl, c1, hy⟩ := h4 i hi
  exact ⟨b, off, u, e, Nat.lt_of_lt_of_le hl hb.size, (hb.cell (p := ⟨b, off + i, none⟩) hl).trans c1, hy.below hb⟩
theorem Vls.len {A : Option Addr} {n c : Nat} (h : Vls W (.slice A n c) ls) : n = ls.length ∧ n ≤ c ∧ c ≤ 9223372036854775807 := by
  obtain ⟨A', c', e, h2, h3, h4⟩ := h
  obtain ⟨rfl, rfl, rfl⟩ := Value.slice.inj e
  exact ⟨rfl, h2, h3⟩
theorem Vls.at_ {A : Option Addr} {n c i : Nat} (h : Vls W (.slice A n c) ls) (hi : i < ls.length) : ∃ b off A1 n1 c1, A = some ⟨b, off, none⟩ ∧ b < W.heap.size ∧ W.cell? ⟨b, off + i, none⟩ = some (.slice A1 n1 c1) ∧ By W (.slice A1 n1 c1) ls[i] := by
  obtain ⟨A', c', e, h2, h3, h4⟩ := h
  obtain ⟨rfl, rfl, rfl⟩ := Value.slice.inj e
  obtain ⟨b, off, u, e, hl, c1, hy⟩ := h4 i hi
  obtain ⟨A1, c1', rfl, -⟩ := hy.form
  exact ⟨b, off, A1, _, c1', e, hl, c1, hy⟩
theorem OwnV.base_ (h : OwnV base W v M) : ∀ k, v.ownBlock = some k → base ≤ k := fun k hk => (World.ownsRow.lt h k hk).1
theorem OwnV.below (h : OwnV base W v M) (hb : Below W.heap.size W W') : OwnV base W' v M := World.ownsRow.kept (row := none) h ⟨hb.os, hb.tape, hb.output, hb.size, fun k hk _ => hb.block k hk⟩ (by cases v.ownBlock <;> simp)
theorem OwnV.form (h : OwnV base W v M) : ∃ A c, v = .slice A M.length c ∧ M.length ≤ c ∧ c ≤ 9223372036854775807 := by
  rcases h.2 with ⟨rfl, h0⟩ | ⟨g, cap, cur, rfl, _, _, h1, h2, _⟩
  · exact ⟨none, 0, by rw [h0], by omega, by omega⟩
  · exact ⟨_, _, rfl, h1, by unfold maxLen at h2; omega⟩
theorem RowV.keep (h : RowV W M ls) (hk : K8 W W') : RowV W' M ls := ⟨h.1, fun i h1 h2 => (h.2 i h1 h2).keep hk⟩
theorem RowV.snoc (h : RowV W M ls) {u : Value} {l : List UInt8} (hu : ByT W u l) : RowV W (M ++ [u]) (ls ++ [l]) := by
  refine ⟨by simp [h.1], fun i h1 h2 => ?_⟩
  rcases Nat.lt_or_ge i M.length with hi | hi
  · rw [List.getElem_append_left hi, List.getElem_append_left (by rw [← h.1]; exact hi)]
    exact h.2 i hi (by rw [← h.1]; exact hi)
  · have hi' : i = M.length := by simp at h1; omega
    subst hi'
    rw [List.getElem_append_right (Nat.le_refl _), List.getElem_append_right (by rw [h.1]; exact Nat.le_refl _)]
    simp [h.1, hu]
theorem OwnV.vls (h : OwnV base W v M) (hr : RowV W M ls) : Vls W v ls := by
  obtain ⟨A, c, rfl, hc, hc2⟩ := h.form
  obtain ⟨hl, he⟩ := hr
  refine ⟨A, c, by rw [hl], by omega, hc2, fun i hi => ?_⟩
  obtain ⟨g, cap, hv, _, hlt⟩ := World.ownsRow.form h (by omega)
  obtain ⟨rfl, _, _⟩ := Value.slice.inj hv
  have k0 := World.ownsRow.cells h (g := g) rfl i M[i] (List.getElem?_eq_getElem (by omega))
  rw [row_at] at k0
  exact ⟨g, 0, M[i], rfl, hlt, by rw [Nat.zero_add]; exact k0, (he i (by omega) hi).by_⟩
theorem infoV : (Try.prog.info? bsT).map (fun i => (i.zero, i.size, i.bytes)) = some (some (.slice none 0 0), 1, 24) := by kernel_rfl
theorem run_appV (ty : TypeId) (h : OwnV base W v M) (u : Value) (hu : u.oneCell' = true) (hM : M.length ≤ 100000000) (hbase : base ≤ W.heap.size) :
    ∃ v' W', (Builtin.append_ #[40, 40] ty #[v, .slice (some ⟨W.heap.size, 0, none⟩) 1 1]).run Try.prog (W.alloc (.cells #[u] bsT)) = .ok v' W' ∧ OwnV base W' v' (M ++ [u]) ∧ Gr W W' v v' := by
  obtain ⟨i0, hi, hz0, hz1, hz2⟩ := info_parts infoV
  have hb := (Below.refl W.heap.size W).alloc (Nat.le_refl _) (.cells #[u] bsT)
  have hk := Blk.new W [u] bsT
  obtain ⟨v', W', hr, h4, h5, -, h6⟩ := run_append_own_at (P := Try.prog) (W.alloc (.cells #[u] bsT)) base 40 ty bsT i0 _ 1 24 Try.underlying40 hi hz0 hz1 hz2 rfl (by omega) v M.length M (h.below hb) ⟨W.heap.size, 0, none⟩ 1 1 [u] rfl
    (fun j x hx => by rw [row_at]; exact hk.cell hx) (fun x hx => by simp at hx; rw [hx]; exact hu) (by unfold maxLen; omega) (by omega) (by simp; omega)
  refine ⟨v', W', hr, ?_, (Gr.of_below hb v).trans ⟨h5, h6.imp id fun e => ⟨_, e, Nat.le_refl _⟩⟩⟩
  unfold OwnV
  rw [List.length_append]
  exact h4
end
set_option maxRecDepth 100000 in
set_option maxHeartbeats 8000000 in
theorem values_any {w : World} {A : Option Addr} {n c : Nat} {kind : Int} {rs : List Rc} (h : Rcs w (.slice A n c) rs) (hl : n ≤ 1000) (hz : ∀ i (hi : i < rs.length), rs[i].2.length ≤ 140737488351232) :
    Calls Try.prog 19 #[.slice A n c, .int .i64 kind] w fun e w' => ∃ A' n' c', e = .returned (.slice A' n' c') ∧ Vls w' (.slice A' n' c') (valS kind rs) ∧ Below w.heap.size w w' := by
  obtain ⟨e, hc, hc2⟩ := h.len
  have H := Lib.hid h
  have HE := Lib.hid e
  have HZ := Lib.hid hz
  clear h e hz
  go_enter Try.func19, Try.ntmps19
  go_wp2_with fail
  go_loopw [5, 10] (fun x i wr => ∃ (k : Nat) (y : Value), y = x ∧ i = .int .i64 (k : Int) ∧ k ≤ n ∧ Hid (Below w.heap.size w wr ∧ ∃ M, OwnV w.heap.size wr y M ∧ RowV wr M (valS kind (rs.take k)) ∧ M.length ≤ k)) (fun _ i _ => n - (intOf i).toNat)
  case atStart => exact ⟨0, _, rfl, rfl, Nat.zero_le _, Below.refl _ _, [], World.ownsRow_nil _ _ _ 1, ⟨rfl, fun i h => by simp at h⟩, Nat.zero_le _⟩
  case round =>
    obtain ⟨wq, rfl⟩ : ∃ x, x = wr := ⟨_, rfl⟩
    obtain ⟨k, y, rfl, rfl, hk, HS⟩ := hrel
    by_cases hlt : k < n
    · have hlt' : (k : Int) < (n : Int) := by omega
      have hkr : k < rs.length := by rw [← HE.out]; exact hlt
      obtain ⟨b, off, A1, n1, c1, rfl, hb, q0, q1, hy⟩ := H.out.at_ hkr
      have hn1 : n1 ≤ 140737488351232 := by rw [hy.len.1]; exact HZ.out k hkr
      have hst := valS_take (kind := kind) hkr
      have HY := Lib.hid hy
      have HB := Lib.hid hb
      replace q0 := (HS.out.1.cell (p := ⟨b, off + k * 2, none⟩) hb).trans q0
      replace q1 := (HS.out.1.cell (p := ⟨b, off + k * 2 + 1, none⟩) hb).trans q1
      have hb1 : Below wq.heap.size wq (wq.alloc (.cells #[.int .i64 rs[k].1, .slice A1 n1 c1] prT)) := (Below.refl _ _).alloc (Nat.le_refl _) _
      by_cases hkind : rs[k].1 = kind
      · rw [if_pos hkind] at hst
        rw [hkind] at q0 hb1
        have hlow := HS.out.1.trans (hb1.mono HS.out.1.size)
        have HC := Lib.hid (clone_any (HY.out.below hlow) (by omega))
        have HT := Lib.hid hst
        have HB1 := Lib.hid hb1
        have HLow := Lib.hid hlow
        clear hst hy hb hb1 hlow
        go_wp2_with fail
        refine HC.out.mono ?_
        rintro e w2 ⟨A2, c2, rfl, hT, hb2⟩
        obtain ⟨-, M, ho, hr, hM⟩ := HS.out
        have hbb := HB1.out.trans (hb2.mono HB1.out.size)
        have low2 := HLow.out.trans (hb2.mono HLow.out.size)
        obtain ⟨v', W', hrun, ho', hg⟩ := run_appV 40 (ho.below hbb) (.slice A2 n1 c2) rfl (by omega) low2.size
        have hba : Below w2.heap.size w2 (w2.alloc (.cells #[.slice A2 n1 c2] bsT)) := (Below.refl _ _).alloc (Nat.le_refl _) _
        have k8 : K8 w2 W' := K8.grown (ho.below hbb) (by decide) hg.1
        have HN := Lib.hid (show Below w.heap.size w W' ∧ ∃ M, OwnV w.heap.size W' v' M ∧ RowV W' M (valS kind (rs.take (k + 1))) ∧ M.length ≤ k + 1 from
          ⟨low2.trans (hg.below (ho.below hbb).base_ low2.size), _, ho', by rw [HT.out]; exact ((hr.keep (K8.below hbb)).keep k8).snoc (hT.keep k8), by simp; omega⟩)
        have HR := Lib.hid hrun
        clear ho hr hM hbb low2 hrun ho' hg hba k8 hT hb2 HC HS HT
        go_wp2_with (at_builtin; go_loud (refine wpList_app rfl (.tmp 18) (.tmp 22) _ rfl rfl rfl HR.out ?_))
        go_roundw
        case rel => exact ⟨k + 1, v', rfl, by go_num, by omega, HN⟩
        case measure => simp [intOf]; omega
      · rw [if_neg hkind, List.append_nil] at hst
        obtain ⟨t, ht⟩ : ∃ t, rs[k].1 = t := ⟨_, rfl⟩
        rw [ht] at q0 hkind hb1
        have hkb : (t == kind) = false := by simpa using hkind
        have HN := Lib.hid (show Below w.heap.size w (wq.alloc (.cells #[.int .i64 t, .slice A1 n1 c1] prT)) ∧ ∃ M, OwnV w.heap.size (wq.alloc (.cells #[.int .i64 t, .slice A1 n1 c1] prT)) y M ∧ RowV (wq.alloc (.cells #[.int .i64 t, .slice A1 n1 c1] prT)) M (valS kind (rs.take (k + 1))) ∧ M.length ≤ k + 1 from by
          obtain ⟨hlow, M, ho, hr, hM⟩ := HS.out
          exact ⟨hlow.trans (hb1.mono hlow.size), M, ho.below hb1, by rw [hst]; exact hr.keep (K8.below hb1), by omega⟩)
        clear hst hy hb hb1 HS ht
        go_wp2_with fail
        go_roundw
        case rel => exact ⟨k + 1, y, rfl, by go_num, by omega, HN⟩
        case measure => simp [intOf]; omega
    · obtain rfl : k = n := by omega
      obtain ⟨hlow, M, ho, hr, hM⟩ := HS.out
      rw [HE.out, List.take_length] at hr
      obtain ⟨A', c', rfl, -⟩ := ho.form
      have HF := Lib.hid (ho.vls hr)
      have HB := Lib.hid hlow
      clear ho hr hlow hM HS
      go_wp2_with fail
      go_ret
      exact ⟨_, _, _, rfl, HF.out, HB.out⟩
end Go.Proofs.Ytamkegnnlbefdab
