/- Contract of package nat's Text. Contract of the reference's Make. Contracts of package nat: Uint64, Bits. -/
import Derived.Test.YthfjbpbgnoonpaaGreatDoorNB
import Derived.Test.YthfjbpbgnoonpaaGreatDoorShelf
import Derived.Lib.OwnBridge
import Derived.Lib.SmallJoins
import Derived.Lib.AppendIntMem
import Derived.Deep.RegionWith
import Derived.IntWalk
namespace Go.Proofs.YthfjbpbgnoonpaaGreatDoor
open Go.RowKit Go.Lib Go.Sort

theorem infoStr : (Tryz.prog.info? 9).map (fun i => (i.zero, i.size, i.bytes)) = some (some (.string ⟨#[]⟩), 1, 16) := by kernel_rfl
/-- The library's table of powers of ten is as it was laid. -/
def Tab (w : World) : Prop := Lib.TabIs Tryz.prog w "internal/strconv.uint64pow10" .u64 Lib.pow10Tab
theorem tab_global : Tryz.prog.globalNamed "internal/strconv.uint64pow10" = some 2 := by kernel_rfl
theorem Tab.below {w w' : World} (h : Tab w) (hb : Below w.heap.size w w') : Tab w' := Joins.tab_stays tab_global h hb (Nat.le_refl _)

theorem tab_lt {w : World} (h : Tab w) : 2 < w.heap.size := by
  unfold Tab Lib.TabIs World.var? at h
  rw [tab_global] at h
  rcases Nat.lt_or_ge 2 w.heap.size with hlt | hge
  · exact hlt
  · simp [Array.getElem?_eq_none hge] at h
theorem tab_grown {w w' : World} {g : Nat} (h : Tab w) (hg : w.grownBy w' (some g)) (hne : 2 ≠ g) : Tab w' := by
  have hl := tab_lt h
  unfold Tab Lib.TabIs World.var? at h ⊢
  rw [tab_global] at h ⊢
  simp only [Option.bind_some] at h ⊢
  rw [hg.block _ hl (by simpa using hne)]
  exact h
def zeros (n : Nat) : List UInt8 := List.replicate n 48
/-- A text's parts: strings in a row of the call's own. -/
def OwnS (base : Nat) (w : World) (v : Value) (ps : List (List UInt8)) : Prop := w.ownsRow base 9 1 v ps.length (ps.map encStr)
theorem run_field (A : Option Addr) (n c : Nat) (w : World) : (Instr.field 28 (.agg #[.slice A n c]) 0).run Tryz.prog w = .ok (.slice A n c) w := by kernel_rfl
theorem size_u32 (w : World) : (Go.sizeOf 90).run Tryz.prog w = .ok 1 w := by kernel_rfl

theorem clone_any {A : Option Addr} {n c : Nat} {ds : List Nat} {w : World} (hn : n = ds.length) (hlen : ds.length ≤ 1000000) (hA : CellsT w 90 A ds.length (u32f ds)) :
    Calls Tryz.prog 58 #[.slice A n c] w fun e w' => ∃ v', e = .returned v' ∧ OwnU w.heap.size w' v' ds ∧ Below w.heap.size w w' := by
  subst hn
  obtain ⟨i0, hi, hz0, hz1, hz2⟩ := info_parts infoU32
  rcases hA.1 with rfl | ⟨g, rfl⟩
  · have hds : ds = [] := by
      rcases Nat.eq_zero_or_pos ds.length with h | h
      · exact List.eq_nil_of_length_eq_zero h
      · obtain ⟨_, h1, _⟩ := hA.2 0 h
        cases h1
    subst hds
    refine (Tryz.slices_Clone_nil 0 c w).mono ?_
    rintro e w' ⟨rfl, rfl⟩
    exact ⟨_, rfl, OwnU.nil _ _, Below.refl _ _⟩
  · refine (Tryz.slices_Clone i0 _ 1 4 hi hz0 hz1 hz2 rfl (by omega) size_u32 g 0 ds.length c (ds.map encU) w (by simp) (by simp [maxLen]; omega) (by omega) ?_ ?_).mono ?_
    · intro j u hu
      rw [Nat.zero_add]
      rw [map_vals_U] at hu
      obtain ⟨hj, rfl⟩ := vals_inv _ _ _ _ hu
      obtain ⟨g', h1, _, h3⟩ := hA.2 j hj
      obtain rfl : g = g' := by simpa using h1
      exact h3
    · intro u hu
      obtain ⟨d, _, rfl⟩ := List.mem_map.1 hu
      rfl
    · rintro e w' ⟨v', rfl, h1, _, h3⟩
      exact ⟨v', rfl, h1, h3⟩

theorem own_ne_row {w : World} {base g N : Nat} {v : Value} {ps : List (List UInt8)} {f : Nat → Value} (h : OwnS base w v ps) (hr : Row w g 90 N f) : v.ownBlock ≠ some g := by
  rcases h.2 with ⟨rfl, _⟩ | ⟨g', cap, cur, rfl, _, hh, _⟩
  · simp [Value.ownBlock]
  · intro he
    have : g' = g := by simpa [Value.ownBlock] using he
    subst this
    unfold Row at hr
    rw [hr] at hh
    injection hh with hh
    injection hh with _ ht _
    cases ht
theorem ownS_grown {w w' : World} {base g : Nat} {v : Value} {ps : List (List UInt8)} (h : OwnS base w v ps) (hg : w.grownBy w' (some g)) (hne : v.ownBlock ≠ some g) : OwnS base w' v ps := World.ownsRow.kept h hg (.inr hne)
theorem ownS_below {w w' : World} {base : Nat} {v : Value} {ps : List (List UInt8)} (h : OwnS base w v ps) (hb : Below w.heap.size w w') : OwnS base w' v ps := by
  refine World.ownsRow.kept h (row := none) ⟨hb.os, hb.tape, hb.output, hb.size, fun k hk _ => hb.block k hk⟩ ?_
  rcases ho : v.ownBlock with _ | k
  · exact .inl rfl
  · exact .inr (by simp)
theorem ownS_len {base : Nat} {w : World} {v : Value} {ps : List (List UInt8)} (h : OwnS base w v ps) : ∃ A c, v = .slice A ps.length c := own_slice h
theorem below_of_grown {B : Nat} {a w w' : World} {g : Nat} (h : Below B a w) (hB : B ≤ w.heap.size) (hg : w.grownBy w' (some g)) (hBg : B ≤ g) : Below B a w' := h.grown hg hB (fun k hk => by cases hk; exact hBg)
theorem parts_bound (m k k0 L : Nat) (h : 2 ^ (29 * m) * k ≤ k0) (hk : 0 < k) (h0 : k0 < 4294967296 ^ L) (hL : L ≤ 1000) : m ≤ 1103 := by
  have h1 : 2 ^ (29 * m) * 1 ≤ 2 ^ (29 * m) * k := Nat.mul_le_mul_left _ hk
  have h2 : (4294967296 : Nat) ^ L = 2 ^ (32 * L) := by rw [show (4294967296 : Nat) = 2 ^ 32 from rfl, ← Nat.pow_mul]
  rw [h2] at h0
  have h3 : 2 ^ (29 * m) < 2 ^ (32 * L) := by omega
  have := (Nat.pow_lt_pow_iff_right (by omega : 1 < 2)).1 h3
  omega
theorem parts_next (m k k0 : Nat) (h : 2 ^ (29 * m) * k ≤ k0) : 2 ^ (29 * (m + 1)) * (k / 1000000000) ≤ k0 := by
  have h1 : 536870912 * (k / 1000000000) ≤ k := by omega
  have h2 : 2 ^ (29 * (m + 1)) = 2 ^ (29 * m) * 536870912 := by rw [Nat.mul_add, Nat.pow_add]
  rw [h2, Nat.mul_assoc]
  exact Nat.le_trans (Nat.mul_le_mul_left _ h1) h

theorem wpList_append_S {w : World} {ops : Array Oper} {rest : List Oper} {o : Oper} {a : Act} {Q : Exit → Act → World → Prop} (hgd : o.guard = none) (s x : Operand) (t : TypeId)
    (ho : o.op = .call { callee := .builtin .append, args := #[s, x], argTypes := #[t, t] }) (ht : Tryz.prog.underlying t = some (.slice 9))
    (base : Nat) (v : Value) (ps : List (List UInt8)) (hs : a.eval s = v) (hown : OwnS base w v ps) (l : List UInt8)
    (hx : a.eval x = .slice (some ⟨w.heap.size, 0, none⟩) 1 1) (hlen : ps.length ≤ 1000000) (hbase : base ≤ w.heap.size)
    (h : ∀ v' w', Hid (OwnS base w' v' (ps ++ [l])) → Hid ((w.alloc (.cells #[.string ⟨l.toArray⟩] 9)).grownBy w' v.ownBlock) → wpList Tryz.prog ops Q rest (a.put o.dst v') w') :
    wpList Tryz.prog ops Q (o :: rest) a (w.alloc (.cells #[.string ⟨l.toArray⟩] 9)) := by
  obtain ⟨i0, hi, hz0, hz1, hz2⟩ := info_parts infoStr
  have hc : Cells (w.alloc (.cells #[.string ⟨l.toArray⟩] 9)) (w.heap.size + 1) (some ⟨w.heap.size, 0, none⟩) 1 (fun _ => .string ⟨l.toArray⟩) :=
    cells_alloc w _ _ _ rfl (Nat.lt_succ_self _) (fun i hi => by obtain rfl : i = 0 := by omega
                                                                 rfl)
  refine wpList_append_cells (w.alloc (.cells #[.string ⟨l.toArray⟩] 9)) hgd s x t t ho base 9 9 i0 _ 16 ht ht hi hz0 hz1 hz2 rfl v ps.length (ps.map encStr) hs (World.ownsRow.alloc hown _) (w.heap.size + 1) _ 1 1 _ hx hc (fun _ _ => rfl) (by simp [maxLen]; omega) (by omega) (by simp; omega) ?_
  intro v' w' h1 h2 _
  refine h v' w' ?_ h2
  unfold Hid OwnS
  simpa [vals] using h1

/-- What holds at the head of Text's loop: k is still to be written, ps has been (the last part first), and the row of the rest is known. -/
def TextI (w : World) (k0 k : Nat) (ps : List (List UInt8)) (vp vr : Value) (W : World) : Prop :=
  ∃ A c g N f, vr = .slice A (digs 4294967296 k).length c ∧ (digs 4294967296 k).length ≤ c ∧ (digs 4294967296 k).length ≤ 1000 ∧ (0 < k → A = some ⟨g, 0, none⟩) ∧ (0 < k → (digs 4294967296 k).length ≤ N ∧ Row W g 90 N f ∧ w.heap.size + 1 ≤ g ∧ (∀ i, i < (digs 4294967296 k).length → f i = u32f (digs 4294967296 k) i)) ∧
    OwnS (w.heap.size + 1) W vp ps ∧ (0 < k → dec k0 = dec k ++ ps.reverse.flatten) ∧ (k = 0 → 0 < k0 → dec k0 = ps.reverse.flatten) ∧ (k0 = 0 → ps = []) ∧ (ps = [] → k = k0) ∧ 2 ^ (29 * ps.length) * k ≤ k0 ∧ ps.length ≤ 1104 ∧ Below w.heap.size w W ∧ w.heap.size + 1 ≤ W.heap.size

theorem row_of_own {base : Nat} {W : World} {g n c : Nat} {ds : List Nat} (h : OwnU base W (.slice (some ⟨g, 0, none⟩) n c) ds) : ∃ N f, n ≤ c ∧ n ≤ N ∧ Row W g 90 N f ∧ ∀ i, i < n → f i = u32f ds i := by
  obtain rfl := h.len
  have h0 := h
  rcases h.2 with ⟨e, _⟩ | ⟨g', cap, cur, e, _, hh, hnc, _, hcs, _⟩
  · cases e
  · obtain ⟨e1, _, rfl⟩ := Value.slice.inj e
    obtain rfl : g = g' := by simpa using e1
    refine ⟨cur.size, fun i => cur[i]?.getD undef, hnc, by omega, ?_, ?_⟩
    · unfold Row
      rw [hh]
      congr 2
      apply Array.ext
      · simp [vals_len]
      · intro i h1 h2
        simp [vals, h1]
    · intro i hi
      have h1 := h0.cell hi
      rw [cell_of_row W g i cur 90 (0, 0) hh] at h1
      show cur[i]?.getD undef = _
      rw [h1]
      rfl
theorem natText_start {w w1 : World} {k0 : Nat} {A : Option Addr} {c : Nat} {v1 : Value} (hlen : (digs 4294967296 k0).length ≤ 1000)
    (hown : OwnU (w.alloc (.cells #[.slice A (digs 4294967296 k0).length c] 28)).heap.size w1 v1 (digs 4294967296 k0))
    (hb : Below (w.alloc (.cells #[.slice A (digs 4294967296 k0).length c] 28)).heap.size (w.alloc (.cells #[.slice A (digs 4294967296 k0).length c] 28)) w1) : TextI w k0 k0 [] (.slice none 0 0) v1 w1 := by
  have hsz : (w.alloc (.cells #[.slice A (digs 4294967296 k0).length c] 28)).heap.size = w.heap.size + 1 := by simp
  have hlow : Below w.heap.size w w1 := ((Below.refl _ w).alloc (Nat.le_refl _) _).trans (hb.mono (by omega))
  have hs1 : w.heap.size + 1 ≤ w1.heap.size := by have := hb.size; omega
  rw [hsz] at hown
  by_cases hk : 0 < k0
  · have hlp : 0 < (digs 4294967296 k0).length := by rw [digs_pos 4294967296 k0 (by omega) hk]; simp
    obtain ⟨g, cap, rfl, hbg, _⟩ := hown.form hlp
    obtain ⟨N, f, h1, h2, h3, h4⟩ := row_of_own hown
    exact ⟨_, cap, g, N, f, rfl, h1, hlen, fun _ => rfl, fun _ => ⟨h2, h3, hbg, h4⟩, World.ownsRow_nil _ _ _ _, fun _ => by simp, fun h => by omega, fun h => by omega, fun _ => rfl, by simp, by simp, hlow, hs1⟩
  · obtain rfl : k0 = 0 := by omega
    obtain ⟨b, cc, rfl⟩ := hown.slice
    exact ⟨b, cc, 0, 0, fun _ => undef, rfl, by simp [digs_zero], hlen, fun h => by omega, fun h => by omega, World.ownsRow_nil _ _ _ _, fun h => by omega, fun _ h => by omega, fun _ => rfl, fun _ => rfl, by simp, by simp, hlow, hs1⟩
theorem join_flat : ∀ ps : List (List UInt8), Lib.join ps [] = ps.flatten
  | [] => rfl
  | p :: ps => by
    rw [Lib.join_cons]
    unfold Lib.joinTail
    simp
theorem dec_bound {k : Nat} (hlen : (digs 4294967296 k).length ≤ 1000) : (dec k).length ≤ 10001 := by
  have h1 := val_lt (b := 4294967296) (digs 4294967296 k) (digs_lt (by omega) k)
  rw [val_digs (by omega)] at h1
  have h2 : 4294967296 ^ (digs 4294967296 k).length ≤ (10 ^ 10) ^ (digs 4294967296 k).length := Nat.pow_le_pow_left (by omega) _
  rw [← Nat.pow_mul] at h2
  have h3 := (dec_len k (10 * (digs 4294967296 k).length + 1) (by omega) (Nat.lt_of_lt_of_le (Nat.lt_of_lt_of_le h1 h2) (Nat.pow_le_pow_right (by omega) (by omega)))).1
  omega
theorem flat_snoc (ps : List (List UInt8)) (p : List UInt8) : (ps ++ [p]).reverse.flatten = p ++ ps.reverse.flatten := by simp
/-- A round of Text's loop. -/
theorem text_rel {w W5 W4 : World} {k0 k r g N : Nat} {ps : List (List UInt8)} {p : List UInt8} {qs : List Nat} {f f1 : Nat → Value} {vp v' : Value}
    (hd1 : dec k0 = dec k ++ ps.reverse.flatten) (_hd3 : k0 = 0 → ps = []) (hpw : 2 ^ (29 * ps.length) * k ≤ k0) (hrk : r = k % 1000000000 ∧ val 4294967296 qs = k / 1000000000)
    (hf1 : ∀ i, f1 i = if i < (digs 4294967296 k).length then .int .u32 (qs.getD i 0 : Nat) else f i) (hql : qs.length = (digs 4294967296 k).length) (hqd : ∀ q ∈ qs, q < 4294967296)
    (hlen : (digs 4294967296 k0).length ≤ 1000) (_hpl : ps.length ≤ 1104) (hN : (digs 4294967296 k).length ≤ N) (hgw : w.heap.size + 1 ≤ g) (hk : 0 < k)
    (hrow : Row W4 g 90 N f1) (hown : OwnS (w.heap.size + 1) W4 vp ps) (hlow : Below w.heap.size w W4) (hs : w.heap.size + 1 ≤ W4.heap.size)
    (hown5 : OwnS (w.heap.size + 1) W5 v' (ps ++ [p])) (hgr5 : (W4.alloc (.cells #[.string ⟨p.toArray⟩] 9)).grownBy W5 vp.ownBlock)
    (hp1 : 0 < k / 1000000000 → p = pad9 r) (hp2 : k / 1000000000 = 0 → p = dec r) :
    TextI w k0 (k / 1000000000) (ps ++ [p]) v' (.slice (some ⟨g, 0, none⟩) (digs 4294967296 (k / 1000000000)).length (digs 4294967296 (k / 1000000000)).length) W5 := by
  have hsq : strip qs = digs 4294967296 (k / 1000000000) := by rw [strip_digs (b := 4294967296) (by omega) qs hqd, hrk.2]
  have hle : (digs 4294967296 (k / 1000000000)).length ≤ (digs 4294967296 k).length := by rw [← hsq, ← hql]; exact strip_le qs
  have hk0 : k ≤ k0 := by
    have : 2 ^ (29 * ps.length) * k ≥ 1 * k := Nat.mul_le_mul_right _ (Nat.pow_pos (by omega))
    omega
  have hkl : (digs 4294967296 k).length ≤ (digs 4294967296 k0).length := by
    refine digs_len (by omega) (Nat.lt_of_le_of_lt hk0 ?_)
    have h1 := val_lt (b := 4294967296) (digs 4294967296 k0) (digs_lt (by omega) k0)
    rw [val_digs (by omega)] at h1
    exact h1
  have hb := parts_bound ps.length k k0 (digs 4294967296 k0).length hpw hk (by
    have h1 := val_lt (b := 4294967296) (digs 4294967296 k0) (digs_lt (by omega) k0)
    rw [val_digs (by omega)] at h1
    exact h1) hlen
  have hne := own_ne_row hown hrow
  have hrow5 : Row W5 g 90 N f1 := by
    have h1 := (Below.heap_alloc W4 (.cells #[.string ⟨p.toArray⟩] 9) g hrow.lt).trans hrow
    exact (hgr5.block g (by have := hrow.lt; simp; omega) (fun e => hne e.symm)).trans h1
  have hlow5 : Below w.heap.size w W5 := (hlow.alloc (by omega) _).grown hgr5 (by simp; omega) (fun b hb => by have := (World.ownsRow.lt hown b hb).1; omega)
  have hs5 : w.heap.size + 1 ≤ W5.heap.size := Nat.le_trans hs (Nat.le_trans (by simp) hgr5.size)
  have hkd : k = k / 1000000000 * 1000000000 + r := by rw [hrk.1]; omega
  refine ⟨_, _, g, N, f1, rfl, Nat.le_refl _, by omega, fun _ => rfl, fun _ => ⟨by omega, hrow5, hgw, fun i hi => ?_⟩, hown5, fun h => ?_, fun h _ => ?_, fun h => by omega, fun h => by simp at h, ?_, by simp; omega, hlow5, hs5⟩
  · rw [hf1, if_pos (by omega)]
    unfold u32f
    congr 2
    rw [← hsq, strip_take qs] at hi ⊢
    simp only [List.getD]
    rw [List.getElem?_take_of_lt (by simpa using (Nat.lt_of_lt_of_le hi (by rw [List.length_take]; exact Nat.min_le_left _ _)))]
  · rw [flat_snoc, hp1 h, hd1, ← List.append_assoc, ← dec_split _ _ h (by rw [hrk.1]; exact Nat.mod_lt _ (by omega)), ← hkd]
  · rw [flat_snoc, hp2 h, hd1]
    have : r = k := by omega
    rw [this]
  · rw [List.length_append]
    exact parts_next _ _ _ hpw

set_option maxRecDepth 100000 in
set_option maxHeartbeats 2000000 in
theorem natText_any {v : Value} {k0 : Nat} {w : World} (hlen : (digs 4294967296 k0).length ≤ 1000) (hT : Tab w) (hv : IsNat w v k0) :
    Calls Tryz.prog 19 #[v] w fun e w' => e = .returned (str (dec k0)) ∧ Below w.heap.size w w' := by
  obtain ⟨s, rfl, A, c, rfl, hc, hA⟩ := hv
  have hA1 := hA.step ((Below.refl _ _).alloc (Nat.le_refl _) (.cells #[.slice A (digs 4294967296 k0).length c] 28))
  have hfld := run_field
  go_enter Tryz.func19, Tryz.ntmps19
  go_wp2_with fail
  refine (clone_any rfl (by omega) hA1).mono ?_
  rintro e w1 ⟨v1, rfl, hown1, hb1⟩
  go_wp2_with fail
  have hT0 : TextI w k0 k0 [] (.slice none 0 0) v1 w1 := natText_start hlen hown1 hb1
  go_loopw [3, 4, 5] (fun vp vr _ wr => ∃ (k : Nat) (ps : List (List UInt8)), TextI w k0 k ps vp vr wr) (fun vp _ _ _ => match vp with | .slice _ m _ => 1200 - m | _ => 0)
  case atStart => exact ⟨k0, [], hT0⟩
  case round =>
    obtain ⟨k, ps, A2, c2, g, N, f, rfl, hc2, hl2, hA2, hR, hown, hd1, hd2, hd3, hd4, hpw, hpl, hbw, hsz⟩ := hrel
    by_cases hk : 0 < k
    · have hlp : 0 < (digs 4294967296 k).length := by rw [digs_pos 4294967296 k (by omega) hk]; simp
      obtain rfl := hA2 hk
      obtain ⟨hN, hrow, hgw, hf⟩ := hR hk
      have Hd1 := Lib.hid (hd1 hk)
      have Hd3 := Lib.hid hd3
      have Hf := Lib.hid hf
      have Hpw := Lib.hid hpw
      clear hd1 hd2 hd3 hd4 hA2 hR hf hpw hT0
      have hTr : Tab wr := hT.below hbw
      go_wp2_with fail
      refine (divideByDigit_any 1000000000 (ds := digs 4294967296 k) (N := N) (f := f) (g := g) (by omega) (by omega) (digs_lt (by omega) k) (fun _ => rfl) hN hrow Hf.out).mono ?_
      rintro e W1 ⟨r, qs, f1, rfl, hr, hrow1, hf1, hql, hqd, hqv, hgr1⟩
      have hgG : 2 < w.heap.size := tab_lt hT
      have hTr1 : Tab W1 := tab_grown hTr hgr1 (by omega)
      have hrk : r = k % 1000000000 ∧ val 4294967296 qs = k / 1000000000 := by
        rw [val_digs (by omega)] at hqv
        omega
      have hsq : strip qs = digs 4294967296 (k / 1000000000) := by rw [strip_digs (b := 4294967296) (by omega) qs hqd, hrk.2]
      have hIt : Calls Tryz.prog 59 #[.int .i64 (r : Int)] W1 fun e w' => e = .returned (.string ⟨(dec r).toArray⟩) ∧ Below W1.heap.size W1 w' := by
        refine (Tryz.strconv_Itoa _ (by omega) (by omega) _ hTr1).mono ?_
        rintro e w' ⟨rfl, kk, os, rfl⟩
        rw [itoa_dec]
        exact ⟨rfl, Lib.below_grow _ _ (Nat.le_refl _) _ _⟩
      have hDL := dec_len r 9 (by omega) hr
      have Hrk := Lib.hid hrk
      have Hsq := Lib.hid hsq
      have Hf1 := Lib.hid hf1
      have Hql := Lib.hid hql
      have Hqd := Lib.hid hqd
      clear hrk hsq hf1 hql hqd hqv
      go_wp2_with fail
      refine hIt.mono ?_
      rintro e W2 ⟨rfl, hb2⟩
      have hrow2 : Row W2 g 90 N f1 := hrow1.below hb2 hrow1.lt
      have hFD : Calls Tryz.prog 61 #[.slice (some ⟨g, 0, none⟩) (digs 4294967296 k).length c2] W2 fun e w' => e = .returned (.agg #[.slice (some ⟨g, 0, none⟩) (digs 4294967296 (k / 1000000000)).length (digs 4294967296 (k / 1000000000)).length]) ∧ Below W2.heap.size W2 w' := by
        rw [← Hql.out, ← Hsq.out]
        refine fromDigits_any (by rw [Hql.out]; omega) (by rw [Hql.out]; exact hc2) ?_
        exact (hrow2.cells.less (by rw [Hql.out]; exact hN)).same fun i hi => by rw [Hf1.out, if_pos (by rw [← Hql.out]; exact hi)]; rfl
      go_wp2_with fail
      refine hFD.mono ?_
      rintro e W3 ⟨rfl, hb3⟩
      have hrow3 : Row W3 g 90 N f1 := hrow2.below hb3 hrow2.lt
      have hown3 : OwnS (w.heap.size + 1) W3 u3 ps := ownS_below (ownS_below (ownS_grown hown hgr1 (own_ne_row hown hrow)) hb2) hb3
      have hlow3 : Below w.heap.size w W3 := ((below_of_grown hbw (by omega) hgr1 (by omega)).trans (hb2.mono (by have := hbw.size; have := hgr1.size; omega))).trans (hb3.mono (by have := hbw.size; have := hgr1.size; have := hb2.size; omega))
      have hs3 : w.heap.size + 1 ≤ W3.heap.size := by have := hgr1.size; have := hb2.size; have := hb3.size; omega
      clear hIt hFD hTr hTr1 hrow hrow1 hrow2 hown hbw hsz hgr1 hb2 hb3
      obtain ⟨A3, c3, rfl⟩ := ownS_len hown3
      by_cases hk' : 0 < k / 1000000000
      · have hlp' : 0 < (digs 4294967296 (k / 1000000000)).length := by rw [digs_pos 4294967296 _ (by omega) hk']; simp
        have hRep : Calls Tryz.prog 62 #[.string ⟨#[48]⟩, .int .i64 (9 - ((dec r).length : Int))] W3 fun e w' => e = .returned (.string ⟨(zeros (9 - (dec r).length)).toArray⟩) ∧ Below W3.heap.size W3 w' := by
          rw [show (9 - ((dec r).length : Int)) = ((9 - (dec r).length : Nat) : Int) by omega]
          refine (Tryz.strings_Repeat ⟨#[48]⟩ (9 - (dec r).length) W3 (by omega) (by simp [ByteArray.size]; omega)).mono ?_
          rintro e w' ⟨rfl, hb⟩
          rw [show (⟨#[48]⟩ : ByteArray).data.toList = [48] from rfl, repeat_zero]
          exact ⟨rfl, hb⟩
        have hadd : ∀ W : World, (Op.stringOp .add ⟨(zeros (9 - (dec r).length)).toArray⟩ ⟨(dec r).toArray⟩).run Tryz.prog W = .ok (.string ⟨(pad9 r).toArray⟩) W := by
          intro W
          have h2 := run_string_add_sum (P := Tryz.prog) W ⟨(zeros (9 - (dec r).length)).toArray⟩ ⟨(dec r).toArray⟩ (by simp [ByteArray.size, zeros]; omega)
          have h3 : ((⟨(zeros (9 - (dec r).length)).toArray⟩ : ByteArray) ++ ⟨(dec r).toArray⟩) = ⟨(pad9 r).toArray⟩ := by
            apply ByteArray.ext
            simp [ByteArray.data_append, pad9, zeros]
          rw [h3] at h2
          exact h2
        go_wp2_with fail
        refine hRep.mono ?_
        rintro e W4 ⟨rfl, hb4⟩
        have hown4 : OwnS (w.heap.size + 1) W4 (.slice A3 ps.length c3) ps := ownS_below hown3 hb4
        have hrow4 := hrow3.below hb4 hrow3.lt
        have hlow4 : Below w.heap.size w W4 := hlow3.trans (hb4.mono (by omega))
        have hs4 : w.heap.size + 1 ≤ W4.heap.size := by have := hb4.size; omega
        clear hRep hown3 hrow3 hlow3 hs3 hb4
        go_wp2_with (at_builtin; go_loud (refine wpList_append_S rfl (.tmp 28) (.tmp 30) _ rfl Tryz.underlying88 (w.heap.size + 1) _ ps rfl hown4 (pad9 r) rfl (by omega) (by omega) ?_; intro v' w5 hown5 hgr5))
        obtain ⟨A5, c5, rfl⟩ := ownS_len hown5.out
        go_roundw
        case rel => exact ⟨k / 1000000000, ps ++ [pad9 r], text_rel Hd1.out Hd3.out Hpw.out Hrk.out Hf1.out Hql.out Hqd.out hlen hpl hN hgw hk hrow4 hown4 hlow4 hs4 hown5.out hgr5.out (fun _ => rfl) (by intro h; omega)⟩
        case measure => simp; omega
      · have hkz : k / 1000000000 = 0 := by omega
        rw [hkz]
        go_wp2_with (at_builtin; go_loud (refine wpList_append_S rfl (.tmp 28) (.tmp 30) _ rfl Tryz.underlying88 (w.heap.size + 1) _ ps rfl hown3 (dec r) rfl (by omega) (by omega) ?_; intro v' w5 hown5 hgr5))
        obtain ⟨A5, c5, rfl⟩ := ownS_len hown5.out
        have hrel := text_rel Hd1.out Hd3.out Hpw.out Hrk.out Hf1.out Hql.out Hqd.out hlen hpl hN hgw hk hrow3 hown3 hlow3 hs3 hown5.out hgr5.out (by intro h; omega) (fun _ => rfl)
        rw [hkz] at hrel
        have HREL := Lib.hid hrel
        clear hrel
        go_roundw
        case rel => exact ⟨0, ps ++ [dec r], HREL.out⟩
        case measure => simp; omega
    · obtain rfl : k = 0 := by omega
      have HF : Hid (dec k0 = if ps = [] then dec 0 else ps.reverse.flatten) := by
        unfold Hid
        split
        · rename_i h; rw [← hd4 h]
        · rename_i h
          exact hd2 rfl (by rcases Nat.eq_zero_or_pos k0 with h0 | h0
                            · exact absurd (hd3 h0) h
                            · exact h0)
      clear hd1 hd2 hd3 hd4 hA2 hR hpw hT0
      obtain ⟨A3, c3, rfl⟩ := ownS_len hown
      by_cases hps : ps = []
      · subst hps
        go_wp2_with fail
        go_ret
        refine ⟨?_, hbw⟩
        have := HF.out
        rw [if_pos trivial] at this
        rw [this]
        rfl
      · have hpp : 0 < ps.length := List.length_pos_iff.2 hps
        have hb0 : ((ps.length : Int) == 0) = false := beq_eq_false_iff_ne.2 (by omega)
        obtain ⟨g, cap, hsl, hbg, hgl, hcap, hcm, hpl2, hH⟩ := holds_of_ownsRow hown (by intro e; injection e with _ e _; omega)
        obtain ⟨rfl, _, rfl⟩ := Value.slice.inj hsl
        have hdk : dec k0 = ps.reverse.flatten := by have := HF.out; rw [if_neg hps] at this; exact this
        have hJ : ∀ n : Nat, Calls Tryz.prog 64 #[.slice (some ⟨g, 0, none⟩) ps.length c3, .string ⟨#[]⟩] (Sort.putRow encStr (Sort.ahead wr n) g 0 ps.reverse.toArray) fun e w' => e = .returned (str (dec k0)) ∧ Below w.heap.size w w' := by
          intro n
          have hrow := ownsRow_putRow (q := n) (ys := ps.reverse) hown (by simp) (Nat.le_refl _)
          have hbel := below_putRow (enc := encStr) (q := n) (d := ps.reverse.toArray) hbw (show w.heap.size ≤ g by omega)
          have hxl : (ps.reverse.map fun l => (⟨l.toArray⟩ : ByteArray)).length = ps.length := by simp
          have hmm : (ps.reverse.map fun l => (⟨l.toArray⟩ : ByteArray)).map (·.data.toList) = ps.reverse := by
            rw [List.map_map]
            exact (List.map_congr_left fun l _ => rfl).trans (List.map_id _)
          have hjoin : Lib.join ((ps.reverse.map fun l => (⟨l.toArray⟩ : ByteArray)).map (·.data.toList)) (⟨#[]⟩ : ByteArray).data.toList = dec k0 := by
            rw [hmm, hdk]
            exact join_flat _
          have := Tryz.strings_Join g 0 c3 (ps.reverse.map fun l => (⟨l.toArray⟩ : ByteArray)) ⟨#[]⟩ (Sort.putRow encStr (Sort.ahead wr n) g 0 ps.reverse.toArray) ?_ (by simp; omega) (by rw [hxl]; omega) (by rw [hxl]; exact hcap) (by rw [hjoin]; have := dec_bound hlen; omega)
          · rw [hjoin, hxl] at this
            refine this.mono ?_
            rintro e w' ⟨rfl, hb⟩
            refine ⟨rfl, hbel.trans (hb.mono ?_)⟩
            simp only [Sort.size_putRow]
            show w.heap.size ≤ wr.heap.size
            omega
          · intro j x hx
            have hj : j < ps.length := by
              have := (List.getElem?_eq_some_iff.1 hx).1
              rw [hxl] at this
              exact this
            rw [Nat.zero_add, World.ownsRow.cellAt hrow j (by omega)]
            rw [List.take_of_length_le (by simp)]
            simp only [List.getElem?_map] at hx ⊢
            cases hy : ps.reverse[j]? with
            | none => rw [hy] at hx; cases hx
            | some y => rw [hy] at hx; cases hx; rfl
        have hRv := Tryz.slices_Reverse_string g 0 c3 ps wr hH (by omega)
        clear hown hH hsl HF hdk hps
        go_wp2_with fail
        refine hRv.mono ?_
        rintro e W1 ⟨rfl, n, rfl⟩
        go_wp2_with fail
        refine (hJ n).mono ?_
        rintro e W2 ⟨rfl, hb2⟩
        go_wp2_with fail
        go_ret
        exact ⟨rfl, hb2⟩
end Go.Proofs.YthfjbpbgnoonpaaGreatDoor

namespace Go.Proofs.YthfjbpbgnoonpaaGreatDoor
open Go.RowKit

/-- A slice that came in and reads as digits. -/
def LA (w : World) (v : Value) (ds : List Nat) : Prop := ∃ A c, v = .slice A ds.length c ∧ Cells w w.heap.size A ds.length (u32f ds)
theorem LA.below {w w' : World} {v : Value} {ds : List Nat} (h : LA w v ds) (hb : Below w.heap.size w w') : LA w' v ds := by
  obtain ⟨A, c, h1, h3⟩ := h
  exact ⟨A, c, h1, h3.step hb hb.size⟩
theorem digs6_len {k n : Nat} (h : k < 4294967296 ^ n) : (digs 1000000 k).length ≤ 2 * n := by
  refine digs_len (by omega) (Nat.lt_of_lt_of_le h ?_)
  rw [Nat.pow_mul]
  exact Nat.pow_le_pow_left (by omega) n

/-- times, Of and Add on numbers. -/
theorem times_num {v : Value} {k : Nat} {w : World} (hlen : (digs 1000000 k).length ≤ 1000000) (m : Int) (h0 : 0 ≤ m) (hm : m ≤ 4294967296) (hv : LI w v (digs 1000000 k)) :
    Calls Tryz.prog 86 #[v, .int .i64 m] w (NewI w (digs 1000000 (k * m.toNat))) := by
  have := times_any m hlen (digs_lt (by omega) k) h0 hm hv
  rw [val_digs (by omega)] at this
  exact this
theorem refAdd_num {u v : Value} {x y : Nat} {w : World} (hx : (digs 1000000 x).length ≤ 100000) (hy : (digs 1000000 y).length ≤ 100000) (hu : LI w u (digs 1000000 x)) (hv : LI w v (digs 1000000 y)) :
    Calls Tryz.prog 79 #[u, v] w (NewI w (digs 1000000 (x + y))) := by
  have := refAdd_any hx hy (digs_lt (by omega) x) (digs_lt (by omega) y) hu hv
  rw [val_digs (by omega), val_digs (by omega)] at this
  exact this
theorem LI.drewN {w : World} {v : Value} {ds : List Nat} (h : LI w v ds) (k : Nat) : LI (w.drewN k) v ds := h
theorem LI.drew {w : World} {v : Value} {ds : List Nat} (h : LI w v ds) : LI w.drew v ds := h

set_option maxRecDepth 100000 in
set_option maxHeartbeats 2000000 in
theorem make_any {v : Value} {ds : List Nat} {w : World} (hlen : ds.length ≤ 12) (hd : ∀ d ∈ ds, d < 4294967296) (hv : LA w v ds) :
    Calls Tryz.prog 51 #[v] w (NewI w (digs 1000000 (val 4294967296 ds))) := by
  obtain ⟨A, c, rfl, hA⟩ := hv
  have HD := Lib.hid hd
  clear hd
  go_enter Tryz.func51, Tryz.ntmps51
  go_wp2
  have hst : LI (w.alloc (.cells #[] 3)) (.slice (some ⟨w.heap.size, 0, none⟩) 0 0) [] := ⟨_, 0, rfl, Nat.le_refl _, Cells.zero⟩
  go_loopw [3, 4] (fun o i wr => ∃ (ni k : Nat), i = .int .i64 ni ∧ ni ≤ ds.length ∧ k = val 4294967296 (ds.drop (ds.length - ni)) ∧ LI wr o (digs 1000000 k) ∧ Below w.heap.size w wr) (fun _ i _ => ds.length - (intOf i).toNat)
  case atStart => exact ⟨0, 0, rfl, by omega, by simp [val], by rw [digs_zero]; exact hst, (Below.refl _ _).alloc (Nat.le_refl _) _⟩
  case round =>
    obtain ⟨i, k, rfl, hi, hk, hL, hbw⟩ := hrel
    by_cases hlt : i < ds.length
    · obtain ⟨a, rfl, hab, hcell⟩ := hA (ds.length - 1 - i) (by omega)
      obtain ⟨d, hdd⟩ : ∃ d : Nat, d = ds.getD (ds.length - 1 - i) 0 := ⟨_, rfl⟩
      have hd1 : d < 4294967296 := by rw [hdd]; exact getD_lt HD.out _ (by omega)
      have hdr : val 4294967296 (ds.drop (ds.length - (i + 1))) = k * 4294967296 + d := by
        rw [show ds.length - (i + 1) = ds.length - 1 - i by omega, drop_cons ds (ds.length - 1 - i) (by omega), show ds.length - 1 - i + 1 = ds.length - i by omega, hk, hdd]
        simp only [val]
        omega
      have hkl : k < 4294967296 ^ 12 := by
        have h1 := val_lt (b := 4294967296) (ds.drop (ds.length - i)) (fun d hd => HD.out d (List.mem_of_mem_drop hd))
        rw [← hk] at h1
        exact Nat.lt_of_lt_of_le h1 (Nat.pow_le_pow_right (by omega) (by rw [List.length_drop]; omega))
      have hk6 : (digs 1000000 k).length ≤ 24 := digs6_len hkl
      have hkk6 : (digs 1000000 (k * 4294967296)).length ≤ 26 := digs6_len (n := 13) (by rw [Nat.pow_succ]; exact Nat.mul_lt_mul_of_pos_right hkl (by omega))
      have hd6 : (digs 1000000 d).length ≤ 2 := digs6_len (n := 1) (by omega)
      have hcell' : wr.cell? (a.add (ds.length - 1 - i)) = some (.int .u32 d) := by rw [hbw.cell (by rw [add_block]; exact hab), hcell, hdd]; rfl
      have hsz := hbw.size
      have Hcell : ∀ W : World, Below wr.heap.size wr W → W.cell? (a.add (ds.length - 1 - i)) = some (.int .u32 d) := fun W hb => (hb.cell (by rw [add_block]; omega)).trans hcell'
      have HDR := Lib.hid hdr
      have HCELL := Lib.hid Hcell
      have HL := Lib.hid (fun W hb => LI.below (w' := W) hL hb)
      clear hdr hk hdd hcell hkl Hcell hL
      have hix : ((ds.length : Int) - 1 - (i : Int)) = ((ds.length - 1 - i : Nat) : Int) := by omega
      have hAdd := Lib.hid (fun (u v : Value) (W : World) hu hv => refAdd_num (x := k * 4294967296) (y := d) (u := u) (v := v) (w := W) (by omega) (by omega) hu hv)
      have hcd : wr.drew.cell? (a.add (ds.length - 1 - i)) = some (.int .u32 d) := hcell'
      have hb0 : 0 ≤ (ds.length : Int) - 1 - (i : Int) := by omega
      have hb1 : (ds.length : Int) - 1 - (i : Int) < ds.length := by omega
      have he1 : IntKind.i64.wrap ((ds.length : Int) - 1) = (ds.length : Int) - 1 := IntWalk.i64_in _ (by omega)
      have he2 : IntKind.i64.wrap ((ds.length : Int) - 1 - (i : Int)) = (ds.length : Int) - 1 - (i : Int) := IntWalk.i64_in _ (by omega)
      have he3 : ((ds.length : Int) - 1 - (i : Int)).toNat = ds.length - 1 - i := by omega
      have he4 : IntKind.u64.wrap (d : Int) = (d : Int) := IntWalk.u64_in _ (by omega)
      clear hix
      go_wp2_with fail
      go_region_with (first
        | (go_at_call 86; refine (times_num (by omega) 4294967296 (by omega) (by omega) (HL.out _ ?_)).mono ?_; (first | exact (Below.refl _ _).drew | exact hbO'); rintro e wT ⟨vT, rfl, hvT, hbT⟩; have hbT' : Below wr.heap.size wr wT := (by first | exact (Below.refl _ _).drew.trans hbT | exact hbO'.trans (hbT.mono hbO'.size)); have hcT := HCELL.out wT hbT')
        | (go_at_call 14; refine (refOf_any _ (by omega) (by omega)).mono ?_; rintro e wO ⟨vO, rfl, hvO, hbO⟩; rw [Int.toNat_natCast] at hvO; have hbO' : Below wr.heap.size wr wO := (by first | exact (Below.refl _ _).drew.trans hbO | exact hbT'.trans (hbO.mono hbT'.size)); have hcO := HCELL.out wO hbO')
        | (go_at_call 79; refine (hAdd.out _ _ _ ?_ ?_).mono ?_; (first | exact hvT | exact hvT.below hbO); (first | exact hvO | exact hvO.below hbT); rintro e wA ⟨vA, rfl, hvA, hbA⟩))
      all_goals (try go_wp2)
      all_goals
        go_roundw
        case rel => exact ⟨i + 1, k * 4294967296 + d, by go_num, by omega, HDR.out.symm, hvA, hbw.trans ((by first | exact (hbT'.trans (hbO.mono hbT'.size)).trans (hbA.mono (hbT'.trans (hbO.mono hbT'.size)).size) | exact (hbO'.trans (hbT.mono hbO'.size)).trans (hbA.mono (hbO'.trans (hbT.mono hbO'.size)).size) : Below wr.heap.size wr wA).mono hsz)⟩
        case measure => simp [intOf]; omega
    · obtain rfl : i = ds.length := by omega
      have hk' : Hid (val 4294967296 ds = k) := by
        unfold Hid
        rw [hk, Nat.sub_self]; rfl
      clear hk
      go_wp2
      go_ret
      exact ⟨_, rfl, by rw [hk'.out]; exact hL, hbw⟩
end Go.Proofs.YthfjbpbgnoonpaaGreatDoor

namespace Go.Proofs.YthfjbpbgnoonpaaGreatDoor
open Go.RowKit

theorem digs_one {k : Nat} (h0 : 0 < k) (h : k < 4294967296) : digs 4294967296 k = [k] := by
  rw [digs_pos 4294967296 k (by omega) h0, Nat.mod_eq_of_lt h, Nat.div_eq_of_lt h]; rfl
theorem digs_two {k : Nat} (h0 : 4294967296 ≤ k) (h : k < 18446744073709551616) : digs 4294967296 k = [k % 4294967296, k / 4294967296] := by
  rw [digs_pos 4294967296 k (by omega) (by omega), digs_one (by omega) (by omega)]
theorem digs_ab {a b : Nat} (ha : a < 4294967296) (hb : 0 < b) (hb2 : b < 4294967296) : digs 4294967296 (a + b * 4294967296) = [a, b] := by
  rw [digs_two (by omega) (by omega)]
  congr 1
  · omega
  · congr 1
    omega
theorem digs_more {k : Nat} (h : 18446744073709551616 ≤ k) : 2 < (digs 4294967296 k).length := by
  rw [digs_pos 4294967296 k (by omega) (by omega), digs_pos 4294967296 (k / 4294967296) (by omega) (by omega), digs_pos 4294967296 (k / 4294967296 / 4294967296) (by omega) (by omega)]
  simp
def U64Spec (k : Nat) : Ending := if k < 18446744073709551616 then .returned (.tuple #[.int .u64 (k : Int), .bool true]) else .returned (.tuple #[.int .u64 0, .bool false])

theorem u64_join (a b : Int) (ha : 0 ≤ a ∧ a < 4294967296) (hb : 0 ≤ b ∧ b < 4294967296) : bits BinOp.or IntKind.u64 a (b * 4294967296) = a + b * 4294967296 := by
  rw [u64_or _ _ ha.1 (by omega) (by omega) (by omega), Nat.or_comm, nat_join 32 _ _ (by omega) (by omega)]
  omega
theorem u64_zero (a : Int) (ha : 0 ≤ a ∧ a < 4294967296) : bits BinOp.or IntKind.u64 0 a = a := by
  rw [u64_or _ _ (by omega) (by omega) (by omega) (by omega)]
  simp
  omega

set_option maxRecDepth 100000 in
set_option maxHeartbeats 2000000 in
theorem uint64_any {v : Value} {k : Nat} {w : World} (hlen : (digs 4294967296 k).length ≤ 1000000) (hv : IsNat w v k) :
    Calls Tryz.prog 89 #[v] w fun e w' => e = U64Spec k ∧ Below w.heap.size w w' := by
  obtain ⟨s, rfl, A, c, rfl, hc, hA⟩ := hv
  have hA1 := hA.step ((Below.refl _ _).alloc (Nat.le_refl _) (.cells #[.slice A (digs 4294967296 k).length c] 28))
  have hb := (Below.refl w.heap.size w).alloc (Nat.le_refl _) (.cells #[.slice A (digs 4294967296 k).length c] 28)
  unfold U64Spec
  by_cases h2 : k < 18446744073709551616
  · rw [if_pos h2]
    by_cases h0 : k = 0
    · subst h0
      rw [digs_zero] at *
      simp only [List.length_nil] at *
      go_enter Tryz.func89, Tryz.ntmps89
      go_wp2
      refine wp_loop_rounds 1 ?_
      rw [rounds_succ]
      go_wp2
      go_ret2
      exact ⟨rfl, hb⟩
    · by_cases h1 : k < 4294967296
      · rw [digs_one (by omega) h1] at *
        simp only [List.length_cons, List.length_nil, Nat.zero_add] at *
        obtain ⟨g, rfl, _, hcell⟩ := hA1.2 0 (by omega)
        have hc0 : (w.alloc (.cells #[.slice (some ⟨g, 0, none⟩) 1 c] 28)).cell? ⟨g, 0, none⟩ = some (.int .u32 k) := hcell
        have hj := u64_zero (k : Int) (by omega)
        clear hA1 hA hcell
        go_enter Tryz.func89, Tryz.ntmps89
        go_wp2
        refine wp_loop_rounds 2 ?_
        rw [rounds_succ]
        go_wp2
        rw [rounds_succ]
        go_wp2
        go_ret2
        exact ⟨rfl, hb⟩
      · obtain ⟨a, b, rfl, hab⟩ : ∃ a b, k = a + b * 4294967296 ∧ a < 4294967296 ∧ b < 4294967296 ∧ 0 < b := ⟨k % 4294967296, k / 4294967296, by omega, by omega, by omega, by omega⟩
        rw [digs_ab hab.1 hab.2.2 hab.2.1] at *
        simp only [List.length_cons, List.length_nil, Nat.zero_add, Nat.reduceAdd] at *
        obtain ⟨g, rfl, _, hcell⟩ := hA1.2 0 (by omega)
        obtain ⟨g2, hg2, _, hcell2⟩ := hA1.2 1 (by omega)
        obtain rfl : g = g2 := by simpa using hg2
        have hc0 : (w.alloc (.cells #[.slice (some ⟨g, 0, none⟩) 2 c] 28)).cell? ⟨g, 0, none⟩ = some (.int .u32 a) := hcell
        have hc1 : (w.alloc (.cells #[.slice (some ⟨g, 0, none⟩) 2 c] 28)).cell? ⟨g, 1, none⟩ = some (.int .u32 b) := hcell2
        have hj := u64_zero (a : Int) (by omega)
        have hj2 := u64_join (a : Int) (b : Int) (by omega) (by omega)
        clear hA1 hA hcell hcell2 hg2
        go_enter Tryz.func89, Tryz.ntmps89
        go_wp2
        refine wp_loop_rounds 3 ?_
        rw [rounds_succ]
        go_wp2
        rw [rounds_succ]
        go_wp2
        rw [rounds_succ]
        go_wp2
        go_ret2
        refine ⟨?_, hb⟩
        rw [Int.natCast_add, Int.natCast_mul]
        rfl
  · rw [if_neg h2]
    have hm := digs_more (k := k) (by omega)
    go_enter Tryz.func89, Tryz.ntmps89
    go_wp2
    go_ret2
    exact ⟨rfl, hb⟩

theorem bitLenAux_le : ∀ (f x : Nat), Lib.bitLenAux f x ≤ f
  | 0, x => by simp [Lib.bitLenAux]
  | f + 1, x => by
    unfold Lib.bitLenAux
    have := bitLenAux_le f (x / 2)
    split <;> omega
theorem bitLen_le (x : Nat) : Lib.bitLen x ≤ 64 := bitLenAux_le 64 x
/-- How many binary digits a number has. -/
def bitsOf (k : Nat) : Nat := ((digs 4294967296 k).length - 1) * 32 + Lib.bitLen ((digs 4294967296 k).getLast?.getD 0)
end Go.Proofs.YthfjbpbgnoonpaaGreatDoor
