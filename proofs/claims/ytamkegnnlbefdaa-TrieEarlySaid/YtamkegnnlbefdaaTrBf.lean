/- The helper routes of layer 5's laws: the routes that All yields, collected. -/
import Derived.Test.YtamkegnnlbefdaaTrBe
import Derived.Test.YtamkegnnlbefdaaTrNi
namespace Go.Proofs.Ytamkegnnlbefdaa
open Go.RowKit
attribute [local go_sem] Oper.semAt_some

theorem heap_lt {W : World} {k : Nat} {o : Obj} (h : W.heap[k]? = some o) : k < W.heap.size := (Array.getElem?_eq_some_iff.1 h).1
/-- The cells' blocks are as they were. -/
def KC (W W' : World) : Prop := W.heap.size ≤ W'.heap.size ∧ ∀ (k : Nat) (o : Obj), W.heap[k]? = some o → o.isCells = true → W'.heap[k]? = some o
theorem KC.blk {W W' : World} {g : Nat} {cs : List Value} {t : TypeId} (h : KC W W') (hb : Blk W g cs t) : Blk W' g cs t := h.2 _ _ hb rfl
theorem KC.own {W W' : World} {base : Nat} {v : Value} {L : List Rt} (h : KC W W') (ho : OwnT base W v L) : OwnT base W' v L := by
  refine ⟨ho.1, ho.2.imp id ?_⟩
  rintro ⟨g, cap, cur, h1, h2, h3, h4⟩
  exact ⟨g, cap, cur, h1, h2, h.2 _ _ h3 rfl, h4⟩
theorem below_kc {w W W' : World} {B : Nat} (hB : w.heap.size ≤ B) (h : Below w.heap.size w W) (hb : ∀ k, k < B → k < W.heap.size → W'.heap[k]? = W.heap[k]?) (hs : W.heap.size ≤ W'.heap.size) (ho : W'.os = W.os) (ht : W'.tape = W.tape) (hp : W'.output = W.output) : Below w.heap.size w W' :=
  ⟨ho.trans h.os, ht.trans h.tape, hp.trans h.output, Nat.le_trans h.size hs, fun k hk => (hb k (by omega) (by have := h.size; omega)).trans (h.block k hk)⟩
theorem KeepsOthers.low {W W' : World} (h : Below W.heap.size W W') : KeepsOthers W W' := ⟨h.size, fun k _o hk _ => (h.block k (heap_lt hk)).trans hk⟩
theorem own_blk {W : World} {base size n g : Nat} {v : Value} {e : TypeId} {xs : List Value} (h : W.ownsRow base e size v n xs) (hg : v.ownBlock = some g) : ∃ cur, W.heap[g]? = some (.cells cur e (0, 0)) := by
  rcases h.2 with ⟨rfl, _⟩ | ⟨g', cap, cur, rfl, _, hh, _⟩
  · cases hg
  · have : g' = g := by simpa [Value.ownBlock] using hg
    subst this
    exact ⟨_, hh⟩
theorem own_ne {W : World} {base size n g : Nat} {v : Value} {e t : TypeId} {xs cs : List Value} (h : W.ownsRow base e size v n xs) (hb : Blk W g cs t) (hne : e ≠ t) : v.ownBlock ≠ some g := by
  intro hg
  obtain ⟨cur, hh⟩ := own_blk h hg
  unfold Blk at hb
  rw [hb] at hh
  injection hh with hh
  injection hh with _ h2
  exact hne h2.symm
theorem Gr.blk {W W' : World} {v v' : Value} {g : Nat} {cs : List Value} {t : TypeId} (h : Gr W W' v v') (hb : Blk W g cs t) (hn : v.ownBlock ≠ some g) : Blk W' g cs t := (h.1.block g hb.lt (fun e => hn e.symm)).trans hb
abbrev slT : TypeId := 25
abbrev tpT : TypeId := 24
/-- The loop's state: the list's box, the iterator's. -/
def RtI (w : World) (g gt : Nat) (pre : List Rt) (W : World) : Prop :=
  Blk W (g + 1) [ptr gt] tpT ∧ Below w.heap.size w W ∧ w.heap.size ≤ g ∧ ∃ v, Blk W g [v] slT ∧ OwnT w.heap.size W v pre ∧ ∃ A n c, v = .slice A n c
theorem rtI_own {w : World} {g gt B : Nat} (hB : w.heap.size ≤ B) : OwnFrom B (RtI w g gt) := by
  refine ownFrom_of ?_
  rintro s W W' ⟨h1, h2, h3, v, h4, h5, h6⟩ hc hb hs ho ht hp
  have hk : KC W W' := ⟨hs, hc⟩
  exact ⟨hk.blk h1, below_kc hB h2 hb hs ho ht hp, h3, v, hk.blk h4, hk.own h5, h6⟩
theorem RtI.below {w W W' : World} {g gt : Nat} {pre : List Rt} (h : RtI w g gt pre W) (hb : Below W.heap.size W W') : RtI w g gt pre W' := by
  obtain ⟨h1, h2, h3, v, h4, h5, h6⟩ := h
  exact ⟨h1.step hb, h2.trans (hb.mono h2.size), h3, v, h4.step hb, h5.below hb, h6⟩
def actR (gt g gr : Nat) (r : Rt) : Act := { tmps := #[.pointer (some ⟨gt, 0, none⟩), undef, .slice none 0 0, .pointer (some ⟨g, 0, none⟩), .pointer (some ⟨gr, 0, none⟩), .pointer (some ⟨gt, 0, none⟩), .func (.func 46) #[] #[.pointer (some ⟨g + 1, 0, none⟩)], .agg #[.int .u32 (r.1.1 : Int), .int .i64 (r.1.2 : Int), .int .i64 r.2], undef, undef, undef, undef, undef], defers := [] }
def RtJ (w : World) (g gt : Nat) (pre : List Rt) (x : Rt) (a' : Act) (W : World) : Prop := RtI w g gt pre W ∧ ∃ gr, a' = actR gt g gr x ∧ Blk W gr (encR x) rtT
theorem rtJ_own {w : World} {g gt B : Nat} (hB : w.heap.size ≤ B) (x : Rt) (a' : Act) : OwnFrom B (fun pre => RtJ w g gt pre x a') := by
  refine ownFrom_of ?_
  rintro s W W' ⟨⟨h1, h2, h3, v, h4, h5, h6⟩, gr, h7, h8⟩ hc hb hs ho ht hp
  have hk : KC W W' := ⟨hs, hc⟩
  exact ⟨⟨hk.blk h1, below_kc hB h2 hb hs ho ht hp, h3, v, hk.blk h4, hk.own h5, h6⟩, gr, h7, hk.blk h8⟩
/-- A round's memory. -/
theorem rt_step {w W : World} {g gt : Nat} {pre : List Rt} {x : Rt} (h : RtI w g gt pre W) (hl : pre.length ≤ 100000) (ty : TypeId) :
    ∃ A2 n2 c2 A3 n3 c3 Wb, Blk W g [.slice A2 n2 c2] slT ∧ (Builtin.append_ #[slT, slT] ty #[.slice A2 n2 c2, .slice (some ⟨W.heap.size, 0, none⟩) 1 1]).run Try.prog (W.alloc (.cells #[.int .u32 (x.1.1 : Int), .int .i64 (x.1.2 : Int), .int .i64 x.2] rtT)) = .ok (Value.slice A3 n3 c3) Wb ∧
      Wb.cell? ⟨g, 0, none⟩ = some (.slice A2 n2 c2) ∧ Wb.frozen? ⟨g, 0, none⟩ = false ∧ RtI w g gt (pre ++ [x]) (Wb.setCell ⟨g, 0, none⟩ (Value.slice A3 n3 c3)) ∧ KeepsOthers W (Wb.setCell ⟨g, 0, none⟩ (Value.slice A3 n3 c3)) := by
  obtain ⟨h1, h2, h3, v, h4, h5, A2, n2, c2, rfl⟩ := h
  obtain ⟨v', Wb, hr, ho, hg⟩ := run_app1 Try.underlying25 ty x h5 (by omega) h2.size
  obtain ⟨A3, c3, rfl, -⟩ := ho.form
  have b1 := hg.blk h1 (own_ne h5 h1 (by decide))
  have b4 := hg.blk h4 (own_ne h5 h4 (by decide))
  have low : Below w.heap.size w Wb := h2.trans (hg.below h5.base_ h2.size)
  refine ⟨A2, n2, c2, A3, _, c3, Wb, h4, hr, b4.cell rfl, b4.frozen, ⟨b1.far (by simp) _, low.setCell (by simpa using h3) _, h3, _, b4.set_ 0 _, ?_, A3, _, c3, rfl⟩, ?_⟩
  · refine World.ownsRow.kept (row := some g) ho ⟨rfl, rfl, rfl, by simp [World.setCell], fun k _ hn => Below.heap_setCell _ _ _ _ (fun e => hn (by rw [e]))⟩ (.inr ?_)
    exact own_ne ho b4 (by decide)
  · refine (KeepsOthers.of_grownBy hg.1 ?_).trans (KeepsOthers.setCell _ _ _)
    intro j o hj ho2
    obtain ⟨cur, hh⟩ := own_blk h5 hj
    rw [hh] at ho2
    cases ho2
    rfl
theorem wpListIn_app {F : Fence} {m : Nat} {ops : Array Oper} {rest : List Oper} {o : Oper} {a : Act} {Q : Exit → Act → World → Prop} {w w' : World} {v u v' : Value} (hg : o.guard = none) (s x : Operand) (t : TypeId) (ho : o.op = .call { callee := .builtin .append, args := #[s, x], argTypes := #[t, t] }) (hs : a.eval s = v) (hx : a.eval x = u)
    (hr : (Builtin.append_ #[t, t] o.type #[v, u]).run Try.prog w = .ok v' w') (h : wpListIn F m Try.prog ops Q rest (a.put o.dst v') w') : wpListIn F m Try.prog ops Q (o :: rest) a w := by
  refine wpListIn_plain hg fun K hK' => ?_
  unfold Oper.wpIn
  refine ⟨?_, ?_⟩
  · simp [Oper.about, ho, resolve, Target.leads, Sem.run_pure]
  · rw [Oper.semAt_plain F _ _ (by rw [ho]; intro c hc'; cases hc')]
    simp [execOp, ho, resolve, invoke, builtin, hs, hx, hr, Result.andThen]
    exact hK' _ _ h
theorem zip_one (a : Tmp) (x : Value) (ts : Array Value) : (((#[a] : Array Tmp).zip #[x]).foldl (fun t (p, v) => t.setIfInBounds p v) ts) = ts.setIfInBounds a x := by
  simp
def RtQ (w : World) (T : Tr) (e : Ending) (W : World) : Prop := ∃ v, e = .returned v ∧ OwnT w.heap.size W v (routes T) ∧ Below w.heap.size w W
set_option maxRecDepth 100000 in
set_option maxHeartbeats 8000000 in
theorem routes_any {w : World} {gt : Nat} {T : Tr} {S0 : Nat → Prop} (h : TrieP w gt T S0) (hl : (routes T).length ≤ 100000) : Calls Try.prog 13 #[.pointer (some ⟨gt, 0, none⟩)] w (RtQ w T) := by
  have HL := Lib.hid hl
  have HT := Lib.hid h
  obtain ⟨r0, hB, hA⟩ := h.2.blk
  have hlt := h.2.lt
  clear h hl
  refine (callsIn_wide (n := 5)).1 ?_
  refine callsIn_of_wp_marks Try.func13 rfl trivial ?_ rfl
  simp only [Try.ntmps13, List.size_toArray, List.length_cons, List.length_nil, Nat.reduceAdd, Nat.reduceSub, Array.replicate_succ, Array.replicate_zero, List.push_toArray, List.append_toArray, List.nil_append, List.cons_append]
  have h50 : Fence.wide.fn 25 := trivial
  have HB := Lib.hid hB
  have HA := Lib.hid hA
  have HLT := Lib.hid hlt
  clear hB hA hlt
  gi_wp2_with (gi_at_call 25; refine (all_in _ (some ⟨gt, 0, none⟩) _).mono ?_; rintro e w' ⟨rfl, rfl⟩)
  obtain ⟨w0, hw0⟩ : ∃ w0, (w.alloc (.cells #[.slice none 0 0] slT)).alloc (.cells #[.pointer (some ⟨gt, 0, none⟩)] tpT) = w0 := ⟨_, rfl⟩
  have hs0 : w0.heap.size = w.heap.size + 1 + 1 := by subst hw0; simp
  have hI0 : RtI w w.heap.size gt [] w0 := by
    subst hw0
    have S := ((Sr.start w).alloc [.slice none 0 0] slT).alloc [.pointer (some ⟨gt, 0, none⟩)] tpT
    simp only [size_alloc'] at S
    exact ⟨S.at 0 rfl, S.low, Nat.le_refl _, .slice none 0 0, S.at 1 rfl, OwnT.nil _ _, none, 0, 0, rfl⟩
  rw [hw0]
  clear hw0
  have hgt : gt < w.heap.size := HB.out.lt
  have HI0 := Lib.hid hI0
  refine wpIn_iterateC rfl (by omega) (gf := 46) (lb := #[.pointer (some ⟨w.heap.size + 1, 0, none⟩)]) (by simp [go_sem]) trivial (enters_of Try.func46 (by kernel_rfl) rfl)
    (all_iter _ (w.heap.size + 1) gt T S0 r0 _ _ w0 _ HI0.out.1 (HB.out.step HI0.out.2.1) (HA.out.below HI0.out.2.1)) (fun _ => rfl) (RtI w w.heap.size gt) (fun _ _ _ => False) (rtI_own (by omega)) (fun c => by intro s W W' row hs; exact hs.elim) ?IR hI0 (RtJ w w.heap.size gt) (fun x a' => rtJ_own (by omega) x a') ?assign ?body ?done ?sto
  case IR =>
    rintro pre W ⟨h1, h2, h3, -⟩ g (hg | rfl | rfl)
    · exact (h2.block g (HLT.out g hg)).trans (HI0.out.2.1.block g (HLT.out g hg)).symm
    · exact h1.trans HI0.out.1.symm
    · exact (h2.block _ hgt).trans (HI0.out.2.1.block _ hgt).symm
  case assign =>
    rintro l pre x W K hI hN _ hK
    have HI := Lib.hid hI
    have HK := Lib.hid hK
    simp only [zip_one, List.setIfInBounds_toArray, List.set_cons_zero, List.set_cons_succ]
    obtain ⟨⟨xa, xl⟩, xv⟩ := x
    unfold rtV
    clear hI hK hN
    gi_wp2
    have hb : Below W.heap.size W (W.alloc (.cells #[.int .u32 (xa : Int), .int .i64 (xl : Int), .int .i64 xv] rtT)) := (Below.refl _ W).alloc (Nat.le_refl _) _
    exact HK.out _ _ ⟨HI.out.below hb, W.heap.size, rfl, Blk.new W [.int .u32 (xa : Int), .int .i64 (xl : Int), .int .i64 xv] rtT⟩ hb
  case body =>
    rintro l pre x a' W ⟨hI, gr, rfl, hbr⟩ hlen _
    obtain ⟨A2, n2, c2, A3, n3, c3, Wb, hbl, hr, kc, kf, hI2, hko⟩ := rt_step (x := x) hI (by have := HL.out; omega) slT
    have q4 := hbl.cell (i := 0) rfl
    have q50 := hbr.cell (i := 0) rfl
    have q51 := hbr.cell (i := 1) rfl
    have q52 := hbr.cell (i := 2) rfl
    have HR := Lib.hid hr
    have HX := Lib.hid (show KeepsOthers W (Wb.setCell ⟨w.heap.size, 0, none⟩ (.slice A3 n3 c3)) ∧ RtI w w.heap.size gt (pre ++ [x]) (Wb.setCell ⟨w.heap.size, 0, none⟩ (.slice A3 n3 c3)) from ⟨hko, hI2⟩)
    clear hI hbr hbl hr hI2 hko hlen
    unfold actR
    gi_wp2_with (gi_at_builtin; go_loud (refine wpListIn_app rfl (.tmp 8) (.tmp 10) _ rfl rfl rfl HR.out ?_))
    exact HX.out
  case done =>
    rintro D xs W hD rfl hN hK
    have hE := (rtI_own (w := w) (g := w.heap.size) (gt := gt) (B := w0.heap.size) (by omega)).putObj (.deferred none) hN hD hK rfl
    obtain ⟨h1, h2, h3, v, h4, h5, A2, n2, c2, rfl⟩ := hN
    have c0 := h4.cell (i := 0) rfl
    obtain ⟨-, e2, -, v', e4, e5, -⟩ := hE
    obtain ⟨hv, -⟩ := Blk.uniq e4 (show Blk (W.putObj D (.deferred none)) w.heap.size [.slice A2 n2 c2] slT from (World.putObj_heap_other (by rintro rfl; unfold Blk at h4; rw [hK] at h4; cases h4)).trans h4)
    obtain rfl : v' = .slice A2 n2 c2 := by simpa using hv
    have HE := Lib.hid (show RtQ w T (.returned (.slice A2 n2 c2)) (W.putObj D (.deferred none)) from ⟨_, rfl, e5, e2⟩)
    clear h1 h2 h3 h4 h5 e2 e4 e5 hv
    gi_wp2
    refine ⟨by simp, .inl ⟨_, _, rfl, run_takeDeferred hK, ?_⟩⟩
    refine ⟨_, results_tmp rfl _ _ _, ?_⟩
    exact HE.out
  case sto =>
    rintro D c pre W _ _ h
    exact h.elim
end Go.Proofs.Ytamkegnnlbefdaa
