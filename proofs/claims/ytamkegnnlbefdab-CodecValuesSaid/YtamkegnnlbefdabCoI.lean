/- Contract: Decode. -/
import Derived.Test.YtamkegnnlbefdabCoH
import Derived.Test.YtamkegnnlbefdabCoG
namespace Go.Proofs.Ytamkegnnlbefdab
open Go.RowKit
attribute [local go_sem] Oper.semAt_some

/-- The cells' blocks are as they were. -/
def KC (W W' : World) : Prop := W.heap.size ≤ W'.heap.size ∧ ∀ (k : Nat) (o : Obj), W.heap[k]? = some o → o.isCells = true → W'.heap[k]? = some o
theorem KC.blk {W W' : World} {g : Nat} {cs : List Value} {t : TypeId} (h : KC W W') (hb : Blk W g cs t) : Blk W' g cs t := h.2 _ _ hb rfl
theorem KC.k8 {W W' : World} (h : KC W W') : K8 W W' := ⟨h.1, fun k _cs _fz e => h.2 k _ e rfl⟩
theorem KC.own {W W' : World} {T : TypeId} {base : Nat} {v : Value} {M : List C2} (h : KC W W') (ho : OwnR T base W v M) : OwnR T base W' v M := by
  refine ⟨ho.1, ho.2.imp id ?_⟩
  rintro ⟨g, cap, cur, h1, h2, h3, h4⟩
  exact ⟨g, cap, cur, h1, h2, h.2 _ _ h3 rfl, h4⟩
abbrev slT : TypeId := 25
abbrev erT : TypeId := 28
/-- The loop's state: two boxes of results, the list's box, the iterator's. -/
def DecI (w : World) (g : Nat) (V : Value) (_b : List UInt8) (pre : List Yx) (W : World) : Prop :=
  allGood pre ∧ Blk W g [.slice none 0 0] slT ∧ Blk W (g + 1) [.int .i64 0] erT ∧ Blk W (g + 1 + 1 + 1) [V] 27 ∧ Below w.heap.size w W ∧ w.heap.size ≤ g ∧
    ∃ v M, Blk W (g + 1 + 1) [v] slT ∧ OwnR prT w.heap.size W v M ∧ RowB ByT W M (recs pre) ∧ ∃ A n c, v = .slice A n c
def DecX (w : World) (g : Nat) (b : List UInt8) (W : World) : Prop := decS b = none ∧ Blk W g [.slice none 0 0] slT ∧ Blk W (g + 1) [.int .i64 4] erT ∧ Below w.heap.size w W
theorem below_kc {w W W' : World} {B : Nat} (hB : w.heap.size ≤ B) (h : Below w.heap.size w W) (hb : ∀ k, k < B → k < W.heap.size → W'.heap[k]? = W.heap[k]?) (hs : W.heap.size ≤ W'.heap.size) (ho : W'.os = W.os) (ht : W'.tape = W.tape) (hp : W'.output = W.output) : Below w.heap.size w W' :=
  ⟨ho.trans h.os, ht.trans h.tape, hp.trans h.output, Nat.le_trans h.size hs, fun k hk => (hb k (by omega) (by have := h.size; omega)).trans (h.block k hk)⟩
theorem decI_own {w : World} {g B : Nat} {V : Value} {b : List UInt8} (hB : w.heap.size ≤ B) : OwnFrom B (DecI w g V b) := by
  refine ownFrom_of ?_
  rintro s W W' ⟨h1, h2, h3, h4, h5, h6, v, M, h7, h8, h9, h10⟩ hc hb hs ho ht hp
  have hk : KC W W' := ⟨hs, hc⟩
  exact ⟨h1, hk.blk h2, hk.blk h3, hk.blk h4, below_kc hB h5 hb hs ho ht hp, h6, v, M, hk.blk h7, hk.own h8, h9.keep fun u l hu => hu.keep hk.k8, h10⟩
theorem decX_own {w : World} {g B : Nat} {b : List UInt8} (c : Code) (hB : w.heap.size ≤ B) : OwnFrom B (fun (_ : List Yx) W => c = .ret ∧ DecX w g b W) := by
  refine ownFrom_of ?_
  rintro s W W' ⟨h0, h1, h2, h3, h4⟩ hc hb hs ho ht hp
  have hk : KC W W' := ⟨hs, hc⟩
  exact ⟨h0, h1, hk.blk h2, hk.blk h3, below_kc hB h4 hb hs ho ht hp⟩
theorem size_alloc' (w : World) (o : Obj) : (w.alloc o).heap.size = w.heap.size + 1 := by simp
/-- Behind the assignment of the loop's variables. -/
def actD (A : Option Addr) (n c g gr : Nat) (x : Value) (e : Int) : Act := { tmps := #[.slice A n c, undef, .pointer (some ⟨g, 0, none⟩), .pointer (some ⟨g + 1, 0, none⟩), .pointer (some ⟨g + 1 + 1, 0, none⟩), .pointer (some ⟨gr, 0, none⟩), .int .i64 e, .slice A n c, .func (.func 31) #[] #[.pointer (some ⟨g + 1 + 1 + 1, 0, none⟩)], x, .int .i64 e, undef, undef, undef, undef, undef, undef, undef, undef], defers := [] }
def DecJ (w : World) (g : Nat) (A : Option Addr) (n c : Nat) (b : List UInt8) (pre : List Yx) (x : Yx) (a' : Act) (W : World) : Prop := DecI w g (.slice A n c) b pre W ∧
  match x.2 with
  | some r => ∃ A1 n1 c1 gr, x.1 = .slice A1 n1 c1 ∧ a' = actD A n c g gr (.agg #[.int .i64 r.1, .slice A1 n1 c1]) 0 ∧ Blk W gr [.int .i64 r.1, .slice A1 n1 c1] prT ∧ ByT W (.slice A1 n1 c1) r.2
  | none => ∃ gr, a' = actD A n c g gr (.agg #[.int .i64 0, .slice none 0 0]) 4
theorem decJ_own {w : World} {g B n c : Nat} {A : Option Addr} {b : List UInt8} (hB : w.heap.size ≤ B) (x : Yx) (a' : Act) : OwnFrom B (fun pre => DecJ w g A n c b pre x a') := by
  refine ownFrom_of ?_
  rintro s W W' ⟨⟨h1, h2, h3, h4, h5, h6, v, M, h7, h8, h9, h10⟩, hx⟩ hc hb hs ho ht hp
  have hk : KC W W' := ⟨hs, hc⟩
  refine ⟨⟨h1, hk.blk h2, hk.blk h3, hk.blk h4, below_kc hB h5 hb hs ho ht hp, h6, v, M, hk.blk h7, hk.own h8, h9.keep fun u l hu => hu.keep hk.k8, h10⟩, ?_⟩
  obtain ⟨u, _ | r⟩ := x
  · exact hx
  · obtain ⟨A1, n1, c1, gr, e1, e2, e3, e4⟩ := hx
    exact ⟨A1, n1, c1, gr, e1, e2, hk.blk e3, e4.keep hk.k8⟩
theorem DecI.below {w W W' : World} {g : Nat} {V : Value} {b : List UInt8} {pre : List Yx} (h : DecI w g V b pre W) (hb : Below W.heap.size W W') : DecI w g V b pre W' := by
  obtain ⟨h1, h2, h3, h4, h5, h6, v, M, h7, h8, h9, h10⟩ := h
  exact ⟨h1, h2.step hb, h3.step hb, h4.step hb, h5.trans (hb.mono h5.size), h6, v, M, h7.step hb, h8.below hb, h9.keep fun u l hu => hu.keep (K8.below hb), h10⟩
theorem KeepsOthers.low {W W' : World} (h : Below W.heap.size W W') : KeepsOthers W W' := ⟨h.size, fun k _o hk _ => (h.block k (heap_lt hk)).trans hk⟩
theorem at7_len {b t : List UInt8} {pre : List Rc} (h : At7 b pre t) : 3 * pre.length ≤ b.length := by
  rw [h.2, List.length_append, body_len]
  omega
/-- A round's memory. -/
theorem dec_step {w W : World} {g n1 c1 : Nat} {V : Value} {A1 : Option Addr} {b t : List UInt8} {pre : List Yx} {r : Rc} (h : DecI w g V b pre W) (ht : At7 b (recs pre) t) (hl : b.length ≤ 100000000) (hT : ByT W (.slice A1 n1 c1) r.2) (ty : TypeId) :
    ∃ A2 n2 c2 A3 n3 c3 Wb, Blk W (g + 1 + 1) [.slice A2 n2 c2] slT ∧ (Builtin.append_ #[slT, slT] ty #[.slice A2 n2 c2, .slice (some ⟨W.heap.size, 0, none⟩) 1 1]).run Try.prog (W.alloc (.cells #[.int .i64 r.1, .slice A1 n1 c1] prT)) = .ok (Value.slice A3 n3 c3) Wb ∧
      Wb.cell? ⟨g + 1 + 1, 0, none⟩ = some (.slice A2 n2 c2) ∧ Wb.frozen? ⟨g + 1 + 1, 0, none⟩ = false ∧ DecI w g V b (pre ++ [(.slice A1 n1 c1, some r)]) (Wb.setCell ⟨g + 1 + 1, 0, none⟩ (Value.slice A3 n3 c3)) ∧ KeepsOthers W (Wb.setCell ⟨g + 1 + 1, 0, none⟩ (Value.slice A3 n3 c3)) := by
  obtain ⟨h1, h2, h3, h4, h5, h6, v, M, h7, h8, h9, A2, n2, c2, rfl⟩ := h
  have hb : Below W.heap.size W (W.alloc (.cells #[.int .i64 r.1, .slice A1 n1 c1] prT)) := (Below.refl _ W).alloc (Nat.le_refl _) _
  have hlen := at7_len ht
  obtain ⟨v', Wb, hr, ho, hg⟩ := run_appP ty (h8.below hb) (r.1, .slice A1 n1 c1) rfl (gb := W.heap.size) (c := 1) (Blk.new W [.int .i64 r.1, .slice A1 n1 c1] prT) (by rw [h9.1]; omega) (Nat.le_trans h5.size hb.size)
  obtain ⟨A3, c3, rfl, -⟩ := ho.form
  have ne : ∀ {k : Nat} {cs : List Value} {t : TypeId}, Blk W k cs t → prT ≠ t → Blk Wb k cs t := fun hk hn => hg.blk (hk.step hb) (own_ne (h8.below hb) (hk.step hb) hn)
  have k8 : K8 W Wb := (K8.below hb).trans (K8.grown (h8.below hb) (by decide) hg.1)
  have b2 := ne h2 (by decide)
  have b3 := ne h3 (by decide)
  have b4 := ne h4 (by decide)
  have b7 := ne h7 (by decide)
  have k82 : K8 Wb (Wb.setCell ⟨g + 1 + 1, 0, none⟩ (Value.slice A3 (M ++ [(r.1, Value.slice A1 n1 c1)]).length c3)) := K8.set b7 (by decide) rfl _
  have low : Below w.heap.size w Wb := (h5.trans (hb.mono h5.size)).trans (hg.below (h8.below hb).base_ (Nat.le_trans h5.size hb.size))
  refine ⟨A2, n2, c2, A3, _, c3, Wb, h7, hr, b7.cell rfl, b7.frozen, ⟨allGood_snoc h1 _ _, b2.far (by simp; omega) _, b3.far (by simp) _, b4.far (by simp) _, low.setCell (by simp; omega) _, h6, _, M ++ [(r.1, .slice A1 n1 c1)], b7.set_ 0 _, ?_, ?_, A3, _, c3, rfl⟩, ?_⟩
  · refine World.ownsRow.kept (row := some (g + 1 + 1)) ho ⟨rfl, rfl, rfl, by simp [World.setCell], fun k _ hn => Below.heap_setCell _ _ _ _ (fun e => hn (by rw [e]))⟩ (.inr ?_)
    exact own_ne ho b7 (by decide)
  · rw [recs_snoc]
    exact (h9.keep fun u l hu => hu.keep (k8.trans k82)).snoc (hT.keep (k8.trans k82))
  · refine ((KeepsOthers.low hb).trans (KeepsOthers.of_grownBy hg.1 ?_)).trans (KeepsOthers.setCell _ _ _)
    intro j o hj ho2
    obtain ⟨cur, hh⟩ := own_blk (h8.below hb) hj
    rw [hh] at ho2
    cases ho2
    rfl
/-- The end, without an error. -/
theorem dec_done {w W : World} {g D : Nat} {V : Value} {b : List UInt8} {xs : List Yx} (h : DecI w g V b xs W) (hS : S7 b xs) (hDw : w.heap.size ≤ D) (hD : W.heap[D]? = some (.deferred (some []))) :
    ∃ A2 n2 c2 W1, Blk W (g + 1 + 1) [.slice A2 n2 c2] slT ∧ Blk W g [.slice none 0 0] slT ∧ Blk W (g + 1) [.int .i64 0] erT ∧ (W.setCell ⟨g, 0, none⟩ (.slice A2 n2 c2)).setCell ⟨g + 1, 0, none⟩ (.int .i64 0) = W1 ∧ W1.heap[D]? = some (.deferred (some [])) ∧
      (W1.putObj D (.deferred none)).cell? ⟨g, 0, none⟩ = some (.slice A2 n2 c2) ∧ (W1.putObj D (.deferred none)).cell? ⟨g + 1, 0, none⟩ = some (.int .i64 0) ∧ Below w.heap.size w (W1.putObj D (.deferred none)) ∧ ∃ rs, decS b = some rs ∧ Rcs (W1.putObj D (.deferred none)) (.slice A2 n2 c2) rs := by
  obtain ⟨h1, h2, h3, h4, h5, h6, v, M, h7, h8, h9, A2, n2, c2, rfl⟩ := h
  have dne : ∀ {k : Nat} {cs : List Value} {t : TypeId}, Blk W k cs t → D ≠ k := fun hk e => by
    subst e
    unfold Blk at hk
    rw [hD] at hk
    cases hk
  obtain ⟨W1, hW1⟩ : ∃ W1, (W.setCell ⟨g, 0, none⟩ (.slice A2 n2 c2)).setCell ⟨g + 1, 0, none⟩ (.int .i64 0) = W1 := ⟨_, rfl⟩
  have hD1 : W1.heap[D]? = some (.deferred (some [])) := by
    subst hW1
    exact (Below.heap_setCell _ _ _ _ (dne h3)).trans ((Below.heap_setCell _ _ _ _ (dne h2)).trans hD)
  have b1 : Blk W1 g [.slice A2 n2 c2] slT := by subst hW1; exact (h2.set_ 0 _).far (by simp) _
  have b2 : Blk W1 (g + 1) [.int .i64 0] erT := by subst hW1; exact (h3.far (p := ⟨g, 0, none⟩) (by simp) _).set_ 0 _
  have k1 : K8 W W1 := by subst hW1; exact (K8.set h2 (by decide) rfl _).trans (K8.set (h3.far (p := ⟨g, 0, none⟩) (by simp) _) (by decide) rfl _)
  have g1 : W.grownBy (W.setCell ⟨g, 0, none⟩ (.slice A2 n2 c2)) (some g) := ⟨rfl, rfl, rfl, by simp [World.setCell], fun k _ hn => Below.heap_setCell _ _ _ _ (fun e => hn (by rw [e]))⟩
  have o1 : OwnR prT w.heap.size W1 (.slice A2 n2 c2) M := by
    subst hW1
    have o2 : OwnR prT w.heap.size (W.setCell ⟨g, 0, none⟩ (.slice A2 n2 c2)) (.slice A2 n2 c2) M := World.ownsRow.kept h8 g1 (.inr (own_ne h8 h2 (by decide)))
    refine World.ownsRow.kept (row := some (g + 1)) o2 ⟨rfl, rfl, rfl, by simp [World.setCell], fun k _ hn => Below.heap_setCell _ _ _ _ (fun e => hn (by rw [e]))⟩ (.inr (own_ne o2 (h3.far (p := ⟨g, 0, none⟩) (by simp) _) (by decide)))
  have low1 : Below w.heap.size w W1 := by subst hW1; exact (h5.setCell (by simpa using h6) _).setCell (by simp; omega) _
  have hlt : D < W1.heap.size := heap_lt hD1
  have kc : KC W1 (W1.putObj D (.deferred none)) := ⟨by simp [World.putObj], fun k o hk ho => (World.putObj_heap_other (by rintro rfl; rw [hD1] at hk; cases hk; cases ho)).trans hk⟩
  have low2 : Below w.heap.size w (W1.putObj D (.deferred none)) := by
    refine ⟨low1.os, low1.tape, low1.output, Nat.le_trans low1.size kc.1, fun k hk => (World.putObj_heap_other (by omega)).trans (low1.block k hk)⟩
  refine ⟨A2, n2, c2, W1, h7, h2, h3, hW1, hD1, (kc.blk b1).cell rfl, (kc.blk b2).cell rfl, low2, recs xs, hS h1, ?_⟩
  exact (kc.own o1).rcs ((h9.keep fun u l hu => hu.keep (k1.trans kc.k8)).by_)
theorem wpListIn_app {F : Fence} {m : Nat} {ops : Array Oper} {rest : List Oper} {o : Oper} {a : Act} {Q : Exit → Act → World → Prop} {w w' : World} {v u v' : Value} (hg : o.guard = none) (s x : Operand) (t : TypeId) (ho : o.op = .call { callee := .builtin .append, args := #[s, x], argTypes := #[t, t] }) (hs : a.eval s = v) (hx : a.eval x = u)
    (hr : (Builtin.append_ #[t, t] o.type #[v, u]).run Try.prog w = .ok v' w') (h : wpListIn F m Try.prog ops Q rest (a.put o.dst v') w') : wpListIn F m Try.prog ops Q (o :: rest) a w := by
  refine wpListIn_plain hg fun K hK' => ?_
  unfold Oper.wpIn
  refine ⟨?_, ?_⟩
  · simp [Oper.about, ho, resolve, Target.leads, Sem.run_pure]
  · rw [Oper.semAt_plain F _ _ (by rw [ho]; intro c hc'; cases hc')]
    simp [execOp, ho, resolve, invoke, builtin, hs, hx, hr, Result.andThen]
    exact hK' _ _ h
theorem zip_two (a b : Tmp) (x y : Value) (ts : Array Value) : (((#[a, b] : Array Tmp).zip #[x, y]).foldl (fun t (p, v) => t.setIfInBounds p v) ts) = (ts.setIfInBounds a x).setIfInBounds b y := by
  simp
/-- What Decode gives. -/
def DecP (R : World → Value → List Rc → Prop) (w : World) (b : List UInt8) (e : Ending) (w' : World) : Prop := Below w.heap.size w w' ∧
  ((∃ rs A n c, decS b = some rs ∧ e = .returned (.tuple #[.slice A n c, .int .i64 0]) ∧ R w' (.slice A n c) rs) ∨ (decS b = none ∧ e = .returned (.tuple #[.slice none 0 0, .int .i64 4])))
set_option maxRecDepth 100000 in
set_option maxHeartbeats 8000000 in
theorem decode_any {w : World} {A : Option Addr} {n c : Nat} {b : List UInt8} (h : By w (.slice A n c) b) (hl : b.length ≤ 100000000) :
    Calls Try.prog 17 #[.slice A n c] w (DecP Rcs w b) := by
  have H := Lib.hid h
  have HL := Lib.hid hl
  clear h hl
  refine (callsIn_wide (n := 5)).1 ?_
  refine callsIn_of_wp_marks Try.func17 rfl trivial ?_ rfl
  simp only [Try.ntmps17, List.size_toArray, List.length_cons, List.length_nil, Nat.reduceAdd, Nat.reduceSub, Array.replicate_succ, Array.replicate_zero, List.push_toArray, List.append_toArray, List.nil_append, List.cons_append]
  have hfr : Fence.wide.fn 27 := trivial
  gi_wp2_with (gi_at_call 27; refine (records_in _ A n c _).mono ?_; rintro e w' ⟨rfl, rfl⟩)
  obtain ⟨w0, hw0⟩ : ∃ w0, (((w.alloc (.cells #[.slice none 0 0] slT)).alloc (.cells #[.int .i64 0] erT)).alloc (.cells #[.slice none 0 0] slT)).alloc (.cells #[.slice A n c] 27) = w0 := ⟨_, rfl⟩
  have hs0 : w0.heap.size = w.heap.size + 1 + 1 + 1 + 1 := by subst hw0; simp
  have hI0 : DecI w w.heap.size (.slice A n c) b [] w0 := by
    subst hw0
    have S := ((((Sr.start w).alloc [.slice none 0 0] slT).alloc [.int .i64 0] erT).alloc [.slice none 0 0] slT).alloc [.slice A n c] 27
    simp only [size_alloc'] at S
    exact ⟨fun x hx => by simp at hx, S.at 3 rfl, S.at 2 rfl, S.at 0 rfl, S.low, Nat.le_refl _, .slice none 0 0, [], S.at 1 rfl, OwnR.nil _ _ _, RowB.nil _ _, none, 0, 0, rfl⟩
  rw [hw0]
  clear hw0
  refine wpIn_iterateE rfl (by omega) (gf := 31) (lb := #[.pointer (some ⟨w.heap.size + 1 + 1 + 1, 0, none⟩)]) (by simp [go_sem]) trivial (enters_of Try.func31 (by kernel_rfl) rfl)
    (rec_iter _ (w.heap.size + 1 + 1 + 1) w _ A n c b H.out) (fun x => by obtain ⟨v, o⟩ := x; cases o <;> rfl) (DecI w w.heap.size (.slice A n c) b) (fun c _ W => c = .ret ∧ DecX w w.heap.size b W) (decI_own (by omega)) (fun c => decX_own c (by omega)) ?IR hI0 (DecJ w w.heap.size A n c b) (fun x a' => decJ_own (by omega) x a') ?assign ?body ?done ?stop
  case IR =>
    rintro pre W ⟨h1, h2, h3, h4, h5, h6, -⟩
    exact ⟨h5, h4.cell rfl⟩
  case assign =>
    rintro l pre ⟨v, _ | r⟩ W K hI hE hN hK
    · have HI := Lib.hid hI
      have HK := Lib.hid hK
      simp only [encX, zip_two, List.setIfInBounds_toArray, List.set_cons_zero, List.set_cons_succ]
      clear hI hK hE hN
      gi_wp2
      have hb : Below W.heap.size W (W.alloc (.cells #[.int .i64 0, .slice none 0 0] prT)) := (Below.refl _ W).alloc (Nat.le_refl _) _
      exact HK.out _ _ ⟨HI.out.below hb, W.heap.size, rfl⟩ hb
    · obtain ⟨⟨A1, n1, c1, rfl⟩, hT⟩ := hE
      have HI := Lib.hid hI
      have HK := Lib.hid hK
      have HT := Lib.hid hT
      simp only [encX, zip_two, List.setIfInBounds_toArray, List.set_cons_zero, List.set_cons_succ]
      clear hI hK hN hT
      gi_wp2
      have hb : Below W.heap.size W (W.alloc (.cells #[.int .i64 r.1, .slice A1 n1 c1] prT)) := (Below.refl _ W).alloc (Nat.le_refl _) _
      exact HK.out _ _ ⟨HI.out.below hb, A1, n1, c1, W.heap.size, rfl, rfl, Blk.new W [.int .i64 r.1, .slice A1 n1 c1] prT, HT.out.keep (K8.below hb)⟩ hb
  case body =>
    rintro l pre ⟨v, _ | r⟩ a' W ⟨hI, hx⟩ ⟨hg, t, hat, ht, hd⟩
    · obtain ⟨gr, rfl⟩ := hx
      have hdec : Hid (decS b = none) := hat.bad hd ht
      obtain ⟨h1, h2, h3, h4, h5, h6, -⟩ := hI
      have c2 := h2.cell (i := 0) rfl
      have f2 := h2.frozen (i := 0)
      have c3 := (h3.far (p := ⟨w.heap.size, 0, none⟩) (by simp) (.slice none 0 0)).cell (i := 0) rfl
      have f3 := (h3.far (p := ⟨w.heap.size, 0, none⟩) (by simp) (.slice none 0 0)).frozen (i := 0)
      have c3' := h3.cell (i := 0) rfl
      have f3' := h3.frozen (i := 0)
      have HX := Lib.hid (show KeepsOthers W ((W.setCell ⟨w.heap.size, 0, none⟩ (.slice none 0 0)).setCell ⟨w.heap.size + 1, 0, none⟩ (.int .i64 4)) ∧ DecX w w.heap.size b ((W.setCell ⟨w.heap.size, 0, none⟩ (.slice none 0 0)).setCell ⟨w.heap.size + 1, 0, none⟩ (.int .i64 4)) from
        ⟨(KeepsOthers.setCell _ _ _).trans (KeepsOthers.setCell _ _ _), hdec, (h2.set_ 0 _).far (by simp) _, (h3.far (p := ⟨w.heap.size, 0, none⟩) (by simp) _).set_ 0 _, (h5.setCell (Nat.le_refl _) _).setCell (by simp) _⟩)
      clear h1 h2 h3 h4 h5 h6 hg hat ht hd hdec
      unfold actD
      gi_wp2
      exact ⟨HX.out.1, rfl, HX.out.2⟩
    · obtain ⟨A1, n1, c1, gr, rfl, rfl, hbr, hT⟩ := hx
      obtain ⟨A2, n2, c2, A3, n3, c3, Wb, hbl, hr, kc, kf, hI2, hko⟩ := dec_step hI hat HL.out hT slT
      have q4 := hbl.cell (i := 0) rfl
      have q50 := hbr.cell (i := 0) rfl
      have q51 := hbr.cell (i := 1) rfl
      have HR := Lib.hid hr
      have HX := Lib.hid (show KeepsOthers W (Wb.setCell ⟨w.heap.size + 1 + 1, 0, none⟩ (.slice A3 n3 c3)) ∧ DecI w w.heap.size (.slice A n c) b (pre ++ [(.slice A1 n1 c1, some r)]) (Wb.setCell ⟨w.heap.size + 1 + 1, 0, none⟩ (.slice A3 n3 c3)) from ⟨hko, hI2⟩)
      clear hI hat ht hd hT hbr hbl hr hI2 hko hg
      unfold actD
      gi_wp2_with (gi_at_builtin; go_loud (refine wpListIn_app rfl (.tmp 14) (.tmp 16) _ rfl rfl rfl HR.out ?_))
      exact HX.out
  case done =>
    rintro D xs W hD hS hI hK
    obtain ⟨A2, n2, c2, W1, hbl, hb0, hb1, hW1, hD1, k0, k1, low, rs, hrs, hR⟩ := dec_done hI hS (by omega) hK
    have q4 := hbl.cell (i := 0) rfl
    have q2 := hb0.cell (i := 0) rfl
    have f2 := hb0.frozen (i := 0)
    have q3 := (hb1.far (p := ⟨w.heap.size, 0, none⟩) (by simp) (.slice A2 n2 c2)).cell (i := 0) rfl
    have f3 := (hb1.far (p := ⟨w.heap.size, 0, none⟩) (by simp) (.slice A2 n2 c2)).frozen (i := 0)
    have q3' := hb1.cell (i := 0) rfl
    have f3' := hb1.frozen (i := 0)
    have HW := Lib.hid hW1
    have HD := Lib.hid hD1
    have K0 := Lib.hid k0
    have K1 := Lib.hid k1
    have HZ := Lib.hid (show DecP Rcs w b (.returned (.tuple #[.slice A2 n2 c2, .int .i64 0])) (W1.putObj D (.deferred none)) from ⟨low, .inl ⟨rs, A2, n2, c2, hrs, rfl, hR⟩⟩)
    clear hI hS hK hbl hb0 hb1 hW1 hD1 k0 k1 low hrs hR
    gi_wp2
    rw [HW.out]
    refine ⟨by simp, .inl ⟨_, _, rfl, run_takeDeferred HD.out, ?_⟩⟩
    have e0 := K0.out
    have e1 := K1.out
    exact ⟨.tuple #[.slice A2 n2 c2, .int .i64 0], by simp [results, Try.results17, go_sem, e0, e1], HZ.out⟩
  case stop =>
    rintro D c pre W hD _ ⟨rfl, hd, h2, h3, hlow⟩ hK
    have kc : KC W (W.putObj D (.deferred none)) := ⟨by simp [World.putObj], fun k o hk ho => (World.putObj_heap_other (by rintro rfl; rw [hK] at hk; cases hk; cases ho)).trans hk⟩
    have e0 := (kc.blk h2).cell (i := 0) rfl
    have e1 := (kc.blk h3).cell (i := 0) rfl
    have low2 : Below w.heap.size w (W.putObj D (.deferred none)) :=
      ⟨hlow.os, hlow.tape, hlow.output, Nat.le_trans hlow.size kc.1, fun k hk => (World.putObj_heap_other (by omega)).trans (hlow.block k hk)⟩
    have HZ := Lib.hid (show DecP Rcs w b (.returned (.tuple #[.slice none 0 0, .int .i64 4])) (W.putObj D (.deferred none)) from ⟨low2, .inr ⟨hd, rfl⟩⟩)
    have HD := Lib.hid hK
    have K0 := Lib.hid e0
    have K1 := Lib.hid e1
    clear h2 h3 hlow hK e0 e1 low2 hd kc
    gi_wp2
    refine ⟨by simp, .inl ⟨_, _, rfl, run_takeDeferred HD.out, ?_⟩⟩
    have e0 := K0.out
    have e1 := K1.out
    exact ⟨.tuple #[.slice none 0 0, .int .i64 4], by simp [results, Try.results17, go_sem, e0, e1], HZ.out⟩
end Go.Proofs.Ytamkegnnlbefdab
