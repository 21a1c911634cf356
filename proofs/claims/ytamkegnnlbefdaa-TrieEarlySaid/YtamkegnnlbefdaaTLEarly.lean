/- The law TrieEarly. -/
import Derived.Test.YtamkegnnlbefdaaTrBf
import Derived.Test.YtamkegnnlbefdaaTrBn
import Derived.Test.YtamkegnnlbefdaaTrBo
namespace Go.Proofs.Ytamkegnnlbefdaa
open Go.RowKit
attribute [local go_sem] Oper.semAt_some

section
variable {F : Fence} {n : Nat} {P : Program}
/-- wpIn_iterateC, with what is said of a round's frame given as a function of the loop's frame. -/
theorem wpIn_iterateF {α : Type} {g : Operand} {ps : Array Tmp} {assign body : Code} {Q : Exit → Act → World → Prop} {a : Act} {w : World}
    (hro : F.round = none) (h1 : 1 ≤ n) {gf : Nat} {lb : Array Value} (hg : a.eval g = .func (.func gf) #[] lb) (hFg : F.fn gf) (eg : ∀ args w, (callFunc gf args).run P w = .ok (.enter gf args) w)
    {encs : α → Array Value} {R : List α → World → Prop} {Nx : List α → α → Prop} {S Sp : List α → Prop} {N : Nat} (hseq : IteratesB F (n - 1) P gf lb encs R Nx S Sp N w) (hps : ∀ x, (encs x).size = ps.size)
    (I : List α → World → Prop) (Ix : Code → List α → World → Prop) (hI : OwnFrom w.heap.size I) (hIx : ∀ c, OwnFrom w.heap.size (Ix c)) (hIR : ∀ pre W, I pre W → R pre W) (h0 : I [] w) (JJ : Act → List α → α → Act → World → Prop) (hJ2 : ∀ x a', OwnFrom w.heap.size (fun pre => JJ a pre x a'))
    (hassign : ∀ (l : Nat) (pre : List α) (x : α) (W : World) (K : Act → World → Prop), I pre W → pre.length < N → Nx pre x → (∀ a' W', JJ a pre x a' W' → Below W.heap.size W W' → K a' W') →
      assign.wpIn (F.inRound l) (n - 1 - 1) P (Exit.then K (fun _ _ _ => False)) { tmps := (ps.zip (encs x)).foldl (fun t (p, v) => t.setIfInBounds p v) a.tmps, defers := [] } W)
    (hbody : ∀ (l : Nat) (pre : List α) (x : α) (a' : Act) (W : World), JJ a pre x a' W → pre.length < N → Nx pre x → body.wpIn (F.inRound l) (n - 1 - 1) P (ownPost I Ix (pre ++ [x]) W) a' W)
    (hdone : ∀ (D : Nat) (xs : List α) (W : World), w.heap.size ≤ D → S xs → I xs W → W.heap[D]? = some (.deferred (some [])) → Q .normal { a with defers := { target := .collected D, args := #[] } :: a.defers } W)
    (hstop : ∀ (D : Nat) (c : Code) (pre : List α) (W : World), w.heap.size ≤ D → Sp pre → Ix c pre W → W.heap[D]? = some (.deferred (some [])) → c.wpIn F n P Q { a with defers := { target := .collected D, args := #[] } :: a.defers } W) :
    (Code.rangeFunc g ps assign body).wpIn F n P Q a w :=
  wpIn_iterateC hro h1 hg hFg eg hseq hps I Ix hI hIx hIR h0 (JJ a) hJ2 hassign hbody hdone hstop
end
theorem below_drewN (W : World) (k : Nat) : Below W.heap.size W (W.drewN k) := ⟨rfl, rfl, rfl, Nat.le_refl _, fun _ _ => rfl⟩
abbrev tpE : TypeId := 24
theorem size_allocE (w : World) (o : Obj) : (w.alloc o).heap.size = w.heap.size + 1 := by simp
theorem zip_oneE (a : Tmp) (x : Value) (ts : Array Value) : (((#[a] : Array Tmp).zip #[x]).foldl (fun t (p, v) => t.setIfInBounds p v) ts) = ts.setIfInBounds a x := by
  simp
/-- The loop's state: only the counter's box has changed. -/
def EaI (w0 : World) (g8 : Nat) (nn : Int) (pre : List Rt) (W : World) : Prop := Fr (fun k => k = g8) w0 W ∧ Blk W g8 [.int .i64 (pre.length : Nat)] 3 ∧ (pre.length : Int) ≤ nn
theorem fr_kc {w0 W W' : World} {S : Nat → Prop} {B : Nat} (hB : B = w0.heap.size) (h : Fr S w0 W) (hb : ∀ k, k < B → k < W.heap.size → W'.heap[k]? = W.heap[k]?) (hs : W.heap.size ≤ W'.heap.size) (ho : W'.os = W.os) (ht : W'.tape = W.tape) (hp : W'.output = W.output) : Fr S w0 W' :=
  ⟨ho.trans h.os, ht.trans h.tape, hp.trans h.output, Nat.le_trans h.size hs, fun k hk hn => (hb k (by omega) (by have := h.size; omega)).trans (h.block k hk hn)⟩
theorem eaI_own {w0 : World} {g8 : Nat} {nn : Int} : OwnFrom w0.heap.size (EaI w0 g8 nn) := by
  refine ownFrom_of ?_
  rintro s W W' ⟨h1, h2, h3⟩ hc hb hs ho ht hp
  exact ⟨fr_kc rfl h1 hb hs ho ht hp, hc _ _ h2 rfl, h3⟩
def EaX (w0 : World) (g8 : Nat) (nn : Int) (L : List Rt) (W : World) : Prop := Fr (fun k => k = g8) w0 W ∧ Blk W g8 [.int .i64 nn] 3 ∧ nn < (L.length : Int)
theorem eaX_own {w0 : World} {g8 : Nat} {nn : Int} {L : List Rt} (c c0 : Code) : OwnFrom w0.heap.size (fun (_ : List Rt) W => c = c0 ∧ EaX w0 g8 nn L W) := by
  refine ownFrom_of ?_
  rintro s W W' ⟨h0, h1, h2, h3⟩ hc hb hs ho ht hp
  exact ⟨h0, fr_kc rfl h1 hb hs ho ht hp, hc _ _ h2 rfl, h3⟩
theorem Fr.low2 {w0 W W' : World} {S : Nat → Prop} (h : Fr S w0 W) (hb : Below W.heap.size W W') : Fr S w0 W' :=
  ⟨hb.os.trans h.os, hb.tape.trans h.tape, hb.output.trans h.output, Nat.le_trans h.size hb.size, fun k hk hn => (hb.block k (by have := h.size; omega)).trans (h.block k hk hn)⟩
theorem EaI.below {w0 W W' : World} {g8 : Nat} {nn : Int} {pre : List Rt} (h : EaI w0 g8 nn pre W) (hb : Below W.heap.size W W') : EaI w0 g8 nn pre W' := ⟨h.1.low2 hb, h.2.1.step hb, h.2.2⟩
def EaJ (fr : Act) (w0 : World) (g8 : Nat) (nn : Int) (pre : List Rt) (x : Rt) (a' : Act) (W : World) : Prop := EaI w0 g8 nn pre W ∧ ∃ gr, a' = { tmps := (fr.tmps.setIfInBounds 30 (.agg #[.int .u32 (x.1.1 : Int), .int .i64 (x.1.2 : Int), .int .i64 x.2])).setIfInBounds 9 (.pointer (some ⟨gr, 0, none⟩)), defers := [] } ∧ Blk W gr [.int .u32 (x.1.1 : Int), .int .i64 (x.1.2 : Int), .int .i64 x.2] 37
theorem eaJ_own {fr : Act} {w0 : World} {g8 : Nat} {nn : Int} (x : Rt) (a' : Act) : OwnFrom w0.heap.size (fun pre => EaJ fr w0 g8 nn pre x a') := by
  refine ownFrom_of ?_
  rintro s W W' ⟨⟨h1, h2, h3⟩, gr, h4, h5⟩ hc hb hs ho ht hp
  exact ⟨⟨fr_kc rfl h1 hb hs ho ht hp, hc _ _ h2 rfl, h3⟩, gr, h4, hc _ _ h5 rfl⟩
/-- The answer is stored, the block for deferred calls is taken. -/
theorem ea_end {w W : World} {g D : Nat} (hb : Blk W g [.bool false] 4) (hg : w.heap.size ≤ g) (hlow : Below w.heap.size w W) (hD : W.heap[D]? = some (.deferred (some []))) (hDw : w.heap.size ≤ D) :
    ∃ W1, W.setCell ⟨g, 0, none⟩ (.bool true) = W1 ∧ W1.heap[D]? = some (.deferred (some [])) ∧ (W1.putObj D (.deferred none)).cell? ⟨g, 0, none⟩ = some (.bool true) ∧ Below w.heap.size w (W1.putObj D (.deferred none)) := by
  have hne : D ≠ g := by
    rintro rfl
    unfold Blk at hb
    rw [hD] at hb
    cases hb
  have hD1 : (W.setCell ⟨g, 0, none⟩ (.bool true)).heap[D]? = some (.deferred (some [])) := (Below.heap_setCell _ _ _ _ hne).trans hD
  have b1 : Blk (W.setCell ⟨g, 0, none⟩ (.bool true)) g [.bool true] 4 := hb.set_ 0 _
  have low1 := hlow.setCell (p := ⟨g, 0, none⟩) hg (.bool true)
  refine ⟨_, rfl, hD1, ?_, ?_⟩
  · have kc : KC (W.setCell ⟨g, 0, none⟩ (.bool true)) ((W.setCell ⟨g, 0, none⟩ (.bool true)).putObj D (.deferred none)) := ⟨by simp [World.putObj], fun k o hk ho => (World.putObj_heap_other (by rintro rfl; rw [hD1] at hk; cases hk; cases ho)).trans hk⟩
    exact (kc.blk b1).cell rfl
  · refine ⟨low1.os, low1.tape, low1.output, Nat.le_trans low1.size (by simp [World.putObj]), fun k hk => (World.putObj_heap_other (by omega)).trans (low1.block k hk)⟩
set_option maxRecDepth 100000 in
set_option maxHeartbeats 8000000 in
theorem lawEarly_main {w : World} {A : Option Addr} {n0 c0 : Nat} {ops : List OpV} {nn : Int} (h : OpsL w (.slice A n0 c0) ops) (hn : ops.length = n0) (hn8 : n0 ≤ 80) (h0 : 0 ≤ nn) :
    Calls Try.prog 8 #[.slice A n0 c0, .int .i64 nn] w fun e W => e = .returned (.bool true) ∧ Below w.heap.size w W := by
  have HO := Lib.hid h
  obtain ⟨w1, hw1, S⟩ : ∃ w1, (w.alloc (.cells #[.int .i64 nn] 3)).alloc (.cells #[.bool false] 4) = w1 ∧ Hid (Sr w [] [(w.heap.size + 1, [.bool false], 4), (w.heap.size, [.int .i64 nn], 3)] w1) := by
    have S := ((Sr.start w).alloc [.int .i64 nn] 3).alloc [.bool false] 4
    simp only [size_allocE] at S
    exact ⟨_, rfl, S⟩
  have hn1 : ¬ (80 : Int) < (n0 : Int) := by omega
  have hn2 : (n0 : Int) ≤ 80 := by omega
  have hn3 : ¬ nn < 0 := by omega
  have hA := Lib.hid (fun m W => (callsIn_wide (n := m)).2 (awake_any W))
  have hB := Lib.hid (fun m W (hW : Below w.heap.size w W) => (callsIn_wide (n := m)).2 (build_any (HO.out.below hW) (by omega)))
  have f1 : Fence.wide.fn 10 := trivial
  have f2 : Fence.wide.fn 11 := trivial
  have f3 : Fence.wide.fn 25 := trivial
  have hdd : ∀ k : Nat, (Fence.wide.depth.isSome = true → 1 ≤ k) := fun k h => by cases h
  have c0x0 := (S.out.at 0 rfl).cell (i := 0) rfl
  have c1x0 := (S.out.at 1 rfl).cell (i := 0) rfl
  clear h hn
  refine (callsIn_wide (n := 5)).1 ?_
  refine callsIn_of_wp_marks Try.func8 rfl trivial ?_ rfl
  simp only [Try.ntmps8, List.size_toArray, List.length_cons, List.length_nil, Nat.reduceAdd, Nat.reduceSub, Array.replicate_succ, Array.replicate_zero, List.push_toArray, List.append_toArray, List.nil_append, List.cons_append]
  gi_wp2_with ((try refine ⟨hdd _, ?_⟩); gi_at_call 10; fail)
  refine (hA.out _ _).mono ?_
  rintro e w2 ⟨rfl, hb⟩
  replace S := Lib.hid (S.out.below hb)
  clear hb hA hw1 c0x0 c1x0
  have c1x0 := (S.out.at 1 rfl).cell (i := 0) rfl
  gi_wp2_with ((try refine ⟨hdd _, ?_⟩); gi_at_call 11; fail)
  refine (hB.out _ _ S.out.low).mono ?_
  rintro e w3 ⟨gt, T, vr, rfl, hb, hl⟩
  obtain ⟨A2, c2, rfl, hc2, hc3⟩ := hb.2.form
  have hlow2 := hb.1.own.low
  replace S := Lib.hid ((S.out.below hlow2).push (fun _ _ hb' h => Bth.below h hb') hb)
  have HGw := Lib.hid (show w.heap.size + 1 < w3.heap.size from (S.out.at 0 rfl).lt)
  have HWF := Lib.hid hb.1.own.wf
  have HTL := Lib.hid hb.2.tl
  have HOw := Lib.hid hb.1.own
  clear hb hB hlow2 c1x0 hc2 hc3
  obtain ⟨L, hL⟩ : ∃ L, routes T = L := ⟨_, rfl⟩
  have HRL := Lib.hid hL
  rw [hL] at hl HTL ⊢
  obtain ⟨m, hm⟩ : ∃ m, L.length = m := ⟨_, rfl⟩
  have HM := Lib.hid hm
  rw [hm] at hl HTL ⊢
  rw [show (routes T).length = m by rw [hL, hm]] at S
  clear hL hm
  have S1 := ((S.out.alloc [.slice A2 m c2] 26).alloc [.int .i64 0] 3).alloc [.pointer (some ⟨gt, 0, none⟩)] tpE
  simp only [size_allocE] at S1
  obtain ⟨w4, hw4⟩ : ∃ w4, w3.alloc (.cells #[.slice A2 m c2] 26) = w4 := ⟨_, rfl⟩
  obtain ⟨w6, hw6⟩ : ∃ w6, (w4.alloc (.cells #[.int .i64 0] 3)).alloc (.cells #[.pointer (some ⟨gt, 0, none⟩)] tpE) = w6 := ⟨_, rfl⟩
  obtain ⟨g6, hg6⟩ : ∃ g6, w3.heap.size = g6 := ⟨_, rfl⟩
  have hg8 : w4.heap.size = g6 + 1 := by rw [← hw4, ← hg6]; simp
  have hs6 : w6.heap.size = g6 + 1 + 1 + 1 := by rw [← hw6]; simp [hg8]
  have T1 := Lib.hid S1
  simp only [List.toArray] at T1
  rw [hg6] at T1
  change Hid (Sr w _ _ (((w3.alloc (.cells #[.slice A2 m c2] 26)).alloc (.cells #[.int .i64 0] 3)).alloc (.cells #[.pointer (some ⟨gt, 0, none⟩)] tpE))) at T1
  rw [hw4, hw6] at T1
  clear S1 S
  gi_wp2_with ((try refine ⟨hdd _, ?_⟩); gi_at_call 25; refine (all_in _ (some ⟨gt, 0, none⟩) _).mono ?_; rintro e w' ⟨rfl, rfl⟩)
  have HB3 := Lib.hid (show Below w3.heap.size w3 w6 from by
    rw [← hw6, ← hw4]
    exact (((Below.refl _ w3).alloc (Nat.le_refl _) _).alloc (by simp) _).alloc (by simp; omega) _)
  have HB36 := Lib.hid hg6
  clear hw6 hw4 hg8
  obtain ⟨S0, ⟨hwfT, hTM⟩, -, -, hlowo⟩ := HOw.out
  obtain ⟨r0, hrB, hrA⟩ := hTM.blk
  have hlt3 := hTM.lt
  have hgt3 := hrB.lt
  have HLW := Lib.hid (fun pre W (hI : EaI w6 (g6 + 1) nn pre W) => (show Below w3.heap.size w3 W from HB3.out.trans (hI.1.low HB3.out.size (fun k hk => by have := HB36.out; omega))))
  have HrB := Lib.hid (hrB.step HB3.out)
  have HrA := Lib.hid (hrA.below HB3.out)
  have hbt := T1.out.at 0 rfl
  have HI0 : EaI w6 (g6 + 1) nn [] w6 := ⟨Fr.of_below (Below.refl _ _), T1.out.at 1 rfl, h0⟩
  clear hrB hrA hTM hwfT hlowo
  refine wpIn_iterateF rfl (by omega) (gf := 46) (lb := #[.pointer (some ⟨g6 + 1 + 1, 0, none⟩)]) (by simp [go_sem]) trivial (enters_of Try.func46 (by kernel_rfl) rfl)
    (all_pre _ (g6 + 1 + 1) gt T S0 r0 _ _ w6 _ hbt HrB.out HrA.out) (fun _ => rfl) (EaI w6 (g6 + 1) nn) (fun c _ W => c = .exit 0 ∧ EaX w6 (g6 + 1) nn L W) eaI_own (fun c => eaX_own c _) ?IR HI0 (fun fr => EaJ fr w6 (g6 + 1) nn) (fun x a' => eaJ_own x a') ?assign ?body ?done ?sto
  case IR =>
    rintro pre W hI g (hg | rfl | rfl)
    · exact hI.1.block g (by have := hlt3 g hg; have := HB3.out.size; omega) (fun e => by have := hlt3 g hg; have := HB36.out; omega)
    · exact hI.1.block _ (by omega) (by omega)
    · exact hI.1.block _ (by have := HB3.out.size; omega) (fun e => by have := HB36.out; omega)
  case assign =>
    rintro l pre x W K hI hN _ hK
    have HI := Lib.hid hI
    have HK := Lib.hid hK
    simp only [zip_oneE, List.setIfInBounds_toArray, List.set_cons_zero, List.set_cons_succ]
    obtain ⟨⟨xa, xl⟩, xv⟩ := x
    unfold rtV
    clear hI hK hN hbt HI0
    gi_wp2
    have hb : Below W.heap.size W (W.alloc (.cells #[.int .u32 (xa : Int), .int .i64 (xl : Int), .int .i64 xv] rtT)) := (Below.refl _ W).alloc (Nat.le_refl _) _
    exact HK.out _ _ ⟨HI.out.below hb, W.heap.size, rfl, Blk.new W [.int .u32 (xa : Int), .int .i64 (xl : Int), .int .i64 xv] rtT⟩ hb
  case body =>
    rintro l pre x a' W ⟨hI, gr, rfl, hbr⟩ hlen hpre
    rw [HRL.out] at hlen hpre
    have hpl := hpre.length_le
    rw [List.length_append, HM.out] at hpl
    obtain ⟨k, hk⟩ : ∃ k, pre.length = k := ⟨_, rfl⟩
    have hkm : k < m := by simp at hpl; omega
    have hlw := HLW.out _ _ hI
    have q8 := hI.2.1.cell (i := 0) rfl
    have f8 := hI.2.1.frozen (i := 0)
    have b3 : Blk W w.heap.size [.int .i64 nn] 3 := (T1.out.at 4 rfl).same (hI.1.block _ (T1.out.at 4 rfl).lt (fun e => by have := HGw.out; have := HB36.out; omega))
    have b6 : Blk W g6 [.slice A2 m c2] 26 := (T1.out.at 2 rfl).same (hI.1.block _ (T1.out.at 2 rfl).lt (by omega))
    have q3 := b3.cell (i := 0) rfl
    have q6 := b6.cell (i := 0) rfl
    have q90 := hbr.cell (i := 0) rfl
    have q91 := hbr.cell (i := 1) rfl
    have q92 := hbr.cell (i := 2) rfl
    rw [hk] at q8
    simp only [List.setIfInBounds_toArray, List.set_cons_zero, List.set_cons_succ]
    have HX := Lib.hid hI
    have HKE := Lib.hid hk
    by_cases hkn : (k : Int) = nn
    · subst hkn
      have HE := Lib.hid (show KeepsOthers W W ∧ EaX w6 (g6 + 1) (k : Int) L W from ⟨KeepsOthers.low (Below.refl _ _), hI.1, by have := hI.2.1; rw [hk] at this; exact this, by rw [HM.out]; omega⟩)
      clear hI hbr hlen hpre hpl hk hlw b3 b6 f8 q90 q91 q92 q6 hbt HI0
      gi_wp2
      exact ⟨HE.out.1, rfl, HE.out.2⟩
    · have hk1 : (k : Int) < nn := by have := hI.2.2; rw [hk] at this; omega
      have hk2 : ¬ (m : Int) ≤ (k : Int) := by omega
      have hk3 : (k : Int) < (m : Int) := by omega
      have hk4 : (0 : Int) ≤ (k : Int) := by omega
      have hk5 : IntKind.i64.wrap ((k : Int) + 1) = (k : Int) + 1 := IntWalk.i64_in _ (by omega)
      have hkl : k < L.length := by rw [HM.out]; exact hkm
      obtain ⟨A', c', e', hel⟩ := HTL.out
      injection e' with e1 e2 e3
      subst e1 e3
      clear e2
      obtain ⟨g, rfl, hg, d0, d1, d2⟩ := hel k hkl
      have hxk : L[k] = x := by
        obtain ⟨r, hr⟩ := hpre
        have h1 : L[k]? = some x := by rw [← hr, ← hk]; simp
        rw [List.getElem?_eq_getElem hkl] at h1
        exact Option.some.inj h1
      rw [hxk] at d0 d1 d2
      replace d0 := (hlw.cell (p := ⟨g, k * 3, none⟩) hg).trans d0
      replace d1 := (hlw.cell (p := ⟨g, k * 3 + 1, none⟩) hg).trans d1
      replace d2 := (hlw.cell (p := ⟨g, k * 3 + 2, none⟩) hg).trans d2
      have HE := Lib.hid (fun nq => (show KeepsOthers W ((W.drewN nq).setCell ⟨g6 + 1, 0, none⟩ (.int .i64 ((k : Int) + 1))) ∧ EaI w6 (g6 + 1) nn (pre ++ [x]) ((W.drewN nq).setCell ⟨g6 + 1, 0, none⟩ (.int .i64 ((k : Int) + 1))) from by
        have hdr := below_drewN W nq
        have hI2 := hI.below hdr
        have e8 : Blk (W.drewN nq) (g6 + 1) [.int .i64 (k : Nat)] 3 := by have := hI2.2.1; rw [hk] at this; exact this
        exact ⟨(KeepsOthers.low hdr).trans (KeepsOthers.setCell _ _ _), hI2.1.trans (Fr.set (W.drewN nq) ⟨g6 + 1, 0, none⟩ (.int .i64 ((k : Int) + 1)) (S := fun j => j = g6 + 1) rfl) (fun _ h => h) (fun _ h => .inl h), by
          rw [List.length_append, hk, show ((k + [x].length : Nat) : Int) = (k : Int) + 1 by simp]
          exact e8.set_ 0 _, by rw [List.length_append, hk]; simp; omega⟩))
      clear hI hbr hlen hpre hpl hk hlw b3 b6 hbt HI0 hel hg hxk HX T1 HTL
      gi_wp2
      refine quiet_round (noDefer_of (by kernel_rfl)) (by kernel_rfl) (by kernel_rfl) ?_
      repeat (quiet_step_in (fail))
      refine wpQuietIn_nil ?_
      intro _ hw'
      obtain ⟨nq, hw''⟩ := hw'
      subst hw''
      gi_wp2
      exact HE.out nq
  case done =>
    rintro D xs W hD rfl hI hK
    have hlw := HLW.out _ _ hI
    have b3 : Blk W w.heap.size [.int .i64 nn] 3 := (T1.out.at 4 rfl).same (hI.1.block _ (T1.out.at 4 rfl).lt (fun e => by have := HGw.out; have := HB36.out; omega))
    have b4 : Blk W (w.heap.size + 1) [.bool false] 4 := (T1.out.at 3 rfl).same (hI.1.block _ (T1.out.at 3 rfl).lt (fun e => by have := HGw.out; have := HB36.out; omega))
    have b6 : Blk W g6 [.slice A2 m c2] 26 := (T1.out.at 2 rfl).same (hI.1.block _ (T1.out.at 2 rfl).lt (by omega))
    have hlen : (routes T).length = m := by rw [HRL.out, HM.out]
    have q8 := hI.2.1.cell (i := 0) rfl
    have hmn := hI.2.2
    rw [hlen] at q8 hmn
    have q3 := b3.cell (i := 0) rfl
    have q6 := b6.cell (i := 0) rfl
    have q4 := b4.cell (i := 0) rfl
    have f4 := b4.frozen (i := 0)
    obtain ⟨W1, hW1, hD1, k0, low⟩ := ea_end b4 (by omega) (T1.out.low.trans (hI.1.low T1.out.low.size (fun k hk => by have := HGw.out; have := HB36.out; omega))) hK (Nat.le_trans T1.out.low.size hD)
    have HD := Lib.hid hD1
    have K0 := Lib.hid k0
    have HLo := Lib.hid low
    have hmin : min nn (m : Int) = (m : Int) := by omega
    clear hI hlw b3 b4 b6 hlen hD1 k0 low hbt HI0 hK
    gi_wp2
    refine ⟨by simp, .inl ⟨_, _, rfl, run_takeDeferred HD.out, ?_⟩⟩
    have e0 := K0.out
    exact ⟨.bool true, by simp [results, Try.results8, go_sem, e0], rfl, HLo.out⟩
  case sto =>
    rintro D c pre W hD _ ⟨rfl, hx1, hx2, hx3⟩ hK
    have b3 : Blk W w.heap.size [.int .i64 nn] 3 := (T1.out.at 4 rfl).same (hx1.block _ (T1.out.at 4 rfl).lt (fun e => by have := HGw.out; have := HB36.out; omega))
    have b4 : Blk W (w.heap.size + 1) [.bool false] 4 := (T1.out.at 3 rfl).same (hx1.block _ (T1.out.at 3 rfl).lt (fun e => by have := HGw.out; have := HB36.out; omega))
    have b6 : Blk W g6 [.slice A2 m c2] 26 := (T1.out.at 2 rfl).same (hx1.block _ (T1.out.at 2 rfl).lt (by omega))
    have q8 := hx2.cell (i := 0) rfl
    rw [HM.out] at hx3
    have q3 := b3.cell (i := 0) rfl
    have q6 := b6.cell (i := 0) rfl
    have q4 := b4.cell (i := 0) rfl
    have f4 := b4.frozen (i := 0)
    obtain ⟨W1, hW1, hD1, k0, low⟩ := ea_end b4 (by omega) (T1.out.low.trans (hx1.low T1.out.low.size (fun k hk => by have := HGw.out; have := HB36.out; omega))) hK (Nat.le_trans T1.out.low.size hD)
    have HD := Lib.hid hD1
    have K0 := Lib.hid k0
    have HLo := Lib.hid low
    have hmin : min nn (m : Int) = nn := by omega
    clear hx1 hx2 hx3 b3 b4 b6 hD1 k0 low hbt HI0 hK
    gi_wp2
    refine ⟨by simp, .inl ⟨_, _, rfl, run_takeDeferred HD.out, ?_⟩⟩
    have e0 := K0.out
    exact ⟨.bool true, by simp [results, Try.results8, go_sem, e0], rfl, HLo.out⟩
set_option maxRecDepth 100000 in
set_option maxHeartbeats 8000000 in
theorem lawEarly_out {w : World} {A : Option Addr} {n0 c0 : Nat} {nn : Int} (hn : 80 < n0 ∨ nn < 0) :
    Calls Try.prog 8 #[.slice A n0 c0, .int .i64 nn] w fun e W => e = .returned (.bool true) ∧ Below w.heap.size w W := by
  obtain ⟨w1, hw1, S⟩ : ∃ w1, (w.alloc (.cells #[.int .i64 nn] 3)).alloc (.cells #[.bool false] 4) = w1 ∧ Hid (Sr w [] [(w.heap.size + 1, [.bool false], 4), (w.heap.size, [.int .i64 nn], 3)] w1) := by
    have S := ((Sr.start w).alloc [.int .i64 nn] 3).alloc [.bool false] 4
    simp only [size_allocE] at S
    exact ⟨_, rfl, S⟩
  have hA := Lib.hid (fun W => awake_any W)
  by_cases h80 : 80 < n0
  · have hn1 : (80 : Int) < (n0 : Int) := by omega
    clear hn
    go_enter Try.func8, Try.ntmps8
    go_wp2_with fail
    refine (hA.out _).mono ?_
    rintro e w2 ⟨rfl, hb⟩
    replace S := Lib.hid (S.out.below hb)
    clear hb hw1
    go_wp2_with fail
    refine (hA.out _).mono ?_
    rintro e w3 ⟨rfl, hb⟩
    replace S := Lib.hid (S.out.below hb)
    clear hb hA
    have c0x0 := (S.out.at 0 rfl).cell (i := 0) rfl
    have f0x0 := (S.out.at 0 rfl).frozen (i := 0)
    go_wp2_with fail
    have T := Lib.hid (S.out.set 0 rfl (by omega) 0 (.bool true) rfl)
    simp only [List.set_cons_zero] at T
    have c0x0 := (T.out.at 0 rfl).cell (i := 0) rfl
    refine bodyPost_ret (v := .bool true) (by simp [results, Try.results8, go_sem, c0x0]) rfl ?_
    exact ⟨rfl, T.out.low⟩
  · have hn1 : ¬ (80 : Int) < (n0 : Int) := by omega
    have hn2 : nn < 0 := hn.resolve_left h80
    clear hn
    go_enter Try.func8, Try.ntmps8
    go_wp2_with fail
    refine (hA.out _).mono ?_
    rintro e w2 ⟨rfl, hb⟩
    replace S := Lib.hid (S.out.below hb)
    clear hb hw1
    have c1x0 := (S.out.at 1 rfl).cell (i := 0) rfl
    go_wp2_with fail
    refine (hA.out _).mono ?_
    rintro e w3 ⟨rfl, hb⟩
    replace S := Lib.hid (S.out.below hb)
    clear hb hA c1x0
    have c0x0 := (S.out.at 0 rfl).cell (i := 0) rfl
    have f0x0 := (S.out.at 0 rfl).frozen (i := 0)
    go_wp2_with fail
    have T := Lib.hid (S.out.set 0 rfl (by omega) 0 (.bool true) rfl)
    simp only [List.set_cons_zero] at T
    have c0x0 := (T.out.at 0 rfl).cell (i := 0) rfl
    refine bodyPost_ret (v := .bool true) (by simp [results, Try.results8, go_sem, c0x0]) rfl ?_
    exact ⟨rfl, T.out.low⟩
theorem lawEarly {w : World} {v : Value} {ops : List OpV} (h : OpsL w v ops) (nn : Int) : Calls Try.prog 8 #[v, .int .i64 nn] w fun e W => e = .returned (.bool true) ∧ Below w.heap.size w W := by
  have h2 := h
  obtain ⟨A, c, rfl, -⟩ := h2
  by_cases hn : 80 < ops.length ∨ nn < 0
  · exact lawEarly_out hn
  · exact lawEarly_main h rfl (by omega) (by omega)
end Go.Proofs.Ytamkegnnlbefdaa
