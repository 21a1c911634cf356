/- records: the iterator of package codec. -/
import Derived.Test.YtamkegnnlbefdabCoF
import Derived.Test.YtamkegnnlbefdabCoIt
import Derived.RangeFuncBound
import Derived.OwnWalkIn
import Derived.TacticsInMore
namespace Go.Proofs.Ytamkegnnlbefdab
open Go.RowKit
attribute [local go_sem] Oper.semAt_some

/-- What is yielded: a record, with the value that its bytes have; or an error. -/
abbrev Yx := Value × Option Rc
def encX (x : Yx) : Array Value := match x.2 with
  | some r => #[.agg #[.int .i64 r.1, x.1], .int .i64 0]
  | none => #[.agg #[.int .i64 0, .slice none 0 0], .int .i64 4]
def EX (x : Yx) (W : World) : Prop := match x.2 with
  | some r => (∃ A n c, x.1 = .slice A n c) ∧ ByT W x.1 r.2
  | none => True
def recs (xs : List Yx) : List Rc := xs.filterMap (·.2)
def allGood (xs : List Yx) : Prop := ∀ x ∈ xs, x.2 ≠ none
def Nx7 (b : List UInt8) (pre : List Yx) (x : Yx) : Prop := allGood pre ∧ ∃ t, At7 b (recs pre) t ∧ t ≠ [] ∧ match x.2 with
  | some r => ∃ rest, dec1 t = some (r, rest)
  | none => dec1 t = none
def S7 (b : List UInt8) (xs : List Yx) : Prop := allGood xs → decS b = some (recs xs)
theorem recs_snoc (xs : List Yx) (v : Value) (r : Rc) : recs (xs ++ [(v, some r)]) = recs xs ++ [r] := by simp [recs]
theorem allGood_snoc {xs : List Yx} (h : allGood xs) (v : Value) (r : Rc) : allGood (xs ++ [(v, some r)]) := fun x hx => by
  rcases List.mem_append.1 hx with hx | hx
  · exact h x hx
  · simp at hx; subst hx; simp
theorem allGood_bad (xs : List Yx) (v : Value) : ¬ allGood (xs ++ [(v, none)]) := fun h => h (v, none) (by simp) rfl
theorem wide_room (k : Nat) : Fence.wide.room k := fun d h => by cases h
theorem wide_round {m m' : Nat} {P : Program} {l : Nat} {f : FuncId} {tmps : Array Value} {assign body : Code} {w : World} {R : Ending → World → Prop} (h : RoundIn Fence.wide m P l f tmps assign body w R) : RoundIn Fence.wide m' P l f tmps assign body w R := ⟨h.1, fun c cs _ => h.2 c cs (wide_room _)⟩
theorem wide_yield {m : Nat} (m' : Nat) {P : Program} {l : Nat} {args : Array Value} {W : World} {R : Ending → World → Prop} (h : YieldAt Fence.wide m P l args W R) : YieldAt Fence.wide m' P l args W R := by
  obtain ⟨fn, tmps, assign, body, hy, hR⟩ := h
  exact ⟨fn, tmps, assign, body, hy, wide_round hR⟩
abbrev yV (l : Nat) : Value := .func (.yield l) #[] #[]
def lenV : Value → Nat
  | .slice _ n _ => n
  | _ => 0
/-- What the iterator's loop leaves. -/
def ItQ (b : List UInt8) (J Jx : List Yx → World → Prop) (e : Ending) (W' : World) : Prop := (∃ v, e = .returned v) ∧ ((∃ xs, S7 b xs ∧ J xs W') ∨ (∃ pre, True ∧ Jx pre W'))
set_option maxRecDepth 100000 in
set_option maxHeartbeats 8000000 in
theorem rec_iter (n Bs : Nat) (w W0 : World) (A : Option Addr) (n0 c0 : Nat) (b : List UInt8) (hA : By w (.slice A n0 c0) b) :
    IteratesE Fence.wide n Try.prog 31 #[.pointer (some ⟨Bs, 0, none⟩)] encX (fun _ W => Below w.heap.size w W ∧ W.cell? ⟨Bs, 0, none⟩ = some (.slice A n0 c0)) (Nx7 b) EX (S7 b) (fun _ => True) W0 := by
  intro l J Jx W _ hR hK hY h0
  show CallsIn _ _ _ _ _ W (ItQ b J Jx)
  have cB := (hR _ _ h0).2
  have H0 := Lib.hid h0
  have HR := Lib.hid hR
  have HK := Lib.hid hK
  have HY := Lib.hid (fun m pre x W h1 h2 h3 => wide_yield m (hY pre x W h1 h2 h3))
  have HA := Lib.hid hA
  have hdd : ∀ k : Nat, (Fence.wide.depth.isSome = true → 1 ≤ k) := fun k h => by cases h
  have hfc : Fence.wide.fn 32 := trivial
  clear h0 hR hK hY hA
  refine callsIn_of_wp Try.func31 rfl trivial ?_ rfl
  simp only [Try.ntmps31, List.size_toArray, List.length_cons, List.length_nil, Nat.reduceAdd, Nat.reduceSub, Array.replicate_succ, Array.replicate_zero, List.push_toArray, List.append_toArray, List.nil_append, List.cons_append]
  gi_wp2
  clear cB
  gi_loopw [3] (fun v wr => ∃ (A' : Option Addr) (n' c' : Nat) (t : List UInt8) (pre : List Yx), v = .slice A' n' c' ∧ Hid (By w (.slice A' n' c') t ∧ ((allGood pre ∧ At7 b (recs pre) t) ∨ (t = [] ∧ ¬ allGood pre)) ∧ J pre wr)) (fun v _ => lenV v)
  case atStart => exact ⟨A, n0, c0, b, [], rfl, HA.out, .inl ⟨fun x hx => (by simp at hx), at7_start b⟩, H0.out⟩
  case round =>
    clear H0
    obtain ⟨A', n', c', t, pre, rfl, HS⟩ := hrel
    obtain ⟨e1, hc1, hc2⟩ := HS.out.1.len
    by_cases ht : t = []
    · obtain rfl : n' = 0 := by rw [e1, ht]; rfl
      have hS : Hid (S7 b pre ∧ J pre wr) := ⟨fun hg => by
        rcases HS.out.2.1 with ⟨_, h2⟩ | ⟨_, h2⟩
        · rw [ht] at h2; exact h2.done
        · exact absurd hg h2, HS.out.2.2⟩
      clear HS e1
      gi_wp2
      go_end0
      exact ⟨⟨_, rfl⟩, .inl ⟨pre, hS.out.1, hS.out.2⟩⟩
    · have hn : 0 < n' := by
        rw [e1]
        exact List.length_pos_iff.2 ht
      have hn' : (0 : Int) < (n' : Int) := by omega
      have hg : allGood pre ∧ At7 b (recs pre) t := by
        rcases HS.out.2.1 with h | ⟨h, _⟩
        · exact h
        · exact absurd h ht
      have hlow := (HR.out _ _ HS.out.2.2).1
      cases hd : dec1 t with
      | none =>
        have HC := Lib.hid ((callsIn_wide (n := n - 1)).2 (cut_none (HS.out.1.below hlow) hd))
        have HX := Lib.hid (show Nx7 b pre (.slice none 0 0, none) from ⟨hg.1, t, hg.2, ht, hd⟩)
        have HJ := Lib.hid HS.out.2.2
        clear hd hg hlow HS e1 ht
        gi_wp2_with (first
          | ((try refine ⟨hdd _, ?_⟩); gi_at_call 32; refine HC.out.mono ?_; clear HC; rintro e w1 ⟨rfl, hb⟩; obtain ⟨fn, tmps, assign, body, hy, hR⟩ := (show YieldAt Fence.wide (n - 1) Try.prog l #[.agg #[.int .i64 0, .slice none 0 0], .int .i64 4] (w1.alloc (.cells #[.int .i64 0, .slice none 0 0] 56)) _ from HY.out (n - 1) pre (.slice none 0 0, none) (w1.alloc (.cells #[.int .i64 0, .slice none 0 0] prT)) (HK.out _ _ _ HJ.out (hb.alloc hb.size _)) trivial HX.out); clear hb HJ)
          | ((try refine ⟨hdd _, ?_⟩); refine hR.mono ?_; clear hR; rintro e W2 (⟨rfl, hJ2⟩ | ⟨rfl, hx2⟩)))
        · have HJ2 := Lib.hid hJ2
          clear hJ2 hy
          go_roundw
          case rel => exact ⟨none, 0, 0, [], pre ++ [(.slice none 0 0, none)], rfl, By.nil _, .inr ⟨rfl, allGood_bad _ _⟩, HJ2.out⟩
          case measure => simp [lenV]; omega
        · have HJ2 := Lib.hid hx2
          clear hx2 hy
          gi_wp2
          refine bodyPost_ret (results_none rfl _ _ _) rfl ?_
          exact ⟨⟨_, rfl⟩, .inr ⟨_, trivial, HJ2.out⟩⟩
      | some y =>
        obtain ⟨r, rest⟩ := y
        have HC := Lib.hid ((callsIn_wide (n := n - 1)).2 (cut_some (HS.out.1.below hlow) hd))
        have HX := Lib.hid (fun v => (show Nx7 b pre (v, some r) from ⟨hg.1, t, hg.2, ht, rest, hd⟩))
        have HJ := Lib.hid HS.out.2.2
        have HT := Lib.hid HS.out.1
        have HL := Lib.hid (dec1_some hd).2.2
        have HG := Lib.hid (fun v => (⟨allGood_snoc hg.1 v r, by rw [recs_snoc]; exact hg.2.step hd⟩ : allGood (pre ++ [(v, some r)]) ∧ At7 b (recs (pre ++ [(v, some r)])) rest))
        have HE := Lib.hid e1
        clear hd hg hlow HS e1 ht
        gi_wp2_with (first
          | ((try refine ⟨hdd _, ?_⟩); gi_at_call 32; refine HC.out.mono ?_; clear HC; rintro e w1 ⟨A1, n1, c1, A2, n2, c2, rfl, hT, hB, hb⟩; obtain ⟨fn, tmps, assign, body, hy, hR⟩ := (show YieldAt Fence.wide (n - 1) Try.prog l #[.agg #[.int .i64 r.1, .slice A1 n1 c1], .int .i64 0] (w1.alloc (.cells #[.int .i64 r.1, .slice A1 n1 c1] 56)) _ from HY.out (n - 1) pre (.slice A1 n1 c1, some r) (w1.alloc (.cells #[.int .i64 r.1, .slice A1 n1 c1] prT)) (HK.out _ _ _ HJ.out (hb.alloc hb.size _)) ⟨⟨_, _, _, rfl⟩, hT.keep (K8.below ((Below.refl _ _).alloc (Nat.le_refl _) _))⟩ (HX.out _)); have HB := Lib.hid (hB _ HT.out); clear hb HJ hT hB)
          | ((try refine ⟨hdd _, ?_⟩); refine hR.mono ?_; clear hR; rintro e W2 (⟨rfl, hJ2⟩ | ⟨rfl, hx2⟩)))
        · have HJ2 := Lib.hid hJ2
          have HM := Lib.hid HB.out.len
          clear hJ2 hy
          go_roundw
          case rel => exact ⟨A2, n2, c2, rest, pre ++ [(.slice A1 n1 c1, some r)], rfl, HB.out, .inl (HG.out _), HJ2.out⟩
          case measure => have h1 := HM.out.1; have h2 := HL.out; have h3 := HE.out; simp [lenV]; omega
        · have HJ2 := Lib.hid hx2
          clear hx2 hy
          gi_wp2
          refine bodyPost_ret (results_none rfl _ _ _) rfl ?_
          exact ⟨⟨_, rfl⟩, .inr ⟨_, trivial, HJ2.out⟩⟩
set_option maxRecDepth 100000 in
theorem records_in (n : Nat) (A : Option Addr) (n0 c0 : Nat) (w : World) : CallsIn Fence.wide n Try.prog 27 #[.slice A n0 c0] w fun e w' => e = .returned (.func (.func 31) #[] #[.pointer (some ⟨w.heap.size, 0, none⟩)]) ∧ w' = w.alloc (.cells #[.slice A n0 c0] 27) := by
  refine callsIn_of_wp Try.func27 rfl trivial ?_ rfl
  simp only [Try.ntmps27, List.size_toArray, List.length_cons, List.length_nil, Nat.reduceAdd, Nat.reduceSub, Array.replicate_succ, Array.replicate_zero, List.push_toArray, List.append_toArray, List.nil_append, List.cons_append]
  gi_wp2
  go_ret
  exact ⟨rfl, rfl⟩
end Go.Proofs.Ytamkegnnlbefdab
