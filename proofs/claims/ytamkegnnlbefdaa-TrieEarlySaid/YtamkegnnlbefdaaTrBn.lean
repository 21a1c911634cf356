/- The iterator of a trie, with what has come before each route. -/
import Derived.Test.YtamkegnnlbefdaaTrL
namespace Go.Proofs.Ytamkegnnlbefdaa
open Go.RowKit
attribute [local go_sem] Oper.semAt_some

set_option maxRecDepth 100000 in
set_option maxHeartbeats 4000000 in
theorem visit_pre (l : Nat) (LL : List Rt) (W0 : World) (S0 : Nat → Prop) (J Jx : List Rt → World → Prop) (hA : ∀ pre W W', J pre W → Below W.heap.size W W' → J pre W') (hR : ∀ pre W, J pre W → ∀ g, S0 g → W.heap[g]? = W0.heap[g]?)
    (hY : ∀ m pre x W, J pre W → pre ++ [x] <+: LL → YieldAt Fence.wide m Try.prog l #[rtV x.1 x.2] W fun e W' => (e = .returned (.bool true) ∧ J (pre ++ [x]) W') ∨ (e = .returned (.bool false) ∧ Jx (pre ++ [x]) W')) (T : Tr) :
    ∀ (n : Nat) (cur : Value) (pre : List Rt) (W : World) (S : Nat → Prop), At T W0 cur S → (∀ g, S g → S0 g) → J pre W → pre ++ routes T <+: LL →
      CallsIn Fence.wide n Try.prog 41 #[cur, yV l] W (VisQ J Jx pre (routes T)) := by
  induction T with
  | nil =>
    intro n cur pre W S ht _ hJ _
    obtain rfl := ht.nil_val
    refine callsIn_of_wp Try.func41 rfl trivial ?_ rfl
    simp only [Try.ntmps41, List.size_toArray, List.length_cons, List.length_nil, Nat.reduceAdd, Nat.reduceSub, Array.replicate_succ, Array.replicate_zero, List.push_toArray, List.append_toArray, List.nil_append, List.cons_append]
    gi_wp2
    go_ret
    exact .inl ⟨rfl, by simpa [routes] using hJ⟩
  | node p x h tl tr ihl ihr =>
    intro n cur pre W S ht hS hJ hN
    obtain ⟨g, u, v, Sl, Sr', rfl, hg, hb, hl, hr, d1, d2⟩ := ht
    have hf1 : Fence.wide.fn 35 := trivial
    have hf2 : Fence.wide.fn 41 := trivial
    have hdd : ∀ k : Nat, (Fence.wide.depth.isSome = true → 1 ≤ k) := fun k h => by cases h
    have hbW : ∀ pre2 W2, J pre2 W2 → Blk W2 g (ndC p x h u v) ndT := fun pre2 W2 hj => hb.same (hR pre2 W2 hj g (hS g hg))
    have hright : ∀ (pre2 : List Rt) (W3 : World), J pre2 W3 → pre2 ++ routes tr <+: LL → CallsIn Fence.wide (n - 1) Try.prog 41 #[v, yV l] W3 (VisQ J Jx pre2 (routes tr)) := fun pre2 W3 hJ3 h3 =>
      ihr (n - 1) v pre2 W3 Sr' hr (fun k h1 => hS k (d2 k h1).1) hJ3 h3
    have hleft : ∀ (pre2 : List Rt) (W2 : World), J pre2 W2 → pre2 ++ routes tl <+: LL → CallsIn Fence.wide (n - 1) Try.prog 41 #[u, yV l] W2 (fun e W3 => (e = .returned (.bool true) ∧ J (pre2 ++ routes tl) W3 ∧ W3.cell? ⟨g, 5, none⟩ = some v) ∨ (e = .returned (.bool false) ∧ ∃ q, q <+: routes tl ∧ q ≠ [] ∧ Jx (pre2 ++ q) W3)) := fun pre2 W2 hJ2 h2 =>
      (ihl (n - 1) u pre2 W2 Sl hl (fun k h1 => hS k (d1 k h1).1) hJ2 h2).mono fun e W3 hq => hq.elim (fun ⟨h3, h4⟩ => .inl ⟨h3, h4, (hbW _ _ h4).cell rfl⟩) .inr
    have hbN := hbW _ _ hJ
    have hroute := (callsIn_wide (n := n - 1)).2 (route_any hbN)
    have hyield : ∀ W1, Below W.heap.size W W1 → h = true → YieldAt Fence.wide (n - 1) Try.prog l #[rtV p x] W1 fun e W2 => (e = .returned (.bool true) ∧ J (pre ++ [(p, x)]) W2 ∧ W2.cell? ⟨g, 4, none⟩ = some u) ∨ (e = .returned (.bool false) ∧ Jx (pre ++ [(p, x)]) W2) := fun W1 hb1 hh =>
      YieldAt.mono (hY (n - 1) pre (p, x) W1 (hA _ _ _ hJ hb1) (List.IsPrefix.trans ⟨routes tl ++ routes tr, by rw [hh]; simp [routes]⟩ hN)) fun e W2 hq => hq.elim (fun ⟨h3, h4⟩ => .inl ⟨h3, h4, (hbW _ _ h4).cell rfl⟩) .inr
    have c3 := hbN.cell (i := 3) rfl
    have c4 := hbN.cell (i := 4) rfl
    clear ihl ihr hl hr d1 d2 hb hA hY hS hg hR hbW hbN
    unfold ptr at hroute ⊢
    cases h with
    | true =>
      clear c4
      refine callsIn_of_wp Try.func41 rfl trivial ?_ rfl
      simp only [Try.ntmps41, List.size_toArray, List.length_cons, List.length_nil, Nat.reduceAdd, Nat.reduceSub, Array.replicate_succ, Array.replicate_zero, List.push_toArray, List.append_toArray, List.nil_append, List.cons_append]
      gi_wp2_with (first
        | ((try refine ⟨hdd _, ?_⟩); gi_at_call 35; refine hroute.mono ?_; clear hroute; rintro e W1 ⟨rfl, hb1⟩; obtain ⟨fn, tmps, assign, body, hy, hR⟩ := hyield W1 hb1 rfl; clear hyield)
        | ((try refine ⟨hdd _, ?_⟩); refine hR.mono ?_; clear hR; rintro e W2 (⟨rfl, hJ2, c4⟩ | ⟨rfl, hx2⟩))
        | ((try refine ⟨hdd _, ?_⟩); gi_at_call 41; refine (hleft _ _ hJ2 (List.IsPrefix.trans ⟨routes tr, by simp [routes]⟩ hN)).mono ?_; clear hleft; rintro e W3 (⟨rfl, hJ3, c5⟩ | ⟨rfl, q, hq, hq0, hx3⟩))
        | ((try refine ⟨hdd _, ?_⟩); gi_at_call 41; refine (hright _ _ hJ3 (by simpa [routes] using hN)).mono ?_; rintro e W4 (⟨rfl, hJ4⟩ | ⟨rfl, q, hq, hq0, hx4⟩)))
      · go_ret
        exact .inl ⟨rfl, by simpa [routes, List.append_assoc] using hJ4⟩
      · go_ret
        obtain ⟨r, hr'⟩ := hq
        exact .inr ⟨rfl, (p, x) :: (routes tl ++ q), ⟨r, by simp [routes, ← hr']⟩, by simp, by simpa [List.append_assoc] using hx4⟩
      · go_ret
        obtain ⟨r, hr'⟩ := hq
        exact .inr ⟨rfl, (p, x) :: q, ⟨r ++ routes tr, by simp [routes, ← hr']⟩, by simp, by simpa [List.append_assoc] using hx3⟩
      · go_ret
        exact .inr ⟨rfl, [(p, x)], ⟨routes tl ++ routes tr, by simp [routes]⟩, by simp, hx2⟩
    | false =>
      clear hroute hyield
      refine callsIn_of_wp Try.func41 rfl trivial ?_ rfl
      simp only [Try.ntmps41, List.size_toArray, List.length_cons, List.length_nil, Nat.reduceAdd, Nat.reduceSub, Array.replicate_succ, Array.replicate_zero, List.push_toArray, List.append_toArray, List.nil_append, List.cons_append]
      gi_wp2
      refine ⟨fun _ h => (by cases h), ?_⟩
      gi_wp2_with (first
        | ((try refine ⟨hdd _, ?_⟩); gi_at_call 41; refine (hleft _ _ hJ (List.IsPrefix.trans ⟨routes tr, by simp [routes]⟩ hN)).mono ?_; clear hleft; rintro e W3 (⟨rfl, hJ3, c5⟩ | ⟨rfl, q, hq, hq0, hx3⟩))
        | ((try refine ⟨hdd _, ?_⟩); gi_at_call 41; refine (hright _ _ hJ3 (by simpa [routes] using hN)).mono ?_; rintro e W4 (⟨rfl, hJ4⟩ | ⟨rfl, q, hq, hq0, hx4⟩)))
      · go_ret
        exact .inl ⟨rfl, by simpa [routes, List.append_assoc] using hJ4⟩
      · go_ret
        obtain ⟨r, hr'⟩ := hq
        exact .inr ⟨rfl, routes tl ++ q, ⟨r, by simp [routes, ← hr']⟩, by simp [hq0], by simpa [List.append_assoc] using hx4⟩
      · go_ret
        obtain ⟨r, hr'⟩ := hq
        exact .inr ⟨rfl, q, ⟨r ++ routes tr, by simp [routes, ← hr']⟩, hq0, hx3⟩
set_option maxRecDepth 100000 in
set_option maxHeartbeats 4000000 in
/-- The iterator of a trie. -/
theorem all_pre (n Bt gt : Nat) (T : Tr) (S : Nat → Prop) (r : Value) (R N : Nat) (W0 w : World) (hBt : Blk W0 Bt [ptr gt] 24) (hB : Blk W0 gt (trC r R N) trT) (hT : At T W0 r S) :
    IteratesB Fence.wide n Try.prog 46 #[.pointer (some ⟨Bt, 0, none⟩)] (fun x : Rt => #[rtV x.1 x.2]) (fun _ W => AllR W0 Bt gt S W) (fun pre x => pre ++ [x] <+: routes T) (fun ys => ys = routes T) (fun pre => pre <+: routes T ∧ pre ≠ []) (routes T).length w := by
  intro l J Jx W _ hR hA hY h0
  have hv := visit_pre l (routes T) W0 S J Jx hA (fun pre W hj g hg => hR pre W hj g (.inl hg)) (fun m pre x W hj hp => wide_yield m (hY pre x W hj (by have := hp.length_le; simp at this; omega) hp)) T (n - 1) r [] W S hT (fun _ h => h) h0 (by simp)
  have hf2 : Fence.wide.fn 41 := trivial
  have hdd : ∀ k : Nat, (Fence.wide.depth.isSome = true → 1 ≤ k) := fun k h => by cases h
  have c0 := (hB.same (hR _ _ h0 gt (.inr (.inr rfl)))).cell (i := 0) rfl
  have cB := (hBt.same (hR _ _ h0 Bt (.inr (.inl rfl)))).cell (i := 0) rfl
  clear hB hT hA hY hR hBt
  unfold ptr at cB
  refine callsIn_of_wp Try.func46 rfl trivial ?_ rfl
  simp only [Try.ntmps46, List.size_toArray, List.length_cons, List.length_nil, Nat.reduceAdd, Nat.reduceSub, Array.replicate_succ, Array.replicate_zero, List.push_toArray, List.append_toArray, List.nil_append, List.cons_append]
  gi_wp2_with ((try refine ⟨hdd _, ?_⟩); gi_at_call 41; refine hv.mono ?_; clear hv; rintro e W1 (⟨rfl, hJ1⟩ | ⟨rfl, q, hq, hq0, hx⟩))
  · go_end0
    exact ⟨⟨_, rfl⟩, .inl ⟨_, rfl, by simpa using hJ1⟩⟩
  · go_end0
    exact ⟨⟨_, rfl⟩, .inr ⟨q, ⟨hq, hq0⟩, by simpa using hx⟩⟩
end Go.Proofs.Ytamkegnnlbefdaa
