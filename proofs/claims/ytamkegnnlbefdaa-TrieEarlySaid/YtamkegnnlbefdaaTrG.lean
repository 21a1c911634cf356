/- Contracts of package trie: ensure. -/
import Derived.Test.YtamkegnnlbefdaaTrF
namespace Go.Proofs.Ytamkegnnlbefdaa
open Go.RowKit

/-- A new part at a place, whatever else was made or counted. -/
theorem spot_new {k : Tr → Tr} {w W : World} {gt : Nat} {a : Addr} {S0 S1 S' : Nat → Prop} {s t' : Tr} {r0 : Value} {R N : Nat} (H : Spot k w (rootAt gt) a S0 S1 s) (hB : Blk w gt (trC r0 R N) trT) (hW : ∃ r1 N', Blk W gt (trC r1 R N') trT ∧ (a.block ≠ gt → r1 = r0))
    (hK : ∀ g, g < w.heap.size → g ≠ gt → Kp w W a g) (hsz : w.heap.size ≤ W.heap.size) (hp : Pl W a t' S') (hs : ∀ g, S' g → S1 g ∨ w.heap.size ≤ g) (hs' : ∀ g, S' g → g < W.heap.size) : Spot k W (rootAt gt) a (fun g => S0 g ∨ S' g) S' t' := by
  have hgt := hB.lt
  have hng : ¬ S0 gt := H.out
  have hns : ¬ S' gt := fun h => (hs gt h).elim (fun h1 => hng (H.sub gt h1)) (fun h1 => by omega)
  refine H.upd (fun g hg _ => hK g (H.lt g hg) (fun e => hng (e ▸ hg))) (fun hne v hv => ?_) hp (fun g hg => ?_) (fun g hg => .inl hg) (fun g hg => .inr hg) (fun hg => hg.elim hng hns) (fun g hg => ?_)
  · obtain ⟨r1, N', h1, h2⟩ := hW
    have hag : a.block ≠ gt := fun e => by
      rcases H.inn with h3 | h3
      · exact hng (e ▸ h3)
      · exact hne h3
    have hv0 : Cel w (rootAt gt) r0 := ⟨_, _, hB, rfl⟩
    obtain rfl := hv.uniq hv0
    rw [h2 hag] at h1
    exact ⟨_, _, h1, rfl⟩
  · rcases hs g hg with h1 | h1
    · exact .inl h1
    · refine .inr fun h2 => ?_
      rcases h2 with h2 | h2
      · have := H.lt g h2; omega
      · have e : g = gt := h2
        omega
  · rcases hg with hg | hg
    · exact Nat.lt_of_lt_of_le (H.lt g hg) hsz
    · exact hs' g hg
/-- What ensure leaves. -/
def EnsQ (w : World) (gt : Nat) (p : Px) (T : Tr) (S0 : Nat → Prop) (R N : Nat) (e : Ending) (W : World) : Prop :=
  ∃ gn a k S S0' x h l r u v, e = .returned (ptr gn) ∧ a.spot = none ∧ Cel W a (ptr gn) ∧ Blk W gn (ndC p x h u v) ndT ∧ Spot k W (rootAt gt) a S0' S (.node p x h l r) ∧ S gn ∧ (∃ r1, Blk W gt (trC r1 R (N + grow p T)) trT) ∧
    Fr (fun g => S0 g ∨ g = gt) w W ∧ (∀ g, S0' g → S0 g ∨ w.heap.size ≤ g) ∧ (∀ z, put comF p z T = k (.node p z true l r)) ∧ (∀ z, (routes (put comF p z T)).length = (routes T).length + (if h then 0 else 1))
theorem len_node (p : Px) (z : Int) (h : Bool) (l r : Tr) : (routes (.node p z h l r)).length = (if h then 1 else 0) + ((routes l).length + (routes r).length) := by cases h <;> simp [routes]; omega
/-- The node is there. -/
theorem ens_old {w W : World} {gt g : Nat} {p : Px} {T : Tr} {S0 S1 : Nat → Prop} {R N : Nat} {a : Addr} {k : Tr → Tr} {x : Int} {h : Bool} {l r : Tr} {u v r0 : Value} (hs : a.spot = none) (hk : Pth p k) (hT : T = k (.node p x h l r)) (H : Spot k W (rootAt gt) a S0 S1 (.node p x h l r)) (hc : Cel W a (ptr g)) (hb : Blk W g (ndC p x h u v) ndT) (hS : S1 g)
    (hB : Blk W gt (trC r0 R N) trT) (hlow : Below w.heap.size w W) : EnsQ w gt p T S0 R N (.returned (ptr g)) W := by
  have e0 : grow p T = 0 := by rw [hT, hk.cgrow]; simp [grow]
  have ep : ∀ z, put comF p z T = k (.node p z true l r) := fun z => by rw [hT, hk.cput]; simp [put]
  refine ⟨g, a, k, S1, S0, x, h, l, r, u, v, rfl, hs, hc, hb, H, hS, ⟨r0, by rw [e0]; exact hB⟩, Fr.of_below hlow, fun g hg => .inl hg, ep, fun z => ?_⟩
  have h1 := hk.clen (.node p z true l r) (.node p x h l r)
  rw [ep z, hT]
  rw [len_node, len_node] at h1
  cases h <;> simp at h1 ⊢ <;> omega
/-- The place was empty. -/
theorem ens_nil {w w2 W : World} {gt : Nat} {p : Px} {T : Tr} {S0 S1 : Nat → Prop} {R N : Nat} {a : Addr} {k : Tr → Tr} {r0 : Value} {e : Ending} (hs : a.spot = none) (hk : Pth p k) (hT : T = k .nil) (H : Spot k w2 (rootAt gt) a S0 S1 .nil)
    (hB : Blk w2 gt (trC r0 R N) trT) (hlow : Below w.heap.size w w2) (hq : AddQ w2 gt a p r0 R N e W) : EnsQ w gt p T S0 R N e W := by
  obtain ⟨gn, rfl, hgn, hbn, hca, ⟨r1, hbt, hr1⟩, hkp, hfr⟩ := hq
  have hgt := hB.lt
  have e0 : grow p T = 1 := by rw [hT, hk.cgrow]; rfl
  have ep : ∀ z, put comF p z T = k (.node p z true .nil .nil) := fun z => by rw [hT, hk.cput]; rfl
  have hag : a.block < w2.heap.size := H.pl.lt
  obtain ⟨cs, ty, hcb, hcv⟩ := hca
  have hp : Pl W a (.node p 0 false .nil .nil) (fun g => g = gn) := ⟨⟨ptr gn, ⟨gn, _, _, fun _ => False, fun _ => False, rfl, rfl, hbn, rfl, rfl, fun _ h => h.elim, fun _ h => h.elim⟩, cs, ty, hcb, hcv⟩, hs, fun e => by omega⟩
  have H2 := spot_new H hB ⟨r1, N + 1, hbt, hr1⟩ hkp hfr.size hp (fun g hg => .inr (by omega)) (fun g hg => by rw [hg]; exact hbn.lt)
  have hsz := hlow.size
  refine ⟨gn, a, k, _, _, 0, false, .nil, .nil, _, _, rfl, hs, ⟨cs, ty, hcb, hcv⟩, hbn, H2, rfl, ⟨r1, by rw [e0]; exact hbt⟩, ?_, fun g hg => hg.imp id (fun e => by omega), ep, fun z => ?_⟩
  · refine (Fr.of_below (S := fun _ => False) hlow).trans hfr (fun _ h => h.elim) (fun g hg => ?_)
    rcases hg with rfl | rfl
    · exact .inl (.inr rfl)
    · rcases H.inn with h3 | h3
      · exact .inl (.inl h3)
      · exact .inl (.inr (by rw [h3]; rfl))
  · have h1 := hk.clen (.node p z true .nil .nil) .nil
    rw [ep z, hT]
    simpa [routes] using h1
/-- A new node above the part. -/
theorem ens_up {w w2 w3 W : World} {gt g : Nat} {p q : Px} {T : Tr} {S0 S1 : Nat → Prop} {R N gn : Nat} {a : Addr} {k : Tr → Tr} {r0 r1 u v : Value} {x : Int} {h : Bool} {l r : Tr} (hs : a.spot = none) (hk : Pth p k) (hT : T = k (.node q x h l r)) (hne : q ≠ p) (hqp : ¬ Cov q p) (hpq : Cov p q)
    (H : Spot k w2 (rootAt gt) a S0 S1 (.node q x h l r)) (hca2 : Cel w2 a (ptr g)) (_hbg : Blk w2 g (ndC q x h u v) ndT) (hB : Blk w2 gt (trC r0 R N) trT) (hlow : Below w.heap.size w w2)
    (hgn : w2.heap.size ≤ gn) (hca : Cel w3 a (ptr gn)) (hbt : Blk w3 gt (trC r1 R (N + 1)) trT) (hr1 : a.block ≠ gt → r1 = r0) (hkp : ∀ g, g < w2.heap.size → g ≠ gt → Kp w2 w3 a g) (hfr : Fr (fun g => g = gt ∨ g = a.block) w2 w3)
    (hbn : Blk W gn (ndC p 0 false (setV (dir q.1 p.2) (.pointer none) (.pointer none) (ptr g)).1 (setV (dir q.1 p.2) (.pointer none) (.pointer none) (ptr g)).2) ndT) (hf2 : Fr (fun j => j = gn) w3 W) (hlt : gn < w3.heap.size) : EnsQ w gt p T S0 R N (.returned (ptr gn)) W := by
  have hgt := hB.lt
  have hag := hca2.lt
  have hsz3 := hfr.size
  have e0 : grow p T = 1 := by rw [hT, hk.cgrow]; simp [grow, hne, hqp, hpq]
  have ep : ∀ z, put comF p z T = k (.node p z true (kids (dir q.1 p.2) (.node q x h l r) .nil).1 (kids (dir q.1 p.2) (.node q x h l r) .nil).2) := fun z => by rw [hT, hk.cput]; simp [put, hne, hqp, hpq]
  have hW : ∀ j, j < w3.heap.size → j ≠ gn → W.heap[j]? = w3.heap[j]? := fun j h1 h2 => hf2.block j h1 h2
  have hcaW : Cel W a (ptr gn) := hca.same (hW _ (by omega) (by omega))
  have hbtW : Blk W gt (trC r1 R (N + 1)) trT := hbt.same (hW _ (by omega) (by omega))
  -- the old part
  obtain ⟨v0, hv0, hc0⟩ := H.pl.val
  obtain rfl : v0 = ptr g := Cel.uniq hc0 hca2
  have hng : ∀ j, S1 j → j ≠ gt ∧ j ≠ a.block ∧ j < w2.heap.size := fun j hj => ⟨fun e => H.out (e ▸ H.sub j hj), fun e => H.pl.out (e ▸ hj), H.lt j (H.sub j hj)⟩
  have hatW : At (.node q x h l r) W (ptr g) S1 := hv0.keep fun j h1 h2 => (hW j (by omega) (by omega)).trans (hfr.block j h2 (fun h3 => h3.elim (hng j h1).1 (hng j h1).2.1))
  have hp : Pl W a (.node p 0 false (kids (dir q.1 p.2) (.node q x h l r) .nil).1 (kids (dir q.1 p.2) (.node q x h l r) .nil).2) (fun j => S1 j ∨ j = gn) := by
    refine ⟨⟨ptr gn, ?_, hcaW⟩, hs, fun h4 => h4.elim H.pl.out (fun e => by omega)⟩
    generalize dir q.1 p.2 = d at hbn ⊢
    have hd : ∀ j, S1 j → (S1 j ∨ j = gn) ∧ j ≠ gn := fun j hj => ⟨.inl hj, fun e => by have := (hng j hj).2.2; omega⟩
    cases d
    · exact ⟨gn, _, _, S1, fun _ => False, rfl, .inr rfl, hbn, hatW, rfl, hd, fun _ h4 => h4.elim⟩
    · exact ⟨gn, _, _, fun _ => False, S1, rfl, .inr rfl, hbn, rfl, hatW, fun _ h4 => h4.elim, fun j hj => ⟨(hd j hj).1, (hd j hj).2, fun h4 => h4⟩⟩
  have hkpW : ∀ j, j < w2.heap.size → j ≠ gt → Kp w2 W a j := fun j h1 h2 => (hkp j h1 h2).trans (by obtain ⟨cs, ty, hcb, hcv⟩ := hca; exact kp_same (hW j (by omega) (by omega)) hcb hcv)
  have H2 := spot_new H hB ⟨r1, N + 1, hbtW, hr1⟩ hkpW (Nat.le_trans hsz3 hf2.size) hp (fun j hj => hj.imp id (fun e => by omega)) (fun j hj => by
    have := hf2.size
    rcases hj with hj | hj
    · have := (hng j hj).2.2; omega
    · omega)
  have hsz := hlow.size
  refine ⟨gn, a, k, _, _, 0, false, _, _, _, _, rfl, hs, hcaW, hbn, H2, .inr rfl, ⟨r1, by rw [e0]; exact hbtW⟩, ?_, fun j hj => ?_, ep, fun z => ?_⟩
  · refine ((Fr.of_below (S := fun _ => False) hlow).trans hfr (S'' := fun g => S0 g ∨ g = gt) (fun _ h => h.elim) (fun g hg => ?_)).trans hf2 (fun _ h => h) (fun j hj => .inr (by omega))
    rcases hg with rfl | rfl
    · exact .inl (.inr rfl)
    · rcases H.inn with h3 | h3
      · exact .inl (.inl h3)
      · exact .inl (.inr (by rw [h3]; rfl))
  · rcases hj with hj | hj | hj
    · exact .inl hj
    · exact .inl (H.sub j hj)
    · exact .inr (by omega)
  · have h1 := hk.clen (.node p z true (kids (dir q.1 p.2) (.node q x h l r) .nil).1 (kids (dir q.1 p.2) (.node q x h l r) .nil).2) (.node q x h l r)
    rw [ep z, hT]
    rw [len_node (h := true)] at h1
    generalize dir q.1 p.2 = d at h1 ⊢
    cases d <;> simp [kids, routes] at h1 ⊢ <;> omega
/-- A new branching. -/
theorem ens_fork {w w2 W : World} {gt g : Nat} {p q : Px} {T : Tr} {S0 S1 : Nat → Prop} {R N gn gc : Nat} {a : Addr} {k : Tr → Tr} {r0 r1 u v : Value} {x : Int} {h : Bool} {l r : Tr} (hs : a.spot = none) (hk : Pth p k) (hT : T = k (.node q x h l r)) (hne : q ≠ p) (hqp : ¬ Cov q p) (hpq : ¬ Cov p q) (hd : dir p.1 (comF p q).2 ≠ dir q.1 (comF p q).2)
    (H : Spot k w2 (rootAt gt) a S0 S1 (.node q x h l r)) (hca2 : Cel w2 a (ptr g)) (_hbg : Blk w2 g (ndC q x h u v) ndT) (hB : Blk w2 gt (trC r0 R N) trT) (hlow : Below w.heap.size w w2)
    (hgn : w2.heap.size ≤ gn) (hgc : w2.heap.size ≤ gc) (hnc : gn ≠ gc) (hca : Cel W a (ptr gc)) (hbt : Blk W gt (trC r1 R (N + 2)) trT) (hr1 : a.block ≠ gt → r1 = r0) (hkp : ∀ g, g < w2.heap.size → g ≠ gt → Kp w2 W a g) (hfr : Fr (fun g => g = gt ∨ g = a.block) w2 W)
    (hbn : Blk W gn (ndC p 0 false (.pointer none) (.pointer none)) ndT) (hbc : Blk W gc (ndC (comF p q) 0 false (setV (dir q.1 (comF p q).2) (ptr gn) (ptr gn) (ptr g)).1 (setV (dir q.1 (comF p q).2) (ptr gn) (ptr gn) (ptr g)).2) ndT) : EnsQ w gt p T S0 R N (.returned (ptr gn)) W := by
  have hgt := hB.lt
  have hag := hca2.lt
  have e0 : grow p T = 2 := by rw [hT, hk.cgrow]; simp [grow, hne, hqp, hpq]
  have ep : ∀ z, put comF p z T = k (.node (comF p q) 0 false (kids (dir q.1 (comF p q).2) (.node q x h l r) (.node p z true .nil .nil)).1 (kids (dir q.1 (comF p q).2) (.node q x h l r) (.node p z true .nil .nil)).2) := fun z => by rw [hT, hk.cput]; simp [put, hne, hqp, hpq]
  obtain ⟨v0, hv0, hc0⟩ := H.pl.val
  obtain rfl : v0 = ptr g := Cel.uniq hc0 hca2
  have hng : ∀ j, S1 j → j ≠ gt ∧ j ≠ a.block ∧ j < w2.heap.size := fun j hj => ⟨fun e => H.out (e ▸ H.sub j hj), fun e => H.pl.out (e ▸ hj), H.lt j (H.sub j hj)⟩
  have hatW : At (.node q x h l r) W (ptr g) S1 := hv0.keep fun j h1 h2 => hfr.block j h2 (fun h3 => h3.elim (hng j h1).1 (hng j h1).2.1)
  have hatn : At (.node p 0 false .nil .nil) W (ptr gn) (fun j => j = gn) := ⟨gn, _, _, fun _ => False, fun _ => False, rfl, rfl, hbn, rfl, rfl, fun _ h => h.elim, fun _ h => h.elim⟩
  have hp : Pl W a (.node (comF p q) 0 false (kids (dir q.1 (comF p q).2) (.node q x h l r) (.node p 0 false .nil .nil)).1 (kids (dir q.1 (comF p q).2) (.node q x h l r) (.node p 0 false .nil .nil)).2) (fun j => S1 j ∨ j = gn ∨ j = gc) := by
    refine ⟨⟨ptr gc, ?_, hca⟩, hs, fun h4 => h4.elim H.pl.out (fun h5 => h5.elim (fun e => by omega) (fun e => by omega))⟩
    generalize dir q.1 (comF p q).2 = d at hbc ⊢
    have hd1 : ∀ j, S1 j → (S1 j ∨ j = gn ∨ j = gc) ∧ j ≠ gc := fun j hj => ⟨.inl hj, fun e => by have := (hng j hj).2.2; omega⟩
    have hd2 : ∀ j, j = gn → (S1 j ∨ j = gn ∨ j = gc) ∧ j ≠ gc := fun j hj => ⟨.inr (.inl hj), fun e => hnc (hj.symm.trans e)⟩
    have hd3 : ∀ j, S1 j → j ≠ gn := fun j hj e => by have := (hng j hj).2.2; omega
    cases d
    · exact ⟨gc, _, _, S1, fun j => j = gn, rfl, .inr (.inr rfl), hbc, hatW, hatn, hd1, fun j hj => ⟨(hd2 j hj).1, (hd2 j hj).2, fun h4 => hd3 j h4 hj⟩⟩
    · exact ⟨gc, _, _, fun j => j = gn, S1, rfl, .inr (.inr rfl), hbc, hatn, hatW, hd2, fun j hj => ⟨(hd1 j hj).1, (hd1 j hj).2, hd3 j hj⟩⟩
  have hcl := hbc.lt
  have hnl := hbn.lt
  have H2 := spot_new H hB ⟨r1, N + 2, hbt, hr1⟩ hkp hfr.size hp (fun j hj => hj.imp id (fun h5 => h5.elim (fun e => by omega) (fun e => by omega))) (fun j hj => by
    have := hfr.size
    rcases hj with hj | hj | hj
    · have := (hng j hj).2.2; omega
    · omega
    · omega)
  obtain ⟨gc', u', v', Sd, hc', -, hb', H3⟩ := H2.down (dir p.1 (comF p q).2)
  have hsz := hlow.size
  have ekid : kidOf (dir p.1 (comF p q).2) (kids (dir q.1 (comF p q).2) (.node q x h l r) (.node p 0 false .nil .nil)).1 (kids (dir q.1 (comF p q).2) (.node q x h l r) (.node p 0 false .nil .nil)).2 = .node p 0 false .nil .nil := by
    revert hd
    cases dir p.1 (comF p q).2 <;> cases dir q.1 (comF p q).2 <;> simp [kidOf, kids]
  rw [ekid] at H3
  have ecel : Cel W (kidAt gc (dir p.1 (comF p q).2)) (ptr gn) := by
    refine ⟨_, _, hbc, ?_⟩
    revert hd
    cases dir p.1 (comF p q).2 <;> cases dir q.1 (comF p q).2 <;> simp [kidAt, ndC, setV]
  obtain rfl : gc' = gc := by
    have := hc'.uniq hca
    unfold ptr at this
    simpa using this
  have hSd : Sd gn := by
    obtain ⟨v1, hv1, hc1⟩ := H3.pl.val
    obtain ⟨gx, _, _, e1, hgx, _⟩ := hv1.node_val
    have := Cel.uniq hc1 ecel
    rw [e1] at this
    unfold ptr at this
    have e2 : gx = gn := by simpa using this
    exact e2 ▸ hgx
  refine ⟨gn, kidAt gc' (dir p.1 (comF p q).2), _, Sd, _, 0, false, .nil, .nil, _, _, rfl, rfl, ecel, hbn, H3, hSd, ⟨r1, by rw [e0]; exact hbt⟩, ?_, fun j hj => ?_, fun z => ?_, fun z => ?_⟩
  · refine (Fr.of_below (S := fun _ => False) hlow).trans hfr (S'' := fun g => S0 g ∨ g = gt) (fun _ h => h.elim) (fun g hg => ?_)
    rcases hg with rfl | rfl
    · exact .inl (.inr rfl)
    · rcases H.inn with h3 | h3
      · exact .inl (.inl h3)
      · exact .inl (.inr (by rw [h3]; rfl))
  · rcases hj with hj | hj | hj | hj
    · exact .inl hj
    · exact .inl (H.sub j hj)
    · exact .inr (by omega)
    · exact .inr (by omega)
  · rw [ep z]
    show _ = k (setKid _ _ _ _ _ _ _)
    congr 1
    revert hd
    cases dir p.1 (comF p q).2 <;> cases dir q.1 (comF p q).2 <;> simp [setKid, kids]
  · have h1 := hk.clen (.node (comF p q) 0 false (kids (dir q.1 (comF p q).2) (.node q x h l r) (.node p z true .nil .nil)).1 (kids (dir q.1 (comF p q).2) (.node q x h l r) (.node p z true .nil .nil)).2) (.node q x h l r)
    rw [ep z, hT]
    rw [len_node (h := false)] at h1
    generalize dir q.1 (comF p q).2 = d at h1 ⊢
    cases d <;> simp [kids, routes] at h1 ⊢ <;> omega
end Go.Proofs.Ytamkegnnlbefdaa
