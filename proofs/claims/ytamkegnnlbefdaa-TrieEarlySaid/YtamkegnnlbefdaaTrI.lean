/- Contracts of package trie: Put. -/
import Derived.Test.YtamkegnnlbefdaaTrH
namespace Go.Proofs.Ytamkegnnlbefdaa
open Go.RowKit

/-- Another value, another mark at a node. -/
theorem node_upd {k : Tr → Tr} {W W3 : World} {gt gn : Nat} {a : Addr} {S0 S : Nat → Prop} {p : Px} {x x' : Int} {h h' : Bool} {l r : Tr} {u v r1 : Value} {R N R' N' : Nat} (H : Spot k W (rootAt gt) a S0 S (.node p x h l r)) (hc : Cel W a (ptr gn)) (hb : Blk W gn (ndC p x h u v) ndT) (hS : S gn) (hB : Blk W gt (trC r1 R N) trT)
    (hb3 : Blk W3 gn (ndC p x' h' u v) ndT) (hB3 : Blk W3 gt (trC r1 R' N') trT) (hsame : ∀ j, j < W.heap.size → j ≠ gn → j ≠ gt → W3.heap[j]? = W.heap[j]?) (hsz : W.heap.size ≤ W3.heap.size) : TrieM W3 gt (k (.node p x' h' l r)) S0 R' N' := by
  have hgt : ¬ S0 gt := H.out
  have hin : ∀ j, S j → j ≠ gt ∧ j < W.heap.size := fun j hj => ⟨fun e => hgt (e ▸ H.sub j hj), H.lt j (H.sub j hj)⟩
  have hag : a.block ≠ gn := fun e => H.pl.out (e ▸ hS)
  have hc3 : Cel W3 a (ptr gn) := by
    by_cases e : a.block = gt
    · have ha : a = rootAt gt := by
        rcases H.inn with h3 | h3
        · exact absurd (e ▸ h3) hgt
        · exact h3
      subst ha
      obtain rfl : r1 = ptr gn := Cel.uniq ⟨_, _, hB, rfl⟩ hc
      exact ⟨_, _, hB3, rfl⟩
    · exact hc.same (hsame _ hc.lt hag e)
  obtain ⟨v0, hv0, hc0⟩ := H.pl.val
  obtain rfl : v0 = ptr gn := Cel.uniq hc0 hc
  obtain ⟨g', u', v', Sl, Sr, e, hg', hb', hl, hr, d1, d2⟩ := hv0
  have e2 : gn = g' := by unfold ptr at e; simpa using e
  subst e2
  obtain ⟨e3, -⟩ := hb'.uniq hb
  have e4 : u' = u ∧ v' = v := by unfold ndC at e3; simp at e3; exact e3
  obtain ⟨rfl, rfl⟩ := e4
  have hat : At (.node p x' h' l r) W3 (ptr gn) S := ⟨gn, u', v', Sl, Sr, rfl, hS, hb3, hl.keep fun j h1 h2 => hsame j h2 (d1 j h1).2 (hin j (d1 j h1).1).1, hr.keep fun j h1 h2 => hsame j h2 (d2 j h1).2.1 (hin j (d2 j h1).1).1, d1, d2⟩
  obtain ⟨cs, ty, hcb, hcv⟩ := hc
  have hP : Pl W3 (rootAt gt) (k (.node p x' h' l r)) S0 := by
    refine (H.rep W3 (.node p x' h' l r) S (fun g hg hn => kp_same (hsame g (H.lt g hg) (fun e => hn (e ▸ hS)) (fun e => hgt (e ▸ hg))) hcb hcv) (fun _ z hz => ?_) ⟨⟨ptr gn, hat, hc3⟩, H.pl.spot, H.pl.out⟩ (fun g hg => .inl hg)).more (fun g hg => hg.elim id (H.sub g)) hgt
    obtain rfl : r1 = z := Cel.uniq ⟨_, _, hB, rfl⟩ hz
    exact ⟨_, _, hB3, rfl⟩
  obtain ⟨z, hz, hcz⟩ := hP.val
  obtain rfl : r1 = z := Cel.uniq ⟨_, _, hB3, rfl⟩ hcz
  exact ⟨⟨r1, hB3, hz⟩, hgt, fun g hg => Nat.lt_of_lt_of_le (H.lt g hg) hsz⟩
/-- A trie in memory, with its counts. -/
def TrieP (W : World) (gt : Nat) (T : Tr) (S0 : Nat → Prop) : Prop := WF T ∧ TrieM W gt T S0 (routes T).length (cnt T)
theorem TrieP.below {W W' : World} {gt : Nat} {T : Tr} {S0 : Nat → Prop} (h : TrieP W gt T S0) (hb : Below W.heap.size W W') : TrieP W' gt T S0 := ⟨h.1, h.2.below hb⟩
theorem stb_trieP (gt : Nat) (T : Tr) (S0 : Nat → Prop) : Stb (fun W => TrieP W gt T S0) := fun _ _ hb h => h.below hb
def PutQ (w : World) (gt : Nat) (T' : Tr) (S0 : Nat → Prop) (e : Ending) (W : World) : Prop :=
  ∃ S0', e = .returned (.int .i64 0) ∧ TrieP W gt T' S0' ∧ Fr (fun g => S0 g ∨ g = gt) w W ∧ ∀ g, S0' g → S0 g ∨ w.heap.size ≤ g
theorem cnt_put' (p : Px) (v : Int) (T : Tr) : cnt (put comF p v T) = cnt T + grow p T := cnt_put comF p v T
theorem put_end {w W W3 : World} {gt gn : Nat} {a : Addr} {k : Tr → Tr} {S0 S S0' : Nat → Prop} {p : Px} {T : Tr} {x z : Int} {h : Bool} {l r : Tr} {u v r1 : Value} (hp : Vld p) (hw : WF T) (hlow : Fr (fun g => S0 g ∨ g = gt) w W) (H : Spot k W (rootAt gt) a S0' S (.node p x h l r)) (hc : Cel W a (ptr gn)) (hb : Blk W gn (ndC p x h u v) ndT) (hS : S gn)
    (hB : Blk W gt (trC r1 (routes T).length (cnt T + grow p T)) trT) (hsub : ∀ g, S0' g → S0 g ∨ w.heap.size ≤ g) (hput : put comF p z T = k (.node p z true l r)) (hlen : (routes (put comF p z T)).length = (routes T).length + (if h then 0 else 1))
    (hb3 : Blk W3 gn (ndC p z true u v) ndT) (hB3 : Blk W3 gt (trC r1 ((routes T).length + (if h then 0 else 1)) (cnt T + grow p T)) trT) (hf : Fr (fun g => g = gn ∨ g = gt) W W3) : PutQ w gt (put comF p z T) S0 (.returned (.int .i64 0)) W3 := by
  have hgn := H.sub gn hS
  refine ⟨S0', rfl, ⟨put_wf com_is hp hw, ?_⟩, hlow.trans hf (fun _ h => h) (fun g hg => ?_), hsub⟩
  · rw [cnt_put', hlen, hput]
    exact node_upd H hc hb hS hB hb3 hB3 (fun j h1 h2 h3 => hf.block j h1 (fun e => e.elim h2 h3)) hf.size
  · rcases hg with rfl | rfl
    · exact (hsub _ hgn).imp .inl id
    · exact .inl (.inr rfl)
set_option maxRecDepth 100000 in
set_option maxHeartbeats 8000000 in
theorem put_any {w : World} {gt : Nat} {p : Px} {z : Int} {T : Tr} {S0 : Nat → Prop} (hp : Vld p) (H : TrieP w gt T S0) (hN : cnt T < 4611686018427387900) :
    Calls Try.prog 24 #[ptr gt, rtV p z] w (PutQ w gt (put comF p z T) S0) := by
  obtain ⟨w1, hw1, S⟩ : ∃ w1, w.alloc (.cells #[.int .u32 (p.1 : Int), .int .i64 (p.2 : Int), .int .i64 z] 37) = w1 ∧ Hid (Sr w [fun W => TrieP W gt T S0] [(w.heap.size, [.int .u32 (p.1 : Int), .int .i64 (p.2 : Int), .int .i64 z], 37)] w1) :=
    ⟨_, rfl, ((Sr.start w).push (stb_trieP _ _ _) H).alloc [.int .u32 (p.1 : Int), .int .i64 (p.2 : Int), .int .i64 z] 37⟩
  have hV := Lib.hid (fun W => valid_any p.1 (p.2 : Int) W (vld_lt hp))
  rw [(vldB_vld (vld_lt hp)).2 hp] at hV
  have hE := Lib.hid (fun W (H : TrieP W gt T S0) => ensure_any hp H.1 H.2 hN)
  have hR : (routes T).length ≤ cnt T := (cnt_bounds H.1).1
  have HP := Lib.hid (show Vld p ∧ WF T ∧ (routes T).length < 4611686018427387900 ∧ w.heap.size ≠ gt ∧ ¬ S0 w.heap.size from ⟨hp, H.1, by omega, fun e => by obtain ⟨r9, hB9, -⟩ := H.2.blk; have := hB9.lt; omega, fun e => by have := H.2.lt _ e; omega⟩)
  unfold ptr at hE ⊢
  clear H hN hp hR
  go_enter Try.func24, Try.ntmps24
  have c0x0 := (S.out.at 0 rfl).cell (i := 0) rfl
  have c0x1 := (S.out.at 0 rfl).cell (i := 1) rfl
  have c0x2 := (S.out.at 0 rfl).cell (i := 2) rfl
  go_wp2_with fail
  refine (hV.out _).mono ?_
  rintro e w2 ⟨rfl, hb⟩
  replace S := Lib.hid (S.out.below hb)
  clear hb hw1 hV c0x0 c0x1 c0x2
  have c0x0 := (S.out.at 0 rfl).cell (i := 0) rfl
  have c0x1 := (S.out.at 0 rfl).cell (i := 1) rfl
  have c0x2 := (S.out.at 0 rfl).cell (i := 2) rfl
  go_wp2_with fail
  refine (hE.out _ (S.out.fact 0 rfl)).mono ?_
  rintro e w3 ⟨gn, a, k, S1, S0', x, h, l, r, u, v, rfl, hs, hca, hbn, hSp, hSg, ⟨r1, hB⟩, hfr, hsub, hput, hlen⟩
  have hbx := (S.out.at 0 rfl).same (hfr.block _ (S.out.at 0 rfl).lt (fun e => e.elim HP.out.2.2.2.2 HP.out.2.2.2.1))
  have hng : gn ≠ gt := fun e => hSp.out (e ▸ hSp.sub gn hSg)
  have hxn : w.heap.size ≠ gn := fun e => by
    have h2 := (S.out.at 0 rfl).lt
    rcases hsub gn (hSp.sub gn hSg) with h1 | h1
    · exact HP.out.2.2.2.2 (e ▸ h1)
    · omega
  have HF := Lib.hid (fun W3 (hb3 : Blk W3 gn (ndC p z true u v) ndT) (hB3 : Blk W3 gt (trC r1 ((routes T).length + (if h then 0 else 1)) (cnt T + grow p T)) trT) (hf : Fr (fun g => g = gn ∨ g = gt) w3 W3) =>
    put_end (w := w) (S0 := S0) HP.out.1 HP.out.2.1 ((Fr.of_below S.out.low).trans hfr (fun _ h => h) (fun _ h => .inl h)) hSp hca hbn hSg hB (fun g hg => (hsub g hg).imp id (fun h => Nat.le_trans S.out.low.size h)) (hput z) (hlen z) hb3 hB3 hf)
  have HB := Lib.hid (show Blk w3 gn (ndC p x h u v) ndT ∧ Blk w3 gt (trC r1 (routes T).length (cnt T + grow p T)) trT ∧ gn ≠ gt ∧ w.heap.size ≠ gt from ⟨hbn, hB, hng, HP.out.2.2.2.1⟩)
  have hR3 := HP.out.2.2.1
  unfold ptr
  generalize cnt T + grow p T = N' at HB HF
  obtain ⟨R, hR⟩ : ∃ R, (routes T).length = R := ⟨_, rfl⟩
  rw [hR] at HB HF hR3
  clear S hE c0x0 c0x1 c0x2 hfr hsub hput hlen hSp hSg hca hB hR
  have d2 := hbx.cell (i := 2) rfl
  have n3 := hbn.cell (i := 3) rfl
  have hwR : IntKind.i64.wrap ((R : Int) + 1) = (R : Int) + 1 := IntWalk.i64_in _ (by omega)
  cases h
  · have f3 := hbn.frozen (i := 3)
    obtain ⟨w4, hw4⟩ : ∃ w4, w3.setCell ⟨gn, 3, none⟩ (.bool true) = w4 := ⟨_, rfl⟩
    have B4 : Blk w4 gn (ndC p x true u v) ndT := by rw [← hw4]; exact hbn.set_ 3 _
    have G4 : Blk w4 gt (trC r1 R N') trT := by rw [← hw4]; exact HB.out.2.1.far (p := ⟨gn, 3, none⟩) hng.symm _
    have g1 := G4.cell (i := 1) rfl
    have gf1 := G4.frozen (i := 1)
    obtain ⟨w5, hw5⟩ : ∃ w5, w4.setCell ⟨gt, 1, none⟩ (.int .i64 ((R : Int) + 1)) = w5 := ⟨_, rfl⟩
    have B5 : Blk w5 gn (ndC p x true u v) ndT := by rw [← hw5]; exact B4.far (p := ⟨gt, 1, none⟩) hng _
    have G5 : Blk w5 gt (trC r1 (R + 1) N') trT := by rw [← hw5]; exact G4.set_ 1 _
    have nv := B5.cell (i := 2) rfl
    have nf := B5.frozen (i := 2)
    have d5 : w5.cell? ⟨w.heap.size, 2, none⟩ = some (.int .i64 z) := by
      rw [← hw5, ← hw4]
      exact ((hbx.far (p := ⟨gn, 3, none⟩) hxn _).far (p := ⟨gt, 1, none⟩) HB.out.2.2.2 _).cell rfl
    have F5 : Fr (fun g => g = gn ∨ g = gt) w3 w5 := by
      rw [← hw5, ← hw4]
      exact (Fr.set w3 ⟨gn, 3, none⟩ _ (S := fun g => g = gn ∨ g = gt) (.inl rfl)).trans (Fr.set _ ⟨gt, 1, none⟩ _ (S := fun g => g = gn ∨ g = gt) (.inr rfl)) (fun _ h => h) (fun _ h => .inl h)
    have H5 := Lib.hid (show Blk w5 gn (ndC p x true u v) ndT ∧ Blk w5 gt (trC r1 (R + 1) N') trT ∧ Fr (fun g => g = gn ∨ g = gt) w3 w5 from ⟨B5, G5, F5⟩)
    clear hbn hbx B4 G4 B5 G5 F5 hng
    go_wp2_with fail
    clear hw4 hw5
    go_ret
    exact HF.out _ (H5.out.1.set_ 2 _) (H5.out.2.1.far (p := ⟨gn, 2, none⟩) HB.out.2.2.1.symm _) (H5.out.2.2.trans (Fr.set _ ⟨gn, 2, none⟩ _ (S := fun g => g = gn ∨ g = gt) (.inl rfl)) (fun _ h => h) (fun _ h => .inl h))
  · have n2 := hbn.cell (i := 2) rfl
    have f2 := hbn.frozen (i := 2)
    clear hbn hbx hng
    go_wp2_with fail
    go_ret
    exact HF.out _ (HB.out.1.set_ 2 _) (HB.out.2.1.far (p := ⟨gn, 2, none⟩) HB.out.2.2.1.symm _) (Fr.set _ ⟨gn, 2, none⟩ _ (S := fun g => g = gn ∨ g = gt) (.inl rfl))
set_option maxRecDepth 100000 in
set_option maxHeartbeats 8000000 in
theorem put_bad {w : World} {gt pa : Nat} {pl z : Int} (ha : pa < 4294967296) (hv : vldB pa pl = false) :
    Calls Try.prog 24 #[ptr gt, .agg #[.int .u32 (pa : Int), .int .i64 pl, .int .i64 z]] w fun e W => e = .returned (.int .i64 1) ∧ Below w.heap.size w W := by
  obtain ⟨w1, hw1, S⟩ : ∃ w1, w.alloc (.cells #[.int .u32 (pa : Int), .int .i64 pl, .int .i64 z] 37) = w1 ∧ Hid (Sr w [] [(w.heap.size, [.int .u32 (pa : Int), .int .i64 pl, .int .i64 z], 37)] w1) :=
    ⟨_, rfl, (Sr.start w).alloc [.int .u32 (pa : Int), .int .i64 pl, .int .i64 z] 37⟩
  have hV := Lib.hid (fun W => valid_any pa pl W ha)
  rw [hv] at hV
  unfold ptr
  clear hv ha
  go_enter Try.func24, Try.ntmps24
  have c0x0 := (S.out.at 0 rfl).cell (i := 0) rfl
  have c0x1 := (S.out.at 0 rfl).cell (i := 1) rfl
  have c0x2 := (S.out.at 0 rfl).cell (i := 2) rfl
  go_wp2_with fail
  refine (hV.out _).mono ?_
  rintro e w2 ⟨rfl, hb⟩
  replace S := Lib.hid (S.out.below hb)
  clear hb hw1 hV c0x0 c0x1 c0x2
  go_wp2_with fail
  go_ret
  exact ⟨rfl, S.out.low⟩
end Go.Proofs.Ytamkegnnlbefdaa
