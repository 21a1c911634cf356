/- Contract of package nat's divideLong. -/
import Derived.Test.YtapblmbjbpkieaaDoorLongM
import Derived.Test.YtapblmbjbpkieaaDoorBridge
namespace Go.Proofs.YtapblmbjbpkieaaDoor
open Go.RowKit Go.Shelf
attribute [local go_sem] Oper.semAt_some

/-- The boxes and rows of divideLong: S has the length, bd, br, bq, bs the divisor, the rest, the quotient, the iterator's slice. -/
def LongS (S m n L bd br bq bs gd gr gq : Nat) (dv r q : Nat → Nat) (W : World) : Prop :=
  One W S (.int .i64 (n : Nat)) 3 ∧ One W bd (.slice (some ⟨gd, 0, none⟩) n n) 22 ∧ One W br (.slice (some ⟨gr, 0, none⟩) (m + 1) (m + 1)) 22 ∧ One W bq (.slice (some ⟨gq, 0, none⟩) L L) 22 ∧ One W bs (.slice (some ⟨gq, 0, none⟩) L L) 22 ∧ RowU W gd (n + 1) dv ∧ RowU W gr (m + 1) r ∧ RowU W gq L q
def LongI (w : World) (m n L V X bd br bq bs gd gr gq : Nat) (dv : Nat → Nat) (k : Nat) (W : World) : Prop :=
  ∃ r q : Nat → Nat, LongS w.heap.size m n L bd br bq bs gd gr gq dv r q W ∧ LongV 4294967296 n L V X r q k ∧ (∀ j, j < k → q j = 0) ∧ Below w.heap.size w W
/-- Where the blocks lie. -/
def LongO (S bd br bq bs gd gr gq : Nat) : Prop := S < bd ∧ S < gd ∧ bd ≠ gd ∧ bd < gr ∧ gd < gr ∧ gr < br ∧ br < gq ∧ gq < bq ∧ bq < bs
theorem long_own {w : World} {m n L V X bd br bq bs gd gr gq : Nat} {dv : Nat → Nat} {B : Nat} (hB : w.heap.size ≤ B) : OwnFrom B (fun (pre : List Nat) W => LongI w m n L V X bd br bq bs gd gr gq dv (L - pre.length) W) := by
  refine ownFrom_of ?_
  rintro pre W W' ⟨r, q, ⟨h1, h2, h3, h4, h5, h6, h7, h8⟩, hV, hz, hb⟩ hc hk hsz ho ht hp
  refine ⟨r, q, ⟨hc _ _ h1 rfl, hc _ _ h2 rfl, hc _ _ h3 rfl, hc _ _ h4 rfl, hc _ _ h5 rfl, hc _ _ h6 rfl, hc _ _ h7 rfl, hc _ _ h8 rfl⟩, hV, hz, ho.trans hb.os, ht.trans hb.tape, hp.trans hb.output, Nat.le_trans hb.size hsz, ?_⟩
  intro k hkk
  exact (hk k (by omega) (by have := hb.size; omega)).trans (hb.block k hkk)
theorem keeps_grown {W W' : World} {g n : Nat} {e : TypeId} {f : Nat → Value} (h : Row W g e n f) (hg : W.grownBy W' (some g)) : KeepsOthers W W' := by
  refine ⟨hg.size, fun k o hk ho => ?_⟩
  refine (hg.block k (Array.getElem?_eq_some_iff.1 hk).1 ?_).trans hk
  intro e
  injection e with e
  subst e
  unfold Row at h
  rw [h] at hk
  cases hk
  cases ho
theorem row_grown {w w' : World} {g n b : Nat} {e : TypeId} {f : Nat → Value} (h : Row w g e n f) (hg : w.grownBy w' (some b)) (hne : g ≠ b) : Row w' g e n f :=
  (hg.block g h.lt (by intro e; injection e with e; exact hne e)).trans h
/-- What divideLong returns: the digits of the quotient and of the rest. -/
def LongPost (w : World) (n L x v : Nat) (e : Ending) (w' : World) : Prop :=
  ∃ (gq gr N : Nat) (q r : Nat → Nat) (f : Nat → Value), e = .returned (.tuple #[.slice (some ⟨gq, 0, none⟩) L L, .slice (some ⟨gr, 0, none⟩) n n]) ∧ RowU w' gq L q ∧ Row w' gr 71 N f ∧ (∀ j, j < n → f j = .int .u32 (r j : Nat)) ∧ n ≤ N ∧
    (∀ j, q j < 4294967296) ∧ (∀ j, r j < 4294967296) ∧ val 4294967296 (seg q 0 L) = x / v ∧ val 4294967296 (seg r 0 n) = x % v ∧ Below w.heap.size w w'
theorem row_putObj {w : World} {g n D : Nat} {e : TypeId} {f : Nat → Value} {o : Obj} (h : Row w g e n f) (hne : g ≠ D) : Row (w.putObj D o) g e n f := (World.putObj_heap_other hne).trans h
theorem below_putObj {B D : Nat} {w W : World} {o : Obj} (h : Below B w W) (hB : B ≤ D) : Below B w (W.putObj D o) :=
  ⟨h.os, h.tape, h.output, by have := h.size; simpa [World.putObj] using this, fun k hk => (World.putObj_heap_other (by omega)).trans (h.block k hk)⟩
theorem row_not_deferred {w : World} {g n D : Nat} {e : TypeId} {f : Nat → Value} {ds : Option (List Deferred)} (h : Row w g e n f) (hD : w.heap[D]? = some (.deferred ds)) : g ≠ D := by
  rintro rfl
  unfold Row at h
  rw [h] at hD
  cases hD
/-- What is left at the end of divideLong. -/
theorem long_finish {w Wd w9 : World} {m n L D s bd br bq bs gd gr gq x v : Nat} {r q : Nat → Nat} {v9 : Value} (hs : s ≤ 31) (hO : LongO w.heap.size bd br bq bs gd gr gq) (hDw : w.heap.size ≤ D) (hmL : m + 1 = L + n) (hL : 1 ≤ L)
    (h7 : RowU Wd gr (m + 1) r) (h8 : RowU Wd gq L q) (hV : LongV 4294967296 n L (v * 2 ^ s) (x * 2 ^ s) r q 0) (hb : Below w.heap.size w Wd) (hK : Wd.heap[D]? = some (.deferred (some [])))
    (hP : ShrPost Wd gr (m + 1) (fun j => .int .u32 (r j : Nat)) (seg r 0 n) s (.returned v9) w9) :
    w9.drew.heap[D]? = some (.deferred (some [])) ∧ LongPost w n L x v (.returned (.tuple #[.slice (some ⟨gq, 0, none⟩) L L, .slice (some ⟨gr, 0, none⟩) n n])) (w9.drew.putObj D (.deferred none)) := by
  obtain ⟨v', f', -, hr9, hf9, hg9⟩ := hP
  have hD := (Array.getElem?_eq_some_iff.1 hK).1
  have ne1 := row_not_deferred h7 hK
  have ne2 := row_not_deferred h8 hK
  unfold LongO at hO
  have hS := hb.size
  have hq9 := row_grown h8 hg9 (by omega)
  have hK9 : w9.heap[D]? = some (.deferred (some [])) := (hg9.block D hD (by intro e; injection e with e; exact ne1 e.symm)).trans hK
  obtain ⟨e1, -, e3⟩ := long_end hV (Nat.pow_pos (by omega)) rfl rfl
  rw [seg_len] at hf9
  have hfr : ∀ i, (seg r 0 n).getD i 0 < 4294967296 := fun i => getD_lt0 (by omega) (by intro d hd; obtain ⟨j, _, rfl⟩ := List.mem_map.1 hd; exact hV.1 _) i
  have hfn : (seg r 0 n).getD n 0 = 0 := by simp [seg, List.getD]
  have hsg : val 4294967296 (seg (fun i => (seg r 0 n).getD i 0) 0 n) = (x % v) * 2 ^ s := by
    have := seg_getD (seg r 0 n)
    rw [seg_len] at this
    rw [this]; exact e3
  refine ⟨hK9, gq, gr, m + 1, q, fun i => shrD s ((seg r 0 n).getD i 0) ((seg r 0 n).getD (i + 1) 0), f', rfl, row_putObj (w := w9.drew) hq9 ne2, row_putObj (w := w9.drew) hr9 ne1, fun j hj => by rw [hf9 j, if_pos hj], by omega, hV.2.1, fun j => ?_, e1, shr_end hs hfn hsg, ?_⟩
  · obtain ⟨_, _, y, _, _, _, _, _, hy, hy2⟩ := shr_parts (s := s) (d := (seg r 0 n).getD j 0) (e := (seg r 0 n).getD (j + 1) 0) hs (hfr j)
    dsimp only
    rw [← hy]; exact hy2
  · exact below_putObj (W := w9.drew) (below_of_grown hb hS hg9 (by omega)).drew hDw
theorem long_leaf {w W w3 : World} {m n L V X bd br bq bs gd gr gq k q1 : Nat} {dv r q : Nat → Nat} {pre : List Nat} (hO : LongO w.heap.size bd br bq bs gd gr gq) (hk : L - pre.length = k + 1) (_hmL : m + 1 = L + n) (hVb : V ≤ 4294967296 ^ n)
    (h : LongS w.heap.size m n L bd br bq bs gd gr gq dv r q W) (hI : LongV 4294967296 n L V X r q (k + 1)) (hz : ∀ j, j < k + 1 → q j = 0) (hb : Below w.heap.size w W)
    (hP : StepPost W.drew gr (m + 1) (fun j => .int .u32 (r j : Nat)) k n (fun j => r (k + j)) V (.returned (.int .u32 (q1 : Int))) w3) (W2 : World) (hW2 : W2 = w3.setCell ⟨gq, k, none⟩ (.int .u32 (q1 : Int)) := by rfl) :
    KeepsOthers W W2 ∧ LongI w m n L V X bd br bq bs gd gr gq dv (L - (pre ++ [k]).length) W2 := by
  subst hW2
  obtain ⟨o1, o2, o3, o4, o5, o6, o7, o8, o9⟩ := hO
  obtain ⟨h1, h2, h3, h4, h5, h6, h7, h8⟩ := h
  obtain ⟨q2, t', e, hr, ht, hD, hq2, hg⟩ := hP
  have e2 : q2 = q1 := by injection e with e; injection e with _ e; omega
  subst e2
  have ek : L - (pre ++ [k]).length = k := by simp; omega
  rw [ek]
  have hS := hb.size
  refine ⟨(show KeepsOthers W W.drew from ⟨Nat.le_refl _, fun _ _ h _ => h⟩).trans ((keeps_grown (W := W.drew) h7 hg).trans (KeepsOthers.setCell _ _ _)), fun j => if k ≤ j ∧ j < k + (n + 1) then t' (j - k) else r j, fun j => if j = k then q2 else q j, ⟨?_, ?_, ?_, ?_, ?_, ?_, ?_, ?_⟩, ?_, ?_, ?_⟩
  · exact (One.grown (w := W.drew) h1 hg (by omega)).far (p := ⟨gq, k, none⟩) (by show w.heap.size ≠ gq; omega) _
  · exact (One.grown (w := W.drew) h2 hg (by omega)).far (p := ⟨gq, k, none⟩) (by show bd ≠ gq; omega) _
  · exact (One.grown (w := W.drew) h3 hg (by omega)).far (p := ⟨gq, k, none⟩) (by show br ≠ gq; omega) _
  · exact (One.grown (w := W.drew) h4 hg (by omega)).far (p := ⟨gq, k, none⟩) (by show bq ≠ gq; omega) _
  · exact (One.grown (w := W.drew) h5 hg (by omega)).far (p := ⟨gq, k, none⟩) (by show bs ≠ gq; omega) _
  · exact Row.far (row_grown (w := W.drew) h6 hg (by omega)) (p := ⟨gq, k, none⟩) (by show gd ≠ gq; omega) _
  · refine Row.far (Row.same hr fun j _ => ?_) (p := ⟨gq, k, none⟩) (by show gr ≠ gq; omega) _
    unfold patch
    by_cases hj : k ≤ j ∧ j < k + (n + 1)
    · dsimp only; rw [if_pos hj, if_pos hj]
    · dsimp only; rw [if_neg hj, if_neg hj]
  · exact Row.set_ (row_grown (w := W.drew) h8 hg (by omega)) k _ (fun j _ => by dsimp only; by_cases hj : j = k <;> simp [hj])
  · exact long_next (by omega) (by omega) hVb hI ht hq2 (by rw [seg_shift, Nat.add_zero]) hD
  · intro j hj
    show (if j = k then q2 else q j) = 0
    rw [if_neg (by omega)]
    exact hz j (by omega)
  · exact ((below_of_grown (w := W.drew) hb.drew hS hg (by omega)).setCell (by show w.heap.size ≤ gq; omega) _)

/-- The divisor's row. -/
def DivV (n V : Nat) (dv : Nat → Nat) : Prop := (∀ j, dv j < 4294967296) ∧ dv n = 0 ∧ 2147483648 ≤ dv (n - 1) ∧ val 4294967296 (seg dv 0 n) = V
theorem div_of_shl {w W : World} {g n s top : Nat} {ys : List Nat} (h : ShlI w g n s ys n W) (hn : ys.length = n) (h2 : 2 ≤ n) (hdy : ∀ d ∈ ys, d < 4294967296) (htp : top = ys.getD (n - 1) 0) (hsA : 2147483648 ≤ top * 2 ^ s) (hsB : (top + 1) * 2 ^ s ≤ 4294967296) :
    ∃ dv : Nat → Nat, RowU W g (n + 1) dv ∧ DivV n (val 4294967296 ys * 2 ^ s) dv ∧ Below w.heap.size w W := by
  obtain ⟨t, hr, htB, -, -, hv, hb⟩ := h
  rw [List.take_of_length_le (by omega)] at hv
  have e : ys = ys.take (n - 1) ++ [top] := by
    have := take_snoc ys (n - 1) (by omega)
    rw [show n - 1 + 1 = n by omega, List.take_of_length_le (by omega), ← htp] at this
    exact this
  have hlen : (ys.take (n - 1)).length = n - 1 := by rw [List.length_take]; omega
  have hve : val 4294967296 ys = val 4294967296 (ys.take (n - 1)) + 4294967296 ^ (n - 1) * top := by
    have := val_snoc 4294967296 (ys.take (n - 1)) top
    rw [← e, hlen] at this
    exact this
  have hlt : val 4294967296 (ys.take (n - 1)) < 4294967296 ^ (n - 1) := by
    have := val_lt (b := 4294967296) (ys.take (n - 1)) (fun d hd => hdy d (List.mem_of_mem_take hd))
    rwa [hlen] at this
  obtain ⟨d1, d2, d3⟩ := long_div (b := 4294967296) (H := 2147483648) (n := n) (v := val 4294967296 ys) (S := 2 ^ s) (top := top) (by omega) htB hv
    (by rw [hve, Nat.mul_comm]; exact Nat.le_add_left _ _) (by rw [hve, Nat.mul_comm, Nat.mul_comm (top + 1), Nat.mul_add, Nat.mul_one, Nat.mul_comm top]; omega) (Nat.pow_pos (by omega)) hsA hsB
  exact ⟨t, hr, ⟨htB, d1, d2, d3⟩, hb⟩

theorem val_top {n top : Nat} {ys : List Nat} (hn : ys.length = n) (h2 : 2 ≤ n) (htp : top = ys.getD (n - 1) 0) (ht0 : 0 < top) : 4294967296 ^ (n - 1) ≤ val 4294967296 ys := by
  have e : ys = ys.take (n - 1) ++ [top] := by
    have := take_snoc ys (n - 1) (by omega)
    rw [show n - 1 + 1 = n by omega, List.take_of_length_le (by omega), ← htp] at this
    exact this
  have hlen : (ys.take (n - 1)).length = n - 1 := by rw [List.length_take]; omega
  have hve : val 4294967296 ys = val 4294967296 (ys.take (n - 1)) + 4294967296 ^ (n - 1) * top := by
    have := val_snoc 4294967296 (ys.take (n - 1)) top
    rw [← e, hlen] at this
    exact this
  have : 4294967296 ^ (n - 1) * 1 ≤ 4294967296 ^ (n - 1) * top := Nat.mul_le_mul_left _ ht0
  omega
/-- The loop's beginning. -/
theorem long_start {w W w4 w6 : World} {m n L s bd gd : Nat} {xs ys : List Nat} {dv t : Nat → Nat} (hmL : m + 1 = L + n) (hxs : xs.length = m) (h2 : 2 ≤ n) (hdx : ∀ d ∈ xs, d < 4294967296) (htop : 4294967296 ^ (n - 1) ≤ val 4294967296 ys)
    (F1 : One W w.heap.size (.int .i64 (n : Nat)) 3) (F2 : One W bd (.slice (some ⟨gd, 0, none⟩) n n) 22) (F3 : RowU W gd (n + 1) dv) (F5 : w.heap.size < bd) (F6 : w.heap.size < gd) (F7 : bd ≠ gd) (FB : Below w.heap.size w W)
    (hr4 : RowU w4 W.heap.size (m + 1) t) (htB : ∀ j, t j < 4294967296) (htz : ∀ j, m < j → t j = 0) (hv4 : val 4294967296 (seg t 0 (m + 1)) = val 4294967296 (xs.take m) * 2 ^ s) (hb4 : Below W.heap.size W w4)
    (hrow6 : Row w6 (w4.alloc (.cells #[.slice (some ⟨W.heap.size, 0, none⟩) (m + 1) (m + 1)] 22)).heap.size 71 L (fun _ => .int .u32 0)) (hb6 : Below (w4.alloc (.cells #[.slice (some ⟨W.heap.size, 0, none⟩) (m + 1) (m + 1)] 22)).heap.size (w4.alloc (.cells #[.slice (some ⟨W.heap.size, 0, none⟩) (m + 1) (m + 1)] 22)) w6) :
    LongO w.heap.size bd w4.heap.size w6.heap.size (w6.heap.size + 1) gd W.heap.size (w4.heap.size + 1) ∧
    LongI w m n L (val 4294967296 ys * 2 ^ s) (val 4294967296 xs * 2 ^ s) bd w4.heap.size w6.heap.size (w6.heap.size + 1) gd W.heap.size (w4.heap.size + 1) dv L
      ((w6.alloc (.cells #[.slice (some ⟨w4.heap.size + 1, 0, none⟩) L L] 22)).alloc (.cells #[.slice (some ⟨w4.heap.size + 1, 0, none⟩) L L] 22)) := by
  have lgr := hr4.lt
  have l1 := F2.lt
  have l2 := F3.lt
  have e5 : (w4.alloc (.cells #[.slice (some ⟨W.heap.size, 0, none⟩) (m + 1) (m + 1)] 22)).heap.size = w4.heap.size + 1 := by simp
  have bz4 := (Below.refl w4.heap.size w4).alloc (Nat.le_refl _) (.cells #[.slice (some ⟨W.heap.size, 0, none⟩) (m + 1) (m + 1)] 22)
  rw [e5] at hrow6
  have lgq := hrow6.lt
  have hb46 : Below w4.heap.size w4 w6 := bz4.trans (hb6.mono (by rw [e5]; omega))
  have hbW6 : Below W.heap.size W w6 := hb4.trans (hb46.mono (by omega))
  obtain ⟨V7, hV7⟩ : ∃ V7, ((w6.alloc (.cells #[.slice (some ⟨w4.heap.size + 1, 0, none⟩) L L] 22)).alloc (.cells #[.slice (some ⟨w4.heap.size + 1, 0, none⟩) L L] 22)) = V7 := ⟨_, rfl⟩
  have b67 : Below w6.heap.size w6 V7 := by rw [← hV7]; exact ((Below.refl _ w6).alloc (Nat.le_refl _) _).alloc (by simp) _
  have q1 : One V7 w6.heap.size (.slice (some ⟨w4.heap.size + 1, 0, none⟩) L L) 22 := by rw [← hV7]; exact (One.new w6 _ _).alloc _
  have q2 : One V7 (w6.heap.size + 1) (.slice (some ⟨w4.heap.size + 1, 0, none⟩) L L) 22 := by
    have := One.new (w6.alloc (.cells #[.slice (some ⟨w4.heap.size + 1, 0, none⟩) L L] 22)) (.slice (some ⟨w4.heap.size + 1, 0, none⟩) L L) 22
    rw [hV7] at this
    simpa using this
  have hbr : One w6 w4.heap.size (.slice (some ⟨W.heap.size, 0, none⟩) (m + 1) (m + 1)) 22 := (One.new w4 _ _).step hb6
  rw [hV7]
  have hbW7 : Below W.heap.size W V7 := hbW6.trans (b67.mono (by omega))
  have hpow : val 4294967296 xs < 4294967296 ^ m := by
    have := val_lt (b := 4294967296) xs hdx
    rwa [hxs] at this
  rw [List.take_of_length_le (by omega)] at hv4
  refine ⟨⟨F5, F6, F7, l1, l2, lgr, by omega, lgq, by omega⟩, t, fun _ => 0, ⟨F1.step hbW7, F2.step hbW7, ?_, q1, q2, Row.below F3 hbW7 l2, ?_, ?_⟩, ?_, fun _ _ => rfl, FB.trans (hbW7.mono FB.size)⟩
  · exact hbr.step b67
  · exact Row.below hr4 (hb46.trans (b67.mono (by omega))) hr4.lt
  · exact Row.same (Row.below hrow6 b67 lgq) (fun _ _ => rfl)
  · exact long_init (by omega) htB htz hmL (by omega) hv4 hpow rfl (Nat.mul_le_mul_right _ htop) (Nat.pow_pos (by omega))

set_option maxRecDepth 100000 in
set_option maxHeartbeats 4000000 in
theorem divideLong_any {A B : Option Addr} {m n L ca cb : Nat} {xs ys : List Nat} {w : World} (hm : xs.length = m) (hn : ys.length = n) (h2 : 2 ≤ n) (hmL : m + 1 = L + n) (hL : 1 ≤ L) (hmm : m ≤ 400000) (hdx : ∀ d ∈ xs, d < 4294967296) (hdy : ∀ d ∈ ys, d < 4294967296) (htop : ys.getD (n - 1) 0 ≠ 0)
    (hA : Cells w w.heap.size A m (u32f xs)) (hB : Cells w w.heap.size B n (u32f ys)) :
    Calls Tryd.prog 57 #[.slice A m ca, .slice B n cb] w (LongPost w n L (val 4294967296 xs) (val 4294967296 ys)) := by
  have HB := Lib.hid hB
  obtain ⟨b, rfl, hbb, hbc⟩ := hB (n - 1) (by omega)
  obtain ⟨top, htp⟩ : ∃ top, top = ys.getD (n - 1) 0 := ⟨_, rfl⟩
  have ht0 : 0 < top := by omega
  have ht1 : top < 4294967296 := by rw [htp]; exact getD_lt0 (by omega) hdy _
  have hct : (w.alloc (.cells #[.int .i64 (n : Nat)] 3)).cell? (b.add (n - 1)) = some (.int .u32 (top : Nat)) := by
    rw [((Below.refl w.heap.size w).alloc (Nat.le_refl _) _).cell (by rw [add_block]; exact hbb), hbc, htp]; rfl
  have HLZ := Lib.hid (fun W : World => Tryd.bits_LeadingZeros32 (top : Int) W (by omega) (by omega))
  obtain ⟨s, hs31, hs, hsA, hsB⟩ := top_shift ht0 ht1
  rw [hs] at HLZ
  have hw1 : IntKind.i64.wrap ((n : Int) - 1) = (n : Int) - 1 := IntWalk.i64_in _ (by omega)
  have hn1 : ((n : Int) - 1).toNat = n - 1 := by omega
  have hz1 : (0 : Int) ≤ (n : Int) - 1 := by omega
  -- the two shifts
  have HD := Lib.hid (fun (W : World) (hb : Below w.heap.size w W) => (shiftLeft_any (c := cb) (ds := ys) (w := W) hn.symm (by omega) hs31 hdy (by rw [hn]; exact HB.out.step hb hb.size)).mono (fun e w' (h : ShlPost W ys.length s ys e w') => (⟨h.1, div_of_shl (by rw [hn] at h; exact h.2) hn h2 hdy htp hsA hsB⟩ : _ ∧ _)))
  have HR := Lib.hid (fun (W : World) (hb : Below w.heap.size w W) => shiftLeft_any (c := ca) (ds := xs) (w := W) hm.symm (by omega) hs31 hdx (by rw [hm]; exact hA.step hb hb.size))
  rw [hn] at HD
  rw [hm] at HR
  have HTP := Lib.hid htp
  have HDX := Lib.hid hdx
  have HDY := Lib.hid hdy
  have HSA := Lib.hid hsA
  have HSB := Lib.hid hsB
  have HML := Lib.hid hmL
  have HN := Lib.hid (And.intro hm hn)
  clear hmL hm hn
  clear hs htp hbc htop hdx hdy hsA hsB hA hB
  refine (callsIn_wide (n := 5)).1 ?_
  refine callsIn_of_wp_marks Tryd.func57 rfl trivial ?_ rfl
  simp only [Tryd.ntmps57, List.size_toArray, List.length_cons, List.length_nil, Nat.reduceAdd, Nat.reduceSub, Array.replicate_succ, Array.replicate_zero, List.push_toArray, List.append_toArray, List.nil_append, List.cons_append]
  have h75 : Fence.wide.fn 75 := trivial
  have h31 : 1 ≤ 5 := by omega
  gi_wp2_with (gi_at_call 75; refine (callsIn_wide.2 (HLZ.out _)).mono ?_; rintro e w1 ⟨rfl, rfl⟩)
  obtain ⟨w1, hw1e⟩ : ∃ w1, w.alloc (.cells #[.int .i64 (n : Nat)] 3) = w1 := ⟨_, rfl⟩
  have o1 : One w1 w.heap.size (.int .i64 (n : Nat)) 3 := by rw [← hw1e]; exact One.new _ _ _
  have b1 : Below w.heap.size w w1 := by rw [← hw1e]; exact (Below.refl _ w).alloc (Nat.le_refl _) _
  have s1 : w1.heap.size = w.heap.size + 1 := by rw [← hw1e]; simp
  rw [hw1e]
  clear hw1e hct HLZ
  rename_i K0 hK0
  have cut : ∀ (W : World) (gd bd : Nat) (dv : Nat → Nat), One W w.heap.size (.int .i64 (n : Nat)) 3 → One W bd (.slice (some ⟨gd, 0, none⟩) n n) 22 → RowU W gd (n + 1) dv → DivV n (val 4294967296 ys * 2 ^ s) dv → w.heap.size < bd → w.heap.size < gd → bd ≠ gd → Below w.heap.size w W →
      K0 { tmps := #[.slice A m ca, .slice (some b) n cb, undef, undef, .slice none 0 0, .slice none 0 0, .pointer (some ⟨w.heap.size, 0, none⟩), .int .i64 s, .pointer (some ⟨bd, 0, none⟩), undef, undef, undef, .slice (some b) n cb, .int .i64 n, .slice (some b) n cb, .int .i64 n, .int .i64 ((n : Int) - 1), .pointer (some (b.add (n - 1))), .int .u32 top, .int .i64 s, .slice (some b) n cb, .int .i64 s, .slice (some ⟨gd, 0, none⟩) (n + 1) (n + 1), .int .i64 n, .int .i64 n, .slice (some ⟨gd, 0, none⟩) n n, undef, undef, undef, undef, undef, undef, undef, undef, undef, undef, undef, undef, undef, undef, undef, undef, undef, undef, undef, undef, undef, undef, undef, undef, undef, undef, undef, undef, undef, undef, undef, undef, undef, undef, undef, undef, undef, undef, undef, undef], defers := [] } W := by
    intro W gd bd dv F1 F2 F3 F4 F5 F6 F7 FB
    refine hK0 _ _ ?_
    clear hK0 K0
    have lbd := F2.lt
    have lgd := F3.lt
    obtain ⟨i0, hi, hz0, hz1, hz2⟩ := info_parts infoU32
    have hw5 : IntKind.i64.wrap ((m : Int) - (n : Int)) = (m : Int) - (n : Int) := IntWalk.i64_in _ (by have := HML.out; omega)
    have hw6 : IntKind.i64.wrap ((m : Int) - (n : Int) + 1) = (L : Int) := by rw [show (m : Int) - (n : Int) + 1 = (L : Int) by have := HML.out; omega]; exact IntWalk.i64_in _ (by have := HML.out; omega)
    have h76 : Fence.wide.fn 76 := trivial
    have h50 : Fence.wide.fn 50 := trivial
    gi_wp2_with (first
      | (gi_at_call 76; refine (callsIn_wide.2 (HR.out _ FB)).mono ?_; rintro e w4 ⟨rfl, t, hr4, htB, htz, -, hv4, hb4⟩; have bz4 := (Below.refl w4.heap.size w4).alloc (Nat.le_refl _) (.cells #[.slice (some ⟨W.heap.size, 0, none⟩) (m + 1) (m + 1)] 22); have g1 := ((F1.step hb4).step bz4).cell)
      | (gi_at_make; refine wpListIn_make_row rfl (.tmp 33) (.tmp 33) _ rfl 71 i0 _ Tryd.underlying22 hi hz0 hz1 rfl _ _ _ _ L rfl rfl rfl rfl (by rw [hz2]; have := HML.out; omega) (by simp [maxLen]; have := HML.out; omega) _ _ (Below.refl _ _) (Nat.le_refl _) ?_; intro w6 hrow6 hb6 hs6)
      | (gi_at_call 50; refine (backward_in Fence.wide _ trivial rfl _ _ _ _).mono ?_; rintro e w' ⟨rfl, rfl⟩))
    obtain ⟨hO, hI0⟩ := long_start HML.out HN.out.1 h2 HDX.out (val_top HN.out.2 h2 HTP.out ht0) F1 F2 F3 F5 F6 F7 FB hr4 htB htz hv4 hb4 hrow6.out hb6.out
    have hOs := hO
    obtain ⟨-, -, -, -, -, lo6, lo7, lo8, lo9⟩ := hOs
    clear F1 F2 F3 F5 F6 F7 FB hr4 htB htz hv4 hb4 hrow6 hb6 hs6 hi hz0 hz1 hz2 hw5 hw6 g1 bz4 lbd lgd
    generalize W.heap.size = gr at hO hI0 lo6 lo7 lo8 lo9 ⊢
    generalize w4.heap.size = br at hO hI0 lo6 lo7 lo8 lo9 ⊢
    generalize w6.heap.size = bq at hO hI0 lo6 lo7 lo8 lo9 ⊢
    obtain ⟨w7, hw7⟩ : ∃ w7, ((w6.alloc (.cells #[.slice (some ⟨br + 1, 0, none⟩) L L] 22)).alloc (.cells #[.slice (some ⟨br + 1, 0, none⟩) L L] 22)) = w7 := ⟨_, rfl⟩
    rw [hw7] at hI0 ⊢
    clear hw7
    generalize br + 1 = gq at hO hI0 lo7 lo8 lo9 ⊢
    generalize bq + 1 = bs at hO hI0 lo9 ⊢
    have hVb : val 4294967296 ys * 2 ^ s ≤ 4294967296 ^ n := by rw [← F4.2.2.2]; exact Nat.le_of_lt (seg_val_lt F4.1 0 n)
    have hs7 : w.heap.size ≤ w7.heap.size := by obtain ⟨_, _, _, _, _, hb⟩ := hI0; exact hb.size
    refine wpIn_iterate rfl (by omega) (gf := 72) (lb := #[.pointer (some ⟨bs, 0, none⟩)]) (by simp [go_sem]) trivial (enters_of Tryd.func72 (by kernel_rfl) rfl)
      (back_iter Fence.wide _ trivial rfl (by omega) _ (some ⟨gq, 0, none⟩) L L (fun _ => 0) (by have := HML.out; omega) _) (fun _ => rfl)
      (fun pre W => LongI w m n L (val 4294967296 ys * 2 ^ s) (val 4294967296 xs * 2 ^ s) bd br bq bs gd gr gq dv (L - pre.length) W) (fun _ _ _ => False) (long_own hs7) (fun c => by intro s W W' row hs; exact hs.elim) ?IR hI0 ?a1 ?assign ?body ?done ?stop
    case assign =>
      intro l x W K hK
      gi_wp2
      exact hK
    case IR =>
      rintro pre W ⟨r, q, ⟨h1, h2, h3, h4, h5, h6, h7, h8⟩, hV, hq0, hb⟩
      refine ⟨h5.cell, fun hp => ⟨⟨gq, 0, none⟩, rfl, ?_⟩⟩
      have hc := Row.cell h8 (L - 1 - pre.length) (by omega)
      rw [hq0 _ (by omega)] at hc
      rw [row_at]
      exact hc
    case body =>
      rintro l pre x0 Wl ⟨r, q, hS, hV, hq0, hb⟩ hpl ⟨_, rfl⟩
      obtain ⟨k, hk⟩ : ∃ k, k = L - 1 - pre.length := ⟨_, rfl⟩
      have hkn : L - pre.length = k + 1 := by omega
      rw [hkn] at hV hq0
      rw [← hk]
      clear hk
      have hkL : k < L := by omega
      have hkm : k + (n + 1) ≤ m + 1 := by have := HML.out; omega
      have HS := Lib.hid hS
      obtain ⟨h1, h2', h3, h4, h5, h6, h7, h8⟩ := hS
      have c1 := h1.cell
      have c2 := h2'.cell
      have c3 := h3.cell
      have c4 := h4.cell
      have hcq := Row.cell h8 k hkL
      have hfq := Row.frozen h8 k
      have hdd : ∀ j, (seg dv 0 n).getD j 0 = if j < n then dv j else 0 := by
        intro j
        by_cases hj : j < n
        · rw [if_pos hj]
          simp [seg, List.getD, hj]
        · rw [if_neg hj]
          simp [seg, List.getD, hj]
      have HST := Lib.hid (divideStep_any (w := Wl.drew) (g := gr) (N := m + 1) (off := k) (n := n) (m := n + 1) (k := n) (cp := n + 1) (cb := n) (B := some ⟨gd, 0, none⟩) (f := fun j => .int .u32 (r j : Nat)) (t := fun j => r (k + j)) (ds := seg dv 0 n) rfl rfl (seg_len _ _ _) h2 (by omega) (by omega) hkm
        (fun j => hV.1 _) (by intro d hd; obtain ⟨j, _, rfl⟩ := List.mem_map.1 hd; exact F4.1 _) (by rw [hdd, if_pos (by omega)]; exact F4.2.2.1) (RowP.of (show Row Wl.drew gr _ (m + 1) _ from h7) (fun j _ => rfl))
        (Cells.same ((Row.cellsB (show Row Wl.drew gd _ (n + 1) _ from h6) (by have := hO.2.2.2.2.1; omega)).less (by omega)) (fun j hj => by show Value.int .u32 (dv j : Nat) = .int .u32 ((seg dv 0 n).getD j 0 : Nat); rw [hdd, if_pos hj])) (by rw [seg_shift, F4.2.2.2]; exact hV.2.2.2.1) (Nat.le_refl _))
      rw [F4.2.2.2] at HST
      have hwa : IntKind.i64.wrap ((k : Int) + (n : Int)) = (k : Int) + (n : Int) := IntWalk.i64_in _ (by omega)
      have hwb : IntKind.i64.wrap ((k : Int) + (n : Int) + 1) = (k : Int) + (n : Int) + 1 := IntWalk.i64_in _ (by omega)
      have hz0 : (0 : Int) ≤ (k : Int) := by omega
      have hz1 : (k : Int) ≤ (k : Int) + (n : Int) + 1 := by omega
      have hz2 : (k : Int) + (n : Int) + 1 ≤ ((m + 1 : Nat) : Int) := by omega
      have hz3 : ((k : Int) + (n : Int) + 1).toNat = k + (n + 1) := by omega
      have hz4 : k + (n + 1) - k = n + 1 := by omega
      have hz5 : (k : Int) < (L : Int) := by omega
      have hz6 : (0 : Int) ≤ (k : Int) + (n : Int) + 1 := by omega
      have hz7 : (k : Int) + (n : Int) ≤ (m : Int) := by omega
      have hz8 : (k : Int) + (n : Int) + 1 ≤ (k : Int) + ((n : Int) + 1) := by omega
      have HV := Lib.hid hV
      have HQ0 := Lib.hid hq0
      have HKN := Lib.hid hkn
      have HB := Lib.hid hb
      clear h1 h2' h3 h4 h5 h6 h7 h8 hV hq0 hkn hb hdd hI0
      gi_wp2
      refine wpIn_region_round (fun W' => W'.cell? ⟨w.heap.size, 0, none⟩ = some (.int .i64 (n : Nat)) ∧ W'.cell? ⟨bd, 0, none⟩ = some (.slice (some ⟨gd, 0, none⟩) n n) ∧ W'.cell? ⟨br, 0, none⟩ = some (.slice (some ⟨gr, 0, none⟩) (m + 1) (m + 1)) ∧ W'.cell? ⟨bq, 0, none⟩ = some (.slice (some ⟨gq, 0, none⟩) L L)) (by kernel_rfl) (by kernel_rfl) ⟨c1, c2, c3, c4⟩ (fun hHeld => ?_)
      refine wpAnyH_takeD 0 (v := ?_) rfl rfl (by kernel_rfl) (by kernel_rfl) (by kernel_rfl) (fun _ _ _ h => h) (Or.inl ⟨by rfl, ?_⟩) hHeld ?_
      rotate_left
      focus (intro w hSw; (try dsimp only at hSw); go_simp; try with_reducible rfl)
      simp only [List.setIfInBounds_toArray, List.set_cons_zero, List.set_cons_succ]
      refine wpAnyH_takeD 1 (v := ?_) rfl rfl (by kernel_rfl) (by kernel_rfl) (by kernel_rfl) (fun _ _ _ h => h) (Or.inl ⟨by rfl, ?_⟩) hHeld ?_
      rotate_left
      focus (intro w hSw; (try dsimp only at hSw); go_simp; try with_reducible rfl)
      simp only [List.setIfInBounds_toArray, List.set_cons_zero, List.set_cons_succ]
      refine wpAnyH_takeD 2 (v := ?_) rfl rfl (by kernel_rfl) (by kernel_rfl) (by kernel_rfl) (fun _ _ _ h => h) (Or.inl ⟨by rfl, ?_⟩) hHeld ?_
      rotate_left
      focus (intro w hSw; (try dsimp only at hSw); go_simp; try with_reducible rfl)
      simp only [List.setIfInBounds_toArray, List.set_cons_zero, List.set_cons_succ]
      refine wpAnyH_takeD 3 (v := ?_) rfl rfl (by kernel_rfl) (by kernel_rfl) (by kernel_rfl) (fun _ _ _ h => h) (Or.inl ⟨by rfl, ?_⟩) hHeld ?_
      rotate_left
      focus (intro w hSw; (try dsimp only at hSw); go_simp; try with_reducible rfl)
      simp only [List.setIfInBounds_toArray, List.set_cons_zero, List.set_cons_succ]
      refine wpAnyH_takeD 4 (v := ?_) rfl rfl (by kernel_rfl) (by kernel_rfl) (by kernel_rfl) (fun _ _ _ h => h) (Or.inl ⟨by rfl, ?_⟩) hHeld ?_
      rotate_left
      focus (intro w hSw; (try dsimp only at hSw); go_simp; try with_reducible rfl)
      simp only [List.setIfInBounds_toArray, List.set_cons_zero, List.set_cons_succ]
      refine wpAnyH_takeD 5 (v := ?_) rfl rfl (by kernel_rfl) (by kernel_rfl) (by kernel_rfl) (fun _ _ _ h => h) (Or.inl ⟨by rfl, ?_⟩) hHeld ?_
      rotate_left
      focus (intro w hSw; (try dsimp only at hSw); go_simp; try with_reducible rfl)
      simp only [List.setIfInBounds_toArray, List.set_cons_zero, List.set_cons_succ]
      refine wpAnyH_takeD 6 (v := ?_) rfl rfl (by kernel_rfl) (by kernel_rfl) (by kernel_rfl) (fun _ _ _ h => h) (Or.inl ⟨by rfl, ?_⟩) hHeld ?_
      rotate_left
      focus (intro w hSw; (try dsimp only at hSw); go_simp; try with_reducible rfl)
      simp only [List.setIfInBounds_toArray, List.set_cons_zero, List.set_cons_succ]
      refine wpAnyH_takeD 7 (v := ?_) rfl rfl (by kernel_rfl) (by kernel_rfl) (by kernel_rfl) (fun _ _ _ h => h) (Or.inl ⟨by rfl, ?_⟩) hHeld ?_
      rotate_left
      focus (intro w hSw; (try dsimp only at hSw); go_simp; try with_reducible rfl)
      simp only [List.setIfInBounds_toArray, List.set_cons_zero, List.set_cons_succ]
      refine wpAnyH_takeD 8 (v := ?_) rfl rfl (by kernel_rfl) (by kernel_rfl) (by kernel_rfl) (fun _ _ _ h => h) (Or.inl ⟨by rfl, ?_⟩) hHeld ?_
      rotate_left
      focus (intro w hSw; (try dsimp only at hSw); go_simp; try with_reducible rfl)
      simp only [List.setIfInBounds_toArray, List.set_cons_zero, List.set_cons_succ]
      refine wpAnyH_takeD 9 (v := ?_) rfl rfl (by kernel_rfl) (by kernel_rfl) (by kernel_rfl) (fun _ _ _ h => h) (Or.inl ⟨by rfl, ?_⟩) hHeld ?_
      rotate_left
      focus (intro w hSw; (try dsimp only at hSw); go_simp; try with_reducible rfl)
      simp only [List.setIfInBounds_toArray, List.set_cons_zero, List.set_cons_succ]
      refine wpAnyH_takeD 10 (v := ?_) rfl rfl (by kernel_rfl) (by kernel_rfl) (by kernel_rfl) (fun _ _ _ h => h) (Or.inl ⟨by rfl, ?_⟩) hHeld ?_
      rotate_left
      focus (intro w hSw; (try dsimp only at hSw); go_simp; try with_reducible rfl)
      simp only [List.setIfInBounds_toArray, List.set_cons_zero, List.set_cons_succ]
      refine wpAnyH_takeD 11 (v := ?_) rfl rfl (by kernel_rfl) (by kernel_rfl) (by kernel_rfl) (fun _ _ _ h => h) (Or.inl ⟨by rfl, ?_⟩) hHeld ?_
      rotate_left
      focus (intro w hSw; (try dsimp only at hSw); go_simp; try with_reducible rfl)
      simp only [List.setIfInBounds_toArray, List.set_cons_zero, List.set_cons_succ]
      refine wpAnyH_takeD 12 (v := ?_) rfl rfl (by kernel_rfl) (by kernel_rfl) (by kernel_rfl) (fun _ _ _ h => h) (Or.inl ⟨by rfl, ?_⟩) hHeld ?_
      rotate_left
      focus (intro w hSw; (try dsimp only at hSw); go_simp; try with_reducible rfl)
      simp only [List.setIfInBounds_toArray, List.set_cons_zero, List.set_cons_succ]
      refine wpAnyH_takeD 13 (v := ?_) rfl rfl (by kernel_rfl) (by kernel_rfl) (by kernel_rfl) (fun _ _ _ h => h) (Or.inl ⟨by rfl, ?_⟩) hHeld ?_
      rotate_left
      focus (intro w hSw; (try dsimp only at hSw); go_simp; try with_reducible rfl)
      simp only [List.setIfInBounds_toArray, List.set_cons_zero, List.set_cons_succ]
      refine wpAnyH_ready (rs := [14]) (by kernel_rfl) (by simp) ?_
      refine AllReadyH.cons rfl (fun K hK => ?_) AllReadyH.nil
      go_simp
      refine HST.out.mono ?_
      rintro e w3 hP
      obtain ⟨q1, rfl⟩ : ∃ q1 : Nat, e = .returned (.int .u32 (q1 : Int)) := (by obtain ⟨q1, _, h, _⟩ := hP; exact ⟨q1, h⟩)
      have hg3 : Wl.drew.grownBy w3 (some gr) := by obtain ⟨_, _, _, _, _, _, _, h⟩ := hP; exact h
      have HP := Lib.hid hP
      obtain ⟨h1, h2', h3, h4, h5, h6, h7, h8⟩ := HS.out
      have hO2 := hO
      unfold LongO at hO2
      have k1 := One.grown (w := Wl.drew) h1 hg3 (by omega)
      have k2 := One.grown (w := Wl.drew) h2' hg3 (by omega)
      have k3 := One.grown (w := Wl.drew) h3 hg3 (by omega)
      have k4 := One.grown (w := Wl.drew) h4 hg3 (by omega)
      have K1 := Lib.hid (k1.far (p := ⟨gq, k, none⟩) (by show w.heap.size ≠ gq; omega) (.int .u32 (q1 : Nat))).cell
      have K2 := Lib.hid (k2.far (p := ⟨gq, k, none⟩) (by show bd ≠ gq; omega) (.int .u32 (q1 : Nat))).cell
      have K3 := Lib.hid (k3.far (p := ⟨gq, k, none⟩) (by show br ≠ gq; omega) (.int .u32 (q1 : Nat))).cell
      have K4 := Lib.hid (k4.far (p := ⟨gq, k, none⟩) (by show bq ≠ gq; omega) (.int .u32 (q1 : Nat))).cell
      have d1 := k1.cell
      have d2 := k2.cell
      have d3 := k3.cell
      have d4 := k4.cell
      have d8 := row_grown (w := Wl.drew) h8 hg3 (by omega)
      have d5 := Row.cell d8 k hkL
      have d6 := Row.frozen d8 k
      clear hP hg3 h1 h2' h3 h4 h5 h6 h7 h8 d8 c1 c2 c3 c4 hcq hfq k1 k2 k3 k4 hO2
      refine hK.out _ _ ⟨d1, d2, d3, d4⟩ (fun hHeld => ?_)
      clear hK K
      refine wpAnyH_takeD 15 (v := ?_) rfl rfl (by kernel_rfl) (by kernel_rfl) (by kernel_rfl) (fun _ _ _ h => h) (Or.inl ⟨by rfl, ?_⟩) hHeld ?_
      rotate_left
      focus (intro w hSw; (try dsimp only at hSw); go_simp; try with_reducible rfl)
      simp only [List.setIfInBounds_toArray, List.set_cons_zero, List.set_cons_succ]
      refine wpAnyH_ready (rs := [16]) (by kernel_rfl) (by simp) ?_
      refine AllReadyH.cons rfl (fun K hK => ?_) AllReadyH.nil
      go_simp
      refine hK.out _ _ ⟨K1.out, K2.out, K3.out, K4.out⟩ (fun hHeld => ?_)
      refine wpAnyH_done (by kernel_rfl) ?_ _
      exact long_leaf hO HKN.out HML.out hVb HS.out HV.out HQ0.out HB.out HP.out _ rfl
    case done =>
      rintro D xs' Wd hD rfl hDI hK
      obtain ⟨r, q, hS, hV, -, hb⟩ := hDI
      rw [dn_len, Nat.sub_self] at hV
      have hDs := (Array.getElem?_eq_some_iff.1 hK).1
      obtain ⟨h1, h2', h3, h4, h5, h6, h7, h8⟩ := hS
      have c1 := h1.cell
      have c3 := h3.cell
      have hSR := shiftRight_any (w := Wd) (g := gr) (N := m + 1) (c := n) (A := some ⟨gr, 0, none⟩) (f := fun j => .int .u32 (r j : Nat)) (ds := seg r 0 n) s (by rw [seg_len]; have := HML.out; omega) hs31 (by intro d hd; obtain ⟨j, _, rfl⟩ := List.mem_map.1 hd; exact hV.1 _) (fun _ => rfl) (by rw [seg_len]; have := HML.out; omega) h7
        (fun i hi => by rw [seg_len] at hi; show Value.int .u32 (r i : Nat) = .int .u32 ((seg r 0 n).getD i 0 : Nat); simp [seg, List.getD, hi])
      rw [seg_len] at hSR
      have HSR := Lib.hid hSR
      have HALL := Lib.hid (And.intro h1 (And.intro h3 (And.intro h4 (And.intro h7 (And.intro h8 (And.intro hV (And.intro hb hK)))))))
      have hz0 : (0 : Int) ≤ (n : Int) := by omega
      have hz1 : (n : Int) ≤ ((m + 1 : Nat) : Int) := by have := HML.out; omega
      have hz2 : (n : Int) ≤ (m : Int) + 1 := by have := HML.out; omega
      have hz3 : n ≤ m + 1 := by have := HML.out; omega
      have h78 : Fence.wide.fn 78 := trivial
      clear hSR h1 h2' h3 h4 h5 h6 h7 h8 hV hb hK hDs hI0
      gi_wp2_with (gi_at_call 78; refine (callsIn_wide.2 HSR.out).mono ?_; rintro e w9 hP9; obtain ⟨v9, rfl⟩ : ∃ v9, e = .returned v9 := (by obtain ⟨v9, _, h, _⟩ := hP9; exact ⟨v9, h⟩); have HP9 := Lib.hid hP9; clear hP9)
      obtain ⟨k1, k3, k4, k7, k8, kV, kb, kK⟩ := HALL.out
      have hg9 : Wd.grownBy w9 (some gr) := by obtain ⟨_, _, _, _, _, h⟩ := HP9.out; exact h
      have hO2 := hO
      unfold LongO at hO2
      have c5 := (k1.grown hg9 (by omega)).cell
      have c6 := (k3.grown hg9 (by omega)).cell
      have c7 := (k4.grown hg9 (by omega)).cell
      obtain ⟨hK9, hfin⟩ := long_finish hs31 hO (Nat.le_trans hs7 hD) HML.out hL k7 k8 kV kb kK HP9.out
      have HF := Lib.hid hfin
      have HK9 := Lib.hid hK9
      clear k1 k3 k4 k7 k8 kV kb kK hg9 hO2 hfin hK9 HALL HP9 HSR c1 c3
      refine wpIn_region_held (fun W' => W'.cell? ⟨w.heap.size, 0, none⟩ = some (.int .i64 (n : Nat)) ∧ W'.cell? ⟨br, 0, none⟩ = some (.slice (some ⟨gr, 0, none⟩) (m + 1) (m + 1)) ∧ W'.cell? ⟨bq, 0, none⟩ = some (.slice (some ⟨gq, 0, none⟩) L L)) (by kernel_rfl) ⟨c5, c6, c7⟩ (fun hHeld => ?_)
      refine wpAnyH_takeD 0 (v := ?_) rfl rfl (by kernel_rfl) (by kernel_rfl) (by kernel_rfl) (fun _ _ _ h => h) (Or.inl ⟨by rfl, ?_⟩) hHeld ?_
      rotate_left
      focus (intro w hSw; (try dsimp only at hSw); go_simp; try with_reducible rfl)
      simp only [List.setIfInBounds_toArray, List.set_cons_zero, List.set_cons_succ]
      refine wpAnyH_takeD 1 (v := ?_) rfl rfl (by kernel_rfl) (by kernel_rfl) (by kernel_rfl) (fun _ _ _ h => h) (Or.inl ⟨by rfl, ?_⟩) hHeld ?_
      rotate_left
      focus (intro w hSw; (try dsimp only at hSw); go_simp; try with_reducible rfl)
      simp only [List.setIfInBounds_toArray, List.set_cons_zero, List.set_cons_succ]
      refine wpAnyH_takeD 2 (v := ?_) rfl rfl (by kernel_rfl) (by kernel_rfl) (by kernel_rfl) (fun _ _ _ h => h) (Or.inl ⟨by rfl, ?_⟩) hHeld ?_
      rotate_left
      focus (intro w hSw; (try dsimp only at hSw); go_simp; try with_reducible rfl)
      simp only [List.setIfInBounds_toArray, List.set_cons_zero, List.set_cons_succ]
      refine wpAnyH_takeD 3 (v := ?_) rfl rfl (by kernel_rfl) (by kernel_rfl) (by kernel_rfl) (fun _ _ _ h => h) (Or.inl ⟨by rfl, ?_⟩) hHeld ?_
      rotate_left
      focus (intro w hSw; (try dsimp only at hSw); go_simp; try with_reducible rfl)
      simp only [List.setIfInBounds_toArray, List.set_cons_zero, List.set_cons_succ]
      refine wpAnyH_takeD 4 (v := ?_) rfl rfl (by kernel_rfl) (by kernel_rfl) (by kernel_rfl) (fun _ _ _ h => h) (Or.inl ⟨by rfl, ?_⟩) hHeld ?_
      rotate_left
      focus (intro w hSw; (try dsimp only at hSw); go_simp; try with_reducible rfl)
      simp only [List.setIfInBounds_toArray, List.set_cons_zero, List.set_cons_succ]
      refine wpAnyH_takeD 5 (v := ?_) rfl rfl (by kernel_rfl) (by kernel_rfl) (by kernel_rfl) (fun _ _ _ h => h) (Or.inl ⟨by rfl, ?_⟩) hHeld ?_
      rotate_left
      focus (intro w hSw; (try dsimp only at hSw); go_simp; try with_reducible rfl)
      simp only [List.setIfInBounds_toArray, List.set_cons_zero, List.set_cons_succ]
      refine wpAnyH_takeD 6 (v := ?_) rfl rfl (by kernel_rfl) (by kernel_rfl) (by kernel_rfl) (fun _ _ _ h => h) (Or.inl ⟨by rfl, ?_⟩) hHeld ?_
      rotate_left
      focus (intro w hSw; (try dsimp only at hSw); go_simp; try with_reducible rfl)
      simp only [List.setIfInBounds_toArray, List.set_cons_zero, List.set_cons_succ]
      refine wpAnyH_done (by kernel_rfl) ?_ _
      rename_i K9 hK9'
      show K9 _ _
      refine hK9' _ _ ?_
      clear hK9' K9
      try gi_wp2
      refine ⟨by simp, .inl ⟨_, _, rfl, run_takeDeferred HK9.out, ?_⟩⟩
      exact ⟨_, (by simp [results, Tryd.results57, go_sem]), HF.out⟩
    case stop =>
      rintro D c pre W _ _ h _
      exact h.elim
  clear hK0
  refine wpIn_mono (Q := Exit.then K0 (fun _ _ _ => False)) ?_ (by rintro e a w h; cases e <;> first | exact h | exact h.elim)
  refine wpIn_region_any (by kernel_rfl) ?_
  change wpAnyIn _ _ _ _ _ _ _ _ _ (World.drew _)
  refine wpAnyIn_of_held (fun W' => W'.cell? ⟨w.heap.size, 0, none⟩ = some (.int .i64 (n : Nat))) (by rintro ⟨a, w', h⟩; exact h) (o1.cell) (fun hHeld => ?_)
  refine wpAnyH_takeD 0 (v := ?_) rfl rfl (by kernel_rfl) (by kernel_rfl) (by kernel_rfl) (fun _ _ _ h => h) (Or.inl ⟨by rfl, ?_⟩) hHeld ?_
  rotate_left
  focus (intro w hSw; go_simp; try with_reducible rfl)
  refine wpAnyH_takeD 1 (v := ?_) rfl rfl (by kernel_rfl) (by kernel_rfl) (by kernel_rfl) (fun _ _ _ h => h) (Or.inl ⟨by rfl, ?_⟩) hHeld ?_
  rotate_left
  focus (intro w hSw; go_simp; try with_reducible rfl)
  refine wpAnyH_takeD 3 (v := ?_) rfl rfl (by kernel_rfl) (by kernel_rfl) (by kernel_rfl) (fun _ _ _ h => h) (Or.inl ⟨by rfl, ?_⟩) hHeld ?_
  rotate_left
  focus (intro w hSw; go_simp; try with_reducible rfl)
  refine wpAnyH_takeD 4 (v := ?_) rfl rfl (by kernel_rfl) (by kernel_rfl) (by kernel_rfl) (fun _ _ _ h => h) (Or.inl ⟨by rfl, ?_⟩) hHeld ?_
  rotate_left
  focus (intro w hSw; go_simp; try with_reducible rfl)
  refine wpAnyH_ready (rs := [2, 6]) (by kernel_rfl) (by simp) ?_
  have hle1 : (n : Int) ≤ (n : Int) + 1 := by omega
  have hle0 : (0 : Int) ≤ (n : Int) := by omega
  have hle2 : n ≤ n + 1 := by omega
  refine AllReadyH.cons rfl (fun K hK => ?_) ?_
  · go_simp
    refine (HD.out _ b1.drew).mono ?_
    rintro e w2 ⟨rfl, dv, hdv, hDV, hb2⟩
    have o2 : One w2 w.heap.size (.int .i64 (n : Nat)) 3 := One.step (w := w1.drew) o1 hb2
    have b2 : Below w.heap.size w w2 := b1.drew.trans (hb2.mono (by show w.heap.size ≤ w1.heap.size; omega))
    have hg2 := hdv.lt
    refine hK.out _ _ o2.cell (fun hHeld => ?_)
    clear hK K
    refine wpAnyH_takeD 5 (v := ?_) rfl rfl (by kernel_rfl) (by kernel_rfl) (by kernel_rfl) (fun _ _ _ h => h) (Or.inl ⟨by rfl, ?_⟩) hHeld ?_
    rotate_left
    focus (intro w hSw; go_simp; try with_reducible rfl)
    refine wpAnyH_ready (rs := [6]) (by kernel_rfl) (by simp) ?_
    refine AllReadyH.cons rfl (fun K hK => ?_) AllReadyH.nil
    go_simp
    refine hK.out _ _ (o2.alloc _).cell (fun hHeld => ?_)
    clear hK K
    refine wpAnyH_ready (rs := [7]) (by kernel_rfl) (by simp) ?_
    refine AllReadyH.cons rfl (fun K hK => ?_) AllReadyH.nil
    go_simp
    have bz := (Below.refl w2.heap.size w2).alloc (Nat.le_refl _) (.cells #[.slice (some ⟨w.heap.size + 1, 0, none⟩) n n] 22)
    refine hK.out _ _ (o2.step bz).cell (fun hHeld => ?_)
    refine wpAnyH_done (by kernel_rfl) ?_ _
    have hdv2 : RowU w2 (w.heap.size + 1) (n + 1) dv := by rw [← s1]; exact hdv
    have hlt2 := hdv2.lt
    exact cut _ _ _ dv (o2.step bz) (One.new w2 _ _) (hdv2.below bz hlt2) hDV (by omega) (by omega) (by omega) (b2.trans (bz.mono b2.size))
  refine AllReadyH.cons rfl (fun K hK => ?_) AllReadyH.nil
  go_simp
  have ob := One.new w1.drew (.slice none 0 0) 22
  have ba : Below w1.heap.size w1 (w1.drew.alloc (.cells #[.slice none 0 0] 22)) := (Below.refl _ w1).drew.alloc (Nat.le_refl _) _
  have o2 := One.step (w := w1) o1 ba
  refine hK.out _ _ o2.cell (fun hHeld => ?_)
  clear hK K
  refine wpAnyH_ready (rs := [2]) (by kernel_rfl) (by simp) ?_
  refine AllReadyH.cons rfl (fun K hK => ?_) AllReadyH.nil
  go_simp
  have b2 : Below w.heap.size w _ := b1.trans (ba.mono (by omega))
  refine (HD.out _ b2).mono ?_
  rintro e w2 ⟨rfl, dv, hdv, hDV, hb2⟩
  have e1 : w1.drew.heap.size = w.heap.size + 1 := s1
  have e2 : (w1.drew.alloc (.cells #[.slice none 0 0] 22)).heap.size = w.heap.size + 1 + 1 := by simp [s1]
  rw [e2] at hdv
  have o3 := o2.step hb2
  have ob3 := ob.step hb2
  rw [e1] at ob3
  have hob3 := ob3.cell
  have hob4 := ob3.frozen
  refine hK.out _ _ o3.cell (fun hHeld => ?_)
  clear hK K
  refine wpAnyH_takeD 5 (v := ?_) rfl rfl (by kernel_rfl) (by kernel_rfl) (by kernel_rfl) (fun _ _ _ h => h) (Or.inl ⟨by rfl, ?_⟩) hHeld ?_
  rotate_left
  focus (intro w hSw; go_simp; try with_reducible rfl)
  refine wpAnyH_ready (rs := [7]) (by kernel_rfl) (by simp) ?_
  refine AllReadyH.cons rfl (fun K hK => ?_) AllReadyH.nil
  go_simp
  have o4 := o3.far (p := ⟨w.heap.size + 1, 0, none⟩) (by show w.heap.size ≠ w.heap.size + 1; omega) (.slice (some ⟨w.heap.size + 1 + 1, 0, none⟩) n n)
  refine hK.out _ _ o4.cell (fun hHeld => ?_)
  refine wpAnyH_done (by kernel_rfl) ?_ _
  exact cut _ _ _ dv o4 (ob3.set_ _) (Row.far hdv (p := ⟨w.heap.size + 1, 0, none⟩) (by show w.heap.size + 1 + 1 ≠ w.heap.size + 1; omega) _) hDV (by omega) (by omega) (by omega) ((b2.trans (hb2.mono b2.size)).setCell (by show w.heap.size ≤ w.heap.size + 1; omega) _)
end Go.Proofs.YtapblmbjbpkieaaDoor
