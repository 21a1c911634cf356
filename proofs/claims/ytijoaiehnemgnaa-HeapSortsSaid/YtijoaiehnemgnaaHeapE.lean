/- A heap that stands for a map; contracts: take. -/
import Derived.Test.YtijoaiehnemgnaaHeapD
import Derived.Test.YtijoaiehnemgnaaHeapQ
namespace Go.Proofs.Ytijoaiehnemgnaa
open Go.RowKit

/-- Block h is a heap of the size n that holds the map M; E and P are its rows (E = h before the first entry). -/
def IsH (w : World) (h E P n : Nat) (M : Nat → Option Int) : Prop :=
  ∃ (A : Option Addr) (c L : Nat) (a : Nat → En) (pl : Nat → Int), HeapB w h A L c P n ∧ Plc w P n pl ∧ h ≠ P ∧ Ordered a L ∧ Holds a L n M ∧ PlR a L L M pl ∧ L = cnt M n ∧ n ≤ 65536 ∧
    ((A = none ∧ L = 0 ∧ c = 0 ∧ E = h) ∨ (A = some ⟨E, 0, none⟩ ∧ Arr w E c L a ∧ h ≠ E ∧ E ≠ P ∧ L ≤ c ∧ c ≤ maxLen))
/-- Nothing but the blocks h, E and P has changed. -/
def Fr (w w' : World) (h E P : Nat) : Prop := w'.os = w.os ∧ w'.tape = w.tape ∧ w'.output = w.output ∧ w.heap.size ≤ w'.heap.size ∧ ∀ k, k < w.heap.size → k ≠ h → k ≠ E → k ≠ P → w'.heap[k]? = w.heap[k]?
def HOut (w : World) (h E P n : Nat) (M : Nat → Option Int) (w' : World) : Prop := ∃ E', IsH w' h E' P n M ∧ (E' = E ∨ w.heap.size ≤ E') ∧ Fr w w' h E P
section
variable {w w' w'' : World} {h E P n : Nat} {M : Nat → Option Int}
theorem fr_only (hO : Only w w' E P) : Fr w w' h E P := ⟨hO.1, hO.2.1, hO.2.2.1, hO.2.2.2.1, fun k hk _ a b => hO.2.2.2.2 k hk a b⟩
theorem fr_below (hb : Below w.heap.size w w') : Fr w w' h E P := ⟨hb.os, hb.tape, hb.output, hb.size, fun k hk _ _ _ => hb.block k hk⟩
theorem Fr.trans (h1 : Fr w w' h E P) (h2 : Fr w' w'' h E P) : Fr w w'' h E P :=
  ⟨h2.1.trans h1.1, h2.2.1.trans h1.2.1, h2.2.2.1.trans h1.2.2.1, Nat.le_trans h1.2.2.2.1 h2.2.2.2.1, fun k hk a b c => (h2.2.2.2.2 k (Nat.lt_of_lt_of_le hk h1.2.2.2.1) a b c).trans (h1.2.2.2.2 k hk a b c)⟩
theorem Fr.set_ (h1 : Fr w w' h E P) {p : Addr} (hp : p.block = h ∨ p.block = E ∨ p.block = P) (u : Value) : Fr w (w'.setCell p u) h E P := by
  have hb := (Below.refl 0 w').setCell (Nat.zero_le _) u (p := p)
  exact ⟨hb.os.trans h1.1, hb.tape.trans h1.2.1, hb.output.trans h1.2.2.1, Nat.le_trans h1.2.2.2.1 hb.size, fun k hk a b c => (Below.heap_setCell w' p u k (by omega)).trans (h1.2.2.2.2 k hk a b c)⟩
theorem Fr.below {B : Nat} (h1 : Fr w w' h E P) (hh : B ≤ h) (hE : B ≤ E) (hP : B ≤ P) (hB : B ≤ w.heap.size) : Below B w w' :=
  ⟨h1.1, h1.2.1, h1.2.2.1, h1.2.2.2.1, fun k hk => h1.2.2.2.2 k (by omega) (by omega) (by omega) (by omega)⟩
theorem IsH.lt (hH : IsH w h E P n M) : h < w.heap.size ∧ E < w.heap.size ∧ P < w.heap.size := by
  obtain ⟨A, c, L, a, pl, hB, hP, -, -, -, -, -, -, hA⟩ := hH
  refine ⟨hB.lt, ?_, Row.lt hP⟩
  rcases hA with ⟨-, -, -, rfl⟩ | ⟨-, hE, -⟩
  · exact hB.lt
  · exact hE.lt
/-- What keeps the heap's blocks keeps the heap. -/
theorem IsH.keep (hH : IsH w h E P n M) (k1 : w'.heap[h]? = w.heap[h]?) (k2 : w'.heap[E]? = w.heap[E]?) (k3 : w'.heap[P]? = w.heap[P]?) : IsH w' h E P n M := by
  obtain ⟨A, c, L, a, pl, hB, hP, h1, h2, h3, h4, h5, h6, hA⟩ := hH
  refine ⟨A, c, L, a, pl, hB.keep k1, hP.keep k3, h1, h2, h3, h4, h5, h6, ?_⟩
  rcases hA with hA | ⟨e, hE, r⟩
  · exact .inl hA
  · exact .inr ⟨e, hE.keep k2, r⟩
theorem IsH.below (hH : IsH w h E P n M) (hb : Below w.heap.size w w') : IsH w' h E P n M :=
  hH.keep (hb.block h hH.lt.1) (hb.block E hH.lt.2.1) (hb.block P hH.lt.2.2)
end

/-- Behind a store to the first cell of the heap's block. -/
theorem HeapB.set0 {w : World} {h L c P n : Nat} {A : Option Addr} (hB : HeapB w h A L c P n) (A' : Option Addr) (L' c' : Nat) : HeapB (w.setCell ⟨h, 0, none⟩ (.slice A' L' c')) h A' L' c' P n := by
  unfold HeapB at hB ⊢
  simp [World.setCell, Array.getElem?_modify, hB]

set_option maxRecDepth 100000 in
set_option maxHeartbeats 4000000 in
theorem take_any {w : World} {h E P c K n p : Nat} {M : Nat → Option Int} {a : Nat → En} {pl : Nat → Int} (hS : Sep h E P c (K + 1)) (hcm : c ≤ maxLen) (hp : p < K + 1) (hO : Ordered a (K + 1)) (hH : Holds a (K + 1) n M) (hPl : PlR a (K + 1) (K + 1) M pl) (hn : n ≤ 65536) (hcn : K + 1 = cnt M n)
    (hB : HeapB w h (some ⟨E, 0, none⟩) (K + 1) c P n) (hE : Arr w E c (K + 1) a) (hP : Plc w P n pl) :
    Calls Try.prog 25 #[.pointer (some ⟨h, 0, none⟩), .int .i64 (p : Nat)] w fun e w' => (∃ v, e = .returned v) ∧ HOut w h E P n (mset M (a p).1 none) w' := by
  have hLc : K + 1 ≤ c := hS.2.2.2.1
  have hL1 : K + 1 ≤ 100000 := hS.2.2.2.2
  have hip : (a p).1 < n := (hH.1 p hp).1
  have c0 := hB.cell0
  have c1 := hB.cell1
  have e0 := hE.cell0 hLc p hp
  have p0 := hP.cell (a p).1 hip
  have p1 := Row.frozen hP (a p).1
  have hwK : IntKind.i64.wrap ((K : Int) + 1 - 1) = (K : Int) := by rw [show (K : Int) + 1 - 1 = (K : Int) by omega]; exact IntWalk.i64_in _ (by omega)
  have hwK2 : IntKind.i64.wrap (((K + 1 : Nat) : Int) - 1) = (K : Int) := by rw [show ((K + 1 : Nat) : Int) - 1 = (K : Int) by omega]; exact IntWalk.i64_in _ (by omega)
  have hz0 : (0 : Int) ≤ (p : Int) := by omega
  have hz1 : (p : Int) < ((K + 1 : Nat) : Int) := by omega
  have hz2 : (p : Int) < (K : Int) + 1 := by omega
  have hy0 : (0 : Int) ≤ ((a p).1 : Int) := by omega
  have hy1 : ((a p).1 : Int) < (n : Int) := by omega
  -- behind the store of the place
  obtain ⟨i, hi⟩ : ∃ i, (a p).1 = i := ⟨_, rfl⟩
  have HI := Lib.hid hi
  rw [hi] at e0 p0 p1 hy0 hy1 hip ⊢
  clear hi
  have hPs : Hid (Row (w.setCell ⟨P, i, none⟩ (.int .i64 (-1))) P 3 n (fun j => .int .i64 (if j = i then -1 else pl j))) := Row.set_ hP i _ (fun j _ => by by_cases e : j = i <;> simp [e])
  have HS := Lib.hid hS
  have hBs : Hid (HeapB (w.setCell ⟨P, i, none⟩ (.int .i64 (-1))) h (some ⟨E, 0, none⟩) (K + 1) c P n) := hB.far (p := ⟨P, i, none⟩) (by show h ≠ P; exact hS.2.1) _
  have hEs : Hid (Arr (w.setCell ⟨P, i, none⟩ (.int .i64 (-1))) E c (K + 1) a) := hE.keep (Below.heap_setCell w ⟨P, i, none⟩ _ E (by show E ≠ P; exact hS.2.2.1))
  have hOs : Hid (Only w (w.setCell ⟨P, i, none⟩ (.int .i64 (-1))) E P) := (Only.refl w E P).set_ (.inr (.inl rfl)) _
  have HALL := Lib.hid (And.intro hO (And.intro hH (And.intro hPl hcn)))
  have d0 := hBs.out.cell0
  have d1 := hBs.out.cell1
  have d2 := hEs.out.cell0 hLc p hp
  rw [HI.out] at d2
  clear hB hE hP hO hH hPl hcn hS
  go_enter Try.func25, Try.ntmps25
  go_wp2_with fail
  go_region_held3 (fun W' => W'.cell? ⟨h, 0, none⟩ = some (.slice (some ⟨E, 0, none⟩) (K + 1) c) ∧ W'.cell? ⟨h, 1, none⟩ = some (.slice (some ⟨P, 0, none⟩) n n) ∧ W'.cell? ⟨E, p * 2, none⟩ = some (.int .i64 (i : Nat)))
    (first | exact ⟨c0, c1, e0⟩ | exact ⟨d0, d1, d2⟩ | go_keep) (fail)
  generalize w.setCell ⟨P, i, none⟩ (.int .i64 (-1)) = w2 at hPs hBs hEs hOs d0 d1 d2 ⊢
  have hl2 : h < w2.heap.size := hBs.out.lt
  have hl3 : P < w2.heap.size := Row.lt hPs.out
  have hl4 : E < w2.heap.size := hEs.out.lt
  have hws : w.heap.size ≤ w2.heap.size := hOs.out.2.2.2.1
  have f0 := hEs.out.cell0 hLc K (by omega)
  have f1 := hEs.out.cell1 hLc K (by omega)
  have d4 := hBs.out.frozen 0
  obtain ⟨u2, hu2⟩ : ∃ u2, w2.setCell ⟨h, 0, none⟩ (.slice (some ⟨E, 0, none⟩) K c) = u2 := ⟨_, rfl⟩
  have hsz : u2.heap.size = w2.heap.size := by rw [← hu2]; simp
  have uB : HeapB u2 h (some ⟨E, 0, none⟩) K c P n := by rw [← hu2]; exact hBs.out.set0 _ _ _
  have uE : Arr u2 E c (K + 1) a := by rw [← hu2]; exact hEs.out.keep (Below.heap_setCell w2 ⟨h, 0, none⟩ _ E (by show E ≠ h; exact Ne.symm HS.out.1))
  have uP : Plc u2 P n (fun j => if j = i then -1 else pl j) := by rw [← hu2]; exact Plc.keep hPs.out (Below.heap_setCell w2 ⟨h, 0, none⟩ _ P (by show P ≠ h; exact Ne.symm HS.out.2.1))
  have uF : Fr w u2 h E P := by rw [← hu2]; exact (fr_only hOs.out).set_ (.inl rfl) _
  obtain ⟨w5, hw5⟩ : ∃ w5, u2.alloc (.cells #[.int .i64 ((a K).1 : Nat), .int .i64 (a K).2] 54) = w5 := ⟨_, rfl⟩
  have b25 : Below u2.heap.size u2 w5 := by rw [← hw5]; exact (Below.refl _ u2).alloc (Nat.le_refl _) _
  have kX : boxE w5 w2.heap.size (a K) := by rw [← hw5, ← hsz]; exact heap_alloc_new u2 _
  have kB := uB.keep (b25.block h (by omega))
  have kE := uE.keep (b25.block E (by omega))
  have kP : Plc w5 P n _ := Plc.keep uP (b25.block P (by omega))
  have kF : Fr w w5 h E P := uF.trans (fr_below b25)
  have g0 := boxE.cell0 kX
  have g1 := boxE.cell1 kX
  have HK4 := Lib.hid (And.intro kB (And.intro kX (And.intro kE (And.intro kP kF))))
  have hzK : (0 : Int) ≤ (K : Int) := by omega
  have hzL : (K : Int) < (K : Int) + 1 := by omega
  have hzC : (K : Int) ≤ (c : Int) := by omega
  have hzC2 : K ≤ c := by omega
  clear kX kB kE kP kF uB uE uP uF b25 hsz hPs hBs hEs hOs c0 c1 e0 p0 p1 d1 d2
  by_cases hpK : p = K
  · subst hpK
    go_wp2_with fail
    have hfin : HOut w h E P n (mset M i none) w5 := by
      obtain ⟨kB, -, kE, kP, kF⟩ := HK4.out
      obtain ⟨hO, hH, hPl, hcn⟩ := HALL.out
      have hHc := cut_holds hH
      have hPc := take_last hH hPl
      rw [HI.out] at hHc hPc
      refine ⟨E, ⟨_, c, p, a, _, kB, kP, HS.out.2.1, cut_ordered hO, hHc, hPc, ?_, hn, .inr ⟨rfl, ?_, HS.out.1, HS.out.2.2.1, by omega, hcm⟩⟩, .inl rfl, kF⟩
      · have h1 := cnt_set M i none n hip
        have h2 := (hH.1 p hp).2
        rw [HI.out] at h2
        rw [h2] at h1
        simp at h1
        omega
      · obtain ⟨f, hr, hf⟩ := kE
        exact ⟨f, hr, fun j hj => hf j (by omega)⟩
    exact bodyPost_ret (results_none rfl _ _ _) rfl ⟨⟨_, rfl⟩, hfin⟩
  · have hne : ((p : Int) == (K : Int)) = false := beq_eq_false_iff_ne.2 (by omega)
    have hpK' : p < K := by omega
    obtain ⟨kB, kX, kE, kP, kF⟩ := HK4.out
    have HPUT := Lib.hid (put_arr (w := w5.drew) (x := a K) (a := a) (L := K) (c := c) kB (by obtain ⟨f, hr, hf⟩ := kE; exact ⟨f, hr, fun j hj => hf j (by omega)⟩) kP hpK' ((HALL.out.2.1.1 K (by omega)).1) hzC2 HS.out.1 HS.out.2.1 HS.out.2.2.1)
    unfold ent at HPUT
    clear kB kX kE kP kF
    go_wp2_with fail
    refine HPUT.out.mono ?_
    rintro e w6 ⟨⟨v, rfl⟩, kB, kE, kP, kO⟩
    have HST := Lib.hid (settle_any (h := h) (E := E) (P := P) (c := c) (L := K) (n := n) (M := mset M i none) ⟨HS.out.1, HS.out.2.1, HS.out.2.2.1, hzC2, by omega⟩ hpK' (upd_inv (a K) (cut_ordered HALL.out.1) hpK') (by have := fill_holds hpK' HALL.out.2.1; rwa [HI.out] at this) (by have := take_fill hpK' HALL.out.2.1 HALL.out.2.2.1; rwa [HI.out] at this) kB kE kP)
    have kF : Fr w w6 h E P := HK4.out.2.2.2.2.trans (fr_only (w := w5.drew) kO)
    clear kB kE kP kO HPUT
    go_wp2_with fail
    refine HST.out.mono ?_
    rintro e w7 ⟨⟨v2, rfl⟩, a7, pl7, r1, r2, r3, r4, r5, r6, r7⟩
    have hfin : HOut w h E P n (mset M i none) w7 := by
      refine ⟨E, ⟨_, c, K, a7, pl7, r4, r6, HS.out.2.1, r1, r2, r3, ?_, hn, .inr ⟨rfl, r5, HS.out.1, HS.out.2.2.1, hzC2, hcm⟩⟩, .inl rfl, kF.trans (fr_only r7)⟩
      have h1 := cnt_set M i none n hip
      have h2 := (HALL.out.2.1.1 p hp).2
      rw [HI.out] at h2
      rw [h2] at h1
      have := HALL.out.2.2.2
      simp at h1
      omega
    have HFIN := Lib.hid hfin
    clear r1 r2 r3 r4 r5 r6 r7 hfin kF HST
    go_wp2_with fail
    exact bodyPost_end (results_none rfl _ _ _) rfl ⟨⟨_, rfl⟩, HFIN.out⟩
end Go.Proofs.Ytijoaiehnemgnaa
