/- Contract of package nat's divideByDigit. -/
import Derived.Test.YtapblmbjbpkieaaDoorBack
import Derived.Test.YtapblmbjbpkieaaDoorBits
import Derived.Test.YtapblmbjbpkieaaDoorRefC
import Derived.RangeFuncBound
import Derived.RangeFuncCalls
import Derived.RangeFuncLeaves
import Derived.Shelf.Abstract
import Derived.Shelf.RegionOpen
import Derived.RegionTactic
import Derived.Deep.RegionWith
import Derived.Maps.AppendAt
import Derived.Outline
namespace Go.Proofs.YtapblmbjbpkieaaDoor
open Go.RowKit Go.Shelf
attribute [local go_sem] Oper.semAt_some

def digF (ds : List Nat) (i : Nat) : Nat := ds.getD i 0
/-- What holds when all but k digits have been divided: the quotient's digits are qs, the rest is r. -/
def DivI (w : World) (g N n c : Nat) (A : Option Addr) (f : Nat → Value) (ds : List Nat) (dv k : Nat) (W : World) : Prop :=
  ∃ (r : Nat) (qs : List Nat) (f' : Nat → Value), One W (w.heap.size + 1 + 1) (.int .u32 r) 71 ∧ r < dv ∧ Row W g 71 N f' ∧
    (∀ i, f' i = if i < k then f i else if i < n then .int .u32 (qs.getD (i - k) 0 : Nat) else f i) ∧ k + qs.length = n ∧ (∀ q ∈ qs, q < 4294967296) ∧
    val 4294967296 qs * dv + r = val 4294967296 (ds.drop k) ∧
    One W w.heap.size (.slice A n c) 22 ∧ One W (w.heap.size + 1) (.int .u32 dv) 71 ∧ One W (w.heap.size + 1 + 1 + 1) (.slice A n c) 22 ∧ w.grownBy W (some g)

theorem divI_own {w : World} {g N n c : Nat} {A : Option Addr} {f : Nat → Value} {ds : List Nat} {dv B : Nat} (hB : w.heap.size ≤ B) : OwnFrom B (fun (pre : List Nat) W => DivI w g N n c A f ds dv (n - pre.length) W) := by
  refine ownFrom_of ?_
  rintro s W W' ⟨r, qs, f', h1, h2, h3, h4, h5, h6, h7, h8, h9, h10, h11⟩ hc hb hsz ho ht hp
  refine ⟨r, qs, f', hc _ _ h1 rfl, h2, hc _ _ h3 rfl, h4, h5, h6, h7, hc _ _ h8 rfl, hc _ _ h9 rfl, hc _ _ h10 rfl, ho.trans h11.os, ht.trans h11.tape, hp.trans h11.output, Nat.le_trans h11.size hsz, ?_⟩
  intro k hk hne
  exact (hb k (by omega) (by have := h11.size; omega)).trans (h11.block k hk hne)

theorem div_math (b q r d dv v rest : Nat) (h : v * dv + r = rest) (hq : q = (r * b + d) / dv) : (q + b * v) * dv + (r * b + d) % dv = d + b * rest := by
  have := Nat.div_add_mod (r * b + d) dv
  rw [← hq] at this
  rw [← h, Nat.add_mul, Nat.mul_add, ← Nat.mul_assoc]
  have e1 : dv * q = q * dv := Nat.mul_comm _ _
  have e2 : r * b = b * r := Nat.mul_comm _ _
  omega

theorem grown_drewN {a w : World} {row : Option Nat} (h : a.grownBy w row) (k : Nat) : a.grownBy (w.drewN k) row := ⟨h.os, h.tape, h.output, h.size, h.block⟩
theorem grown_setCell {a w : World} {g : Nat} (h : a.grownBy w (some g)) {p : Addr} (hp : p.block = g ∨ a.heap.size ≤ p.block) (u : Value) : a.grownBy (w.setCell p u) (some g) := by
  refine ⟨h.os, h.tape, h.output, Nat.le_trans h.size (by simp), fun k hk hne => ?_⟩
  refine (Below.heap_setCell w p u k ?_).trans (h.block k hk hne)
  intro e
  rcases hp with hp | hp
  · exact hne (by rw [e, hp])
  · omega
theorem divI_leaf {w : World} {g N n c : Nat} {A : Option Addr} {f : Nat → Value} {ds : List Nat} {dv k r d : Nat} {qs : List Nat} {f' : Nat → Value} {pre : List Nat} {W : World} (hg : g < w.heap.size) (_hN : n ≤ N) (hdl : ds.length = n)
    (hK : n - pre.length = k + 1) (H : One W (w.heap.size + 1 + 1) (.int .u32 r) 71 ∧ Row W g 71 N f' ∧ One W w.heap.size (.slice A n c) 22 ∧ One W (w.heap.size + 1) (.int .u32 dv) 71 ∧ One W (w.heap.size + 1 + 1 + 1) (.slice A n c) 22 ∧ w.grownBy W (some g))
    (h2 : r < dv) (h4 : ∀ i, f' i = if i < k + 1 then f i else if i < n then .int .u32 (qs.getD (i - (k + 1)) 0 : Nat) else f i) (h5 : k + 1 + qs.length = n) (h6 : ∀ q ∈ qs, q < 4294967296) (h7 : val 4294967296 qs * dv + r = val 4294967296 (ds.drop (k + 1)))
    (hd : d = digF ds k) (hd1 : d < 4294967296) (m : Nat) :
    KeepsOthers W (((W.drewN m).setCell ⟨g, k, none⟩ (.int .u32 (((r : Int) * 4294967296 + (d : Int)) / (dv : Int)))).setCell ⟨w.heap.size + 1 + 1, 0, none⟩ (.int .u32 (((r : Int) * 4294967296 + (d : Int)) % (dv : Int)))) ∧
    DivI w g N n c A f ds dv (n - (pre ++ [k]).length) (((W.drewN m).setCell ⟨g, k, none⟩ (.int .u32 (((r : Int) * 4294967296 + (d : Int)) / (dv : Int)))).setCell ⟨w.heap.size + 1 + 1, 0, none⟩ (.int .u32 (((r : Int) * 4294967296 + (d : Int)) % (dv : Int)))) := by
  obtain ⟨h1, h3, h8, h9, h10, h11⟩ := H
  have ek : n - (pre ++ [k]).length = k := by simp; omega
  rw [ek]
  have eq : (((r : Int) * 4294967296 + (d : Int)) / (dv : Int)) = (((r * 4294967296 + d) / dv : Nat) : Int) := by rw [Int.natCast_ediv, Int.natCast_add, Int.natCast_mul]; rfl
  have er : (((r : Int) * 4294967296 + (d : Int)) % (dv : Int)) = (((r * 4294967296 + d) % dv : Nat) : Int) := by rw [Int.natCast_emod, Int.natCast_add, Int.natCast_mul]; rfl
  rw [eq, er]
  have hq : (r * 4294967296 + d) / dv < 4294967296 := by
    rw [Nat.div_lt_iff_lt_mul (by omega)]
    have : (r + 1) * 4294967296 ≤ dv * 4294967296 := Nat.mul_le_mul_right _ h2
    rw [Nat.mul_comm 4294967296]
    omega
  refine ⟨(show KeepsOthers W (W.drewN m) from ⟨Nat.le_refl _, fun _ _ h _ => h⟩).trans ((KeepsOthers.setCell (W.drewN m) _ _).trans (KeepsOthers.setCell _ _ _)), (r * 4294967296 + d) % dv, (r * 4294967296 + d) / dv :: qs, fun j => if j = k then .int .u32 ((r * 4294967296 + d) / dv : Nat) else f' j, ?_, Nat.mod_lt _ (by omega), ?_, ?_, by simp; omega, ?_, ?_, ?_, ?_, ?_, ?_⟩
  · exact ((h1.drewN m).far (p := ⟨g, k, none⟩) (by simp; omega) _).set_ _
  · exact (((h3.drewN m).set_ k _ (fun j _ => rfl))).far (p := ⟨w.heap.size + 1 + 1, 0, none⟩) (by simp; omega) _
  · intro i
    by_cases hi : i = k
    · subst hi; simp; omega
    · show (if i = k then _ else f' i) = _
      rw [if_neg hi, h4 i]
      by_cases h : i < k
      · rw [if_pos h, if_pos (by omega)]
      · rw [if_neg h, if_neg (by omega)]
        by_cases hin : i < n
        · rw [if_pos hin, if_pos hin, show i - k = (i - (k + 1)) + 1 by omega]; simp
        · rw [if_neg hin, if_neg hin]
  · intro q hq'
    rcases List.mem_cons.1 hq' with rfl | hq'
    · exact hq
    · exact h6 q hq'
  · rw [drop_cons ds k (by omega)]
    simp only [val]
    have := div_math 4294967296 ((r * 4294967296 + d) / dv) r d dv (val 4294967296 qs) _ h7 rfl
    rw [this, hd]
    rfl
  · exact ((h8.drewN m).far (p := ⟨g, k, none⟩) (by show w.heap.size ≠ g; omega) _).far (p := ⟨w.heap.size + 1 + 1, 0, none⟩) (by show w.heap.size ≠ w.heap.size + 1 + 1; omega) _
  · exact ((h9.drewN m).far (p := ⟨g, k, none⟩) (by show w.heap.size + 1 ≠ g; omega) _).far (p := ⟨w.heap.size + 1 + 1, 0, none⟩) (by show w.heap.size + 1 ≠ w.heap.size + 1 + 1; omega) _
  · exact ((h10.drewN m).far (p := ⟨g, k, none⟩) (by show w.heap.size + 1 + 1 + 1 ≠ g; omega) _).far (p := ⟨w.heap.size + 1 + 1, 0, none⟩) (by show w.heap.size + 1 + 1 + 1 ≠ w.heap.size + 1 + 1; omega) _
  · exact grown_setCell (grown_setCell (grown_drewN h11 m) (.inl rfl) _) (.inr (by show w.heap.size ≤ w.heap.size + 1 + 1; omega)) _
set_option maxRecDepth 100000 in
set_option maxHeartbeats 1000000 in
theorem divideByDigit_any {g N c : Nat} {A : Option Addr} {f : Nat → Value} {ds : List Nat} (dv : Nat) {w : World} (hlen : ds.length ≤ 1000000) (hdv : 0 < dv ∧ dv < 4294967296) (hd : ∀ d ∈ ds, d < 4294967296)
    (hA : 0 < ds.length → A = some ⟨g, 0, none⟩) (hN : ds.length ≤ N) (hrow : Row w g 71 N f) (hf : ∀ i, i < ds.length → f i = u32f ds i) :
    Calls Tryd.prog 45 #[.slice A ds.length c, .int .u32 dv] w fun e w' => ∃ (r : Nat) (qs : List Nat) (f' : Nat → Value), e = .returned (.int .u32 r) ∧ r < dv ∧ Row w' g 71 N f' ∧
      (∀ i, f' i = if i < ds.length then .int .u32 (qs.getD i 0 : Nat) else f i) ∧ qs.length = ds.length ∧ (∀ q ∈ qs, q < 4294967296) ∧ val 4294967296 qs * dv + r = val 4294967296 ds ∧ w.grownBy w' (some g) := by
  have hgl := hrow.lt
  have HF := Lib.hid hf
  have HD := Lib.hid hd
  clear hf hd
  refine (callsIn_wide (n := 5)).1 ?_
  refine callsIn_of_wp_marks Tryd.func45 rfl trivial ?_ rfl
  simp only [Tryd.ntmps45, List.size_toArray, List.length_cons, List.length_nil, Nat.reduceAdd, Nat.reduceSub, Array.replicate_succ, Array.replicate_zero, List.push_toArray, List.append_toArray, List.nil_append, List.cons_append]
  have h50 : Fence.wide.fn 50 := trivial
  gi_wp2_with (gi_at_call 50; refine (backward_in Fence.wide _ trivial rfl _ _ _ _).mono ?_; rintro e w' ⟨rfl, rfl⟩)
  obtain ⟨w0, hw0⟩ : ∃ w0, ((((w.alloc (.cells #[.slice A ds.length c] 22)).alloc (.cells #[.int .u32 dv] 71)).alloc (.cells #[.int .u32 0] 71)).alloc (.cells #[.slice A ds.length c] 22)) = w0 := ⟨_, rfl⟩
  have hs0 : w0.heap.size = w.heap.size + 1 + 1 + 1 + 1 := by subst hw0; simp
  have hI0 : DivI w g N ds.length c A f ds dv ds.length w0 := by
    subst hw0
    have b1 : Below w.heap.size w ((((w.alloc (.cells #[.slice A ds.length c] 22)).alloc (.cells #[.int .u32 dv] 71)).alloc (.cells #[.int .u32 0] 71)).alloc (.cells #[.slice A ds.length c] 22)) :=
      ((((Below.refl _ w).alloc (Nat.le_refl _) _).alloc (by simp) _).alloc (by simp; omega) _).alloc (by simp; omega) _
    refine ⟨0, [], f, ?_, hdv.1, hrow.below b1 hgl, fun i => ?_, by simp, by simp, by simp [val], ?_, ?_, ?_, ⟨b1.os, b1.tape, b1.output, b1.size, fun k hk _ => b1.block k hk⟩⟩
    · have := (One.new ((w.alloc (.cells #[.slice A ds.length c] 22)).alloc (.cells #[.int .u32 dv] 71)) (.int .u32 0) 71).alloc (.cells #[.slice A ds.length c] 22)
      simpa using this
    · split
      · rfl
      · rfl
    · exact (((One.new w (.slice A ds.length c) 22).alloc _).alloc _).alloc _
    · have := ((One.new (w.alloc (.cells #[.slice A ds.length c] 22)) (.int .u32 dv) 71).alloc (.cells #[.int .u32 0] 71)).alloc (.cells #[.slice A ds.length c] 22)
      simpa using this
    · have := One.new (((w.alloc (.cells #[.slice A ds.length c] 22)).alloc (.cells #[.int .u32 dv] 71)).alloc (.cells #[.int .u32 0] 71)) (.slice A ds.length c) 22
      simpa using this
  rw [hw0]
  clear hw0
  refine wpIn_iterate rfl (by omega) (gf := 72) (lb := #[.pointer (some ⟨w.heap.size + 1 + 1 + 1, 0, none⟩)]) (by simp [go_sem]) trivial (enters_of Tryd.func72 (by kernel_rfl) rfl)
    (back_iter Fence.wide _ trivial rfl (by omega) _ A ds.length c (digF ds) (by omega) _) (fun _ => rfl)
    (fun pre W => DivI w g N ds.length c A f ds dv (ds.length - pre.length) W) (fun _ _ _ => False) (divI_own (by omega)) (fun c => by intro s W W' row hs; exact hs.elim) ?IR hI0 ?a1 ?assign ?body ?done ?stop
  case assign =>
    intro l x W K hK
    gi_wp2
    exact hK
  case IR =>
    rintro pre W ⟨r, qs, f', h1, h2, h3, h4, h5, h6, h7, h8, h9, h10, h11⟩
    refine ⟨h10.cell, fun hp => ⟨⟨g, 0, none⟩, hA (by omega), ?_⟩⟩
    have hc := h3.cell (ds.length - 1 - pre.length) (by omega)
    rw [h4, if_pos (by omega), HF.out _ (by omega)] at hc
    rw [row_at]
    exact hc
  case body =>
    rintro l pre x W ⟨r, qs, f', h1, h2, h3, h4, h5, h6, h7, h8, h9, h10, h11⟩ hpl ⟨_, rfl⟩
    have hc1 := h1.cell
    have hf1 := h1.frozen
    have hc8 := h8.cell
    have hc9 := h9.cell
    obtain ⟨k, hk⟩ : ∃ k, k = ds.length - 1 - pre.length := ⟨_, rfl⟩
    have hkn : ds.length - pre.length = k + 1 := by omega
    rw [hkn] at h4 h5 h7
    rw [← hk]
    have hcg := h3.cell k (by omega)
    have hfg := h3.frozen k
    obtain rfl := hA (by omega)
    obtain ⟨d, hd⟩ : ∃ d : Nat, d = digF ds k := ⟨_, rfl⟩
    have hd1 : d < 4294967296 := by rw [hd]; exact getD_lt HD.out k (by omega)
    have hmx : Tryd.prog.follows .mixedOrders = true := by kernel_rfl
    have h31 : 1 ≤ 5 - 1 - 1 := by omega
    have hkl : k < ds.length := by omega
    have H4 := Lib.hid h4
    have H5 := Lib.hid h5
    have H6 := Lib.hid h6
    have H7 := Lib.hid h7
    have HK := Lib.hid hkn
    have HX := Lib.hid hk
    clear h4 h5 h6 h7 hkn hk
    have HALL := Lib.hid (And.intro h1 (And.intro h3 (And.intro h8 (And.intro h9 (And.intro h10 h11)))))
    clear h1 h3 h8 h9 h10 h11 hrow hlen hpl hI0 hA
    have Hd := Lib.hid hd
    gi_wp2
    rw [← hd]
    clear hd
    have h64 : Fence.wide.fn 64 := trivial
    refine wpIn_region_any (by assumption) ?_
    try (change wpAnyIn _ _ _ _ _ _ _ _ _ (World.drew _))
    refine wpAnyIn_inRound rfl (no_defer (by kernel_rfl)) _ _ _ _ ?_
    refine wpAnyIn_take (i := 1) (v := ?_) rfl rfl (by kernel_rfl) (by kernel_rfl) (by kernel_rfl) (fun _ _ _ h => h) ⟨Or.inl ⟨by rfl, ?_⟩, fun _ => rfl⟩ ?_
    rotate_left
    focus (intro w; go_simp; try with_reducible rfl)
    refine wpAnyIn_take (i := 3) (v := ?_) rfl rfl (by kernel_rfl) (by kernel_rfl) (by kernel_rfl) (fun _ _ _ h => h) ⟨Or.inl ⟨by rfl, ?_⟩, fun _ => rfl⟩ ?_
    rotate_left
    focus (intro w; go_simp; try with_reducible rfl)
    refine wpAnyIn_ready (rs := [0, 2, 4]) (by kernel_rfl) (by simp) ?_
    refine AllReadyIn.cons rfl (fun K hK => ?_) ?_
    · go_simp
      refine hK _ _ ?_
      clear hK K
      refine wpAnyIn_ready (rs := [2, 4]) (by kernel_rfl) (by simp) ?_
      refine AllReadyIn.cons rfl (fun K hK => ?_) ?_
      · go_simp
        refine hK _ _ ?_
        clear hK K
        refine wpAnyIn_ready (rs := [4]) (by kernel_rfl) (by simp) ?_
        refine AllReadyIn.cons rfl (fun K hK => ?_) ?_
        · go_simp
          refine hK _ _ ?_
          clear hK K
          refine wpAnyIn_ready (rs := [5]) (by kernel_rfl) (by simp) ?_
          refine AllReadyIn.cons rfl (fun K hK => ?_) ?_
          · go_simp
            refine (callsIn_wide.2 (div32_any _ _ _ _ (by omega) (by omega) (by omega))).mono ?_
            rintro e w1 ⟨rfl, nq, rfl⟩
            refine hK _ _ ?_
            clear hK K
            refine wpAnyIn_take (i := 6) (v := ?_) rfl rfl (by kernel_rfl) (by kernel_rfl) (by kernel_rfl) (fun _ _ _ h => h) ⟨Or.inl ⟨by rfl, ?_⟩, fun _ => rfl⟩ ?_
            rotate_left
            focus (intro w; go_simp; try with_reducible rfl)
            refine wpAnyIn_take (i := 7) (v := ?_) rfl rfl (by kernel_rfl) (by kernel_rfl) (by kernel_rfl) (fun _ _ _ h => h) ⟨Or.inl ⟨by rfl, ?_⟩, fun _ => rfl⟩ ?_
            rotate_left
            focus (intro w; go_simp; try with_reducible rfl)
            refine wpAnyIn_take (i := 8) (v := ?_) rfl rfl (by kernel_rfl) (by kernel_rfl) (by kernel_rfl) (fun _ _ _ h => h) ⟨Or.inl ⟨by rfl, ?_⟩, fun _ => rfl⟩ ?_
            rotate_left
            focus (intro w; go_simp; try with_reducible rfl)
            refine wpAnyIn_take (i := 9) (v := ?_) rfl rfl (by kernel_rfl) (by kernel_rfl) (by kernel_rfl) (fun _ _ _ h => h) ⟨Or.inl ⟨by rfl, ?_⟩, fun _ => rfl⟩ ?_
            rotate_left
            focus (intro w; go_simp; try with_reducible rfl)
            refine wpAnyIn_ready (rs := [10]) (by kernel_rfl) (by simp) ?_
            refine AllReadyIn.cons rfl (fun K hK => ?_) ?_
            · go_simp
              refine hK _ _ ?_
              clear hK K
              refine wpAnyIn_ready (rs := [11]) (by kernel_rfl) (by simp) ?_
              refine AllReadyIn.cons rfl (fun K hK => ?_) ?_
              · go_simp
                refine hK _ _ ?_
                clear hK K
                refine wpAnyIn_done (by kernel_rfl) ?_ _
                gi_wp2
                exact divI_leaf hgl hN rfl HK.out HALL.out h2 H4.out H5.out H6.out H7.out Hd.out hd1 _
              exact AllReadyIn.nil
            exact AllReadyIn.nil
          exact AllReadyIn.nil
        exact AllReadyIn.nil
      refine AllReadyIn.cons rfl (fun K hK => ?_) ?_
      · go_simp
        refine hK _ _ ?_
        clear hK K
        refine wpAnyIn_ready (rs := [2]) (by kernel_rfl) (by simp) ?_
        refine AllReadyIn.cons rfl (fun K hK => ?_) ?_
        · go_simp
          refine hK _ _ ?_
          clear hK K
          refine wpAnyIn_ready (rs := [5]) (by kernel_rfl) (by simp) ?_
          refine AllReadyIn.cons rfl (fun K hK => ?_) ?_
          · go_simp
            refine (callsIn_wide.2 (div32_any _ _ _ _ (by omega) (by omega) (by omega))).mono ?_
            rintro e w1 ⟨rfl, nq, rfl⟩
            refine hK _ _ ?_
            clear hK K
            refine wpAnyIn_take (i := 6) (v := ?_) rfl rfl (by kernel_rfl) (by kernel_rfl) (by kernel_rfl) (fun _ _ _ h => h) ⟨Or.inl ⟨by rfl, ?_⟩, fun _ => rfl⟩ ?_
            rotate_left
            focus (intro w; go_simp; try with_reducible rfl)
            refine wpAnyIn_take (i := 7) (v := ?_) rfl rfl (by kernel_rfl) (by kernel_rfl) (by kernel_rfl) (fun _ _ _ h => h) ⟨Or.inl ⟨by rfl, ?_⟩, fun _ => rfl⟩ ?_
            rotate_left
            focus (intro w; go_simp; try with_reducible rfl)
            refine wpAnyIn_take (i := 8) (v := ?_) rfl rfl (by kernel_rfl) (by kernel_rfl) (by kernel_rfl) (fun _ _ _ h => h) ⟨Or.inl ⟨by rfl, ?_⟩, fun _ => rfl⟩ ?_
            rotate_left
            focus (intro w; go_simp; try with_reducible rfl)
            refine wpAnyIn_take (i := 9) (v := ?_) rfl rfl (by kernel_rfl) (by kernel_rfl) (by kernel_rfl) (fun _ _ _ h => h) ⟨Or.inl ⟨by rfl, ?_⟩, fun _ => rfl⟩ ?_
            rotate_left
            focus (intro w; go_simp; try with_reducible rfl)
            refine wpAnyIn_ready (rs := [10]) (by kernel_rfl) (by simp) ?_
            refine AllReadyIn.cons rfl (fun K hK => ?_) ?_
            · go_simp
              refine hK _ _ ?_
              clear hK K
              refine wpAnyIn_ready (rs := [11]) (by kernel_rfl) (by simp) ?_
              refine AllReadyIn.cons rfl (fun K hK => ?_) ?_
              · go_simp
                refine hK _ _ ?_
                clear hK K
                refine wpAnyIn_done (by kernel_rfl) ?_ _
                gi_wp2
                exact divI_leaf hgl hN rfl HK.out HALL.out h2 H4.out H5.out H6.out H7.out Hd.out hd1 _
              exact AllReadyIn.nil
            exact AllReadyIn.nil
          exact AllReadyIn.nil
        exact AllReadyIn.nil
      exact AllReadyIn.nil
    refine AllReadyIn.cons rfl (fun K hK => ?_) ?_
    · go_simp
      refine hK _ _ ?_
      clear hK K
      refine wpAnyIn_ready (rs := [0, 4]) (by kernel_rfl) (by simp) ?_
      refine AllReadyIn.cons rfl (fun K hK => ?_) ?_
      · go_simp
        refine hK _ _ ?_
        clear hK K
        refine wpAnyIn_ready (rs := [4]) (by kernel_rfl) (by simp) ?_
        refine AllReadyIn.cons rfl (fun K hK => ?_) ?_
        · go_simp
          refine hK _ _ ?_
          clear hK K
          refine wpAnyIn_ready (rs := [5]) (by kernel_rfl) (by simp) ?_
          refine AllReadyIn.cons rfl (fun K hK => ?_) ?_
          · go_simp
            refine (callsIn_wide.2 (div32_any _ _ _ _ (by omega) (by omega) (by omega))).mono ?_
            rintro e w1 ⟨rfl, nq, rfl⟩
            refine hK _ _ ?_
            clear hK K
            refine wpAnyIn_take (i := 6) (v := ?_) rfl rfl (by kernel_rfl) (by kernel_rfl) (by kernel_rfl) (fun _ _ _ h => h) ⟨Or.inl ⟨by rfl, ?_⟩, fun _ => rfl⟩ ?_
            rotate_left
            focus (intro w; go_simp; try with_reducible rfl)
            refine wpAnyIn_take (i := 7) (v := ?_) rfl rfl (by kernel_rfl) (by kernel_rfl) (by kernel_rfl) (fun _ _ _ h => h) ⟨Or.inl ⟨by rfl, ?_⟩, fun _ => rfl⟩ ?_
            rotate_left
            focus (intro w; go_simp; try with_reducible rfl)
            refine wpAnyIn_take (i := 8) (v := ?_) rfl rfl (by kernel_rfl) (by kernel_rfl) (by kernel_rfl) (fun _ _ _ h => h) ⟨Or.inl ⟨by rfl, ?_⟩, fun _ => rfl⟩ ?_
            rotate_left
            focus (intro w; go_simp; try with_reducible rfl)
            refine wpAnyIn_take (i := 9) (v := ?_) rfl rfl (by kernel_rfl) (by kernel_rfl) (by kernel_rfl) (fun _ _ _ h => h) ⟨Or.inl ⟨by rfl, ?_⟩, fun _ => rfl⟩ ?_
            rotate_left
            focus (intro w; go_simp; try with_reducible rfl)
            refine wpAnyIn_ready (rs := [10]) (by kernel_rfl) (by simp) ?_
            refine AllReadyIn.cons rfl (fun K hK => ?_) ?_
            · go_simp
              refine hK _ _ ?_
              clear hK K
              refine wpAnyIn_ready (rs := [11]) (by kernel_rfl) (by simp) ?_
              refine AllReadyIn.cons rfl (fun K hK => ?_) ?_
              · go_simp
                refine hK _ _ ?_
                clear hK K
                refine wpAnyIn_done (by kernel_rfl) ?_ _
                gi_wp2
                exact divI_leaf hgl hN rfl HK.out HALL.out h2 H4.out H5.out H6.out H7.out Hd.out hd1 _
              exact AllReadyIn.nil
            exact AllReadyIn.nil
          exact AllReadyIn.nil
        exact AllReadyIn.nil
      refine AllReadyIn.cons rfl (fun K hK => ?_) ?_
      · go_simp
        refine hK _ _ ?_
        clear hK K
        refine wpAnyIn_ready (rs := [0, 5]) (by kernel_rfl) (by simp) ?_
        refine AllReadyIn.cons rfl (fun K hK => ?_) ?_
        · go_simp
          refine hK _ _ ?_
          clear hK K
          refine wpAnyIn_ready (rs := [5]) (by kernel_rfl) (by simp) ?_
          refine AllReadyIn.cons rfl (fun K hK => ?_) ?_
          · go_simp
            refine (callsIn_wide.2 (div32_any _ _ _ _ (by omega) (by omega) (by omega))).mono ?_
            rintro e w1 ⟨rfl, nq, rfl⟩
            refine hK _ _ ?_
            clear hK K
            refine wpAnyIn_take (i := 6) (v := ?_) rfl rfl (by kernel_rfl) (by kernel_rfl) (by kernel_rfl) (fun _ _ _ h => h) ⟨Or.inl ⟨by rfl, ?_⟩, fun _ => rfl⟩ ?_
            rotate_left
            focus (intro w; go_simp; try with_reducible rfl)
            refine wpAnyIn_take (i := 7) (v := ?_) rfl rfl (by kernel_rfl) (by kernel_rfl) (by kernel_rfl) (fun _ _ _ h => h) ⟨Or.inl ⟨by rfl, ?_⟩, fun _ => rfl⟩ ?_
            rotate_left
            focus (intro w; go_simp; try with_reducible rfl)
            refine wpAnyIn_take (i := 8) (v := ?_) rfl rfl (by kernel_rfl) (by kernel_rfl) (by kernel_rfl) (fun _ _ _ h => h) ⟨Or.inl ⟨by rfl, ?_⟩, fun _ => rfl⟩ ?_
            rotate_left
            focus (intro w; go_simp; try with_reducible rfl)
            refine wpAnyIn_take (i := 9) (v := ?_) rfl rfl (by kernel_rfl) (by kernel_rfl) (by kernel_rfl) (fun _ _ _ h => h) ⟨Or.inl ⟨by rfl, ?_⟩, fun _ => rfl⟩ ?_
            rotate_left
            focus (intro w; go_simp; try with_reducible rfl)
            refine wpAnyIn_ready (rs := [10]) (by kernel_rfl) (by simp) ?_
            refine AllReadyIn.cons rfl (fun K hK => ?_) ?_
            · go_simp
              refine hK _ _ ?_
              clear hK K
              refine wpAnyIn_ready (rs := [11]) (by kernel_rfl) (by simp) ?_
              refine AllReadyIn.cons rfl (fun K hK => ?_) ?_
              · go_simp
                refine hK _ _ ?_
                clear hK K
                refine wpAnyIn_done (by kernel_rfl) ?_ _
                gi_wp2
                exact divI_leaf hgl hN rfl HK.out HALL.out h2 H4.out H5.out H6.out H7.out Hd.out hd1 _
              exact AllReadyIn.nil
            exact AllReadyIn.nil
          exact AllReadyIn.nil
        refine AllReadyIn.cons rfl (fun K hK => ?_) ?_
        · go_simp
          refine (callsIn_wide.2 (div32_any _ _ _ _ (by omega) (by omega) (by omega))).mono ?_
          rintro e w1 ⟨rfl, nq, rfl⟩
          refine hK _ _ ?_
          clear hK K
          refine wpAnyIn_take (i := 6) (v := ?_) rfl rfl (by kernel_rfl) (by kernel_rfl) (by kernel_rfl) (fun _ _ _ h => h) ⟨Or.inl ⟨by rfl, ?_⟩, fun _ => rfl⟩ ?_
          rotate_left
          focus (intro w; go_simp; try with_reducible rfl)
          refine wpAnyIn_take (i := 7) (v := ?_) rfl rfl (by kernel_rfl) (by kernel_rfl) (by kernel_rfl) (fun _ _ _ h => h) ⟨Or.inl ⟨by rfl, ?_⟩, fun _ => rfl⟩ ?_
          rotate_left
          focus (intro w; go_simp; try with_reducible rfl)
          refine wpAnyIn_take (i := 8) (v := ?_) rfl rfl (by kernel_rfl) (by kernel_rfl) (by kernel_rfl) (fun _ _ _ h => h) ⟨Or.inl ⟨by rfl, ?_⟩, fun _ => rfl⟩ ?_
          rotate_left
          focus (intro w; go_simp; try with_reducible rfl)
          refine wpAnyIn_ready (rs := [0]) (by kernel_rfl) (by simp) ?_
          refine AllReadyIn.cons rfl (fun K hK => ?_) ?_
          · go_simp
            refine hK _ _ ?_
            clear hK K
            refine wpAnyIn_take (i := 9) (v := ?_) rfl rfl (by kernel_rfl) (by kernel_rfl) (by kernel_rfl) (fun _ _ _ h => h) ⟨Or.inl ⟨by rfl, ?_⟩, fun _ => rfl⟩ ?_
            rotate_left
            focus (intro w; go_simp; try with_reducible rfl)
            refine wpAnyIn_ready (rs := [10]) (by kernel_rfl) (by simp) ?_
            refine AllReadyIn.cons rfl (fun K hK => ?_) ?_
            · go_simp
              refine hK _ _ ?_
              clear hK K
              refine wpAnyIn_ready (rs := [11]) (by kernel_rfl) (by simp) ?_
              refine AllReadyIn.cons rfl (fun K hK => ?_) ?_
              · go_simp
                refine hK _ _ ?_
                clear hK K
                refine wpAnyIn_done (by kernel_rfl) ?_ _
                gi_wp2
                exact divI_leaf hgl hN rfl HK.out HALL.out h2 H4.out H5.out H6.out H7.out Hd.out hd1 _
              exact AllReadyIn.nil
            exact AllReadyIn.nil
          exact AllReadyIn.nil
        exact AllReadyIn.nil
      exact AllReadyIn.nil
    refine AllReadyIn.cons rfl (fun K hK => ?_) ?_
    · go_simp
      refine hK _ _ ?_
      clear hK K
      refine wpAnyIn_ready (rs := [0, 2]) (by kernel_rfl) (by simp) ?_
      refine AllReadyIn.cons rfl (fun K hK => ?_) ?_
      · go_simp
        refine hK _ _ ?_
        clear hK K
        refine wpAnyIn_ready (rs := [2]) (by kernel_rfl) (by simp) ?_
        refine AllReadyIn.cons rfl (fun K hK => ?_) ?_
        · go_simp
          refine hK _ _ ?_
          clear hK K
          refine wpAnyIn_ready (rs := [5]) (by kernel_rfl) (by simp) ?_
          refine AllReadyIn.cons rfl (fun K hK => ?_) ?_
          · go_simp
            refine (callsIn_wide.2 (div32_any _ _ _ _ (by omega) (by omega) (by omega))).mono ?_
            rintro e w1 ⟨rfl, nq, rfl⟩
            refine hK _ _ ?_
            clear hK K
            refine wpAnyIn_take (i := 6) (v := ?_) rfl rfl (by kernel_rfl) (by kernel_rfl) (by kernel_rfl) (fun _ _ _ h => h) ⟨Or.inl ⟨by rfl, ?_⟩, fun _ => rfl⟩ ?_
            rotate_left
            focus (intro w; go_simp; try with_reducible rfl)
            refine wpAnyIn_take (i := 7) (v := ?_) rfl rfl (by kernel_rfl) (by kernel_rfl) (by kernel_rfl) (fun _ _ _ h => h) ⟨Or.inl ⟨by rfl, ?_⟩, fun _ => rfl⟩ ?_
            rotate_left
            focus (intro w; go_simp; try with_reducible rfl)
            refine wpAnyIn_take (i := 8) (v := ?_) rfl rfl (by kernel_rfl) (by kernel_rfl) (by kernel_rfl) (fun _ _ _ h => h) ⟨Or.inl ⟨by rfl, ?_⟩, fun _ => rfl⟩ ?_
            rotate_left
            focus (intro w; go_simp; try with_reducible rfl)
            refine wpAnyIn_take (i := 9) (v := ?_) rfl rfl (by kernel_rfl) (by kernel_rfl) (by kernel_rfl) (fun _ _ _ h => h) ⟨Or.inl ⟨by rfl, ?_⟩, fun _ => rfl⟩ ?_
            rotate_left
            focus (intro w; go_simp; try with_reducible rfl)
            refine wpAnyIn_ready (rs := [10]) (by kernel_rfl) (by simp) ?_
            refine AllReadyIn.cons rfl (fun K hK => ?_) ?_
            · go_simp
              refine hK _ _ ?_
              clear hK K
              refine wpAnyIn_ready (rs := [11]) (by kernel_rfl) (by simp) ?_
              refine AllReadyIn.cons rfl (fun K hK => ?_) ?_
              · go_simp
                refine hK _ _ ?_
                clear hK K
                refine wpAnyIn_done (by kernel_rfl) ?_ _
                gi_wp2
                exact divI_leaf hgl hN rfl HK.out HALL.out h2 H4.out H5.out H6.out H7.out Hd.out hd1 _
              exact AllReadyIn.nil
            exact AllReadyIn.nil
          exact AllReadyIn.nil
        exact AllReadyIn.nil
      refine AllReadyIn.cons rfl (fun K hK => ?_) ?_
      · go_simp
        refine hK _ _ ?_
        clear hK K
        refine wpAnyIn_ready (rs := [0, 5]) (by kernel_rfl) (by simp) ?_
        refine AllReadyIn.cons rfl (fun K hK => ?_) ?_
        · go_simp
          refine hK _ _ ?_
          clear hK K
          refine wpAnyIn_ready (rs := [5]) (by kernel_rfl) (by simp) ?_
          refine AllReadyIn.cons rfl (fun K hK => ?_) ?_
          · go_simp
            refine (callsIn_wide.2 (div32_any _ _ _ _ (by omega) (by omega) (by omega))).mono ?_
            rintro e w1 ⟨rfl, nq, rfl⟩
            refine hK _ _ ?_
            clear hK K
            refine wpAnyIn_take (i := 6) (v := ?_) rfl rfl (by kernel_rfl) (by kernel_rfl) (by kernel_rfl) (fun _ _ _ h => h) ⟨Or.inl ⟨by rfl, ?_⟩, fun _ => rfl⟩ ?_
            rotate_left
            focus (intro w; go_simp; try with_reducible rfl)
            refine wpAnyIn_take (i := 7) (v := ?_) rfl rfl (by kernel_rfl) (by kernel_rfl) (by kernel_rfl) (fun _ _ _ h => h) ⟨Or.inl ⟨by rfl, ?_⟩, fun _ => rfl⟩ ?_
            rotate_left
            focus (intro w; go_simp; try with_reducible rfl)
            refine wpAnyIn_take (i := 8) (v := ?_) rfl rfl (by kernel_rfl) (by kernel_rfl) (by kernel_rfl) (fun _ _ _ h => h) ⟨Or.inl ⟨by rfl, ?_⟩, fun _ => rfl⟩ ?_
            rotate_left
            focus (intro w; go_simp; try with_reducible rfl)
            refine wpAnyIn_take (i := 9) (v := ?_) rfl rfl (by kernel_rfl) (by kernel_rfl) (by kernel_rfl) (fun _ _ _ h => h) ⟨Or.inl ⟨by rfl, ?_⟩, fun _ => rfl⟩ ?_
            rotate_left
            focus (intro w; go_simp; try with_reducible rfl)
            refine wpAnyIn_ready (rs := [10]) (by kernel_rfl) (by simp) ?_
            refine AllReadyIn.cons rfl (fun K hK => ?_) ?_
            · go_simp
              refine hK _ _ ?_
              clear hK K
              refine wpAnyIn_ready (rs := [11]) (by kernel_rfl) (by simp) ?_
              refine AllReadyIn.cons rfl (fun K hK => ?_) ?_
              · go_simp
                refine hK _ _ ?_
                clear hK K
                refine wpAnyIn_done (by kernel_rfl) ?_ _
                gi_wp2
                exact divI_leaf hgl hN rfl HK.out HALL.out h2 H4.out H5.out H6.out H7.out Hd.out hd1 _
              exact AllReadyIn.nil
            exact AllReadyIn.nil
          exact AllReadyIn.nil
        refine AllReadyIn.cons rfl (fun K hK => ?_) ?_
        · go_simp
          refine (callsIn_wide.2 (div32_any _ _ _ _ (by omega) (by omega) (by omega))).mono ?_
          rintro e w1 ⟨rfl, nq, rfl⟩
          refine hK _ _ ?_
          clear hK K
          refine wpAnyIn_take (i := 6) (v := ?_) rfl rfl (by kernel_rfl) (by kernel_rfl) (by kernel_rfl) (fun _ _ _ h => h) ⟨Or.inl ⟨by rfl, ?_⟩, fun _ => rfl⟩ ?_
          rotate_left
          focus (intro w; go_simp; try with_reducible rfl)
          refine wpAnyIn_take (i := 7) (v := ?_) rfl rfl (by kernel_rfl) (by kernel_rfl) (by kernel_rfl) (fun _ _ _ h => h) ⟨Or.inl ⟨by rfl, ?_⟩, fun _ => rfl⟩ ?_
          rotate_left
          focus (intro w; go_simp; try with_reducible rfl)
          refine wpAnyIn_take (i := 8) (v := ?_) rfl rfl (by kernel_rfl) (by kernel_rfl) (by kernel_rfl) (fun _ _ _ h => h) ⟨Or.inl ⟨by rfl, ?_⟩, fun _ => rfl⟩ ?_
          rotate_left
          focus (intro w; go_simp; try with_reducible rfl)
          refine wpAnyIn_ready (rs := [0]) (by kernel_rfl) (by simp) ?_
          refine AllReadyIn.cons rfl (fun K hK => ?_) ?_
          · go_simp
            refine hK _ _ ?_
            clear hK K
            refine wpAnyIn_take (i := 9) (v := ?_) rfl rfl (by kernel_rfl) (by kernel_rfl) (by kernel_rfl) (fun _ _ _ h => h) ⟨Or.inl ⟨by rfl, ?_⟩, fun _ => rfl⟩ ?_
            rotate_left
            focus (intro w; go_simp; try with_reducible rfl)
            refine wpAnyIn_ready (rs := [10]) (by kernel_rfl) (by simp) ?_
            refine AllReadyIn.cons rfl (fun K hK => ?_) ?_
            · go_simp
              refine hK _ _ ?_
              clear hK K
              refine wpAnyIn_ready (rs := [11]) (by kernel_rfl) (by simp) ?_
              refine AllReadyIn.cons rfl (fun K hK => ?_) ?_
              · go_simp
                refine hK _ _ ?_
                clear hK K
                refine wpAnyIn_done (by kernel_rfl) ?_ _
                gi_wp2
                exact divI_leaf hgl hN rfl HK.out HALL.out h2 H4.out H5.out H6.out H7.out Hd.out hd1 _
              exact AllReadyIn.nil
            exact AllReadyIn.nil
          exact AllReadyIn.nil
        exact AllReadyIn.nil
      exact AllReadyIn.nil
    exact AllReadyIn.nil
  case done =>
    rintro D xs W hD rfl hDI hK
    have hE := (divI_own (w := w) (g := g) (N := N) (n := ds.length) (c := c) (A := A) (f := f) (ds := ds) (dv := dv) (B := w0.heap.size) (by omega)).putObj (.deferred none) hDI hD hK rfl
    obtain ⟨r, qs, f', h1, h2, h3, h4, h5, h6, h7, h8, h9, h10, h11⟩ := hDI
    have hc1 := h1.cell
    have h1' := h1
    clear h1 h2 h3 h4 h5 h6 h7 h8 h9 h10 h11
    have HE := Lib.hid hE
    clear hE
    gi_wp2
    refine ⟨by simp, .inl ⟨_, _, rfl, run_takeDeferred hK, ?_⟩⟩
    refine ⟨_, results_tmp rfl _ _ _, ?_⟩
    obtain ⟨r2, qs, f', h1, h2, h3, h4, h5, h6, h7, h8, h9, h10, h11⟩ := HE.out
    rw [dn_len, Nat.sub_self] at h4 h5 h7
    have hr : r = r2 := by
      have hne : D ≠ w.heap.size + 1 + 1 := by
        intro e
        rw [e] at hK
        unfold One at h1'
        rw [h1'] at hK
        cases hK
      have e1 : (W.putObj D (.deferred none)).heap[w.heap.size + 1 + 1]? = W.heap[w.heap.size + 1 + 1]? := World.putObj_heap_other (by omega)
      unfold One at h1 h1'
      rw [h1', h1] at e1
      simp at e1
      omega
    exact ⟨r2, qs, f', by rw [hr]; rfl, h2, h3, fun i => by rw [h4 i]; simp, by omega, h6, by simpa using h7, h11⟩
  case stop =>
    rintro D c pre W _ _ h _
    exact h.elim
end Go.Proofs.YtapblmbjbpkieaaDoor
