/- A heap among other objects; awake; the walks of the laws HeapNil and HeapSizes. -/
import Derived.Test.YtijoaiehnemgnaaHeapU
namespace Go.Proofs.Ytijoaiehnemgnaa
open Go.RowKit

/-- In world W the heap (h, P) holds the map M; its blocks are younger than w and none of R. -/
def HS (w : World) (R : List Nat) (h P n : Nat) (M : Nat → Option Int) (W : World) : Prop := ∃ E, IsH W h E P n M ∧ w.heap.size ≤ E ∧ E ∉ R ∧ Below w.heap.size w W
/-- The blocks R, in W; none of them the heap's. -/
def Oth (R : List Nat) (h P : Nat) (W : World) : Prop := ∀ k, k ∈ R → k < W.heap.size ∧ k ≠ h ∧ k ≠ P
def Same (R : List Nat) (W W' : World) : Prop := (∀ k, k ∈ R → W'.heap[k]? = W.heap[k]?) ∧ W.heap.size ≤ W'.heap.size
theorem Oth.nil {h P : Nat} {W : World} : Oth [] h P W := fun k hk => by simp at hk
theorem Oth.same {R : List Nat} {h P : Nat} {W W' : World} (ho : Oth R h P W) (hs : Same R W W') : Oth R h P W' := fun k hk => ⟨Nat.lt_of_lt_of_le (ho k hk).1 hs.2, (ho k hk).2⟩
section
variable {w W : World} {R : List Nat} {h P n : Nat} {M : Nat → Option Int}
theorem hs_out {M' : Nat → Option Int} {E : Nat} {W' : World} (hw : w.heap.size ≤ h ∧ w.heap.size ≤ P) (hR : Oth R h P W) (hE : w.heap.size ≤ E) (hER : E ∉ R) (hb : Below w.heap.size w W) (ho : HOut W h E P n M' W') : HS w R h P n M' W' ∧ Same R W W' := by
  obtain ⟨E', k1, k2, k3⟩ := ho
  have hs := hb.size
  refine ⟨⟨E', k1, by omega, ?_, hb.trans (k3.below hw.1 hE hw.2 hs)⟩, fun k hk => ?_, k3.2.2.2.1⟩
  · intro hm
    have h1 := (hR E' hm).1
    rcases k2 with rfl | k2
    · exact hER hm
    · omega
  · have h1 := hR k hk
    exact k3.2.2.2.2 k h1.1 h1.2.1 (fun e => hER (e ▸ hk)) h1.2.2
theorem hs_below {W' : World} (hH : HS w R h P n M W) (hb : Below W.heap.size W W') : HS w R h P n M W' := by
  obtain ⟨E, k1, k2, k3, k4⟩ := hH
  exact ⟨E, k1.below hb, k2, k3, k4.trans (hb.mono k4.size)⟩
theorem same_below {W' : World} (hR : Oth R h P W) (hb : Below W.heap.size W W') : Same R W W' := ⟨fun k hk => hb.block k (hR k hk).1, hb.size⟩
def SetS (w W : World) (R : List Nat) (h P n : Nat) (M : Nat → Option Int) (x : Int) (e : Ending) (W' : World) : Prop := e = .returned (.int .i64 x) ∧ HS w R h P n M W' ∧ Same R W W'
theorem set_hs (i key : Int) (hw : w.heap.size ≤ h ∧ w.heap.size ≤ P) (hR : Oth R h P W) (hH : HS w R h P n M W) :
    Calls Try.prog 11 #[.pointer (some ⟨h, 0, none⟩), .int .i64 i, .int .i64 key] W (SetS w W R h P n (setM M n i key) (setE n i)) := by
  obtain ⟨E, k1, k2, k3, k4⟩ := hH
  refine (set_any i key k1).mono ?_
  rintro e W' ⟨rfl, ho⟩
  exact ⟨rfl, hs_out hw hR k2 k3 k4 ho⟩
def PopS (w W : World) (R : List Nat) (h P n : Nat) (M : Nat → Option Int) (e : Ending) (W' : World) : Prop :=
  (cnt M n = 0 ∧ e = .returned (.tuple #[.int .i64 0, .int .i64 0, .bool false]) ∧ HS w R h P n M W' ∧ Same R W W') ∨
  ∃ (i : Nat) (k : Int), i < n ∧ First M i k ∧ e = .returned (.tuple #[.int .i64 (i : Nat), .int .i64 k, .bool true]) ∧ HS w R h P n (mset M i none) W' ∧ Same R W W'
theorem pop_hs (hw : w.heap.size ≤ h ∧ w.heap.size ≤ P) (hR : Oth R h P W) (hH : HS w R h P n M W) :
    Calls Try.prog 13 #[.pointer (some ⟨h, 0, none⟩)] W (PopS w W R h P n M) := by
  obtain ⟨E, k1, k2, k3, k4⟩ := hH
  refine (pop_any k1).mono ?_
  rintro e W' (⟨h0, rfl, ho⟩ | ⟨i, k, hi, hF, rfl, ho⟩)
  · exact .inl ⟨h0, rfl, hs_out hw hR k2 k3 k4 ho⟩
  · exact .inr ⟨i, k, hi, hF, rfl, hs_out hw hR k2 k3 k4 ho⟩
def remE (M : Nat → Option Int) (n : Nat) (i : Int) : Int := if 0 ≤ i ∧ i < (n : Int) then (if (M i.toNat).isSome then 0 else 8) else 2
def remM (M : Nat → Option Int) (n : Nat) (i : Int) : Nat → Option Int := if 0 ≤ i ∧ i < (n : Int) then mset M i.toNat none else M
theorem mset_same {M : Nat → Option Int} {j : Nat} (h : M j = none) : mset M j none = M := by
  funext i
  unfold mset
  by_cases e : i = j
  · rw [if_pos e, e, h]
  · rw [if_neg e]
theorem remove_hs (i : Int) (hw : w.heap.size ≤ h ∧ w.heap.size ≤ P) (hR : Oth R h P W) (hH : HS w R h P n M W) :
    Calls Try.prog 15 #[.pointer (some ⟨h, 0, none⟩), .int .i64 i] W (SetS w W R h P n (remM M n i) (remE M n i)) := by
  obtain ⟨E, k1, k2, k3, k4⟩ := hH
  refine (remove_any i k1).mono ?_
  unfold remE remM
  rintro e W' (⟨hi, rfl, ho⟩ | ⟨j, rfl, hj, ⟨hM, rfl, ho⟩ | ⟨k, hM, rfl, ho⟩⟩)
  · rw [if_neg hi, if_neg hi]; exact ⟨rfl, hs_out hw hR k2 k3 k4 ho⟩
  · rw [if_pos ⟨by omega, by omega⟩, if_pos ⟨by omega, by omega⟩, Int.toNat_natCast, mset_same hM, hM]
    exact ⟨rfl, hs_out hw hR k2 k3 k4 ho⟩
  · rw [if_pos ⟨by omega, by omega⟩, if_pos ⟨by omega, by omega⟩, Int.toNat_natCast, hM]
    exact ⟨rfl, hs_out hw hR k2 k3 k4 ho⟩
theorem key_hs (i : Int) (hR : Oth R h P W) (hH : HS w R h P n M W) :
    Calls Try.prog 17 #[.pointer (some ⟨h, 0, none⟩), .int .i64 i] W fun e W' => e = keyEnd (keyOf M n i) ∧ HS w R h P n M W' ∧ Same R W W' := by
  obtain ⟨E, k1, k2, k3, k4⟩ := hH
  refine (key_any i k1).mono ?_
  rintro e W' ⟨rfl, hb⟩
  exact ⟨rfl, hs_below ⟨E, k1, k2, k3, k4⟩ hb, same_below hR hb⟩
theorem len_hs (hH : HS w R h P n M W) :
    Calls Try.prog 19 #[.pointer (some ⟨h, 0, none⟩)] W fun e W' => e = .returned (.int .i64 (cnt M n : Nat)) ∧ W' = W := by
  obtain ⟨E, k1, k2, k3, k4⟩ := hH
  exact len_any k1
end
theorem new_hs {w W W' : World} {n : Nat} {e : Ending} (hb : Below w.heap.size w W) (hN : NewH W n e W') (R : List Nat) (hR : ∀ k, k ∈ R → k < W.heap.size) : ∃ h P, e = .returned (.tuple #[.pointer (some ⟨h, 0, none⟩), .int .i64 0]) ∧ (w.heap.size ≤ h ∧ w.heap.size ≤ P) ∧ Oth R h P W' ∧ HS w R h P n (fun _ => none) W' ∧ Same R W W' := by
  obtain ⟨h, P, rfl, k1, k2, k3, k4⟩ := hN
  have hs := hb.size
  refine ⟨h, P, rfl, ⟨by omega, by omega⟩, fun k hk => ?_, ⟨h, k1, by omega, fun hm => ?_, hb.trans (k4.mono hs)⟩, fun k hk => k4.block k (hR k hk), k4.size⟩
  · have := hR k hk
    have := k4.size
    exact ⟨by omega, by omega, by omega⟩
  · have := hR h hm
    omega

/-- The maps of the document's example. -/
def mapA : Nat → Option Int := fun i => if i = 3 then some 3 else if i = 1 then some 3 else if i = 0 then some 5 else none
theorem mapA_set : setM (setM (setM (fun _ => none) 4 0 5) 4 1 3) 4 3 3 = mapA := by
  funext i
  simp [setM, mset, mapA]
theorem mapA_first {i : Nat} {k : Int} (h : First mapA i k) : i = 1 ∧ k = 3 := by
  obtain ⟨h1, h2⟩ := h
  have h3 := h2 1 3 rfl
  unfold mapA at h1
  split at h1
  · injection h1; omega
  · split at h1
    · injection h1; omega
    · split at h1
      · injection h1; omega
      · cases h1
def mapB : Nat → Option Int := fun i => if i = 3 then some 3 else if i = 0 then some 5 else none
theorem mapB_of : mset mapA 1 none = mapB := by
  funext i
  unfold mset mapA mapB
  by_cases e1 : i = 1
  · subst e1; rfl
  · rw [if_neg e1, if_neg e1]
theorem mapB_first {i : Nat} {k : Int} (h : First mapB i k) : i = 3 ∧ k = 3 := by
  obtain ⟨h1, h2⟩ := h
  have h3 := h2 3 3 rfl
  unfold mapB at h1
  split at h1
  · injection h1; omega
  · split at h1
    · injection h1; omega
    · cases h1
def mapC : Nat → Option Int := fun i => if i = 0 then some 2 else none
theorem mapC_of : setM (mset mapB 3 none) 4 0 2 = mapC := by
  funext i
  simp [setM, mset, mapB, mapC]
  by_cases e0 : i = 0
  · simp [e0]
  · by_cases e3 : i = 3 <;> simp [e0, e3]
theorem mapC_first {i : Nat} {k : Int} (h : First mapC i k) : i = 0 ∧ k = 2 := by
  obtain ⟨h1, _⟩ := h
  unfold mapC at h1
  split at h1
  · injection h1; omega
  · cases h1
theorem mapD_of : mset mapC 0 none = fun _ => none := by
  funext i
  unfold mset mapC
  by_cases e0 : i = 0
  · rw [if_pos e0]
  · rw [if_neg e0, if_neg e0]

set_option maxRecDepth 100000 in
set_option maxHeartbeats 4000000 in
theorem awake_any {w : World} : Calls Try.prog 8 #[] w fun e w' => e = .returned (.bool true) ∧ Below w.heap.size w w' := by
  have hN := Lib.hid (new_any (w := w) (n := 4) (by omega))
  go_enter Try.func8, Try.ntmps8
  go_wp2_with fail
  refine hN.out.mono ?_
  rintro e w1 h1
  obtain ⟨h, P, rfl, hw, hR, hH, -⟩ := new_hs (Below.refl _ _) h1 [] (fun k hk => by simp at hk)
  have HW := Lib.hid hw
  have HH := Lib.hid hH
  clear hN h1 hw hR hH
  go_wp2_with fail
  refine (set_hs 0 5 HW.out Oth.nil HH.out).mono ?_
  rintro e w2 ⟨rfl, hH, -⟩
  have H2 := Lib.hid hH
  clear hH HH
  go_wp2_with fail
  refine (set_hs 1 3 HW.out Oth.nil H2.out).mono ?_
  rintro e w3 ⟨rfl, hH, -⟩
  have H3 := Lib.hid hH
  clear hH H2
  go_wp2_with fail
  refine (set_hs 3 3 HW.out Oth.nil H3.out).mono ?_
  rintro e w4 ⟨rfl, hH, -⟩
  rw [mapA_set] at hH
  have H4 := Lib.hid hH
  clear hH H3
  go_wp2_with fail
  refine (pop_hs HW.out Oth.nil H4.out).mono ?_
  rintro e w5 (⟨h0, -⟩ | ⟨i, k, hi, hF, rfl, hH, -⟩)
  · exact absurd h0 (by decide)
  obtain ⟨rfl, rfl⟩ := mapA_first hF
  rw [mapB_of] at hH
  have H5 := Lib.hid hH
  clear hH H4 hF hi
  go_wp2_with fail
  refine (pop_hs HW.out Oth.nil H5.out).mono ?_
  rintro e w6 (⟨h0, -⟩ | ⟨i, k, hi, hF, rfl, hH, -⟩)
  · exact absurd h0 (by decide)
  obtain ⟨rfl, rfl⟩ := mapB_first hF
  have H6 := Lib.hid hH
  clear hH H5 hF hi
  go_wp2_with fail
  refine (set_hs 0 2 HW.out Oth.nil H6.out).mono ?_
  rintro e w7 ⟨rfl, hH, -⟩
  rw [mapC_of] at hH
  have H7 := Lib.hid hH
  clear hH H6
  go_wp2_with fail
  refine (pop_hs HW.out Oth.nil H7.out).mono ?_
  rintro e w8 (⟨h0, -⟩ | ⟨i, k, hi, hF, rfl, hH, -⟩)
  · exact absurd h0 (by decide)
  obtain ⟨rfl, rfl⟩ := mapC_first hF
  rw [mapD_of] at hH
  have H8 := Lib.hid hH
  have HL := Lib.hid (len_hs hH)
  rw [cnt_nothing] at HL
  clear hH H7 hF hi
  go_wp2_with fail
  refine HL.out.mono ?_
  rintro e w9 ⟨rfl, rfl⟩
  go_wp2_with fail
  go_ret
  obtain ⟨_, _, _, _, hb⟩ := H8.out
  exact ⟨rfl, hb⟩

set_option maxRecDepth 100000 in
set_option maxHeartbeats 2000000 in
theorem lawNil (i : Int) {w : World} : Calls Try.prog 7 #[.int .i64 i] w fun e w' => e = .returned (.bool true) ∧ Below w.heap.size w w' := by
  go_enter Try.func7, Try.ntmps7
  go_wp2_with fail
  refine awake_any.mono ?_
  rintro e w1 ⟨rfl, hb⟩
  go_wp2_with fail
  refine (nil_key i).mono ?_
  rintro e w2 ⟨rfl, rfl⟩
  go_wp2_with fail
  refine nil_pop.mono ?_
  rintro e w2' ⟨rfl, rfl⟩
  go_wp2_with fail
  refine (nil_set i i).mono ?_
  rintro e w2' ⟨rfl, rfl⟩
  go_wp2_with fail
  refine (nil_remove i).mono ?_
  rintro e w2' ⟨rfl, rfl⟩
  go_wp2_with fail
  refine nil_len.mono ?_
  rintro e w2' ⟨rfl, rfl⟩
  go_wp2_with fail
  go_ret
  exact ⟨rfl, hb⟩
end Go.Proofs.Ytijoaiehnemgnaa
