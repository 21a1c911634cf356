/- Contracts of package trie: cmp.Or over two kids; what tidy leaves. -/
import Derived.Test.YtamkegnnlbefdaaTrJ
import Derived.LoopTactic
namespace Go.Proofs.Ytamkegnnlbefdaa
open Go.RowKit

set_option maxRecDepth 100000 in
set_option maxHeartbeats 2000000 in
theorem or_first {w : World} {g c : Nat} {a : Addr} {v : Value} {t : TypeId} (hb : Blk w g [.pointer (some a), v] t) : Calls Try.prog 57 #[.slice (some ⟨g, 0, none⟩) 2 c] w fun e w' => e = .returned (.pointer (some a)) ∧ w' = w := by
  have c0 := hb.cell (i := 0) rfl
  clear hb
  go_enter Try.func57, Try.ntmps57
  go_wp2_with fail
  go_loop [8] (fun i => i = .int .i64 0) (fun _ => 0)
  case atStart => rfl
  case round =>
    obtain rfl := hrel
    go_wp2_with fail
    go_ret
    exact ⟨rfl, rfl⟩
set_option maxRecDepth 100000 in
set_option maxHeartbeats 2000000 in
theorem or_second {w : World} {g c : Nat} {a : Addr} {t : TypeId} (hb : Blk w g [.pointer none, .pointer (some a)] t) : Calls Try.prog 57 #[.slice (some ⟨g, 0, none⟩) 2 c] w fun e w' => e = .returned (.pointer (some a)) ∧ w' = w := by
  have c0 := hb.cell (i := 0) rfl
  have c1 := hb.cell (i := 1) rfl
  clear hb
  go_enter Try.func57, Try.ntmps57
  go_wp2_with fail
  go_loop [8] (fun i => ∃ k : Nat, k < 2 ∧ i = .int .i64 k) (fun i => 2 - (intOf i).toNat)
  case atStart => exact ⟨0, by omega, rfl⟩
  case round =>
    obtain ⟨k, hk, rfl⟩ := hrel
    rcases (by omega : k = 0 ∨ k = 1) with rfl | rfl
    · go_wp2_with fail
      go_round
      case rel => exact ⟨1, by omega, by go_num⟩
      case measure => simp [intOf]
    · go_wp2_with fail
      go_ret
      exact ⟨rfl, rfl⟩
set_option maxRecDepth 100000 in
set_option maxHeartbeats 2000000 in
theorem or_none {w : World} {g c : Nat} {t : TypeId} (hb : Blk w g [.pointer none, .pointer none] t) : Calls Try.prog 57 #[.slice (some ⟨g, 0, none⟩) 2 c] w fun e w' => e = .returned (.pointer none) ∧ w' = w := by
  have c0 := hb.cell (i := 0) rfl
  have c1 := hb.cell (i := 1) rfl
  clear hb
  go_enter Try.func57, Try.ntmps57
  go_wp2_with fail
  go_loop [8] (fun i => ∃ k : Nat, k < 3 ∧ i = .int .i64 k) (fun i => 3 - (intOf i).toNat)
  case atStart => exact ⟨0, by omega, rfl⟩
  case round =>
    obtain ⟨k, hk, rfl⟩ := hrel
    rcases (by omega : k = 0 ∨ k = 1 ∨ k = 2) with rfl | rfl | rfl
    · go_wp2_with fail
      go_round
      case rel => exact ⟨1, by omega, by go_num⟩
      case measure => simp [intOf]
    · go_wp2_with fail
      go_round
      case rel => exact ⟨2, by omega, by go_num⟩
      case measure => simp [intOf]
    · go_wp2_with fail
      go_ret
      exact ⟨rfl, rfl⟩

/-- The prefix p is a node of the way to p. -/
def InT (p : Px) : Tr → Prop
  | .nil => False
  | .node q _ _ l r => q = p ∨ (if dir p.1 q.2 then InT p r else InT p l)
/-- What tidy leaves. -/
def TdQ (w : World) (gt : Nat) (t' : Tr) (S : Nat → Prop) (r : Value) (R N : Nat) (e : Ending) (W : World) : Prop :=
  ∃ v, e = .returned v ∧ At t' W v S ∧ Blk W gt (trC r R N) trT ∧ Fr (fun g => S g ∨ g = gt) w W
theorem kid_val {t : Tr} {W : World} {v : Value} {S : Nat → Prop} (h : At t W v S) : (t.isNil = true ∧ v = .pointer none) ∨ (t.isNil = false ∧ ∃ g, v = .pointer (some ⟨g, 0, none⟩)) := by
  cases t with
  | nil => exact .inl ⟨rfl, h⟩
  | node p x h l r =>
    obtain ⟨g, u, z, e, -⟩ := At.node_val h
    exact .inr ⟨rfl, g, e⟩
section
variable {w W W' : World} {gt g : Nat} {S Sl Sr : Nat → Prop} {q : Px} {x : Int} {h : Bool} {L R : Tr} {a b v r : Value} {n N : Nat}
theorem tidy_keep (hf : Fr (fun g => S g ∨ g = gt) w W) (hL : At L W a Sl) (hR : At R W b Sr) (hb : Blk W g (ndC q x h a b) ndT) (hg : S g) (d1 : ∀ k, Sl k → S k ∧ k ≠ g) (d2 : ∀ k, Sr k → S k ∧ k ≠ g ∧ ¬ Sl k) (hB : Blk W gt (trC r n N) trT)
    (hc : h = true ∨ (L.isNil = false ∧ R.isNil = false)) : TdQ w gt (tidyN q x h L R) S r n N (.returned (ptr g)) W := by
  unfold tidyN
  rw [if_pos hc]
  exact ⟨_, rfl, ⟨g, a, b, Sl, Sr, rfl, hg, hb, hL, hR, d1, d2⟩, hB, hf⟩
theorem tidy_drop (hf : Fr (fun g => S g ∨ g = gt) w W) (hL : At L W a Sl) (hR : At R W b Sr) (d1 : ∀ k, Sl k → S k ∧ k ≠ g) (d2 : ∀ k, Sr k → S k ∧ k ≠ g ∧ ¬ Sl k) (hgt : ¬ S gt) (hf2 : Fr (fun g => g = gt) W W') (hB : Blk W' gt (trC r n N) trT)
    (hc : ¬ (h = true ∨ (L.isNil = false ∧ R.isNil = false))) (hv : v = if L.isNil then b else a) : TdQ w gt (tidyN q x h L R) S r n N (.returned v) W' := by
  unfold tidyN
  rw [if_neg hc]
  refine ⟨v, rfl, ?_, hB, hf.trans hf2 (fun _ h => h) (fun g hg => .inl (.inr hg))⟩
  by_cases hl : L.isNil = true
  · rw [if_pos hl] at hv ⊢
    subst hv
    exact (hR.keep fun k hk hlt => hf2.block k hlt (fun e => hgt (e ▸ (d2 k hk).1))).more fun k hk => (d2 k hk).1
  · rw [if_neg hl] at hv ⊢
    subst hv
    exact (hL.keep fun k hk hlt => hf2.block k hlt (fun e => hgt (e ▸ (d1 k hk).1))).more fun k hk => (d1 k hk).1
theorem cnt_tidyN (q : Px) (x : Int) (h : Bool) (L R : Tr) : cnt (tidyN q x h L R) = if h = true ∨ (L.isNil = false ∧ R.isNil = false) then cnt L + cnt R + 1 else cnt L + cnt R := by
  unfold tidyN
  by_cases hc : h = true ∨ (L.isNil = false ∧ R.isNil = false)
  · rw [if_pos hc, if_pos hc]; simp [cnt, prefs]
  · rw [if_neg hc, if_neg hc]
    by_cases hl : L.isNil = true
    · rw [if_pos hl]
      rw [isNil_iff.1 hl]
      simp [cnt, prefs]
    · rw [if_neg hl]
      have hr : R = .nil := by
        cases R with
        | nil => rfl
        | node => exact absurd (.inr ⟨by simpa using hl, rfl⟩) hc
      subst hr
      simp [cnt, prefs]
end
end Go.Proofs.Ytamkegnnlbefdaa
