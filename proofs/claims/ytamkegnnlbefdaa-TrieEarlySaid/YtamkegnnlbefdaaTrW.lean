/- Contract of package trie: tidy. -/
import Derived.Test.YtamkegnnlbefdaaTrV
namespace Go.Proofs.Ytamkegnnlbefdaa
open Go.RowKit

theorem cnt_tidyN_le (q : Px) (x : Int) (h : Bool) (L R : Tr) : cnt (tidyN q x h L R) ≤ cnt L + cnt R + 1 := by
  rw [cnt_tidyN]
  split <;> omega
theorem cnt_tidyT (p : Px) (t : Tr) : cnt (tidyT p t) ≤ cnt t := by
  induction t with
  | nil => exact Nat.le_refl _
  | node q x h l r ihl ihr =>
    simp only [tidyT]
    rw [cnt_node]
    split
    · have := cnt_tidyN_le q x h l r; omega
    · split
      · have := cnt_tidyN_le q x h l (tidyT p r); omega
      · have := cnt_tidyN_le q x h (tidyT p l) r; omega
theorem te_of {q : Px} {x : Int} {h : Bool} {L R T T0 : Tr} {N N0 : Nat} (hT : tidyN q x h L R = T) (hN : N + cnt T0 = N0 + (cnt L + cnt R + 1)) (h0 : cnt T0 ≤ N0) (hb : N < 4611686018427387900) : TE q x h L R T N (N0 + cnt T - cnt T0) := by
  refine ⟨hT, fun hc => ?_, fun hc => ?_⟩
  · rw [← hT, cnt_tidyN, if_pos hc]; omega
  · rw [← hT, cnt_tidyN, if_neg hc]; omega
theorem tidy_any {p : Px} (t : Tr) : ∀ {w : World} {v r0 : Value} {S0 : Nat → Prop} {gt R0 N : Nat}, InT p t → Low t → At t w v S0 → Blk w gt (trC r0 R0 N) trT → ¬ S0 gt → (∀ g, S0 g → g < w.heap.size) → cnt t ≤ N → N < 4611686018427387900 →
    Calls Try.prog 47 #[ptr gt, v, pv p.1 p.2] w (TdQ w gt (tidyT p t) S0 r0 R0 (N + cnt (tidyT p t) - cnt t)) := by
  induction t with
  | nil => intro w v r0 S0 gt R0 N hI; exact hI.elim
  | node q x h l r ihl ihr =>
    intro w v r0 S0 gt R0 N hI hw HA HG hS hlt hc hN
    have hcn : cnt (.node q x h l r) = cnt l + cnt r + 1 := by rw [cnt_node]; omega
    by_cases he : q = p
    · subst he
      exact tidy_here HA HG hS (te_of (by simp [tidyT]) (by omega) hc hN)
    · have hI2 : if dir p.1 q.2 then InT p r else InT p l := hI.resolve_left he
      cases hd : dir p.1 q.2 with
      | false =>
        rw [hd] at hI2
        have hle := cnt_tidyT p l
        refine tidy_left (L := tidyT p l) (N := N + cnt (tidyT p l) - cnt l) he hw.1 hd HA HG hS hlt (fun W kv Sk h1 h2 h3 h4 => ihl (by simpa using hI2) hw.2.1 h1 h2 h3 h4 (by omega) hN) (te_of (by simp [tidyT, he, hd]) (by omega) hc (by omega))
      | true =>
        rw [hd] at hI2
        have hle := cnt_tidyT p r
        refine tidy_right (R := tidyT p r) (N := N + cnt (tidyT p r) - cnt r) he hw.1 hd HA HG hS hlt (fun W kv Sk h1 h2 h3 h4 => ihr (by simpa using hI2) hw.2.2 h1 h2 h3 h4 (by omega) hN) (te_of (by simp [tidyT, he, hd]) (by omega) hc (by omega))
theorem low_of_wf {t : Tr} : WF t → Low t := by
  induction t with
  | nil => intro _; trivial
  | node q x h l r ihl ihr => exact fun hw => ⟨hw.1.1, ihl hw.2.2.2.2.1, ihr hw.2.2.2.2.2⟩
theorem inT_reach {p : Px} {T : Tr} : ∀ {x : Int} {h : Bool} {l r : Tr}, reachT p T = .node p x h l r → InT p T := by
  induction T with
  | nil => intro x h l r e; cases e
  | node q y k a b iha ihb =>
    intro x h l r e
    simp only [reachT] at e
    by_cases hq : q = p
    · exact .inl hq
    · right
      by_cases hc : q ≠ p ∧ Cov q p
      · rw [if_pos hc] at e
        split at e
        · rename_i hd; rw [if_pos hd]; exact ihb e
        · rename_i hd; rw [if_neg hd]; exact iha e
      · rw [if_neg hc] at e
        injection e with e1
        exact absurd e1 hq
end Go.Proofs.Ytamkegnnlbefdaa
