/- Contracts of package nat: fromDigits, Of, IsZero, isText. -/
import Derived.Test.YtdbhlmifioccgaaDoorRefD
import Derived.Test.YtdbhlmifioccgaaDoorBits
namespace Go.Proofs.YtdbhlmifioccgaaDoor
open Go.RowKit

def BB : Nat := 4294967296
/-- A nat.Nat that stands for a number. -/
def IsNat (w : World) (v : Value) (k : Nat) : Prop := ∃ s, v = .agg #[s] ∧ LU w s (digs 4294967296 k)
theorem IsNat.below {w w' : World} {v : Value} {k : Nat} (h : IsNat w v k) (hb : Below w.heap.size w w') : IsNat w' v k := by
  obtain ⟨s, h1, h2⟩ := h
  exact ⟨s, h1, h2.below hb⟩
def NewN (w : World) (k : Nat) (e : Ending) (w' : World) : Prop := ∃ v, e = .returned v ∧ IsNat w' v k ∧ Below w.heap.size w w'

theorem strip_le (ds : List Nat) : (strip ds).length ≤ ds.length := by
  induction hn : ds.length generalizing ds with
  | zero => obtain rfl := List.eq_nil_of_length_eq_zero hn; simp [strip]
  | succ n ih =>
    obtain ⟨xs, x, rfl⟩ : ∃ xs x, ds = xs ++ [x] := ⟨ds.dropLast, ds.getLast (by intro e; simp [e] at hn), (List.dropLast_concat_getLast _).symm⟩
    by_cases hx : x = 0
    · subst hx
      rw [strip_zero]
      have := ih xs (by simpa using hn)
      omega
    · rw [strip_pos xs x hx]; omega
theorem strip_take (ds : List Nat) : strip ds = ds.take (strip ds).length := by
  induction hn : ds.length generalizing ds with
  | zero => obtain rfl := List.eq_nil_of_length_eq_zero hn; rfl
  | succ n ih =>
    obtain ⟨xs, x, rfl⟩ : ∃ xs x, ds = xs ++ [x] := ⟨ds.dropLast, ds.getLast (by intro e; simp [e] at hn), (List.dropLast_concat_getLast _).symm⟩
    by_cases hx : x = 0
    · subst hx
      rw [strip_zero, List.take_append_of_le_length (strip_le xs)]
      exact ih xs (by simpa using hn)
    · rw [strip_pos xs x hx, List.take_length]

set_option maxRecDepth 100000 in
set_option maxHeartbeats 1600000 in
theorem fromDigits_any {A : Option Addr} {c : Nat} {ds : List Nat} {w : World} (hlen : ds.length ≤ 1000000) (hc : ds.length ≤ c) (hA : Cells w w.heap.size A ds.length (u32f ds)) :
    Calls Tryd.prog 42 #[.slice A ds.length c] w fun e w' => e = .returned (.agg #[.slice A (strip ds).length (strip ds).length]) ∧ Below w.heap.size w w' := by
  go_enter Tryd.func42, Tryd.ntmps42
  go_wp2
  go_loop [3] (fun v => ∃ k : Nat, k ≤ ds.length ∧ v = .int .i64 k ∧ strip ds = strip (ds.take k)) (fun v => (intOf v).toNat)
  case atStart => exact ⟨_, Nat.le_refl _, rfl, by rw [List.take_length]⟩
  case round =>
    obtain ⟨k, hk, rfl, hs⟩ := hrel
    have HS := Lib.hid hs
    clear hs
    by_cases h0 : 0 < k
    · obtain ⟨a, rfl, hab, hcell⟩ := hA (k - 1) (by omega)
      obtain ⟨x, hx⟩ : ∃ x : Nat, x = ds.getD (k - 1) 0 := ⟨_, rfl⟩
      have hcell' : (w.alloc (.cells #[.slice none 0 0] 26)).cell? (a.add (k - 1)) = some (.int .u32 x) := by
        rw [World.cell?_alloc_lt _ _ _ (by rw [add_block]; exact hab), hcell, hx]; rfl
      by_cases hx0 : x = 0
      · have hst := Lib.hid (strip_take_zero ds k hk h0 (by rw [← hx]; exact hx0))
        subst hx0
        clear hcell hx
        go_wp2
        exact ⟨⟨k - 1, by omega, by go_num, by rw [HS.out, hst.out]⟩, by simp [intOf]; omega⟩
      · have hb : ((x : Int) == 0) = false := beq_eq_false_iff_ne.2 (by omega)
        have hst := Lib.hid (strip_take_pos ds k hk h0 (by rw [← hx]; exact hx0))
        have hkk : Hid (k = (strip ds).length) := by
          have := HS.out.trans hst.out
          unfold Hid
          rw [this]; simp; omega
        clear hcell hx
        go_wp2
        refine bodyPost_ret (v := .agg #[.slice (some a) k k]) (by simp [results, Tryd.results42, go_sem]) rfl ⟨by rw [← hkk.out], ?_⟩
        exact ((Below.refl _ _).alloc (Nat.le_refl _) _)
    · obtain rfl : k = 0 := by omega
      have hkk : Hid (0 = (strip ds).length) := by
        unfold Hid
        rw [HS.out]; rfl
      go_wp2
      refine bodyPost_ret (v := .agg #[.slice A 0 0]) (by simp [results, Tryd.results42, go_sem]) rfl ⟨by rw [← hkk.out], ?_⟩
      exact ((Below.refl _ _).alloc (Nat.le_refl _) _)

/-- fromDigits of a slice that lies below: a number. -/
theorem fromDigits_new {v : Value} {ds : List Nat} {w : World} (hlen : ds.length ≤ 1000000) (hd : ∀ d ∈ ds, d < 4294967296) (hv : LU w v ds) :
    Calls Tryd.prog 42 #[v] w (NewN w (val 4294967296 ds)) := by
  obtain ⟨A, c, rfl, hc, hA⟩ := hv
  refine (fromDigits_any hlen hc hA.cells).mono ?_
  rintro e w' ⟨rfl, hb⟩
  refine ⟨_, rfl, ⟨_, rfl, ?_⟩, hb⟩
  rw [← strip_digs (b := 4294967296) (by omega) ds hd]
  refine ⟨A, _, rfl, Nat.le_refl _, ?_⟩
  refine ((hA.less (strip_le ds)).step hb).same fun i hi => ?_
  rw [strip_take ds, u32f_take ds _ i hi]

set_option maxRecDepth 100000 in
set_option maxHeartbeats 1600000 in
theorem natOf_any (n : Int) {w : World} (h0 : 0 ≤ n) (hn : n < 18446744073709551616) :
    Calls Tryd.prog 33 #[.int .u64 n] w (NewN w n.toNat) := by
  obtain ⟨n, rfl⟩ := Int.eq_ofNat_of_zero_le h0
  rw [Int.toNat_natCast]
  go_enter Tryd.func33, Tryd.ntmps33
  go_wp2_with fail
  have hv2 : val 4294967296 [n % 4294967296, n / 4294967296] = n := by simp [val]; omega
  have hL : LU ((w.alloc (.cells #[.slice none 0 0] 26)).alloc (.cells #[.int .u32 ((n : Int) % 4294967296), .int .u32 ((n : Int) / 4294967296)] 71)) (.slice (some ⟨w.heap.size + 1, 0, none⟩) 2 2) [n % 4294967296, n / 4294967296] := by
    refine LU.of_cells (n := 2) rfl (Nat.le_refl _) (cellsT_alloc (w.alloc (.cells #[.slice none 0 0] 26)) _ _ _ (f := u32f [n % 4294967296, n / 4294967296]) (by simp) ?_) (fun _ _ => rfl)
    intro i hi
    match i, hi with
    | 0, _ => simp [u32f]
    | 1, _ => simp [u32f]
  refine (fromDigits_new (by simp) ?_ hL).mono ?_
  · intro d hd
    simp at hd
    omega
  rw [hv2]
  rintro e w3 ⟨v, rfl, ⟨s, rfl, A3, c3, rfl, hc3, hA3⟩, hb⟩
  have hone := (((One.new w (.slice none 0 0) 26).alloc _).step hb)
  have hc1 := hone.cell
  have hf1 := hone.frozen
  have hl1 := hone.lt
  go_wp2
  have hone2 := hone.set_ (.slice A3 (digs 4294967296 n).length c3)
  refine bodyPost_ret (v := .agg #[.slice A3 (digs 4294967296 n).length c3]) (by simp [results, Tryd.results33, go_sem, hone2.cell]) rfl ?_
  refine ⟨_, rfl, ⟨_, rfl, LU.far ⟨A3, c3, rfl, hc3, hA3⟩ hone.row (by decide) _⟩, ?_⟩
  exact (((((Below.refl _ _).alloc (Nat.le_refl _) _).alloc (by simp) _).trans (hb.mono (by simp; omega))).setCell (Nat.le_refl _) _)

set_option maxHeartbeats 400000 in
theorem isZero_any {v : Value} {k : Nat} {w : World} (hlen : (digs 4294967296 k).length ≤ 1000000) (hv : IsNat w v k) :
    Calls Tryd.prog 18 #[v] w fun e w' => e = .returned (.bool (decide (k = 0))) ∧ Below w.heap.size w w' := by
  obtain ⟨s, rfl, A, c, rfl, hc, hA⟩ := hv
  have hl : Hid ((((digs 4294967296 k).length : Nat) : Int) = 0 ↔ k = 0) := by
    unfold Hid
    constructor
    · intro h
      rcases Nat.eq_zero_or_pos k with h0 | h0
      · exact h0
      · rw [digs_pos 4294967296 k (by omega) h0] at h; simp at h; omega
    · rintro rfl; rfl
  go_enter Tryd.func18, Tryd.ntmps18
  go_wp2
  go_ret
  refine ⟨congrArg (fun b => Ending.returned (.bool b)) ?_, (Below.refl _ _).alloc (Nat.le_refl _) _⟩
  rw [Bool.eq_iff_iff, beq_iff_eq, decide_eq_true_iff]
  exact hl.out
end Go.Proofs.YtdbhlmifioccgaaDoor
