/- Contracts of the reference's functions on numbers (layer 1): Text. -/
import Derived.Test.YtapblmbjbpkieaaDoorRefC
import Derived.WalkSpells
import Derived.Laws.IdiomStrings
import Derived.WalkLawsBesides
namespace Go.Proofs.YtapblmbjbpkieaaDoor
open Go.RowKit

def chr (d : Nat) : UInt8 := UInt8.ofNat (48 + d)
/-- The text of decimal digits, the lowest one first. -/
def txt (ds : List Nat) : List UInt8 := (ds.map chr).reverse
theorem txt_snoc (ds : List Nat) (d : Nat) : txt (ds ++ [d]) = chr d :: txt ds := by simp [txt]
def dec (k : Nat) : List UInt8 := if k = 0 then [48] else txt (digs 10 k)
def str (l : List UInt8) : Value := .string ⟨l.toArray⟩

/-- At the head of the inner loop: group i is being written, r of its digits are; the rest of the group is g. -/
def TextRel (gs : List Nat) (i r g : Nat) (es : List Nat) : Prop :=
  es.length = 6 * i + r ∧ (∀ d ∈ es, d < 10) ∧ val 10 es + 10 ^ (6 * i + r) * g = val 1000000 (gs.take (i + 1)) ∧ g < 10 ^ (6 - r) ∧ (i + 1 = gs.length → 0 < g ∨ ∃ h : es ≠ [], es.getLast h ≠ 0)
/-- At the head of the outer loop. -/
def TextOut (gs : List Nat) (i : Nat) (es : List Nat) : Prop :=
  (∀ d ∈ es, d < 10) ∧ val 10 es = val 1000000 (gs.take i) ∧ (i < gs.length → es.length = 6 * i) ∧ (i = gs.length → ∀ h : es ≠ [], es.getLast h ≠ 0)

theorem run_string_byte (w : World) (n : Int) (h : 0 ≤ n ∧ n < 256) : (convert 42 9 (.slice (some ⟨w.heap.size, 0, none⟩) 1 1)).run Tryd.prog (w.alloc (.cells #[.int .u8 n] 5)) =
    .ok (.string ⟨#[UInt8.ofNat n.toNat]⟩) (w.alloc (.cells #[.int .u8 n] 5)) := by
  refine run_convert_bytes_back (P := Tryd.prog) _ 42 9 5 ⟨w.heap.size, 0, none⟩ 1 [UInt8.ofNat n.toNat] Tryd.underlying42 Tryd.underlying5 Tryd.underlying9 ?_
  intro j hj
  simp at hj
  subst hj
  rw [show (Addr.add ⟨w.heap.size, 0, none⟩ 0 : Addr) = ⟨w.heap.size, 0, none⟩ from rfl, World.cell?_alloc_at _ _ _ _ rfl]
  simp
  omega

theorem run_chr (w : World) (d : Nat) (h : d < 10) : (convert 42 9 (.slice (some ⟨w.heap.size, 0, none⟩) 1 1)).run Tryd.prog (w.alloc (.cells #[.int .u8 (48 + (d : Int))] 5)) =
    .ok (str [chr d]) (w.alloc (.cells #[.int .u8 (48 + (d : Int))] 5)) := by
  rw [run_string_byte w _ ⟨by omega, by omega⟩]
  unfold str chr
  rw [show (48 + (d : Int)).toNat = 48 + d by omega]
theorem run_cat (w : World) (a b : List UInt8) (h : a.length + b.length ≤ 1000000) : (binOp .add 9 (str a) (str b)).run Tryd.prog w = .ok (str (a ++ b)) w := by
  unfold str
  have h2 := run_string_add_sum (P := Tryd.prog) w ⟨a.toArray⟩ ⟨b.toArray⟩ (by simp [ByteArray.size]; omega)
  have h3 : ((⟨a.toArray⟩ : ByteArray) ++ ⟨b.toArray⟩) = ⟨(a ++ b).toArray⟩ := by
    apply ByteArray.ext
    simp [ByteArray.data_append]
  rw [h3] at h2
  simp [binOp, h2]

theorem digits_go (b v i k t : Nat) (h : v + b ^ i * k = t) : v + b ^ i * (k % b) + b ^ (i + 1) * (k / b) = t := by
  rw [← h, Nat.pow_succ, Nat.mul_assoc, Nat.add_assoc, ← Nat.mul_add, Nat.mod_add_div]
theorem text_step {gs : List Nat} {i r g : Nat} {es : List Nat} (h : TextRel gs i r g es) (hr : r < 6) (hc : i + 1 < gs.length ∨ 0 < g) : TextRel gs i (r + 1) (g / 10) (es ++ [g % 10]) := by
  obtain ⟨h1, h2, h3, h4, h5⟩ := h
  refine ⟨by simp [h1]; omega, all_snoc h2 (Nat.mod_lt _ (by omega)), ?_, ?_, ?_⟩
  · rw [val_snoc, h1]
    exact digits_go 10 _ _ _ _ h3
  · rw [Nat.div_lt_iff_lt_mul (by omega), ← Nat.pow_succ, show (6 - (r + 1)).succ = 6 - r by omega]; exact h4
  · intro hi
    by_cases h0 : 0 < g / 10
    · exact .inl h0
    · refine .inr ⟨by simp, ?_⟩
      have hg : 0 < g := by omega
      simp
      omega
theorem text_start {gs : List Nat} {i : Nat} {es : List Nat} (h : TextOut gs i es) (hi : i < gs.length) (hg : ∀ d ∈ gs, d < 1000000) (hl : ∀ h : gs ≠ [], gs.getLast h ≠ 0) : TextRel gs i 0 (gs.getD i 0) es := by
  obtain ⟨h1, h2, h3, h4⟩ := h
  refine ⟨by rw [h3 hi]; rfl, h1, ?_, getD_lt hg i hi, ?_⟩
  · rw [take_snoc gs i hi, val_snoc, h2, List.length_take, Nat.min_eq_left (by omega), Nat.add_zero, Nat.pow_mul]
  · intro hi2
    left
    have hne : gs ≠ [] := by intro e; subst e; simp at hi
    have := hl hne
    rw [List.getLast_eq_getElem] at this
    rw [List.getD, List.getElem?_eq_getElem hi]
    have e : gs.length - 1 = i := by omega
    simp only [e] at this
    simp
    omega
theorem text_next {gs : List Nat} {i r g : Nat} {es : List Nat} (h : TextRel gs i r g es) (_hi : i < gs.length) (hc : r = 6 ∨ (¬ i + 1 < gs.length ∧ g = 0)) (hr : r ≤ 6) : TextOut gs (i + 1) es := by
  obtain ⟨h1, h2, h3, h4, h5⟩ := h
  have hg : g = 0 := by
    rcases hc with rfl | hc
    · simp at h4; exact h4
    · exact hc.2
  subst hg
  refine ⟨h2, by simpa using h3, ?_, ?_⟩
  · intro hlt
    rcases hc with rfl | hc
    · rw [h1]; omega
    · omega
  · intro he hne
    rcases h5 he with h | ⟨_, h⟩
    · omega
    · exact h
theorem text_end {gs : List Nat} {es : List Nat} (h : TextOut gs gs.length es) : es = digs 10 (val 1000000 gs) := by
  obtain ⟨h1, h2, _, h4⟩ := h
  rw [List.take_length] at h2
  rw [← h2, digs_val (by omega) ⟨h1, h4 rfl⟩]
theorem txt_len (es : List Nat) : (txt es).length = es.length := by simp [txt]

set_option maxRecDepth 100000 in
set_option maxHeartbeats 1600000 in
theorem refText_pos {v : Value} {gs : List Nat} {w : World} (hlen : gs.length ≤ 1000) (hpos : 0 < gs.length) (hcan : Canon 1000000 gs) (hv : LI w v gs) :
    Calls Tryd.prog 39 #[v] w fun e w' => e = .returned (str (txt (digs 10 (val 1000000 gs)))) ∧ Below w.heap.size w w' := by
  obtain ⟨A, c, rfl, hc, hA⟩ := hv
  have hz0 : (((gs.length : Nat) : Int) == 0) = false := beq_eq_false_iff_ne.2 (by omega)
  have HC := Lib.hid hcan
  clear hcan
  go_enter Tryd.func39, Tryd.ntmps39
  go_wp2
  go_loopw [3, 4] (fun s i wr => ∃ (ni : Nat) (es : List Nat), i = .int .i64 ni ∧ ni ≤ gs.length ∧ s = str (txt es) ∧ es.length ≤ 6 * ni ∧ TextOut gs ni es ∧ Below w.heap.size w wr) (fun _ i _ => gs.length - (intOf i).toNat)
  case atStart => exact ⟨0, [], rfl, by omega, rfl, by simp, ⟨by simp, by simp [val], by simp, by simp⟩, Below.refl _ _⟩
  case round =>
    obtain ⟨i, es, rfl, hi, rfl, hel, hT, hbw⟩ := hrel
    by_cases hlt : i < gs.length
    · obtain ⟨a, rfl, hab, hcell⟩ := hA i hlt
      have hTS := Lib.hid (text_start hT hlt HC.out.1 HC.out.2)
      clear hT
      obtain ⟨g, hg'⟩ : ∃ g : Nat, g = gs.getD i 0 := ⟨_, rfl⟩
      have hg1 : g < 1000000 := by rw [hg']; exact getD_lt HC.out.1 i hlt
      have hcell' : wr.cell? (a.add i) = some (.int .i64 g) := by rw [hbw.cell (by rw [add_block]; exact hab), hcell, hg']; rfl
      rw [← hg'] at hTS
      clear hcell hg'
      go_wp2
      go_loopw [3, 5, 6] (fun s g k wr => ∃ (ng nk : Nat) (es : List Nat), g = .int .i64 ng ∧ ng < 1000000 ∧ k = .int .i64 nk ∧ nk ≤ 6 ∧ s = str (txt es) ∧ es.length ≤ 6 * i + nk ∧ TextRel gs i nk ng es ∧ Below w.heap.size w wr) (fun _ _ k _ => 6 - (intOf k).toNat)
      case atStart => exact ⟨g, 0, es, rfl, hg1, rfl, by omega, rfl, by omega, hTS.out, hbw⟩
      case round =>
        obtain ⟨g, k, es, rfl, hg1, rfl, hk6, rfl, hel, hT, hbw⟩ := hrel
        by_cases hk : k < 6 ∧ (i + 1 < gs.length ∨ 0 < g)
        · have hcv := fun W : World => run_chr W (g % 10) (by omega)
          have hcat := fun W : World => run_cat W [chr (g % 10)] (txt es) (by rw [txt_len]; simp; omega)
          rw [show [chr (g % 10)] ++ txt es = txt (es ++ [g % 10]) from (txt_snoc _ _).symm] at hcat
          rw [show ((g % 10 : Nat) : Int) = (g : Int) % 10 from by omega] at hcv
          have hst := Lib.hid (text_step hT hk.1 hk.2)
          clear hT
          obtain ⟨hk1, hk2⟩ := hk
          by_cases hk3 : i + 1 < gs.length
          all_goals
            go_wp2
            go_roundw
            case rel => exact ⟨g / 10, k + 1, es ++ [g % 10], by go_num, by omega, by go_num, by omega, rfl, by simp; omega, hst.out, hbw.alloc hbw.size _⟩
            case measure => simp [intOf]; omega
        · have hc : k = 6 ∨ (¬ i + 1 < gs.length ∧ g = 0) := by omega
          have hn := Lib.hid (text_next hT hlt hc hk6)
          clear hT
          by_cases hk1 : k < 6
          · have h2 : ¬ i + 1 < gs.length := by omega
            have h3 : g = 0 := by omega
            subst h3
            go_wp2
            go_roundw
            case rel => exact ⟨i + 1, es, by go_num, by omega, rfl, by omega, hn.out, hbw⟩
            case measure => simp [intOf]; omega
          · go_wp2
            go_roundw
            case rel => exact ⟨i + 1, es, by go_num, by omega, rfl, by omega, hn.out, hbw⟩
            case measure => simp [intOf]; omega
    · obtain rfl : i = gs.length := by omega
      have he := Lib.hid (text_end hT)
      go_wp2
      go_ret
      exact ⟨congrArg (fun l => Ending.returned (str (txt l))) he.out, hbw⟩

theorem refText_any {v : Value} {k : Nat} {w : World} (hlen : (digs 1000000 k).length ≤ 1000) (hv : LI w v (digs 1000000 k)) :
    Calls Tryd.prog 39 #[v] w fun e w' => e = .returned (str (dec k)) ∧ Below w.heap.size w w' := by
  by_cases hk : k = 0
  · subst hk
    obtain ⟨A, c, rfl, hc, hA⟩ := hv
    go_enter Tryd.func39, Tryd.ntmps39
    go_wp2
    go_ret
    exact ⟨rfl, Below.refl _ _⟩
  · have hp : 0 < (digs 1000000 k).length := by
      rw [digs_pos 1000000 k (by omega) (by omega)]; simp
    refine (refText_pos hlen hp (digs_canon (by omega) k).1 hv).mono ?_
    rintro e w' ⟨rfl, hb⟩
    refine ⟨?_, hb⟩
    rw [val_digs (by omega)]
    unfold dec
    rw [if_neg hk]
end Go.Proofs.YtapblmbjbpkieaaDoor
