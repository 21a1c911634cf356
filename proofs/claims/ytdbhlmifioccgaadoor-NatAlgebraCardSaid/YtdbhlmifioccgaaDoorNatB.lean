/- Contracts of package nat: isText. -/
import Derived.Test.YtdbhlmifioccgaaDoorNatA
namespace Go.Proofs.YtdbhlmifioccgaaDoor
open Go.RowKit

def isDig (c : UInt8) : Bool := decide (48 ≤ c.toNat) && decide (c.toNat ≤ 57)
theorem str_ne {s : ByteArray} (h : 0 < s.size) : s.toList.isEmpty = false ∧ ¬ s.toList = [] := by
  have e : s.toList = s.data.toList := ByteArray.toList_eq s
  have hl : s.data.toList.length = s.size := rfl
  have hn : ¬ s.toList = [] := by
    rw [e]
    intro h0
    rw [h0] at hl
    simp at hl
    omega
  exact ⟨by simpa using hn, hn⟩
set_option maxRecDepth 100000 in
set_option maxHeartbeats 1600000 in
theorem isText_empty (s : ByteArray) (w : World) (h0 : s.size = 0) :
    Calls Tryd.prog 40 #[.string s] w fun e w' => e = .returned (.bool false) ∧ w = w' := by
  obtain rfl : s = ⟨#[]⟩ := by
    apply ByteArray.ext
    exact Array.eq_empty_of_size_eq_zero h0
  go_enter Tryd.func40, Tryd.ntmps40
  go_wp2
  go_ret
  exact ⟨rfl, rfl⟩

set_option maxRecDepth 100000 in
set_option maxHeartbeats 1600000 in
theorem isText_zero (s : ByteArray) (w : World) (hlen : s.size ≤ 9223372036854775807) (h1 : 1 < s.size) (hz : s[0].toNat = 48) :
    Calls Tryd.prog 40 #[.string s] w fun e w' => e = .returned (.bool false) ∧ w = w' := by
  obtain ⟨hne, hne2⟩ := str_ne (s := s) (by omega)
  go_enter Tryd.func40, Tryd.ntmps40
  go_wp2
  go_ret
  exact ⟨rfl, rfl⟩

/-- The digits before index k. -/
def DigB (s : ByteArray) (k : Nat) : Prop := ∀ j (h : j < s.size), j < k → 48 ≤ s[j].toNat ∧ s[j].toNat ≤ 57
theorem DigB.at_ {s : ByteArray} {k : Nat} (h : DigB s k) {j : Nat} (hj : j < s.size) (hk : j < k) : (48 : Int) ≤ (s[j].toNat : Int) ∧ (s[j].toNat : Int) ≤ 57 := by
  have := h j hj hk; omega
theorem DigB.snoc {s : ByteArray} {k : Nat} (h : DigB s k) (hk : k < s.size) (h1 : (48 : Int) ≤ (s[k].toNat : Int)) (h2 : (s[k].toNat : Int) ≤ 57) : DigB s (k + 1) := by
  intro j hj hjk
  by_cases e : j = k
  · subst e; omega
  · exact h j hj (by omega)
/-- A bool that says whether something holds; the world is as it was. -/
def Says (p : Prop) (w : World) (e : Ending) (w' : World) : Prop := ∃ b : Bool, e = .returned (.bool b) ∧ (b = true ↔ p) ∧ w = w'
def isTextB (s : ByteArray) : Prop := 0 < s.size ∧ (∀ h : 0 < s.size, s[0].toNat = 48 → s.size ≤ 1) ∧ DigB s s.size

set_option maxRecDepth 100000 in
set_option maxHeartbeats 1600000 in
theorem isText_loop (s : ByteArray) (w : World) (hlen : s.size ≤ 9223372036854775807) (h0 : 0 < s.size) (hz : s[0].toNat = 48 → s.size ≤ 1) :
    Calls Tryd.prog 40 #[.string s] w (Says (isTextB s) w) := by
  obtain ⟨hne, hne2⟩ := str_ne h0
  have Hz := Lib.hid (fun h : 0 < s.size => (hz : s[0].toNat = 48 → s.size ≤ 1))
  by_cases hz1 : s[0].toNat = 48
  · have hz2 : s.size ≤ 1 := hz hz1
    have hz3 : decide ((1 : Int) < (s.size : Int)) = false := by simp; omega
    clear hz
    have hz : Hid (∀ h : 0 < s.size, s[0].toNat = 48 → s.size ≤ 1) := Hz
    go_enter Tryd.func40, Tryd.ntmps40
    go_wp2_with fail
    go_loop [3, 18] (fun _ i => ∃ k : Nat, i = .int .i64 k ∧ k ≤ s.size ∧ DigB s k) (fun _ i => s.size - (intOf i).toNat)
    case atStart => exact ⟨0, rfl, by omega, fun j _ h => by omega⟩
    case round =>
      obtain ⟨k, rfl, hk, hd⟩ := hrel
      by_cases hlt : k < s.size
      · by_cases h1 : (s[k].toNat : Int) < 48
        · have hnt := Lib.hid (fun h : isTextB s => h.2.2 k hlt hlt)
          go_wp2
          go_ret
          exact ⟨false, rfl, by simp; intro h; have := hnt.out h; omega, rfl⟩
        · by_cases h2 : (57 : Int) < (s[k].toNat : Int)
          · have hnt := Lib.hid (fun h : isTextB s => h.2.2 k hlt hlt)
            go_wp2
            go_ret
            exact ⟨false, rfl, by simp; intro h; have := hnt.out h; omega, rfl⟩
          · have hn := Lib.hid (hd.snoc hlt (by omega) (by omega))
            go_wp2
            go_round
            case rel => exact ⟨k + 1, by go_num, by omega, hn.out⟩
            case measure => simp [intOf]; omega
      · have hfin : Hid (isTextB s) := ⟨h0, hz.out, by obtain rfl : k = s.size := by omega
                                                       exact hd⟩
        go_wp2
        go_ret
        exact ⟨true, rfl, by simp; exact hfin.out, rfl⟩
  · have hz3 : ((s[0].toNat : Int) == 48) = false := beq_eq_false_iff_ne.2 (by omega)
    clear hz
    have hz : Hid (∀ h : 0 < s.size, s[0].toNat = 48 → s.size ≤ 1) := Hz
    go_enter Tryd.func40, Tryd.ntmps40
    go_wp2_with fail
    go_loop [3, 18] (fun _ i => ∃ k : Nat, i = .int .i64 k ∧ k ≤ s.size ∧ DigB s k) (fun _ i => s.size - (intOf i).toNat)
    case atStart => exact ⟨0, rfl, by omega, fun j _ h => by omega⟩
    case round =>
      obtain ⟨k, rfl, hk, hd⟩ := hrel
      by_cases hlt : k < s.size
      · by_cases h1 : (s[k].toNat : Int) < 48
        · have hnt := Lib.hid (fun h : isTextB s => h.2.2 k hlt hlt)
          go_wp2
          go_ret
          exact ⟨false, rfl, by simp; intro h; have := hnt.out h; omega, rfl⟩
        · by_cases h2 : (57 : Int) < (s[k].toNat : Int)
          · have hnt := Lib.hid (fun h : isTextB s => h.2.2 k hlt hlt)
            go_wp2
            go_ret
            exact ⟨false, rfl, by simp; intro h; have := hnt.out h; omega, rfl⟩
          · have hn := Lib.hid (hd.snoc hlt (by omega) (by omega))
            go_wp2
            go_round
            case rel => exact ⟨k + 1, by go_num, by omega, hn.out⟩
            case measure => simp [intOf]; omega
      · have hfin : Hid (isTextB s) := ⟨h0, hz.out, by obtain rfl : k = s.size := by omega
                                                       exact hd⟩
        go_wp2
        go_ret
        exact ⟨true, rfl, by simp; exact hfin.out, rfl⟩

theorem isText_any (s : ByteArray) (w : World) (hlen : s.size ≤ 9223372036854775807) :
    Calls Tryd.prog 40 #[.string s] w (Says (isTextB s) w) := by
  by_cases h0 : 0 < s.size
  · by_cases hz : s[0].toNat = 48 → s.size ≤ 1
    · exact isText_loop s w hlen h0 hz
    · have hz' : s[0].toNat = 48 ∧ ¬ s.size ≤ 1 := Classical.not_imp.1 hz
      refine (isText_zero s w hlen (by omega) hz'.1).mono ?_
      rintro e w' ⟨rfl, rfl⟩
      exact ⟨false, rfl, by simp; intro h; exact hz (h.2.1 h0), rfl⟩
  · refine (isText_empty s w (by omega)).mono ?_
    rintro e w' ⟨rfl, rfl⟩
    exact ⟨false, rfl, by simp; intro h; exact h0 h.1, rfl⟩
end Go.Proofs.YtdbhlmifioccgaaDoor
