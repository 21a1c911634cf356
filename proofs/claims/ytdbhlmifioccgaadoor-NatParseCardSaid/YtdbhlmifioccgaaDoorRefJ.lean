/- Contract of the reference's Parse. -/
import Derived.Test.YtdbhlmifioccgaaDoorLawSums
namespace Go.Proofs.YtdbhlmifioccgaaDoor
open Go.RowKit

def RefErr (w : World) (c : Int) (e : Ending) (w' : World) : Prop := e = .returned (.tuple #[.slice none 0 0, .int .i64 c]) ∧ w = w'
def RefOk (w : World) (k : Nat) (e : Ending) (w' : World) : Prop := ∃ v, e = .returned (.tuple #[v, .int .i64 0]) ∧ LI w' v (digs 1000000 k) ∧ Below w.heap.size w w'

set_option maxRecDepth 100000 in
set_option maxHeartbeats 1600000 in
theorem refParse_empty (s : ByteArray) (w : World) (h0 : s.size = 0) :
    Calls Tryd.prog 19 #[.string s] w (RefErr w 3) := by
  obtain rfl : s = ⟨#[]⟩ := by
    apply ByteArray.ext
    exact Array.eq_empty_of_size_eq_zero h0
  go_enter Tryd.func19, Tryd.ntmps19
  go_wp2
  go_ret2
  exact ⟨rfl, rfl⟩
set_option maxRecDepth 100000 in
set_option maxHeartbeats 1600000 in
theorem refParse_zero (s : ByteArray) (w : World) (hlen : s.size ≤ 9223372036854775807) (h1 : 1 < s.size) (hz : s[0].toNat = 48) :
    Calls Tryd.prog 19 #[.string s] w (RefErr w 3) := by
  obtain ⟨hne, hne2⟩ := str_ne (s := s) (by omega)
  have hs0 : ((s.size : Int) == 0) = false := beq_eq_false_iff_ne.2 (by omega)
  go_enter Tryd.func19, Tryd.ntmps19
  go_wp2
  go_ret2
  exact ⟨rfl, rfl⟩
set_option maxRecDepth 100000 in
set_option maxHeartbeats 1600000 in
theorem refParse_char (s : ByteArray) (w : World) (hlen : s.size ≤ 9223372036854775807) (h0 : 0 < s.size) (hz : s[0].toNat = 48 → s.size ≤ 1) (hbad : ¬ DigB s s.size) :
    Calls Tryd.prog 19 #[.string s] w (RefErr w 3) := by
  obtain ⟨hne, hne2⟩ := str_ne h0
  have HB := Lib.hid hbad
  have hs0 : ((s.size : Int) == 0) = false := beq_eq_false_iff_ne.2 (by omega)
  clear hbad
  have hcase : decide ((1 : Int) < (s.size : Int)) = false ∨ ((1 : Int) < (s.size : Int) ∧ ((s[0].toNat : Int) == 48) = false) := by
    by_cases h1 : 1 < s.size
    · refine .inr ⟨by omega, beq_eq_false_iff_ne.2 (fun h => ?_)⟩
      have := hz (by omega)
      omega
    · exact .inl (decide_eq_false (by omega))
  clear hz
  rcases hcase with hz3 | ⟨hz4, hz3⟩
  all_goals
    go_enter Tryd.func19, Tryd.ntmps19
    go_wp2_with fail
    go_loop [4] (fun i => ∃ k : Nat, i = .int .i64 k ∧ k ≤ s.size ∧ DigB s k) (fun i => s.size - (intOf i).toNat)
    case atStart => exact ⟨0, rfl, by omega, fun j _ h => by omega⟩
    case round =>
      obtain ⟨k, rfl, hk, hd⟩ := hrel
      by_cases hlt : k < s.size
      · by_cases h1 : (s[k].toNat : Int) < 48
        · go_wp2
          go_ret2
          exact ⟨rfl, rfl⟩
        · by_cases h2 : (57 : Int) < (s[k].toNat : Int)
          · go_wp2
            go_ret2
            exact ⟨rfl, rfl⟩
          · have hn := Lib.hid (hd.snoc hlt (by omega) (by omega))
            go_wp2
            go_round
            case rel => exact ⟨k + 1, by go_num, by omega, hn.out⟩
            case measure => simp [intOf]; omega
      · obtain rfl : k = s.size := by omega
        exact absurd hd HB.out
theorem refParse_bad {s : ByteArray} {w : World} (hlen : s.size ≤ 9223372036854775807) (hs : ¬ isTextB s) :
    Calls Tryd.prog 19 #[.string s] w (RefErr w 3) := by
  by_cases h0 : 0 < s.size
  · by_cases hz : s[0].toNat = 48 → s.size ≤ 1
    · exact refParse_char s w hlen h0 hz (fun h => hs ⟨h0, fun _ => hz, h⟩)
    · have hz' : s[0].toNat = 48 ∧ ¬ s.size ≤ 1 := Classical.not_imp.1 hz
      exact refParse_zero s w hlen (by omega) hz'.1
  · exact refParse_empty s w (by omega)

theorem numL_mid (b : ByteArray) (f k : Nat) (hf : f ≤ k) (h : k < b.size) : numL ((b.data.toList.take (k + 1)).drop f) = numL ((b.data.toList.take k).drop f) * 10 + (b[k].toNat - 48) := by
  have hl : k < b.data.toList.length := h
  rw [List.take_succ_eq_append_getElem hl, List.drop_append_of_le_length (by rw [List.length_take]; omega), numL_snoc]
  rfl
theorem numL_cut (b : ByteArray) (f : Nat) (_hf : f ≤ b.size) : numL b.data.toList = numL (b.extract 0 f).data.toList * 10 ^ (b.size - f) + numL (b.data.toList.drop f) := by
  have hl : b.data.toList.length = b.size := rfl
  rw [Lib.extract_data, List.drop_zero, Nat.sub_zero]
  have := numL_append (b.data.toList.take f) (b.data.toList.drop f)
  rw [List.take_append_drop, List.length_drop, hl] at this
  exact this
theorem numL_nil_extract (b : ByteArray) : numL (b.extract 0 0).data.toList = 0 := by rw [Lib.extract_data]; rfl
/-- At the head of Parse's loop: b is still to be read, os has been. -/
def ParR (w : World) (n : Nat) (b : ByteArray) (v : Value) (os : List Nat) (W : World) : Prop :=
  OwnI w.heap.size W v os ∧ (∀ d ∈ os, d < 1000000) ∧ n = numL b.data.toList * 10 ^ (6 * os.length) + val 1000000 os ∧ os.length + b.size ≤ 100 ∧ DigL b.data.toList ∧ Below w.heap.size w W ∧ w.heap.size ≤ W.heap.size
theorem parR_math (n x y g f sz l : Nat) (v : Nat) (h : n = x * 10 ^ (6 * l) + v) (hx : x = y * 10 ^ (sz - f) + g) (hc : sz - f = 6 ∨ y = 0) : n = y * 10 ^ (6 * (l + 1)) + (v + 1000000 ^ l * g) := by
  have e : (1000000 : Nat) ^ l = 10 ^ (6 * l) := by rw [show (1000000 : Nat) = 10 ^ 6 from rfl, ← Nat.pow_mul]
  rw [h, hx, e]
  rcases hc with hc | rfl
  · rw [hc, Nat.add_mul, Nat.mul_assoc, ← Nat.pow_add, show 6 + 6 * l = 6 * (l + 1) by omega, Nat.mul_comm g]
    omega
  · rw [Nat.zero_mul, Nat.zero_mul, Nat.zero_add, Nat.zero_add, Nat.mul_comm g]
    omega

set_option maxRecDepth 100000 in
set_option maxHeartbeats 1600000 in
theorem refParse_ok {s : ByteArray} {w : World} (hs : isTextB s) (hl : s.size ≤ 100) :
    Calls Tryd.prog 19 #[.string s] w (RefOk w (numL s.data.toList)) := by
  have h0 := hs.1
  obtain ⟨hne, hne2⟩ := str_ne h0
  have hdl := Lib.hid (hs.2.2.digL)
  have HD := Lib.hid hs.2.2
  have hs0 : ((s.size : Int) == 0) = false := beq_eq_false_iff_ne.2 (by omega)
  have hcase : decide ((1 : Int) < (s.size : Int)) = false ∨ ((1 : Int) < (s.size : Int) ∧ ((s[0].toNat : Int) == 48) = false) := by
    by_cases h1 : 1 < s.size
    · refine .inr ⟨by omega, beq_eq_false_iff_ne.2 (fun h => ?_)⟩
      have := hs.2.1 h0 (by omega)
      omega
    · exact .inl (decide_eq_false (by omega))
  clear hs
  rcases hcase with hz3 | ⟨hz4, hz3⟩
  all_goals
    go_enter Tryd.func19, Tryd.ntmps19
    go_wp2_with fail
    go_loop [4] (fun i => ∃ k : Nat, i = .int .i64 k ∧ k ≤ s.size) (fun i => s.size - (intOf i).toNat)
    case atStart => exact ⟨0, rfl, by omega⟩
    case round =>
      obtain ⟨k, rfl, hk⟩ := hrel
      by_cases hlt : k < s.size
      · obtain ⟨h1, h2⟩ := HD.out.at_ hlt hlt
        go_wp2
        go_round
        case rel => exact ⟨k + 1, by go_num, by omega⟩
        case measure => simp [intOf]; omega
      · go_wp2
        go_loopw [0, 5] (fun b v wr => ∃ (s' : ByteArray) (os : List Nat), b = .string s' ∧ ParR w (numL s.data.toList) s' v os wr) (fun b _ _ => match b with | .string s' => s'.size | _ => 0)
        case atStart => exact ⟨s, [], rfl, OwnI.nil _ _, by simp, by simp [val], by simpa using hl, hdl.out, Below.refl _ _, Nat.le_refl _⟩
        case round =>
          obtain ⟨b, os, rfl, hP⟩ := hrel
          obtain ⟨hown, hos, hn, hob, hbl, hbw, hsz⟩ := hP
          by_cases hb0 : 0 < b.size
          · obtain ⟨f, hf⟩ : ∃ f : Nat, f = b.size - 6 := ⟨_, rfl⟩
            have hfb : f < b.size := by omega
            have hfm : Hid (max (0 : Int) ((b.size : Int) - 6) = (f : Int)) := by unfold Hid; omega
            have hf6 : b.size ≤ f + 6 := by omega
            have hfe : Hid (b.size - f = 6 ∨ f = 0) := by unfold Hid; omega
            have HN := Lib.hid hn
            have HO := Lib.hid hos
            clear hf hn hos
            go_wp2_with fail
            rw [hfm.out]
            clear hfm
            go_loop [7, 8] (fun gv iv => ∃ (ng k : Nat), iv = .int .i64 k ∧ f ≤ k ∧ k ≤ b.size ∧ gv = .int .i64 ng ∧ ng = numL ((b.data.toList.take k).drop f) ∧ ng < 10 ^ (k - f)) (fun _ iv => b.size - (intOf iv).toNat)
            case atStart => exact ⟨0, f, rfl, Nat.le_refl _, by omega, rfl, by rw [List.drop_eq_nil_of_le (by rw [List.length_take]; omega)]; rfl, by simp⟩
            case round =>
              obtain ⟨g, j, rfl, hfj, hj, rfl, hgn, hg10⟩ := hrel
              have HG := Lib.hid hgn
              clear hgn
              have hg6 : g < 1000000 := Nat.lt_of_lt_of_le hg10 (Nat.pow_le_pow_right (n := 10) (by omega) (show j - f ≤ 6 by omega))
              by_cases hlt : j < b.size
              · have hx := (hbl.digB b.size).at_ hlt hlt
                have hn := Lib.hid (numL_mid b f j hfj hlt)
                have hc : Hid (g * 10 + (b[j].toNat - 48) < 10 ^ (j + 1 - f)) := by
                  unfold Hid
                  rw [show j + 1 - f = (j - f) + 1 by omega, Nat.pow_succ]
                  omega
                clear hg10
                go_wp2
                go_round
                case rel => exact ⟨g * 10 + (b[j].toNat - 48), j + 1, by go_num, by omega, by omega, by go_num, by rw [hn.out, HG.out], hc.out⟩
                case measure => simp [intOf]; omega
              · obtain rfl : j = b.size := by omega
                have hge : Hid (g = numL (b.data.toList.drop f)) := by
                  unfold Hid
                  have htk : b.data.toList.take b.size = b.data.toList := List.take_of_length_le (Nat.le_refl b.size)
                  rw [HG.out, htk]
                have Key : Hid (∀ v' w', OwnI w.heap.size w' v' (os ++ [g]) → Below w.heap.size w w' → w.heap.size ≤ w'.heap.size → ParR w (numL s.data.toList) (b.extract 0 f) v' (os ++ [g]) w') := by
                  intro v' w' h1 h2 h3
                  refine ⟨h1, all_snoc HO.out hg6, ?_, ?_, hbl.extract 0 f, h2, h3⟩
                  · rw [val_snoc, List.length_append]
                    refine parR_math _ _ _ _ f b.size os.length _ HN.out (by rw [hge.out]; exact numL_cut b f (by omega)) ?_
                    rcases hfe.out with h | h
                    · exact .inl h
                    · subst h; exact .inr (numL_nil_extract b)
                  · rw [List.length_append, ByteArray.size_extract]
                    simp
                    omega
                have hes : Hid ((b.extract 0 f).size < b.size) := by
                  unfold Hid
                  rw [ByteArray.size_extract]
                  omega
                have hosl : os.length ≤ 100 := by omega
                clear hg10 HG hge hfe
                go_wp2_with (at_builtin; go_loud (refine wpList_append_I rfl (.tmp 63) (.tmp 65) _ _ rfl Tryd.underlying27 Tryd.underlying27 w.heap.size _ os rfl hown g _ rfl rfl (by omega) w hbw hsz ?_; intro v' w1 hown1 hb1 hs1))
                go_roundw
                case rel => exact ⟨_, _, rfl, Key.out _ _ hown1.out hb1.out hs1.out⟩
                case measure => exact hes.out
          · have hbe : b.data.toList = [] := List.eq_nil_of_length_eq_zero (show b.data.toList.length = 0 by have : b.data.toList.length = b.size := rfl; omega)
            have hvo : Hid (numL s.data.toList = val 1000000 os) := by
              unfold Hid
              rw [hn, hbe]
              simp [numL]
            have hso := Lib.hid (strip_digs (b := 1000000) (by omega) os hos)
            have HW := Lib.hid (without_any (w := wr) (by omega) hown.reads)
            rw [hso.out, ← hvo.out] at HW
            clear hbe hn hos hvo hso
            go_wp2_with (go_at_call 52; refine HW.out.mono ?_; rintro e w3 ⟨v3, rfl, hv3, hb3⟩)
            go_ret2
            exact ⟨v3, rfl, hv3, hbw.trans (hb3.mono hsz)⟩
end Go.Proofs.YtdbhlmifioccgaaDoor
