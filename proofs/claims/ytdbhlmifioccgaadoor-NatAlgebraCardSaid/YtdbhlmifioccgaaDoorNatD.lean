/- Contracts of package nat: Parse. -/
import Derived.Test.YtdbhlmifioccgaaDoorNatC
namespace Go.Proofs.YtdbhlmifioccgaaDoor
open Go.RowKit

def DigL (l : List UInt8) : Prop := ∀ c ∈ l, 48 ≤ c.toNat ∧ c.toNat ≤ 57
theorem DigL.digB {s : ByteArray} (h : DigL s.data.toList) (k : Nat) : DigB s k := fun j hj _ => h _ (by
  have hl : j < s.data.toList.length := hj
  exact List.mem_iff_getElem.2 ⟨j, hl, rfl⟩)
theorem DigB.digL {s : ByteArray} (h : DigB s s.size) : DigL s.data.toList := by
  intro c hc
  obtain ⟨j, hj, rfl⟩ := List.mem_iff_getElem.1 hc
  exact h j hj hj
theorem DigL.extract {s : ByteArray} (h : DigL s.data.toList) (a b : Nat) : DigL (s.extract a b).data.toList := by
  rw [Lib.extract_data]
  intro c hc
  exact h c (List.mem_of_mem_drop (List.mem_of_mem_take hc))
theorem part_num (s : ByteArray) (k : Nat) (h : k + 9 ≤ s.size) : numL (s.data.toList.take (k + 9)) = numL (s.data.toList.take k) * 1000000000 + numL (s.extract k (k + 9)).data.toList := by
  rw [Lib.extract_data, List.take_add, numL_append, List.length_take, List.length_drop]
  have hl : s.data.toList.length = s.size := rfl
  rw [hl, Nat.add_sub_cancel_left, Nat.min_eq_left (by omega)]

def ParseOk (w : World) (k : Nat) (e : Ending) (w' : World) : Prop := ∃ v, e = .returned (.tuple #[v, .int .i64 0]) ∧ IsNat w' v k ∧ Below w.heap.size w w'
def ParseErr (w : World) (c : Int) (e : Ending) (w' : World) : Prop := e = .returned (.tuple #[.agg #[.slice none 0 0], .int .i64 c]) ∧ Below w.heap.size w w'

set_option maxRecDepth 100000 in
set_option maxHeartbeats 1600000 in
theorem parse_bad {s : ByteArray} {w : World} (hlen : s.size ≤ 9223372036854775807) (hs : ¬ isTextB s) :
    Calls Tryd.prog 14 #[.string s] w (ParseErr w 3) := by
  go_enter Tryd.func14, Tryd.ntmps14
  go_wp2_with (go_at_call 40; refine (isText_any s _ hlen).mono ?_; rintro e w1 ⟨b, rfl, hb, rfl⟩; obtain rfl : b = false := by { cases b; rfl; exact absurd (hb.1 rfl) hs }; clear hb)
  refine bodyPost_ret (v := .tuple #[.agg #[.slice none 0 0], .int .i64 3]) (by simp [results, Tryd.results14, go_sem]) rfl ?_
  exact ⟨rfl, (Below.refl _ _).alloc (Nat.le_refl _) _⟩

set_option maxRecDepth 100000 in
set_option maxHeartbeats 1600000 in
theorem parse_long {s : ByteArray} {w : World} (hlen : s.size ≤ 9223372036854775807) (hs : isTextB s) (hl : 1000 < s.size) :
    Calls Tryd.prog 14 #[.string s] w (ParseErr w 6) := by
  go_enter Tryd.func14, Tryd.ntmps14
  go_wp2_with (go_at_call 40; refine (isText_any s _ hlen).mono ?_; rintro e w1 ⟨b, rfl, hb, rfl⟩; obtain rfl : b = true := hb.2 hs; clear hb)
  refine bodyPost_ret (v := .tuple #[.agg #[.slice none 0 0], .int .i64 6]) (by simp [results, Tryd.results14, go_sem]) rfl ?_
  exact ⟨rfl, (Below.refl _ _).alloc (Nat.le_refl _) _⟩

set_option maxRecDepth 100000 in
set_option maxHeartbeats 1600000 in
theorem parse_ok {s : ByteArray} {w : World} (hs : isTextB s) (hl : s.size ≤ 1000) :
    Calls Tryd.prog 14 #[.string s] w (ParseOk w (numL s.data.toList)) := by
  have hdl := Lib.hid (hs.2.2.digL)
  have hmod : 0 ≤ (s.size : Int) % 9 ∧ (s.size : Int) % 9 < 9 := by omega
  have hp1 := Lib.hid (fun W : World => appendPart_any (w.heap.size + 1) (v := .slice none 0 0) (ds := []) (s := s.extract 0 (s.size % 9)) (w := W) (by simp) (by simp) (by rw [ByteArray.size_extract]; omega) ((hdl.out.extract _ _).digB _) (OwnU.nil _ _))
  have hp2 := Lib.hid (fun (W : World) (k : Nat) (v : Value) (ds : List Nat) h1 h2 => appendPart_any (w.heap.size + 1) (v := v) (ds := ds) (s := s.extract k (k + 9)) (w := W) h1 h2 (by rw [ByteArray.size_extract]; omega) ((hdl.out.extract _ _).digB _))
  go_enter Tryd.func14, Tryd.ntmps14
  go_wp2_with (go_at_call 40; refine (isText_any s _ (by omega)).mono ?_; rintro e w1 ⟨b, rfl, hb, rfl⟩; obtain rfl : b = true := hb.2 hs; clear hb)
  refine (hp1.out _ (by simp)).mono ?_
  rintro e w2 ⟨v1, ds1, rfl, hown1, hl1, hd1, hval1, hb1⟩
  have HV1 : Hid (val 4294967296 ds1 = numL (s.data.toList.take (s.size % 9))) := by
    unfold Hid
    rw [hval1, Lib.extract_data]
    simp [val]
  have HD1 := Lib.hid hd1
  have hl1' : ds1.length ≤ s.size % 9 + 1 := by simp at hl1; omega
  have hone := (One.new w (.slice none 0 0) 26).below hb1 (by simp)
  have hbw : Below w.heap.size w w2 := ((Below.refl _ _).alloc (Nat.le_refl _) _).trans (hb1.mono (by omega))
  have hsz : w.heap.size + 1 ≤ w2.heap.size := by have := hb1.size; simp at this; omega
  clear hval1 hd1 hl1 hp1
  go_wp2_with fail
  go_loopw [4, 5] (fun i v wr => ∃ (k : Nat) (ds : List Nat), i = .int .i64 k ∧ k ≤ s.size ∧ (s.size - k) % 9 = 0 ∧ OwnU (w.heap.size + 1) wr v ds ∧ ds.length ≤ k + 1 ∧ Hid (∀ d ∈ ds, d < 4294967296) ∧ Hid (val 4294967296 ds = numL (s.data.toList.take k)) ∧ One wr w.heap.size (.slice none 0 0) 26 ∧ Below w.heap.size w wr ∧ w.heap.size + 1 ≤ wr.heap.size) (fun i _ _ => s.size - (intOf i).toNat)
  case atStart => exact ⟨s.size % 9, ds1, by go_num, by omega, by omega, hown1, hl1', HD1, HV1, hone, hbw, hsz⟩
  case round =>
    obtain ⟨k, ds, rfl, hk, hk9, hown, hdl2, HD, HV, hone, hbw, hsz⟩ := hrel
    by_cases hlt : k < s.size
    · have hpn := Lib.hid (part_num s k (by omega))
      go_wp2_with fail
      refine (hp2.out _ k _ ds (by omega) HD.out hown hsz).mono ?_
      rintro e w3 ⟨v3, ds3, rfl, hown3, hl3, hd3, hval3, hb3⟩
      have HV3 := Lib.hid hval3
      have HD3 := Lib.hid hd3
      clear hval3 hd3
      have hsz3 := hb3.size
      go_wp2_with fail
      go_roundw
      case rel => exact ⟨k + 9, ds3, by go_num, by omega, by omega, hown3, by omega, HD3, by unfold Hid; rw [HV3.out, HV.out, hpn.out], hone.below hb3 (by omega), hbw.trans (hb3.mono (by omega)), by omega⟩
      case measure => simp [intOf]; omega
    · obtain rfl : k = s.size := by omega
      have hcall := fromDigits_new (ds := ds) (w := wr) (by omega) HD.out hown.reads
      have hvv : val 4294967296 ds = numL s.data.toList := HV.out.trans (congrArg numL (List.take_of_length_le (Nat.le_refl _)))
      rw [hvv] at hcall
      clear hvv HV1 HD1 hl1'
      go_wp2_with (go_at_call 42; refine hcall.mono ?_; rintro e w3 ⟨v, rfl, ⟨s3, rfl, A3, c3, rfl, hc3, hA3⟩, hb⟩; have hone3 := hone.step hb; have hc1 := hone3.cell; have hf1 := hone3.frozen; have hl1 := hone3.lt)
      have hone4 := hone3.set_ (.slice A3 (digs 4294967296 (numL s.data.toList)).length c3)
      refine bodyPost_ret (v := .tuple #[.agg #[.slice A3 (digs 4294967296 (numL s.data.toList)).length c3], .int .i64 0]) (by simp [results, Tryd.results14, go_sem, hone4.cell]) rfl ?_
      exact ⟨_, rfl, ⟨_, rfl, LU.far ⟨A3, c3, rfl, hc3, hA3⟩ hone3.row (by decide) _⟩, (hbw.trans (hb.mono hbw.size)).setCell (Nat.le_refl _) _⟩
end Go.Proofs.YtdbhlmifioccgaaDoor
