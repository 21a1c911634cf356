/- Contracts of package nat: appendPart, Parse. -/
import Derived.Test.YtdbhlmifioccgaaDoorNatB
import Derived.Lib.Strings
namespace Go.Proofs.YtdbhlmifioccgaaDoor
open Go.RowKit

theorem OwnU.form {base : Nat} {w : World} {v : Value} {os : List Nat} (h : OwnU base w v os) (hn : 0 < os.length) : ∃ g cap, v = .slice (some ⟨g, 0, none⟩) os.length cap ∧ base ≤ g ∧ g < w.heap.size := World.ownsRow.form h hn
theorem OwnU.len {base : Nat} {w : World} {A : Option Addr} {n c : Nat} {os : List Nat} (h : OwnU base w (.slice A n c) os) : n = os.length := by
  obtain ⟨b, c', h'⟩ := own_slice h
  injection h'
theorem OwnU.cell {base : Nat} {w : World} {g n cap : Nat} {os : List Nat} (h : OwnU base w (.slice (some ⟨g, 0, none⟩) n cap) os) {j : Nat} (hj : j < os.length) : w.cell? ⟨g, j, none⟩ = some (.int .u32 (os.getD j 0 : Nat)) := by
  obtain rfl := h.len
  rw [World.ownsRow.cellAt h j (by omega)]
  simp [encU, List.getD, hj]
theorem OwnU.free {base : Nat} {w : World} {g n cap : Nat} {os : List Nat} (h : OwnU base w (.slice (some ⟨g, 0, none⟩) n cap) os) (j : Nat) : w.frozen? ⟨g, j, none⟩ = false := by
  obtain rfl := h.len
  exact World.ownsRow.frozenAt h j
theorem OwnU.store {base : Nat} {w : World} {g n cap : Nat} {os os' : List Nat} (h : OwnU base w (.slice (some ⟨g, 0, none⟩) n cap) os) (j d : Nat) (u : Value) (hu : u = encU d) (ho : os' = os.set j d) :
    OwnU base (w.setCell ⟨g, j, none⟩ u) (.slice (some ⟨g, 0, none⟩) n cap) os' := by
  obtain rfl := h.len
  subst hu ho
  have := (World.ownsRow.stored h j (encU d)).1
  unfold OwnU
  rw [List.length_set, List.map_set]
  exact this
theorem OwnU.slice {base : Nat} {w : World} {v : Value} {os : List Nat} (h : OwnU base w v os) : ∃ A c, v = .slice A os.length c := own_slice h

/-- The number that bytes spell. -/
def numL (l : List UInt8) : Nat := l.foldl (fun n c => n * 10 + (c.toNat - 48)) 0
theorem numL_snoc (l : List UInt8) (c : UInt8) : numL (l ++ [c]) = numL l * 10 + (c.toNat - 48) := by simp [numL]
theorem numL_take (s : ByteArray) (k : Nat) (h : k < s.size) : numL (s.data.toList.take (k + 1)) = numL (s.data.toList.take k) * 10 + (s[k].toNat - 48) := by
  have hl : k < s.data.toList.length := h
  rw [List.take_succ_eq_append_getElem hl, numL_snoc]
  rfl
theorem numL_lt (l : List UInt8) (h : ∀ c ∈ l, c.toNat ≤ 57) : numL l < 10 ^ l.length := by
  induction hn : l.length generalizing l with
  | zero => obtain rfl := List.eq_nil_of_length_eq_zero hn; simp [numL]
  | succ n ih =>
    obtain ⟨xs, x, rfl⟩ : ∃ xs x, l = xs ++ [x] := ⟨l.dropLast, l.getLast (by intro e; simp [e] at hn), (List.dropLast_concat_getLast _).symm⟩
    have h1 := ih xs (fun c hc => h c (by simp [hc])) (by simpa using hn)
    have h2 := h x (by simp)
    rw [numL_snoc, Nat.pow_succ]
    omega
theorem numL_append (l m : List UInt8) : numL (l ++ m) = numL l * 10 ^ m.length + numL m := by
  induction hn : m.length generalizing m with
  | zero => obtain rfl := List.eq_nil_of_length_eq_zero hn; simp [numL]
  | succ n ih =>
    obtain ⟨xs, x, rfl⟩ : ∃ xs x, m = xs ++ [x] := ⟨m.dropLast, m.getLast (by intro e; simp [e] at hn), (List.dropLast_concat_getLast _).symm⟩
    rw [← List.append_assoc, numL_snoc, numL_snoc, ih xs (by simpa using hn), Nat.pow_succ, ← Nat.mul_assoc, Nat.add_mul]
    omega

/-- At the head of appendPart's second loop: the first i digits are os, and c is the carry. -/
def PartRel (base : Nat) (w : World) (ds : List Nat) (t : Nat) (v : Value) (i c : Nat) (os : List Nat) (wr : World) : Prop :=
  OwnU base wr v (os ++ ds.drop i) ∧ os.length = i ∧ (∀ d ∈ os, d < 4294967296) ∧ val 4294967296 os + 4294967296 ^ i * c = val 4294967296 (ds.take i) * 1000000000 + t ∧ Below base w wr
theorem part_math (o _p i c d t v : Nat) (h : o + 4294967296 ^ i * c = v * 1000000000 + t) :
    (o + 4294967296 ^ i * ((d * 1000000000 + c) % 4294967296)) + 4294967296 ^ (i + 1) * ((d * 1000000000 + c) / 4294967296) = (v + 4294967296 ^ i * d) * 1000000000 + t := by
  rw [Nat.pow_succ, Nat.mul_assoc, Nat.add_assoc, ← Nat.mul_add, Nat.mod_add_div, Nat.mul_add, Nat.add_mul, ← Nat.mul_assoc (4294967296 ^ i)]
  omega
theorem set_mid (os ds : List Nat) (i x : Nat) (hl : os.length = i) (h : i < ds.length) : (os ++ ds.drop i).set i x = (os ++ [x]) ++ ds.drop (i + 1) := by
  subst hl
  rw [List.set_append_right _ _ (Nat.le_refl _), Nat.sub_self, drop_cons ds os.length h, List.set_cons_zero, List.append_assoc]
  rfl
theorem part_carry (d c : Nat) (hd : d < 4294967296) (hc : c < 1000000000) : (d * 1000000000 + c) / 4294967296 < 1000000000 := by omega

set_option maxRecDepth 100000 in
set_option maxHeartbeats 1600000 in
theorem appendPart_any (base : Nat) {v : Value} {ds : List Nat} {s : ByteArray} {w : World} (hlen : ds.length ≤ 1000000) (hd : ∀ d ∈ ds, d < 4294967296) (hs : s.size ≤ 9) (hdig : DigB s s.size) (hv : OwnU base w v ds) (hbase : base ≤ w.heap.size) :
    Calls Tryd.prog 41 #[v, .string s] w fun e w' => ∃ v' ds', e = .returned v' ∧ OwnU base w' v' ds' ∧ ds'.length ≤ ds.length + 1 ∧ (∀ d ∈ ds', d < 4294967296) ∧ val 4294967296 ds' = val 4294967296 ds * 1000000000 + numL s.data.toList ∧ Below base w w' := by
  obtain ⟨A, cp, rfl⟩ := hv.slice
  have HDIG := Lib.hid hdig
  have HD := Lib.hid hd
  clear hdig hd
  go_enter Tryd.func41, Tryd.ntmps41
  go_wp2
  go_loop [5, 6, 14] (fun c _ i => ∃ (nc k : Nat), i = .int .i64 k ∧ k ≤ s.size ∧ c = .int .u32 nc ∧ nc = numL (s.data.toList.take k) ∧ nc < 10 ^ k) (fun _ _ i => s.size - (intOf i).toNat)
  case atStart => exact ⟨0, 0, rfl, by omega, rfl, rfl, by omega⟩
  case round =>
    obtain ⟨c, k, rfl, hk, rfl, hcn, hc10⟩ := hrel
    have HCN := Lib.hid hcn
    clear hcn
    have hc9 : c < 1000000000 := Nat.lt_of_lt_of_le hc10 (Nat.pow_le_pow_right (n := 10) (by omega) (show k ≤ 9 by omega))
    by_cases hlt : k < s.size
    · have hx := HDIG.out.at_ hlt hlt
      have hn := Lib.hid (numL_take s k hlt)
      have hc8 : c < 100000000 := Nat.lt_of_lt_of_le hc10 (Nat.pow_le_pow_right (n := 10) (by omega) (show k ≤ 8 by omega))
      have hc11 : Hid (c * 10 + (s[k].toNat - 48) < 10 ^ (k + 1)) := by unfold Hid; rw [Nat.pow_succ]; omega
      clear hc10
      go_wp2
      go_round
      case rel => exact ⟨c * 10 + (s[k].toNat - 48), k + 1, by go_num, by omega, by go_num, by rw [hn.out, HCN.out], hc11.out⟩
      case measure => simp [intOf]; omega
    · obtain rfl : k = s.size := by omega
      have hct : Hid (c = numL s.data.toList) := by
        exact HCN.out.trans (congrArg numL (List.take_of_length_le (Nat.le_refl _)))
      clear hc10
      go_wp2
      go_loopw [5, 28] (fun cc i wr => ∃ (nc ni : Nat) (os : List Nat), i = .int .i64 ni ∧ ni ≤ ds.length ∧ cc = .int .u32 nc ∧ nc < 1000000000 ∧ PartRel base w ds c (.slice A ds.length cp) ni nc os wr) (fun _ i _ => ds.length - (intOf i).toNat)
      case atStart => exact ⟨c, 0, [], rfl, by omega, rfl, hc9, hv, rfl, by simp, by simp [val], Below.refl _ _⟩
      case round =>
        obtain ⟨c1, i, os, rfl, hi, rfl, hc1, hR⟩ := hrel
        have hR1 := hR
        obtain ⟨hown, hos, hod, hval, hbw⟩ := hR1
        have HOS := Lib.hid hos
        have HOD := Lib.hid hod
        have HV := Lib.hid hval
        clear hos hod hval
        by_cases hlt : i < ds.length
        · have hlen2 : (os ++ ds.drop i).length = ds.length := by simp [HOS.out]; omega
          obtain ⟨g, cap, hsl, hbg, hgl⟩ := hown.form (by omega)
          rw [hlen2] at hsl
          obtain ⟨rfl, _, rfl⟩ := Value.slice.inj hsl
          have hgd : (os ++ ds.drop i).getD i 0 = ds.getD i 0 := by
            rw [List.getD, List.getElem?_append_right (by rw [HOS.out]; omega), HOS.out, Nat.sub_self, List.getElem?_drop]; rfl
          have hcell := hown.cell (j := i) (by omega)
          rw [hgd] at hcell
          have hfree := hown.free i
          obtain ⟨d, hdd⟩ : ∃ d : Nat, d = ds.getD i 0 := ⟨_, rfl⟩
          have hd1 : d < 4294967296 := by rw [hdd]; exact getD_lt HD.out i hlt
          rw [← hdd] at hcell
          have hst := Lib.hid (fun u hu => hown.store i ((d * 1000000000 + c1) % 4294967296) u hu (set_mid os ds i _ HOS.out hlt).symm)
          have hval2 := Lib.hid (part_math _ (val 4294967296 (ds.take i)) i c1 d c _ HV.out)
          have htk : Hid (val 4294967296 (ds.take (i + 1)) = val 4294967296 (ds.take i) + 4294967296 ^ i * d) := by
            unfold Hid
            rw [take_snoc ds i hlt, val_snoc, List.length_take, Nat.min_eq_left (by omega), ← hdd]
          clear hdd hgd hsl hlen2 hR
          go_wp2_with (first | (go_at_call 61; refine (mul32_any _ _ _ (by omega) (by omega)).mono ?_; rintro e w1 ⟨rfl, rfl⟩) | (go_at_call 62; refine (add32_any _ _ _ _ (by omega) (by omega) (by omega)).mono ?_; rintro e w1 ⟨rfl, rfl⟩))
          go_roundw
          case rel =>
            refine ⟨(d * 1000000000 + c1) / 4294967296, i + 1, os ++ [(d * 1000000000 + c1) % 4294967296], by go_num, by omega, by go_num, part_carry d c1 hd1 hc1, hst.out _ (by unfold encU; go_num), by simp [HOS.out], all_snoc HOD.out (by omega), ?_, hbw.setCell hbg _⟩
            rw [val_snoc, HOS.out, htk.out]
            exact hval2.out
          case measure => simp [intOf]; omega
        · obtain rfl : i = ds.length := by omega
          have hown2 : OwnU base wr (.slice A ds.length cp) os := by
            have := hown
            rw [List.drop_of_length_le (by omega), List.append_nil] at this
            exact this
          have hsz : base ≤ wr.heap.size := Nat.le_trans hbase hbw.size
          have HV2 : Hid (val 4294967296 os + 4294967296 ^ ds.length * c1 = val 4294967296 ds * 1000000000 + c) := by
            have := HV.out
            rw [List.take_length] at this
            exact this
          have hol : os.length ≤ 1000000 := by rw [HOS.out]; omega
          clear hown hR HV hv
          by_cases hc0 : c1 = 0
          · subst hc0
            go_wp2
            go_ret
            refine ⟨_, os, rfl, hown2, by rw [HOS.out]; omega, HOD.out, ?_, hbw⟩
            rw [← hct.out, ← HV2.out]; simp
          · have hb : ((c1 : Int) != 0) = true := by simp; omega
            go_wp2_with (at_builtin; go_loud (refine wpList_append_U rfl (.tmp 53) (.tmp 55) _ _ rfl Tryd.underlying22 Tryd.underlying22 base _ os rfl hown2 c1 _ rfl rfl (by omega) w hbw hsz ?_; intro v' w1 hown1 hb1 hs1))
            go_ret
            refine ⟨v', os ++ [c1], rfl, hown1.out, by simp [HOS.out], all_snoc HOD.out (by omega), ?_, hb1.out⟩
            rw [val_snoc, HOS.out, ← hct.out, ← HV2.out]
end Go.Proofs.YtdbhlmifioccgaaDoor
