/- The walk of the law NatParse. -/
import Derived.Test.YtdbhlmifioccgaaDoorRefJ
namespace Go.Proofs.YtdbhlmifioccgaaDoor
open Go.RowKit

def ParN (W : World) (k : Nat) (E : Int) (e : Ending) (w' : World) : Prop := ∃ A n c, e = .returned (.tuple #[.agg #[.slice A n c], .int .i64 E]) ∧ IsNat w' (.agg #[.slice A n c]) k ∧ Below W.heap.size W w'
def ParF (W : World) (k : Nat) (E : Int) (e : Ending) (w' : World) : Prop := ∃ v, e = .returned (.tuple #[v, .int .i64 E]) ∧ LI w' v (digs 1000000 k) ∧ Below W.heap.size W w'
theorem numL_bd (l : List UInt8) (h : DigL l) {n : Nat} (hn : l.length ≤ n) : numL l < 10 ^ n :=
  Nat.lt_of_lt_of_le (numL_lt l (fun c hc => (h c hc).2)) (Nat.pow_le_pow_right (by omega) hn)
/-- Both read a short string alike. -/
theorem parses (s : ByteArray) (hl : s.size ≤ 100) : ∃ (k : Nat) (E : Int), k < 10 ^ 100 ∧ (∀ W, Calls Tryd.prog 14 #[.string s] W (ParN W k E)) ∧ (∀ W, Calls Tryd.prog 19 #[.string s] W (ParF W k E)) := by
  by_cases hs : isTextB s
  · refine ⟨numL s.data.toList, 0, numL_bd _ hs.2.2.digL hl, fun W => ?_, fun W => ?_⟩
    · refine (parse_ok (w := W) hs (by omega)).mono ?_
      rintro e w' ⟨v, rfl, hv, hb⟩
      obtain ⟨A, n, c, -, rfl⟩ := isNat_digs hv
      exact ⟨A, n, c, rfl, hv, hb⟩
    · refine (refParse_ok (w := W) hs hl).mono ?_
      rintro e w' ⟨v, rfl, hv, hb⟩
      exact ⟨v, rfl, hv, hb⟩
  · refine ⟨0, 3, Nat.pow_pos (by omega), fun W => ?_, fun W => ?_⟩
    · refine (parse_bad (w := W) (by omega) hs).mono ?_
      rintro e w' ⟨rfl, hb⟩
      exact ⟨_, _, _, rfl, isNat_zero _, hb⟩
    · refine (refParse_bad (w := W) (by omega) hs).mono ?_
      rintro e w' ⟨rfl, rfl⟩
      exact ⟨_, rfl, ⟨none, 0, rfl, Nat.le_refl _, Cells.zero⟩, Below.refl _ _⟩

/-- A string of n digits 7. -/
def sevens (n : Nat) : List UInt8 := List.replicate n 55
theorem sevens_num (n : Nat) : numL (sevens (n + 1)) = numL (sevens n) * 10 + 7 := by
  unfold sevens
  rw [List.replicate_succ', numL_snoc]
  rfl
theorem sevens_dec (n : Nat) : dec (numL (sevens (n + 1))) = sevens (n + 1) := by
  induction n with
  | zero => rw [sevens_num]; rfl
  | succ n ih =>
    have h7 : 7 ≤ numL (sevens (n + 1)) := by rw [sevens_num]; omega
    rw [sevens_num, dec_big _ (by omega), show (numL (sevens (n + 1)) * 10 + 7) / 10 = numL (sevens (n + 1)) by omega, show (numL (sevens (n + 1)) * 10 + 7) % 10 = 7 by omega, ih]
    show sevens (n + 1) ++ [55] = sevens (n + 2)
    unfold sevens
    rw [List.replicate_succ' (n := n + 1)]
theorem sevens_text (n : Nat) (h : 0 < n) : isTextB (⟨(sevens n).toArray⟩ : ByteArray) := by
  have hget : ∀ j (hj : j < (⟨(sevens n).toArray⟩ : ByteArray).size), (⟨(sevens n).toArray⟩ : ByteArray)[j].toNat = 55 := by
    intro j hj
    show (((sevens n).toArray)[j]'hj).toNat = 55
    simp [sevens]
  refine ⟨by simpa [ByteArray.size, sevens] using h, fun h0 h1 => ?_, fun j hj _ => ?_⟩
  · rw [hget 0 h0] at h1; omega
  · rw [hget j hj]; omega
theorem sevens_small {n : Nat} (h : n ≤ 1000) : (digs 4294967296 (numL (sevens n))).length ≤ 1000 := by
  have h1 : numL (sevens n) < 10 ^ n := by
    have := numL_lt (sevens n) (fun c hc => by rw [List.eq_of_mem_replicate hc]; decide)
    rwa [show (sevens n).length = n from List.length_replicate] at this
  refine Nat.le_trans (digs_len (b := 4294967296) (n := n) (by omega) (Nat.lt_of_lt_of_le h1 (Nat.pow_le_pow_left (by omega) n))) h
theorem small10 {k : Nat} (h : k < 10 ^ 100) : (digs 4294967296 k).length ≤ 100 ∧ (digs 1000000 k).length ≤ 100 :=
  ⟨digs_len (by omega) (Nat.lt_of_lt_of_le h (Nat.pow_le_pow_left (by omega) 100)), digs_len (by omega) (Nat.lt_of_lt_of_le h (Nat.pow_le_pow_left (by omega) 100))⟩
theorem infoU8 : (Tryd.prog.info? 5).map (fun i => (i.zero, i.size, i.bytes)) = some (some (.int .u8 0), 1, 1) := by kernel_rfl
/-- The row of the long string when i bytes are laid. -/
def sevF (i j : Nat) : Value := if j < i then .int .u8 55 else .int .u8 0
theorem conv_sevens {W : World} {g n : Nat} (h : Row W g 5 n (sevF n)) : (convert 42 9 (.slice (some ⟨g, 0, none⟩) n n)).run Tryd.prog W = .ok (.string ⟨(sevens n).toArray⟩) W := by
  have hl : (sevens n).length = n := List.length_replicate
  have := run_convert_bytes_back (P := Tryd.prog) W 42 9 5 ⟨g, 0, none⟩ n (sevens n) Tryd.underlying42 Tryd.underlying5 Tryd.underlying9 (fun j hj => by
    rw [hl] at hj
    rw [row_at, h.cell j hj]
    simp [sevF, sevens, hj])
  rw [hl] at this
  exact this

set_option maxRecDepth 100000 in
set_option maxHeartbeats 4000000 in
theorem lawParse_small {s : ByteArray} {D : Nat} {w : World} (hl : s.size ≤ 100) (hD : D < 65536) (hT : Tab w) :
    Calls Tryd.prog 4 #[.string s, .int .u16 (D : Int)] w fun e w' => e = .returned (.bool true) ∧ Below w.heap.size w w' := by
  obtain ⟨k, E, hk, hPn, hPr⟩ := parses s hl
  obtain ⟨hk2, hk6⟩ := small10 hk
  have HPn := Lib.hid hPn
  have HPr := Lib.hid hPr
  have hIs := Lib.hid (fun (W : World) (u v : Value) (hb : Below w.heap.size w W) (hu : IsNat W u k) (h : LI W v (digs 1000000 k)) => is_any (w := W) (by omega) (by omega) (hT.below hb) hu h)
  have hbe : (dec k == dec k) = true := by simp
  rw [hbe] at hIs
  obtain ⟨i0, hi, hz0, hz1, hz2⟩ := info_parts infoU8
  obtain ⟨n, hn⟩ : ∃ n, n = 1 + D % 1100 := ⟨_, rfl⟩
  have hn0 : 0 < n := by omega
  have hnl : n ≤ 1100 := by omega
  have HN := Lib.hid hn
  have hAw := awake_any hT
  have HT := Lib.hid hT
  clear hk hk2 hk6 hPn hPr hbe hn hT
  go_enter Tryd.func4, Tryd.ntmps4
  go_wp2_with fail
  refine hAw.mono ?_
  rintro e w1 ⟨rfl, hb1⟩
  clear hAw
  go_wp2_with fail
  refine (HPn.out _).mono ?_
  rintro e w2 ⟨An, nn, cn, rfl, hn2, hb2⟩
  have B2 := hb1.trans (hb2.mono hb1.size)
  obtain ⟨w3, hw3⟩ : ∃ w3, w2.alloc (.cells #[.slice An nn cn] 26) = w3 := ⟨_, rfl⟩
  have hb23 : Below w2.heap.size w2 w3 := by rw [← hw3]; exact (Below.refl _ _).alloc (Nat.le_refl _) _
  have o3 : One w3 w2.heap.size (.slice An nn cn) 26 := by rw [← hw3]; exact One.new _ _ _
  have hn3 := hn2.below hb23
  have B3 := B2.trans (hb23.mono B2.size)
  clear hn2 hb2 hb23 HPn
  go_wp2_with fail
  clear hw3
  refine (HPr.out _).mono ?_
  rintro e w4 ⟨vr, rfl, hr4, hb4⟩
  have B4 := B3.trans (hb4.mono B3.size)
  have k3 := (o3.step hb4).cell
  clear HPr
  go_wp2_with fail
  refine (hIs.out _ _ _ B4 (hn3.below hb4) hr4).mono ?_
  rintro e w5 ⟨rfl, hb5⟩
  have B5 := B4.trans (hb5.mono B4.size)
  clear hIs hn3 hr4 k3 hb4 hb5 o3
  go_wp2_with (refine wpList_make_row rfl (.tmp 40) (.tmp 40) _ rfl 5 i0 _ Tryd.underlying42 hi hz0 hz1 rfl _ _ _ _ n rfl rfl (by have := HN.out; omega) (by have := HN.out; omega) (by rw [hz2]; omega) (by simp [maxLen]; omega) _ _ (Below.refl _ _) (Nat.le_refl _) ?_; intro w6 hrow hb6 hs6)
  have hr0 : Row w6 w5.heap.size 5 n (sevF 0) := hrow.out.same (fun j _ => by simp [sevF])
  have hb6' := hb6.out
  have hg6 := hr0.lt
  clear hrow hb6 hs6 hi hz0 hz1 hz2
  go_loopw [10] (fun i wr => ∃ ni : Nat, i = .int .i64 ni ∧ ni ≤ n ∧ Row wr w5.heap.size 5 n (sevF ni) ∧ Below w5.heap.size w5 wr) (fun i _ => n - (intOf i).toNat)
  case atStart => exact ⟨0, rfl, by omega, hr0, hb6'⟩
  case round =>
    obtain ⟨i, rfl, hin, hr, hbw⟩ := hrel
    clear hr0 hb6' hg6
    by_cases hlt : i < n
    · have hc0 := hr.cell i hlt
      have hf0 := hr.frozen i
      have hst : Hid (∀ j, sevF (i + 1) j = if j = i then .int .u8 55 else sevF i j) := by
        intro j
        unfold sevF
        by_cases h1 : j = i
        · rw [if_pos h1, if_pos (by omega)]
        · rw [if_neg h1]
          by_cases h2 : j < i
          · rw [if_pos h2, if_pos (by omega)]
          · rw [if_neg h2, if_neg (by omega)]
      go_wp2
      go_roundw
      case rel => exact ⟨i + 1, by go_num, by omega, hr.set_ i _ (fun j _ => hst.out j), hbw.setCell (Nat.le_refl _) _⟩
      case measure => simp [intOf]; omega
    · obtain rfl : i = n := by omega
      have hcv := conv_sevens hr
      have HR := Lib.hid (fun (W : World) (hb : Below wr.heap.size wr W) => conv_sevens (hr.below hb hr.lt))
      have B6 := B5.trans (hbw.mono B5.size)
      have htx := sevens_text i hn0
      have hsz : (⟨(sevens i).toArray⟩ : ByteArray).size = i := by simp [ByteArray.size, sevens]
      clear hr
      by_cases hlong : 1000 < i
      · have hP := Lib.hid (fun W : World => parse_long (w := W) (by omega) htx (by omega))
        have hIz := Lib.hid (fun (W : World) => isZero_any (w := W) (by rw [digs_zero]; simp) (isNat_zero W))
        have hde : decide ((0 : Nat) = 0) = true := rfl
        rw [hde] at hIz
        clear htx hsz hde HR
        go_wp2_with fail
        refine (hP.out _).mono ?_
        rintro e w7 ⟨rfl, hb7⟩
        have B7 := B6.trans (hb7.mono B6.size)
        clear hcv
        go_wp2_with fail
        refine (hIz.out _).mono ?_
        rintro e w8 ⟨rfl, hb8⟩
        have B8 := (B7.alloc B7.size (.cells #[.slice none 0 0] 26)).trans (hb8.mono (by have := B7.size; simp; omega))
        go_wp2_with fail
        go_ret
        exact ⟨rfl, B8⟩
      · have hP := Lib.hid (fun W : World => parse_ok (w := W) htx (by omega))
        obtain ⟨K, hK⟩ : ∃ K, K = numL (⟨(sevens i).toArray⟩ : ByteArray).data.toList := ⟨_, rfl⟩
        have hKd : Hid (dec K = sevens i) := by
          unfold Hid
          rw [hK]
          show dec (numL (sevens i)) = sevens i
          obtain ⟨m, rfl⟩ : ∃ m, i = m + 1 := ⟨i - 1, by omega⟩
          exact sevens_dec m
        have hKl : (digs 4294967296 K).length ≤ 1000 := by
          rw [hK]
          exact sevens_small (by omega)
        rw [← hK] at hP
        have hTx := Lib.hid (fun (W : World) (v : Value) (hb : Below w.heap.size w W) (h : IsNat W v K) => natText_any (w := W) hKl (HT.out.below hb) h)
        rw [hKd.out] at hTx
        clear htx hsz hK hKd hKl
        go_wp2_with fail
        refine (hP.out _).mono ?_
        rintro e w7 ⟨vm, rfl, hm7, hb7⟩
        obtain ⟨Am, nm, cm, -, rfl⟩ := isNat_digs hm7
        obtain ⟨w8, hw8⟩ : ∃ w8, w7.alloc (.cells #[.slice Am nm cm] 26) = w8 := ⟨_, rfl⟩
        have hb78 : Below w7.heap.size w7 w8 := by rw [← hw8]; exact (Below.refl _ _).alloc (Nat.le_refl _) _
        have o8 : One w8 w7.heap.size (.slice Am nm cm) 26 := by rw [← hw8]; exact One.new _ _ _
        have hm8 := hm7.below hb78
        have hb68 := hb7.trans (hb78.mono hb7.size)
        have B8 := B6.trans (hb68.mono B6.size)
        have k8 := o8.cell
        have hcv8 := HR.out w8 hb68
        clear hm7 hb7 hb78 hP hcv
        have hcv9 := HR.out w8.drew hb68.drew
        have k9 : w8.drew.cell? ⟨w7.heap.size, 0, none⟩ = some (.slice Am nm cm) := k8
        have HX := Lib.hid (hTx.out w8.drew _ B8.drew hm8.drew)
        have hb69 := hb68.drew
        have hcvX := Lib.hid (fun (W : World) (hb : Below w8.drew.heap.size w8.drew W) => HR.out W (hb69.trans (hb.mono hb69.size)))
        have B9 := B8.drew
        clear hTx HR hm8 o8
        unfold str at HX
        go_wp2_with fail
        go_region_with (go_at_call 15; refine HX.out.mono ?_; rintro e w9 ⟨rfl, hb9⟩; have hcv10 := hcvX.out w9 hb9)
        all_goals
          go_wp2_with fail
          go_ret
          exact ⟨rfl, B9.trans (hb9.mono B9.size)⟩

set_option maxRecDepth 100000 in
theorem lawParse_large {s : ByteArray} {D : Nat} {w : World} (hlen : 100 < s.size) (hl : s.size ≤ 9223372036854775807) (hT : Tab w) :
    Calls Tryd.prog 4 #[.string s, .int .u16 (D : Int)] w fun e w' => e = .returned (.bool true) ∧ Below w.heap.size w w' := by
  have hAw := awake_any hT
  clear hT
  go_enter Tryd.func4, Tryd.ntmps4
  go_wp2_with fail
  refine hAw.mono ?_
  rintro e w1 ⟨rfl, hb1⟩
  clear hAw
  go_wp2_with fail
  go_ret
  exact ⟨rfl, hb1⟩
end Go.Proofs.YtdbhlmifioccgaaDoor
