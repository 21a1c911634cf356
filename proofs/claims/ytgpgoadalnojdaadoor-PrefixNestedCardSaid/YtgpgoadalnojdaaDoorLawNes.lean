/- Walk of the law PrefixNested. -/
import Derived.Test.YtgpgoadalnojdaaDoorPfxK
namespace Go.Proofs.YtgpgoadalnojdaaDoor
open Go.RowKit

/-- What the six answers have to do with each other. -/
def NesF (c1 c2 k1 k2 d1 d2 : Bool) : Prop := (k1 = true → k2 = true → c1 = true ∨ c2 = true) ∧ ((c1 || c2) = (d1 || d2))
theorem nes_cov {a b m n : Nat} (hq : fst b n = b) (hd : fst b m = a) (h : n ≤ m) : fst a n = b := by
  rw [← hd, fst_fst b n m h, hq]
theorem nesF {a b x : Nat} {l m : Int} (hp : vldB a l = true) (hq : vldB b m = true) : NesF (covB a l b m) (covB b m a l) (hasB a l x) (hasB b m x) (hasB a l b) (hasB b m a) := by
  obtain ⟨n, rfl, hn, fp⟩ := vldB_true hp
  obtain ⟨k, rfl, hk, fq⟩ := vldB_true hq
  unfold NesF covB hasB
  rw [hp, hq]
  simp only [Int.toNat_natCast, Bool.true_and]
  have e1 : decide ((n : Int) ≤ (k : Int)) = decide (n ≤ k) := by rw [decide_eq_decide]; omega
  have e2 : decide ((k : Int) ≤ (n : Int)) = decide (k ≤ n) := by rw [decide_eq_decide]; omega
  rw [e1, e2]
  refine ⟨fun h1 h2 => ?_, ?_⟩
  · have h1 := of_decide_eq_true h1
    have h2 := of_decide_eq_true h2
    rcases Nat.le_total n k with h | h
    · left
      have : fst b n = a := by rw [← h2, fst_fst x n k h, h1]
      simp [h, this]
    · right
      have : fst a k = b := by rw [← h1, fst_fst x k n h, h2]
      simp [h, this]
  · rcases Nat.le_total n k with h | h
    · by_cases h1 : fst b n = a
      · simp [h, h1]
      · by_cases h2 : fst a k = b
        · have := nes_cov fp h2 h
          exact absurd this h1
        · simp [h1, h2]
    · by_cases h1 : fst b n = a
      · have := nes_cov fq h1 h
        simp [h, this, h1]
      · by_cases h2 : fst a k = b
        · simp [h, h2]
        · simp [h1, h2]

set_option maxRecDepth 100000 in
set_option maxHeartbeats 8000000 in
theorem lawNested_bad (a : Nat) (l : Int) (b : Nat) (m : Int) (x : Nat) (w : World) (ha : a < 4294967296) (hb : b < 4294967296) (hV : Vars w) (hv : (vldB a l && vldB b m) = false) :
    Calls Tryd.prog 7 #[pv a l, pv b m, .int .u32 (x : Int)] w fun e w' => e = .returned (.bool true) ∧ Below w.heap.size w w' := by
  have hAw := Lib.hid (fun (W : World) (hW : Below w.heap.size w W) => awake_any W (hV.below hW))
  have hV1 := Lib.hid (fun W => refValid_any a l W ha)
  have hV2 := Lib.hid (fun W => refValid_any b m W hb)
  obtain ⟨p, hp⟩ : ∃ p, vldB a l = p := ⟨_, rfl⟩
  obtain ⟨q, hq⟩ : ∃ q, vldB b m = q := ⟨_, rfl⟩
  rw [hp] at hV1 hv
  rw [hq] at hV2 hv
  obtain ⟨b1, w2, e1, hw2, hP, hQ, hbw⟩ := start_pq w a l b m
  have H0 := Lib.hid (And.intro hP (And.intro hQ hbw))
  have E1 := Lib.hid e1.symm
  have HV := Lib.hid hv
  clear hP hQ hbw e1 hV ha hb hp hq hv
  go_enter Tryd.func7, Tryd.ntmps7
  go_wp2_with fail
  try simp only [E1.out]
  refine (hAw.out _ H0.out.2.2).mono ?_
  rintro e v1 ⟨rfl, hb⟩
  have H1 := Lib.hid (And.intro (H0.out.1.step hb) (And.intro (H0.out.2.1.step hb) (H0.out.2.2.trans (hb.mono H0.out.2.2.size))))
  have p0 := H1.out.1.cell0
  have p1 := H1.out.1.cell1
  have q0 := H1.out.2.1.cell0
  have q1 := H1.out.2.1.cell1
  clear hb
  clear hw2
  go_wp2_with fail
  refine (hV1.out _).mono ?_
  rintro e v2 ⟨rfl, hb⟩
  have H2 := Lib.hid (And.intro (H1.out.1.step hb) (And.intro (H1.out.2.1.step hb) (H1.out.2.2.trans (hb.mono H1.out.2.2.size))))
  have p0 := H2.out.1.cell0
  have p1 := H2.out.1.cell1
  have q0 := H2.out.2.1.cell0
  have q1 := H2.out.2.1.cell1
  clear hb
  cases p with
  | false =>
    go_wp2_with fail
    refine (hAw.out _ H2.out.2.2).mono ?_
    rintro e v3 ⟨rfl, hb⟩
    have HB := Lib.hid (H2.out.2.2.trans (hb.mono H2.out.2.2.size))
    clear hb
    go_wp2_with fail
    go_ret
    exact ⟨rfl, HB.out⟩
  | true =>
    obtain rfl : q = false := by simpa using HV.out
    go_wp2_with fail
    refine (hV2.out _).mono ?_
    rintro e v3 ⟨rfl, hb⟩
    have H3 := Lib.hid (And.intro (H2.out.1.step hb) (And.intro (H2.out.2.1.step hb) (H2.out.2.2.trans (hb.mono H2.out.2.2.size))))
    have p0 := H3.out.1.cell0
    have p1 := H3.out.1.cell1
    have q0 := H3.out.2.1.cell0
    have q1 := H3.out.2.1.cell1
    clear hb
    go_wp2_with fail
    refine (hAw.out _ H3.out.2.2).mono ?_
    rintro e v4 ⟨rfl, hb⟩
    have HB := Lib.hid (H3.out.2.2.trans (hb.mono H3.out.2.2.size))
    clear hb
    go_wp2_with fail
    go_ret
    exact ⟨rfl, HB.out⟩

set_option maxRecDepth 100000 in
set_option maxHeartbeats 20000000 in
theorem lawNested_good (a : Nat) (l : Int) (b : Nat) (m : Int) (x : Nat) (w : World) (ha : a < 4294967296) (hb : b < 4294967296) (hx : x < 4294967296) (hV : Vars w) (hvp : vldB a l = true) (hvq : vldB b m = true) :
    Calls Tryd.prog 7 #[pv a l, pv b m, .int .u32 (x : Int)] w fun e w' => e = .returned (.bool true) ∧ Below w.heap.size w w' := by
  have hAw := Lib.hid (fun (W : World) (hW : Below w.heap.size w W) => awake_any W (hV.below hW))
  have hV1 := Lib.hid (fun W => refValid_any a l W ha)
  have hV2 := Lib.hid (fun W => refValid_any b m W hb)
  rw [hvp] at hV1
  rw [hvq] at hV2
  have hC1 := Lib.hid (fun W => covers_any a l b m W ha hb)
  have hC2 := Lib.hid (fun W => covers_any b m a l W hb ha)
  have hK1 := Lib.hid (fun W => contains_any a l x W ha hx)
  have hK2 := Lib.hid (fun W => contains_any b m x W hb hx)
  have hD1 := Lib.hid (fun W => contains_any a l b W ha hb)
  have hD2 := Lib.hid (fun W => contains_any b m a W hb ha)
  have hF := nesF (x := x) hvp hvq
  generalize covB a l b m = c1 at hC1 hF
  generalize covB b m a l = c2 at hC2 hF
  generalize hasB a l x = k1 at hK1 hF
  generalize hasB b m x = k2 at hK2 hF
  generalize hasB a l b = d1 at hD1 hF
  generalize hasB b m a = d2 at hD2 hF
  have HF := Lib.hid hF
  obtain ⟨b1, w2, e1, hw2, hP, hQ, hbw⟩ := start_pq w a l b m
  have H0 := Lib.hid (And.intro hP (And.intro hQ hbw))
  have E1 := Lib.hid e1.symm
  clear hP hQ hbw e1 hV ha hb hx hvp hvq hF
  go_enter Tryd.func7, Tryd.ntmps7
  go_wp2_with fail
  try simp only [E1.out]
  refine (hAw.out _ H0.out.2.2).mono ?_
  rintro e v1 ⟨rfl, hb⟩
  have H1 := Lib.hid (And.intro (H0.out.1.step hb) (And.intro (H0.out.2.1.step hb) (H0.out.2.2.trans (hb.mono H0.out.2.2.size))))
  have p0 := H1.out.1.cell0
  have p1 := H1.out.1.cell1
  have q0 := H1.out.2.1.cell0
  have q1 := H1.out.2.1.cell1
  clear hb
  clear hw2
  go_wp2_with fail
  refine (hV1.out _).mono ?_
  rintro e v2 ⟨rfl, hb⟩
  have H2 := Lib.hid (And.intro (H1.out.1.step hb) (And.intro (H1.out.2.1.step hb) (H1.out.2.2.trans (hb.mono H1.out.2.2.size))))
  have p0 := H2.out.1.cell0
  have p1 := H2.out.1.cell1
  have q0 := H2.out.2.1.cell0
  have q1 := H2.out.2.1.cell1
  clear hb
  go_wp2_with fail
  refine (hV2.out _).mono ?_
  rintro e v3 ⟨rfl, hb⟩
  have H3 := Lib.hid (And.intro (H2.out.1.step hb) (And.intro (H2.out.2.1.step hb) (H2.out.2.2.trans (hb.mono H2.out.2.2.size))))
  have p0 := H3.out.1.cell0
  have p1 := H3.out.1.cell1
  have q0 := H3.out.2.1.cell0
  have q1 := H3.out.2.1.cell1
  clear hb
  go_wp2_with fail
  refine (hC1.out _).mono ?_
  rintro e v4 ⟨rfl, hb⟩
  have H4 := Lib.hid (And.intro (H3.out.1.step hb) (And.intro (H3.out.2.1.step hb) (H3.out.2.2.trans (hb.mono H3.out.2.2.size))))
  have p0 := H4.out.1.cell0
  have p1 := H4.out.1.cell1
  have q0 := H4.out.2.1.cell0
  have q1 := H4.out.2.1.cell1
  clear hb
  cases c1 with
  | true =>
    go_wp2_with fail
    refine (hK1.out _).mono ?_
    rintro e v5 ⟨rfl, hb⟩
    have H5 := Lib.hid (And.intro (H4.out.1.step hb) (And.intro (H4.out.2.1.step hb) (H4.out.2.2.trans (hb.mono H4.out.2.2.size))))
    have p0 := H5.out.1.cell0
    have p1 := H5.out.1.cell1
    have q0 := H5.out.2.1.cell0
    have q1 := H5.out.2.1.cell1
    clear hb
    cases k1 with
    | true =>
      go_wp2_with fail
      refine (hK2.out _).mono ?_
      rintro e v6 ⟨rfl, hb⟩
      have H6 := Lib.hid (And.intro (H5.out.1.step hb) (And.intro (H5.out.2.1.step hb) (H5.out.2.2.trans (hb.mono H5.out.2.2.size))))
      have p0 := H6.out.1.cell0
      have p1 := H6.out.1.cell1
      have q0 := H6.out.2.1.cell0
      have q1 := H6.out.2.1.cell1
      clear hb
      cases k2 with
      | true =>
        go_wp2_with fail
        refine (hD1.out _).mono ?_
        rintro e v7 ⟨rfl, hb⟩
        have H7 := Lib.hid (And.intro (H6.out.1.step hb) (And.intro (H6.out.2.1.step hb) (H6.out.2.2.trans (hb.mono H6.out.2.2.size))))
        have p0 := H7.out.1.cell0
        have p1 := H7.out.1.cell1
        have q0 := H7.out.2.1.cell0
        have q1 := H7.out.2.1.cell1
        clear hb
        cases d1 with
        | true =>
          go_wp2_with fail
          go_ret
          exact ⟨rfl, H7.out.2.2⟩
        | false =>
          go_wp2_with fail
          refine (hD2.out _).mono ?_
          rintro e v8 ⟨rfl, hb⟩
          have H8 := Lib.hid (And.intro (H7.out.1.step hb) (And.intro (H7.out.2.1.step hb) (H7.out.2.2.trans (hb.mono H7.out.2.2.size))))
          have p0 := H8.out.1.cell0
          have p1 := H8.out.1.cell1
          have q0 := H8.out.2.1.cell0
          have q1 := H8.out.2.1.cell1
          clear hb
          cases d2 with
          | true =>
            go_wp2_with fail
            go_ret
            exact ⟨rfl, H8.out.2.2⟩
          | false =>
            exact absurd HF.out.2 (by simp)


      | false =>
        go_wp2_with fail
        refine (hD1.out _).mono ?_
        rintro e v7 ⟨rfl, hb⟩
        have H7 := Lib.hid (And.intro (H6.out.1.step hb) (And.intro (H6.out.2.1.step hb) (H6.out.2.2.trans (hb.mono H6.out.2.2.size))))
        have p0 := H7.out.1.cell0
        have p1 := H7.out.1.cell1
        have q0 := H7.out.2.1.cell0
        have q1 := H7.out.2.1.cell1
        clear hb
        cases d1 with
        | true =>
          go_wp2_with fail
          go_ret
          exact ⟨rfl, H7.out.2.2⟩
        | false =>
          go_wp2_with fail
          refine (hD2.out _).mono ?_
          rintro e v8 ⟨rfl, hb⟩
          have H8 := Lib.hid (And.intro (H7.out.1.step hb) (And.intro (H7.out.2.1.step hb) (H7.out.2.2.trans (hb.mono H7.out.2.2.size))))
          have p0 := H8.out.1.cell0
          have p1 := H8.out.1.cell1
          have q0 := H8.out.2.1.cell0
          have q1 := H8.out.2.1.cell1
          clear hb
          cases d2 with
          | true =>
            go_wp2_with fail
            go_ret
            exact ⟨rfl, H8.out.2.2⟩
          | false =>
            exact absurd HF.out.2 (by simp)



    | false =>
      go_wp2_with fail
      refine (hD1.out _).mono ?_
      rintro e v6 ⟨rfl, hb⟩
      have H6 := Lib.hid (And.intro (H5.out.1.step hb) (And.intro (H5.out.2.1.step hb) (H5.out.2.2.trans (hb.mono H5.out.2.2.size))))
      have p0 := H6.out.1.cell0
      have p1 := H6.out.1.cell1
      have q0 := H6.out.2.1.cell0
      have q1 := H6.out.2.1.cell1
      clear hb
      cases d1 with
      | true =>
        go_wp2_with fail
        go_ret
        exact ⟨rfl, H6.out.2.2⟩
      | false =>
        go_wp2_with fail
        refine (hD2.out _).mono ?_
        rintro e v7 ⟨rfl, hb⟩
        have H7 := Lib.hid (And.intro (H6.out.1.step hb) (And.intro (H6.out.2.1.step hb) (H6.out.2.2.trans (hb.mono H6.out.2.2.size))))
        have p0 := H7.out.1.cell0
        have p1 := H7.out.1.cell1
        have q0 := H7.out.2.1.cell0
        have q1 := H7.out.2.1.cell1
        clear hb
        cases d2 with
        | true =>
          go_wp2_with fail
          go_ret
          exact ⟨rfl, H7.out.2.2⟩
        | false =>
          exact absurd HF.out.2 (by simp)



  | false =>
    go_wp2_with fail
    refine (hC2.out _).mono ?_
    rintro e v5 ⟨rfl, hb⟩
    have H5 := Lib.hid (And.intro (H4.out.1.step hb) (And.intro (H4.out.2.1.step hb) (H4.out.2.2.trans (hb.mono H4.out.2.2.size))))
    have p0 := H5.out.1.cell0
    have p1 := H5.out.1.cell1
    have q0 := H5.out.2.1.cell0
    have q1 := H5.out.2.1.cell1
    clear hb
    cases c2 with
    | true =>
      go_wp2_with fail
      refine (hK1.out _).mono ?_
      rintro e v6 ⟨rfl, hb⟩
      have H6 := Lib.hid (And.intro (H5.out.1.step hb) (And.intro (H5.out.2.1.step hb) (H5.out.2.2.trans (hb.mono H5.out.2.2.size))))
      have p0 := H6.out.1.cell0
      have p1 := H6.out.1.cell1
      have q0 := H6.out.2.1.cell0
      have q1 := H6.out.2.1.cell1
      clear hb
      cases k1 with
      | true =>
        go_wp2_with fail
        refine (hK2.out _).mono ?_
        rintro e v7 ⟨rfl, hb⟩
        have H7 := Lib.hid (And.intro (H6.out.1.step hb) (And.intro (H6.out.2.1.step hb) (H6.out.2.2.trans (hb.mono H6.out.2.2.size))))
        have p0 := H7.out.1.cell0
        have p1 := H7.out.1.cell1
        have q0 := H7.out.2.1.cell0
        have q1 := H7.out.2.1.cell1
        clear hb
        cases k2 with
        | true =>
          go_wp2_with fail
          refine (hD1.out _).mono ?_
          rintro e v8 ⟨rfl, hb⟩
          have H8 := Lib.hid (And.intro (H7.out.1.step hb) (And.intro (H7.out.2.1.step hb) (H7.out.2.2.trans (hb.mono H7.out.2.2.size))))
          have p0 := H8.out.1.cell0
          have p1 := H8.out.1.cell1
          have q0 := H8.out.2.1.cell0
          have q1 := H8.out.2.1.cell1
          clear hb
          cases d1 with
          | true =>
            go_wp2_with fail
            go_ret
            exact ⟨rfl, H8.out.2.2⟩
          | false =>
            go_wp2_with fail
            refine (hD2.out _).mono ?_
            rintro e v9 ⟨rfl, hb⟩
            have H9 := Lib.hid (And.intro (H8.out.1.step hb) (And.intro (H8.out.2.1.step hb) (H8.out.2.2.trans (hb.mono H8.out.2.2.size))))
            have p0 := H9.out.1.cell0
            have p1 := H9.out.1.cell1
            have q0 := H9.out.2.1.cell0
            have q1 := H9.out.2.1.cell1
            clear hb
            cases d2 with
            | true =>
              go_wp2_with fail
              go_ret
              exact ⟨rfl, H9.out.2.2⟩
            | false =>
              exact absurd HF.out.2 (by simp)


        | false =>
          go_wp2_with fail
          refine (hD1.out _).mono ?_
          rintro e v8 ⟨rfl, hb⟩
          have H8 := Lib.hid (And.intro (H7.out.1.step hb) (And.intro (H7.out.2.1.step hb) (H7.out.2.2.trans (hb.mono H7.out.2.2.size))))
          have p0 := H8.out.1.cell0
          have p1 := H8.out.1.cell1
          have q0 := H8.out.2.1.cell0
          have q1 := H8.out.2.1.cell1
          clear hb
          cases d1 with
          | true =>
            go_wp2_with fail
            go_ret
            exact ⟨rfl, H8.out.2.2⟩
          | false =>
            go_wp2_with fail
            refine (hD2.out _).mono ?_
            rintro e v9 ⟨rfl, hb⟩
            have H9 := Lib.hid (And.intro (H8.out.1.step hb) (And.intro (H8.out.2.1.step hb) (H8.out.2.2.trans (hb.mono H8.out.2.2.size))))
            have p0 := H9.out.1.cell0
            have p1 := H9.out.1.cell1
            have q0 := H9.out.2.1.cell0
            have q1 := H9.out.2.1.cell1
            clear hb
            cases d2 with
            | true =>
              go_wp2_with fail
              go_ret
              exact ⟨rfl, H9.out.2.2⟩
            | false =>
              exact absurd HF.out.2 (by simp)



      | false =>
        go_wp2_with fail
        refine (hD1.out _).mono ?_
        rintro e v7 ⟨rfl, hb⟩
        have H7 := Lib.hid (And.intro (H6.out.1.step hb) (And.intro (H6.out.2.1.step hb) (H6.out.2.2.trans (hb.mono H6.out.2.2.size))))
        have p0 := H7.out.1.cell0
        have p1 := H7.out.1.cell1
        have q0 := H7.out.2.1.cell0
        have q1 := H7.out.2.1.cell1
        clear hb
        cases d1 with
        | true =>
          go_wp2_with fail
          go_ret
          exact ⟨rfl, H7.out.2.2⟩
        | false =>
          go_wp2_with fail
          refine (hD2.out _).mono ?_
          rintro e v8 ⟨rfl, hb⟩
          have H8 := Lib.hid (And.intro (H7.out.1.step hb) (And.intro (H7.out.2.1.step hb) (H7.out.2.2.trans (hb.mono H7.out.2.2.size))))
          have p0 := H8.out.1.cell0
          have p1 := H8.out.1.cell1
          have q0 := H8.out.2.1.cell0
          have q1 := H8.out.2.1.cell1
          clear hb
          cases d2 with
          | true =>
            go_wp2_with fail
            go_ret
            exact ⟨rfl, H8.out.2.2⟩
          | false =>
            exact absurd HF.out.2 (by simp)



    | false =>
      go_wp2_with fail
      refine (hK1.out _).mono ?_
      rintro e v6 ⟨rfl, hb⟩
      have H6 := Lib.hid (And.intro (H5.out.1.step hb) (And.intro (H5.out.2.1.step hb) (H5.out.2.2.trans (hb.mono H5.out.2.2.size))))
      have p0 := H6.out.1.cell0
      have p1 := H6.out.1.cell1
      have q0 := H6.out.2.1.cell0
      have q1 := H6.out.2.1.cell1
      clear hb
      cases k1 with
      | true =>
        go_wp2_with fail
        refine (hK2.out _).mono ?_
        rintro e v7 ⟨rfl, hb⟩
        have H7 := Lib.hid (And.intro (H6.out.1.step hb) (And.intro (H6.out.2.1.step hb) (H6.out.2.2.trans (hb.mono H6.out.2.2.size))))
        have p0 := H7.out.1.cell0
        have p1 := H7.out.1.cell1
        have q0 := H7.out.2.1.cell0
        have q1 := H7.out.2.1.cell1
        clear hb
        cases k2 with
        | true =>
          exact absurd (HF.out.1 rfl rfl) (by simp)
        | false =>
          go_wp2_with fail
          refine (hD1.out _).mono ?_
          rintro e v8 ⟨rfl, hb⟩
          have H8 := Lib.hid (And.intro (H7.out.1.step hb) (And.intro (H7.out.2.1.step hb) (H7.out.2.2.trans (hb.mono H7.out.2.2.size))))
          have p0 := H8.out.1.cell0
          have p1 := H8.out.1.cell1
          have q0 := H8.out.2.1.cell0
          have q1 := H8.out.2.1.cell1
          clear hb
          cases d1 with
          | true =>
            exact absurd HF.out.2 (by simp)
          | false =>
            go_wp2_with fail
            refine (hD2.out _).mono ?_
            rintro e v9 ⟨rfl, hb⟩
            have H9 := Lib.hid (And.intro (H8.out.1.step hb) (And.intro (H8.out.2.1.step hb) (H8.out.2.2.trans (hb.mono H8.out.2.2.size))))
            have p0 := H9.out.1.cell0
            have p1 := H9.out.1.cell1
            have q0 := H9.out.2.1.cell0
            have q1 := H9.out.2.1.cell1
            clear hb
            cases d2 with
            | true =>
              exact absurd HF.out.2 (by simp)
            | false =>
              go_wp2_with fail
              go_ret
              exact ⟨rfl, H9.out.2.2⟩



      | false =>
        go_wp2_with fail
        refine (hD1.out _).mono ?_
        rintro e v7 ⟨rfl, hb⟩
        have H7 := Lib.hid (And.intro (H6.out.1.step hb) (And.intro (H6.out.2.1.step hb) (H6.out.2.2.trans (hb.mono H6.out.2.2.size))))
        have p0 := H7.out.1.cell0
        have p1 := H7.out.1.cell1
        have q0 := H7.out.2.1.cell0
        have q1 := H7.out.2.1.cell1
        clear hb
        cases d1 with
        | true =>
          exact absurd HF.out.2 (by simp)
        | false =>
          go_wp2_with fail
          refine (hD2.out _).mono ?_
          rintro e v8 ⟨rfl, hb⟩
          have H8 := Lib.hid (And.intro (H7.out.1.step hb) (And.intro (H7.out.2.1.step hb) (H7.out.2.2.trans (hb.mono H7.out.2.2.size))))
          have p0 := H8.out.1.cell0
          have p1 := H8.out.1.cell1
          have q0 := H8.out.2.1.cell0
          have q1 := H8.out.2.1.cell1
          clear hb
          cases d2 with
          | true =>
            exact absurd HF.out.2 (by simp)
          | false =>
            go_wp2_with fail
            go_ret
            exact ⟨rfl, H8.out.2.2⟩





theorem lawNested (a : Nat) (l : Int) (b : Nat) (m : Int) (x : Nat) (w : World) (ha : a < 4294967296) (hb : b < 4294967296) (hx : x < 4294967296) (hV : Vars w) :
    Calls Tryd.prog 7 #[pv a l, pv b m, .int .u32 (x : Int)] w fun e w' => e = .returned (.bool true) ∧ Below w.heap.size w w' := by
  cases hv : (vldB a l && vldB b m) with
  | false => exact lawNested_bad a l b m x w ha hb hV hv
  | true =>
    rw [Bool.and_eq_true] at hv
    exact lawNested_good a l b m x w ha hb hx hV hv.1 hv.2
end Go.Proofs.YtgpgoadalnojdaaDoor
