/- The walk of the law NatAlgebra. -/
import Derived.Test.YtdbhlmifioccgaaDoorSame
import Derived.Deep.RegionHeld3
namespace Go.Proofs.YtdbhlmifioccgaaDoor
open Go.RowKit

/-- Values that stand for numbers below a power of the base. -/
def Env (W : World) (L : List (Value × Nat × Nat)) : Prop := Tab W ∧ ∀ p ∈ L, IsNat W p.1 p.2.1 ∧ p.2.1 < 4294967296 ^ p.2.2
theorem Env.below {W W' : World} {L : List (Value × Nat × Nat)} (h : Env W L) (hb : Below W.heap.size W W') : Env W' L := ⟨h.1.below hb, fun p hp => ⟨(h.2 p hp).1.below hb, (h.2 p hp).2⟩⟩
theorem Env.drew {W : World} {L : List (Value × Nat × Nat)} (h : Env W L) : Env W.drew L := ⟨h.1, h.2⟩
theorem Env.push {W : World} {L : List (Value × Nat × Nat)} (h : Env W L) {v : Value} {k a : Nat} (hv : IsNat W v k) (hk : k < 4294967296 ^ a) : Env W ((v, k, a) :: L) :=
  ⟨h.1, fun p hp => by rcases List.mem_cons.1 hp with rfl | hp
                       · exact ⟨hv, hk⟩
                       · exact h.2 p hp⟩
theorem Env.far {W : World} {L : List (Value × Nat × Nat)} (h : Env W L) {p : Addr} {u : Value} (hT : Tab (W.setCell p u)) (hp : IsRow W 26 p.block) : Env (W.setCell p u) L :=
  ⟨hT, fun q hq => ⟨(h.2 q hq).1.far hp (by decide) u, (h.2 q hq).2⟩⟩
theorem Env.cut {W : World} {L : List (Value × Nat × Nat)} {a b : Value × Nat × Nat} (h : Env W (a :: b :: L)) : Env W (a :: L) :=
  ⟨h.1, fun q hq => h.2 q (by rcases List.mem_cons.1 hq with rfl | hq
                              · exact .head _
                              · exact .tail _ (.tail _ hq))⟩
def OpE (W : World) (L : List (Value × Nat × Nat)) (k a : Nat) (e : Ending) (w' : World) : Prop := ∃ A n c, e = .returned (.agg #[.slice A n c]) ∧ Env w' ((.agg #[.slice A n c], k, a) :: L) ∧ Below W.heap.size W w'
theorem pow_sum {k j a b : Nat} (hk : k < 4294967296 ^ a) (hj : j < 4294967296 ^ b) : k + j < 4294967296 ^ (a + b + 1) := by
  have h1 : (4294967296 : Nat) ^ a ≤ 4294967296 ^ (a + b) := Nat.pow_le_pow_right (by omega) (by omega)
  have h2 : (4294967296 : Nat) ^ b ≤ 4294967296 ^ (a + b) := Nat.pow_le_pow_right (by omega) (by omega)
  rw [Nat.pow_succ]
  generalize (4294967296 : Nat) ^ (a + b) = p at *
  omega
theorem addE {W : World} {L : List (Value × Nat × Nat)} {u v : Value} {k j a b : Nat} (E : Env W L) (hu : (u, k, a) ∈ L) (hv : (v, j, b) ∈ L) (ha : a ≤ 400) (hb : b ≤ 400) : Calls Tryd.prog 22 #[u, v] W (OpE W L (k + j) (a + b + 1)) := by
  obtain ⟨h1, h2⟩ := E.2 _ hu
  obtain ⟨h3, h4⟩ := E.2 _ hv
  simp only at h1 h2 h3 h4
  have l1 := digs_len (b := 4294967296) (by omega) h2
  have l2 := digs_len (b := 4294967296) (by omega) h4
  refine (natAdd_any (by omega) (by omega) h1 h3).mono ?_
  rintro e w' ⟨r, rfl, hr, hb⟩
  obtain ⟨A, n, c, -, rfl⟩ := isNat_digs hr
  exact ⟨A, n, c, rfl, (E.below hb).push hr (pow_sum h2 h4), hb⟩
theorem mulE {W : World} {L : List (Value × Nat × Nat)} {u v : Value} {k j a b : Nat} (E : Env W L) (hu : (u, k, a) ∈ L) (hv : (v, j, b) ∈ L) (ha : a ≤ 400) (hb : b ≤ 400) : Calls Tryd.prog 25 #[u, v] W (OpE W L (k * j) (a + b)) := by
  obtain ⟨h1, h2⟩ := E.2 _ hu
  obtain ⟨h3, h4⟩ := E.2 _ hv
  simp only at h1 h2 h3 h4
  have l1 := digs_len (b := 4294967296) (by omega) h2
  have l2 := digs_len (b := 4294967296) (by omega) h4
  refine (natMul_any (by omega) (by omega) h1 h3).mono ?_
  rintro e w' ⟨r, rfl, hr, hb⟩
  obtain ⟨A, n, c, -, rfl⟩ := isNat_digs hr
  exact ⟨A, n, c, rfl, (E.below hb).push hr (by rw [Nat.pow_add]; exact mul_lt h2 h4), hb⟩
def BackE (W : World) (L : List (Value × Nat × Nat)) (k a : Nat) (e : Ending) (w' : World) : Prop := ∃ A n c, e = .returned (.tuple #[.agg #[.slice A n c], .int .i64 0]) ∧ Env w' ((.agg #[.slice A n c], k, a) :: L) ∧ Below W.heap.size W w'
theorem backE {W : World} {L : List (Value × Nat × Nat)} {u v : Value} {k j a b d : Nat} (E : Env W L) (hu : (u, k + j, a) ∈ L) (hv : (v, j, b) ∈ L) (ha : a ≤ 400) (hb : b ≤ 400) (hk : k < 4294967296 ^ d) : Calls Tryd.prog 20 #[u, v] W (BackE W L k d) := by
  obtain ⟨h1, h2⟩ := E.2 _ hu
  obtain ⟨h3, h4⟩ := E.2 _ hv
  simp only at h1 h2 h3 h4
  have l1 := digs_len (b := 4294967296) (by omega) h2
  have l2 := digs_len (b := 4294967296) (by omega) h4
  refine (natSub_ge (by omega) (by omega) (Nat.le_add_left j k) h1 h3).mono ?_
  rintro e w' ⟨r, rfl, hr, hb⟩
  rw [Nat.add_sub_cancel] at hr
  obtain ⟨A, n, c, -, rfl⟩ := isNat_digs hr
  exact ⟨A, n, c, rfl, (E.below hb).push hr hk, hb⟩
theorem sameE {W : World} {L : List (Value × Nat × Nat)} {u v : Value} {k j a b : Nat} (E : Env W L) (hu : (u, k, a) ∈ L) (hv : (v, j, b) ∈ L) (ha : a ≤ 400) (hkj : k = j) : Calls Tryd.prog 37 #[u, v] W fun e w' => e = .returned (.bool true) ∧ Below W.heap.size W w' := by
  subst hkj
  obtain ⟨h1, h2⟩ := E.2 _ hu
  simp only at h1 h2
  have l1 := digs_len (b := 4294967296) (by omega) h2
  exact same_any (by omega) E.1 h1 (E.2 _ hv).1

set_option maxRecDepth 100000 in
set_option maxHeartbeats 8000000 in
theorem lawAlg_small {u v z : Value} {ds es fs : List Nat} {w : World} (hl1 : ds.length ≤ 12) (hl2 : es.length ≤ 12) (hl3 : fs.length ≤ 12) (hd : ∀ d ∈ ds, d < 4294967296) (he : ∀ d ∈ es, d < 4294967296) (hf : ∀ d ∈ fs, d < 4294967296) (hT : Tab w) (hu : LA w u ds) (hv : LA w v es) (hz : LA w z fs) :
    Calls Tryd.prog 9 #[u, v, z] w fun e w' => e = .returned (.bool true) ∧ Below w.heap.size w w' := by
  have hk : val 4294967296 ds < 4294967296 ^ 12 := Nat.lt_of_lt_of_le (val_lt ds hd) (Nat.pow_le_pow_right (by omega) hl1)
  have hj : val 4294967296 es < 4294967296 ^ 12 := Nat.lt_of_lt_of_le (val_lt es he) (Nat.pow_le_pow_right (by omega) hl2)
  have hi : val 4294967296 fs < 4294967296 ^ 12 := Nat.lt_of_lt_of_le (val_lt fs hf) (Nat.pow_le_pow_right (by omega) hl3)
  have hNu := Lib.hid (fun (W : World) (hb : Below w.heap.size w W) => number_any (w := W) hl1 hd (hu.below hb))
  have hNv := Lib.hid (fun (W : World) (hb : Below w.heap.size w W) => number_any (w := W) hl2 he (hv.below hb))
  have hNz := Lib.hid (fun (W : World) (hb : Below w.heap.size w W) => number_any (w := W) hl3 hf (hz.below hb))
  obtain ⟨k, hk0⟩ : ∃ k, k = val 4294967296 ds := ⟨_, rfl⟩
  rw [← hk0] at hk hNu
  obtain ⟨j, hj0⟩ : ∃ j, j = val 4294967296 es := ⟨_, rfl⟩
  rw [← hj0] at hj hNv
  obtain ⟨i, hi0⟩ : ∃ i, i = val 4294967296 fs := ⟨_, rfl⟩
  rw [← hi0] at hi hNz
  have HK := Lib.hid hk
  have HJ := Lib.hid hj
  have HI := Lib.hid hi
  have HT := Lib.hid hT
  have hAw := awake_any hT
  obtain ⟨A, c, rfl, hA⟩ := hu
  obtain ⟨B, c2, rfl, hB⟩ := hv
  obtain ⟨C, c3, rfl, hC⟩ := hz
  have hSm := Lib.hid (fun W : World => small_any (w := W) (a := .slice A ds.length c) (b := .slice B es.length c2) rfl rfl (by omega) (by omega))
  have hsm1 : (decide (ds.length ≤ 12) && decide (es.length ≤ 12)) = true := by simp [hl1, hl2]
  rw [hsm1] at hSm
  have hSm2 := Lib.hid (fun W : World => small_any (w := W) (a := .slice C fs.length c3) (b := .slice none 0 0) rfl rfl (by omega) (by omega))
  have hsm2 : (decide (fs.length ≤ 12) && decide (0 ≤ 12)) = true := by simp [hl3]
  rw [hsm2] at hSm2
  clear hk hj hi hd he hf hk0 hj0 hi0 hA hB hC hT hsm1 hsm2
  go_enter Tryd.func9, Tryd.ntmps9
  go_wp2_with fail
  refine hAw.mono ?_
  rintro e w1 ⟨rfl, hb1⟩
  clear hAw
  go_wp2_with fail
  refine (hSm.out _).mono ?_
  rintro e w1' ⟨rfl, rfl⟩
  go_wp2_with fail
  refine (hSm2.out _).mono ?_
  rintro e w1' ⟨rfl, rfl⟩
  go_wp2_with fail
  refine (hNu.out _ hb1).mono ?_
  rintro e w2 ⟨vn, vr, rfl, hn, -, hb2⟩
  obtain ⟨An, nn, cn, -, rfl⟩ := isNat_digs hn
  have B2 := hb1.trans (hb2.mono hb1.size)
  obtain ⟨w3, hw3⟩ : ∃ w3, w2.alloc (.cells #[.slice An nn cn] 26) = w3 := ⟨_, rfl⟩
  have hb23 : Below w2.heap.size w2 w3 := by rw [← hw3]; exact (Below.refl _ _).alloc (Nat.le_refl _) _
  have o3 : One w3 w2.heap.size (.slice An nn cn) 26 := by rw [← hw3]; exact One.new _ _ _
  have hn3 := hn.below hb23
  have B3 := B2.trans (hb23.mono B2.size)
  clear hn hb2 hb23 hNu hSm hSm2
  go_wp2_with fail
  clear hw3
  refine (hNv.out _ B3).mono ?_
  rintro e w4 ⟨vm, vs, rfl, hm, -, hb4⟩
  obtain ⟨Am, nm, cm, -, rfl⟩ := isNat_digs hm
  obtain ⟨w5, hw5⟩ : ∃ w5, w4.alloc (.cells #[.slice Am nm cm] 26) = w5 := ⟨_, rfl⟩
  have hb45 : Below w4.heap.size w4 w5 := by rw [← hw5]; exact (Below.refl _ _).alloc (Nat.le_refl _) _
  have o5 : One w5 w4.heap.size (.slice Am nm cm) 26 := by rw [← hw5]; exact One.new _ _ _
  have hb35 := hb4.trans (hb45.mono hb4.size)
  have hm5 := hm.below hb45
  have hn5 := hn3.below hb35
  replace o3 := o3.step hb35
  have B5 := B3.trans (hb35.mono B3.size)
  clear hn3 hm hb4 hb45 hb35 hNv
  go_wp2_with fail
  clear hw5
  refine (hNz.out _ B5).mono ?_
  rintro e w6 ⟨vo, vt, rfl, ho, -, hb6⟩
  obtain ⟨Ao, no, co, -, rfl⟩ := isNat_digs ho
  obtain ⟨w7, hw7⟩ : ∃ w7, w6.alloc (.cells #[.slice Ao no co] 26) = w7 := ⟨_, rfl⟩
  have hb67 : Below w6.heap.size w6 w7 := by rw [← hw7]; exact (Below.refl _ _).alloc (Nat.le_refl _) _
  have O3 : One w7 w6.heap.size (.slice Ao no co) 26 := by rw [← hw7]; exact One.new _ _ _
  have hb57 := hb6.trans (hb67.mono hb6.size)
  have O1 := o3.step hb57
  have O2 := o5.step hb57
  have Bk := B5.trans (hb57.mono B5.size)
  have E00 : Env w7 [] := ⟨HT.out.below Bk, fun p hp => by simp at hp⟩
  have E0 : Env w7 [(.agg #[.slice An nn cn], k, 12), (.agg #[.slice Am nm cm], j, 12), (.agg #[.slice Ao no co], i, 12)] :=
    ((E00.push (ho.below hb67) HI.out).push (hm5.below hb57) HJ.out).push (hn5.below hb57) HK.out
  clear E00
  clear ho hm5 hn5 hb6 hb67 hb57 o3 o5 hNz B5 B3 B2 hb1
  go_wp2_with fail
  clear hw7
  have k1 := O1.cell
  have k2 := O2.cell
  have k3 := O3.cell
  replace E0 := E0.drew
  replace Bk := Bk.drew
  replace O1 : One w7.drew _ _ _ := O1
  replace O2 : One w7.drew _ _ _ := O2
  replace O3 : One w7.drew _ _ _ := O3
  rename_i K0 hK0
  have cut : ∀ (W8 : World) (b4 : Nat) (Ab : Option Addr) (nb cb : Nat) (Aa : Option Addr) (na ca : Nat), Env W8 [(.agg #[.slice Ab nb cb], k, 12), (.agg #[.slice An nn cn], k, 12), (.agg #[.slice Am nm cm], j, 12), (.agg #[.slice Ao no co], i, 12)] →
      One W8 w2.heap.size (.slice An nn cn) 26 → One W8 w4.heap.size (.slice Am nm cm) 26 → One W8 w6.heap.size (.slice Ao no co) 26 → One W8 b4 (.slice Ab nb cb) 26 → Below w.heap.size w W8 →
      K0 { tmps := #[.slice A ds.length c, .slice B es.length c2, .slice C fs.length c3, undef, undef, undef, .bool false, .pointer (some ⟨w2.heap.size, 0, none⟩), vr, .pointer (some ⟨w4.heap.size, 0, none⟩), vs, .pointer (some ⟨w6.heap.size, 0, none⟩), vt, .pointer (some ⟨b4, 0, none⟩), .int .i64 0, .bool true, .bool false, .slice A ds.length c, .slice B es.length c2, .bool true, .bool false, .bool false, .slice C fs.length c3, .bool true, .bool false, .bool false, .tuple #[.agg #[.slice An nn cn], vr], .slice A ds.length c, .tuple #[.agg #[.slice An nn cn], vr], .agg #[.slice An nn cn], vr, .tuple #[.agg #[.slice Am nm cm], vs], .slice B es.length c2, .tuple #[.agg #[.slice Am nm cm], vs], .agg #[.slice Am nm cm], vs, .tuple #[.agg #[.slice Ao no co], vt], .slice C fs.length c3, .tuple #[.agg #[.slice Ao no co], vt], .agg #[.slice Ao no co], vt, .tuple #[.agg #[.slice Ab nb cb], .int .i64 0], .agg #[.slice An nn cn], .agg #[.slice Am nm cm], .agg #[.slice Aa na ca], .agg #[.slice Am nm cm], .tuple #[.agg #[.slice Ab nb cb], .int .i64 0], .agg #[.slice Ab nb cb], .int .i64 0, undef, undef, undef, undef, undef, undef, undef, undef, undef, undef, undef, undef, undef, undef, undef, undef, undef, undef, undef, undef, undef, undef, undef, undef, undef, undef, undef, undef, undef, undef, undef, undef, undef, undef, undef, undef, undef, undef, undef, undef, undef, undef, undef, undef, undef, undef, undef, undef, undef, undef, undef, undef, undef, undef, undef, undef, undef, undef, undef, undef, undef, undef, undef, undef, undef, undef], defers := [] } W8 := by
    intro W8 b4 Ab nb cb Aa na ca F0 F1 F2 F3 F4 FB
    clear E0 O1 O2 O3 Bk k1 k2 k3
    refine hK0 _ _ ?_
    clear hK0 K0
    go_wp2_with fail
    have E : Env W8.drew _ := F0.drew
    have EB := E
    have Bk := FB.drew
    have O1 : One W8.drew _ _ _ := F1
    have O2 : One W8.drew _ _ _ := F2
    have O3 : One W8.drew _ _ _ := F3
    have O4 : One W8.drew _ _ _ := F4
    have k1 := O1.cell
    have k2 := O2.cell
    have k3 := O3.cell
    have k4 := O4.cell
    clear F0 F1 F2 F3 F4 FB
    go_region_held3 (fun W' => W'.cell? ⟨w2.heap.size, 0, none⟩ = some (.slice An nn cn) ∧ W'.cell? ⟨w4.heap.size, 0, none⟩ = some (.slice Am nm cm) ∧ W'.cell? ⟨w6.heap.size, 0, none⟩ = some (.slice Ao no co) ∧ W'.cell? ⟨b4, 0, none⟩ = some (.slice Ab nb cb))
      (first | exact ⟨k1, k2, k3, k4⟩ | go_keep)
      (first
        | (go_at_call 22; refine (addE E (by repeat' first | exact List.Mem.head _ | refine List.Mem.tail _ ?_) (by repeat' first | exact List.Mem.head _ | refine List.Mem.tail _ ?_) (by omega) (by omega)).mono ?_; rintro e W ⟨Ar, nr, cr, rfl, E2, hb⟩; replace E := E2; clear E2; replace EB := EB.below hb; replace Bk := Bk.trans (hb.mono Bk.size); replace O1 := O1.step hb; replace O2 := O2.step hb; replace O3 := O3.step hb; replace O4 := O4.step hb; replace k1 := O1.cell; replace k2 := O2.cell; replace k3 := O3.cell; replace k4 := O4.cell; clear hb)
        | (go_at_call 25; refine (mulE E (by repeat' first | exact List.Mem.head _ | refine List.Mem.tail _ ?_) (by repeat' first | exact List.Mem.head _ | refine List.Mem.tail _ ?_) (by omega) (by omega)).mono ?_; rintro e W ⟨Ar, nr, cr, rfl, E2, hb⟩; replace E := E2; clear E2; replace EB := EB.below hb; replace Bk := Bk.trans (hb.mono Bk.size); replace O1 := O1.step hb; replace O2 := O2.step hb; replace O3 := O3.step hb; replace O4 := O4.step hb; replace k1 := O1.cell; replace k2 := O2.cell; replace k3 := O3.cell; replace k4 := O4.cell; clear hb)
        | (go_at_call 37; refine (sameE E (by repeat' first | exact List.Mem.head _ | refine List.Mem.tail _ ?_) (by repeat' first | exact List.Mem.head _ | refine List.Mem.tail _ ?_) (by omega) (by first | rfl | exact Nat.add_comm _ _ | exact Nat.add_assoc _ _ _ | exact Nat.mul_comm _ _ | exact Nat.mul_assoc _ _ _ | exact Nat.mul_add _ _ _)).mono ?_; rintro e W ⟨rfl, hb⟩; replace EB := EB.below hb; replace E := EB; replace Bk := Bk.trans (hb.mono Bk.size); replace O1 := O1.step hb; replace O2 := O2.step hb; replace O3 := O3.step hb; replace O4 := O4.step hb; replace k1 := O1.cell; replace k2 := O2.cell; replace k3 := O3.cell; replace k4 := O4.cell; clear hb))
    go_wp2_with fail
    try go_ret
    first
      | exact ⟨rfl, Bk⟩
      | exact Bk
  go_region_held3 (fun W' => W'.cell? ⟨w2.heap.size, 0, none⟩ = some (.slice An nn cn) ∧ W'.cell? ⟨w4.heap.size, 0, none⟩ = some (.slice Am nm cm))
    (first | exact ⟨k1, k2⟩ | exact ⟨(O1.far n1 _).cell, (O2.far n2 _).cell⟩ | exact ⟨(O1.alloc _).cell, (O2.alloc _).cell⟩ | exact ⟨((O1.alloc _).far (Nat.ne_of_lt O1.lt) _).cell, ((O2.alloc _).far (Nat.ne_of_lt O2.lt) _).cell⟩ | go_keep)
    (first
      | (go_at_call 22; refine (addE E0 (.head _) (.tail _ (.head _)) (by omega) (by omega)).mono ?_; rintro e W ⟨Aa, na, ca, rfl, E2, hb⟩; replace E0 := E2; replace Bk := Bk.trans (hb.mono Bk.size); replace O1 := O1.step hb; replace O2 := O2.step hb; replace O3 := O3.step hb; replace k1 := O1.cell; replace k2 := O2.cell; replace k3 := O3.cell; clear hb)
      | (go_at_call 22; have n1 : w2.heap.size ≠ w7.heap.size := Nat.ne_of_lt O1.lt; have n2 : w4.heap.size ≠ w7.heap.size := Nat.ne_of_lt O2.lt; have n3 : w6.heap.size ≠ w7.heap.size := Nat.ne_of_lt O3.lt; have s4 : w.heap.size ≤ w7.heap.size := Bk.size; have hb0 := (Below.refl w7.drew.heap.size w7.drew).alloc (Nat.le_refl _) (.cells #[.slice none 0 0] 26); have O4 : One (w7.drew.alloc (.cells #[.slice none 0 0] 26)) w7.heap.size (.slice none 0 0) 26 := One.new w7.drew _ _; replace E0 := E0.below hb0; replace Bk := Bk.trans (hb0.mono Bk.size); replace O1 := O1.step hb0; replace O2 := O2.step hb0; replace O3 := O3.step hb0; replace k1 := O1.cell; replace k2 := O2.cell; replace k3 := O3.cell; clear hb0; refine (addE E0 (.head _) (.tail _ (.head _)) (by omega) (by omega)).mono ?_; rintro e W ⟨Aa, na, ca, rfl, E2, hb⟩; replace E0 := E2; replace Bk := Bk.trans (hb.mono Bk.size); replace O1 := O1.step hb; replace O2 := O2.step hb; replace O3 := O3.step hb; replace k1 := O1.cell; replace k2 := O2.cell; replace k3 := O3.cell; replace O4 := O4.step hb; have k4 := O4.cell; have f4 := O4.frozen; clear hb)
      | (go_at_call 20; refine (backE E0 (.head _) (.tail _ (.tail _ (.head _))) (by omega) (by omega) HK.out).mono ?_; rintro e W' ⟨Ab, nb, cb, rfl, E2, hb⟩; replace E0 := E2; replace Bk := Bk.trans (hb.mono Bk.size); replace O1 := O1.step hb; replace O2 := O2.step hb; replace O3 := O3.step hb; replace k1 := O1.cell; replace k2 := O2.cell; replace k3 := O3.cell; replace O4 := O4.step hb; have k4 := O4.cell; have f4 := O4.frozen; clear hb)
      | (go_at_call 20; refine (backE E0 (.head _) (.tail _ (.tail _ (.head _))) (by omega) (by omega) HK.out).mono ?_; rintro e W' ⟨Ab, nb, cb, rfl, E2, hb⟩; replace E0 := E2; replace Bk := Bk.trans (hb.mono Bk.size); replace O1 := O1.step hb; replace O2 := O2.step hb; replace O3 := O3.step hb; replace k1 := O1.cell; replace k2 := O2.cell; replace k3 := O3.cell; clear hb; have O5 := One.new W' (.slice none 0 0) 26; have k5 := O5.cell; have f5 := O5.frozen)
      | (go_at_call 20; have n1 := Nat.ne_of_lt O1.lt; have n2 := Nat.ne_of_lt O2.lt; have n3 := Nat.ne_of_lt O3.lt; have s4 := Bk.size; have hb0 := (Below.refl W.heap.size W).alloc (Nat.le_refl _) (.cells #[.slice none 0 0] 26); have O4 := One.new W (.slice none 0 0) 26; replace E0 := E0.below hb0; replace Bk := Bk.trans (hb0.mono Bk.size); replace O1 := O1.step hb0; replace O2 := O2.step hb0; replace O3 := O3.step hb0; replace k1 := O1.cell; replace k2 := O2.cell; replace k3 := O3.cell; clear hb0; refine (backE E0 (.head _) (.tail _ (.tail _ (.head _))) (by omega) (by omega) HK.out).mono ?_; rintro e W' ⟨Ab, nb, cb, rfl, E2, hb⟩; replace E0 := E2; replace Bk := Bk.trans (hb.mono Bk.size); replace O1 := O1.step hb; replace O2 := O2.step hb; replace O3 := O3.step hb; replace k1 := O1.cell; replace k2 := O2.cell; replace k3 := O3.cell; replace O4 := O4.step hb; have k4 := O4.cell; have f4 := O4.frozen; clear hb))
  all_goals (first
    | (have bz := (Below.refl W'.heap.size W').alloc (Nat.le_refl _) (.cells #[.slice Ab nb cb] 26)
       have F0 := (E0.below bz).cut
       have F1 := O1.step bz
       have F2 := O2.step bz
       have F3 := O3.step bz
       have F4 := One.new W' (.slice Ab nb cb) 26
       have FB := Bk.trans (bz.mono Bk.size)
       exact cut _ _ _ _ _ _ _ _ F0 F1 F2 F3 F4 FB)
    | (have FB := Bk.setCell s4 (.slice Ab nb cb) (p := ⟨_, 0, none⟩)
       have F0 := (E0.far (HT.out.below FB) O4.row).cut
       have F1 := O1.far n1 (.slice Ab nb cb) (p := ⟨_, 0, none⟩)
       have F2 := O2.far n2 (.slice Ab nb cb) (p := ⟨_, 0, none⟩)
       have F3 := O3.far n3 (.slice Ab nb cb) (p := ⟨_, 0, none⟩)
       have F4 := O4.set_ (.slice Ab nb cb)
       exact cut _ _ _ _ _ _ _ _ F0 F1 F2 F3 F4 FB))
end Go.Proofs.YtdbhlmifioccgaaDoor
