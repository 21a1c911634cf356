/- Contracts of package prefix: parseAddr. -/
import Derived.Test.YtgpgoadalnojdaaGreatDoorPfxG
import Derived.LoopTactic
namespace Go.Proofs.YtgpgoadalnojdaaGreatDoor
open Go.RowKit

def addrV (o : Option Nat) : Value := match o with
  | some n => .tuple #[.int .u32 (n : Int), .bool true]
  | none => .tuple #[.int .u32 0, .bool false]
def AddrPost (w : World) (o : Option Nat) (e : Ending) (w' : World) : Prop := e = .returned (addrV o) ∧ Below w.heap.size w w'
theorem splitK_len {sep : List UInt8} : ∀ (k : Nat) (s : List UInt8), ∀ p ∈ Lib.splitK sep 0 k s, p.length ≤ s.length
  | 0, s, p, hp => by
    rw [Lib.splitK, List.mem_singleton] at hp
    subst hp; exact Nat.le_refl _
  | k + 1, s, p, hp => by
    rw [Lib.splitK] at hp
    split at hp
    · rw [List.mem_singleton] at hp; subst hp; exact Nat.le_refl _
    · rcases List.mem_cons.1 hp with rfl | hp
      · simp; omega
      · have := splitK_len k _ p hp
        simp at this
        omega
/-- The pieces of an address' text. -/
def pcs (s : ByteArray) : List ByteArray := Lib.splitB ⟨#[46]⟩ 0 (min 4 (s.size + 1) - 1) s
theorem pcs_data (s : ByteArray) : (pcs s).map (·.data.toList) = Lib.splitN s.data.toList [46] 4 := by
  unfold pcs Lib.splitN
  rw [Lib.splitB_data]
  rfl
theorem pcs_length (s : ByteArray) : (pcs s).length = (Lib.splitN s.data.toList [46] 4).length := by rw [← pcs_data]; simp
theorem pcs_size (s : ByteArray) : ∀ p ∈ pcs s, p.size ≤ s.size := fun p hp => by
  have h1 : p.data.toList ∈ Lib.splitN s.data.toList [46] 4 := by rw [← pcs_data]; exact List.mem_map.2 ⟨p, hp, rfl⟩
  exact splitK_len _ _ _ h1
theorem splitN_any (s : ByteArray) (w : World) (hs : s.size < 4294967281) (hV : Vars w) : Calls Tryz.prog 41 #[.string s, .string ⟨#[46]⟩, .int .i64 4] w fun e w' =>
    ∃ g c, e = .returned (.slice (some ⟨g, 0, none⟩) (pcs s).length c) ∧ (∀ (i : Nat) x, (pcs s)[i]? = some x → w'.cell? ⟨g, i, none⟩ = some (.string x)) ∧ g < w'.heap.size ∧ Below w.heap.size w w' := by
  obtain ⟨m, hm⟩ := hV.len
  refine (Tryz.strings_SplitN s ⟨#[46]⟩ 4 m w hs hm (by decide) (by omega) (by omega)).mono ?_
  rintro e w' ⟨rfl, rfl⟩
  refine ⟨_, _, rfl, fun i x hx => ?_, by simp, (Below.refl _ _).alloc (Nat.le_refl _) _⟩
  rw [World.cell?_alloc_mark]
  have hl := (List.getElem?_eq_some_iff.1 hx).1
  unfold Lib.cellsOf
  rw [List.getElem?_toArray, List.getElem?_append_left (by simpa [pcs] using hl)]
  simp only [List.getElem?_map]
  have : (Lib.splitB ⟨#[46]⟩ 0 (min 4 (s.size + 1) - 1) s)[i]? = some x := hx
  rw [this]; rfl
set_option maxHeartbeats 2000000 in
theorem parseAddr_bad (s : ByteArray) (w : World) (hs : s.size < 4294967281) (hV : Vars w) (h : (pcs s).length ≠ 4) :
    Calls Tryz.prog 26 #[.string s] w (AddrPost w none) := by
  have hS := Lib.hid (splitN_any s w hs hV)
  obtain ⟨n, hn⟩ : ∃ n, (pcs s).length = n := ⟨_, rfl⟩
  have hl : n ≤ 9223372036854775807 := by
    rw [← hn, pcs]
    have := Lib.splitB_length_le ⟨#[46]⟩ 0 (min 4 (s.size + 1) - 1) s
    omega
  rw [hn] at hS h
  have hb : (n == 4) = false := by simp [h]
  have hb2 : ((n : Int) == 4) = false := by simp; omega
  clear hV hs hn
  go_enter Tryz.func26, Tryz.ntmps26
  go_wp2_with fail
  refine hS.out.mono ?_
  rintro e w1 ⟨g, c, rfl, -, -, hb⟩
  have HB := Lib.hid hb
  clear hb
  go_wp2_with fail
  go_ret2
  exact ⟨rfl, HB.out⟩

theorem run_byte_or (A n : Nat) (hA : A < 4294967296) (hn : n < 256) : bits BinOp.or IntKind.u32 ((A : Int) * 256 % 4294967296) (n : Int) = ((A * 256 % 4294967296 + n : Nat) : Int) := by
  have e : ((A : Int) * 256 % 4294967296) = ((A * 256 % 4294967296 : Nat) : Int) := by omega
  rw [e]
  refine run_or_nat _ _ (by omega) (by omega) ?_
  have : A * 256 % 4294967296 = 2 ^ 8 * (A % 16777216) := by omega
  rw [this, ← Nat.two_pow_add_eq_or_of_lt (show n < 2 ^ 8 by omega)]
set_option maxHeartbeats 4000000 in
theorem parseAddr_good (s : ByteArray) (w : World) (hs : s.size < 4294967281) (hV : Vars w) (h : (pcs s).length = 4) :
    Calls Tryz.prog 26 #[.string s] w (AddrPost w (pa 0 (Lib.splitN s.data.toList [46] 4))) := by
  have hS := Lib.hid (splitN_any s w hs hV)
  rw [h] at hS
  have hsz := Lib.hid (fun p hp => Nat.lt_of_le_of_lt (pcs_size s p hp) hs)
  rw [← pcs_data]
  have hVH := Lib.hid hV
  generalize pcs s = X at h hS hsz
  have HX := Lib.hid h
  clear hV hs h
  go_enter Tryz.func26, Tryz.ntmps26
  go_wp2_with fail
  refine hS.out.mono ?_
  rintro e w1 ⟨g, c, rfl, hc, hg, hb⟩
  have HC := Lib.hid hc
  have HG := Lib.hid hg
  have HB := Lib.hid hb
  clear hb hc hg
  go_wp2_with fail
  go_loopw [5, 17] (fun acc i wr => ∃ k A : Nat, k ≤ 4 ∧ A < 4294967296 ∧ i = .int .i64 k ∧ acc = .int .u32 A ∧ pa 0 (X.map (·.data.toList)) = pa A ((X.drop k).map (·.data.toList)) ∧ Below w1.heap.size w1 wr) (fun _ i _ => 4 - (intOf i).toNat)
  case atStart => exact ⟨0, 0, by omega, by omega, rfl, rfl, by simp, Below.refl _ _⟩
  case round =>
    obtain ⟨k, A, hk, hA, rfl, rfl, hpa, hbr⟩ := hrel
    have HBR := Lib.hid hbr
    have HPA := Lib.hid hpa
    have HA := Lib.hid hA
    clear hbr hpa hA
    by_cases hlt : k < 4
    · have hkX : k < X.length := by rw [HX.out]; exact hlt
      have hxg : X[k]? = some X[k] := List.getElem?_eq_getElem hkX
      have hcell : wr.cell? ⟨g, k, none⟩ = some (.string X[k]) := (HBR.out.cell (p := ⟨g, k, none⟩) HG.out).trans (HC.out k _ hxg)
      have hdrop : X.drop k = X[k] :: X.drop (k + 1) := List.drop_eq_getElem_cons hkX
      have HD := Lib.hid hdrop
      have hVr : Vars wr := (hVH.out.below HB.out).below HBR.out
      have hp := Lib.hid (parseNumber_any X[k] 255 wr (by have := hsz.out X[k] (List.getElem_mem hkX); omega) hVr)
      generalize X[k] = p at hcell HD hp
      obtain ⟨o, ho⟩ : ∃ o, num p.data.toList 255 = o := ⟨_, rfl⟩
      rw [ho] at hp
      have HO := Lib.hid ho
      clear hxg hdrop hkX ho hVr
      cases o with
      | none =>
        go_wp2_with fail
        refine hp.out.mono ?_
        rintro e w3 ⟨rfl, hb3⟩
        unfold numV
        have HB3 := Lib.hid (HB.out.trans ((HBR.out.trans (hb3.mono HBR.out.size)).mono HB.out.size))
        clear hb3
        go_wp2_with fail
        go_ret2
        refine ⟨?_, HB3.out⟩
        rw [HPA.out, HD.out, List.map_cons, pa_none HO.out]
        rfl
      | some n =>
        have hn : n < 256 := by have := ((num_some (by omega)).1 HO.out).1; omega
        have hE := run_byte_or A n HA.out hn
        obtain ⟨B, hB⟩ : ∃ B, A * 256 % 4294967296 + n = B := ⟨_, rfl⟩
        have hB1 : B < 4294967296 := by omega
        have HBB := Lib.hid (And.intro hB hB1)
        rw [hB] at hE
        have hpa2 := HPA.out
        rw [HD.out, List.map_cons, pa_cons HO.out, hB] at hpa2
        have HP2 := Lib.hid hpa2
        clear hB hB1 hpa2
        go_wp2_with fail
        refine hp.out.mono ?_
        rintro e w3 ⟨rfl, hb3⟩
        unfold numV
        have HB3 := Lib.hid (HBR.out.trans (hb3.mono HBR.out.size))
        clear hb3
        go_wp2_with fail
        exact ⟨⟨k + 1, B, by omega, HBB.out.2, by go_num, rfl, HP2.out, HB3.out⟩, by simp [intOf]; omega⟩
    · obtain rfl : k = 4 := by omega
      have hend : X.drop 4 = [] := by rw [List.drop_eq_nil_iff, HX.out]; exact Nat.le_refl _
      have hpa := HPA.out
      rw [hend] at hpa
      have HP := Lib.hid hpa
      clear hend hpa hlt hk
      go_wp2_with fail
      go_ret2
      refine ⟨?_, HB.out.trans (HBR.out.mono HB.out.size)⟩
      rw [HP.out]
      rfl

theorem parseAddr_any (s : ByteArray) (w : World) (hs : s.size < 4294967281) (hV : Vars w) :
    Calls Tryz.prog 26 #[.string s] w (AddrPost w (pAddr s.data.toList)) := by
  unfold pAddr
  by_cases h : (pcs s).length = 4
  · rw [if_pos (by rw [← pcs_length]; exact h)]
    exact parseAddr_good s w hs hV h
  · rw [if_neg (by rw [← pcs_length]; exact h)]
    exact parseAddr_bad s w hs hV h
theorem pa_lt : ∀ (L : List (List UInt8)) (acc a : Nat), acc < 4294967296 → pa acc L = some a → a < 4294967296
  | [], acc, a, h, e => by simp only [pa] at e; injection e with e; omega
  | p :: L, acc, a, h, e => by
    cases hn : num p 255 with
    | none => rw [pa_none hn] at e; cases e
    | some n =>
      rw [pa_cons hn] at e
      have h1 := ((num_some (by omega)).1 hn).1
      exact pa_lt L _ a (by omega) e
theorem pAddr_lt {s : List UInt8} {a : Nat} (h : pAddr s = some a) : a < 4294967296 := by
  unfold pAddr at h
  split at h
  · exact pa_lt _ 0 a (by omega) h
  · cases h
end Go.Proofs.YtgpgoadalnojdaaGreatDoor
