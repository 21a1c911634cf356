/- Values that stand for numbers, in one world: nat's Add and Mul over them. -/
import Derived.Test.YtapblmbjbpkieaaDoorSums
import Derived.Test.YtapblmbjbpkieaaDoorMulB
import Derived.Test.YtapblmbjbpkieaaDoorAwake
namespace Go.Proofs.YtapblmbjbpkieaaDoor
open Go.RowKit

/-- Values that stand for numbers below a power of the base. -/
def Env (W : World) (L : List (Value × Nat × Nat)) : Prop := Tab W ∧ ∀ p ∈ L, IsNat W p.1 p.2.1 ∧ p.2.1 < 4294967296 ^ p.2.2
theorem Env.below {W W' : World} {L : List (Value × Nat × Nat)} (h : Env W L) (hb : Below W.heap.size W W') : Env W' L := ⟨h.1.below hb, fun p hp => ⟨(h.2 p hp).1.below hb, (h.2 p hp).2⟩⟩
theorem Env.drew {W : World} {L : List (Value × Nat × Nat)} (h : Env W L) : Env W.drew L := ⟨h.1, h.2⟩
theorem Env.push {W : World} {L : List (Value × Nat × Nat)} (h : Env W L) {v : Value} {k a : Nat} (hv : IsNat W v k) (hk : k < 4294967296 ^ a) : Env W ((v, k, a) :: L) :=
  ⟨h.1, fun p hp => by rcases List.mem_cons.1 hp with rfl | hp
                       · exact ⟨hv, hk⟩
                       · exact h.2 p hp⟩
theorem Env.far {W : World} {L : List (Value × Nat × Nat)} (h : Env W L) {p : Addr} {u : Value} (hT : Tab (W.setCell p u)) (hp : IsRow W 26 p.block) : Env (W.setCell p u) L :=
  ⟨hT, fun q hq => ⟨(h.2 q hq).1.far hp (by decide) u, (h.2 q hq).2⟩⟩
theorem Env.cut {W : World} {L : List (Value × Nat × Nat)} {a b : Value × Nat × Nat} (h : Env W (a :: b :: L)) : Env W (a :: L) :=
  ⟨h.1, fun q hq => h.2 q (by rcases List.mem_cons.1 hq with rfl | hq
                              · exact .head _
                              · exact .tail _ (.tail _ hq))⟩
def OpE (W : World) (L : List (Value × Nat × Nat)) (k a : Nat) (e : Ending) (w' : World) : Prop := ∃ A n c, e = .returned (.agg #[.slice A n c]) ∧ Env w' ((.agg #[.slice A n c], k, a) :: L) ∧ Below W.heap.size W w'
theorem pow_sum {k j a b : Nat} (hk : k < 4294967296 ^ a) (hj : j < 4294967296 ^ b) : k + j < 4294967296 ^ (a + b + 1) := by
  have h1 : (4294967296 : Nat) ^ a ≤ 4294967296 ^ (a + b) := Nat.pow_le_pow_right (by omega) (by omega)
  have h2 : (4294967296 : Nat) ^ b ≤ 4294967296 ^ (a + b) := Nat.pow_le_pow_right (by omega) (by omega)
  rw [Nat.pow_succ]
  generalize (4294967296 : Nat) ^ (a + b) = p at *
  omega
theorem addE {W : World} {L : List (Value × Nat × Nat)} {u v : Value} {k j a b : Nat} (E : Env W L) (hu : (u, k, a) ∈ L) (hv : (v, j, b) ∈ L) (ha : a ≤ 400) (hb : b ≤ 400) : Calls Tryd.prog 22 #[u, v] W (OpE W L (k + j) (a + b + 1)) := by
  obtain ⟨h1, h2⟩ := E.2 _ hu
  obtain ⟨h3, h4⟩ := E.2 _ hv
  simp only at h1 h2 h3 h4
  have l1 := digs_len (b := 4294967296) (by omega) h2
  have l2 := digs_len (b := 4294967296) (by omega) h4
  refine (natAdd_any (by omega) (by omega) h1 h3).mono ?_
  rintro e w' ⟨r, rfl, hr, hb⟩
  obtain ⟨A, n, c, -, rfl⟩ := isNat_digs hr
  exact ⟨A, n, c, rfl, (E.below hb).push hr (pow_sum h2 h4), hb⟩
theorem mulE {W : World} {L : List (Value × Nat × Nat)} {u v : Value} {k j a b : Nat} (E : Env W L) (hu : (u, k, a) ∈ L) (hv : (v, j, b) ∈ L) (ha : a ≤ 400) (hb : b ≤ 400) : Calls Tryd.prog 25 #[u, v] W (OpE W L (k * j) (a + b)) := by
  obtain ⟨h1, h2⟩ := E.2 _ hu
  obtain ⟨h3, h4⟩ := E.2 _ hv
  simp only at h1 h2 h3 h4
  have l1 := digs_len (b := 4294967296) (by omega) h2
  have l2 := digs_len (b := 4294967296) (by omega) h4
  refine (natMul_any (by omega) (by omega) h1 h3).mono ?_
  rintro e w' ⟨r, rfl, hr, hb⟩
  obtain ⟨A, n, c, -, rfl⟩ := isNat_digs hr
  exact ⟨A, n, c, rfl, (E.below hb).push hr (by rw [Nat.pow_add]; exact Nat.mul_lt_mul'' h2 h4), hb⟩
end Go.Proofs.YtapblmbjbpkieaaDoor
