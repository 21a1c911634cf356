/- Contracts of the reference of layer 5: Get. -/
import Derived.Test.YtamkegnnlbefdaaTrY
namespace Go.Proofs.Ytamkegnnlbefdaa
open Go.RowKit

def GtQ (w : World) (a : Nat) (l : Int) (rs : List Rt) (e : Ending) (W : World) : Prop := Below w.heap.size w W ∧
  ((∃ (i : Nat) (h : i < rs.length), HitB a l rs[i] ∧ (∀ j (hj : j < rs.length), j < i → ¬ HitB a l rs[j]) ∧ e = .returned (.tuple #[.int .i64 rs[i].2, .bool true])) ∨ ((∀ j (hj : j < rs.length), ¬ HitB a l rs[j]) ∧ e = .returned (.tuple #[.int .i64 0, .bool false])))
set_option maxRecDepth 100000 in
set_option maxHeartbeats 4000000 in
theorem refGet_any {w : World} {v : Value} {rs : List Rt} {a : Nat} {l : Int} (h : TL w v rs) (hn : rs.length < 4611686018427387900) :
    Calls Try.prog 20 #[v, pv a l] w (GtQ w a l rs) := by
  obtain ⟨w1, hw1, S⟩ : ∃ w1, w.alloc (.cells #[.int .u32 (a : Int), .int .i64 l] 35) = w1 ∧ Hid (Sr w [fun W => TL W v rs] [(w.heap.size, [.int .u32 (a : Int), .int .i64 l], 35)] w1) :=
    ⟨_, rfl, ((Sr.start w).push (stb_tl _ _) h).alloc [.int .u32 (a : Int), .int .i64 l] 35⟩
  have hF := Lib.hid (fun W (h : TL W v rs) => refFind_any (a := a) (l := l) h hn)
  obtain ⟨A, c, rfl, -⟩ := h
  obtain ⟨n, hnn⟩ : ∃ n, rs.length = n := ⟨_, rfl⟩
  have HN := Lib.hid hnn
  rw [hnn] at hn S hF ⊢
  clear hnn
  go_enter Try.func20, Try.ntmps20
  have c0x0 := (S.out.at 0 rfl).cell (i := 0) rfl
  have c0x1 := (S.out.at 0 rfl).cell (i := 1) rfl
  go_wp2_with fail
  refine (hF.out _ (S.out.fact 0 rfl)).mono ?_
  rintro e w2 ⟨hb, hc⟩
  replace S := Lib.hid (S.out.below hb)
  clear hb hF hw1 c0x0 c0x1
  rcases hc with ⟨i, hi, hh, hj, rfl⟩ | ⟨hj, rfl⟩
  · have hin : i < n := by rw [← HN.out]; exact hi
    have hi' : (i : Int) < (n : Int) := by omega
    have hz0 : (0 : Int) ≤ (i : Int) := by omega
    have hz1 : ¬ (i : Int) < 0 := by omega
    obtain ⟨A', c', e', hel⟩ := (S.out.fact 0 rfl : TL _ _ rs)
    injection e' with e1 _ e3
    subst e1 e3
    obtain ⟨g, rfl, hg, d0, d1, d2⟩ := hel i hi
    have HQ := Lib.hid (show GtQ w a l rs (.returned (.tuple #[.int .i64 rs[i].2, .bool true])) w2 from ⟨S.out.low, .inl ⟨i, hi, hh, hj, rfl⟩⟩)
    generalize rs[i].2 = y at d2 HQ
    clear hel hh hj hg d0 d1 hi
    go_wp2_with fail
    refine bodyPost_ret (v := .tuple #[.int .i64 y, .bool true]) (by simp [results, Try.results20, go_sem]) rfl ?_
    exact HQ.out
  · have HQ := Lib.hid (show GtQ w a l rs (.returned (.tuple #[.int .i64 0, .bool false])) w2 from ⟨S.out.low, .inr ⟨hj, rfl⟩⟩)
    clear hj
    go_wp2_with fail
    refine bodyPost_ret (v := .tuple #[.int .i64 0, .bool false]) (by simp [results, Try.results20, go_sem]) rfl ?_
    exact HQ.out
end Go.Proofs.Ytamkegnnlbefdaa
