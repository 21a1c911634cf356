/- The reference's tables as sorted lists: insertion, removal, the longest match, and the number of nodes. -/
import Derived.Test.YtamkegnnlbefdaaTrP
namespace Go.Proofs.Ytamkegnnlbefdaa

instance (p q : Px) : Decidable (Lt p q) := inferInstanceAs (Decidable (_ ∨ _))
/-- The reference's insertion; d: it is done. -/
def insR (r : Rt) : Bool → List Rt → List Rt
  | d, [] => if d then [] else [r]
  | d, x :: L => if x.1 = r.1 then insR r d L else if d = false ∧ Lt r.1 x.1 then r :: x :: insR r true L else x :: insR r d L
theorem insR_mem (r : Rt) : ∀ (L : List Rt) (d : Bool) (x : Rt), x ∈ insR r d L ↔ (d = false ∧ x = r) ∨ (x ∈ L ∧ x.1 ≠ r.1)
  | [], d, x => by cases d <;> simp [insR]
  | y :: L, d, x => by
    unfold insR
    split
    · rename_i h
      rw [insR_mem r L d x, List.mem_cons]
      constructor
      · rintro (h1 | ⟨h1, h2⟩)
        · exact .inl h1
        · exact .inr ⟨.inr h1, h2⟩
      · rintro (h1 | ⟨h1 | h1, h2⟩)
        · exact .inl h1
        · exact absurd (h1 ▸ h) h2
        · exact .inr ⟨h1, h2⟩
    · rename_i h
      split
      · rename_i h3
        rw [List.mem_cons, List.mem_cons, insR_mem r L true x, List.mem_cons]
        constructor
        · rintro (h1 | h1 | h1 | ⟨h1, h2⟩)
          · exact .inl ⟨h3.1, h1⟩
          · exact .inr ⟨.inl h1, by rw [h1]; exact h⟩
          · cases h1.1
          · exact .inr ⟨.inr h1, h2⟩
        · rintro (h1 | ⟨h1 | h1, h2⟩)
          · exact .inl h1.2
          · exact .inr (.inl h1)
          · exact .inr (.inr (.inr ⟨h1, h2⟩))
      · rw [List.mem_cons, insR_mem r L d x, List.mem_cons]
        constructor
        · rintro (h1 | h1 | ⟨h1, h2⟩)
          · exact .inr ⟨.inl h1, by rw [h1]; exact h⟩
          · exact .inl h1
          · exact .inr ⟨.inr h1, h2⟩
        · rintro (h1 | ⟨h1 | h1, h2⟩)
          · exact .inr (.inl h1)
          · exact .inl h1
          · exact .inr (.inr ⟨h1, h2⟩)
theorem insR_sorted (r : Rt) : ∀ (L : List Rt) (d : Bool), Srt L → Srt (insR r d L)
  | [], d, _ => by cases d <;> simp [insR, Srt]
  | y :: L, d, hL => by
    obtain ⟨h1, h2⟩ := List.pairwise_cons.1 hL
    unfold insR
    split
    · exact insR_sorted r L d h2
    · rename_i hne
      split
      · rename_i h3
        refine List.pairwise_cons.2 ⟨fun x hx => ?_, List.pairwise_cons.2 ⟨fun x hx => ?_, insR_sorted r L true h2⟩⟩
        · rcases List.mem_cons.1 hx with rfl | hx
          · exact h3.2
          · rcases (insR_mem r L true x).1 hx with ⟨h, _⟩ | ⟨h, _⟩
            · cases h
            · exact Lt.trans h3.2 (h1 x h)
        · rcases (insR_mem r L true x).1 hx with ⟨h, _⟩ | ⟨h, _⟩
          · cases h
          · exact h1 x h
      · rename_i h3
        refine List.pairwise_cons.2 ⟨fun x hx => ?_, insR_sorted r L d h2⟩
        rcases (insR_mem r L d x).1 hx with ⟨h, rfl⟩ | ⟨h, _⟩
        · rcases Lt.tri y.1 x.1 with h4 | h4 | h4
          · exact h4
          · exact absurd h4 hne
          · exact absurd ⟨h, h4⟩ h3
        · exact h1 x h
theorem put_routes {c : Px → Px → Px} (hc : Com c) {p : Px} {v : Int} (hp : Vld p) {t : Tr} (hw : WF t) : routes (put c p v t) = insR (p, v) false (routes t) := by
  refine srt_ext (routes_sorted (put_wf hc hp hw)) (insR_sorted _ _ _ (routes_sorted hw)) fun x => ?_
  rw [put_mem hc hp hw, insR_mem]
  simp
theorem erase_mem {L : List Rt} (hL : Srt L) {i : Nat} (hi : i < L.length) (x : Rt) : x ∈ L.eraseIdx i ↔ x ∈ L ∧ x.1 ≠ L[i].1 := by
  rw [List.mem_eraseIdx_iff_getElem]
  have hp := List.pairwise_iff_getElem.1 hL
  constructor
  · rintro ⟨j, hj, hne, rfl⟩
    refine ⟨List.getElem_mem hj, fun e => ?_⟩
    rcases Nat.lt_or_gt_of_ne hne with h | h
    · have := hp j i hj hi h; rw [e] at this; exact Lt.irrefl this
    · have := hp i j hi hj h; rw [e] at this; exact Lt.irrefl this
  · rintro ⟨h, hne⟩
    obtain ⟨j, hj, rfl⟩ := List.getElem_of_mem h
    exact ⟨j, hj, fun e => hne (by subst e; rfl), rfl⟩
theorem del_routes {p : Px} (hp : Vld p) {t : Tr} (hw : WF t) {i : Nat} (hi : i < (routes t).length) (he : (routes t)[i].1 = p) : routes (del p t) = (routes t).eraseIdx i := by
  refine srt_ext (routes_sorted (del_wf hw).1) ((routes_sorted hw).sublist (List.eraseIdx_sublist ..)) fun x => ?_
  rw [del_mem hp hw, erase_mem (routes_sorted hw) hi, he]

/-- The longest prefix that covers two others. -/
structure IsMeet (p q m : Px) : Prop where
  vld : Vld m
  left : Cov m p
  right : Cov m q
  most : ∀ c, Vld c → Cov c p → Cov c q → c.2 ≤ m.2
theorem meet_uniq {p q m m' : Px} (h : IsMeet p q m) (h' : IsMeet p q m') : m = m' := by
  have e : m.2 = m'.2 := Nat.le_antisymm (h'.most m h.vld h.left h.right) (h.most m' h'.vld h'.left h'.right)
  exact cov_anti (cov_comp h.vld h'.vld h.left h'.left (Nat.le_of_eq e)) (cov_comp h'.vld h.vld h'.left h.left (Nat.le_of_eq e.symm))
def par (p : Px) : Px := (fst p.1 (p.2 - 1), p.2 - 1)
theorem par_facts {p : Px} (hp : Vld p) : Vld (par p) ∧ Cov (par p) p := by
  have hlt := vld_lt hp
  have h1 := fst_mod p.1 (p.2 - 1)
  have hle := fst_le p.1 (p.2 - 1)
  refine ⟨(vld_iff (by omega)).2 ⟨by have := hp.1; omega, fst_eq.2 h1⟩, by show p.2 - 1 ≤ p.2; omega, ?_⟩
  exact (has_fst (p := par p) h1 p.1).1 rfl
def meetP : Nat → Px → Px → Px
  | 0, p, _ => p
  | k + 1, p, q => if Cov p q then p else meetP k (par p) q
theorem root_cov {p q : Px} (hp : Vld p) (hq : Vld q) (h : p.2 = 0) : Cov p q := by
  obtain ⟨a, l⟩ := p
  simp only at h
  subst h
  have h3 := hp.2.2
  have hz : sz 0 = 4294967296 := by decide
  have := vld_lt hq
  simp only at h3
  exact ⟨Nat.zero_le _, by simp only; omega, by simp only; omega⟩
theorem meetP_is : ∀ (k : Nat) {p q : Px}, Vld p → Vld q → p.2 = k → IsMeet p q (meetP k p q)
  | 0, p, q, hp, hq, hk => ⟨hp, Cov.refl, root_cov hp hq hk, fun c _ h _ => h.1⟩
  | k + 1, p, q, hp, hq, hk => by
    unfold meetP
    split
    · rename_i h
      exact ⟨hp, Cov.refl, h, fun c _ h _ => h.1⟩
    · rename_i h
      obtain ⟨v, c⟩ := par_facts hp
      have ih := meetP_is k (p := par p) v hq (by show p.2 - 1 = k; omega)
      refine ⟨ih.vld, Cov.trans ih.vld v ih.left c, ih.right, fun d hd h1 h2 => ih.most d hd ?_ h2⟩
      refine cov_comp hd v h1 c ?_
      show d.2 ≤ p.2 - 1
      have := h1.1
      rcases Nat.lt_or_ge d.2 p.2 with h3 | h3
      · omega
      · exfalso
        have e : d.2 = p.2 := Nat.le_antisymm this h3
        have := cov_in hd hp h1
        rw [e] at this
        have : d = p := Prod.ext (by omega) e
        exact h (this ▸ h2)
def meet (p q : Px) : Px := meetP p.2 p q
theorem meet_is {p q : Px} (hp : Vld p) (hq : Vld q) : IsMeet p q (meet p q) := meetP_is _ hp hq rfl
theorem meet_cov {p q : Px} (hp : Vld p) (hq : Vld q) (h : Cov p q) : meet p q = p := meet_uniq (meet_is hp hq) ⟨hp, Cov.refl, h, fun _ _ h _ => h.1⟩
theorem meet_half {p x y : Px} (hp : Vld p) (hn : p.2 < 32) (hx : Vld x) (hy : Vld y) (h1 : Cov (half p false) x) (h2 : Cov (half p true) y) : meet x y = p := by
  have c1 := Cov.trans hp (vld_half hp hn _) (cov_half hn _) h1
  have c2 := Cov.trans hp (vld_half hp hn _) (cov_half hn _) h2
  refine meet_uniq (meet_is hx hy) ⟨hp, c1, c2, fun c hc d1 d2 => ?_⟩
  rcases Nat.lt_or_ge p.2 c.2 with hlt | hge
  · exfalso
    have hpc := cov_comp hp hc c1 d1 (Nat.le_of_lt hlt)
    obtain ⟨_, hh⟩ := cov_dir hp hc hpc (fun e => by rw [e] at hlt; omega)
    have hv := vld_half hp hn (dir c.1 p.2)
    have e1 := dir_of_half hp hn hx (Cov.trans hv hc hh d1)
    have e2 := dir_of_half hp hn hy (Cov.trans hv hc hh d2)
    rw [dir_of_half hp hn hx h1] at e1
    rw [dir_of_half hp hn hy h2, ← e1] at e2
    cases e2
  · exact hge
/-- Two that stand side by side. -/
def Adj (L : List Rt) (y x : Rt) : Prop := ∃ A B, L = A ++ y :: x :: B
theorem adj_append {L M : List Rt} {y x : Rt} : Adj (L ++ M) y x ↔ Adj L y x ∨ Adj M y x ∨ (∃ A B, L = A ++ [y] ∧ M = x :: B) := by
  constructor
  · rintro ⟨A, B, h⟩
    rcases List.append_eq_append_iff.1 h with ⟨a, h1, h2⟩ | ⟨a, h1, h2⟩
    · exact .inr (.inl ⟨a, B, h2⟩)
    · match a, h1, h2 with
      | [], h1, h2 => exact .inr (.inl ⟨[], B, by simpa using h2.symm⟩)
      | [z], h1, h2 =>
        simp only [List.cons_append, List.nil_append, List.cons.injEq] at h2
        obtain ⟨rfl, h2⟩ := h2
        exact .inr (.inr ⟨A, B, h1, h2.symm⟩)
      | z :: w :: a, h1, h2 =>
        simp only [List.cons_append, List.cons.injEq] at h2
        obtain ⟨rfl, rfl, h2⟩ := h2
        exact .inl ⟨A, a, h1⟩
  · rintro (⟨A, B, rfl⟩ | ⟨A, B, rfl⟩ | ⟨A, B, rfl, rfl⟩)
    · exact ⟨A, B ++ M, by simp⟩
    · exact ⟨L ++ A, B, by simp⟩
    · exact ⟨A, B, by simp⟩
theorem adj_one {a y x : Rt} : ¬ Adj [a] y x := by
  rintro ⟨A, B, h⟩
  have := congrArg List.length h
  simp at this
  omega
theorem adj_none {y x : Rt} : ¬ Adj [] y x := by
  rintro ⟨A, B, h⟩
  have := congrArg List.length h
  simp at this
theorem routes_some {t : Tr} (hw : WF t) (hn : t.isNil = false) : routes t ≠ [] := fun e => by
  have := (cnt_bounds hw).2.1 hn
  rw [e] at this
  simp at this
theorem prefs_meet {t : Tr} : WF t → ∀ m, m ∈ prefs t ↔ (∃ x ∈ routes t, m = x.1) ∨ ∃ y x, Adj (routes t) y x ∧ m = meet y.1 x.1 := by
  induction t with
  | nil => intro _ m; simp [prefs, routes, adj_none]
  | node p v h l r ihl ihr =>
    intro hw m
    have hw0 := hw
    obtain ⟨hp, kl, kr, hh, wl, wr⟩ := hw
    have il := ihl wl m
    have ir := ihr wr m
    have bnd : ∀ A y x B, routes l = A ++ [y] → routes r = x :: B → meet y.1 x.1 = p := by
      intro A y x B h1 h2
      obtain ⟨hn, vy, cy, _⟩ := route_kid hp wl kl (x := y) (by rw [h1]; simp)
      obtain ⟨_, vx, cx, _⟩ := route_kid hp wr kr (x := x) (by rw [h2]; simp)
      exact meet_half hp hn vy vx cy cx
    constructor
    · intro hm
      simp only [prefs, List.mem_cons, List.mem_append] at hm
      rcases hm with rfl | hm | hm
      · cases h with
        | true => exact .inl ⟨(m, v), by simp [routes], rfl⟩
        | false =>
          obtain ⟨_, n1, n2⟩ := hh rfl
          obtain ⟨A, y, ey⟩ : ∃ A y, routes l = A ++ [y] := by
            rcases List.eq_nil_or_concat (routes l) with e | ⟨A, y, e⟩
            · exact absurd e (routes_some wl n1)
            · exact ⟨A, y, by simpa using e⟩
          obtain ⟨x, B, ex⟩ : ∃ x B, routes r = x :: B := List.exists_cons_of_ne_nil (routes_some wr n2)
          exact .inr ⟨y, x, by simp only [routes]; exact adj_append.2 (.inr (.inl (adj_append.2 (.inr (.inr ⟨A, B, ey, ex⟩))))), (bnd A y x B ey ex).symm⟩
      · rcases il.1 hm with ⟨x, hx, e⟩ | ⟨y, x, ha, e⟩
        · exact .inl ⟨x, (mem_node x).2 (.inr (.inl hx)), e⟩
        · exact .inr ⟨y, x, by simp only [routes]; exact adj_append.2 (.inr (.inl (adj_append.2 (.inl ha)))), e⟩
      · rcases ir.1 hm with ⟨x, hx, e⟩ | ⟨y, x, ha, e⟩
        · exact .inl ⟨x, (mem_node x).2 (.inr (.inr hx)), e⟩
        · exact .inr ⟨y, x, by simp only [routes]; exact adj_append.2 (.inr (.inl (adj_append.2 (.inr (.inl ha))))), e⟩
    · rintro (⟨x, hx, rfl⟩ | ⟨y, x, ha, rfl⟩)
      · exact routes_prefs x hx
      · simp only [prefs, List.mem_cons, List.mem_append]
        simp only [routes] at ha
        rcases adj_append.1 ha with ha | ha | ⟨A, B, h1, h2⟩
        · cases h
          · exact absurd ha adj_none
          · exact absurd ha adj_one
        · rcases adj_append.1 ha with ha | ha | ⟨A, B, h1, h2⟩
          · exact .inr (.inl (il.2 (.inr ⟨y, x, ha, rfl⟩)))
          · exact .inr (.inr (ir.2 (.inr ⟨y, x, ha, rfl⟩)))
          · exact .inl (bnd A y x B h1 h2)
        · left
          cases h with
          | false => simp at h1
          | true =>
            have hy : y = (p, v) := by
              have := congrArg List.getLast? h1
              simpa using this.symm
            have hx : x ∈ routes l ∨ x ∈ routes r := List.mem_append.1 (by rw [h2]; simp)
            rw [hy]
            rcases hx with hx | hx
            · obtain ⟨_, vx, _, cx, _⟩ := route_kid hp wl kl hx
              exact meet_cov hp vx cx
            · obtain ⟨_, vx, _, cx, _⟩ := route_kid hp wr kr hx
              exact meet_cov hp vx cx
end Go.Proofs.Ytamkegnnlbefdaa
