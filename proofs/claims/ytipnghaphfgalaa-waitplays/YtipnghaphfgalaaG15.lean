/- What the search tells: a way along edges; or a set of numbers that is closed and lacks the end. A graph without a circle. No program is named here. -/
import Derived.Test.YtipnghaphfgalaaG13
namespace Go.Proofs.Ytipnghaphfgalaa.W
set_option linter.unusedVariables false

/-- A way from a along edges of E. -/
def Pth (E : List E1) (a : UInt64) (z : List UInt64) : Prop := z[0]? = some a ∧ ∀ k x y, z[k]? = some x → z[k + 1]? = some y → (x, y) ∈ E
theorem Pth.one (E : List E1) (a : UInt64) : Pth E a [a] := ⟨rfl, fun k x y h1 h2 => by cases k <;> simp at h2⟩
theorem Pth.ne {E : List E1} {a : UInt64} {z : List UInt64} (h : Pth E a z) : z ≠ [] := fun q => by rw [q] at h; simpa using h.1
theorem Pth.snoc {E : List E1} {a x y : UInt64} {z : List UInt64} (h : Pth E a z) (hl : z.getLast? = some x) (he : (x, y) ∈ E) : Pth E a (z ++ [y]) := by
  have hp := List.length_pos_iff.2 h.ne
  refine ⟨by rw [List.getElem?_append_left hp]; exact h.1, fun k p q h1 h2 => ?_⟩
  by_cases hk : k + 1 < z.length
  · rw [List.getElem?_append_left (by omega)] at h1
    rw [List.getElem?_append_left hk] at h2
    exact h.2 k p q h1 h2
  · have hl2 := (List.getElem?_eq_some_iff.1 h2).1
    simp only [List.length_append, List.length_singleton] at hl2
    have hk2 : k + 1 = z.length := by omega
    rw [List.getElem?_append_right (by omega), hk2] at h2
    simp at h2
    rw [List.getElem?_append_left (by omega)] at h1
    rw [List.getLast?_eq_getElem?, show z.length - 1 = k by omega, h1] at hl
    obtain rfl := Option.some.inj hl
    rw [← h2]; exact he
/-- What holds while the search goes on. -/
structure Bi (E : List E1) (a b : UInt64) (q : List (List UInt64)) (s : List UInt64) : Prop where
  pth : ∀ z ∈ q, Pth E a z
  ain : a ∈ s
  ex : ∀ u ∈ s, (∃ z ∈ q, z.getLast? = some u) ∨ (u ≠ b ∧ ∀ y, (u, y) ∈ E → y ∈ s)
theorem exps_mem (w : List UInt64) : ∀ (l : List UInt64) (q : List (List UInt64)) (s : List UInt64),
    (∀ z ∈ (exps w l q s).1, z ∈ q ∨ ∃ y ∈ l, z = w ++ [y]) ∧ (∀ z ∈ q, z ∈ (exps w l q s).1) ∧ (∀ u ∈ s, u ∈ (exps w l q s).2) ∧ (∀ y ∈ l, y ∈ (exps w l q s).2) ∧ (∀ u ∈ (exps w l q s).2, u ∈ s ∨ w ++ [u] ∈ (exps w l q s).1)
  | [], q, s => ⟨fun z h => .inl h, fun z h => h, fun u h => h, (fun y h => by cases h), fun u h => .inl h⟩
  | y :: r, q, s => by
    unfold exps
    split
    · rename_i hs
      obtain ⟨h1, h2, h3, h4, h5⟩ := exps_mem w r q s
      refine ⟨fun z h => ?_, h2, h3, fun x hx => ?_, h5⟩
      · rcases h1 z h with p | ⟨x, p1, p2⟩
        · exact .inl p
        · exact .inr ⟨x, List.mem_cons_of_mem _ p1, p2⟩
      · rcases List.mem_cons.1 hx with p | p
        · rw [p]; exact h3 _ hs
        · exact h4 x p
    · obtain ⟨h1, h2, h3, h4, h5⟩ := exps_mem w r (q ++ [w ++ [y]]) (s ++ [y])
      refine ⟨fun z h => ?_, fun z h => h2 z (List.mem_append_left _ h), fun u h => h3 u (List.mem_append_left _ h), fun x hx => ?_, fun u h => ?_⟩
      · rcases h1 z h with p | ⟨x, p1, p2⟩
        · rcases List.mem_append.1 p with p | p
          · exact .inl p
          · exact .inr ⟨y, List.mem_cons_self, List.mem_singleton.1 p⟩
        · exact .inr ⟨x, List.mem_cons_of_mem _ p1, p2⟩
      · rcases List.mem_cons.1 hx with p | p
        · rw [p]; exact h3 _ (by simp)
        · exact h4 x p
      · rcases h5 u h with p | p
        · rcases List.mem_append.1 p with p | p
          · exact .inl p
          · rw [List.mem_singleton.1 p]; exact .inr (h2 _ (by simp))
        · exact .inr p
theorem Bi.step {E : List E1} {a b x : UInt64} {w : List UInt64} {q : List (List UInt64)} {s : List UInt64} (h : Bi E a b (w :: q) s) (hx : w.getLast? = some x) (hb : x ≠ b) : Bi E a b (exps w (outs E x) q s).1 (exps w (outs E x) q s).2 := by
  obtain ⟨h1, h2, h3, h4, h5⟩ := exps_mem w (outs E x) q s
  refine ⟨fun z hz => ?_, h3 _ h.ain, fun u hu => ?_⟩
  · rcases h1 z hz with p | ⟨y, p1, p2⟩
    · exact h.pth z (List.mem_cons_of_mem _ p)
    · rw [p2]; exact (h.pth w List.mem_cons_self).snoc hx (mem_outs.1 p1)
  · rcases h5 u hu with p | p
    · rcases h.ex u p with ⟨z, z1, z2⟩ | ⟨z1, z2⟩
      · rcases List.mem_cons.1 z1 with r | r
        · rw [r, hx] at z2
          obtain rfl := Option.some.inj z2
          exact .inr ⟨hb, fun y hy => h4 y (mem_outs.2 hy)⟩
        · exact .inl ⟨z, h2 z r, z2⟩
      · exact .inr ⟨z1, fun y hy => h3 y (z2 y hy)⟩
    · exact .inl ⟨_, p, by simp⟩
theorem Bi.start (E : List E1) (a b : UInt64) : Bi E a b [[a]] [a] := ⟨fun z hz => by rw [List.mem_singleton.1 hz]; exact Pth.one E a, by simp, fun u hu => by rw [List.mem_singleton.1 hu]; exact .inl ⟨[a], by simp, rfl⟩⟩
theorem Bfs.tells {E : List E1} {a b : UInt64} {q : List (List UInt64)} {s : List UInt64} {r : Option (List UInt64)} (h : Bfs E b q s r) (hi : Bi E a b q s) : (∀ z, r = some z → Pth E a z ∧ z.getLast? = some b) ∧ (r = Option.none → ∃ s' : List UInt64, a ∈ s' ∧ b ∉ s' ∧ ∀ u y, u ∈ s' → (u, y) ∈ E → y ∈ s') := by
  induction h with
  | none s =>
    refine ⟨fun z e => (by cases e), fun _ => ⟨s, hi.ain, fun hb => ?_, fun u y hu hy => ?_⟩⟩
    · rcases hi.ex b hb with ⟨z, z1, _⟩ | ⟨z1, _⟩
      · cases z1
      · exact z1 rfl
    · rcases hi.ex u hu with ⟨z, z1, _⟩ | ⟨_, z2⟩
      · cases z1
      · exact z2 y hy
  | here w q s hw => exact ⟨fun z e => by obtain rfl := Option.some.inj e; exact ⟨hi.pth w List.mem_cons_self, hw⟩, fun e => by cases e⟩
  | on w q s x r h1 h2 h3 ih => exact ih (hi.step h1 h2)
/-- No circle: some numbers fall along each edge. -/
def Acy (E : List E1) : Prop := ∃ rk : UInt64 → Nat, ∀ x y, (x, y) ∈ E → rk y < rk x
theorem Acy.sub {E E' : List E1} (h : Acy E) (hs : ∀ e ∈ E', e ∈ E) : Acy E' := by
  obtain ⟨rk, h⟩ := h
  exact ⟨rk, fun x y he => h x y (hs _ he)⟩
theorem Acy.ins {E : List E1} {a b : UInt64} (h : Acy E) {s : List UInt64} (hb : b ∈ s) (ha : a ∉ s) (hc : ∀ u y, u ∈ s → (u, y) ∈ E → y ∈ s) : Acy (ins E (a, b)) := by
  obtain ⟨rk, h⟩ := h
  refine ⟨fun x => if x ∈ s then rk x else rk x + (rk b + 1), fun x y he => ?_⟩
  show (if y ∈ s then rk y else rk y + (rk b + 1)) < (if x ∈ s then rk x else rk x + (rk b + 1))
  rcases mem_ins.1 he with q | q
  · obtain ⟨rfl, rfl⟩ := Prod.mk.inj q
    rw [if_pos hb, if_neg ha]; omega
  · have := h x y q
    by_cases hx : x ∈ s
    · rw [if_pos hx, if_pos (hc x y hx q)]; exact this
    · rw [if_neg hx]
      split <;> omega
/-- The edges on whose end another one of them begins. -/
def goes (E : List E1) (e : E1) : Bool := E.any (fun f => f.1 == e.2)
theorem Acy.less {E : List E1} (h : Acy E) (hn : E ≠ []) : (E.filter (goes E)).length < E.length := by
  obtain ⟨rk, h⟩ := h
  have hmin : ∃ e ∈ E, ∀ f ∈ E, rk e.2 ≤ rk f.2 := by
    clear h
    induction E with
    | nil => exact absurd rfl hn
    | cons e r ih =>
      by_cases hr : r = []
      · subst hr
        exact ⟨e, by simp, fun f hf => by rw [List.mem_singleton.1 hf]; exact Nat.le_refl _⟩
      · obtain ⟨m, h1, h2⟩ := ih hr
        by_cases hle : rk e.2 ≤ rk m.2
        · refine ⟨e, List.mem_cons_self, fun f hf => ?_⟩
          rcases List.mem_cons.1 hf with q | q
          · rw [q]; exact Nat.le_refl _
          · exact Nat.le_trans hle (h2 f q)
        · refine ⟨m, List.mem_cons_of_mem _ h1, fun f hf => ?_⟩
          rcases List.mem_cons.1 hf with q | q
          · rw [q]; omega
          · exact h2 f q
  obtain ⟨e, he, hm⟩ := hmin
  have hg : goes E e = false := by
    unfold goes
    rw [List.any_eq_false]
    intro f hf q
    have q : f.1 = e.2 := by simpa using q
    have h1 := h f.1 f.2 hf
    have h2 := hm f hf
    rw [q] at h1
    omega
  refine Nat.lt_of_le_of_ne (List.length_filter_le _ _) (fun q => ?_)
  have := List.filter_eq_self.1 (List.filter_sublist.eq_of_length q) e he
  rw [hg] at this
  cases this
end Go.Proofs.Ytipnghaphfgalaa.W
