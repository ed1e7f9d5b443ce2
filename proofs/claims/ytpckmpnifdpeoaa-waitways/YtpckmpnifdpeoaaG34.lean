/- The search tells a shortest way, and one of at most as many numbers as there are. -/
import Derived.Test.YtpckmpnifdpeoaaG33
import Derived.Test.YtpckmpnifdpeoaaG17
namespace Go.Proofs.Ytpckmpnifdpeoaa
open W
set_option linter.unusedVariables false
set_option maxRecDepth 100000

/-- From a to v in k edges. -/
def Wk (E : List E1) (a : UInt64) : Nat → UInt64 → Prop
  | 0, v => v = a
  | k + 1, v => ∃ u, Wk E a k u ∧ (u, v) ∈ E
theorem wk_pth {E : List E1} {a : UInt64} {z : List UInt64} (h : Pth E a z) : ∀ k x, z[k]? = some x → Wk E a k x
  | 0, x, hx => by rw [h.1] at hx; exact (Option.some.inj hx).symm
  | k + 1, x, hx => by
    have hl := (List.getElem?_eq_some_iff.1 hx).1
    obtain ⟨y, hy⟩ : ∃ y, z[k]? = some y := ⟨_, List.getElem?_eq_getElem (by omega)⟩
    exact ⟨y, wk_pth h k y hy, h.2 k y x hy hx⟩
theorem wk_closed {E : List E1} {a : UInt64} {s : List UInt64} (ha : a ∈ s) (hc : ∀ u y, u ∈ s → (u, y) ∈ E → y ∈ s) : ∀ k v, Wk E a k v → v ∈ s
  | 0, v, h => by rw [h]; exact ha
  | k + 1, v, ⟨u, h1, h2⟩ => hc u v (wk_closed ha hc k u h1) h2
theorem exps_more (w : List UInt64) : ∀ (l : List UInt64) (q : List (List UInt64)) (s : List UInt64), w.length ≤ s.length → (∀ z ∈ q, z.length ≤ s.length) → s.Nodup → (∀ z ∈ (exps w l q s).1, z.length ≤ (exps w l q s).2.length) ∧ (exps w l q s).2.Nodup ∧ (∀ u ∈ (exps w l q s).2, u ∈ s ∨ u ∈ l) ∧ (∀ z ∈ (exps w l q s).1, z ∈ q ∨ ∃ y, y ∉ s ∧ y ∈ l ∧ z = w ++ [y])
  | [], q, s, hw, hq, hs => ⟨hq, hs, fun u h => .inl h, fun z h => .inl h⟩
  | y :: r, q, s, hw, hq, hs => by
    unfold exps
    split
    · obtain ⟨h1, h2, h3, h4⟩ := exps_more w r q s hw hq hs
      refine ⟨h1, h2, fun u h => ?_, fun z h => ?_⟩
      · rcases h3 u h with p | p
        · exact .inl p
        · exact .inr (List.mem_cons_of_mem _ p)
      · rcases h4 z h with p | ⟨x, p1, p2, p3⟩
        · exact .inl p
        · exact .inr ⟨x, p1, List.mem_cons_of_mem _ p2, p3⟩
    · rename_i hy
      obtain ⟨h1, h2, h3, h4⟩ := exps_more w r (q ++ [w ++ [y]]) (s ++ [y]) (by simp; omega) (fun z hz => by
        rcases List.mem_append.1 hz with p | p
        · have := hq z p; simp; omega
        · rw [List.mem_singleton.1 p]; simp; omega) (by
        rw [List.nodup_append]
        exact ⟨hs, by simp, fun x hx z hz e => hy (by rw [← List.mem_singleton.1 hz, ← e]; exact hx)⟩)
      refine ⟨h1, h2, fun u h => ?_, fun z h => ?_⟩
      · rcases h3 u h with p | p
        · rcases List.mem_append.1 p with p | p
          · exact .inl p
          · rw [List.mem_singleton.1 p]; exact .inr List.mem_cons_self
        · exact .inr (List.mem_cons_of_mem _ p)
      · rcases h4 z h with p | ⟨x, p1, p2, p3⟩
        · rcases List.mem_append.1 p with p | p
          · exact .inl p
          · exact .inr ⟨y, hy, List.mem_cons_self, List.mem_singleton.1 p⟩
        · exact .inr ⟨x, fun e => p1 (List.mem_append_left _ e), List.mem_cons_of_mem _ p2, p3⟩
/-- What holds besides, while the search goes on. -/
structure Bj (E : List E1) (a b : UInt64) (q : List (List UInt64)) (s : List UInt64) : Prop where
  bi : Bi E a b q s
  qi : QI q
  lz : ∀ z ∈ q, z.length ≤ s.length
  nd : s.Nodup
  fr : ∀ u ∈ s, u = a ∨ ∃ x, (x, u) ∈ E
  mn : ∀ z ∈ q, ∀ x k, z.getLast? = some x → Wk E a k x → z.length ≤ k + 1
  lv : ∀ w q0, q = w :: q0 → ∀ k u, k + 1 ≤ w.length → Wk E a k u → u ∈ s
theorem qi_ge {w : List UInt64} {q : List (List UInt64)} (h : QI (w :: q)) : ∀ z ∈ w :: q, w.length ≤ z.length := fun z hz => by
  rcases List.mem_cons.1 hz with e | e
  · rw [e]; exact Nat.le_refl _
  · have := (List.pairwise_cons.1 h.1).1 z e
    unfold wlt at this
    rw [decide_eq_true_iff] at this
    omega
theorem Bj.step {E : List E1} (hr : Ris E) {a b x : UInt64} {w : List UInt64} {q : List (List UInt64)} {s : List UInt64} (h : Bj E a b (w :: q) s) (hx : w.getLast? = some x) (hb : x ≠ b) : Bj E a b (exps w (outs E x) q s).1 (exps w (outs E x) q s).2 := by
  have hbi := h.bi.step hx hb
  have hqi := h.qi.exps (outs_rise hr x) s
  obtain ⟨e1, e2, e3, e4⟩ := exps_more w (outs E x) q s (h.lz w List.mem_cons_self) (fun z hz => h.lz z (List.mem_cons_of_mem _ hz)) h.nd
  have em := exps_mem w (outs E x) q s
  have hmn : ∀ z ∈ (exps w (outs E x) q s).1, ∀ x' k, z.getLast? = some x' → Wk E a k x' → z.length ≤ k + 1 := fun z hz x' k h1 h2 => by
    rcases e4 z hz with p | ⟨y, p1, p2, p3⟩
    · exact h.mn z (List.mem_cons_of_mem _ p) x' k h1 h2
    · rw [p3] at h1 ⊢
      simp at h1
      subst h1
      simp only [List.length_append, List.length_singleton]
      refine Nat.le_of_not_lt (fun q1 => p1 (h.lv w q rfl k y (by omega) h2))
  refine ⟨hbi, hqi, e1, e2, fun u hu => ?_, hmn, fun w2 q2 e k u hk hw => ?_⟩
  · rcases e3 u hu with p | p
    · exact h.fr u p
    · exact .inr ⟨x, mem_outs.1 p⟩
  · have hge := h.qi
    by_cases hkl : k + 1 ≤ w.length
    · exact em.2.2.1 u (h.lv w q rfl k u hkl hw)
    · -- the head is longer by one now
      have hw2 : w2 ∈ (exps w (outs E x) q s).1 := by rw [e]; exact List.mem_cons_self
      have hl2 : w2.length ≤ w.length + 1 := by
        rcases e4 w2 hw2 with p | ⟨y, _, _, p3⟩
        · exact (h.qi.2 w q rfl w2 p).1
        · rw [p3]; simp
      cases k with
      | zero =>
        have := (h.bi.pth w List.mem_cons_self).ne
        have := List.length_pos_iff.2 this
        omega
      | succ k =>
        obtain ⟨t, ht1, ht2⟩ := hw
        have hts := em.2.2.1 t (h.lv w q rfl k t (by omega) ht1)
        rcases hbi.ex t hts with ⟨z, z1, z2⟩ | ⟨_, z2⟩
        · have h1 := hmn z z1 t k z2 ht1
          rw [e] at hqi z1
          have h2 := qi_ge hqi z z1
          omega
        · exact z2 u ht2
theorem Bj.start (E : List E1) (a b : UInt64) : Bj E a b [[a]] [a] := by
  refine ⟨Bi.start E a b, QI.one _, fun z hz => by rw [List.mem_singleton.1 hz]; exact Nat.le_refl _, by simp, fun u hu => .inl (List.mem_singleton.1 hu), fun z hz x k _ _ => by rw [List.mem_singleton.1 hz]; simp, fun w q0 e k u hk hw => ?_⟩
  simp only [List.cons.injEq] at e
  obtain ⟨rfl, _⟩ := e
  obtain rfl : k = 0 := by simp at hk; omega
  rw [show u = a from hw]; simp
theorem pigeon : ∀ (n : Nat) (l : List Nat), l.Nodup → (∀ x ∈ l, x < n) → l.length ≤ n
  | 0, l, _, h => by
    cases l with
    | nil => exact Nat.le_refl _
    | cons x r => exact absurd (h x List.mem_cons_self) (by omega)
  | n + 1, l, hn, h => by
    have h1 := pigeon n (l.filter (fun x => !(x == n))) (hn.filter _) (fun x hx => by
      obtain ⟨q1, q2⟩ := List.mem_filter.1 hx
      have := h x q1
      have : x ≠ n := by simpa using q2
      omega)
    have h2 := List.nodup_iff_count.1 hn n
    have h3 := List.length_eq_countP_add_countP (fun x => x == n) (l := l)
    have h4 : l.countP (fun x => x == n) = l.count n := rfl
    have h5 : (l.filter (fun x => !(x == n))).length = l.countP (fun a => decide ¬(a == n) = true) := by
      rw [← List.countP_eq_length_filter]
      exact List.countP_congr (fun e _ => by simp)
    omega
/-- What the search among numbers below n tells. -/
theorem Bfs.short {E : List E1} (hr : Ris E) {a b : UInt64} {n : Nat} (hn : ∀ e ∈ E, e.2.toNat < n) (ha : a.toNat < n) {q : List (List UInt64)} {s : List UInt64} {r : Option (List UInt64)} (h : W.Bfs E b q s r) (hi : Bj E a b q s) : ∀ z, r = some z → (∀ k, Wk E a k b → z.length ≤ k + 1) ∧ z.length ≤ n := by
  induction h with
  | none s => intro z e; cases e
  | here w q s hw =>
    intro z e
    obtain rfl := Option.some.inj e
    refine ⟨fun k hk => hi.mn w List.mem_cons_self b k hw hk, Nat.le_trans (hi.lz w List.mem_cons_self) ?_⟩
    have h1 : (s.map UInt64.toNat).Nodup := by
      refine List.pairwise_map.2 (hi.nd.imp ?_)
      intro x y hxy e
      exact hxy (UInt64.toNat_inj.1 e)
    have := pigeon n (s.map UInt64.toNat) h1 (fun x hx => by
      obtain ⟨u, hu, rfl⟩ := List.mem_map.1 hx
      rcases hi.fr u hu with p | ⟨y, p⟩
      · rw [p]; exact ha
      · exact hn _ p)
    simpa using this
  | on w q s x r h1 h2 h3 ih => exact ih (hi.step hr h1 h2)
end Go.Proofs.Ytpckmpnifdpeoaa
