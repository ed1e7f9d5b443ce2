/- What Partition answers of a chain of regions: true. -/
import Derived.Test.YtnapkomjegbhcaaG3
import Derived.Test.YtnapkomjegbhcaaG25
namespace Go.Proofs.Ytnapkomjegbhcaa
open Go.RowKit
set_option linter.unusedVariables false
set_option maxRecDepth 100000

theorem perm_eqG {α : Type} (lt : α → α → Prop) : ∀ (l q : List α), q.Perm l → l.Pairwise lt → q.Pairwise (fun a b => ¬ lt b a) → q = l
  | [], q, hp, _, _ => hp.eq_nil
  | x :: xs, [], hp, _, _ => by have := hp.length_eq; simp at this
  | x :: xs, y :: ys, hp, hl, hq => by
    rw [List.pairwise_cons] at hl hq
    have hxy : y = x := by
      by_cases h : y = x
      · exact h
      · exfalso
        have h1 : y ∈ xs := (List.mem_cons.1 (hp.mem_iff.1 (List.mem_cons_self ..))).resolve_left h
        have h2 : x ∈ ys := (List.mem_cons.1 (hp.mem_iff.2 (List.mem_cons_self ..))).resolve_left (fun q => h q.symm)
        exact hq.1 x h2 (hl.1 y h1)
    subst hxy
    rw [perm_eqG lt xs ys (hp.cons_inv) hl.2 hq.2]
theorem chkP_chn : ∀ (q : List R3) (i : Nat) (en : List UInt8), Chn en (q.map (·.2)) → (i = 0 ∨ en ≠ []) → chkP i en q = true
  | [], _, _, h, _ => h.elim
  | r :: q, i, en, h, hi => by
    obtain ⟨h1, h2⟩ := h
    have hn : ¬ ((0 < i ∧ en.length = 0) ∨ r.2.1 ≠ en) := by
      rintro (⟨a, b⟩ | a)
      · rcases hi with c | c
        · omega
        · exact c (List.length_eq_zero_iff.1 b)
      · exact a h1
    rw [chkP, if_neg hn]
    rcases h2 with ⟨h3, h4⟩ | ⟨h3, _, h5⟩
    · have : q = [] := List.map_eq_nil_iff.1 h3
      subst this
      have h4' : r.2.2 = [] := h4
      rw [chkP, h4']; rfl
    · exact chkP_chn q (i + 1) r.2.2 h5 (.inr h3)
/-- In a chain something lies in each region. -/
theorem chn_full : ∀ (q : List R3) (s : List UInt8), Chn s (q.map (·.2)) → ∀ r ∈ q, cov r.2.1 r.2.2 r.2.1 = true
  | [], _, h, _, _ => h.elim
  | r :: q, s, h, x, hx => by
    obtain ⟨h1, h2⟩ := h
    have h1' : r.2.1 = s := h1
    rcases List.mem_cons.1 hx with rfl | hx
    · refine (cvr_iff x.2.1 x.2).2 ⟨by rw [M.cmpL_self]; omega, ?_⟩
      rcases h2 with ⟨_, h4⟩ | ⟨_, h4, _⟩
      · exact .inl h4
      · rw [← h1'] at h4; exact .inr h4
    · rcases h2 with ⟨h3, _⟩ | ⟨_, _, h5⟩
      · rw [List.map_eq_nil_iff.1 h3] at hx; cases hx
      · exact chn_full q r.2.2 h5 x hx
/-- A list of regions that are, in some order, a chain over all keys. -/
def Prt (rs : List R3) : Prop := ∃ q : List R3, q.Perm rs ∧ Chn [] (q.map (·.2))
theorem Prt.full {rs : List R3} (h : Prt rs) : fullR rs = rs := by
  obtain ⟨q, hp, hc⟩ := h
  unfold fullR
  rw [List.filter_eq_self]
  exact fun r hr => chn_full q [] hc r (hp.mem_iff.2 hr)
theorem Prt.ne {rs : List R3} (h : Prt rs) : rs ≠ [] := by
  obtain ⟨q, hp, hc⟩ := h
  intro e
  rw [e] at hp
  rw [hp.eq_nil] at hc
  exact hc
theorem Prt.sorted {rs q' : List R3} (h : Prt rs) (hp' : q'.Perm rs) (hs : q'.Pairwise (fun a b => 0 ≤ M.cmpL b.2.1 a.2.1)) : Chn [] (q'.map (·.2)) := by
  obtain ⟨q, hp, hc⟩ := h
  have hr := chn_rise _ _ hc
  rw [List.pairwise_map] at hr
  have e := perm_eqG (fun a b : R3 => M.cmpL a.2.1 b.2.1 < 0) q q' (hp'.trans hp.symm) hr (hs.imp (fun h q => by omega))
  rw [e]; exact hc
/-- Just one of them covers a key. -/
theorem Prt.once {rs : List R3} (h : Prt rs) (k : List UInt8) : rs.countP (fun r => cov r.2.1 r.2.2 k) = 1 := by
  obtain ⟨q, hp, hc⟩ := h
  have := chn_all _ k hc
  rw [List.countP_map] at this
  rw [← hp.countP_eq]
  exact this
theorem partition_prt {v : Value} {rs : List R3} {w : World} (hr : RdRs w v rs) (hl : rs.length ≤ 1099511627775) (h : Prt rs) :
    Calls Try.prog 14 #[v] w fun x w' => x = .returned (.bool true) ∧ Below w.heap.size w w' := by
  refine (partition_any hr hl (by rw [h.full]; exact h.ne)).mono ?_
  rintro x w' ⟨q, hp, hs, rfl, hb⟩
  rw [h.full] at hp
  rw [chkP_chn q 0 [] (h.sorted hp hs) (.inl rfl)]
  exact ⟨rfl, hb⟩
end Go.Proofs.Ytnapkomjegbhcaa

/- A chain of regions stays one where one of them is split in place, or taken into its neighbour. -/
namespace Go.Proofs.Ytnapkomjegbhcaa
open Go.RowKit
set_option linter.unusedVariables false
set_option maxRecDepth 100000

theorem erase_perm {α : Type} : ∀ (l : List α) (i : Nat) (h : i < l.length), (l[i] :: l.eraseIdx i).Perm l
  | [], _, h => absurd h (by simp)
  | x :: l, 0, _ => by simp
  | x :: l, i + 1, h => by
    have := erase_perm l i (by simpa using h)
    simp only [List.getElem_cons_succ, List.eraseIdx_cons_succ]
    exact (List.Perm.swap _ _ _).trans (List.Perm.cons _ this)
theorem set_perm {α : Type} (l : List α) (i : Nat) (h : i < l.length) (y : α) : (y :: l.eraseIdx i).Perm (l.set i y) := by
  have := erase_perm (l.set i y) i (by simpa using h)
  rw [List.getElem_set_self, List.eraseIdx_set_eq] at this
  exact this
theorem Prt.split {rs : List R3} (h : Prt rs) {i : Nat} (hi : i < rs.length) {k : List UInt8} (hc : cov rs[i].2.1 rs[i].2.2 k = true) (hk : k ≠ rs[i].2.1) (hn : k ≠ []) (u u' : V6) : Prt (rs.set i (u, rs[i].2.1, k) ++ [(u', k, rs[i].2.2)]) := by
  obtain ⟨q, hp, hch⟩ := h
  obtain ⟨l, m, rfl⟩ := List.append_of_mem (hp.mem_iff.2 (List.getElem_mem hi))
  refine ⟨l ++ (u, rs[i].2.1, k) :: (u', k, rs[i].2.2) :: m, ?_, ?_⟩
  · have h1 : (rs[i] :: (l ++ m)).Perm (rs[i] :: rs.eraseIdx i) := (List.perm_middle.symm.trans hp).trans (erase_perm rs i hi).symm
    have h2 := h1.cons_inv
    have h3 := set_perm rs i hi (u, rs[i].2.1, k)
    refine List.perm_middle.trans ?_
    refine (List.Perm.cons _ List.perm_middle).trans ?_
    refine (List.Perm.swap _ _ _).trans ?_
    refine (List.Perm.cons _ ((List.Perm.cons _ h2).trans h3)).trans ?_
    exact (List.perm_append_singleton _ _).symm
  · rw [List.map_append, List.map_cons] at hch ⊢
    rw [List.map_cons]
    exact chn_split _ _ _ _ _ _ hch hc hk hn
theorem start_inj {q : List R3} (h : q.Pairwise (fun a b => M.cmpL a.2.1 b.2.1 < 0)) {a b : R3} (ha : a ∈ q) (hb : b ∈ q) (e : a.2.1 = b.2.1) : a = b := by
  induction q with
  | nil => cases ha
  | cons x q ih =>
    rw [List.pairwise_cons] at h
    rcases List.mem_cons.1 ha with rfl | ha'
    · rcases List.mem_cons.1 hb with rfl | hb'
      · rfl
      · have := h.1 b hb'; rw [e, M.cmpL_self] at this; omega
    · rcases List.mem_cons.1 hb with rfl | hb'
      · have := h.1 a ha'; rw [e, M.cmpL_self] at this; omega
      · exact ih h.2 ha' hb'
/-- Where one ends with a key, the next one begins there. -/
theorem chn_next : ∀ (l m : List Rn) (a : List UInt8) (r : Rn), Chn a (l ++ r :: m) → r.2 ≠ [] → ∃ z m', m = z :: m' ∧ z.1 = r.2
  | [], m, a, r, h, hn => by
    obtain ⟨_, h⟩ := h
    rcases h with ⟨_, h1⟩ | ⟨_, _, h3⟩
    · exact absurd h1 hn
    · match m, h3 with
      | z :: m', h3 => exact ⟨z, m', rfl, h3.1⟩
  | x :: l, m, a, r, h, hn => by
    obtain ⟨_, h⟩ := h
    rcases h with ⟨h1, _⟩ | ⟨_, _, h3⟩
    · exact absurd h1 (by simp)
    · exact chn_next l m x.2 r h3 hn
theorem Prt.two {rs : List R3} (h : Prt rs) {a b : R3} (ha : a ∈ rs) (hb : b ∈ rs) (e : a.2.2 = b.2.1) (hn : a.2.2 ≠ []) : ∃ l m : List R3, (l ++ a :: b :: m).Perm rs ∧ Chn [] ((l ++ a :: b :: m).map (·.2)) := by
  obtain ⟨q, hp, hch⟩ := h
  have hr := chn_rise _ _ hch
  rw [List.pairwise_map] at hr
  have hb' := hp.mem_iff.2 hb
  obtain ⟨l, m, rfl⟩ := List.append_of_mem (hp.mem_iff.2 ha)
  have hc2 := hch
  rw [List.map_append, List.map_cons] at hc2
  obtain ⟨z, m', hm, hz⟩ := chn_next _ _ _ _ hc2 hn
  match m, hm with
  | x :: m2, hm =>
    rw [List.map_cons, List.cons.injEq] at hm
    have hx : x = b := start_inj hr (by simp) hb' (by rw [← e, ← hz, ← hm.1])
    subst hx
    exact ⟨l, m2, hp, hch⟩
/-- The region at i takes its neighbour at k in. -/
theorem Prt.take {rs : List R3} {i k : Nat} (hi : i < rs.length) (hk : k < rs.length) (hik : i ≠ k) (u : V6) (s e : List UInt8)
    (h : ∃ l m : List R3, ((l ++ rs[i] :: rs[k] :: m).Perm rs ∧ Chn [] ((l ++ rs[i] :: rs[k] :: m).map (·.2)) ∧ s = rs[i].2.1 ∧ e = rs[k].2.2) ∨ ((l ++ rs[k] :: rs[i] :: m).Perm rs ∧ Chn [] ((l ++ rs[k] :: rs[i] :: m).map (·.2)) ∧ s = rs[k].2.1 ∧ e = rs[i].2.2)) : Prt ((rs.set i (u, s, e)).eraseIdx k) := by
  obtain ⟨l, m, h⟩ := h
  have key : ∀ lm : List R3, (rs[i] :: rs[k] :: lm).Perm rs → ((u, s, e) :: lm).Perm ((rs.set i (u, s, e)).eraseIdx k) := fun lm hp => by
    have h1 : (rs[i] :: rs[k] :: lm).Perm (rs[i] :: rs.eraseIdx i) := hp.trans (erase_perm rs i hi).symm
    have h2 := h1.cons_inv
    have h3 := set_perm rs i hi (u, s, e)
    have h4 := erase_perm (rs.set i (u, s, e)) k (by simpa using hk)
    rw [List.getElem_set_ne hik] at h4
    have h5 : (rs[k] :: (u, s, e) :: lm).Perm (rs[k] :: (rs.set i (u, s, e)).eraseIdx k) :=
      ((List.Perm.swap _ _ _).trans (List.Perm.cons _ h2)).trans (h3.trans h4.symm)
    exact h5.cons_inv
  rcases h with ⟨hp, hc, rfl, rfl⟩ | ⟨hp, hc, rfl, rfl⟩
  · refine ⟨l ++ (u, rs[i].2.1, rs[k].2.2) :: m, ?_, ?_⟩
    · refine List.perm_middle.trans (key (l ++ m) ?_)
      exact ((List.Perm.cons _ List.perm_middle).symm.trans List.perm_middle.symm).trans hp
    · rw [List.map_append, List.map_cons, List.map_cons] at hc
      rw [List.map_append, List.map_cons]
      exact (chn_merge _ _ _ _ _ _ _ hc).1
  · refine ⟨l ++ (u, rs[k].2.1, rs[i].2.2) :: m, ?_, ?_⟩
    · refine List.perm_middle.trans (key (l ++ m) ?_)
      exact ((List.Perm.swap _ _ _).trans ((List.Perm.cons _ List.perm_middle).symm.trans List.perm_middle.symm)).trans hp
    · rw [List.map_append, List.map_cons, List.map_cons] at hc
      rw [List.map_append, List.map_cons]
      exact (chn_merge _ _ _ _ _ _ _ hc).1
end Go.Proofs.Ytnapkomjegbhcaa
