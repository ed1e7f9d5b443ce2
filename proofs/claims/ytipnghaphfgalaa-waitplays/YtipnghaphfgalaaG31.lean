/- The queue of ways stays in order: so the heap's top is its head. -/
import Derived.Test.YtipnghaphfgalaaG18
namespace Go.Proofs.Ytipnghaphfgalaa
set_option linter.unusedVariables false
set_option maxRecDepth 100000

theorem lxl_app {a b : List UInt64} (h : a.length = b.length) (x y : UInt64) : lxl (a ++ [x]) (b ++ [y]) = if lxl a b = 0 then (if x.toNat < y.toNat then -1 else if y.toNat < x.toNat then 1 else 0) else lxl a b := by
  induction a generalizing b with
  | nil =>
    cases b with
    | nil => simp [lxl]
    | cons _ _ => simp at h
  | cons p a ih =>
    cases b with
    | nil => simp at h
    | cons q b =>
      simp only [List.length_cons, Nat.add_right_cancel_iff] at h
      simp only [List.cons_append, lxl, ih h]
      split
      · simp
      · split
        · simp
        · rfl
/-- The queue: each way ahead of those behind it; none longer by more than one than the first; those that are longer by one go on from ways ahead of the first. -/
def QI (q : List (List UInt64)) : Prop := q.Pairwise (fun a b => wlt a b = true) ∧ ∀ w q0, q = w :: q0 → ∀ z ∈ q0, z.length ≤ w.length + 1 ∧ (z.length = w.length + 1 → ∃ u y, z = u ++ [y] ∧ u.length = w.length ∧ lxl u w < 0)
theorem QI.nil : QI [] := ⟨List.Pairwise.nil, fun w q0 e => by cases e⟩
theorem QI.one (z : List UInt64) : QI [z] := ⟨List.pairwise_singleton _ _, fun w q0 e => by simp at e; obtain ⟨_, rfl⟩ := e; intro z hz; cases hz⟩
theorem exps_eq (w : List UInt64) : ∀ (l : List UInt64) (q : List (List UInt64)) (s : List UInt64), ∃ m : List UInt64, m.Sublist l ∧ (W.exps w l q s).1 = q ++ m.map (fun y => w ++ [y])
  | [], q, s => ⟨[], List.Sublist.refl _, by simp [W.exps]⟩
  | y :: r, q, s => by
    unfold W.exps
    split
    · obtain ⟨m, h1, h2⟩ := exps_eq w r q s
      exact ⟨m, h1.cons _, h2⟩
    · obtain ⟨m, h1, h2⟩ := exps_eq w r (q ++ [w ++ [y]]) (s ++ [y])
      exact ⟨y :: m, h1.cons_cons _, by rw [h2]; simp⟩
theorem QI.exps {w : List UInt64} {q : List (List UInt64)} (h : QI (w :: q)) {l : List UInt64} (hl : l.Pairwise (fun a b => a.toNat < b.toNat)) (s : List UInt64) : QI (W.exps w l q s).1 := by
  obtain ⟨m, hm, e⟩ := exps_eq w l q s
  rw [e]
  have hm2 : m.Pairwise (fun a b => a.toNat < b.toNat) := hl.sublist hm
  obtain ⟨h1, h2⟩ := h
  have h3 := List.pairwise_cons.1 h1
  have h4 := h2 w q rfl
  refine ⟨?_, ?_⟩
  · rw [List.pairwise_append]
    refine ⟨h3.2, ?_, ?_⟩
    · rw [List.pairwise_map]
      refine hm2.imp ?_
      intro a b hab
      unfold wlt
      rw [decide_eq_true_iff]
      refine .inr ⟨by simp, ?_⟩
      rw [lxl_app rfl, lxl_self, if_pos rfl, if_pos hab]
      omega
    · intro z hz y hy
      obtain ⟨x, _, rfl⟩ := List.mem_map.1 hy
      obtain ⟨k1, k2⟩ := h4 z hz
      unfold wlt
      rw [decide_eq_true_iff]
      simp only [List.length_append, List.length_singleton]
      by_cases hzl : z.length = w.length + 1
      · obtain ⟨u, y, rfl, hu, hlt⟩ := k2 hzl
        refine .inr ⟨hzl, ?_⟩
        rw [lxl_app hu, if_neg (by omega)]
        exact hlt
      · exact .inl (by omega)
  · intro w2 q2 e2 z hz
    cases q with
    | nil =>
      cases m with
      | nil => simp at e2
      | cons y m =>
        simp only [List.nil_append, List.map_cons, List.cons.injEq] at e2
        obtain ⟨rfl, rfl⟩ := e2
        obtain ⟨x, _, rfl⟩ := List.mem_map.1 hz
        exact ⟨by simp, fun q => by simp at q⟩
    | cons w3 q3 =>
      simp only [List.cons_append, List.cons.injEq] at e2
      obtain ⟨rfl, rfl⟩ := e2
      have hlt := h3.1 w3 (List.mem_cons_self)
      unfold wlt at hlt
      rw [decide_eq_true_iff] at hlt
      obtain ⟨k1, k2⟩ := h4 w3 (List.mem_cons_self)
      rcases List.mem_append.1 hz with hz | hz
      · obtain ⟨p1, p2⟩ := h4 z (List.mem_cons_of_mem _ hz)
        rcases hlt with q | ⟨q, q'⟩
        · exact ⟨by omega, fun e => by omega⟩
        · refine ⟨by omega, fun e => ?_⟩
          obtain ⟨u, y, hu, hul, hlt2⟩ := p2 (by omega)
          exact ⟨u, y, hu, by omega, lxl_lt_trans hlt2 (Int.le_of_lt q')⟩
      · obtain ⟨x, _, rfl⟩ := List.mem_map.1 hz
        simp only [List.length_append, List.length_singleton]
        rcases hlt with q | ⟨q, q'⟩
        · exact ⟨by omega, fun e => by omega⟩
        · exact ⟨by omega, fun e => ⟨w, x, rfl, by omega, q'⟩⟩
/-- The heap's top is the queue's head. -/
theorem top_head {H : List HE} {w : List UInt64} {q : List (List UInt64)} {e : HE} (hq : QI (w :: q)) (hp : (H.map (·.2)).Perm (w :: q)) (hH : M.Hp helt H H.length) (he : H[0]? = some e) : e.2 = w := by
  have hmin := hH.min helt_tr helt_irr he
  have hm : e.2 ∈ w :: q := hp.mem_iff.1 (List.mem_map.2 ⟨e, List.mem_of_getElem? he, rfl⟩)
  rcases List.mem_cons.1 hm with h | h
  · exact h
  · have h1 := (List.pairwise_cons.1 hq.1).1 e.2 h
    obtain ⟨d, hd, hd2⟩ := List.mem_map.1 (hp.mem_iff.2 (List.mem_cons_self (a := w) (l := q)))
    obtain ⟨k, hk⟩ := List.mem_iff_getElem?.1 hd
    have h2 := hmin k d (List.getElem?_eq_some_iff.1 hk).1 hk
    unfold helt at h2
    rw [hd2, h1] at h2
    cases h2
/-- The least number with a property. -/
theorem least {R : Nat → Prop} (h : ∃ n, R n) : ∃ n, R n ∧ ∀ m, R m → n ≤ m := by
  obtain ⟨n, hn⟩ := h
  induction n using Nat.strongRecOn with
  | _ n ih =>
    by_cases q : ∃ m, m < n ∧ R m
    · obtain ⟨m, h1, h2⟩ := q
      exact ih m h1 h2
    · exact ⟨n, hn, fun m hm => Nat.le_of_not_lt (fun hl => q ⟨m, hl, hm⟩)⟩
open Classical in
noncomputable def lst {β : Type} (R : Nat → β → Prop) (w : β) : Nat := if h : ∃ n, R n w then Classical.choose (least h) else 0
theorem lst_is {β : Type} {R : Nat → β → Prop} {w : β} (h : ∃ n, R n w) : R (lst R w) w := by
  unfold lst
  rw [dif_pos h]
  exact (Classical.choose_spec (least h)).1
theorem lst_le {β : Type} {R : Nat → β → Prop} {w : β} {n : Nat} (h : R n w) : lst R w ≤ n := by
  unfold lst
  rw [dif_pos ⟨n, h⟩]
  exact (Classical.choose_spec (least ⟨n, h⟩)).2 n h
end Go.Proofs.Ytipnghaphfgalaa
