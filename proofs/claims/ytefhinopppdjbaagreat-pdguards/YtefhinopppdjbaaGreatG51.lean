/- What PdGuards keeps: the registered ones of the law's own starts. -/
import Derived.Test.YtefhinopppdjbaaGreatG50
namespace Go.Proofs.YtefhinopppdjbaaGreat
open Go.RowKit
set_option linter.unusedVariables false
set_option maxRecDepth 100000

theorem andU (x c : UInt64) : bits .and .u64 (x.toNat : Int) (c.toNat : Int) = ((x &&& c).toNat : Int) := by
  show IntKind.u64.wrap ((BitVec.ofInt 64 (x.toNat : Int) &&& BitVec.ofInt 64 (c.toNat : Int)).toNat : Int) = _
  have h1 : ∀ y : UInt64, (BitVec.ofInt 64 (y.toNat : Int)).toNat = y.toNat := fun y => by
    have := y.toNat_lt
    rw [BitVec.toNat_ofInt]
    omega
  rw [BitVec.toNat_and, h1, h1, UInt64.toNat_and]
  have h2 : x.toNat &&& c.toNat ≤ x.toNat := Nat.and_le_left
  have h3 := x.toNat_lt
  rw [IntKind.wrap_u64]
  omega
/-- The law's own mask. -/
def mk50 (x : UInt64) : UInt64 := x &&& 1125899906842623
theorem and50 (x : UInt64) : bits .and .u64 (x.toNat : Int) 1125899906842623 = ((mk50 x).toNat : Int) := andU x 1125899906842623
theorem mk50_lt (x : UInt64) : (mk50 x).toNat ≤ 1125899906842623 := by
  unfold mk50
  rw [UInt64.toNat_and]
  exact Nat.and_le_right
theorem and15g (x : UInt64) : bits .and .u64 (x.toNat : Int) 15 = ((x &&& 15).toNat : Int) := andU x 15
theorem and15g_lt (x : UInt64) : (x &&& 15).toNat ≤ 15 := by
  rw [UInt64.toNat_and]
  exact Nat.and_le_right

structure GM (l : List UInt64) (k tt L : Nat) (H : List EN) : Prop where
  nd : Ndp H
  len : H.length ≤ k
  un : ∀ e ∈ H, e.2.toNat = tt ∧ 1 ≤ e.1.toNat ∧ e.1.toNat ≤ 1125899906842623
  src : ∀ e ∈ H, ∃ j x, j < k ∧ l[j]? = some x ∧ e.1 = mk50 x
  lo : ∀ e ∈ H, L ≤ e.1.toNat
  at_ : (H = [] ∧ L = 1152921504606846976) ∨ (∃ e ∈ H, L = e.1.toNat)
theorem GM.start (l : List UInt64) (tt : Nat) : GM l 0 tt 1152921504606846976 [] :=
  ⟨List.nodup_nil, Nat.le_refl _, fun e h => (by cases h), fun e h => (by cases h), fun e h => (by cases h), .inl ⟨rfl, rfl⟩⟩
theorem GM.perm {l : List UInt64} {k tt L : Nat} {H H' : List EN} (h : GM l k tt L H) (hp : H'.Perm H) : GM l k tt L H' := by
  refine ⟨(hp.map _).nodup_iff.2 h.nd, by rw [hp.length_eq]; exact h.len, fun e he => h.un e (hp.mem_iff.1 he), fun e he => h.src e (hp.mem_iff.1 he), fun e he => h.lo e (hp.mem_iff.1 he), ?_⟩
  rcases h.at_ with ⟨rfl, e⟩ | ⟨e, he, q⟩
  · exact .inl ⟨List.Perm.eq_nil hp, e⟩
  · exact .inr ⟨e, hp.mem_iff.2 he, q⟩
theorem GM.L_le {l : List UInt64} {k tt L : Nat} {H : List EN} (h : GM l k tt L H) : 1 ≤ L ∧ L ≤ 1152921504606846976 := by
  rcases h.at_ with ⟨_, e⟩ | ⟨e, he, q⟩
  · omega
  · have := h.un e he; omega
theorem GM.more {l : List UInt64} {k tt L : Nat} {H : List EN} (h : GM l k tt L H) : GM l (k + 1) tt L H :=
  ⟨h.nd, by have := h.len; omega, h.un, fun e he => by obtain ⟨j, x, q1, q2⟩ := h.src e he; exact ⟨j, x, by omega, q2⟩, h.lo, h.at_⟩
theorem GM.reg {l : List UInt64} {k tt L : Nat} {H H' : List EN} (h : GM l k tt L H) {x U : UInt64} (hx : l[k]? = some x) (h0 : (mk50 x).toNat ≠ 0) (hU : U.toNat = tt) (hp : H'.Perm (regE (mk50 x) U H)) : GM l (k + 1) tt (min L (mk50 x).toNat) H' := by
  have hmx := mk50_lt x
  by_cases hk : mk50 x ∈ H.map (·.1)
  · have e1 : regE (mk50 x) U H = H := by
      unfold regE
      rw [if_pos hk]
      refine (List.map_congr_left (g := id) (fun y hy => ?_)).trans (List.map_id H)
      split
      · have : mxU y.2 U = y.2 := by
          unfold mxU
          rw [if_neg]
          have := (h.un y hy).1
          omega
        rw [this]; rfl
      · rfl
    rw [e1] at hp
    have h2 := h.more.perm hp
    obtain ⟨y, hy, e⟩ := List.mem_map.1 hk
    have hL : L ≤ (mk50 x).toNat := by rw [← e]; exact h.lo y hy
    rw [Nat.min_eq_left hL]
    exact h2
  · have hno : ∀ y ∈ H, y.1 ≠ mk50 x := fun y hy q => hk (by rw [← q]; exact List.mem_map_of_mem hy)
    rw [reg_new hno] at hp
    have hm : ∀ e, e ∈ H' ↔ e ∈ H ∨ e = (mk50 x, U) := fun e => by rw [hp.mem_iff, List.mem_append, List.mem_singleton]
    refine ⟨?_, by rw [hp.length_eq, List.length_append, List.length_singleton]; have := h.len; omega, fun e he => ?_, fun e he => ?_, fun e he => ?_, ?_⟩
    · refine (hp.map _).nodup_iff.2 ?_
      rw [List.map_append, List.nodup_append]
      refine ⟨h.nd, by simp, fun a ha b hb => ?_⟩
      simp at hb
      subst hb
      intro q
      subst q
      exact hk ha
    · rcases (hm e).1 he with q | rfl
      · exact h.un e q
      · exact ⟨hU, by show 1 ≤ (mk50 x).toNat; omega, hmx⟩
    · rcases (hm e).1 he with q | rfl
      · obtain ⟨j, y, q1, q2⟩ := h.src e q
        exact ⟨j, y, by omega, q2⟩
      · exact ⟨k, x, by omega, hx, rfl⟩
    · rcases (hm e).1 he with q | rfl
      · have := h.lo e q; omega
      · exact Nat.min_le_right _ _
    · by_cases hl : L ≤ (mk50 x).toNat
      · rcases h.at_ with ⟨_, e⟩ | ⟨e, he, q⟩
        · omega
        · exact .inr ⟨e, (hm e).2 (.inl he), by omega⟩
      · exact .inr ⟨(mk50 x, U), (hm _).2 (.inr rfl), by show _ = (mk50 x).toNat; omega⟩
theorem lsF_min {t L : Nat} {H : List EN} (h1 : ∀ e ∈ H, L ≤ e.1.toNat) (h2 : ∃ e ∈ H, L = e.1.toNat) : lsF t H = min t (L - 1) := by
  have gen : ∀ (H : List EN) (t : Nat), (∀ e ∈ H, L ≤ e.1.toNat) → lsF t H ≤ t ∧ (∀ e ∈ H, lsF t H ≤ e.1.toNat - 1) ∧ min t (L - 1) ≤ lsF t H := by
    intro H
    induction H with
    | nil => intro t _; exact ⟨Nat.le_refl _, fun e he => (by cases he), Nat.min_le_left _ _⟩
    | cons a H ih =>
      intro t hh
      obtain ⟨q1, q2, q3⟩ := ih (min t (a.1.toNat - 1)) (fun e he => hh e (List.mem_cons_of_mem _ he))
      have ha := hh a List.mem_cons_self
      have e : lsF t (a :: H) = lsF (min t (a.1.toNat - 1)) H := rfl
      rw [e]
      refine ⟨by omega, fun e he => ?_, by omega⟩
      rcases List.mem_cons.1 he with rfl | he
      · omega
      · exact q2 e he
  obtain ⟨q1, q2, q3⟩ := gen H t h1
  obtain ⟨e, he, rfl⟩ := h2
  have := q2 e he
  omega
theorem GM.ls {l : List UInt64} {k tt L t : Nat} {H : List EN} (h : GM l k tt L H) (ht : t ≤ 1125899906842623) : lsF t H = min t (L - 1) := by
  rcases h.at_ with ⟨rfl, rfl⟩ | hat
  · show t = _; omega
  · exact lsF_min h.lo hat
/-- What is left when the first k of them are released. -/
def Lft (l : List UInt64) (k K : Nat) (H : List EN) : Prop := Ndp H ∧ H.length ≤ 40 ∧ (∀ e ∈ H, 1 ≤ e.1.toNat) ∧ ∀ e ∈ H, ∃ j x, k ≤ j ∧ j < K ∧ l[j]? = some x ∧ e.1 = mk50 x
theorem Lft.out {l : List UInt64} {k K : Nat} {H H' : List EN} (h : Lft l k K H) {x : UInt64} (hx : l[k]? = some x) (hp : H'.Perm (outE (mk50 x) H)) : Lft l (k + 1) K H' := by
  obtain ⟨h1, h2, h3, h4⟩ := h
  have hs : (outE (mk50 x) H).Sublist H := List.filter_sublist
  have hm : ∀ e ∈ H', e ∈ H ∧ e.1 ≠ mk50 x := fun e he => by
    have := hp.mem_iff.1 he
    unfold outE at this
    rw [List.mem_filter] at this
    exact ⟨this.1, by simpa using this.2⟩
  refine ⟨(hp.map _).nodup_iff.2 (h1.sublist (hs.map _)), by rw [hp.length_eq]; exact Nat.le_trans hs.length_le h2, fun e he => h3 e (hm e he).1, fun e he => ?_⟩
  obtain ⟨j, y, q1, q2, q3, q4⟩ := h4 e (hm e he).1
  refine ⟨j, y, ?_, q2, q3, q4⟩
  rcases Nat.lt_or_eq_of_le q1 with q | q
  · omega
  · subst q
    rw [hx] at q3
    obtain rfl := Option.some.inj q3
    exact absurd q4 (hm e he).2
theorem Lft.none {l : List UInt64} {k K : Nat} {H : List EN} (h : Lft l k K H) (hk : K ≤ k) : H = [] := by
  cases H with
  | nil => rfl
  | cons a t => obtain ⟨j, y, q1, q2, _⟩ := h.2.2.2 a List.mem_cons_self; omega
theorem stay_all {C : Nat} {H : List EN} (h : ∀ e ∈ H, C ≤ e.2.toNat) : stayE C H = H := List.filter_eq_self.2 (fun x hx => by simpa using h x hx)
theorem stay_none {C : Nat} {H : List EN} (h : ∀ e ∈ H, e.2.toNat < C) : stayE C H = [] := List.filter_eq_nil_iff.2 (fun x hx => by have := h x hx; simp; omega)
end Go.Proofs.YtefhinopppdjbaaGreat
