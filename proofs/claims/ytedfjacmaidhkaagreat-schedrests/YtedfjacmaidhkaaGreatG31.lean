/- All regions reckoned with: what the counts come to. -/
import Derived.Test.YtedfjacmaidhkaaGreatG30
namespace Go.Proofs.YtedfjacmaidhkaaGreat
open Go.RowKit Go.Maps
set_option linter.unusedVariables false
set_option linter.unusedSimpArgs false
set_option maxRecDepth 100000

theorem snocRec {α : Type} {motive : List α → Prop} (nil : motive []) (snoc : ∀ l r, motive l → motive (l ++ [r])) (l : List α) : motive l := by
  have h : ∀ m : List α, motive m.reverse := by
    intro m
    induction m with
    | nil => exact nil
    | cons a t ih => rw [List.reverse_cons]; exact snoc _ _ ih
  have := h l.reverse
  rwa [List.reverse_reverse] at this
def cntA (p : PD) (l : List RV) : PD × Nat := l.foldl (fun s r => (cntP s.1 (s.2 : Int) r, s.2 + 1)) (p, 0)
def cntR (p : PD) (l : List RV) : PD := (cntA p l).1
theorem cntA_snoc (p : PD) (l : List RV) (r : RV) : cntA p (l ++ [r]) = (cntP (cntA p l).1 ((cntA p l).2 : Int) r, (cntA p l).2 + 1) := by simp [cntA]
theorem cntA_two (p : PD) (l : List RV) : (cntA p l).2 = l.length := by
  induction l using snocRec with
  | nil => rfl
  | snoc l r ih => rw [cntA_snoc, ih]; simp
theorem cntR_nil (p : PD) : cntR p [] = p := rfl
theorem cntR_snoc (p : PD) (l : List RV) (r : RV) : cntR p (l ++ [r]) = cntP (cntR p l) (l.length : Int) r := by
  unfold cntR; rw [cntA_snoc, cntA_two]
/-- How much there is to put in. -/
def sK (l : List RV) : Nat := (l.map (fun r => r.ps.length + 2)).sum
theorem sK_snoc (l : List RV) (r : RV) : sK (l ++ [r]) = sK l + r.ps.length + 2 := by simp [sK]; omega
theorem sK_perm {l m : List RV} (h : l.Perm m) : sK l = sK m := (h.map _).sum_nat
theorem sK_sub {l m : List RV} (h : l.Sublist m) : sK l ≤ sK m := by
  induction h with
  | slnil => exact Nat.le_refl _
  | cons a _ ih => simp only [sK, List.map_cons, List.sum_cons] at *; omega
  | cons_cons a _ ih => simp only [sK, List.map_cons, List.sum_cons] at *; omega
theorem sK_take (l : List RV) (k : Nat) : sK (l.take k) ≤ sK l := sK_sub (List.take_sublist k l)
def p00 (ss : List Sw) (rs : List RV) : PD := ⟨ss, rs, fun _ => none, fun _ => 0, fun _ => 0, fun _ => false⟩
theorem cntR_ld (ss : List Sw) (rs l : List RV) (s : Int) : 0 ≤ (cntR (p00 ss rs) l).ld s ∧ (cntR (p00 ss rs) l).ld s ≤ sK l := by
  induction l using snocRec with
  | nil => exact ⟨Int.le_refl _, by simp [cntR_nil, p00]⟩
  | snoc l r ih =>
    rw [cntR_snoc, sK_snoc]
    have := cntL_le r.ps (cntR (p00 ss rs) l).ld s
    show 0 ≤ cntL _ _ _ ∧ cntL _ _ _ ≤ _
    omega
theorem cntR_le (ss : List Sw) (rs l : List RV) (s : Int) : 0 ≤ (cntR (p00 ss rs) l).le s ∧ (cntR (p00 ss rs) l).le s ≤ sK l := by
  induction l using snocRec with
  | nil => exact ⟨Int.le_refl _, by simp [cntR_nil, p00]⟩
  | snoc l r ih =>
    rw [cntR_snoc, sK_snoc]
    show 0 ≤ (if 0 < r.ld then iPut _ _ _ else _) s ∧ (if 0 < r.ld then iPut _ _ _ else _) s ≤ _
    by_cases h : 0 < r.ld
    · rw [if_pos h]
      unfold iPut
      by_cases e : s = r.ld
      · subst e; rw [if_pos rfl]; omega
      · rw [if_neg e]; omega
    · rw [if_neg h]; omega
theorem cntR_ss (p : PD) (l : List RV) : (cntR p l).ss = p.ss := by
  induction l using snocRec with
  | nil => rfl
  | snoc l r ih => rw [cntR_snoc]; exact ih
theorem cntR_rs (p : PD) (l : List RV) : (cntR p l).rs = p.rs := by
  induction l using snocRec with
  | nil => rfl
  | snoc l r ih => rw [cntR_snoc]; exact ih
theorem cntR_nm (p : PD) (l : List RV) : (cntR p l).nm = p.nm := by
  induction l using snocRec with
  | nil => rfl
  | snoc l r ih => rw [cntR_snoc]; exact ih
/-- Each place that is told is one of a region that begins there. -/
theorem cntR_st (ss : List Sw) (rs l : List RV) (k : List UInt8) (v : Int) (h : (cntR (p00 ss rs) l).st k = some v) : ∃ i : Nat, v = (i : Int) ∧ ∃ r, l[i]? = some r ∧ r.s = k := by
  induction l using snocRec generalizing v with
  | nil => simp [cntR_nil, p00] at h
  | snoc l r ih =>
    rw [cntR_snoc] at h
    replace h : (if ((cntR (p00 ss rs) l).st r.s).isSome then (cntR (p00 ss rs) l).st else sPut (cntR (p00 ss rs) l).st r.s (l.length : Int)) k = some v := h
    have go : ∀ v, (cntR (p00 ss rs) l).st k = some v → ∃ i : Nat, v = (i : Int) ∧ ∃ q, (l ++ [r])[i]? = some q ∧ q.s = k := fun v hv => by
      obtain ⟨i, e, q, h1, h2⟩ := ih v hv
      exact ⟨i, e, q, by rw [List.getElem?_append_left (List.getElem?_eq_some_iff.1 h1).1]; exact h1, h2⟩
    by_cases c : ((cntR (p00 ss rs) l).st r.s).isSome
    · rw [if_pos c] at h; exact go v h
    · rw [if_neg c] at h
      unfold sPut at h
      by_cases e : k = r.s
      · rw [if_pos e] at h
        exact ⟨l.length, (Option.some.inj h).symm, r, by simp, e.symm⟩
      · rw [if_neg e] at h; exact go v h
end Go.Proofs.YtedfjacmaidhkaaGreat
