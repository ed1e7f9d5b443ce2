/- Regions that are spread and led evenly get no order. -/
import Derived.Test.YtedfjacmaidhkaaGreatG42
namespace Go.Proofs.YtedfjacmaidhkaaGreat
open Go.RowKit Go.Maps
set_option linter.unusedVariables false
set_option linter.unusedSimpArgs false
set_option maxRecDepth 100000

def allS (m : Nat) : List Sw := (List.range m).map (fun i => (((i + 1 : Nat) : Int), true))
theorem allS_len (m : Nat) : (allS m).length = m := by simp [allS]
theorem allS_snoc (m : Nat) : allS (m + 1) = allS m ++ [(((m + 1 : Nat) : Int), true)] := by simp [allS, List.range_succ]
theorem allS_mem {m : Nat} {s : Sw} (h : s ∈ allS m) : ∃ i : Nat, 1 ≤ i ∧ i ≤ m ∧ s = ((i : Int), true) := by
  obtain ⟨i, hi, rfl⟩ := List.mem_map.1 h
  exact ⟨i + 1, by omega, by have := List.mem_range.1 hi; omega, rfl⟩
theorem allS_has {m i : Nat} (h1 : 1 ≤ i) (h2 : i ≤ m) : ((i : Int), true) ∈ allS m := List.mem_map.2 ⟨i - 1, List.mem_range.2 (by omega), by rw [Nat.sub_add_cancel h1]⟩
theorem allS_ts : ∀ m : Nat, m ≤ 5 → tsF (allS m) = allS m
  | 0, _ => rfl
  | m + 1, h => by
    have ih := allS_ts m (by omega)
    rw [allS_snoc]
    unfold tsF at *
    rw [List.foldl_append, ih]
    show tsS (allS m) (((m + 1 : Nat) : Int), true) = _
    unfold tsS
    rw [if_pos]
    refine ⟨?_, by omega, by omega⟩
    rw [Bool.eq_false_iff]
    intro q
    obtain ⟨s, hs, e⟩ := List.any_eq_true.1 q
    obtain ⟨i, _, h2, rfl⟩ := allS_mem hs
    simp at e
    omega
def evPs (s m : Nat) : List Pe := (List.range m).map (fun k => (UInt64.ofNat (10 * s + (k + 1)), ((k + 1 : Nat) : Int), false))
theorem evPs_len (s m : Nat) : (evPs s m).length = m := by simp [evPs]
theorem evPs_snoc (s m : Nat) : evPs s (m + 1) = evPs s m ++ [(UInt64.ofNat (10 * s + (m + 1)), ((m + 1 : Nat) : Int), false)] := by simp [evPs, List.range_succ]
theorem evPs_mem {s m : Nat} {q : Pe} (h : q ∈ evPs s m) : ∃ k : Nat, 1 ≤ k ∧ k ≤ m ∧ q.2.1 = (k : Int) ∧ q.2.2 = false := by
  obtain ⟨k, hk, rfl⟩ := List.mem_map.1 h
  exact ⟨k + 1, by omega, by have := List.mem_range.1 hk; omega, rfl, rfl⟩
/-- What an even region is. -/
structure EvP (N i : Nat) (r : RV) : Prop where
  ps : r.ps = evPs (i + 1) N
  ld : r.ld = ((i + 1 : Nat) : Int)
  sz : r.sz = 5
  bz : r.bz = false
theorem count_one {l : List RV} (h : l.Pairwise (fun a b => a.ld ≠ b.ld)) (s : Int) : l.countP (fun r => r.ld == s) ≤ 1 := by
  induction l with
  | nil => simp
  | cons a t ih =>
    obtain ⟨h1, h2⟩ := List.pairwise_cons.1 h
    have := ih h2
    rw [List.countP_cons]
    by_cases e : a.ld = s
    · have hz : t.countP (fun r => r.ld == s) = 0 := List.countP_eq_zero.2 (fun r hr q => h1 r hr (by rw [e]; exact (eq_of_beq q).symm))
      rw [hz]; split <;> omega
    · have : (a.ld == s) = false := beq_eq_false_iff_ne.2 e
      rw [this]; simpa using ih h2
theorem cntR_le_cnt (ss : List Sw) (rs l : List RV) (s : Int) : (cntR (p00 ss rs) l).le s ≤ (l.countP (fun r => r.ld == s) : Int) := by
  induction l using snocRec with
  | nil => simp [cntR_nil, p00]
  | snoc l r ih =>
    rw [cntR_snoc, List.countP_append]
    show (if 0 < r.ld then iPut _ _ _ else _) s ≤ _
    have hone : ([r].countP (fun r => r.ld == s)) = if r.ld = s then 1 else 0 := by simp [List.countP_cons]
    rw [hone]
    by_cases h : 0 < r.ld
    · rw [if_pos h]
      unfold iPut
      by_cases e : s = r.ld
      · rw [if_pos e, if_pos e.symm, ← e]; push_cast; omega
      · rw [if_neg e, if_neg (fun q => e q.symm)]; push_cast; omega
    · rw [if_neg h]
      split <;> push_cast <;> omega
theorem even_quiet {N : Nat} (h1 : 1 ≤ N) (h5 : N ≤ 5) {es rs : List RV} (hev : ∀ i r, es[i]? = some r → EvP N i r) (hrs : rs.Perm (trF es)) : ∀ r ∈ rs, ∀ S ∈ seven (plD N 6 4 (tsF (allS N)).length) (cntR (p00 (tsF (allS N)) rs) rs) r NoM, ∀ o, ¬ S o true := by
  intro r hr S hS o ho
  have hre : r ∈ es := (trF_sub es).mem (hrs.mem_iff.1 hr)
  obtain ⟨i, hi, hir⟩ := List.mem_iff_getElem.1 hre
  have hE := hev i r (by rw [List.getElem?_eq_getElem hi, hir])
  rw [allS_ts N h5] at hS
  have hss : (cntR (p00 (allS N) rs) rs).ss = allS N := cntR_ss _ _
  have hrep : (plD (N : Int) 6 4 (allS N).length).rep = (N : Int) := by
    show repF _ _ = _
    rw [allS_len]; unfold repF; omega
  have hliv : ∀ q ∈ r.ps, livF (allS N) q = true := fun q hq => by
    rw [hE.ps] at hq
    obtain ⟨k, k1, k2, e, _⟩ := evPs_mem hq
    unfold livF
    rw [e]
    exact List.contains_iff_mem.2 (allS_has k1 k2)
  have hlrn : ∀ q ∈ r.ps, q.2.2 = false := fun q hq => by
    rw [hE.ps] at hq
    obtain ⟨k, _, _, _, e⟩ := evPs_mem hq
    exact e
  have hlen : r.ps.length = N := by rw [hE.ps, evPs_len]
  have o1 : onlyF r.ps [livF (allS N), lrnF] = [] := List.filter_eq_nil_iff.2 (fun q hq => by
    have := hlrn q hq
    simp [lrnF, this])
  have o2 : onlyF r.ps [livF (allS N)] = r.ps := List.filter_eq_self.2 (fun q hq => by simp [hliv q hq])
  have o3 : onlyF r.ps [livF (allS N), votF] = r.ps := List.filter_eq_self.2 (fun q hq => by simp [hliv q hq, votF, hlrn q hq])
  have o4 : onlyF r.ps [fun q => !livF (allS N) q] = [] := List.filter_eq_nil_iff.2 (fun q hq => by simp [hliv q hq])
  have hvo : voF (cntR (p00 (allS N) rs) rs) r = N := by unfold voF; rw [hss, o3, hlen]
  have o5 : freF (allS N) r.ps = [] := by
    unfold freF
    rw [List.map_eq_nil_iff, List.filter_eq_nil_iff]
    intro s hs
    obtain ⟨k, k1, k2, rfl⟩ := allS_mem hs
    have : (onF r.ps (k : Int)).isSome = true := by
      unfold onF
      rw [List.find?_isSome]
      refine ⟨(UInt64.ofNat (10 * (i + 1) + (k - 1 + 1)), ((k - 1 + 1 : Nat) : Int), false), ?_, ?_⟩
      · rw [hE.ps]; exact List.mem_map.2 ⟨k - 1, List.mem_range.2 (by omega), rfl⟩
      · simp; omega
    simp [this]
  simp only [seven, List.mem_cons, List.not_mem_nil, or_false] at hS
  rcases hS with rfl | rfl | rfl | rfl | rfl | rfl | rfl
  · unfold PromP at ho
    split at ho
    · cases ho
    · obtain ⟨q, hq, hb, _⟩ := ho
      rw [hss, o1] at hq
      have := first_nil hq
      subst this
      cases hb
  · unfold AddP at ho
    rw [hrep, hss, o2, hlen, if_pos (Int.le_refl _)] at ho
    cases ho
  · obtain ⟨q, hq, ho⟩ := ho
    rw [hss, o4] at hq
    have := first_nil hq
    subst this
    rw [if_pos (.inr ⟨by rw [hvo, hrep], rfl⟩)] at ho
    cases ho
  · obtain ⟨_, hb⟩ := ho
    rw [hE.sz] at hb
    exact absurd hb.symm (by show ¬ (decide ((0 : Int) < 6) && decide ((6 : Int) ≤ 5)) = true; decide)
  · cases ho
  · obtain ⟨b1, ⟨q, hq, hb, _⟩, u, hu, hb2⟩ := ho
    rw [hss, o5] at hq
    have := first_nil hq
    subst this
    rw [hb] at hb2
    simp at hb2
  · obtain ⟨q, hq, hb, _⟩ := ho
    have hpw : es.Pairwise (fun a b => a.ld ≠ b.ld) := by
      rw [List.pairwise_iff_getElem]
      intro x y hx hy hxy
      have e1 := (hev x _ (List.getElem?_eq_getElem hx)).ld
      have e2 := (hev y _ (List.getElem?_eq_getElem hy)).ld
      rw [e1, e2]; omega
    have hc : (cntR (p00 (allS N) rs) rs).le r.ld ≤ 1 := by
      have e1 := cntR_le_cnt (allS N) rs rs r.ld
      have e2 : rs.countP (fun q => q.ld == r.ld) = (trF es).countP (fun q => q.ld == r.ld) := hrs.countP_eq _
      have e3 := (trF_sub es).countP_le (p := fun q => q.ld == r.ld)
      have e4 := count_one hpw r.ld
      omega
    have hp := (cntR_le (allS N) rs rs q.1.2.1).1
    have hb' : (cntR (p00 (allS N) rs) rs).le q.1.2.1 + 2 ≤ (cntR (p00 (allS N) rs) rs).le r.ld := by
      have := hb.symm
      simp only [Bool.and_eq_true, decide_eq_true_eq] at this
      exact this.2
    omega
end Go.Proofs.YtedfjacmaidhkaaGreat
