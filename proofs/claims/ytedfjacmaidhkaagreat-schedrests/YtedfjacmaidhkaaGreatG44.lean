/- One region over stores that all live: which order comes, and what it leaves. -/
import Derived.Test.YtedfjacmaidhkaaGreatG43
namespace Go.Proofs.YtedfjacmaidhkaaGreat
open Go.RowKit Go.Maps
set_option linter.unusedVariables false
set_option linter.unusedSimpArgs false
set_option maxRecDepth 100000

/-- Peers on unlike stores of the five, with rising numbers below one. -/
structure GP (ps : List Pe) (nx : Nat) : Prop where
  ris : ps.Pairwise (fun a b => a.1.toNat < b.1.toNat)
  pos : ∀ q ∈ ps, 0 < q.1.toNat ∧ q.1.toNat < nx
  st : ps.Pairwise (fun a b => a.2.1 ≠ b.2.1)
  dom : ∀ q ∈ ps, 1 ≤ q.2.1 ∧ q.2.1 ≤ 5
def rR (pa : Option Addr) (pc : Nat) (ps : List Pe) : RV := ⟨5, none, 0, none, 0, 1, 1, pa, pc, 0, 0, false, [], [], ps⟩
def lnF (ps : List Pe) : Nat := (ps.filter (fun p => p.2.2)).length
theorem vt_ln (ps : List Pe) : vtF ps + lnF ps = ps.length := by
  induction ps with
  | nil => rfl
  | cons a t ih =>
    obtain ⟨x, y, z⟩ := a
    unfold vtF lnF at *
    cases z <;> simp at * <;> omega
theorem sub_len : ∀ (xs l : List Int), xs.Nodup → (∀ x ∈ xs, x ∈ l) → xs.length ≤ l.length
  | [], l, _, _ => Nat.zero_le _
  | x :: xs, l, hn, hs => by
    obtain ⟨h1, h2⟩ := List.nodup_cons.1 hn
    have hx := hs x (List.mem_cons_self ..)
    have := sub_len xs (l.erase x) h2 (fun y hy => by
      have hne : y ≠ x := fun e => h1 (by rw [← e]; exact hy)
      exact (List.mem_erase_of_ne hne).2 (hs y (List.mem_cons_of_mem _ hy)))
    rw [List.length_erase_of_mem hx] at this
    have hp := List.length_pos_of_mem hx
    simp only [List.length_cons]
    omega
theorem GP.len {ps : List Pe} {nx : Nat} (h : GP ps nx) : ps.length ≤ 5 := by
  have := sub_len (ps.map (·.2.1)) [1, 2, 3, 4, 5] (by rw [List.Nodup, List.pairwise_map]; exact h.st) (fun x hx => by
    obtain ⟨q, hq, rfl⟩ := List.mem_map.1 hx
    have := h.dom q hq
    simp only [List.mem_cons, List.not_mem_nil, or_false]
    omega)
  simpa using this
theorem on_none {ps : List Pe} {s : Int} (h : (onF ps s).isSome = false) : ∀ q ∈ ps, q.2.1 ≠ s := by
  intro q hq e
  unfold onF at h
  rw [← Bool.not_eq_true, List.find?_isSome] at h
  exact h ⟨q, hq, by simp [e]⟩
theorem ris_all : ∀ (l : List Pe) (a : UInt64), l.Pairwise (fun a b => a.1.toNat < b.1.toNat) → (∀ q ∈ l, a.toNat < q.1.toNat) → risF a (l.map (·.1)) = true
  | [], a, _, _ => rfl
  | x :: l, a, hp, ha => by
    obtain ⟨h1, h2⟩ := List.pairwise_cons.1 hp
    simp only [List.map_cons, risF, Bool.and_eq_true, decide_eq_true_eq]
    exact ⟨UInt64.lt_iff_toNat_lt.2 (ha x (List.mem_cons_self ..)), ris_all l x.1 h2 (fun q hq => h1 q hq)⟩
theorem st_all {ps : List Pe} {nx : Nat} (h : GP ps nx) : ∀ k, k ≤ ps.length → stF ps k = true
  | 0, _ => rfl
  | k + 1, hk => by
    have ih := st_all h k (by omega)
    show (stF ps k && _) = true
    rw [ih, Bool.true_and, List.getElem?_eq_getElem (by omega)]
    have hd := h.dom ps[k] (List.getElem_mem _)
    have hn : (onF (ps.take k) ps[k].2.1).isSome = false := by
      unfold onF
      rw [← Bool.not_eq_true, List.find?_isSome]
      rintro ⟨q, hq, e⟩
      obtain ⟨i, hi, hiq⟩ := List.mem_iff_getElem.1 hq
      rw [List.length_take] at hi
      rw [List.getElem_take] at hiq
      have := List.pairwise_iff_getElem.1 h.st i k (by omega) (by omega) (by omega)
      exact this (by rw [hiq]; exact of_decide_eq_true e)
    simp only [hn, Bool.not_false, Bool.true_and, decide_eq_true_eq]
    exact hd.1
theorem GP.grp {ps : List Pe} {nx : Nat} (h : GP ps nx) (hv : 0 < vtF ps) : grpF ps = true := by
  have hl := h.len
  unfold grpF
  rw [ris_all ps 0 h.ris (fun q hq => by have := (h.pos q hq).1; exact this), st_all h _ (Nat.le_refl _)]
  simp [hv]; omega
theorem GP.chk {ps : List Pe} {nx : Nat} (h : GP ps nx) (hv : 0 < vtF ps) : chkE 5 [] [] ps = 0 := by
  unfold chkE
  rw [if_neg (by decide), if_neg (by decide), if_neg (by rw [h.grp hv]; decide)]
theorem cntL_none (l : List Pe) (s : Int) : ∀ f : Int → Int, (∀ q ∈ l, q.2.1 ≠ s) → cntL f l s = f s := by
  induction l with
  | nil => intro f _; rfl
  | cons q t ih =>
    intro f h
    have h1 := ih (iPut f q.2.1 (f q.2.1 + 1)) (fun x hx => h x (List.mem_cons_of_mem _ hx))
    show cntL (iPut f q.2.1 (f q.2.1 + 1)) t s = _
    rw [h1]; unfold iPut
    rw [if_neg (fun e => h q (List.mem_cons_self ..) e.symm)]
theorem cntL_one (l : List Pe) (s : Int) : ∀ f : Int → Int, l.Pairwise (fun a b => a.2.1 ≠ b.2.1) → cntL f l s ≤ f s + 1 := by
  induction l with
  | nil => intro f _; show f s ≤ _; omega
  | cons q t ih =>
    intro f h
    obtain ⟨h1, h2⟩ := List.pairwise_cons.1 h
    show cntL (iPut f q.2.1 (f q.2.1 + 1)) t s ≤ _
    by_cases e : s = q.2.1
    · rw [cntL_none t s _ (fun x hx q => h1 x hx (by rw [q, e]))]
      unfold iPut; rw [if_pos e, e]; omega
    · have := ih (iPut f q.2.1 (f q.2.1 + 1)) h2
      unfold iPut at *; rw [if_neg e] at this; omega
/-- What comes. -/
inductive RestP (N : Nat) (ps : List Pe) : List Or → Prop
  | rest : vtF ps = N → RestP N ps []
  | prom (q : Pe) : q ∈ ps → q.2.2 = true → vtF ps ≤ N → RestP N ps [⟨2, 5, q.2.1, q.1.toNat, 0⟩]
  | add (s : Int) : 1 ≤ s → s ≤ 5 → (∀ q ∈ ps, q.2.1 ≠ s) → ps.length < N → RestP N ps [⟨1, 5, s, 0, 0⟩]
  | rem (q : Pe) : q ∈ ps → q.2.2 = false → N < vtF ps → RestP N ps [⟨3, 5, q.2.1, q.1.toNat, 0⟩]
theorem first_no {lt : Pe → Pe → Bool} {ps : List Pe} {q : Pe × Bool} (h : FirstP lt ps q) (hb : q.2 = false) : ps = [] := by
  rcases h with ⟨h, _⟩ | ⟨h, _⟩
  · exact h
  · rw [hb] at h; cases h
theorem first_yes {lt : Pe → Pe → Bool} {ps : List Pe} {q : Pe × Bool} (h : FirstP lt ps q) (hb : q.2 = true) : q.1 ∈ ps := by
  rcases h with ⟨_, h⟩ | ⟨_, h, _⟩
  · rw [h] at hb; cases hb
  · exact h
theorem rest_os {N nx : Nat} {pa : Option Addr} {pc : Nat} {ps : List Pe} {b : PD × List Or} (h1 : 1 ≤ N) (h5 : N ≤ 5) (hG : GP ps nx) (h : RunD (plD N 0 0 5) [rR pa pc ps] (cntR (p00 (allS 5) [rR pa pc ps]) [rR pa pc ps], []) b) : RestP N ps b.2 := by
  have hss : (cntR (p00 (allS 5) [rR pa pc ps]) [rR pa pc ps]).ss = allS 5 := cntR_ss _ _
  have hrep : (plD (N : Int) 0 0 5).rep = (N : Int) := by show repF _ _ = _; unfold repF; omega
  have hliv : ∀ q ∈ ps, livF (allS 5) q = true := fun q hq => by
    obtain ⟨d1, d5⟩ := hG.dom q hq
    unfold livF
    obtain ⟨k, hk⟩ := Int.eq_ofNat_of_zero_le (a := q.2.1) (by omega)
    rw [hk]
    exact List.contains_iff_mem.2 (allS_has (by omega) (by omega))
  have o1 : onlyF ps [livF (allS 5), lrnF] = ps.filter (fun p => p.2.2) := List.filter_congr (fun q hq => by simp [hliv q hq, lrnF])
  have o2 : onlyF ps [livF (allS 5)] = ps := List.filter_eq_self.2 (fun q hq => by simp [hliv q hq])
  have o3 : onlyF ps [livF (allS 5), votF] = ps.filter (fun p => !p.2.2) := List.filter_congr (fun q hq => by simp [hliv q hq, votF])
  have o4 : onlyF ps [fun q => !livF (allS 5) q] = [] := List.filter_eq_nil_iff.2 (fun q hq => by simp [hliv q hq])
  have o6 : onlyF ps [votF] = ps.filter (fun p => !p.2.2) := List.filter_congr (fun q hq => by simp [votF])
  have hvo : voF (cntR (p00 (allS 5) [rR pa pc ps]) [rR pa pc ps]) (rR pa pc ps) = vtF ps := by unfold voF; rw [hss]; show (onlyF ps _).length = _; rw [o3]; rfl
  have hfree : ∀ q ∈ freF (allS 5) ps, 1 ≤ q.2.1 ∧ q.2.1 ≤ 5 ∧ ∀ e ∈ ps, e.2.1 ≠ q.2.1 := fun q hq => by
    unfold freF at hq
    obtain ⟨s, hs, rfl⟩ := List.mem_map.1 hq
    obtain ⟨hs1, hs2⟩ := List.mem_filter.1 hs
    obtain ⟨k, k1, k2, rfl⟩ := allS_mem hs1
    simp only [Bool.true_and, Bool.not_eq_true'] at hs2
    exact ⟨by show (1 : Int) ≤ k; omega, by show (k : Int) ≤ 5; omega, on_none hs2⟩
  have hfnil : freF (allS 5) ps = [] → 5 ≤ ps.length := fun hn => by
    have := sub_len [1, 2, 3, 4, 5] (ps.map (·.2.1)) (by decide) (fun x hx => by
      have hx1 : 1 ≤ x ∧ x ≤ 5 := by simp only [List.mem_cons, List.not_mem_nil, or_false] at hx; omega
      obtain ⟨k, rfl⟩ := Int.eq_ofNat_of_zero_le (a := x) (by omega)
      have hk := allS_has (m := 5) (i := k) (by omega) (by omega)
      have : (onF ps (k : Int)).isSome = true := by
        cases hc : (onF ps (k : Int)).isSome with
        | true => rfl
        | false =>
          unfold freF at hn
          rw [List.map_eq_nil_iff, List.filter_eq_nil_iff] at hn
          exact absurd (by simp [hc]) (hn _ hk)
      unfold onF at this
      rw [List.find?_isSome] at this
      obtain ⟨q, hq, e⟩ := this
      exact List.mem_map.2 ⟨q, hq, of_decide_eq_true e⟩)
    simpa using this
  have hvl := vt_ln ps
  -- the rules' answers
  have pro : ∀ o b, PromP (plD N 0 0 5) (cntR (p00 (allS 5) [rR pa pc ps]) [rR pa pc ps]) (rR pa pc ps) o b → (b = false → N < vtF ps ∨ lnF ps = 0) ∧ (b = true → vtF ps ≤ N ∧ ∃ q ∈ ps, q.2.2 = true ∧ o = ⟨2, 5, q.2.1, q.1.toNat, 0⟩) := by
    intro o b ho
    unfold PromP at ho
    rw [hrep, hvo, hss] at ho
    replace ho : if (N : Int) < (vtF ps : Int) then b = false else ∃ q : Pe × Bool, FirstP oldF (onlyF ps [livF (allS 5), lrnF]) q ∧ b = q.2 ∧ o = ⟨2, 5, q.1.2.1, q.1.1.toNat, 0⟩ := ho
    rw [o1] at ho
    split at ho
    · rename_i hc; exact ⟨fun _ => .inl (by omega), fun e => by rw [e] at ho; cases ho⟩
    · rename_i hc
      obtain ⟨q, hq, hb, hoe⟩ := ho
      refine ⟨fun e => .inr ?_, fun e => ⟨by omega, q.1, ?_, ?_, hoe⟩⟩
      · unfold lnF; rw [first_no hq (by rw [← hb, e])]; rfl
      · exact (List.mem_filter.1 (first_yes hq (by rw [← hb, e]))).1
      · exact (List.mem_filter.1 (first_yes hq (by rw [← hb, e]))).2
  have gro : ∀ o b, GrowP (cntR (p00 (allS 5) [rR pa pc ps]) [rR pa pc ps]) (rR pa pc ps) o b → (b = false → 5 ≤ ps.length) ∧ (b = true → 1 ≤ o.store ∧ o.store ≤ 5 ∧ (∀ e ∈ ps, e.2.1 ≠ o.store) ∧ o = ⟨1, 5, o.store, 0, 0⟩) := by
    rintro o b ⟨q, hq, hb, hoe⟩
    rw [hss] at hq
    replace hq : FirstP (lesF (cntR (p00 (allS 5) [rR pa pc ps]) [rR pa pc ps]).ld) (freF (allS 5) ps) q := hq
    refine ⟨fun e => hfnil (first_no hq (by rw [← hb, e])), fun e => ?_⟩
    have := hfree _ (first_yes hq (by rw [← hb, e]))
    rw [hoe]
    exact ⟨this.1, this.2.1, this.2.2, rfl⟩
  have add : ∀ o b, AddP (plD N 0 0 5) (cntR (p00 (allS 5) [rR pa pc ps]) [rR pa pc ps]) (rR pa pc ps) o b → (b = false → N ≤ ps.length) ∧ (b = true → ps.length < N ∧ 1 ≤ o.store ∧ o.store ≤ 5 ∧ (∀ e ∈ ps, e.2.1 ≠ o.store) ∧ o = ⟨1, 5, o.store, 0, 0⟩) := by
    intro o b ho
    unfold AddP at ho
    rw [hrep, hss] at ho
    replace ho : if (N : Int) ≤ ((onlyF ps [livF (allS 5)]).length : Int) then b = false else GrowP (cntR (p00 (allS 5) [rR pa pc ps]) [rR pa pc ps]) (rR pa pc ps) o b := ho
    rw [o2] at ho
    split at ho
    · rename_i hc; exact ⟨fun _ => by omega, fun e => by rw [e] at ho; cases ho⟩
    · rename_i hc
      obtain ⟨g1, g2⟩ := gro o b ho
      exact ⟨fun e => by have := g1 e; omega, fun e => ⟨by omega, g2 e⟩⟩
  have rem : ∀ o b, RemP (plD N 0 0 5) (cntR (p00 (allS 5) [rR pa pc ps]) [rR pa pc ps]) (rR pa pc ps) o b → (b = false → vtF ps ≤ N) ∧ (b = true → N < vtF ps ∧ ∃ q ∈ ps, q.2.2 = false ∧ o = ⟨3, 5, q.2.1, q.1.toNat, 0⟩) := by
    rintro o b ⟨q, hq, ho⟩
    rw [hss] at hq
    replace hq : FirstP oldF (onlyF ps [fun q => !livF (allS 5) q]) q := hq
    rw [o4] at hq
    have := first_nil hq
    subst this
    rw [hvo, hrep] at ho
    split at ho
    · rename_i hc; exact ⟨fun _ => by omega, fun e => by rw [e] at ho; cases ho⟩
    · rename_i hc
      obtain ⟨u, hu, hb, hoe⟩ := ho
      rw [if_neg (by decide)] at hu
      replace hu : FirstP (fun a b => lesF (cntR (p00 (allS 5) [rR pa pc ps]) [rR pa pc ps]).ld b a) (onlyF ps [votF]) u := hu
      rw [o6] at hu
      have hlt : N < vtF ps := by
        rcases Nat.lt_trichotomy N (vtF ps) with h | h | h
        · exact h
        · exact absurd (.inr ⟨by omega, rfl⟩) hc
        · exact absurd (.inl (by omega)) hc
      refine ⟨fun e => ?_, fun e => ⟨hlt, u.1, ?_, ?_, hoe⟩⟩
      · have := first_no hu (by rw [← hb, e])
        have hv : vtF ps = 0 := by unfold vtF; rw [this]; rfl
        omega
      · exact (List.mem_filter.1 (first_yes hu (by rw [← hb, e]))).1
      · simpa using (List.mem_filter.1 (first_yes hu (by rw [← hb, e]))).2
  have hld : (cntR (p00 (allS 5) [rR pa pc ps]) [rR pa pc ps]).ld = cntL (fun _ => 0) ps := rfl
  cases h with
  | cons hs ht =>
    cases ht
    rcases hs with ⟨hq, rfl⟩ | ⟨_, _, i, S, o, h3, h4, h6, rfl⟩
    · rcases hq with (hq | hq) | hq
      · cases hq
      · rw [cntR_nm] at hq; cases hq
      · obtain ⟨oa, ha⟩ := hq 0 _ rfl
        obtain ⟨ob, hb⟩ := hq 1 _ rfl
        obtain ⟨oc, hc⟩ := hq 2 _ rfl
        have e1 := (pro oa false ha).1 rfl
        have e2 := (add ob false hb).1 rfl
        have e3 := (rem oc false hc).1 rfl
        exact .rest (by omega)
    · match i, h3, h6 with
      | 0, h3, _ =>
        obtain rfl := Option.some.inj h3
        obtain ⟨hv, q, q1, q2, rfl⟩ := (pro o true h4).2 rfl
        exact .prom q q1 q2 hv
      | 1, h3, _ =>
        obtain rfl := Option.some.inj h3
        obtain ⟨hl, s1, s2, s3, he⟩ := (add o true h4).2 rfl
        show RestP N ps [o]
        rw [he]
        exact .add o.store s1 s2 s3 hl
      | 2, h3, _ =>
        obtain rfl := Option.some.inj h3
        obtain ⟨hv, q, q1, q2, rfl⟩ := (rem o true h4).2 rfl
        exact .rem q q1 q2 hv
      | 3, h3, _ =>
        obtain rfl := Option.some.inj h3
        have := h4.2
        exact absurd this.symm (by show ¬ (decide ((0 : Int) < 0) && _) = true; simp)
      | 4, h3, _ =>
        obtain rfl := Option.some.inj h3
        cases h4
      | 5, h3, _ =>
        obtain rfl := Option.some.inj h3
        obtain ⟨b1, hg, u, hu, hb⟩ := h4
        have hb1 : b1 = true := by cases b1; simp at hb; rfl
        obtain ⟨_, _, g3, _⟩ := (gro o b1 hg).2 hb1
        have e := hb.symm
        simp only [Bool.and_eq_true, decide_eq_true_eq] at e
        have e2 := e.2
        rw [hld, cntL_none ps o.store _ g3] at e2
        have := cntL_one ps u.1.2.1 (fun _ => 0) hG.st
        omega
      | 6, h3, _ =>
        obtain rfl := Option.some.inj h3
        obtain ⟨q, hq, hb, _⟩ := h4
        have e := hb.symm
        simp only [Bool.and_eq_true, decide_eq_true_eq] at e
        have e2 := e.2
        have z : ∀ s, (cntR (p00 (allS 5) [rR pa pc ps]) [rR pa pc ps]).le s = 0 := fun s => rfl
        rw [z, z] at e2
        omega
      | i + 7, h3, _ => simp [seven] at h3
end Go.Proofs.YtedfjacmaidhkaaGreat
