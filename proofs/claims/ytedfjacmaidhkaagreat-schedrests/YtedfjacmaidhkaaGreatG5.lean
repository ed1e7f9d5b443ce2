/- A region that draws its order, whose first operations only read and whose others all wait for them: the head is walked once, in the order of the text; of what follows any order is asked. -/
import Derived.StillTailTactics
import Derived.Deep.RegionHeld3
import Derived.Test.YtedfjacmaidhkaaGreatG2
import Derived.Test.YtedfjacmaidhkaaGreatG4
import Derived.Test.YtedfjacmaidhkaaGreatG1
namespace Go.Proofs.YtedfjacmaidhkaaGreat
open Go
set_option linter.unusedVariables false
set_option maxRecDepth 100000

section
variable {P : Program} {ops : Array Oper} {md : Region.Mode} {w : World}

/-- Each operation behind number n waits for one that is not of the head. -/
def lateB (md : Region.Mode) (ops : Array Oper) (n : Nat) : Bool := (List.range ops.size).all fun t => decide (t ≤ n) || (List.range t).any fun s => decide (n ≤ s) && Region.waitsFor md ops t s
/-- The first n are listed, no other one. -/
def heads (ops : Array Oper) (n : Nat) : Array Bool := (List.range ops.size).toArray.map fun i => decide (i < n)

/-- While one of the head is not listed, none of the others may come up. -/
theorem late_waits {n : Nat} {listed : Array Bool} (hs : Region.sinkB md ops n = true) (hc : lateB md ops n = true) (inv : HeadInv md ops n listed) :
    ∀ (d i : Nat), n - i = d → i < n → listed.getD i true = false → ∀ t, n ≤ t → t ∉ Region.ready md ops listed := by
  intro d
  induction d using Nat.strongRecOn with
  | _ d ih =>
    intro i hd hi hun t ht hr
    obtain ⟨_, ot, hot, hall⟩ := mem_ready.1 hr
    have htl : t < ops.size := (Array.getElem?_eq_some_iff.1 hot).1
    -- an edge of t's to what is not listed
    have no : ∀ s, Region.waitsFor md ops t s = true → listed.getD s false = false → False := fun s hw hl => by
      obtain ⟨o', ho', e, he, hb, hon⟩ := Region.waitsFor_spec hw
      obtain rfl : o' = ot := Option.some.inj (ho'.symm.trans hot)
      have h2 := hall e he hb
      rw [hon, hl] at h2
      cases h2
    rcases Nat.lt_or_ge n t with htn | htn
    · have h1 := List.all_eq_true.1 hc t (List.mem_range.2 htl)
      simp only [Bool.or_eq_true, decide_eq_true_eq] at h1
      rcases h1 with h1 | h1
      · omega
      · obtain ⟨s, hs1, hs2⟩ := List.any_eq_true.1 h1
        simp only [Bool.and_eq_true, decide_eq_true_eq] at hs2
        exact no s hs2.2 (getD_both (inv.tail s hs2.1 (by have := List.mem_range.1 hs1; omega)))
    · obtain rfl : t = n := by omega
      obtain ⟨j, hj, hj2⟩ := List.any_eq_true.1 (List.all_eq_true.1 hs i (List.mem_range.2 hi))
      simp only [Bool.and_eq_true, decide_eq_true_eq] at hj2
      have hjt := List.mem_range.1 hj
      by_cases e : j = t
      · rw [e] at hj2
        exact no i hj2.2 (getD_both hun)
      · cases hl : listed.getD j false with
        | true =>
          obtain ⟨oj, hoj, e, he, hb, hon⟩ := Region.waitsFor_spec hj2.2
          have h2 := inv.closed j oj hoj hl e he hb
          rw [hon, getD_both hun] at h2
          cases h2
        | false => exact ih (t - j) (by omega) j rfl (by omega) (getD_in (by rw [inv.size]; omega) hl) t (Nat.le_refl _) hr

/-- One of the head that may come up is taken first. -/
theorem head_first {n i : Nat} {oi : Oper} {v : Value} {L : Array Bool → Act → Prop} (hi : ops[i]? = some oi) (hsel : ∀ (j : Nat) (o : Oper) cs b, ops[j]? = some o → o.op ≠ .select cs b)
    (hs : Region.sinkB md ops n = true) (hc : lateB md ops n = true) (hin : i < n) (hdone : ∀ listed a, L listed a → ∀ j ∈ Region.ready md ops listed, n ≤ j) :
    ∀ (f : Nat) (listed : Array Bool) (a : Act), HeadInv md ops n listed →
      (∀ j oj, ops[j]? = some oj → j ≠ i → listed.getD j true = false → (∀ e ∈ oj.after, Region.binds md e = true → e.on ≠ i) → oi.apart ops oj = true) →
      i ∈ Region.ready md ops listed → YieldsAt P ops w oi v a →
      wpAnyL P md ops w n L f (listed.setIfInBounds i true) (a.put oi.dst v) → wpAnyL P md ops w n L (f + 1) listed a := by
  intro f
  induction f with
  | zero =>
    intro listed a inv _ hr hy H
    have hun := (mem_ready.1 hr).1
    refine ⟨(fun h => by rw [h] at hr; cases hr), fun j hj => ?_⟩
    have hjn : j < n := Nat.lt_of_not_le (fun q => late_waits hs hc inv _ i rfl hin hun j q hj)
    by_cases e : j = i
    · subst e; exact ⟨hjn, hy.stOp hi H⟩
    · have := hdone _ _ H j (ready_mono hj e); omega
  | succ f ih =>
    intro listed a inv hfree hr hy H
    have hun := (mem_ready.1 hr).1
    refine ⟨(fun h => by rw [h] at hr; cases hr), fun j hj => ?_⟩
    have hjn : j < n := Nat.lt_of_not_le (fun q => late_waits hs hc inv _ i rfl hin hun j q hj)
    by_cases e : j = i
    · subst e; exact ⟨hjn, hy.stOp hi H⟩
    · refine ⟨hjn, ?_⟩
      obtain ⟨hjun, oj, hoj, hall⟩ := mem_ready.1 hj
      have hnot : ∀ e ∈ oj.after, Region.binds md e = true → e.on ≠ i := fun e he hb heq => by
        have h1 := hall e he hb
        rw [heq, getD_both hun] at h1
        cases h1
      refine stOp_mono (fun a' h3 => ih (listed.setIfInBounds j true) a' (inv.set hj hjn) (fun k ok hk hki hu hno => hfree k ok hk hki ?_ hno) (ready_mono hr (Ne.symm e)) h3.1 ?_)
        (stOp_put hoj (hfree j oj hoj e hjun hnot) (fun cs b => hsel i oi cs b hi) (fun cs b => hsel j oj cs b hoj) hy (H.2 j (ready_mono hj e)).2)
      · by_cases q : j = k
        · subst q; exact hjun
        · rw [getD_set_ne true q] at hu; exact hu
      · rw [Array.setIfInBounds_comm _ _ e]; exact h3.2

/-- May the first n come up in the order of the text, and do the others wait? -/
def headB (md : Region.Mode) (ops : Array Oper) (n : Nat) : Nat → Nat → Array Bool → Bool
  | 0, _, listed => decide (listed = heads ops n) && (Region.ready md ops listed).all (fun j => decide (n ≤ j))
  | f + 1, k, listed => (Region.ready md ops listed).contains k && Region.free md ops listed k && headB md ops n f (k + 1) (listed.setIfInBounds k true)
theorem head_lex {n : Nat} {Lq : Act → Prop} (hsel : Region.noSelect ops = true) (hs : Region.sinkB md ops n = true) (hc : lateB md ops n = true) :
    ∀ (l : List Oper) (k : Nat) (listed : Array Bool) (a : Act), (∀ j, j < l.length → l[j]? = ops[k + j]?) → k + l.length = n → HeadInv md ops n listed →
    headB md ops n l.length k listed = true → wpStill P ops w Lq l a →
    wpAnyL P md ops w n (fun listed' a' => (listed' = heads ops n ∧ ∀ j ∈ Region.ready md ops listed', n ≤ j) ∧ Lq a') l.length listed a
  | [], k, listed, a, _, hk, _, hB, h => by
    simp only [List.length_nil, headB, Bool.and_eq_true, decide_eq_true_eq, List.all_eq_true] at hB
    exact ⟨hB, h⟩
  | o :: l, k, listed, a, hl, hk, inv, hB, h => by
    have h0 : ops[k]? = some o := by simpa using (hl 0 (by simp)).symm
    simp only [List.length_cons, headB, Bool.and_eq_true] at hB
    obtain ⟨⟨hr, hf⟩, hB'⟩ := hB
    simp only [List.length_cons] at hk
    have hr' : k ∈ Region.ready md ops listed := by simpa using hr
    have hst : stOp P ops w k (wpStill P ops w Lq l) a := by unfold stOp; simp only [h0]; exact h
    obtain ⟨v, hy, hK⟩ := yieldsAt_of_stOp h0 hst
    exact head_first h0 (Region.noSelect_spec hsel) hs hc (by omega) (fun listed' a' hL => hL.1.2) l.length listed a inv (Region.free_spec h0 hf) hr' hy
      (head_lex hsel hs hc l (k + 1) _ _ (fun j hj => by have := hl (j + 1) (by simp; omega); simpa [Nat.add_assoc, Nat.add_comm 1 j] using this) (by omega) (inv.set hr' (by omega)) hB' hK)

def headOK (ops : Array Oper) (n : Nat) : Bool := Region.noSelect ops && decide (n < ops.size) && Region.sinkB .any ops n && lateB .any ops n && headB .any ops n n 0 (Array.replicate ops.size false)

/-- The law. -/
theorem wp_region_head {id : Nat} {Q : Exit → Act → World → Prop} {a : Act} {w : World} {l : List Oper} (n : Nat) (hm : P.follows .mixedOrders = true) (hB : headOK l.toArray n = true)
    (h : wpStill P l.toArray w.drew (fun a' => wpAny P .any l.toArray Q (l.toArray.size - n) (heads l.toArray n) a' w.drew) (l.take n) a) : (Code.region id l.toArray true).wp P Q a w := by
  simp only [headOK, Bool.and_eq_true, decide_eq_true_eq] at hB
  obtain ⟨⟨⟨⟨hsel, hn⟩, hs⟩, hc⟩, hh⟩ := hB
  have hn' : n < l.length := by simpa using hn
  have htl : (l.take n).length = n := by simp; omega
  have inv0 : HeadInv .any l.toArray n (Array.replicate l.toArray.size false) :=
    ⟨by simp, (fun j oj _ hl => by rw [getD_replicate_false] at hl; cases hl), fun t _ ht => getD_in (by simpa using ht) (getD_replicate_false _ _)⟩
  have H := head_lex (md := .any) hsel hs hc (l.take n) 0 _ a (fun j hj => by
    have hj' : j < n := by rw [htl] at hj; exact hj
    simp [hj']) (by simpa using htl) inv0 (by rw [htl]; exact hh) h
  refine wp_region_any hm ?_
  have := wpAny_of_head (Q' := Q) (g := l.toArray.size - n) (fun listed a' hL => by rw [hL.1.1]; exact hL.2) _ _ _ H
  rw [htl, show n + (l.toArray.size - n) = l.toArray.size by omega] at this
  exact this
end
end Go.Proofs.YtedfjacmaidhkaaGreat

/- A region that draws its order, of which some (L: stores into what the others read) wait for every operation that is taken first: what is held must be kept by the others alone. General: nothing of the program is named here. -/
namespace Go.Proofs.YtedfjacmaidhkaaGreat
open Go
set_option linter.unusedVariables false
set_option maxRecDepth 100000

section
variable {P : Program} {ops : Array Oper} {md : Region.Mode} {Q : Exit → Act → World → Prop} {S : World → Prop} {L : List Nat}

/-- Whatever order is picked from here on; S holds behind every operation but those of L. -/
def wpAnyN (P : Program) (md : Region.Mode) (ops : Array Oper) (Q : Exit → Act → World → Prop) (S : World → Prop) (L : List Nat) : Nat → Array Bool → Act → World → Prop
  | 0, listed, a, w => Region.ready md ops listed = [] ∧ Q .normal a w
  | fuel + 1, listed, a, w =>
    (Region.ready md ops listed = [] → Q .normal a w) ∧
    ∀ i ∈ Region.ready md ops listed, wpOp P ops Q i (fun a' w' => (L.contains i = false → S w') ∧ wpAnyN P md ops Q S L fuel (listed.setIfInBounds i true) a' w') a w
theorem wpAny_of_N : ∀ (fuel : Nat) (listed : Array Bool) (a : Act) (w : World), wpAnyN P md ops Q S L fuel listed a w → wpAny P md ops Q fuel listed a w
  | 0, _, _, _, h => h
  | fuel + 1, _, _, _, h => ⟨h.1, fun i hi => wpOp_mono (fun a' w' h' => wpAny_of_N fuel _ a' w' h'.2) (h.2 i hi)⟩
/-- Every operation of L waits for number i. -/
def lateN (md : Region.Mode) (ops : Array Oper) (L : List Nat) (i : Nat) : Bool := L.all fun t => Region.waitsFor md ops t i

theorem wpAnyN_first {i : Nat} {oi : Oper} {v : Value} (hi : ops[i]? = some oi) (hlate : lateN md ops L i = true) (hsel : ∀ (j : Nat) (o : Oper) cs b, ops[j]? = some o → o.op ≠ .select cs b)
    (hQ : ∀ c a w, Q (.panic c) (a.put oi.dst v) w → Q (.panic c) a w) :
    ∀ (fuel : Nat) (listed : Array Bool) (a : Act) (w : World),
      (∀ j oj, ops[j]? = some oj → j ≠ i → listed.getD j true = false → (∀ e ∈ oj.after, Region.binds md e = true → e.on ≠ i) → oi.apart ops oj = true) →
      i ∈ Region.ready md ops listed → YieldsIf P ops S oi v a → S w →
      wpAnyN P md ops Q S L fuel (listed.setIfInBounds i true) (a.put oi.dst v) w → wpAnyN P md ops Q S L (fuel + 1) listed a w := by
  intro fuel
  induction fuel with
  | zero =>
    intro listed a w _ hr hy hS H
    refine ⟨fun h => (by rw [h] at hr; cases hr), fun j hj => ?_⟩
    by_cases hji : j = i
    · subst hji; exact hy.wpOp hi hS ⟨fun _ => hS, H⟩
    · have := ready_mono hj hji
      rw [H.1] at this
      cases this
  | succ fuel ih =>
    intro listed a w hfree hr hy hS H
    refine ⟨fun h => (by rw [h] at hr; cases hr), fun j hj => ?_⟩
    by_cases hji : j = i
    · subst hji; exact hy.wpOp hi hS ⟨fun _ => hS, H⟩
    · have h1 := H.2 j (ready_mono hj hji)
      obtain ⟨hjun, oj, hoj, hall⟩ := mem_ready.1 hj
      have hun := (mem_ready.1 hr).1
      have hnot : ∀ e ∈ oj.after, Region.binds md e = true → e.on ≠ i := fun e he hb heq => by
        have h1 := hall e he hb
        rw [heq, getD_both hun] at h1
        cases h1
      have hjn : L.contains j = false := by
        cases hc : L.contains j with
        | false => rfl
        | true =>
          have h2 := List.all_eq_true.1 hlate j (by simpa using hc)
          obtain ⟨o', ho', e, he, hb, hon⟩ := Region.waitsFor_spec h2
          obtain rfl : o' = oj := Option.some.inj (ho'.symm.trans hoj)
          exact absurd hon (hnot e he hb)
      have h2 := wpOp_putIf hoj (hfree j oj hoj hji hjun hnot) (fun cs b => hsel i oi cs b hi) (fun cs b => hsel j oj cs b hoj) hQ hy h1
      have hfree' : ∀ k ok, ops[k]? = some ok → k ≠ i → (listed.setIfInBounds j true).getD k true = false →
          (∀ e ∈ ok.after, Region.binds md e = true → e.on ≠ i) → oi.apart ops ok = true := fun k ok hk hki hun hno => by
        refine hfree k ok hk hki ?_ hno
        by_cases hjk : j = k
        · subst hjk; exact hjun
        · rw [getD_set_ne true hjk] at hun; exact hun
      refine wpOp_mono (fun a' w' h3 => ⟨fun _ => h3.2.1 hjn, ih (listed.setIfInBounds j true) a' w' hfree' (ready_mono hr (Ne.symm hji)) h3.1 (h3.2.1 hjn) ?_⟩) h2
      rw [Array.setIfInBounds_comm _ _ hji]
      exact h3.2.2
theorem wpAnyN_take {i : Nat} {oi : Oper} {v : Value} {fuel : Nat} {listed : Array Bool} {a : Act} {w : World} (hi : ops[i]? = some oi) (hlate : lateN md ops L i = true)
    (hs : Region.noSelect ops = true) (hf : Region.free md ops listed i = true) (hr : (Region.ready md ops listed).contains i = true)
    (hQ : ∀ c a w, Q (.panic c) (a.put oi.dst v) w → Q (.panic c) a w) (hy : YieldsIf P ops S oi v a) (hS : S w)
    (h : wpAnyN P md ops Q S L fuel (listed.setIfInBounds i true) (a.put oi.dst v) w) : wpAnyN P md ops Q S L (fuel + 1) listed a w :=
  wpAnyN_first hi hlate (Region.noSelect_spec hs) hQ fuel listed a w (Region.free_spec hi hf) (by simpa using hr) hy hS h
/-- One that alone may come up. -/
theorem wpAnyN_one {i : Nat} {o : Oper} {fuel : Nat} {listed : Array Bool} {a : Act} {w : World} (hr : Region.ready md ops listed = [i]) (ho : ops[i]? = some o)
    (h : ∀ K' : Act → World → Prop, (∀ a w, (L.contains i = false → S w) → wpAnyN P md ops Q S L fuel (listed.setIfInBounds i true) a w → K' a w) → if Region.wanted o (yielded ops a.tmps) = true then Oper.wp P o a w K' Q else K' (a.put o.dst undef) w) : wpAnyN P md ops Q S L (fuel + 1) listed a w :=
  ⟨fun h0 => absurd (hr ▸ h0) (by simp), fun j hj => by
    rw [hr] at hj
    obtain rfl := List.mem_singleton.1 hj
    exact wpOp_step ho (fun K' hK => h K' (fun a w h1 h2 => hK a w ⟨h1, h2⟩))⟩
theorem wp_region_heldN {id : Nat} {a : Act} {w : World} (hm : P.follows .mixedOrders = true)
    (h : wpAnyN P .any ops Q S L ops.size (Array.replicate ops.size false) a w.drew) : (Code.region id ops true).wp P Q a w :=
  wp_region_any hm (wpAny_of_N _ _ _ _ h)
end
end Go.Proofs.YtedfjacmaidhkaaGreat

/- A region that draws its order, by what holds behind any of its operations: 'I D a w' with D the set of those that were carried out. General: nothing of the program is named here. -/
namespace Go.Proofs.YtedfjacmaidhkaaGreat
open Go
set_option linter.unusedVariables false
set_option maxRecDepth 100000

/-- Each operation waits for earlier ones alone. -/
def backB (ops : Array Oper) : Bool := (List.range ops.size).all fun j => match ops[j]? with | some o => o.after.all (fun e => decide (e.on < j)) | none => true
theorem backB_spec {ops : Array Oper} (h : backB ops = true) {j : Nat} {o : Oper} (ho : ops[j]? = some o) : ∀ e ∈ o.after, e.on < j := by
  have hj : j < ops.size := (Array.getElem?_eq_some_iff.1 ho).1
  have := List.all_eq_true.1 h j (List.mem_range.2 hj)
  rw [ho] at this
  intro e he
  exact of_decide_eq_true (Array.all_eq_true_iff_forall_mem.1 this e he)
section
variable {P : Program} {ops : Array Oper} {Q : Exit → Act → World → Prop}
theorem ready_nil {listed : Array Bool} (hb : backB ops = true) (hsz : listed.size = ops.size) (h : Region.ready .any ops listed = []) : ∀ i, i < ops.size → listed.getD i true = true := by
  intro i
  induction i using Nat.strongRecOn with
  | _ i ih =>
    intro hi
    cases hc : listed.getD i true with
    | true => rfl
    | false =>
      obtain ⟨o, ho⟩ : ∃ o, ops[i]? = some o := ⟨_, Array.getElem?_eq_getElem hi⟩
      have : i ∈ Region.ready .any ops listed := mem_ready.2 ⟨hc, o, ho, fun e he _ => by
        have h1 := backB_spec hb ho e he
        have h2 := ih e.on h1 (by omega)
        have h3 : e.on < listed.size := by omega
        simp only [Array.getD, h3, dite_true] at h2 ⊢
        exact h2⟩
      rw [h] at this
      cases this
theorem count_put (l : Array Bool) (i : Nat) (h : l.getD i true = false) : (l.setIfInBounds i true).toList.count false + 1 = l.toList.count false := by
  have hi : i < l.size := by
    by_cases q : i < l.size
    · exact q
    · simp [Array.getD, q] at h
  have hl : l.toList[i]'(by simpa using hi) = false := by simpa [Array.getD, hi] using h
  rw [Array.toList_setIfInBounds, List.count_set (by simpa using hi)]
  have hpos : 0 < l.toList.count false := List.count_pos_iff.2 (by rw [← hl]; exact List.getElem_mem _)
  have e : (if l.toList[i]'(by simpa using hi) == false then 1 else 0) = 1 := by rw [hl]; rfl
  rw [e]
  simp only [Bool.true_beq, if_false, Nat.add_zero, reduceCtorEq]
  first | omega | (simp; omega)
theorem wpAny_inv (hb : backB ops = true) (I : (Nat → Bool) → Act → World → Prop)
    (hstep : ∀ (D : Nat → Bool) i o a w, I D a w → ops[i]? = some o → D i = false → (∀ e ∈ o.after, Region.binds .any e = true → D e.on = true) → ∀ K' : Act → World → Prop, (∀ a w, I (fun j => if j = i then true else D j) a w → K' a w) → if Region.wanted o (yielded ops a.tmps) = true then Oper.wp P o a w K' Q else K' (a.put o.dst undef) w)
    (hend : ∀ D a w, I D a w → (∀ i, i < ops.size → D i = true) → Q .normal a w) :
    ∀ (fuel : Nat) (listed : Array Bool) (a : Act) (w : World), listed.size = ops.size → listed.toList.count false ≤ fuel → I (fun j => listed.getD j true) a w → wpAny P .any ops Q fuel listed a w := by
  intro fuel
  induction fuel with
  | zero =>
    intro listed a w hsz hc hI
    have hall : ∀ i, i < ops.size → listed.getD i true = true := fun i hi => by
      cases h : listed.getD i true with
      | true => rfl
      | false => have := count_put listed i h; omega
    refine ⟨?_, hend _ a w hI hall⟩
    cases hr : Region.ready .any ops listed with
    | nil => rfl
    | cons j t =>
      have hj : j ∈ Region.ready .any ops listed := by rw [hr]; exact List.mem_cons_self ..
      obtain ⟨h1, o, ho, _⟩ := mem_ready.1 hj
      rw [hall j (Array.getElem?_eq_some_iff.1 ho).1] at h1
      cases h1
  | succ fuel ih =>
    intro listed a w hsz hc hI
    refine ⟨fun h => hend _ a w hI (ready_nil hb hsz h), fun i hi => ?_⟩
    obtain ⟨h1, o, ho, haf⟩ := mem_ready.1 hi
    have hlt : i < listed.size := by rw [hsz]; exact (Array.getElem?_eq_some_iff.1 ho).1
    refine wpOp_step ho (fun K' hK => hstep _ i o a w hI ho h1 (fun e he hbd => ?_) K' (fun a' w' hI' => hK a' w' (ih _ a' w' (by simpa using hsz) (by have := count_put listed i h1; omega) ?_)))
    · have h2 := haf e he hbd
      have h3 : e.on < listed.size := by
        by_cases q : e.on < listed.size
        · exact q
        · simp [Array.getD, q] at h2
      simp only [Array.getD, h3, dite_true] at h2 ⊢
      exact h2
    · have e : (fun j => (listed.setIfInBounds i true).getD j true) = fun j => if j = i then true else listed.getD j true := by
        funext j
        by_cases hji : j = i
        · subst hji; simp [Array.getD]
        · rw [if_neg hji]
          by_cases hj : j < listed.size
          · have hij : ¬ i = j := fun q => hji q.symm
            simp [Array.getD, hj, hij]
          · simp [Array.getD, hj]
      rw [e]
      exact hI'
theorem wp_region_inv {id : Nat} {a : Act} {w : World} (hm : P.follows .mixedOrders = true) (hb : backB ops = true) (I : (Nat → Bool) → Act → World → Prop) (h0 : I (fun j => (Array.replicate ops.size false).getD j true) a w.drew)
    (hstep : ∀ (D : Nat → Bool) i o a w, I D a w → ops[i]? = some o → D i = false → (∀ e ∈ o.after, Region.binds .any e = true → D e.on = true) → ∀ K' : Act → World → Prop, (∀ a w, I (fun j => if j = i then true else D j) a w → K' a w) → if Region.wanted o (yielded ops a.tmps) = true then Oper.wp P o a w K' Q else K' (a.put o.dst undef) w)
    (hend : ∀ D a w, I D a w → (∀ i, i < ops.size → D i = true) → Q .normal a w) : (Code.region id ops true).wp P Q a w :=
  wp_region_any hm (wpAny_inv hb I hstep hend _ _ _ _ (by simp) (by simp) h0)
end
end Go.Proofs.YtedfjacmaidhkaaGreat

/- Plain mathematics of what is read back: numbers, ordered texts, frames and rows, both ways. No program is named here. -/
namespace Go.Proofs.YtedfjacmaidhkaaGreat.M
set_option maxRecDepth 100000

/-- The fields of a row, one behind the other. -/
def rowB : List (List UInt8) → List UInt8
  | [] => []
  | f :: r => vi f.length ++ f ++ rowB r
def row (ls : List (List UInt8)) : List UInt8 := vi ls.length ++ rowB ls

theorem rowB_app (a b : List (List UInt8)) : rowB (a ++ b) = rowB a ++ rowB b := by
  induction a with
  | nil => rfl
  | cons f r ih => simp [rowB, ih]
theorem rowB_snoc (ls : List (List UInt8)) (k : Nat) (h : k < ls.length) : rowB (ls.take (k + 1)) = rowB (ls.take k) ++ vi ls[k].length ++ ls[k] := by
  rw [List.take_succ_eq_append_getElem h, rowB_app]
  simp [rowB]
theorem rowB_le (ls : List (List UInt8)) (k : Nat) : (rowB (ls.take k)).length ≤ (rowB ls).length := by
  have : rowB ls = rowB (ls.take k) ++ rowB (ls.drop k) := by rw [← rowB_app, List.take_append_drop]
  rw [this]; simp
theorem rowB_field (ls : List (List UInt8)) (k : Nat) (h : k < ls.length) : (rowB (ls.take k)).length + (vi ls[k].length).length + ls[k].length ≤ (rowB ls).length := by
  have h1 := rowB_le ls (k + 1)
  rw [rowB_snoc ls k h] at h1
  simp only [List.length_append] at h1
  omega

/-- k fields read: the fields, what stands behind, the error. -/
def rf : Nat → List UInt8 → List (List UInt8) × List UInt8 × Nat
  | 0, l => ([], l, 0)
  | k + 1, l =>
    if (tv l).2.2 ≠ 0 then ([], [], (tv l).2.2)
    else if (tv l).2.1.length < (tv l).1 then ([], [], 10)
    else if (rf k ((tv l).2.1.drop (tv l).1)).2.2 ≠ 0 then ([], [], (rf k ((tv l).2.1.drop (tv l).1)).2.2)
    else ((tv l).2.1.take (tv l).1 :: (rf k ((tv l).2.1.drop (tv l).1)).1, (rf k ((tv l).2.1.drop (tv l).1)).2.1, 0)
/-- What a row is read as: its fields, the error. -/
def tr (l : List UInt8) : List (List UInt8) × Nat :=
  if (tv l).2.2 ≠ 0 then ([], (tv l).2.2)
  else if (tv l).2.1.length < (tv l).1 then ([], 12)
  else if (rf (tv l).1 (tv l).2.1).2.2 ≠ 0 then ([], (rf (tv l).1 (tv l).2.1).2.2)
  else if (rf (tv l).1 (tv l).2.1).2.1.length ≠ 0 then ([], 12)
  else ((rf (tv l).1 (tv l).2.1).1, 0)

/-- One field read. -/
def fd (l : List UInt8) : List UInt8 × List UInt8 × Nat := if (tv l).2.2 ≠ 0 then ([], [], (tv l).2.2) else part (tv l).2.1 (tv l).1
/-- k fields read, behind those that were read so far. -/
def rfA : Nat → List (List UInt8) → List UInt8 → List (List UInt8) × List UInt8 × Nat
  | 0, fs, l => (fs, l, 0)
  | k + 1, fs, l => if (fd l).2.2 ≠ 0 then ([], [], (fd l).2.2) else rfA k (fs ++ [(fd l).1]) (fd l).2.1
theorem rfA_rf (k : Nat) (fs : List (List UInt8)) (l : List UInt8) : rfA k fs l = if (rf k l).2.2 ≠ 0 then ([], [], (rf k l).2.2) else (fs ++ (rf k l).1, (rf k l).2.1, 0) := by
  induction k generalizing fs l with
  | zero => simp [rfA, rf]
  | succ k ih =>
    rw [rfA, rf]
    unfold fd part
    by_cases h1 : (tv l).2.2 ≠ 0
    · simp only [if_pos h1]
    · simp only [if_neg h1]
      by_cases h2 : (tv l).2.1.length < (tv l).1
      · simp [if_pos h2]
      · simp only [if_neg h2, ne_eq, not_true_eq_false, if_false]
        rw [ih]
        by_cases h3 : (rf k ((tv l).2.1.drop (tv l).1)).2.2 ≠ 0
        · simp only [if_pos h3]
        · simp only [if_neg h3, ne_eq, not_true_eq_false, if_false, List.append_assoc, List.singleton_append]
theorem rfA_nil (k : Nat) (l : List UInt8) : rfA k [] l = if (rf k l).2.2 ≠ 0 then ([], [], (rf k l).2.2) else ((rf k l).1, (rf k l).2.1, 0) := by simpa using rfA_rf k [] l
theorem tr_rfA (l : List UInt8) (h1 : (tv l).2.2 = 0) (h2 : (tv l).1 ≤ (tv l).2.1.length) : tr l = if (rfA (tv l).1 [] (tv l).2.1).2.2 ≠ 0 then ([], (rfA (tv l).1 [] (tv l).2.1).2.2) else if (rfA (tv l).1 [] (tv l).2.1).2.1.length ≠ 0 then ([], 12) else ((rfA (tv l).1 [] (tv l).2.1).1, 0) := by
  unfold tr
  rw [if_neg (by simp [h1]), if_neg (by omega), rfA_nil]
  by_cases h3 : (rf (tv l).1 (tv l).2.1).2.2 ≠ 0
  · simp only [if_pos h3]
  · simp only [if_neg h3, ne_eq, not_true_eq_false, if_false]
theorem fd_len (l : List UInt8) (ht : (tv l).2.1.length ≤ l.length) : (fd l).1.length ≤ l.length ∧ (fd l).2.1.length ≤ l.length := by
  unfold fd part
  split
  · simp
  · split
    · simp
    · simp only [List.length_take, List.length_drop]; omega

theorem viF_pos (k n : Nat) : 1 ≤ (viF k n).length := by
  cases k with
  | zero => simp [viF]
  | succ k => rw [viF]; split <;> simp
theorem vi_pos (n : Nat) : 1 ≤ (vi n).length := viF_pos 9 n

theorem rf_back (ls : List (List UInt8)) (r : List UInt8) (h : ∀ f ∈ ls, f.length < 18446744073709551616) : rf ls.length (rowB ls ++ r) = (ls, r, 0) := by
  induction ls with
  | nil => rfl
  | cons f ls ih =>
    have hf := h f (List.mem_cons_self ..)
    have e : tv (rowB (f :: ls) ++ r) = (f.length, f ++ (rowB ls ++ r), 0) := by
      rw [rowB, List.append_assoc, List.append_assoc]; exact tv_vi _ _ hf
    rw [List.length_cons, rf, e]
    simp only [ne_eq, not_true_eq_false, if_false]
    rw [if_neg (by simp), List.drop_left' rfl, List.take_left' rfl, ih (fun g hg => h g (List.mem_cons_of_mem _ hg))]
    simp
theorem rowB_pos (ls : List (List UInt8)) : ls.length ≤ (rowB ls).length := by
  induction ls with
  | nil => simp
  | cons f r ih => have := vi_pos f.length; simp only [rowB, List.length_append, List.length_cons]; omega
theorem tr_row (ls : List (List UInt8)) (hn : ls.length < 18446744073709551616) (h : ∀ f ∈ ls, f.length < 18446744073709551616) : tr (row ls) = (ls, 0) := by
  have e : tv (row ls) = (ls.length, rowB ls, 0) := tv_vi _ _ hn
  have e2 : rf ls.length (rowB ls) = (ls, [], 0) := by simpa using rf_back ls [] h
  have := rowB_pos ls
  unfold tr
  rw [e]
  simp only [ne_eq, not_true_eq_false, if_false]
  rw [if_neg (by omega), e2]
  simp

/-- The converse: what is read as a number is written as just that. -/
theorem viF_val (k s : Nat) (l : List UInt8) (hs : s ≤ k) (hk : k ≤ 9) (hl : l.length = s + 1) (h1 : ∀ j, (h : j < s) → 128 ≤ (l[j]'(by omega)).toNat) (h2 : (l[s]'(by omega)).toNat < 128) (h3 : 0 < s → (l[s]'(by omega)).toNat ≠ 0) :
    viF k (val l) = l := by
  induction k generalizing s l with
  | zero =>
    obtain rfl : s = 0 := by omega
    match l, hl with
    | [x], _ =>
      simp at h2
      have e : val [x] = x.toNat := by simp [val]; omega
      rw [e, viF, UInt8.ofNat_toNat]
  | succ k ih =>
    match l, hl with
    | x :: r, hl =>
      cases s with
      | zero =>
        have : r = [] := by simpa using hl
        subst this
        simp at h2
        have e : val [x] = x.toNat := by simp [val]; omega
        rw [e, viF, if_pos h2, UInt8.ofNat_toNat]
      | succ s =>
        have hx := h1 0 (by omega)
        simp only [List.getElem_cons_zero] at hx
        have hlt := x.toNat_lt
        have hr := ih s r (by omega) (by omega) (by simpa using hl) (fun j hj => by simpa using h1 (j + 1) (by omega)) (by simpa using h2) (fun _ => by simpa using h3 (by omega))
        have hv : 1 ≤ val r := by
          have hrl : r.length = s + 1 := by simpa using hl
          have hlast : r[s].toNat ≠ 0 := by simpa using h3 (by omega)
          have hlast2 : r[s].toNat < 128 := by simpa using h2
          have e : r = r.take s ++ [r[s]] := by
            have := List.take_succ_eq_append_getElem (l := r) (i := s) (by omega)
            rw [List.take_of_length_le (by omega)] at this
            exact this
          rw [e, val_append]
          have hp : 0 < 128 ^ (r.take s).length := Nat.pow_pos (by decide)
          have hq : 1 ≤ val [r[s]] := by simp [val]; omega
          have := Nat.mul_le_mul hp hq
          omega
        rw [val, viF, if_neg (by omega)]
        rw [show (x.toNat % 128 + 128 * val r) % 128 + 128 = x.toNat by omega, show (x.toNat % 128 + 128 * val r) / 128 = val r by omega, hr, UInt8.ofNat_toNat]

theorem cont_out (m : Nat) (l : List UInt8) : (∀ j, (h : j < cont m l) → (h' : j < l.length) → 128 ≤ l[j].toNat) ∧ (cont m l < m → (h : cont m l < l.length) → l[cont m l].toNat < 128) := by
  induction m generalizing l with
  | zero => exact ⟨fun j h => by simp [cont] at h, fun h => by omega⟩
  | succ m ih =>
    cases l with
    | nil => exact ⟨fun j h => by simp [cont] at h, fun _ h => by simp at h⟩
    | cons x l =>
      obtain ⟨i1, i2⟩ := ih l
      by_cases hx : 128 ≤ x.toNat
      · have e : cont (m + 1) (x :: l) = cont m l + 1 := by simp only [cont]; rw [if_pos hx]
        refine ⟨fun j h h' => ?_, fun h h' => ?_⟩
        · cases j with
          | zero => simpa using hx
          | succ j => simpa using i1 j (by omega) (by simpa using h')
        · have := i2 (by omega) (by rw [e] at h'; simpa using h')
          simp only [e, List.getElem_cons_succ]; exact this
      · have e : cont (m + 1) (x :: l) = 0 := by simp only [cont]; rw [if_neg hx]
        refine ⟨fun j h => by omega, fun h h' => ?_⟩
        simp only [e, List.getElem_cons_zero]; omega

theorem tv_form (l : List UInt8) (h : (tv l).2.2 = 0) : vi (tv l).1 ++ (tv l).2.1 = l := by
  obtain ⟨c1, c2⟩ := cont_out 10 l
  have hle := cont_le 10 l
  unfold tv at h ⊢
  simp only [] at h ⊢
  by_cases h1 : cont 10 l = 10
  · rw [if_pos h1] at h; cases h
  · rw [if_neg h1] at h ⊢
    by_cases h2 : l.length ≤ cont 10 l
    · rw [if_pos h2] at h; cases h
    · rw [if_neg h2] at h ⊢
      by_cases h3 : 0 < cont 10 l ∧ (l.getD (cont 10 l) 0).toNat = 0 ∨ cont 10 l = 9 ∧ 1 < (l.getD (cont 10 l) 0).toNat
      · rw [if_pos h3] at h; cases h
      · rw [if_neg h3]
        have hlt : cont 10 l < l.length := by omega
        have eg : l.getD (cont 10 l) 0 = l[cont 10 l] := by simp [hlt]
        rw [eg] at h3
        have := viF_val 9 (cont 10 l) (l.take (cont 10 l + 1)) (by omega) (Nat.le_refl _) (by simp; omega) (fun j hj => by rw [List.getElem_take]; exact c1 j hj (by omega)) (by rw [List.getElem_take]; exact c2 (by omega) hlt) (fun h0 => by rw [List.getElem_take]; intro q; exact h3 (.inl ⟨h0, q⟩))
        show viF 9 (val (l.take (cont 10 l + 1))) ++ l.drop (cont 10 l + 1) = l
        rw [this, List.take_append_drop]

theorem rf_form (k : Nat) (l : List UInt8) (h : (rf k l).2.2 = 0) : (rf k l).1.length = k ∧ rowB (rf k l).1 ++ (rf k l).2.1 = l := by
  induction k generalizing l with
  | zero => exact ⟨rfl, rfl⟩
  | succ k ih =>
    rw [rf] at h ⊢
    by_cases h1 : (tv l).2.2 ≠ 0
    · rw [if_pos h1] at h; exact absurd h h1
    · rw [if_neg h1] at h ⊢
      by_cases h2 : (tv l).2.1.length < (tv l).1
      · rw [if_pos h2] at h; cases h
      · rw [if_neg h2] at h ⊢
        by_cases h3 : (rf k ((tv l).2.1.drop (tv l).1)).2.2 ≠ 0
        · rw [if_pos h3] at h; exact absurd h h3
        · rw [if_neg h3]
          have h1' : (tv l).2.2 = 0 := by simpa using h1
          obtain ⟨q1, q2⟩ := ih _ (show _ = 0 by simpa using h3)
          have ht := tv_form l h1'
          refine ⟨by simp [q1], ?_⟩
          show vi ((tv l).2.1.take (tv l).1).length ++ (tv l).2.1.take (tv l).1 ++ rowB _ ++ _ = l
          rw [List.append_assoc, List.append_assoc, q2, List.take_append_drop, List.length_take, Nat.min_eq_left (by omega), ht]
theorem tr_form (l : List UInt8) (h : (tr l).2 = 0) : row (tr l).1 = l := by
  unfold tr at h ⊢
  by_cases h1 : (tv l).2.2 ≠ 0
  · rw [if_pos h1] at h; exact absurd h h1
  · rw [if_neg h1] at h ⊢
    by_cases h2 : (tv l).2.1.length < (tv l).1
    · rw [if_pos h2] at h; cases h
    · rw [if_neg h2] at h ⊢
      by_cases h3 : (rf (tv l).1 (tv l).2.1).2.2 ≠ 0
      · rw [if_pos h3] at h; exact absurd h h3
      · rw [if_neg h3] at h ⊢
        by_cases h4 : (rf (tv l).1 (tv l).2.1).2.1.length ≠ 0
        · rw [if_pos h4] at h; cases h
        · rw [if_neg h4]
          obtain ⟨q1, q2⟩ := rf_form _ _ (show (rf (tv l).1 (tv l).2.1).2.2 = 0 by simpa using h3)
          have e : (rf (tv l).1 (tv l).2.1).2.1 = [] := List.length_eq_zero_iff.1 (by simpa using h4)
          rw [e, List.append_nil] at q2
          have ht := tv_form l (by simpa using h1)
          show vi (rf (tv l).1 (tv l).2.1).1.length ++ rowB _ = l
          rw [q1, q2, ht]

theorem be_num4 (u : List UInt8) (k : Nat) (h : u.length = k) : be k (num u) = u := num_inj _ _ (by rw [be_length, h]) (by rw [num_be k _ (by have := num_lt u; rw [h] at this; exact this)])

theorem tf_form (l : List UInt8) (h : (tf l).2.2 = 0) : frame (tf l).1 ++ (tf l).2.1 = l := by
  unfold tf at h ⊢
  simp only [] at h ⊢
  by_cases h1 : (tv l).2.2 ≠ 0
  · rw [if_pos h1] at h; exact absurd h h1
  · rw [if_neg h1] at h ⊢
    by_cases h2 : (tv l).2.1.length < 4
    · rw [if_pos h2] at h; cases h
    · rw [if_neg h2] at h ⊢
      by_cases h3 : ((tv l).2.1.drop 4).length < (tv l).1
      · rw [if_pos h3] at h; cases h
      · rw [if_neg h3] at h ⊢
        by_cases h4 : crc (((tv l).2.1.drop 4).take (tv l).1) ≠ num ((tv l).2.1.take 4)
        · rw [if_pos h4] at h; cases h
        · rw [if_neg h4]
          have ht := tv_form l (by simpa using h1)
          have h4' : crc (((tv l).2.1.drop 4).take (tv l).1) = num ((tv l).2.1.take 4) := by simpa using h4
          show frame (((tv l).2.1.drop 4).take (tv l).1) ++ ((tv l).2.1.drop 4).drop (tv l).1 = l
          unfold frame
          rw [h4', be_num4 _ 4 (by simp; omega), List.append_assoc, List.append_assoc, List.take_append_drop, List.take_append_drop, List.length_take, Nat.min_eq_left (by omega), ht]

/-- A last group read. -/
theorem tg_pad (l r : List UInt8) (h : l.length < 8) : tg (pad l ++ r) = (l, 0) := by
  have hp := pad_length l h
  have e8 : (pad l ++ r).getD 8 0 = UInt8.ofNat (247 + l.length) := by
    rw [List.getD_eq_getElem?_getD, List.getElem?_append_left (by omega)]
    have : (pad l)[8]? = some (UInt8.ofNat (247 + l.length)) := by
      unfold pad
      rw [List.getElem?_append_right (by simp; omega)]
      have : (l ++ List.replicate (8 - l.length) (0 : UInt8)).length = 8 := by simp; omega
      rw [this]; rfl
    rw [this]; rfl
  have en : (UInt8.ofNat (247 + l.length)).toNat = 247 + l.length := by rw [UInt8.toNat_ofNat']; omega
  have t8 : (pad l ++ r).take 8 = l ++ List.replicate (8 - l.length) 0 := by
    unfold pad
    rw [List.append_assoc]
    exact List.take_left' (by simp; omega)
  unfold tg
  rw [if_neg (by simp [hp]), e8, en, if_neg (by omega), t8, show 247 + l.length - 247 = l.length by omega, List.drop_left' rfl, if_pos (by simp)]
  congr 1
  unfold pad
  rw [List.append_assoc, List.append_assoc]
  exact List.take_left' rfl
theorem tg_full (a r : List UInt8) (h : a.length = 8) : tg (a ++ [255] ++ r) = (a, 0) := by
  have e8 : (a ++ [255] ++ r).getD 8 0 = 255 := by
    rw [List.getD_eq_getElem?_getD, List.append_assoc, List.getElem?_append_right (by omega), h]; rfl
  have t8 : (a ++ [255] ++ r).take 8 = a := by rw [List.append_assoc]; exact List.take_left' h
  unfold tg
  rw [if_neg (by simp only [List.length_append, h, List.length_singleton]; omega), e8, if_neg (by decide), t8]
  rw [show (255 : UInt8).toNat - 247 = 8 by decide, if_pos (by rw [List.drop_of_length_le (by omega)]; rfl), t8]

theorem tbA_back (k n : Nat) (acc l r : List UInt8) (hn : l.length < 8 * (k + 1)) (hk : k < n) : tbA n acc (obF k l ++ r) = (acc ++ l, r, 0) := by
  induction k generalizing n acc l with
  | zero =>
    obtain ⟨n, rfl⟩ : ∃ m, n = m + 1 := ⟨n - 1, by omega⟩
    rw [tbA, obF, tg_pad l r (by omega)]
    simp only [ne_eq, not_true_eq_false, if_false]
    rw [if_pos (by omega), List.drop_left' (pad_length l (by omega))]
  | succ k ih =>
    obtain ⟨n, rfl⟩ : ∃ m, n = m + 1 := ⟨n - 1, by omega⟩
    rw [tbA, obF]
    by_cases h : l.length < 8
    · rw [if_pos h, tg_pad l r h]
      simp only [ne_eq, not_true_eq_false, if_false]
      rw [if_pos h, List.drop_left' (pad_length l h)]
    · rw [if_neg h, List.append_assoc, tg_full _ _ (by simp; omega)]
      simp only [ne_eq, not_true_eq_false, if_false]
      rw [if_neg (by simp; omega), List.drop_left' (by simp; omega), ih n _ _ (by simp; omega) (by omega), List.append_assoc, List.take_append_drop]
theorem tb_back (b r : List UInt8) : tb (ob b ++ r) = (b, r, 0) := by
  unfold tb ob
  have h := obF_length (b.length / 8) b (by omega)
  rw [tbA_back (b.length / 8) _ [] b r (by omega) (by rw [List.length_append, h]; omega)]
  simp
theorem tk_back (b : List UInt8) (n : Nat) (hn : n < 18446744073709551616) : tk (key b n) = (b, n, 0) := by
  unfold tk key
  simp only []
  have h8 := be_length 8 (18446744073709551615 - n)
  rw [tb_back]
  simp only [ne_eq, not_true_eq_false, if_false]
  have h256 : 18446744073709551615 - n < 256 ^ 8 := by
    have : (256 : Nat) ^ 8 = 18446744073709551616 := by decide
    omega
  rw [if_neg (by omega), h8, if_neg (by simp), List.take_of_length_le (by omega), num_be 8 _ h256, show 18446744073709551615 - (18446744073709551615 - n) = n by omega]

/-- The converse for ordered texts. -/
theorem tg_form (l : List UInt8) (h : (tg l).2 = 0) : ((tg l).1.length < 8 → pad (tg l).1 = l.take 9) ∧ ((tg l).1.length = 8 → (tg l).1 ++ [255] = l.take 9) := by
  obtain ⟨h1, h2, h3, h4⟩ := tg_ok l h
  have hb := (l.getD 8 0).toNat_lt
  have hl := tg_len l h
  have e9 : l.take 9 = l.take 8 ++ [l.getD 8 0] := by
    rw [List.take_succ_eq_append_getElem (show 8 < l.length by omega)]
    simp [show 8 < l.length by omega]
  generalize hm : (l.getD 8 0).toNat - 247 = m at *
  have em : l.getD 8 0 = UInt8.ofNat (247 + m) := by
    rw [← UInt8.ofNat_toNat (x := l.getD 8 0)]; congr 1; omega
  refine ⟨fun q => ?_, fun q => ?_⟩
  · rw [e9, em]
    unfold pad
    rw [hl.1]
    congr 1
    have ez : (l.take 8).drop m = List.replicate (8 - m) 0 := by
      refine List.eq_replicate_iff.2 ⟨by simp; omega, fun x hx => ?_⟩
      have := List.all_eq_true.1 h4 x hx
      simpa using this
    rw [h3, ← ez]
    have : l.take m = (l.take 8).take m := by rw [List.take_take, Nat.min_eq_left (by omega)]
    rw [this, List.take_append_drop]
  · rw [e9, em, h3, show m = 8 by omega]
    rfl
theorem tbA_form (n : Nat) (acc l : List UInt8) (h : (tbA n acc l).2.2 = 0) : ∃ x, (tbA n acc l).1 = acc ++ x ∧ ob x ++ (tbA n acc l).2.1 = l := by
  induction n generalizing acc l with
  | zero => cases h
  | succ n ih =>
    rw [tbA] at h ⊢
    by_cases h1 : (tg l).2 ≠ 0
    · rw [if_pos h1] at h; exact absurd h h1
    · rw [if_neg h1] at h ⊢
      obtain ⟨f1, f2⟩ := tg_form l (by simpa using h1)
      have hl := tg_len l (by simpa using h1)
      by_cases h2 : (tg l).1.length < 8
      · rw [if_pos h2]
        refine ⟨_, rfl, ?_⟩
        show ob (tg l).1 ++ l.drop 9 = l
        unfold ob
        rw [obF_short _ _ h2, f1 h2, List.take_append_drop]
      · rw [if_neg h2] at h ⊢
        obtain ⟨x, q1, q2⟩ := ih _ _ h
        refine ⟨(tg l).1 ++ x, by rw [q1, List.append_assoc], ?_⟩
        have e8 : (tg l).1.length = 8 := by omega
        have eo : ob ((tg l).1 ++ x) = (tg l).1 ++ [255] ++ ob x := by
          unfold ob
          rw [List.length_append, e8, show (8 + x.length) / 8 = x.length / 8 + 1 by omega, obF, if_neg (by simp; omega), List.take_left' e8, List.drop_left' e8]
        rw [eo, f2 e8, List.append_assoc, q2, List.take_append_drop]
theorem tb_form (l : List UInt8) (h : (tb l).2.2 = 0) : ob (tb l).1 ++ (tb l).2.1 = l := by
  obtain ⟨x, q1, q2⟩ := tbA_form _ _ _ h
  unfold tb
  rw [q1]
  simpa using q2
end Go.Proofs.YtedfjacmaidhkaaGreat.M

/- Plain mathematics of tables: pairs that rise, the bytes of a table, what bytes are read as. No program is named here. -/
namespace Go.Proofs.YtedfjacmaidhkaaGreat.M
set_option maxRecDepth 100000

/-- Pairs whose keys rise. -/
def ris : List (List UInt8 × List UInt8 × Bool) → Bool
  | [] => true
  | [_] => true
  | p :: q :: r => decide (cmpL p.1 q.1 < 0) && ris (q :: r)
theorem ris_iff (ps : List (List UInt8 × List UInt8 × Bool)) : ris ps = true ↔ ∀ i p q, ps[i]? = some p → ps[i + 1]? = some q → cmpL p.1 q.1 < 0 := by
  induction ps with
  | nil => simp [ris]
  | cons p r ih =>
    cases r with
    | nil => simp [ris]
    | cons q r =>
      rw [ris, Bool.and_eq_true, decide_eq_true_iff, ih]
      constructor
      · rintro ⟨h1, h2⟩ i x y hx hy
        cases i with
        | zero => simp at hx hy; subst hx; subst hy; exact h1
        | succ i => exact h2 i x y (by simpa using hx) (by simpa using hy)
      · intro h
        exact ⟨h 0 p q rfl rfl, fun i x y hx hy => h (i + 1) x y (by simpa using hx) (by simpa using hy)⟩
theorem ris_false {ps : List (List UInt8 × List UInt8 × Bool)} {i : Nat} {p q : List UInt8 × List UInt8 × Bool} (h1 : ps[i]? = some p) (h2 : ps[i + 1]? = some q) (h : 0 ≤ cmpL p.1 q.1) : ris ps = false := by
  by_cases e : ris ps = true
  · have := (ris_iff ps).1 e i p q h1 h2; omega
  · simpa using e

/-- The row of a pair. -/
def prow (p : List UInt8 × List UInt8 × Bool) : List UInt8 := row [p.1, p.2.1, [if p.2.2 then 1 else 0]]
/-- The bytes of a table. -/
def tab (ps : List (List UInt8 × List UInt8 × Bool)) : List UInt8 := frame (row (ps.map prow))
/-- What Build answers. -/
def bld (ps : List (List UInt8 × List UInt8 × Bool)) : List UInt8 × Nat := if ris ps then (tab ps, 0) else ([], 51)

/-- The pair that three fields say. -/
def dec : List (List UInt8) → Option (List UInt8 × List UInt8 × Bool)
  | [k, v, [m]] => if m = 0 then some (k, v, false) else if m = 1 then some (k, v, true) else none
  | _ => none
/-- The pair that a field is read as. -/
def tp (l : List UInt8) : Option (List UInt8 × List UInt8 × Bool) := if (tr l).2 = 0 then dec (tr l).1 else none
/-- The pairs that fields are read as. -/
def allP : List (List UInt8) → Option (List (List UInt8 × List UInt8 × Bool))
  | [] => some []
  | f :: r => match tp f, allP r with
    | some p, some ps => some (p :: ps)
    | _, _ => none
/-- Pairs, if they rise. -/
def keepR : Option (List (List UInt8 × List UInt8 × Bool)) → Option (List (List UInt8 × List UInt8 × Bool))
  | some ps => if ris ps then some ps else none
  | none => none
/-- The pairs that bytes are read as. -/
def opn (l : List UInt8) : Option (List (List UInt8 × List UInt8 × Bool)) :=
  if (tf l).2.2 = 0 ∧ (tf l).2.1 = [] ∧ (tr (tf l).1).2 = 0 then
    keepR (allP (tr (tf l).1).1)
  else none

theorem dec_form {fs : List (List UInt8)} {p : List UInt8 × List UInt8 × Bool} (h : dec fs = some p) : fs = [p.1, p.2.1, [if p.2.2 then 1 else 0]] := by
  unfold dec at h
  split at h
  · split at h
    · obtain rfl := Option.some.inj h
      rename_i h0; simp [h0]
    · split at h
      · obtain rfl := Option.some.inj h
        rename_i h0; simp [h0]
      · cases h
  · cases h
theorem dec_back (p : List UInt8 × List UInt8 × Bool) : dec [p.1, p.2.1, [if p.2.2 then 1 else 0]] = some p := by
  obtain ⟨k, v, g⟩ := p
  cases g <;> rfl
theorem tp_form {l : List UInt8} {p : List UInt8 × List UInt8 × Bool} (h : tp l = some p) : prow p = l := by
  unfold tp at h
  split at h
  · rename_i h0
    have := dec_form h
    unfold prow
    rw [← this]
    exact tr_form l h0
  · cases h
theorem tp_back (p : List UInt8 × List UInt8 × Bool) (h1 : p.1.length < 18446744073709551616) (h2 : p.2.1.length < 18446744073709551616) : tp (prow p) = some p := by
  have e : tr (prow p) = ([p.1, p.2.1, [if p.2.2 then 1 else 0]], 0) := tr_row _ (by simp) (fun f hf => by
    simp only [List.mem_cons, List.not_mem_nil, or_false] at hf
    rcases hf with rfl | rfl | rfl
    · exact h1
    · exact h2
    · simp)
  unfold tp
  rw [e]
  simp only [if_true]
  exact dec_back p
theorem allP_form {fs : List (List UInt8)} {ps : List (List UInt8 × List UInt8 × Bool)} (h : allP fs = some ps) : ps.map prow = fs := by
  induction fs generalizing ps with
  | nil => simp [allP] at h; subst h; rfl
  | cons f r ih =>
    rw [allP] at h
    split at h
    · rename_i p qs e1 e2
      obtain rfl := Option.some.inj h
      rw [List.map_cons, tp_form e1, ih e2]
    · cases h
theorem allP_back (ps : List (List UInt8 × List UInt8 × Bool)) (h : ∀ p ∈ ps, p.1.length < 18446744073709551616 ∧ p.2.1.length < 18446744073709551616) : allP (ps.map prow) = some ps := by
  induction ps with
  | nil => rfl
  | cons p r ih =>
    have h0 := h p (List.mem_cons_self ..)
    rw [List.map_cons, allP, tp_back p h0.1 h0.2, ih (fun q hq => h q (List.mem_cons_of_mem _ hq))]
theorem allP_none {fs : List (List UInt8)} {i : Nat} {f : List UInt8} (h : fs[i]? = some f) (hf : tp f = none) : allP fs = none := by
  induction fs generalizing i with
  | nil => simp at h
  | cons g r ih =>
    rw [allP]
    cases i with
    | zero => simp at h; subst h; rw [hf]
    | succ i =>
      rw [ih (i := i) (by simpa using h)]
      cases tp g <;> rfl
theorem allP_some {fs : List (List UInt8)} {ps : List (List UInt8 × List UInt8 × Bool)} (hl : ps.length = fs.length) (h : ∀ (i : Nat) f p, fs[i]? = some f → ps[i]? = some p → tp f = some p) : allP fs = some ps := by
  induction fs generalizing ps with
  | nil =>
    obtain rfl := List.length_eq_zero_iff.1 hl
    rfl
  | cons f r ih =>
    cases ps with
    | nil => simp at hl
    | cons p ps =>
      rw [allP, h 0 f p rfl rfl, ih (by simpa using hl) (fun i g q e1 e2 => h (i + 1) g q (by simpa using e1) (by simpa using e2))]

theorem opn_form {l : List UInt8} {ps : List (List UInt8 × List UInt8 × Bool)} (h : opn l = some ps) : tab ps = l ∧ ris ps = true := by
  unfold opn at h
  split at h
  · rename_i h0
    unfold keepR at h
    split at h
    · rename_i qs e
      split at h
      · rename_i hr
        obtain rfl := Option.some.inj h
        refine ⟨?_, hr⟩
        have e1 := tf_form l h0.1
        rw [h0.2.1, List.append_nil] at e1
        have e2 := tr_form _ h0.2.2
        have e3 := allP_form e
        unfold tab
        rw [e3, e2, e1]
      · cases h
    · cases h
  · cases h
end Go.Proofs.YtedfjacmaidhkaaGreat.M

/- Plain mathematics: more of the order of texts, and of pairs that rise by key. No program is named here. -/
namespace Go.Proofs.YtedfjacmaidhkaaGreat.M
set_option maxRecDepth 100000

theorem cmpL_swap (a b : List UInt8) : cmpL b a = - cmpL a b := by
  induction a generalizing b with
  | nil => cases b <;> rfl
  | cons x r ih =>
    cases b with
    | nil => rfl
    | cons y s =>
      simp only [cmpL]
      by_cases h : x = y
      · subst h; rw [if_pos rfl, if_pos rfl, ih]
      · rw [if_neg h, if_neg (fun e => h e.symm)]
        by_cases h1 : x < y
        · rw [if_pos h1, if_neg (UInt8.lt_asymm h1)]; rfl
        · have h2 : y < x := by
            rw [UInt8.lt_iff_toNat_lt] at h1 ⊢
            have : x.toNat ≠ y.toNat := fun e => h (UInt8.toNat_inj.1 e)
            omega
          rw [if_neg h1, if_pos h2]
theorem cmpL_trans {a b c : List UInt8} (h1 : cmpL a b < 0) (h2 : cmpL b c < 0) : cmpL a c < 0 := by
  induction a generalizing b c with
  | nil =>
    cases c with
    | nil => cases b with
      | nil => simp [cmpL] at h1
      | cons y s => simp [cmpL] at h2
    | cons z t => simp [cmpL]
  | cons x r ih =>
    cases b with
    | nil => simp [cmpL] at h1
    | cons y s =>
      cases c with
      | nil => simp [cmpL] at h2
      | cons z t =>
        simp only [cmpL] at h1 h2 ⊢
        by_cases e1 : x = y
        · subst e1
          rw [if_pos rfl] at h1
          by_cases e2 : x = z
          · subst e2
            rw [if_pos rfl] at h2
            rw [if_pos rfl]
            exact ih h1 h2
          · rw [if_neg e2] at h2 ⊢
            exact h2
        · rw [if_neg e1] at h1
          have l1 : x < y := by
            by_cases q : x < y
            · exact q
            · rw [if_neg q] at h1; omega
          by_cases e2 : y = z
          · subst e2
            rw [if_neg e1, if_pos l1]; decide
          · rw [if_neg e2] at h2
            have l2 : y < z := by
              by_cases q : y < z
              · exact q
              · rw [if_neg q] at h2; omega
            have l3 : x < z := by
              rw [UInt8.lt_iff_toNat_lt] at l1 l2 ⊢; omega
            have e3 : ¬ x = z := fun e => by rw [e] at l3; exact absurd l3 (UInt8.lt_irrefl _)
            rw [if_neg e3, if_pos l3]; decide
theorem cmpL_le_lt {a b c : List UInt8} (h1 : cmpL a b ≤ 0) (h2 : cmpL b c < 0) : cmpL a c < 0 := by
  by_cases e : cmpL a b = 0
  · rw [cmpL_zero e]; exact h2
  · exact cmpL_trans (by omega) h2
theorem cmpL_lt_le {a b c : List UInt8} (h1 : cmpL a b < 0) (h2 : cmpL b c ≤ 0) : cmpL a c < 0 := by
  by_cases e : cmpL b c = 0
  · rw [← cmpL_zero e]; exact h1
  · exact cmpL_trans h1 (by omega)

/-- They rise, all of them. -/
theorem ris_pair {ps : List (List UInt8 × List UInt8 × Bool)} (h : ris ps = true) {i j : Nat} {p q : List UInt8 × List UInt8 × Bool} (hi : ps[i]? = some p) (hj : ps[j]? = some q) (hij : i < j) : cmpL p.1 q.1 < 0 := by
  obtain ⟨d, rfl⟩ : ∃ d, j = i + 1 + d := ⟨j - i - 1, by omega⟩
  induction d generalizing q with
  | zero => exact (ris_iff ps).1 h i p q hi hj
  | succ d ih =>
    have hl := (List.getElem?_eq_some_iff.1 hj).1
    obtain ⟨r, hr⟩ : ∃ r, ps[i + 1 + d]? = some r := ⟨_, List.getElem?_eq_getElem (by omega)⟩
    exact cmpL_trans (ih hr (by omega)) ((ris_iff ps).1 h _ r q hr hj)

/-- How many pairs lie below a key. -/
def plK : List (List UInt8 × List UInt8 × Bool) → List UInt8 → Nat
  | [], _ => 0
  | p :: r, k => if cmpL p.1 k < 0 then plK r k + 1 else 0
theorem plK_le (ps : List (List UInt8 × List UInt8 × Bool)) (k : List UInt8) : plK ps k ≤ ps.length := by
  induction ps with
  | nil => exact Nat.le_refl _
  | cons x r ih => simp only [plK]; split <;> simp <;> omega
theorem plK_lt {ps : List (List UInt8 × List UInt8 × Bool)} {k : List UInt8} {i : Nat} {x : List UInt8 × List UInt8 × Bool} (h : i < plK ps k) (e : ps[i]? = some x) : cmpL x.1 k < 0 := by
  induction ps generalizing i with
  | nil => simp at e
  | cons y r ih =>
    simp only [plK] at h
    split at h
    · cases i with
      | zero => simp at e; subst e; assumption
      | succ i => exact ih (i := i) (by omega) (by simpa using e)
    · omega
theorem plK_ge {ps : List (List UInt8 × List UInt8 × Bool)} {k : List UInt8} {x : List UInt8 × List UInt8 × Bool} (e : ps[plK ps k]? = some x) : ¬ cmpL x.1 k < 0 := by
  induction ps with
  | nil => simp at e
  | cons y r ih =>
    simp only [plK] at e
    split at e
    · exact ih (by simpa using e)
    · simp at e; subst e; assumption
theorem plK_eq {ps : List (List UInt8 × List UInt8 × Bool)} {k : List UInt8} {i : Nat} (h1 : ∀ j x, j < i → ps[j]? = some x → cmpL x.1 k < 0) (h2 : ∀ x, ps[i]? = some x → ¬ cmpL x.1 k < 0) (h3 : i ≤ ps.length) : plK ps k = i := by
  rcases Nat.lt_trichotomy (plK ps k) i with q | q | q
  · have hl : plK ps k < ps.length := by omega
    exact absurd (h1 _ _ q (List.getElem?_eq_getElem hl)) (plK_ge (List.getElem?_eq_getElem hl))
  · exact q
  · have hl : i < ps.length := by have := plK_le ps k; omega
    exact absurd (plK_lt q (List.getElem?_eq_getElem hl)) (h2 _ (List.getElem?_eq_getElem hl))
theorem plK_all {ps : List (List UInt8 × List UInt8 × Bool)} (h : ris ps = true) {k : List UInt8} {i : Nat} {x : List UInt8 × List UInt8 × Bool} (hi : plK ps k ≤ i) (e : ps[i]? = some x) : 0 ≤ cmpL x.1 k := by
  have hl := (List.getElem?_eq_some_iff.1 e).1
  obtain ⟨y, hy⟩ : ∃ y, ps[plK ps k]? = some y := ⟨_, List.getElem?_eq_getElem (by omega)⟩
  have h0 := plK_ge hy
  rcases Nat.lt_or_ge (plK ps k) i with q | q
  · have h1 := ris_pair h hy e q
    have s1 := cmpL_swap k y.1
    have s2 := cmpL_swap k x.1
    have : cmpL k y.1 ≤ 0 := by omega
    have := cmpL_le_lt this h1
    omega
  · obtain rfl : i = plK ps k := by omega
    rw [hy] at e
    obtain rfl := Option.some.inj e
    omega
/-- Is the key there? -/
def isK (ps : List (List UInt8 × List UInt8 × Bool)) (k : List UInt8) : Bool := match ps[plK ps k]? with | some x => cmpL x.1 k == 0 | none => false
end Go.Proofs.YtedfjacmaidhkaaGreat.M

/- Ranges of keys: what covers and overlaps says. -/
namespace Go.Proofs.YtedfjacmaidhkaaGreat
set_option linter.unusedVariables false

/-- Does the key lie in the range? -/
def cov (s e k : List UInt8) : Bool := decide (0 ≤ M.cmpL k s) && (decide (e.length = 0) || decide (M.cmpL k e < 0))
/-- The greater start. -/
def topS (s t : List UInt8) : List UInt8 := if 0 < M.cmpL t s then t else s
/-- Do the ranges overlap, as the program looks? -/
def ovl (s e t f : List UInt8) : Bool := cov s e (topS s t) && cov t f (topS s t)
/-- Has the range nothing in it? -/
def emp (s e : List UInt8) : Bool := decide (0 < e.length) && decide (M.cmpL e s ≤ 0)

theorem cov_iff {s e k : List UInt8} : cov s e k = true ↔ M.cmpL s k ≤ 0 ∧ (e = [] ∨ M.cmpL k e < 0) := by
  unfold cov
  have := M.cmpL_swap s k
  simp only [Bool.and_eq_true, Bool.or_eq_true, decide_eq_true_eq, List.length_eq_zero_iff]
  constructor
  · rintro ⟨a, b⟩; exact ⟨by omega, b⟩
  · rintro ⟨a, b⟩; exact ⟨by omega, b⟩
theorem emp_iff {s e : List UInt8} : emp s e = true ↔ e ≠ [] ∧ M.cmpL e s ≤ 0 := by
  unfold emp
  simp only [Bool.and_eq_true, decide_eq_true_eq]
  constructor
  · rintro ⟨a, b⟩; exact ⟨fun q => by subst q; simp at a, b⟩
  · rintro ⟨a, b⟩; exact ⟨List.length_pos_iff.2 a, b⟩
theorem cmpL_le_le {a b c : List UInt8} (h1 : M.cmpL a b ≤ 0) (h2 : M.cmpL b c ≤ 0) : M.cmpL a c ≤ 0 := by
  by_cases q : M.cmpL b c < 0
  · have := M.cmpL_le_lt h1 q; omega
  · have e : M.cmpL b c = 0 := by omega
    rw [← M.cmpL_zero e]; exact h1
theorem cov_emp {s e : List UInt8} (h : emp s e = true) (k : List UInt8) : cov s e k = false := by
  obtain ⟨h1, h2⟩ := emp_iff.1 h
  cases q : cov s e k with
  | false => rfl
  | true =>
    obtain ⟨c1, c2⟩ := cov_iff.1 q
    rcases c2 with c2 | c2
    · exact absurd c2 h1
    · have a := M.cmpL_le_lt (cmpL_le_le h2 c1) c2
      rw [M.cmpL_self] at a; omega
theorem cov_start {s e : List UInt8} : cov s e s = !emp s e := by
  cases q : emp s e with
  | true => exact cov_emp q s
  | false =>
    refine cov_iff.2 ⟨by rw [M.cmpL_self]; omega, ?_⟩
    by_cases h : e = []
    · exact .inl h
    · refine .inr ?_
      have a : ¬ (e ≠ [] ∧ M.cmpL e s ≤ 0) := fun r => by rw [emp_iff.2 r] at q; cases q
      have b := M.cmpL_swap e s
      have c : ¬ M.cmpL e s ≤ 0 := fun r => a ⟨h, r⟩
      omega
theorem topS_symm (s t : List UInt8) : topS s t = topS t s := by
  unfold topS
  have := M.cmpL_swap s t
  by_cases h : 0 < M.cmpL t s
  · rw [if_pos h, if_neg (by omega)]
  · rw [if_neg h]
    by_cases h2 : 0 < M.cmpL s t
    · rw [if_pos h2]
    · rw [if_neg h2]
      exact M.cmpL_zero (by omega)
theorem ovl_symm (s e t f : List UInt8) : ovl s e t f = ovl t f s e := by
  unfold ovl
  rw [topS_symm, Bool.and_comm]
theorem ovl_emp {s e t f : List UInt8} (h : emp s e = true ∨ emp t f = true) : ovl s e t f = false := by
  unfold ovl
  rcases h with h | h
  · rw [cov_emp h]; rfl
  · rw [cov_emp h, Bool.and_false]
theorem topS_ge (s t : List UInt8) : M.cmpL s (topS s t) ≤ 0 ∧ M.cmpL t (topS s t) ≤ 0 := by
  unfold topS
  have := M.cmpL_swap s t
  split
  · exact ⟨by omega, by rw [M.cmpL_self]; omega⟩
  · exact ⟨by rw [M.cmpL_self]; omega, by omega⟩
theorem topS_le {s t k : List UInt8} (h1 : M.cmpL s k ≤ 0) (h2 : M.cmpL t k ≤ 0) : M.cmpL (topS s t) k ≤ 0 := by
  unfold topS
  split
  · exact h2
  · exact h1
theorem ovl_of {s e t f k : List UInt8} (h1 : cov s e k = true) (h2 : cov t f k = true) : ovl s e t f = true := by
  obtain ⟨a1, a2⟩ := cov_iff.1 h1
  obtain ⟨b1, b2⟩ := cov_iff.1 h2
  have hle := topS_le a1 b1
  have hge := topS_ge s t
  unfold ovl
  rw [Bool.and_eq_true]
  exact ⟨cov_iff.2 ⟨hge.1, a2.imp id (fun q => M.cmpL_le_lt hle q)⟩, cov_iff.2 ⟨hge.2, b2.imp id (fun q => M.cmpL_le_lt hle q)⟩⟩
theorem ovl_eq {s e t f : List UInt8} (h1 : emp s e = false) (h2 : emp t f = false) : ovl s e t f = (cov s e t || cov t f s) := by
  have c1 : cov s e s = true := by rw [cov_start, h1]; rfl
  have c2 : cov t f t = true := by rw [cov_start, h2]; rfl
  cases q : (cov s e t || cov t f s) with
  | true =>
    rcases Bool.or_eq_true_iff.1 q with r | r
    · exact ovl_of r c2
    · exact ovl_of c1 r
  | false =>
    have r := Bool.or_eq_false_iff.1 q
    unfold ovl topS
    split
    · rw [r.1]; rfl
    · rw [r.2, Bool.and_false]
end Go.Proofs.YtedfjacmaidhkaaGreat

/- My own words for lists of uint64 in memory: 'Ru w v l': the slice value v reads as the numbers l; 'Ou B w v l': a row of the call's own. -/
namespace Go.Proofs.YtedfjacmaidhkaaGreat
open Go.RowKit
set_option linter.unusedVariables false

/-- The cells of a list of numbers. -/
def celU (l : List UInt64) : List Value := l.map fun x => Value.int .u64 (x.toNat : Int)
theorem celU_length (l : List UInt64) : (celU l).length = l.length := by simp [celU]
theorem celU_append (a b : List UInt64) : celU (a ++ b) = celU a ++ celU b := by simp [celU]
theorem celU_get (l : List UInt64) (i : Nat) (h : i < l.length) : (celU l)[i]? = some (.int .u64 (l[i].toNat : Int)) := by simp [celU, h]
theorem celU_one (l : List UInt64) : ∀ u ∈ celU l, u.oneCell' = true := by
  intro u hu
  obtain ⟨_, _, rfl⟩ := List.mem_map.1 hu
  rfl
theorem celU_set (l : List UInt64) (i : Nat) (x : UInt64) : celU (l.set i x) = (celU l).set i (.int .u64 (x.toNat : Int)) := by
  unfold celU; rw [List.map_set]

/-- The slice value v reads as the numbers l. -/
def Ru (w : World) (v : Value) (l : List UInt64) : Prop :=
  ∃ ao c, v = .slice ao l.length c ∧ l.length ≤ c ∧ c ≤ maxLen ∧ (ao = none → c = 0) ∧ ∀ i, (h : i < l.length) → ∃ a, ao = some a ∧ w.cell? (a.add i) = some (.int .u64 (l[i].toNat : Int))

theorem Ru.two {w : World} {v : Value} {l : List UInt64} (h : Ru w v l) :
    (v = .slice none 0 0 ∧ l = []) ∨ ∃ a c, v = .slice (some a) l.length c ∧ l.length ≤ c ∧ c ≤ maxLen ∧ ∀ i, (h : i < l.length) → w.cell? (a.add i) = some (.int .u64 (l[i].toNat : Int)) := by
  obtain ⟨ao, c, hv, h1, h2, h3, h4⟩ := h
  cases ao with
  | none =>
    have hc := h3 rfl
    have hl : l = [] := List.length_eq_zero_iff.1 (by omega)
    subst hl; subst hc
    exact .inl ⟨hv, rfl⟩
  | some a =>
    refine .inr ⟨a, c, hv, h1, h2, fun i hi => ?_⟩
    obtain ⟨a', e, hc⟩ := h4 i hi
    obtain rfl := Option.some.inj e
    exact hc
theorem Ru.mk {w : World} {a : Addr} {n c : Nat} {l : List UInt64} (hn : n = l.length) (h1 : l.length ≤ c) (h2 : c ≤ maxLen) (h3 : ∀ i, (h : i < l.length) → w.cell? (a.add i) = some (.int .u64 (l[i].toNat : Int))) : Ru w (.slice (some a) n c) l :=
  ⟨some a, c, by rw [hn], h1, h2, (fun h => by cases h), fun i hi => ⟨a, rfl, h3 i hi⟩⟩
theorem Ru.nil (w : World) : Ru w (.slice none 0 0) [] := ⟨none, 0, rfl, by simp, by simp, fun _ => rfl, fun i hi => by simp at hi⟩
theorem Ru.below {B : Nat} {w w' : World} {v : Value} {l : List UInt64} (h : Ru w v l) (hb : Below B w w') (hB : w.heap.size ≤ B) : Ru w' v l := by
  obtain ⟨ao, c, h0, h1, h2, h3, h4⟩ := h
  refine ⟨ao, c, h0, h1, h2, h3, fun i hi => ?_⟩
  obtain ⟨a, e, hc⟩ := h4 i hi
  have hlt := World.block_lt_of_cell? w _ hc
  exact ⟨a, e, by rw [hb.cell (by omega)]; exact hc⟩
theorem Ru.drewN {w : World} {v : Value} {l : List UInt64} (h : Ru w v l) (n : Nat) : Ru (w.drewN n) v l := h.below (below_drewN (Below.refl _ _) n) (Nat.le_refl _)
theorem Ru.alloc {w : World} {v : Value} {l : List UInt64} (h : Ru w v l) (o : Obj) : Ru (w.alloc o) v l := h.below ((Below.refl _ _).alloc (Nat.le_refl _) o) (Nat.le_refl _)
theorem Ru.shape {w : World} {v : Value} {l : List UInt64} (h : Ru w v l) : ∃ a c, v = .slice a l.length c := by
  obtain ⟨ao, c, e, _⟩ := h; exact ⟨_, _, e⟩
theorem Ru.len {w : World} {v : Value} {l : List UInt64} (h : Ru w v l) : l.length ≤ maxLen := by
  obtain ⟨ao, c, _, h1, h2, _⟩ := h; omega

/-- A row of numbers of the call's own, in new memory from block B on. -/
def Ou (B : Nat) (w : World) (v : Value) (l : List UInt64) : Prop := w.ownsRow B 30 1 v l.length (celU l)
theorem Ou.ru {B : Nat} {w : World} {v : Value} {l : List UInt64} (h : Ou B w v l) : Ru w v l := by
  have h' := h
  obtain ⟨_, h2⟩ := h
  rcases h2 with ⟨hv, h0⟩ | ⟨g, cap, cur, hv, hg, hh, hn, hcap, hsz, htake⟩
  · obtain rfl := List.length_eq_zero_iff.1 h0
    subst hv
    exact Ru.nil _
  · subst hv
    refine Ru.mk rfl hn hcap (fun i hi => ?_)
    rw [Addr.add_lit, Nat.zero_add]
    unfold Ou at h'
    rw [h'.cellAt i (by omega), celU_get l i hi]
theorem Ou.below {B C : Nat} {w w' : World} {v : Value} {l : List UInt64} (h : Ou B w v l) (hb : Below C w w') (hC : w.heap.size ≤ C) : Ou B w' v l := by
  obtain ⟨h1, h2⟩ := h
  refine ⟨h1, ?_⟩
  rcases h2 with h2 | ⟨g, cap, cur, hv, hg, hh, r⟩
  · exact .inl h2
  · refine .inr ⟨g, cap, cur, hv, hg, ?_, r⟩
    have hlt : g < w.heap.size := (Array.getElem?_eq_some_iff.1 hh).1
    rw [hb.block g (by omega)]; exact hh
theorem Ou.mono {B B' : Nat} {w : World} {v : Value} {l : List UInt64} (h : Ou B w v l) (hB : B' ≤ B) : Ou B' w v l := by
  obtain ⟨h1, h2⟩ := h
  refine ⟨h1, ?_⟩
  rcases h2 with h2 | ⟨g, cap, cur, hv, hg, r⟩
  · exact .inl h2
  · exact .inr ⟨g, cap, cur, hv, by omega, r⟩
theorem Ou.alloc {B : Nat} {w : World} {v : Value} {l : List UInt64} (h : Ou B w v l) (o : Obj) : Ou B (w.alloc o) v l := World.ownsRow.alloc h o
theorem Ou.nil (B : Nat) (w : World) : Ou B w (.slice none 0 0) [] := World.ownsRow_nil _ _ _ _
theorem Ou.lt {B : Nat} {w : World} {v : Value} {l : List UInt64} (h : Ou B w v l) (b : Nat) (e : v.ownBlock = some b) : B ≤ b ∧ b < w.heap.size := World.ownsRow.lt h b e
theorem Ou.shape {B : Nat} {w : World} {v : Value} {l : List UInt64} (h : Ou B w v l) : ∃ a c, v = .slice a l.length c := h.ru.shape
theorem Ou.kept {B : Nat} {w w' : World} {v : Value} {l : List UInt64} {r : Option Nat} (h : Ou B w v l) (hg : w.grownBy w' r) (hne : ∀ b, v.ownBlock = some b → r ≠ some b) : Ou B w' v l := by
  refine World.ownsRow.kept h hg ?_
  by_cases e : v.ownBlock = none
  · exact .inl e
  · obtain ⟨b, hb⟩ := Option.ne_none_iff_exists'.1 e
    exact .inr (fun q => hne b hb (by rw [← q]; exact hb))
/-- The row of a literal. -/
theorem Ou.made (B : Nat) (w : World) (l : List UInt64) (n : Nat) (hn : n = l.length) (hB : B ≤ w.heap.size) (hl : l.length ≤ maxLen) (C : Array Value) (hC : C.toList = celU l) (g : Nat) (hg : g = w.heap.size) : Ou B (w.alloc (.cells C 30)) (.slice (some ⟨g, 0, none⟩) n n) l := by
  subst hn; subst hg
  have hs : C.size = l.length := by rw [← Array.length_toList, hC, celU_length]
  refine ⟨by rw [celU_length]; simp, .inr ⟨w.heap.size, l.length, C, rfl, hB, heap_alloc_new w _, Nat.le_refl _, hl, by omega, ?_⟩⟩
  rw [hC, List.take_of_length_le (by rw [celU_length]; omega)]

theorem Tryz.infoU : (Tryz.prog.info? 30).map (fun i => (i.zero, i.size, i.bytes)) = some (some (.int .u64 0), 1, 8) := by kernel_rfl

/-- 'append(out, x...)' of numbers, out the call's own. -/
theorem wpList_appU {w : World} {ops : Array Oper} {rest : List Oper} {o : Oper} {a : Act} {Q : Exit → Act → World → Prop} (hgd : o.guard = none) (s x : Operand)
    (ho : o.op = .call { callee := .builtin .append, args := #[s, x], argTypes := #[58, 58] })
    (B : Nat) (v : Value) (l : List UInt64) (hs : a.eval s = v) (hown : Ou B w v l) (vx : Value) (m : List UInt64) (hx : a.eval x = vx) (hm : Ru w vx m)
    (hB : B ≤ w.heap.size) (hlen : l.length + m.length ≤ 10995116277760)
    (h : ∀ v' w', Ou B w' v' (l ++ m) → w.grownBy w' v.ownBlock → (v'.ownBlock = v.ownBlock ∨ v'.ownBlock = some w.heap.size) → wpList Tryz.prog ops Q rest (a.put o.dst v') w') : wpList Tryz.prog ops Q (o :: rest) a w := by
  obtain ⟨i, hi, hz0, hz1, hz2⟩ := info_parts Tryz.infoU
  rcases hm.two with ⟨rfl, rfl⟩ | ⟨ad, c, rfl, h1, h2, h3⟩
  · refine wpList_append_own_none hgd s x 58 ho B 30 i 1 Tryz.underlying58 hi _ _ _ hs hown hx ?_
    exact h v w (by simpa using hown) (World.grownBy.refl _ _) (.inl rfl)
  · refine wpList_plain hgd fun K hK => ?_
    obtain ⟨v', w', hr, q2, q3, q4⟩ := run_appN (P := Tryz.prog) w B 58 o.type 30 (.int .u64 0) 8 Tryz.underlying58 Tryz.infoU rfl v l.length (celU l) hown ad m.length c (celU m) (by simp [celU_length]) (by
      intro j u hu
      have hj : j < m.length := by have := (List.getElem?_eq_some_iff.1 hu).1; simpa [celU_length] using this
      rw [h3 j hj]; rw [celU_get m j hj] at hu; exact hu) (celU_one m) (by unfold maxLen; omega) (by omega) hB
    unfold Oper.wp execOp
    simp only [ho, resolve, invoke, builtin, Sem.run_bind, Sem.run_pure, Result.andThen_ok, List.map_toArray, List.map_cons, List.map_nil, hs, hx, hr]
    exact hK _ _ (h v' w' (by unfold Ou; rw [celU_append, List.length_append]; exact q2) q3 q4)

theorem ru_one (w : World) (z : Int) (b : UInt64) (hz : z = (b.toNat : Int)) (t : TypeId) (g : Nat) (hg : g = w.heap.size) : Ru (w.alloc (.cells #[.int .u64 z] t)) (.slice (some ⟨g, 0, none⟩) 1 1) [b] := by
  subst hg
  refine Ru.mk rfl (by simp) (by simp [maxLen]) (fun i hi => ?_)
  obtain rfl : i = 0 := by simpa using hi
  rw [show (⟨w.heap.size, 0, none⟩ : Addr).add 0 = ⟨w.heap.size, 0, none⟩ from rfl, World.cell?_alloc_at _ _ _ _ rfl]
  subst hz
  rfl

/-- A number written into the row. -/
theorem Ou.put {B g : Nat} {w : World} {v : Value} {l : List UInt64} (h : Ou B w v l) (hv : v.ownBlock = some g) (j : Nat) (x : UInt64) : Ou B (w.setCell ⟨g, j, none⟩ (.int .u64 (x.toNat : Int))) v (l.set j x) := by
  unfold Ou at *
  rw [celU_set]
  refine ⟨by rw [List.length_set]; have := h.1; simpa using this, ?_⟩
  rcases h.2 with ⟨q, q0⟩ | ⟨g', cap, cur, q, hB, hg, q1, q2, q3, q4⟩
  · rw [q] at hv; cases hv
  · rw [q] at hv
    obtain rfl : g' = g := Option.some.inj hv
    refine .inr ⟨g', cap, cur.setIfInBounds j (.int .u64 (x.toNat : Int)), by rw [List.length_set]; exact q, hB, by rw [heap_setCell_same _ _ j _ _ _ hg], by rw [List.length_set]; exact q1, q2, by rw [Array.size_setIfInBounds]; exact q3, ?_⟩
    rw [← q4]
    simp [List.take_set, List.length_set]
theorem Ou.froz {B g n c : Nat} {w : World} {l : List UInt64} (h : Ou B w (.slice (some ⟨g, 0, none⟩) n c) l) (j : Nat) : w.frozen? ⟨g, j, none⟩ = false := by
  rcases h.2 with ⟨q, q0⟩ | ⟨g', cap, cur, q, hB, hg, _⟩
  · cases q
  · simp only [Value.slice.injEq, Option.some.injEq, Addr.mk.injEq, and_true] at q
    rw [q.1]; exact frozen_of_row _ _ _ _ _ hg
/-- A row of the call's own: none, or at the head of its block. -/
theorem Ou.blk {B : Nat} {w : World} {v : Value} {l : List UInt64} (h : Ou B w v l) : (v = .slice none 0 0 ∧ l = []) ∨ ∃ g c, v = .slice (some ⟨g, 0, none⟩) l.length c ∧ l.length ≤ c ∧ c ≤ maxLen ∧ B ≤ g ∧ g < w.heap.size ∧ (∀ j, (hj : j < l.length) → w.cell? ⟨g, j, none⟩ = some (.int .u64 (l[j].toNat : Int))) ∧ ∀ j, w.frozen? ⟨g, j, none⟩ = false := by
  have h' := h
  rcases h.2 with ⟨hv, h0⟩ | ⟨g, cap, cur, hv, hg, hh, hn, hcap, hsz, htake⟩
  · exact .inl ⟨hv, List.length_eq_zero_iff.1 h0⟩
  · subst hv
    refine .inr ⟨g, cap, rfl, hn, hcap, hg, (Array.getElem?_eq_some_iff.1 hh).1, fun j hj => ?_, fun j => h'.froz j⟩
    unfold Ou at h'
    rw [h'.cellAt j (by omega), celU_get l j hj]
end Go.Proofs.YtedfjacmaidhkaaGreat

/- cmp.Compare at uint64 and cmp.Or of two. -/
namespace Go.Proofs.YtedfjacmaidhkaaGreat
open Go.RowKit
set_option linter.unusedVariables false
set_option maxRecDepth 100000

def cmpU (x y : UInt64) : Int := if x.toNat < y.toNat then -1 else if y.toNat < x.toNat then 1 else 0
theorem isNaN_any (x : Int) (w : World) : Calls Tryz.prog 76 #[.int .u64 x] w fun e w' => e = .returned (.bool false) ∧ w' = w := by
  go_enter Tryz.func76, Tryz.ntmps76
  go_wp2_with fail
  go_ret
  exact ⟨by simp, rfl⟩
theorem compareU_any (x y : UInt64) (w : World) : Calls Tryz.prog 58 #[.int .u64 (x.toNat : Int), .int .u64 (y.toNat : Int)] w fun e w' => e = .returned (.int .i64 (cmpU x y)) ∧ w' = w := by
  have h0 := fun z W => isNaN_any z W
  have hc : cmpU x y = if x.toNat < y.toNat then -1 else if y.toNat < x.toNat then 1 else 0 := rfl
  generalize cmpU x y = r at *
  have HC : Hid _ := hc
  clear hc
  generalize x.toNat = a at *
  generalize y.toNat = b at *
  go_enter Tryz.func58, Tryz.ntmps58
  go_wp2_with fail
  refine (h0 _ _).mono ?_
  rintro e w1 ⟨rfl, rfl⟩
  go_wp2_with fail
  refine (h0 _ _).mono ?_
  rintro e w1 ⟨rfl, rfl⟩
  by_cases h1 : a < b
  · have g1 : (a : Int) < (b : Int) := by omega
    have HR : Hid (r = -1) := by show _ = _; rw [HC.out, if_pos h1]
    go_wp2_with fail
    go_ret
    exact ⟨by rw [HR.out]; rfl, rfl⟩
  · have g1 : ¬ (a : Int) < (b : Int) := by omega
    by_cases h2 : b < a
    · have g2 : (b : Int) < (a : Int) := by omega
      have HR : Hid (r = 1) := by show _ = _; rw [HC.out, if_neg h1, if_pos h2]
      go_wp2_with fail
      go_ret
      exact ⟨by rw [HR.out]; rfl, rfl⟩
    · have g2 : ¬ (b : Int) < (a : Int) := by omega
      have HR : Hid (r = 0) := by show _ = _; rw [HC.out, if_neg h1, if_neg h2]
      go_wp2_with fail
      go_ret
      exact ⟨by rw [HR.out]; rfl, rfl⟩
def orF (a b : Int) : Int := if a ≠ 0 then a else b
set_option maxHeartbeats 1000000 in
theorem or_any {a b : Int} {g : Nat} {w : World} (h0 : w.cell? ⟨g, 0, none⟩ = some (.int .i64 a)) (h1 : w.cell? ⟨g, 1, none⟩ = some (.int .i64 b)) :
    Calls Tryz.prog 99 #[.slice (some ⟨g, 0, none⟩) 2 2] w fun e w' => e = .returned (.int .i64 (orF a b)) ∧ w' = w := by
  have hc : orF a b = if a ≠ 0 then a else b := rfl
  generalize orF a b = r at *
  have HC : Hid _ := hc
  clear hc
  go_enter Tryz.func99, Tryz.ntmps99
  go_wp2_with fail
  refine wp_loop_rounds 3 ?_
  rw [rounds_succ]
  by_cases ha : a = 0
  · subst ha
    have HR : Hid (r = b) := by show _ = _; rw [HC.out, if_neg (by simp)]
    go_wp2_with fail
    rw [rounds_succ]
    by_cases hb : b = 0
    · subst hb
      go_wp2_with fail
      rw [rounds_succ]
      go_wp2_with fail
      go_ret
      exact ⟨by rw [HR.out]; rfl, rfl⟩
    · have gb : (b != 0) = true := by simp [hb]
      go_wp2_with fail
      go_ret
      exact ⟨by rw [HR.out]; rfl, rfl⟩
  · have ga : (a != 0) = true := by simp [ha]
    have HR : Hid (r = a) := by show _ = _; rw [HC.out, if_pos ha]
    go_wp2_with fail
    go_ret
    exact ⟨by rw [HR.out]; rfl, rfl⟩
end Go.Proofs.YtedfjacmaidhkaaGreat

/- Peers in memory: 'RdPe w v ps': the slice value v reads as these peers; 'OwPe': a row of the call's own. -/
namespace Go.Proofs.YtedfjacmaidhkaaGreat
open Go.RowKit
set_option linter.unusedVariables false
set_option maxRecDepth 100000

/-- A peer: its number, its store, whether it only learns. -/
abbrev Pe := UInt64 × Int × Bool
def pc (p : Pe) : List Value := [.int .u64 (p.1.toNat : Int), .int .i64 p.2.1, .bool p.2.2]
def pcs (ps : List Pe) : List Value := ps.flatMap pc
theorem pc_len (p : Pe) : (pc p).length = 3 := rfl
theorem pcs_len (ps : List Pe) : (pcs ps).length = ps.length * 3 := fm_len pc_len ps
theorem pcs_app (a b : List Pe) : pcs (a ++ b) = pcs a ++ pcs b := by simp [pcs]
theorem pcs_one (ps : List Pe) : ∀ u ∈ pcs ps, u.oneCell' = true := by
  intro u hu
  obtain ⟨p, _, h⟩ := List.mem_flatMap.1 hu
  simp only [pc, List.mem_cons, List.not_mem_nil, or_false] at h
  rcases h with rfl | rfl | rfl <;> rfl
/-- At this address a peer lies. -/
structure PeAt (w : World) (a : Addr) (p : Pe) : Prop where
  c0 : w.cell? a = some (.int .u64 (p.1.toNat : Int))
  c1 : w.cell? ⟨a.block, a.off + 1, none⟩ = some (.int .i64 p.2.1)
  c2 : w.cell? ⟨a.block, a.off + 2, none⟩ = some (.bool p.2.2)
theorem PeAt.below {B : Nat} {w w' : World} {a : Addr} {p : Pe} (h : PeAt w a p) (hb : Below B w w') (hB : w.heap.size ≤ B) : PeAt w' a p := by
  have k : ∀ x u, w.cell? x = some u → w'.cell? x = some u := fun x u q => by rw [hb.cell (by have := World.block_lt_of_cell? w _ q; omega)]; exact q
  exact ⟨k _ _ h.c0, k _ _ h.c1, k _ _ h.c2⟩
/-- The slice value v reads as these peers. -/
def RdPe (w : World) (v : Value) (ps : List Pe) : Prop :=
  ∃ ao c, v = .slice ao ps.length c ∧ ps.length ≤ c ∧ c ≤ maxLen ∧ (ao = none → c = 0) ∧ ∀ i p, ps[i]? = some p → ∃ a, ao = some a ∧ PeAt w (a.add (i * 3)) p
theorem RdPe.nil (w : World) : RdPe w (.slice none 0 0) [] := ⟨none, 0, rfl, by simp, by simp, fun _ => rfl, fun i p hi => by simp at hi⟩
theorem RdPe.below {B : Nat} {w w' : World} {v : Value} {ps : List Pe} (h : RdPe w v ps) (hb : Below B w w') (hB : w.heap.size ≤ B) : RdPe w' v ps := by
  obtain ⟨ao, c, h0, h1, h2, h3, h4⟩ := h
  refine ⟨ao, c, h0, h1, h2, h3, fun i p hi => ?_⟩
  obtain ⟨a, e, hc⟩ := h4 i p hi
  exact ⟨a, e, hc.below hb hB⟩
theorem RdPe.shape {w : World} {v : Value} {l : List Pe} (h : RdPe w v l) : ∃ a c, v = .slice a l.length c ∧ l.length ≤ c ∧ c ≤ 9223372036854775807 := by
  obtain ⟨ao, c, e, h1, h2, _⟩ := h; exact ⟨_, _, e, h1, by unfold maxLen at h2; omega⟩
/-- The first peers of a list. -/
theorem RdPe.pre {w : World} {ao : Option Addr} {n c : Nat} {ps : List Pe} (h : RdPe w (.slice ao n c) ps) (j : Nat) (hj : j ≤ ps.length) : RdPe w (.slice ao j c) (ps.take j) := by
  obtain ⟨ao', c', e, h1, h2, h3, h4⟩ := h
  simp only [Value.slice.injEq] at e
  obtain ⟨rfl, rfl, rfl⟩ := e
  have hl : (ps.take j).length = j := by rw [List.length_take]; omega
  refine ⟨ao, c, by rw [hl], by omega, h2, h3, fun i p hi => ?_⟩
  have hi2 := (List.getElem?_eq_some_iff.1 hi).1
  rw [List.getElem?_take, if_pos (by omega)] at hi
  exact h4 i p hi
theorem RdPe.cells {w : World} {a : Addr} {n c : Nat} {ps : List Pe} (h : RdPe w (.slice (some a) n c) ps) : ∀ j u, (pcs ps)[j]? = some u → w.cell? (a.add j) = some u := by
  intro j u hu
  obtain ⟨ao', c', e, h1, h2, h3, h4⟩ := h
  simp only [Value.slice.injEq] at e
  obtain ⟨rfl, rfl, rfl⟩ := e
  obtain ⟨i, r, p, ep, hr, rfl, hp⟩ := fm_inv pc_len (by omega) ps j u hu
  obtain ⟨a', e, hc⟩ := h4 i p ep
  obtain rfl := Option.some.inj e
  match r, hr with
  | 0, _ => simp [pc] at hp; subst hp; exact hc.c0
  | 1, _ => simp [pc] at hp; subst hp; rw [← add_at a (i * 3) 0]; exact hc.c1
  | 2, _ => simp [pc] at hp; subst hp; rw [← add_at a (i * 3) 1]; exact hc.c2

/-- A row of peers of the call's own. -/
def OwPe (B : Nat) (w : World) (v : Value) (ps : List Pe) : Prop := w.ownsRow B 44 3 v ps.length (pcs ps)
theorem OwPe.nil (B : Nat) (w : World) : OwPe B w (.slice none 0 0) [] := World.ownsRow_nil _ _ _ _
theorem OwPe.below {B C : Nat} {w w' : World} {v : Value} {ps : List Pe} (h : OwPe B w v ps) (hb : Below C w w') (hC : w.heap.size ≤ C) : OwPe B w' v ps := ownsRow_belP h hb hC
theorem OwPe.rd {B : Nat} {w : World} {v : Value} {ps : List Pe} (h : OwPe B w v ps) : RdPe w v ps := by
  obtain ⟨a, c, hv, h1, h2, h3, h4⟩ := row_reads h
  refine ⟨a, c, hv, h1, h2, h3, fun i p hi => ?_⟩
  have k : ∀ r u, r < 3 → (pc p)[r]? = some u → ∃ g, a = some ⟨g, 0, none⟩ ∧ w.cell? ⟨g, i * 3 + r, none⟩ = some u := fun r u hr e => h4 _ u (by unfold pcs; rw [fm_at pc_len ps i r p hi hr]; exact e)
  obtain ⟨g, e0, q0⟩ := k 0 _ (by omega) rfl
  obtain ⟨g1, e1, q1⟩ := k 1 _ (by omega) rfl
  obtain ⟨g2, e2, q2⟩ := k 2 _ (by omega) rfl
  rw [e0] at e1 e2
  obtain rfl : g = g1 := by have := Option.some.inj e1; exact congrArg Addr.block this
  obtain rfl : g = g2 := by have := Option.some.inj e2; exact congrArg Addr.block this
  refine ⟨⟨g, 0, none⟩, e0, ?_, ?_, ?_⟩
  · rw [Addr.add_lit, Nat.zero_add]; exact q0
  · rw [Addr.add_lit, Nat.zero_add]; exact q1
  · rw [Addr.add_lit, Nat.zero_add]; exact q2

theorem Tryz.infoPe : (Tryz.prog.info? 44).map (fun i => (i.zero, i.size, i.bytes)) = some (some (.agg #[.int .u64 0, .int .i64 0, .bool false]), 3, 24) := by kernel_rfl
theorem run_appPe (w : World) (ty : TypeId) (B : Nat) (v : Value) (l : List Pe) (hown : OwPe B w v l) (vx : Value) (m : List Pe) (hm : RdPe w vx m) (hB : B ≤ w.heap.size) (hlen : l.length + m.length ≤ 1099511627776) :
    ∃ v' w', (Builtin.append_ #[38, 38] ty #[v, vx]).run Tryz.prog w = .ok v' w' ∧ OwPe B w' v' (l ++ m) ∧ w.grownBy w' v.ownBlock ∧ (v'.ownBlock = v.ownBlock ∨ v'.ownBlock = some w.heap.size) := by
  obtain ⟨i, hi, hz0, hz1, hz2⟩ := info_parts Tryz.infoPe
  have hm' := hm
  obtain ⟨ao, c, rfl, h1, h2, h3, h4⟩ := hm
  cases ao with
  | none =>
    have hc := h3 rfl
    have hl : m = [] := List.length_eq_zero_iff.1 (by omega)
    subst hl; subst hc
    exact ⟨v, w, run_append_owned_none (P := Tryz.prog) (w := w) B 38 ty 44 i 3 Tryz.underlying38 hi v l.length (pcs l) hown, by simpa using hown, World.grownBy.refl _ _, .inl rfl⟩
  | some ad =>
    obtain ⟨v', w', hr, q2, q3, q4⟩ := run_appW (P := Tryz.prog) w B 38 ty 44 _ 3 24 Tryz.underlying38 Tryz.infoPe rfl (by decide) v l.length (pcs l) hown ad m.length c (pcs m) (pcs_len m) hm'.cells (pcs_one m) (by unfold maxLen; omega) (by omega) hB
    exact ⟨v', w', hr, by unfold OwPe; rw [pcs_app, List.length_append]; exact q2, q3, q4⟩
theorem wpList_appPe {w : World} {ops : Array Oper} {rest : List Oper} {o : Oper} {a : Act} {Q : Exit → Act → World → Prop} (hgd : o.guard = none) (s x : Operand)
    (ho : o.op = .call { callee := .builtin .append, args := #[s, x], argTypes := #[38, 38] })
    (B : Nat) (v : Value) (l : List Pe) (hs : a.eval s = v) (hown : OwPe B w v l) (vx : Value) (m : List Pe) (hx : a.eval x = vx) (hm : RdPe w vx m) (hB : B ≤ w.heap.size) (hlen : l.length + m.length ≤ 1099511627776)
    (h : ∀ v' w', OwPe B w' v' (l ++ m) → w.grownBy w' v.ownBlock → (v'.ownBlock = v.ownBlock ∨ v'.ownBlock = some w.heap.size) → wpList Tryz.prog ops Q rest (a.put o.dst v') w') : wpList Tryz.prog ops Q (o :: rest) a w := by
  refine wpList_plain hgd fun K hK => ?_
  obtain ⟨v', w', hr, q2, q3, q4⟩ := run_appPe w o.type B v l hown vx m hm hB hlen
  unfold Oper.wp execOp
  simp only [ho, resolve, invoke, builtin, Sem.run_bind, Sem.run_pure, Result.andThen_ok, List.map_toArray, List.map_cons, List.map_nil, hs, hx, hr]
  exact hK _ _ (h v' w' q2 q3 q4)
end Go.Proofs.YtedfjacmaidhkaaGreat

/- Covers, On's look, rises, numbers. -/
namespace Go.Proofs.YtedfjacmaidhkaaGreat
open Go.RowKit
set_option linter.unusedVariables false
set_option maxRecDepth 100000

theorem g_al (w : World) (o : Obj) : Below w.heap.size w (w.alloc o) := (Below.refl _ _).alloc (Nat.le_refl _) o
theorem Rd.shp {w : World} {v : Value} {l : List UInt8} (h : Rd w v l) : ∃ a c, v = .slice a l.length c := by
  obtain ⟨a, c, e, _⟩ := h; exact ⟨a, c, e⟩
theorem covers_any {i c r : Int} {sv ev kv : Value} {pa : Option Addr} {pn pk : Nat} {s e k : List UInt8} {w : World} (hs : Rd w sv s) (he : Rd w ev e) (hk : Rd w kv k) :
    Calls Tryz.prog 22 #[.agg #[.int .u64 i, sv, ev, .int .u64 c, .int .u64 r, .slice pa pn pk], kv] w fun x w' => x = .returned (.bool (cov s e k)) ∧ Below w.heap.size w w' := by
  have q1 := fun o => bcompare_any (hk.alloc o) (hs.alloc o)
  have q2 := fun o => bcompare_any (hk.alloc o) (he.alloc o)
  have hcv : cov s e k = (decide (0 ≤ M.cmpL k s) && (decide (e.length = 0) || decide (M.cmpL k e < 0))) := rfl
  obtain ⟨sa, sc, rfl⟩ := hs.shp
  obtain ⟨ea, ec, rfl⟩ := he.shp
  have hel := he.len
  unfold maxLen at hel
  generalize M.cmpL k s = x1 at *
  generalize M.cmpL k e = x2 at *
  generalize cov s e k = res at *
  generalize s.length = sn at *
  generalize e.length = en at *
  clear hs he hk
  have HC : Hid _ := hcv
  clear hcv
  go_enter Tryz.func22, Tryz.ntmps22
  go_wp2_with fail
  refine (q1 _).mono ?_
  rintro x w1 ⟨rfl, rfl⟩
  by_cases h1 : 0 ≤ x1
  · by_cases h2 : en < 1
    · obtain rfl : en = 0 := by omega
      go_wp2_with fail
      go_ret
      exact ⟨by rw [HC.out, decide_eq_true h1]; rfl, g_al _ _⟩
    · have h3 : ¬ (en : Int) = 0 := by omega
      have h4 : ¬ en = 0 := by omega
      have h5 : ((en : Int) == 0) = false := by simp; omega
      go_wp2_with fail
      refine (q2 _).mono ?_
      rintro x w2 ⟨rfl, rfl⟩
      go_wp2_with fail
      go_ret
      exact ⟨by rw [HC.out, decide_eq_true h1, decide_eq_false h4]; rfl, g_al _ _⟩
  · go_wp2_with fail
    go_ret
    exact ⟨by rw [HC.out, decide_eq_false (show ¬ 0 ≤ x1 by omega)]; rfl, g_al _ _⟩
/-- Do the numbers rise, above the last one? -/
def risF : UInt64 → List UInt64 → Bool
  | _, [] => true
  | a, x :: l => decide (a < x) && risF x l
theorem rises_any {v : Value} {l : List UInt64} {w : World} (hr : Ru w v l) :
    Calls Tryz.prog 47 #[v] w fun x w' => x = .returned (.bool (risF 0 l)) ∧ w' = w := by
  obtain ⟨ao, c, rfl, h1, h2, h3, h4⟩ := hr
  unfold maxLen at h2
  generalize hres : risF 0 l = res
  have HR : Hid (risF 0 (l.drop 0) = res) := hres
  go_enter Tryz.func47, Tryz.ntmps47
  go_wp2_with fail
  go_loopw [3, 5, 8] (fun a _ i wr => ∃ (k : Nat) (y : UInt64), k ≤ l.length ∧ a = .int .u64 (y.toNat : Int) ∧ i = .int .i64 k ∧ Hid (risF y (l.drop k) = res) ∧ wr = w) (fun _ _ i _ => l.length - (intOf i).toNat)
  case atStart => exact ⟨0, 0, Nat.zero_le _, rfl, rfl, HR, rfl⟩
  case round =>
    obtain ⟨k, y, hk, rfl, rfl, HX, rfl⟩ := hrel
    clear HR hres
    by_cases hlt : k < l.length
    · obtain ⟨a, rfl, hc⟩ := h4 k hlt
      have HT : Hid (l.drop k = l[k] :: l.drop (k + 1)) := List.drop_eq_getElem_cons hlt
      clear h4 h3
      generalize l[k] = x at *
      by_cases hxy : y < x
      · have hq2 : ¬ x.toNat ≤ y.toNat := by have := UInt64.lt_iff_toNat_lt.1 hxy; omega
        have hq : ¬ ((x.toNat : Int) ≤ (y.toNat : Int)) := by omega
        go_wp2_with fail
        refine ⟨⟨k + 1, x, by omega, rfl, by go_num, ?_, trivial⟩, by simp [intOf]; omega⟩
        have := HX.out
        rw [HT.out] at this
        unfold risF at this
        rw [decide_eq_true hxy, Bool.true_and] at this
        exact this
      · have hq2 : x.toNat ≤ y.toNat := by have : ¬ y.toNat < x.toNat := fun q => hxy (UInt64.lt_iff_toNat_lt.2 q); omega
        have hq : ((x.toNat : Int) ≤ (y.toNat : Int)) := by omega
        go_wp2_with fail
        go_ret
        refine ⟨?_, rfl⟩
        have := HX.out
        rw [HT.out] at this
        unfold risF at this
        rw [decide_eq_false hxy, Bool.false_and] at this
        rw [← this]; rfl
    · obtain rfl : k = l.length := by omega
      have HX2 : Hid (true = res) := by have := HX.out; rw [List.drop_length] at this; exact this
      clear h4 HX
      go_wp2_with fail
      go_ret
      exact ⟨by rw [← HX2.out]; rfl, rfl⟩
theorem greatest_any (x : UInt64) (w : World) : Calls Tryz.prog 52 #[.int .u64 (x.toNat : Int)] w fun e w' => e = .returned (.bool (decide (x.toNat = 18446744073709551615))) ∧ w' = w := by
  go_enter Tryz.func52, Tryz.ntmps52
  go_wp2_with fail
  go_ret
  refine ⟨?_, rfl⟩
  by_cases h : x.toNat = 18446744073709551615
  · simp [h]
  · have : ¬ ((x.toNat : Int) = 18446744073709551615) := by omega
    simp [h, this]
end Go.Proofs.YtedfjacmaidhkaaGreat

/- numbers; on. -/
namespace Go.Proofs.YtedfjacmaidhkaaGreat
open Go.RowKit
set_option linter.unusedVariables false
set_option maxRecDepth 100000

set_option maxHeartbeats 1000000 in
theorem numbers_any {v : Value} {ps : List Pe} {w : World} (hr : RdPe w v ps) (hl : ps.length ≤ 1099511627776) :
    Calls Tryz.prog 48 #[v] w fun x w' => ∃ v', x = .returned v' ∧ Ou w.heap.size w' v' (ps.map (·.1)) ∧ Below w.heap.size w w' := by
  have HR : Hid (RdPe w v ps) := hr
  obtain ⟨ao, c, rfl, h1, h2, h3, h4⟩ := hr
  unfold maxLen at h2
  clear h4
  go_enter Tryz.func48, Tryz.ntmps48
  go_wp2_with fail
  go_loopw [3, 5, 8] (fun u _ i wr => ∃ k : Nat, k ≤ ps.length ∧ i = .int .i64 k ∧ Ou w.heap.size wr u ((ps.take k).map (·.1)) ∧ Below w.heap.size w wr) (fun _ _ i _ => ps.length - (intOf i).toNat)
  case atStart => exact ⟨0, Nat.zero_le _, rfl, Ou.nil _ _, Below.refl _ _⟩
  case round =>
    obtain ⟨k, hk, rfl, ho, hb⟩ := hrel
    by_cases hlt : k < ps.length
    · have HT : Hid ((ps.take (k + 1)).map (·.1) = (ps.take k).map (·.1) ++ [(ps[k]).1]) := by
        show _ = _
        rw [List.take_succ_eq_append_getElem hlt, List.map_append]; rfl
      obtain ⟨ao', c', e, _, _, _, h4⟩ := HR.out.below hb (Nat.le_refl _)
      simp only [Value.slice.injEq, true_and] at e
      obtain ⟨rfl, rfl⟩ := e
      obtain ⟨a, rfl, hc⟩ := h4 k _ (List.getElem?_eq_getElem hlt)
      clear h4
      obtain ⟨c0, c1, c2⟩ := hc
      have hlen : ((ps.take k).map (·.1)).length + 1 ≤ 10995116277760 := by simp; omega
      generalize (ps.take k).map (·.1) = L at *
      generalize ps[k] = p at *
      obtain ⟨p0, p1, p2⟩ := p
      simp only [] at c0 c1 c2 HT
      go_wp2_with (first | (at_builtin; refine wpList_appU rfl _ _ rfl w.heap.size _ L rfl ((ho.below (g_al _ _) (Nat.le_refl _)).below (g_al _ _) (Nat.le_refl _)) _ [p0] rfl (ru_one _ _ _ rfl _ _ (by simp)) (by have := hb.size; simp; omega) hlen ?_; intro v4 w4 ho4 hg4 hw4) | fail)
      refine ⟨⟨k + 1, by omega, by go_num, by rw [HT.out]; exact ho4, ?_⟩, by simp [intOf]; omega⟩
      have hx : Below w.heap.size w ((wr.alloc (.cells #[.int .u64 (p0.toNat : Int), .int .i64 p1, .bool p2] 44)).alloc (.cells #[.int .u64 (p0.toNat : Int)] 30)) := (hb.alloc hb.size _).alloc (by have := hb.size; simp; omega) _
      exact hx.grown hg4 (by have := hb.size; simp; omega) (fun j e => (World.ownsRow.lt ho j e).1)
    · obtain rfl : k = ps.length := by omega
      rw [List.take_length] at ho
      go_wp2_with fail
      go_ret
      exact ⟨_, rfl, ho, hb⟩
end Go.Proofs.YtedfjacmaidhkaaGreat
