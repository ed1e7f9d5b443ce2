/- A region that draws its order, by what holds behind any of its operations: 'I D a w' with D the set of those that were carried out. General: nothing of the program is named here. -/
import Derived.Deep.RegionHeld3
import Derived.StillTailTactics
namespace Go.Proofs.YtedfjacmaidhkaaGreat
open Go
set_option linter.unusedVariables false
set_option maxRecDepth 100000

/-- Each operation waits for earlier ones alone. -/
def backB (ops : Array Oper) : Bool := (List.range ops.size).all fun j => match ops[j]? with | some o => o.after.all (fun e => decide (e.on < j)) | none => true
theorem backB_spec {ops : Array Oper} (h : backB ops = true) {j : Nat} {o : Oper} (ho : ops[j]? = some o) : ∀ e ∈ o.after, e.on < j := by
  have hj : j < ops.size := (Array.getElem?_eq_some_iff.1 ho).1
  have := List.all_eq_true.1 h j (List.mem_range.2 hj)
  rw [ho] at this
  intro e he
  exact of_decide_eq_true (Array.all_eq_true_iff_forall_mem.1 this e he)
section
variable {P : Program} {ops : Array Oper} {Q : Exit → Act → World → Prop}
theorem ready_nil {listed : Array Bool} (hb : backB ops = true) (hsz : listed.size = ops.size) (h : Region.ready .any ops listed = []) : ∀ i, i < ops.size → listed.getD i true = true := by
  intro i
  induction i using Nat.strongRecOn with
  | _ i ih =>
    intro hi
    cases hc : listed.getD i true with
    | true => rfl
    | false =>
      obtain ⟨o, ho⟩ : ∃ o, ops[i]? = some o := ⟨_, Array.getElem?_eq_getElem hi⟩
      have : i ∈ Region.ready .any ops listed := mem_ready.2 ⟨hc, o, ho, fun e he _ => by
        have h1 := backB_spec hb ho e he
        have h2 := ih e.on h1 (by omega)
        have h3 : e.on < listed.size := by omega
        simp only [Array.getD, h3, dite_true] at h2 ⊢
        exact h2⟩
      rw [h] at this
      cases this
theorem count_put (l : Array Bool) (i : Nat) (h : l.getD i true = false) : (l.setIfInBounds i true).toList.count false + 1 = l.toList.count false := by
  have hi : i < l.size := by
    by_cases q : i < l.size
    · exact q
    · simp [Array.getD, q] at h
  have hl : l.toList[i]'(by simpa using hi) = false := by simpa [Array.getD, hi] using h
  rw [Array.toList_setIfInBounds, List.count_set (by simpa using hi)]
  have hpos : 0 < l.toList.count false := List.count_pos_iff.2 (by rw [← hl]; exact List.getElem_mem _)
  have e : (if l.toList[i]'(by simpa using hi) == false then 1 else 0) = 1 := by rw [hl]; rfl
  rw [e]
  simp only [Bool.true_beq, if_false, Nat.add_zero, reduceCtorEq]
  first | omega | (simp; omega)
theorem wpAny_inv (hb : backB ops = true) (I : (Nat → Bool) → Act → World → Prop)
    (hstep : ∀ (D : Nat → Bool) i o a w, I D a w → ops[i]? = some o → D i = false → (∀ e ∈ o.after, Region.binds .any e = true → D e.on = true) → ∀ K' : Act → World → Prop, (∀ a w, I (fun j => if j = i then true else D j) a w → K' a w) → if Region.wanted o (yielded ops a.tmps) = true then Oper.wp P o a w K' Q else K' (a.put o.dst undef) w)
    (hend : ∀ D a w, I D a w → (∀ i, i < ops.size → D i = true) → Q .normal a w) :
    ∀ (fuel : Nat) (listed : Array Bool) (a : Act) (w : World), listed.size = ops.size → listed.toList.count false ≤ fuel → I (fun j => listed.getD j true) a w → wpAny P .any ops Q fuel listed a w := by
  intro fuel
  induction fuel with
  | zero =>
    intro listed a w hsz hc hI
    have hall : ∀ i, i < ops.size → listed.getD i true = true := fun i hi => by
      cases h : listed.getD i true with
      | true => rfl
      | false => have := count_put listed i h; omega
    refine ⟨?_, hend _ a w hI hall⟩
    cases hr : Region.ready .any ops listed with
    | nil => rfl
    | cons j t =>
      have hj : j ∈ Region.ready .any ops listed := by rw [hr]; exact List.mem_cons_self ..
      obtain ⟨h1, o, ho, _⟩ := mem_ready.1 hj
      rw [hall j (Array.getElem?_eq_some_iff.1 ho).1] at h1
      cases h1
  | succ fuel ih =>
    intro listed a w hsz hc hI
    refine ⟨fun h => hend _ a w hI (ready_nil hb hsz h), fun i hi => ?_⟩
    obtain ⟨h1, o, ho, haf⟩ := mem_ready.1 hi
    have hlt : i < listed.size := by rw [hsz]; exact (Array.getElem?_eq_some_iff.1 ho).1
    refine wpOp_step ho (fun K' hK => hstep _ i o a w hI ho h1 (fun e he hbd => ?_) K' (fun a' w' hI' => hK a' w' (ih _ a' w' (by simpa using hsz) (by have := count_put listed i h1; omega) ?_)))
    · have h2 := haf e he hbd
      have h3 : e.on < listed.size := by
        by_cases q : e.on < listed.size
        · exact q
        · simp [Array.getD, q] at h2
      simp only [Array.getD, h3, dite_true] at h2 ⊢
      exact h2
    · have e : (fun j => (listed.setIfInBounds i true).getD j true) = fun j => if j = i then true else listed.getD j true := by
        funext j
        by_cases hji : j = i
        · subst hji; simp [Array.getD]
        · rw [if_neg hji]
          by_cases hj : j < listed.size
          · have hij : ¬ i = j := fun q => hji q.symm
            simp [Array.getD, hj, hij]
          · simp [Array.getD, hj]
      rw [e]
      exact hI'
theorem wp_region_inv {id : Nat} {a : Act} {w : World} (hm : P.follows .mixedOrders = true) (hb : backB ops = true) (I : (Nat → Bool) → Act → World → Prop) (h0 : I (fun j => (Array.replicate ops.size false).getD j true) a w.drew)
    (hstep : ∀ (D : Nat → Bool) i o a w, I D a w → ops[i]? = some o → D i = false → (∀ e ∈ o.after, Region.binds .any e = true → D e.on = true) → ∀ K' : Act → World → Prop, (∀ a w, I (fun j => if j = i then true else D j) a w → K' a w) → if Region.wanted o (yielded ops a.tmps) = true then Oper.wp P o a w K' Q else K' (a.put o.dst undef) w)
    (hend : ∀ D a w, I D a w → (∀ i, i < ops.size → D i = true) → Q .normal a w) : (Code.region id ops true).wp P Q a w :=
  wp_region_any hm (wpAny_inv hb I hstep hend _ _ _ _ (by simp) (by simp) h0)
end
end Go.Proofs.YtedfjacmaidhkaaGreat
