/- The bytes of all files together, whatever is written, removed and renamed. -/
import Derived.Test.YtbolnelbchffhacDkCrash
namespace Go.Proofs.Ytbolnelbchffhac
set_option linter.unusedVariables false

def lenO (x : Option (List UInt8 × Nat)) : Nat := match x with | some f => f.1.length | none => 0

theorem sumB_cons (st : Nm → Option (List UInt8 × Nat)) (k : Nm) (r : List Nm) : sumB st (k :: r) = lenO (st k) + sumB st r := rfl
theorem sumB_setO (st : Nm → Option (List UInt8 × Nat)) (nm : Nm) (x : Option (List UInt8 × Nat)) : ∀ L : List Nm, L.Nodup → nm ∈ L → sumB (setF st nm x) L + lenO (st nm) = sumB st L + lenO x
  | [], _, h => by cases h
  | k :: r, hn, h => by
    have hn' := List.nodup_cons.1 hn
    by_cases q : k = nm
    · subst q
      rw [sumB_cons, sumB_cons, setF_same, sumB_out st k _ r hn'.1]
      omega
    · have := sumB_setO st nm x r hn'.2 (by rcases List.mem_cons.1 h with q2 | q2; exact absurd q2.symm q; exact q2)
      rw [sumB_cons, sumB_cons, setF_other _ _ q]
      omega

/-- sz is the bytes of all files of st together, and fits. -/
def Sum (st : Nm → Option (List UInt8 × Nat)) (sz : Nat) : Prop := ∃ L : List Nm, L.Nodup ∧ (∀ nm, st nm ≠ none → nm ∈ L) ∧ sumB st L = sz

theorem Sum.with {st : Nm → Option (List UInt8 × Nat)} {sz : Nat} (h : Sum st sz) (nm : Nm) : ∃ L : List Nm, L.Nodup ∧ (∀ k, st k ≠ none → k ∈ L) ∧ sumB st L = sz ∧ nm ∈ L := by
  obtain ⟨L, h1, h2, h3⟩ := h
  by_cases q : nm ∈ L
  · exact ⟨L, h1, h2, h3, q⟩
  · have hn : st nm = none := by
      by_cases e : st nm = none
      · exact e
      · exact absurd (h2 nm e) q
    exact ⟨nm :: L, List.nodup_cons.2 ⟨q, h1⟩, fun k hk => List.mem_cons_of_mem _ (h2 k hk), by rw [sumB_cons, hn, h3]; simp [lenO], List.mem_cons_self ..⟩
theorem Sum.le {st : Nm → Option (List UInt8 × Nat)} {sz : Nat} (h : Sum st sz) (nm : Nm) : lenO (st nm) ≤ sz := by
  obtain ⟨L, h1, h2, h3, h4⟩ := h.with nm
  have := sumB_setO st nm none L h1 h4
  simp only [lenO] at this ⊢
  omega
theorem Sum.set {st : Nm → Option (List UInt8 × Nat)} {sz sz' : Nat} (h : Sum st sz) (nm : Nm) (x : Option (List UInt8 × Nat)) (hs : sz' + lenO (st nm) = sz + lenO x) : Sum (setF st nm x) sz' := by
  obtain ⟨L, h1, h2, h3, h4⟩ := h.with nm
  refine ⟨L, h1, fun k hk => ?_, ?_⟩
  · by_cases q : k = nm
    · subst q; exact h4
    · rw [setF_other _ _ q] at hk; exact h2 k hk
  · have := sumB_setO st nm x L h1 h4
    omega
theorem Sum.none0 : Sum (fun _ => none) 0 := ⟨[], List.nodup_nil, fun _ h => absurd rfl h, rfl⟩
end Go.Proofs.Ytbolnelbchffhac
