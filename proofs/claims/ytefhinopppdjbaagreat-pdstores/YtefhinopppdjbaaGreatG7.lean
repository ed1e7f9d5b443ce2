/- Cells of a list of wide elements, looked at the other way round; addresses; rows kept. -/
import Derived.Test.YtefhinopppdjbaaGreatG6
import Derived.Test.YtefhinopppdjbaaGreatG3
namespace Go.Proofs.YtefhinopppdjbaaGreat
open Go.RowKit
set_option linter.unusedVariables false
set_option maxRecDepth 100000

theorem fm_inv {α : Type} {f : α → List Value} {n : Nat} (hf : ∀ x, (f x).length = n) (hn : 0 < n) (l : List α) (j : Nat) (u : Value) (h : (l.flatMap f)[j]? = some u) : ∃ i r x, l[i]? = some x ∧ r < n ∧ j = i * n + r ∧ (f x)[r]? = some u := by
  have hj := (List.getElem?_eq_some_iff.1 h).1
  rw [fm_len hf] at hj
  have hi : j / n < l.length := Nat.div_lt_of_lt_mul (by rw [Nat.mul_comm]; exact hj)
  have hr := Nat.mod_lt j hn
  have e : j = j / n * n + j % n := by have := Nat.div_add_mod j n; rw [Nat.mul_comm] at this; omega
  refine ⟨j / n, j % n, l[j / n], List.getElem?_eq_getElem hi, hr, e, ?_⟩
  rw [← fm_at hf l (j / n) (j % n) _ (List.getElem?_eq_getElem hi) hr, ← e]
  exact h

theorem add_at (a : Addr) (n r : Nat) : (⟨(a.add n).block, (a.add n).off + (r + 1), none⟩ : Addr) = a.add (n + (r + 1)) := by
  unfold Addr.add
  by_cases h : n = 0
  · subst h; simp
  · simp [h]; omega
theorem ownsRow_belP {B C n s : Nat} {e : TypeId} {w w' : World} {v : Value} {xs : List Value} (h : w.ownsRow B e s v n xs) (hb : Below C w w') (hC : w.heap.size ≤ C) : w'.ownsRow B e s v n xs := by
  obtain ⟨h1, h2⟩ := h
  refine ⟨h1, ?_⟩
  rcases h2 with h2 | ⟨g, cap, cur, hv, hg, hh, r⟩
  · exact .inl h2
  · refine .inr ⟨g, cap, cur, hv, hg, ?_, r⟩
    have hlt : g < w.heap.size := (Array.getElem?_eq_some_iff.1 hh).1
    rw [hb.block g (by omega)]; exact hh
end Go.Proofs.YtefhinopppdjbaaGreat
