/- Lists of byte slices in memory. -/
import Derived.Test.YtlajncjamafomaaG31
import Derived.Test.YtlajncjamafomaaG4
import Derived.Test.YtlajncjamafomaaG25
namespace Go.Proofs.Ytlajncjamafomaa
open Go.RowKit
set_option linter.unusedVariables false
set_option maxRecDepth 100000

/-- The slice value v reads as these texts. -/
def Rds (w : World) (v : Value) (ls : List (List UInt8)) : Prop :=
  ∃ ao c, v = .slice ao ls.length c ∧ ls.length ≤ c ∧ c ≤ maxLen ∧ ∀ i, (h : i < ls.length) → ∃ a u, ao = some a ∧ w.cell? (a.add i) = some u ∧ Rd w u ls[i]

theorem Rds.below {B : Nat} {w w' : World} {v : Value} {ls : List (List UInt8)} (h : Rds w v ls) (hb : Below B w w') (hB : w.heap.size ≤ B) : Rds w' v ls := by
  obtain ⟨ao, c, h0, h1, h2, h4⟩ := h
  refine ⟨ao, c, h0, h1, h2, fun i hi => ?_⟩
  obtain ⟨a, u, e, hc, hr⟩ := h4 i hi
  have hlt := World.block_lt_of_cell? w _ hc
  exact ⟨a, u, e, by rw [hb.cell (by omega)]; exact hc, hr.below hb hB⟩
end Go.Proofs.Ytlajncjamafomaa
