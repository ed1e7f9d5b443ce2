/- Newer. -/
import Derived.Test.YtnapkomjegbhcaaG11
import Derived.Test.YtnapkomjegbhcaaG4
import Derived.Deep.RegionHeld3
namespace Go.Proofs.Ytnapkomjegbhcaa
open Go.RowKit
set_option linter.unusedVariables false
set_option maxRecDepth 100000

/-- Is the first epoch (Conf, Version) the later one? -/
def nwr (cf vr cf' vr' : UInt64) : Bool := decide (0 < orF (cmpU vr vr') (cmpU cf cf'))
theorem nwr_iff {cf vr cf' vr' : UInt64} : nwr cf vr cf' vr' = true ↔ vr'.toNat < vr.toNat ∨ (vr.toNat = vr'.toNat ∧ cf'.toNat < cf.toNat) := by
  unfold nwr orF cmpU
  rw [decide_eq_true_iff]
  constructor
  · intro h
    split at h <;> split at h <;> (try split at h) <;> omega
  · intro h
    split <;> split <;> (try split) <;> omega
end Go.Proofs.Ytnapkomjegbhcaa
