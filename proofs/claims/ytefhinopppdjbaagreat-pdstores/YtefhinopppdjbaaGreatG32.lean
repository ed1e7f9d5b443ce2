/- math/bits.Len: some number. -/
import Derived.Test.YtefhinopppdjbaaGreatG30
import Derived.Test.YtefhinopppdjbaaGreatG31
namespace Go.Proofs.YtefhinopppdjbaaGreat
open Go.RowKit
set_option linter.unusedVariables false
set_option maxRecDepth 100000

theorem bitLenAux_le : ∀ f n : Nat, Lib.bitLenAux f n ≤ f
  | 0, _ => Nat.le_refl _
  | f + 1, n => by
    rw [Lib.bitLenAux]
    split
    · omega
    · have := bitLenAux_le f (n / 2); omega

theorem len_ok : LenOk := fun n W hn => by
  refine (Tryz.bits_Len (n : Int) W (by omega) (by omega)).mono ?_
  rintro e w' ⟨rfl, rfl⟩
  exact ⟨_, bitLenAux_le 64 _, rfl, rfl⟩
end Go.Proofs.YtefhinopppdjbaaGreat
