/- A word for what a call turns: of what was there only blocks of S. Nothing of the program is named here. -/
import Derived.Test.YtefhinopppdjbaaGreatG3
import Derived.Test.YtefhinopppdjbaaGreatG9
namespace Go.Proofs.YtefhinopppdjbaaGreat
open Go.RowKit
set_option linter.unusedVariables false
set_option maxRecDepth 100000

theorem Ow.keptC {S : Nat → Prop} {w w' : World} {B : Nat} {v : Value} {l : List UInt8} (h : Ow B w v l) (hg : Chg S w w') (hne : ∀ b, v.ownBlock = some b → ¬ S b) : Ow B w' v l := ownsRow_keptC h hg hne
end Go.Proofs.YtefhinopppdjbaaGreat
