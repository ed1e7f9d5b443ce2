/- What the law's own Num answers. -/
import Derived.Test.YtipnghaphfgalaaG1
namespace Go.Proofs.Ytipnghaphfgalaa
open Go.RowKit
set_option linter.unusedVariables false
theorem lnum_any (z : Int) (w : World) : Calls Try.prog 27 #[.int .i64 z] w fun e w' => e = .returned (.int .i64 z) ∧ w' = w := by
  go_enter Try.func27, Try.ntmps27
  go_wp2
  go_ret
  exact ⟨rfl, rfl⟩
end Go.Proofs.Ytipnghaphfgalaa
