/- What TakeVarint answers of any bytes. -/
import Derived.Test.YtlajncjamafomaaG14
namespace Go.Proofs.Ytlajncjamafomaa
open Go.RowKit
set_option linter.unusedVariables false
set_option maxRecDepth 100000

theorem takeV_any {v : Value} {l : List UInt8} {w : World} (hr : Rd w v l) (hl : l.length ≤ 140737488355000) :
    Calls Try.prog 55 #[v] w fun e w' => ∃ v2, e = .returned (.tuple #[.int .u64 (M.tv l).1, v2, .int .i64 (M.tv l).2.2]) ∧ Ow w.heap.size w' v2 (M.tv l).2.1 ∧ Below w.heap.size w w' := by
  have hle := tv_len l
  go_enter Try.func55, Try.ntmps55
  go_wp2_with fail
  refine (rvar_any hr).mono ?_
  rintro e w1 ⟨v1, rfl, hr1, k1, rfl⟩
  go_wp2_with fail
  refine (clone_any (hr1.drewN k1) (by omega)).mono ?_
  rintro e w2 ⟨v2, rfl, ho2, hb2⟩
  go_wp2_with fail
  go_ret3
  exact ⟨_, rfl, ho2, Below.tr (Below.dN w k1) hb2⟩
end Go.Proofs.Ytlajncjamafomaa
