/- What bytes.Clone answers of any bytes. -/
import Derived.Test.YtlajncjamafomaaG19
import Derived.Lib.SliceRun
namespace Go.Proofs.Ytlajncjamafomaa
open Go.RowKit
set_option linter.unusedVariables false
set_option maxRecDepth 100000

theorem take_snoc (l : List UInt8) (k : Nat) (h : k < l.length) : l.take (k + 1) = l.take k ++ [l[k]] := by
  rw [List.take_succ_eq_append_getElem h]
theorem clone_any {v : Value} {l : List UInt8} {w : World} (hr : Rd w v l) (hl : l.length ≤ 140737488355328) :
    Calls Try.prog 50 #[v] w fun e w' => ∃ v', e = .returned v' ∧ Ow w.heap.size w' v' l ∧ Below w.heap.size w w' := by
  have q : ∀ (w : World) (a : Option Addr) (n c n' c' : Nat), (binOp .eql 22 (.slice a n c) (.slice none n' c')).run Try.prog w = .ok (.bool a.isNone) w := fun w a n c n' c' => Lib.run_eql_slice_nil w _ _ a n c n' c' Try.underlying22
  rcases hr.two with ⟨rfl, rfl⟩ | ⟨a, c, hv, h1, h2, h3⟩
  · go_enter Try.func50, Try.ntmps50
    go_wp2
    go_ret
    exact ⟨_, rfl, Ow.nil _ _, Below.refl _ _⟩
  · subst hv
    go_enter Try.func50, Try.ntmps50
    go_wp2_with (first | (at_builtin; refine wpList_app rfl _ _ rfl w.heap.size _ [] rfl (Ow.lit0 _ _ (Nat.le_refl _)) _ l rfl (hr.alloc _) (by simp) (by simpa using hl) ?_; intro v' w' ho' hb' hg') | fail)
    go_ret
    exact ⟨_, rfl, ho', ((Below.refl _ _).alloc (Nat.le_refl _) _).trans hb'⟩
end Go.Proofs.Ytlajncjamafomaa
