/- A new disk. -/
import Derived.Test.YtbolnelbchffhacDkOps
namespace Go.Proofs.Ytbolnelbchffhac
open Go.RowKit
set_option linter.unusedVariables false
set_option maxRecDepth 100000

theorem new_block (w : World) (o : Obj) : ((w.alloc (.map #[] 0)).alloc o).heap[w.heap.size + 1]? = some o := by
  show ((w.heap.push _).push _)[_]? = _
  rw [Array.getElem?_push]
  simp

/-- What New lays. -/
theorem new_dk (w : World) (v : Value) : Dk w.heap.size (w.heap.size + 1) 0 (fun b => if b = w.heap.size then some .map else if b = w.heap.size + 1 then some .disk else none) (fun _ => none) 0 v 0
    ((w.alloc (.map #[] 0)).alloc (.cells #[.map (some w.heap.size), .int .i64 0, v, .int .i64 0] 55)) := by
  refine ⟨w.heap.size, .map [], fun _ => 0, fun _ => .slice none 0 0, new_block w _, (World.ownsMap_made w _ _ _).alloc _, fun nm f e => by simp at e, fun nm e => rfl, fun nm f e => by simp at e, by simp, by simp, fun nm f e => by simp at e, fun nm f b e => by simp at e, fun b hb => ?_⟩
  have : b = w.heap.size ∨ b = w.heap.size + 1 := by
    by_cases q : b = w.heap.size
    · exact .inl q
    · rw [if_neg q] at hb
      by_cases q2 : b = w.heap.size + 1
      · exact .inr q2
      · rw [if_neg q2] at hb; exact absurd rfl hb
  simp
  omega

/-- A new disk. -/
theorem new_any (w : World) :
    Calls Try.prog 8 #[] w fun e w' => ∃ d own, e = .returned (.pointer (some ⟨d, 0, none⟩)) ∧ Dk w.heap.size d 0 own (fun _ => none) 0 (alive d) 0 w' ∧ Below w.heap.size w w' := by
  have hmk := fun w => run_makeMap (P := Try.prog) 51 w
  go_enter Try.func8, Try.ntmps8
  go_wp2_with fail
  go_ret
  exact ⟨w.heap.size + 1, _, rfl, new_dk w _, ((Below.refl w.heap.size w).alloc (Nat.le_refl _) _).alloc (by simp) _⟩
end Go.Proofs.Ytbolnelbchffhac
