/- The heap's methods, called through heap.Interface. -/
import Derived.Test.YtefhinopppdjbaaGreatG17
namespace Go.Proofs.YtefhinopppdjbaaGreat
open Go.RowKit
set_option linter.unusedVariables false
set_option maxRecDepth 100000

/-- A method with a value's receiver, called on a pointer in an interface: what lies there is loaded. -/
theorem run_method_val {P : Program} {t elem : TypeId} {name : String} {f : FuncId} {w : World} {a : Addr} {v : Value} (fuel : Nat)
    (hm : (P.info? t).map (fun i => (i.methods.find? (·.name == name)).map (fun m => (m.path, m.func))) = some (some (#[], some (f, false))))
    (hu : P.underlying t = some (.pointer elem)) (hl : (loadVar elem a).run P w = .ok v w) : (method (fuel + 1) t (.pointer (some a)) name).run P w = .ok (f, v) w := by
  obtain ⟨i, hi, hm⟩ := Option.map_eq_some_iff.1 hm
  obtain ⟨m, hf, hm⟩ := Option.map_eq_some_iff.1 hm
  simp only [Prod.mk.injEq] at hm
  obtain ⟨hp, hfn⟩ := hm
  have h1 : (typeInfo t).run P w = .ok i w := by simp [typeInfo, hi]
  have h2 : (underlying t).run P w = .ok (.pointer elem) w := run_underlying hu w
  have h3 : ∀ nm, (Builtin.ssaWrapNilChk_ #[t] t #[.pointer (some a), strVal "", strVal nm]).run P w = .ok (.pointer (some a)) w := fun _ => rfl
  have h4 : (asAddr (.pointer (some a))).run P w = .ok a w := rfl
  unfold method
  simp only [Sem.run_bind, h1, Result.andThen_ok, hf, hp, hfn, follow, Sem.run_pure, receiverAt, h2, Place.get, Array.isEmpty_empty, if_true, h3, h4, hl]
/-- .. and one with a pointer's. -/
theorem run_method_ptr {P : Program} {t elem : TypeId} {name : String} {f : FuncId} {w : World} {a : Addr} (fuel : Nat)
    (hm : (P.info? t).map (fun i => (i.methods.find? (·.name == name)).map (fun m => (m.path, m.func))) = some (some (#[], some (f, true))))
    (hu : P.underlying t = some (.pointer elem)) : (method (fuel + 1) t (.pointer (some a)) name).run P w = .ok (f, .pointer (some a)) w := by
  obtain ⟨i, hi, hm⟩ := Option.map_eq_some_iff.1 hm
  obtain ⟨m, hf, hm⟩ := Option.map_eq_some_iff.1 hm
  simp only [Prod.mk.injEq] at hm
  obtain ⟨hp, hfn⟩ := hm
  have h1 : (typeInfo t).run P w = .ok i w := by simp [typeInfo, hi]
  have h2 : (underlying t).run P w = .ok (.pointer elem) w := run_underlying hu w
  unfold method
  simp only [Sem.run_bind, h1, Result.andThen_ok, hf, hp, hfn, follow, Sem.run_pure, receiverAt, h2, Place.get]

theorem load_ent {w : World} {p : Nat} {v : Value} (h : w.cell? ⟨p, 6, none⟩ = some v) : (loadVar 51 ⟨p, 6, none⟩).run Tryz.prog w = .ok v w := by
  simp [loadVar, go_sem, h]
section
variable {w : World} {p : Nat} {v : Value}
theorem meth_less (h : w.cell? ⟨p, 6, none⟩ = some v) : (method 286 82 (.pointer (some ⟨p, 6, none⟩)) "Less").run Tryz.prog w = .ok (149, v) w := run_method_val 285 (elem := 51) (by kernel_rfl) (by kernel_rfl) (load_ent h)
theorem meth_swap (h : w.cell? ⟨p, 6, none⟩ = some v) : (method 286 82 (.pointer (some ⟨p, 6, none⟩)) "Swap").run Tryz.prog w = .ok (150, v) w := run_method_val 285 (elem := 51) (by kernel_rfl) (by kernel_rfl) (load_ent h)
theorem meth_len (h : w.cell? ⟨p, 6, none⟩ = some v) : (method 286 82 (.pointer (some ⟨p, 6, none⟩)) "Len").run Tryz.prog w = .ok (148, v) w := run_method_val 285 (elem := 51) (by kernel_rfl) (by kernel_rfl) (load_ent h)
theorem meth_push : (method 286 82 (.pointer (some ⟨p, 6, none⟩)) "Push").run Tryz.prog w = .ok (152, .pointer (some ⟨p, 6, none⟩)) w := run_method_ptr 285 (elem := 51) (by kernel_rfl) (by kernel_rfl)
theorem meth_pop : (method 286 82 (.pointer (some ⟨p, 6, none⟩)) "Pop").run Tryz.prog w = .ok (151, .pointer (some ⟨p, 6, none⟩)) w := run_method_ptr 285 (elem := 51) (by kernel_rfl) (by kernel_rfl)
end
end Go.Proofs.YtefhinopppdjbaaGreat
