/- What is seen: a map[uint64]struct{} of the call's own. -/
import Derived.Test.YtipnghaphfgalaaG17
import Derived.Maps.OwnSet
import Derived.Maps.Keyed
namespace Go.Proofs.Ytipnghaphfgalaa
open Go.RowKit Go.Maps
set_option linter.unusedVariables false
set_option maxRecDepth 100000

theorem Try.keyedU : Maps.Keyed Try.prog 23 := Maps.int_keyed Try.underlying23
theorem keyU (y : UInt64) : keyOf Try.prog 23 (.int .u64 (y.toNat : Int)) = some (.int .u64 (y.toNat : Int)) :=
  Maps.keyOf_int_mk Try.underlying23 (by have := y.toNat_lt; simp [Lit.wf, IntKind.min, IntKind.max, IntKind.signed, IntKind.bits]; omega)
theorem Try.zeroUnit (w : World) : (zeroValue 65).run Try.prog w = .ok (.agg #[]) w := by kernel_rfl
def kU (y : UInt64) : Lit := .int .u64 (y.toNat : Int)
theorem kU_inj {y z : UInt64} (h : kU y = kU z) : y = z := by
  simp only [kU, Lit.int.injEq, true_and] at h
  exact UInt64.toNat_inj.1 (by omega)
/-- These numbers are seen, in the map of block m. -/
def Sn (m : Nat) (s : List UInt64) (w : World) : Prop := ∃ D : DataW Unit, w.ownsMap Try.prog 23 (unitElem (H := Unit)) m s.length D ∧ ∀ y, Maps.has D (kU y) = decide (y ∈ s)
theorem Sn.lt {m : Nat} {s : List UInt64} {w : World} (h : Sn m s w) : m < w.heap.size := by
  obtain ⟨D, ⟨es, clock, hb, r⟩, _⟩ := h
  exact (Array.getElem?_eq_some_iff.1 hb).1
theorem Sn.keptC {T : Nat → Prop} {m : Nat} {s : List UInt64} {w w' : World} (h : Sn m s w) (hc : Chg T w w') (hm : ¬ T m) : Sn m s w' := by
  obtain ⟨D, ⟨es, clock, hb, r⟩, q⟩ := h
  exact ⟨D, ⟨es, clock, by rw [hc.block m (Array.getElem?_eq_some_iff.1 hb).1 hm]; exact hb, r⟩, q⟩
theorem Sn.below {C m : Nat} {s : List UInt64} {w w' : World} (h : Sn m s w) (hb : Below C w w') (hC : w.heap.size ≤ C) : Sn m s w' := h.keptC (Chg.of_below hb) (fun q => by have := h.lt; omega)
theorem Sn.look {m : Nat} {s : List UInt64} {w : World} (h : Sn m s w) (y : UInt64) : (Instr.lookup 66 (.map (some m)) (.int .u64 (y.toNat : Int)) true).run Try.prog w = .ok (.tuple #[.agg #[], .bool (decide (y ∈ s))]) w := by
  obtain ⟨D, h, q⟩ := h
  obtain ⟨v, ps, hr, hv⟩ := h.look_ok Try.keyedU Try.underlying66 (Try.zeroUnit w) (zd := .agg []) (zp := []) unitElem_mk (keyU y)
  obtain ⟨rfl, _⟩ := unitElem_inv hv
  have e := q y
  unfold kU at e
  rw [hr, e]
theorem Sn.put {m : Nat} {s : List UInt64} {w : World} (h : Sn m s w) (hn : s.length < 1099511627776) (y : UInt64) : ∃ w2, (Instr.mapUpdate 66 (.map (some m)) (.int .u64 (y.toNat : Int)) (.agg #[])).run Try.prog w = .ok () w2 ∧ Sn m (s ++ [y]) w2 ∧ Chg (fun b => b = m) w w2 := by
  obtain ⟨D, h, q⟩ := h
  obtain ⟨w2, hr, hown, ht⟩ := h.store Try.keyedU Try.underlying66 (by unfold maxLen; omega) (keyU y) (unitElem_mk (H := Unit))
  refine ⟨w2, hr, ⟨_, by rw [List.length_append]; exact hown, fun z => ?_⟩, Chg.of_grown ht.grown (fun b e _ => (Option.some.inj e).symm)⟩
  by_cases e : z = y
  · subst e
    rw [show kU z = .int .u64 (z.toNat : Int) from rfl, Maps.has_put_same h.isMap (by trivial)]
    simp
  · show Maps.has (D.put (kU y) _) (kU z) = _
    rw [Maps.has_put_other (fun e2 => e (kU_inj e2)), q z]
    simp [e]
theorem Sn.made (w : World) : Sn w.heap.size [] (w.alloc (.map #[] 0)) := ⟨.map [], World.ownsMap_made w _ _ _, fun y => rfl⟩
end Go.Proofs.Ytipnghaphfgalaa
