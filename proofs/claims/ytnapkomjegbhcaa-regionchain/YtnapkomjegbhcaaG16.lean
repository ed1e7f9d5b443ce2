/- What Newer answers. -/
import Derived.Test.YtnapkomjegbhcaaG14
import Derived.Deep.CutRange
namespace Go.Proofs.Ytnapkomjegbhcaa
open Go.RowKit
set_option linter.unusedVariables false
set_option maxRecDepth 100000

theorem box2 {w W : World} {u0 u1 : Value} {t : TypeId} {g : Nat} (h : W.heap[g]? = some (.cells #[u0, u1] t (0, 0))) : W.cell? ⟨g, 0, none⟩ = some u0 ∧ W.cell? ⟨g, 1, none⟩ = some u1 ∧ ∀ i, W.frozen? ⟨g, i, none⟩ = false :=
  ⟨by rw [cell_of_row _ _ _ _ _ _ h]; rfl, by rw [cell_of_row _ _ _ _ _ _ h]; rfl, fun i => frozen_of_row _ _ _ _ _ h⟩
set_option maxHeartbeats 2000000 in
theorem newer_any (cf vr cf' vr' : UInt64) (w : World) : Calls Try.prog 8 #[.agg #[.int .u64 (cf.toNat : Int), .int .u64 (vr.toNat : Int)], .agg #[.int .u64 (cf'.toNat : Int), .int .u64 (vr'.toNat : Int)]] w fun e w' => e = .returned (.bool (nwr cf vr cf' vr')) ∧ Below w.heap.size w w' := by
  have hn : nwr cf vr cf' vr' = decide (0 < orF (cmpU vr vr') (cmpU cf cf')) := rfl
  have hcm := fun x y W => compareU_any x y W
  have hb0 : Below w.heap.size w ((w.alloc (.cells #[.int .u64 (cf.toNat : Int), .int .u64 (vr.toNat : Int)] 31)).alloc (.cells #[.int .u64 (cf'.toNat : Int), .int .u64 (vr'.toNat : Int)] 31)) := (g_al w _).alloc (by simp) _
  have hl0 : ((w.alloc (.cells #[.int .u64 (cf.toNat : Int), .int .u64 (vr.toNat : Int)] 31)).alloc (.cells #[.int .u64 (cf'.toNat : Int), .int .u64 (vr'.toNat : Int)] 31)).heap[w.heap.size]? = some (.cells #[.int .u64 (cf.toNat : Int), .int .u64 (vr.toNat : Int)] 31 (0, 0)) := (Below.heap_alloc _ _ _ (by simp)).trans (heap_alloc_new w _)
  have hh0 : ((w.alloc (.cells #[.int .u64 (cf.toNat : Int), .int .u64 (vr.toNat : Int)] 31)).alloc (.cells #[.int .u64 (cf'.toNat : Int), .int .u64 (vr'.toNat : Int)] 31)).heap[w.heap.size + 1]? = some (.cells #[.int .u64 (cf'.toNat : Int), .int .u64 (vr'.toNat : Int)] 31 (0, 0)) := by
    have := heap_alloc_new (w.alloc (.cells #[.int .u64 (cf.toNat : Int), .int .u64 (vr.toNat : Int)] 31)) (.cells #[.int .u64 (cf'.toNat : Int), .int .u64 (vr'.toNat : Int)] 31)
    rw [World.size_alloc] at this
    exact this
  go_enter Try.func8, Try.ntmps8
  go_upto_region 1 with fail
  generalize ((w.alloc (.cells #[.int .u64 (cf.toNat : Int), .int .u64 (vr.toNat : Int)] 31)).alloc (.cells #[.int .u64 (cf'.toNat : Int), .int .u64 (vr'.toNat : Int)] 31)) = W at *
  obtain ⟨a0, a1, _⟩ := box2 (w := w) hl0
  obtain ⟨b0, b1, _⟩ := box2 (w := w) hh0
  have hlt0 := (Array.getElem?_eq_some_iff.1 hl0).1
  have hlt1 := (Array.getElem?_eq_some_iff.1 hh0).1
  have hor : ∀ W' : World, Calls Try.prog 21 #[.slice (some ⟨W'.heap.size, 0, none⟩) 2 2] (W'.alloc (.cells #[.int .i64 (cmpU vr vr'), .int .i64 (cmpU cf cf')] 3)).drew fun e w' => e = .returned (.int .i64 (orF (cmpU vr vr') (cmpU cf cf'))) ∧ w' = (W'.alloc (.cells #[.int .i64 (cmpU vr vr'), .int .i64 (cmpU cf cf')] 3)).drew := fun W' => or_any (show (W'.alloc (.cells #[.int .i64 (cmpU vr vr'), .int .i64 (cmpU cf cf')] 3)).cell? _ = _ by rw [World.cell?_alloc_at _ _ _ _ rfl]; rfl) (show (W'.alloc (.cells #[.int .i64 (cmpU vr vr'), .int .i64 (cmpU cf cf')] 3)).cell? _ = _ by rw [World.cell?_alloc_at _ _ _ _ rfl]; rfl)
  generalize orF (cmpU vr vr') (cmpU cf cf') = z at *
  have HN : Hid (nwr cf vr cf' vr' = decide (0 < z)) := hn
  clear hn
  clear hl0 hh0
  go_region_held3 (fun w' => w'.cell? ⟨w.heap.size, 0, none⟩ = some (.int .u64 (cf.toNat : Int)) ∧ w'.cell? ⟨w.heap.size, 1, none⟩ = some (.int .u64 (vr.toNat : Int)) ∧ w'.cell? ⟨w.heap.size + 1, 0, none⟩ = some (.int .u64 (cf'.toNat : Int)) ∧ w'.cell? ⟨w.heap.size + 1, 1, none⟩ = some (.int .u64 (vr'.toNat : Int))) (go_keep) (first
    | (go_at_call 21; refine (hor _).mono ?_; rintro e w3 ⟨rfl, rfl⟩)
    | (go_at_call 22; refine (hcm _ _ _).mono ?_; rintro e w1 ⟨rfl, rfl⟩)
    | fail)
  go_wp2_with fail
  go_ret
  refine ⟨?_, ?_⟩
  · rw [HN.out]; rfl
  · exact hb0.trans (((g_al W _).trans ((Below.dN _ 1).mono (g_al W _).size)).mono hb0.size)
end Go.Proofs.Ytnapkomjegbhcaa
