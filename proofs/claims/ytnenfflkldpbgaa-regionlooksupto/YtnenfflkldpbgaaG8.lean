/- Newer, joined, Stale. -/
import Derived.Test.YtnenfflkldpbgaaG6
import Derived.Deep.CutRange
namespace Go.Proofs.Ytnenfflkldpbgaa
open Go.RowKit
set_option linter.unusedVariables false
set_option maxRecDepth 100000

theorem box2 {w W : World} {u0 u1 : Value} {t : TypeId} {g : Nat} (h : W.heap[g]? = some (.cells #[u0, u1] t (0, 0))) : W.cell? ⟨g, 0, none⟩ = some u0 ∧ W.cell? ⟨g, 1, none⟩ = some u1 ∧ ∀ i, W.frozen? ⟨g, i, none⟩ = false :=
  ⟨by rw [cell_of_row _ _ _ _ _ _ h]; rfl, by rw [cell_of_row _ _ _ _ _ _ h]; rfl, fun i => frozen_of_row _ _ _ _ _ h⟩
set_option maxHeartbeats 2000000 in
theorem newer_any (cf vr cf' vr' : UInt64) (w : World) : Calls Try.prog 25 #[.agg #[.int .u64 (cf.toNat : Int), .int .u64 (vr.toNat : Int)], .agg #[.int .u64 (cf'.toNat : Int), .int .u64 (vr'.toNat : Int)]] w fun e w' => e = .returned (.bool (nwr cf vr cf' vr')) ∧ Below w.heap.size w w' := by
  have hn : nwr cf vr cf' vr' = decide (0 < orF (cmpU vr vr') (cmpU cf cf')) := rfl
  have hcm := fun x y W => compareU_any x y W
  have hb0 : Below w.heap.size w ((w.alloc (.cells #[.int .u64 (cf.toNat : Int), .int .u64 (vr.toNat : Int)] 25)).alloc (.cells #[.int .u64 (cf'.toNat : Int), .int .u64 (vr'.toNat : Int)] 25)) := (g_al w _).alloc (by simp) _
  have hl0 : ((w.alloc (.cells #[.int .u64 (cf.toNat : Int), .int .u64 (vr.toNat : Int)] 25)).alloc (.cells #[.int .u64 (cf'.toNat : Int), .int .u64 (vr'.toNat : Int)] 25)).heap[w.heap.size]? = some (.cells #[.int .u64 (cf.toNat : Int), .int .u64 (vr.toNat : Int)] 25 (0, 0)) := (Below.heap_alloc _ _ _ (by simp)).trans (heap_alloc_new w _)
  have hh0 : ((w.alloc (.cells #[.int .u64 (cf.toNat : Int), .int .u64 (vr.toNat : Int)] 25)).alloc (.cells #[.int .u64 (cf'.toNat : Int), .int .u64 (vr'.toNat : Int)] 25)).heap[w.heap.size + 1]? = some (.cells #[.int .u64 (cf'.toNat : Int), .int .u64 (vr'.toNat : Int)] 25 (0, 0)) := by
    have := heap_alloc_new (w.alloc (.cells #[.int .u64 (cf.toNat : Int), .int .u64 (vr.toNat : Int)] 25)) (.cells #[.int .u64 (cf'.toNat : Int), .int .u64 (vr'.toNat : Int)] 25)
    rw [World.size_alloc] at this
    exact this
  go_enter Try.func25, Try.ntmps25
  go_upto_region 1 with fail
  generalize ((w.alloc (.cells #[.int .u64 (cf.toNat : Int), .int .u64 (vr.toNat : Int)] 25)).alloc (.cells #[.int .u64 (cf'.toNat : Int), .int .u64 (vr'.toNat : Int)] 25)) = W at *
  obtain ⟨a0, a1, _⟩ := box2 (w := w) hl0
  obtain ⟨b0, b1, _⟩ := box2 (w := w) hh0
  have hlt0 := (Array.getElem?_eq_some_iff.1 hl0).1
  have hlt1 := (Array.getElem?_eq_some_iff.1 hh0).1
  have hor : ∀ W' : World, Calls Try.prog 51 #[.slice (some ⟨W'.heap.size, 0, none⟩) 2 2] (W'.alloc (.cells #[.int .i64 (cmpU vr vr'), .int .i64 (cmpU cf cf')] 3)).drew fun e w' => e = .returned (.int .i64 (orF (cmpU vr vr') (cmpU cf cf'))) ∧ w' = (W'.alloc (.cells #[.int .i64 (cmpU vr vr'), .int .i64 (cmpU cf cf')] 3)).drew := fun W' => or_any (show (W'.alloc (.cells #[.int .i64 (cmpU vr vr'), .int .i64 (cmpU cf cf')] 3)).cell? _ = _ by rw [World.cell?_alloc_at _ _ _ _ rfl]; rfl) (show (W'.alloc (.cells #[.int .i64 (cmpU vr vr'), .int .i64 (cmpU cf cf')] 3)).cell? _ = _ by rw [World.cell?_alloc_at _ _ _ _ rfl]; rfl)
  generalize orF (cmpU vr vr') (cmpU cf cf') = z at *
  have HN : Hid (nwr cf vr cf' vr' = decide (0 < z)) := hn
  clear hn
  clear hl0 hh0
  go_region_held3 (fun w' => w'.cell? ⟨w.heap.size, 0, none⟩ = some (.int .u64 (cf.toNat : Int)) ∧ w'.cell? ⟨w.heap.size, 1, none⟩ = some (.int .u64 (vr.toNat : Int)) ∧ w'.cell? ⟨w.heap.size + 1, 0, none⟩ = some (.int .u64 (cf'.toNat : Int)) ∧ w'.cell? ⟨w.heap.size + 1, 1, none⟩ = some (.int .u64 (vr'.toNat : Int))) (go_keep) (first
    | (go_at_call 51; refine (hor _).mono ?_; rintro e w3 ⟨rfl, rfl⟩)
    | (go_at_call 52; refine (hcm _ _ _).mono ?_; rintro e w1 ⟨rfl, rfl⟩)
    | fail)
  go_wp2_with fail
  go_ret
  refine ⟨?_, ?_⟩
  · rw [HN.out]; rfl
  · exact hb0.trans (((g_al W _).trans ((Below.dN _ 1).mono (g_al W _).size)).mono hb0.size)
/-- The greater number. -/
def mxU (a b : UInt64) : UInt64 := if a.toNat < b.toNat then b else a
set_option maxHeartbeats 2000000 in
theorem joined_any (cf vr cf' vr' : UInt64) (w : World) : Calls Try.prog 53 #[.agg #[.int .u64 (cf.toNat : Int), .int .u64 (vr.toNat : Int)], .agg #[.int .u64 (cf'.toNat : Int), .int .u64 (vr'.toNat : Int)]] w fun e w' => e = .returned (.agg #[.int .u64 ((mxU cf cf').toNat : Int), .int .u64 ((mxU vr vr').toNat : Int)]) ∧ Below w.heap.size w w' := by
  by_cases h1 : cf.toNat < cf'.toNat
  · by_cases h2 : vr.toNat < vr'.toNat
    · have q1 : mxU cf cf' = cf' := if_pos h1
      have q2 : mxU vr vr' = vr' := if_pos h2
      have hx1 : max (cf.toNat : Int) (cf'.toNat : Int) = (cf'.toNat : Int) := by omega
      have hx2 : max (vr.toNat : Int) (vr'.toNat : Int) = (vr'.toNat : Int) := by omega
      rw [q1, q2]
      go_enter Try.func53, Try.ntmps53
      go_wp2_with fail
      have hk := heap_alloc_new ((w.alloc (.cells #[.int .u64 (cf.toNat : Int), .int .u64 (vr.toNat : Int)] 25)).alloc (.cells #[.int .u64 (cf'.toNat : Int), .int .u64 (vr'.toNat : Int)] 25)) (.cells #[.int .u64 (cf'.toNat : Int), .int .u64 (vr'.toNat : Int)] 25)
      rw [World.size_alloc, World.size_alloc] at hk
      have hbe : Below w.heap.size w (((w.alloc (.cells #[.int .u64 (cf.toNat : Int), .int .u64 (vr.toNat : Int)] 25)).alloc (.cells #[.int .u64 (cf'.toNat : Int), .int .u64 (vr'.toNat : Int)] 25)).alloc (.cells #[.int .u64 (cf'.toNat : Int), .int .u64 (vr'.toNat : Int)] 25)) := ((g_al w _).alloc (by simp) _).alloc (by simp; omega) _
      generalize (((w.alloc (.cells #[.int .u64 (cf.toNat : Int), .int .u64 (vr.toNat : Int)] 25)).alloc (.cells #[.int .u64 (cf'.toNat : Int), .int .u64 (vr'.toNat : Int)] 25)).alloc (.cells #[.int .u64 (cf'.toNat : Int), .int .u64 (vr'.toNat : Int)] 25)) = wz at *
      obtain ⟨k0, k1, _⟩ := box2 (w := w) hk
      refine bodyPost_ret (v := .agg #[.int .u64 (cf'.toNat : Int), .int .u64 (vr'.toNat : Int)]) (by simp [results, Try.results53, go_sem, k0, k1]; try rfl) rfl ?_
      exact ⟨rfl, hbe⟩
    · have q1 : mxU cf cf' = cf' := if_pos h1
      have q2 : mxU vr vr' = vr := if_neg h2
      have hx1 : max (cf.toNat : Int) (cf'.toNat : Int) = (cf'.toNat : Int) := by omega
      have hx2 : max (vr.toNat : Int) (vr'.toNat : Int) = (vr.toNat : Int) := by omega
      rw [q1, q2]
      go_enter Try.func53, Try.ntmps53
      go_wp2_with fail
      have hk := heap_alloc_new ((w.alloc (.cells #[.int .u64 (cf.toNat : Int), .int .u64 (vr.toNat : Int)] 25)).alloc (.cells #[.int .u64 (cf'.toNat : Int), .int .u64 (vr'.toNat : Int)] 25)) (.cells #[.int .u64 (cf'.toNat : Int), .int .u64 (vr.toNat : Int)] 25)
      rw [World.size_alloc, World.size_alloc] at hk
      have hbe : Below w.heap.size w (((w.alloc (.cells #[.int .u64 (cf.toNat : Int), .int .u64 (vr.toNat : Int)] 25)).alloc (.cells #[.int .u64 (cf'.toNat : Int), .int .u64 (vr'.toNat : Int)] 25)).alloc (.cells #[.int .u64 (cf'.toNat : Int), .int .u64 (vr.toNat : Int)] 25)) := ((g_al w _).alloc (by simp) _).alloc (by simp; omega) _
      generalize (((w.alloc (.cells #[.int .u64 (cf.toNat : Int), .int .u64 (vr.toNat : Int)] 25)).alloc (.cells #[.int .u64 (cf'.toNat : Int), .int .u64 (vr'.toNat : Int)] 25)).alloc (.cells #[.int .u64 (cf'.toNat : Int), .int .u64 (vr.toNat : Int)] 25)) = wz at *
      obtain ⟨k0, k1, _⟩ := box2 (w := w) hk
      refine bodyPost_ret (v := .agg #[.int .u64 (cf'.toNat : Int), .int .u64 (vr.toNat : Int)]) (by simp [results, Try.results53, go_sem, k0, k1]; try rfl) rfl ?_
      exact ⟨rfl, hbe⟩
  · by_cases h2 : vr.toNat < vr'.toNat
    · have q1 : mxU cf cf' = cf := if_neg h1
      have q2 : mxU vr vr' = vr' := if_pos h2
      have hx1 : max (cf.toNat : Int) (cf'.toNat : Int) = (cf.toNat : Int) := by omega
      have hx2 : max (vr.toNat : Int) (vr'.toNat : Int) = (vr'.toNat : Int) := by omega
      rw [q1, q2]
      go_enter Try.func53, Try.ntmps53
      go_wp2_with fail
      have hk := heap_alloc_new ((w.alloc (.cells #[.int .u64 (cf.toNat : Int), .int .u64 (vr.toNat : Int)] 25)).alloc (.cells #[.int .u64 (cf'.toNat : Int), .int .u64 (vr'.toNat : Int)] 25)) (.cells #[.int .u64 (cf.toNat : Int), .int .u64 (vr'.toNat : Int)] 25)
      rw [World.size_alloc, World.size_alloc] at hk
      have hbe : Below w.heap.size w (((w.alloc (.cells #[.int .u64 (cf.toNat : Int), .int .u64 (vr.toNat : Int)] 25)).alloc (.cells #[.int .u64 (cf'.toNat : Int), .int .u64 (vr'.toNat : Int)] 25)).alloc (.cells #[.int .u64 (cf.toNat : Int), .int .u64 (vr'.toNat : Int)] 25)) := ((g_al w _).alloc (by simp) _).alloc (by simp; omega) _
      generalize (((w.alloc (.cells #[.int .u64 (cf.toNat : Int), .int .u64 (vr.toNat : Int)] 25)).alloc (.cells #[.int .u64 (cf'.toNat : Int), .int .u64 (vr'.toNat : Int)] 25)).alloc (.cells #[.int .u64 (cf.toNat : Int), .int .u64 (vr'.toNat : Int)] 25)) = wz at *
      obtain ⟨k0, k1, _⟩ := box2 (w := w) hk
      refine bodyPost_ret (v := .agg #[.int .u64 (cf.toNat : Int), .int .u64 (vr'.toNat : Int)]) (by simp [results, Try.results53, go_sem, k0, k1]; try rfl) rfl ?_
      exact ⟨rfl, hbe⟩
    · have q1 : mxU cf cf' = cf := if_neg h1
      have q2 : mxU vr vr' = vr := if_neg h2
      have hx1 : max (cf.toNat : Int) (cf'.toNat : Int) = (cf.toNat : Int) := by omega
      have hx2 : max (vr.toNat : Int) (vr'.toNat : Int) = (vr.toNat : Int) := by omega
      rw [q1, q2]
      go_enter Try.func53, Try.ntmps53
      go_wp2_with fail
      have hk := heap_alloc_new ((w.alloc (.cells #[.int .u64 (cf.toNat : Int), .int .u64 (vr.toNat : Int)] 25)).alloc (.cells #[.int .u64 (cf'.toNat : Int), .int .u64 (vr'.toNat : Int)] 25)) (.cells #[.int .u64 (cf.toNat : Int), .int .u64 (vr.toNat : Int)] 25)
      rw [World.size_alloc, World.size_alloc] at hk
      have hbe : Below w.heap.size w (((w.alloc (.cells #[.int .u64 (cf.toNat : Int), .int .u64 (vr.toNat : Int)] 25)).alloc (.cells #[.int .u64 (cf'.toNat : Int), .int .u64 (vr'.toNat : Int)] 25)).alloc (.cells #[.int .u64 (cf.toNat : Int), .int .u64 (vr.toNat : Int)] 25)) := ((g_al w _).alloc (by simp) _).alloc (by simp; omega) _
      generalize (((w.alloc (.cells #[.int .u64 (cf.toNat : Int), .int .u64 (vr.toNat : Int)] 25)).alloc (.cells #[.int .u64 (cf'.toNat : Int), .int .u64 (vr'.toNat : Int)] 25)).alloc (.cells #[.int .u64 (cf.toNat : Int), .int .u64 (vr.toNat : Int)] 25)) = wz at *
      obtain ⟨k0, k1, _⟩ := box2 (w := w) hk
      refine bodyPost_ret (v := .agg #[.int .u64 (cf.toNat : Int), .int .u64 (vr.toNat : Int)]) (by simp [results, Try.results53, go_sem, k0, k1]; try rfl) rfl ?_
      exact ⟨rfl, hbe⟩
/-- Is the epoch behind in one of its numbers? -/
def stl (cf vr cf' vr' : UInt64) : Bool := decide (cf'.toNat < cf.toNat) || decide (vr'.toNat < vr.toNat)
theorem mx_stl (cf vr cf' vr' : UInt64) : (decide (mxU cf cf' = cf') && decide (mxU vr vr' = vr')) = !stl cf vr cf' vr' := by
  have key : ∀ a b : UInt64, decide (mxU a b = b) = !decide (b.toNat < a.toNat) := fun a b => by
    unfold mxU
    by_cases h : a.toNat < b.toNat
    · rw [if_pos h, decide_eq_true rfl, decide_eq_false (by omega)]; rfl
    · rw [if_neg h]
      by_cases h2 : b.toNat < a.toNat
      · rw [decide_eq_true h2, decide_eq_false (fun q => by rw [q] at h2; omega)]; rfl
      · rw [decide_eq_false h2, decide_eq_true (UInt64.toNat_inj.1 (by omega))]; rfl
  rw [key, key]
  unfold stl
  cases decide (cf'.toNat < cf.toNat) <;> cases decide (vr'.toNat < vr.toNat) <;> rfl
end Go.Proofs.Ytnenfflkldpbgaa
