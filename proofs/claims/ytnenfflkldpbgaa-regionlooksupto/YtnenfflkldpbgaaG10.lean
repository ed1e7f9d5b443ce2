/- Stale. -/
import Derived.Test.YtnenfflkldpbgaaG8
import Derived.Test.YtnenfflkldpbgaaG9
import Derived.Laws.StructEq
namespace Go.Proofs.Ytnenfflkldpbgaa
open Go.RowKit
set_option linter.unusedVariables false
set_option maxRecDepth 100000

theorem neq_epoch (W : World) (a b c d : Int) : (binOp .neq 25 (.agg #[.int .u64 a, .int .u64 b]) (.agg #[.int .u64 c, .int .u64 d])).run Try.prog W = .ok (.bool (!(a == c && b == d))) W := by
  rw [run_neq_struct, run_equalIn_agg _ _ _ _ _ (by kernel_rfl) (by kernel_rfl)]
  simp only [Program.fieldsOf, Try.underlying25]
  go_simp
  by_cases h1 : a = c
  · subst h1
    by_cases h2 : b = d
    · subst h2; simp
    · simp [h2]
  · simp [h1]
set_option maxHeartbeats 2000000 in
theorem stale_any {i : Int} {sv ev pv : Value} (cf vr cf' vr' : UInt64) {w : World} (hs : Sl sv) (he : Sl ev) (hp : Sl pv) : Calls Try.prog 27 #[.agg #[.int .u64 i, sv, ev, .int .u64 (cf.toNat : Int), .int .u64 (vr.toNat : Int), pv], .agg #[.int .u64 (cf'.toNat : Int), .int .u64 (vr'.toNat : Int)]] w fun e w' => e = .returned (.bool (stl cf vr cf' vr')) ∧ Below w.heap.size w w' := by
  obtain ⟨sa, sn, sc, rfl⟩ := hs
  obtain ⟨ea, en, ec, rfl⟩ := he
  obtain ⟨pa, pn, pc, rfl⟩ := hp
  have hj := fun W => joined_any cf vr cf' vr' W
  have hne := fun W => neq_epoch W ((mxU cf cf').toNat : Int) ((mxU vr vr').toNat : Int) (cf'.toNat : Int) (vr'.toNat : Int)
  have hres : (!(((mxU cf cf').toNat : Int) == (cf'.toNat : Int) && ((mxU vr vr').toNat : Int) == (vr'.toNat : Int))) = stl cf vr cf' vr' := by
    have key : ∀ x y : UInt64, ((x.toNat : Int) == (y.toNat : Int)) = decide (x = y) := fun x y => by
      by_cases h : x = y
      · subst h; simp
      · rw [decide_eq_false h]
        exact beq_eq_false_iff_ne.2 (fun q => h (UInt64.toNat_inj.1 (by omega)))
    rw [key, key, mx_stl, Bool.not_not]
  rw [hres] at hne
  have HB : Hid _ := hres
  clear hres
  generalize stl cf vr cf' vr' = res at *
  generalize (mxU cf cf') = m1 at *
  generalize (mxU vr vr') = m2 at *
  have hb0 : Below w.heap.size w ((w.alloc (.cells #[.int .u64 i, .slice sa sn sc, .slice ea en ec, .int .u64 (cf.toNat : Int), .int .u64 (vr.toNat : Int), .slice pa pn pc] 28)).alloc (.cells #[.int .u64 (cf'.toNat : Int), .int .u64 (vr'.toNat : Int)] 25)) := (g_al w _).alloc (by simp) _
  have hl0 : ((w.alloc (.cells #[.int .u64 i, .slice sa sn sc, .slice ea en ec, .int .u64 (cf.toNat : Int), .int .u64 (vr.toNat : Int), .slice pa pn pc] 28)).alloc (.cells #[.int .u64 (cf'.toNat : Int), .int .u64 (vr'.toNat : Int)] 25)).heap[w.heap.size]? = some (.cells #[.int .u64 i, .slice sa sn sc, .slice ea en ec, .int .u64 (cf.toNat : Int), .int .u64 (vr.toNat : Int), .slice pa pn pc] 28 (0, 0)) := (Below.heap_alloc _ _ _ (by simp)).trans (heap_alloc_new w _)
  have hh0 : ((w.alloc (.cells #[.int .u64 i, .slice sa sn sc, .slice ea en ec, .int .u64 (cf.toNat : Int), .int .u64 (vr.toNat : Int), .slice pa pn pc] 28)).alloc (.cells #[.int .u64 (cf'.toNat : Int), .int .u64 (vr'.toNat : Int)] 25)).heap[w.heap.size + 1]? = some (.cells #[.int .u64 (cf'.toNat : Int), .int .u64 (vr'.toNat : Int)] 25 (0, 0)) := by
    have := heap_alloc_new (w.alloc (.cells #[.int .u64 i, .slice sa sn sc, .slice ea en ec, .int .u64 (cf.toNat : Int), .int .u64 (vr.toNat : Int), .slice pa pn pc] 28)) (.cells #[.int .u64 (cf'.toNat : Int), .int .u64 (vr'.toNat : Int)] 25)
    rw [World.size_alloc] at this
    exact this
  go_enter Try.func27, Try.ntmps27
  go_upto_region 1 with fail
  generalize ((w.alloc (.cells #[.int .u64 i, .slice sa sn sc, .slice ea en ec, .int .u64 (cf.toNat : Int), .int .u64 (vr.toNat : Int), .slice pa pn pc] 28)).alloc (.cells #[.int .u64 (cf'.toNat : Int), .int .u64 (vr'.toNat : Int)] 25)) = W at *
  obtain ⟨a0, a1, a2, a3, a4, a5, _⟩ := cells6 hl0
  obtain ⟨b0, b1, _⟩ := box2 (w := w) hh0
  have HK : Hid (∀ W', Below W.heap.size W W' → W'.heap[w.heap.size]? = some (.cells #[.int .u64 i, .slice sa sn sc, .slice ea en ec, .int .u64 (cf.toNat : Int), .int .u64 (vr.toNat : Int), .slice pa pn pc] 28 (0, 0)) ∧ W'.heap[w.heap.size + 1]? = some (.cells #[.int .u64 (cf'.toNat : Int), .int .u64 (vr'.toNat : Int)] 25 (0, 0))) := fun W' hW => ⟨(hW.block _ ((Array.getElem?_eq_some_iff.1 hl0).1)).trans hl0, (hW.block _ ((Array.getElem?_eq_some_iff.1 hh0).1)).trans hh0⟩
  have hD0 : Below W.heap.size W W.drew := Below.dN W 1
  clear hl0 hh0
  go_region_held3 (fun w' => w'.cell? ⟨w.heap.size, 3, none⟩ = some (.int .u64 (cf.toNat : Int)) ∧ w'.cell? ⟨w.heap.size, 4, none⟩ = some (.int .u64 (vr.toNat : Int)) ∧ w'.cell? ⟨w.heap.size + 1, 0, none⟩ = some (.int .u64 (cf'.toNat : Int)) ∧ w'.cell? ⟨w.heap.size + 1, 1, none⟩ = some (.int .u64 (vr'.toNat : Int))) (go_keep) (first
    | (go_at_call 53; refine (hj _).mono ?_; rintro e w1 ⟨rfl, hb1⟩; have hb1w : Below W.heap.size W w1 := hD0.trans hb1; obtain ⟨hx, hy⟩ := HK.out w1 hb1w; obtain ⟨_, _, _, s3, s4, _, _⟩ := cells6 hx; obtain ⟨t0, t1, _⟩ := box2 (w := w) hy)
    | fail)
  go_wp2_with fail
  go_ret
  refine ⟨?_, hb0.trans (hb1w.mono hb0.size)⟩
  rfl
end Go.Proofs.Ytnenfflkldpbgaa
