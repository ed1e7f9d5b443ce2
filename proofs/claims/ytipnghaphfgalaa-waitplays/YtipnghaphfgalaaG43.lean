/- The document's less and has. -/
import Derived.Test.YtipnghaphfgalaaG42
import Derived.Laws.StructEq
namespace Go.Proofs.Ytipnghaphfgalaa
open Go.RowKit
set_option linter.unusedVariables false
set_option maxRecDepth 100000

set_option maxHeartbeats 1000000 in
theorem rless_any (a b : Ed) (w : World) : Calls Try.prog 42 #[.agg #[.int .u64 (a.1.toNat : Int), .int .u64 (a.2.toNat : Int)], .agg #[.int .u64 (b.1.toNat : Int), .int .u64 (b.2.toNat : Int)]] w fun r w' => r = .returned (.bool (decide (W.elt a b))) ∧ Below w.heap.size w w' := by
  obtain ⟨a1, a2⟩ := a
  obtain ⟨b1, b2⟩ := b
  have hn : decide (W.elt (a1, a2) (b1, b2)) = decide (a1.toNat < b1.toNat ∨ (a1.toNat = b1.toNat ∧ a2.toNat < b2.toNat)) := decide_eq_decide.2 Iff.rfl
  simp only []
  have hb0 : Below w.heap.size w ((w.alloc (.cells #[.int .u64 (a1.toNat : Int), .int .u64 (a2.toNat : Int)] 31)).alloc (.cells #[.int .u64 (b1.toNat : Int), .int .u64 (b2.toNat : Int)] 31)) := (w_al w _).alloc (by simp) _
  have hl0 : ((w.alloc (.cells #[.int .u64 (a1.toNat : Int), .int .u64 (a2.toNat : Int)] 31)).alloc (.cells #[.int .u64 (b1.toNat : Int), .int .u64 (b2.toNat : Int)] 31)).heap[w.heap.size]? = some (.cells #[.int .u64 (a1.toNat : Int), .int .u64 (a2.toNat : Int)] 31 (0, 0)) := (Below.heap_alloc _ _ _ (by simp)).trans (heap_alloc_new w _)
  have hh0 : ((w.alloc (.cells #[.int .u64 (a1.toNat : Int), .int .u64 (a2.toNat : Int)] 31)).alloc (.cells #[.int .u64 (b1.toNat : Int), .int .u64 (b2.toNat : Int)] 31)).heap[w.heap.size + 1]? = some (.cells #[.int .u64 (b1.toNat : Int), .int .u64 (b2.toNat : Int)] 31 (0, 0)) := by
    have := heap_alloc_new (w.alloc (.cells #[.int .u64 (a1.toNat : Int), .int .u64 (a2.toNat : Int)] 31)) (.cells #[.int .u64 (b1.toNat : Int), .int .u64 (b2.toNat : Int)] 31)
    rw [World.size_alloc] at this
    exact this
  generalize hR : decide (W.elt (a1, a2) (b1, b2)) = R at *
  have HR : Hid (R = decide (a1.toNat < b1.toNat ∨ (a1.toNat = b1.toNat ∧ a2.toNat < b2.toNat))) := hn
  clear hn hR
  go_enter Try.func42, Try.ntmps42
  go_upto_region 1 with fail
  generalize ((w.alloc (.cells #[.int .u64 (a1.toNat : Int), .int .u64 (a2.toNat : Int)] 31)).alloc (.cells #[.int .u64 (b1.toNat : Int), .int .u64 (b2.toNat : Int)] 31)) = W at *
  obtain ⟨x0, x1, -⟩ := box2 hl0
  obtain ⟨y0, y1, -⟩ := box2 hh0
  clear hl0 hh0
  generalize a1.toNat = m1 at *
  generalize b1.toNat = n1 at *
  generalize a2.toNat = m2 at *
  generalize b2.toNat = n2 at *
  by_cases q1 : m1 < n1
  · have HE : Hid (R = true) := by show _ = _; rw [HR.out, decide_eq_true (.inl q1)]
    have g1 : (m1 : Int) < (n1 : Int) := by omega
    go_wp2_with fail
    go_ret
    exact ⟨by rw [HE.out]; rfl, hb0⟩
  · have g1 : ¬ (m1 : Int) < (n1 : Int) := by omega
    by_cases q2 : m1 = n1
    · subst q2
      have HE : Hid (R = decide (m2 < n2)) := by show _ = _; rw [HR.out]; simp
      go_wp2_with fail
      go_ret
      exact ⟨by rw [HE.out]; simp, hb0⟩
    · have HE : Hid (R = false) := by show _ = _; rw [HR.out, decide_eq_false (by omega)]
      have g2 : ((m1 : Int) == (n1 : Int)) = false := by rw [beq_eq_false_iff_ne]; omega
      go_wp2_with fail
      go_ret
      exact ⟨by rw [HE.out]; rfl, hb0⟩
end Go.Proofs.Ytipnghaphfgalaa
