/- The document's number. -/
import Derived.Test.YtlajncjamafomaaG11
import Derived.Test.YtlajncjamafomaaG14
namespace Go.Proofs.Ytlajncjamafomaa
open Go.RowKit
set_option linter.unusedVariables false
set_option maxRecDepth 100000

set_option maxHeartbeats 1000000 in
theorem rnum14_any {v : Value} {l : List UInt8} {w : World} (hr : Rd w v l) (hl : l.length ≤ 1099511627776) :
    Calls Try.prog 41 #[v] w fun e w' => e = .returned (.tuple #[.int .u64 ((M.tv l).1 : Int), .bool (pkN l)]) ∧ Below w.heap.size w w' := by
  have htv := rtakeV_any hr (by omega)
  unfold pkN
  generalize M.tv l = F at *
  obtain ⟨n, rest, fe⟩ := F
  simp only [] at *
  by_cases hfe : fe = 0
  · subst hfe
    by_cases hre : rest.length < 1
    · have h0 : rest.length = 0 := by omega
      have hres : (decide (0 = 0) && decide (rest.length = 0)) = true := by rw [h0]; rfl
      have g1 : (((rest.length : Nat) : Int) == 0) = true := by rw [show ((rest.length : Nat) : Int) = 0 by omega]; rfl
      rw [hres]
      have H0 : Hid _ := h0
      clear h0 hres
      go_enter Try.func41, Try.ntmps41
      go_wp2_with fail
      refine htv.mono ?_
      rintro e w1 ⟨v2, rfl, ho, hb⟩
      obtain ⟨a2, c2, rfl⟩ := ho.shape
      go_wp2_with fail
      go_ret2
      exact ⟨rfl, hb⟩
    · have hres : (decide (0 = 0) && decide (rest.length = 0)) = false := by rw [decide_eq_false (show ¬ rest.length = 0 by omega)]; rfl
      have g1 : (((rest.length : Nat) : Int) == 0) = false := beq_eq_false_iff_ne.2 (by omega)
      rw [hres]
      clear hres
      go_enter Try.func41, Try.ntmps41
      go_wp2_with fail
      refine htv.mono ?_
      rintro e w1 ⟨v2, rfl, ho, hb⟩
      obtain ⟨a2, c2, rfl⟩ := ho.shape
      go_wp2_with fail
      go_ret2
      exact ⟨rfl, hb⟩
  · have hres : (decide (fe = 0) && decide (rest.length = 0)) = false := by rw [decide_eq_false hfe]; rfl
    have g1 : (((fe : Nat) : Int) == 0) = false := beq_eq_false_iff_ne.2 (by omega)
    rw [hres]
    clear hres
    go_enter Try.func41, Try.ntmps41
    go_wp2_with fail
    refine htv.mono ?_
    rintro e w1 ⟨v2, rfl, ho, hb⟩
    go_wp2_with fail
    go_ret2
    exact ⟨rfl, hb⟩
end Go.Proofs.Ytlajncjamafomaa
