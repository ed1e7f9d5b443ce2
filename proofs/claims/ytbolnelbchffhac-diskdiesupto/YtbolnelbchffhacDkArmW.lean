/- Write of an armed disk. -/
import Derived.Test.YtbolnelbchffhacDkArm0
import Derived.Test.YtbolnelbchffhacDkAwake
namespace Go.Proofs.Ytbolnelbchffhac
open Go.RowKit
set_option linter.unusedVariables false
set_option maxRecDepth 100000

section
variable {B d n : Nat} {own : Nat → Option Role} {st : Nm → Option (List UInt8 × Nat)} {sz : Nat} {left : Int} {w : World}

theorem write_err (h : Dk B d n own st sz (armed d) left w) (s : ByteArray) {vb : Value} {l : List UInt8} (hr : Rd w vb l) (hl : l.length ≤ 1099511627776) (hz : sz ≤ 16777216) (e : wErr s l.length sz ≠ 0) :
    Calls Try.prog 12 #[.pointer (some ⟨d, 0, none⟩), .string s, vb] w fun e w' => e = .returned (.int .i64 (wErr s l.length sz : Int)) ∧ ∃ q, w' = w.drewN q := by
  have hrf := fun q => refuseWrite_any (h.drN q) s l.length hl hz
  obtain ⟨_, _, c2, _⟩ := h.cell3
  unfold armed at c2
  obtain ⟨av, cv, rfl, _, hcv, _, _⟩ := hr
  unfold maxLen at hcv
  have hne : ((wErr s l.length sz : Nat) : Int) ≠ 0 := by omega
  have hne2 : (((wErr s l.length sz : Nat) : Int) != 0) = true := by simpa using hne
  generalize ((wErr s l.length sz : Nat) : Int) = v at *
  go_enter Try.func12, Try.ntmps12
  go_wp2_with fail
  go_quiet (first | (go_at_call 39; refine Calls.quiet_of (v := .int .i64 v) (hrf _)) | (go_at_call 44; refine Calls.quiet_of_same (v := .int .i64 v) (armed_pass _ _ _ _ (Or.inr hne))) | fail)
  go_wp2_with fail
  go_ret
  exact ⟨rfl, _, rfl⟩

theorem write_dies (h : Dk B d n own st sz (armed d) 0 w) (s : ByteArray) {vb : Value} {l : List UInt8} (hr : Rd w vb l) (hl : l.length ≤ 1099511627776) (hz : sz ≤ 16777216) (e : wErr s l.length sz = 0) :
    Calls Try.prog 12 #[.pointer (some ⟨d, 0, none⟩), .string s, vb] w fun e w' => e = .returned (.int .i64 21) ∧ Dk B d n own st sz (dead d) 0 w' ∧ Chg (fun b => own b ≠ none) w w' := by
  have hrf := fun q => refuseWrite_any (h.drN q) s l.length hl hz
  simp only [e] at hrf
  obtain ⟨_, _, c2, _⟩ := h.cell3
  unfold armed at c2
  obtain ⟨av, cv, rfl, _, hcv, _, _⟩ := hr
  unfold maxLen at hcv
  have hds := fun q => gate_dies h q
  go_enter Try.func12, Try.ntmps12
  go_wp2_with fail
  go_region_with (first | (go_at_call 39; refine (hrf _).mono ?_; rintro e w1 ⟨rfl, k1, rfl⟩) | (go_at_call 44; refine (hds _).mono ?_; rintro e w2 ⟨rfl, hd2, hc2⟩) | fail)
  all_goals go_wp2_with fail
  all_goals go_ret
  all_goals exact ⟨rfl, hd2, hc2⟩
end
end Go.Proofs.Ytbolnelbchffhac
