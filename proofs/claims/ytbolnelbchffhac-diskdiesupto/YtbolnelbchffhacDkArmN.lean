/- Rename of an armed disk. -/
import Derived.Test.YtbolnelbchffhacDkArm0
import Derived.Test.YtbolnelbchffhacDkAwake
import Derived.Test.YtbolnelbchffhacDkRename
namespace Go.Proofs.Ytbolnelbchffhac
open Go.RowKit
set_option linter.unusedVariables false
set_option maxRecDepth 100000

section
variable {B d n : Nat} {own : Nat → Option Role} {st : Nm → Option (List UInt8 × Nat)} {sz : Nat} {left : Int} {w : World}

theorem rename_err (h : Dk B d n own st sz (armed d) left w) (s t : ByteArray) (hs : s.size ≤ maxLen) (e : rErr st s t ≠ 0) :
    Calls Try.prog 21 #[.pointer (some ⟨d, 0, none⟩), .string s, .string t] w fun e w' => e = .returned (.int .i64 (rErr st s t : Int)) ∧ ∃ q, w' = w.drewN q := by
  have hrf := fun q => refuseRename_any (h.drN q) s t hs
  obtain ⟨_, _, c2, _⟩ := h.cell3
  unfold armed at c2
  have hne : ((rErr st s t : Nat) : Int) ≠ 0 := by omega
  have hne2 : (((rErr st s t : Nat) : Int) != 0) = true := by simpa using hne
  generalize ((rErr st s t : Nat) : Int) = v at *
  go_enter Try.func21, Try.ntmps21
  go_wp2_with fail
  go_quiet (first | (go_at_call 46; refine Calls.quiet_of (v := .int .i64 v) (hrf _)) | (go_at_call 44; refine Calls.quiet_of_same (v := .int .i64 v) (armed_pass _ _ _ _ (Or.inr hne))) | fail)
  go_wp2_with fail
  go_ret
  exact ⟨rfl, _, rfl⟩

theorem rename_dies (h : Dk B d n own st sz (armed d) 0 w) (s t : ByteArray) (hs : s.size ≤ maxLen) (e : rErr st s t = 0) :
    Calls Try.prog 21 #[.pointer (some ⟨d, 0, none⟩), .string s, .string t] w fun e w' => e = .returned (.int .i64 21) ∧ Dk B d n own st sz (dead d) 0 w' ∧ Chg (fun b => own b ≠ none) w w' := by
  have hrf := fun q => refuseRename_any (h.drN q) s t hs
  simp only [e] at hrf
  obtain ⟨_, _, c2, _⟩ := h.cell3
  unfold armed at c2
  have hds := fun q => gate_dies h q
  go_enter Try.func21, Try.ntmps21
  go_wp2_with fail
  go_region_with (first | (go_at_call 46; refine (hrf _).mono ?_; rintro e w1 ⟨rfl, k1, rfl⟩) | (go_at_call 44; refine (hds _).mono ?_; rintro e w2 ⟨rfl, hd2, hc2⟩) | fail)
  all_goals go_wp2_with fail
  all_goals go_ret
  all_goals exact ⟨rfl, hd2, hc2⟩
end
end Go.Proofs.Ytbolnelbchffhac
