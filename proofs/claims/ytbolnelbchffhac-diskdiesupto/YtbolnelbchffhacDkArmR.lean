/- Remove of an armed disk. -/
import Derived.Test.YtbolnelbchffhacDkArm0
import Derived.Test.YtbolnelbchffhacDkAwake
namespace Go.Proofs.Ytbolnelbchffhac
open Go.RowKit
set_option linter.unusedVariables false
set_option maxRecDepth 100000

section
variable {B d n : Nat} {own : Nat → Option Role} {st : Nm → Option (List UInt8 × Nat)} {sz : Nat} {left : Int} {w : World}

theorem remove_err (h : Dk B d n own st sz (armed d) left w) (s : ByteArray) (hs : s.size ≤ maxLen) (e : st s.data.toList = none) :
    Calls Try.prog 20 #[.pointer (some ⟨d, 0, none⟩), .string s] w fun e w' => e = .returned (.int .i64 20) ∧ ∃ q, w' = w.drewN q := by
  have hrf := fun q => refuseFile_any (h.drN q) s hs
  simp only [e, if_true] at hrf
  obtain ⟨_, _, c2, _⟩ := h.cell3
  unfold armed at c2
  go_enter Try.func20, Try.ntmps20
  go_wp2_with fail
  go_quiet (first | (go_at_call 40; refine Calls.quiet_of (v := .int .i64 20) (hrf _)) | (go_at_call 44; refine Calls.quiet_of_same (v := .int .i64 20) (armed_pass _ _ _ _ (Or.inr (by decide)))) | fail)
  go_wp2_with fail
  go_ret
  exact ⟨rfl, _, rfl⟩

theorem remove_dies (h : Dk B d n own st sz (armed d) 0 w) (s : ByteArray) (hs : s.size ≤ maxLen) (f : List UInt8 × Nat) (e : st s.data.toList = some f) :
    Calls Try.prog 20 #[.pointer (some ⟨d, 0, none⟩), .string s] w fun e w' => e = .returned (.int .i64 21) ∧ Dk B d n own st sz (dead d) 0 w' ∧ Chg (fun b => own b ≠ none) w w' := by
  have hrf := fun q => refuseFile_any (h.drN q) s hs
  simp only [e, if_neg (show ¬ (some f = none) by simp)] at hrf
  obtain ⟨_, _, c2, _⟩ := h.cell3
  unfold armed at c2
  have hds := fun q => gate_dies h q
  go_enter Try.func20, Try.ntmps20
  go_wp2_with fail
  go_region_with (first | (go_at_call 40; refine (hrf _).mono ?_; rintro e w1 ⟨rfl, k1, rfl⟩) | (go_at_call 44; refine (hds _).mono ?_; rintro e w2 ⟨rfl, hd2, hc2⟩) | fail)
  all_goals go_wp2_with fail
  all_goals go_ret
  all_goals exact ⟨rfl, hd2, hc2⟩

theorem remove_ok {L : Nat} (h : Dk B d n own st sz (armed d) ((L + 1 : Nat) : Int) w) (hL : L ≤ 9223372036854775806) (s : ByteArray) (hs : s.size ≤ maxLen) (f : List UInt8 × Nat) (e : st s.data.toList = some f) (hf : f.1.length ≤ sz) (hz : sz ≤ 1099511627776) :
    Calls Try.prog 20 #[.pointer (some ⟨d, 0, none⟩), .string s] w fun e w' => e = .returned (.int .i64 0) ∧ (∃ own', Dk B d n own' (setF st s.data.toList none) (sz - f.1.length) (armed d) (L : Int) w' ∧ ∀ b, own' b ≠ none → own b ≠ none ∨ w.heap.size ≤ b) ∧ Chg (fun b => own b ≠ none) w w' := by
  have hrf := fun q => refuseFile_any (h.drN q) s hs
  simp only [e, if_neg (show ¬ (some f = none) by simp)] at hrf
  obtain ⟨_, _, c2, _⟩ := h.cell3
  unfold armed at c2
  obtain ⟨W, hD, hcW, hsW, hgt⟩ := gate_ok h hL
  clear h
  go_enter Try.func20, Try.ntmps20
  go_wp2_with fail
  go_region_with (first | (go_at_call 40; refine (hrf _).mono ?_; rintro e w1 ⟨rfl, k1, rfl⟩) | (go_at_call 44; refine (hgt _).mono ?_; rintro e w2 ⟨rfl, nq, rfl⟩) | fail)
  all_goals go_wp2_with fail
  all_goals refine (drop_there (hD.drN nq) s hs f e hf hz).mono ?_
  all_goals rintro e w3 ⟨⟨v3, rfl⟩, hd3, hc3⟩
  all_goals go_wp2_with fail
  all_goals go_ret
  all_goals exact ⟨rfl, ⟨_, hd3, fun b hb => Or.inl (strike_sub hb)⟩, (hcW.dN nq).trans (hc3.mono (fun b _ q => Or.inl (by rcases q with q | q <;> rw [q] <;> simp)))⟩
end
end Go.Proofs.Ytbolnelbchffhac
