/- Sync and Remove of an armed disk. -/
import Derived.Test.YtbolnelbchffhacDkArm0
namespace Go.Proofs.Ytbolnelbchffhac
open Go.RowKit
set_option linter.unusedVariables false
set_option maxRecDepth 100000

section
variable {B d n : Nat} {own : Nat → Option Role} {st : Nm → Option (List UInt8 × Nat)} {sz : Nat} {left : Int} {w : World}

theorem sync_err (h : Dk B d n own st sz (armed d) left w) (s : ByteArray) (hs : s.size ≤ maxLen) (e : st s.data.toList = none) :
    Calls Try.prog 13 #[.pointer (some ⟨d, 0, none⟩), .string s] w fun e w' => e = .returned (.int .i64 20) ∧ ∃ q, w' = w.drewN q := by
  have hrf := fun q => refuseFile_any (h.drN q) s hs
  simp only [e, if_true] at hrf
  obtain ⟨_, _, c2, _⟩ := h.cell3
  unfold armed at c2
  go_enter Try.func13, Try.ntmps13
  go_wp2_with fail
  go_quiet (first | (go_at_call 40; refine Calls.quiet_of (v := .int .i64 20) (hrf _)) | (go_at_call 44; refine Calls.quiet_of_same (v := .int .i64 20) (armed_pass _ _ _ _ (Or.inr (by decide)))) | fail)
  go_wp2_with fail
  go_ret
  exact ⟨rfl, _, rfl⟩

theorem sync_dies (h : Dk B d n own st sz (armed d) 0 w) (s : ByteArray) (hs : s.size ≤ maxLen) (f : List UInt8 × Nat) (e : st s.data.toList = some f) :
    Calls Try.prog 13 #[.pointer (some ⟨d, 0, none⟩), .string s] w fun e w' => e = .returned (.int .i64 21) ∧ Dk B d n own st sz (dead d) 0 w' ∧ Chg (fun b => own b ≠ none) w w' := by
  have hrf := fun q => refuseFile_any (h.drN q) s hs
  simp only [e, if_neg (show ¬ (some f = none) by simp)] at hrf
  obtain ⟨_, _, c2, _⟩ := h.cell3
  unfold armed at c2
  have hds := fun q => gate_dies h q
  go_enter Try.func13, Try.ntmps13
  go_wp2_with fail
  go_region_with (first | (go_at_call 40; refine (hrf _).mono ?_; rintro e w1 ⟨rfl, k1, rfl⟩) | (go_at_call 44; refine (hds _).mono ?_; rintro e w2 ⟨rfl, hd2, hc2⟩) | fail)
  all_goals go_wp2_with fail
  all_goals go_ret
  all_goals exact ⟨rfl, hd2, hc2⟩

theorem sync_ok {L : Nat} (h : Dk B d n own st sz (armed d) ((L + 1 : Nat) : Int) w) (hL : L ≤ 9223372036854775806) (s : ByteArray) (hs : s.size ≤ maxLen) (f : List UInt8 × Nat) (e : st s.data.toList = some f) :
    Calls Try.prog 13 #[.pointer (some ⟨d, 0, none⟩), .string s] w fun e w' => e = .returned (.int .i64 0) ∧ (∃ own', Dk B d n own' (setF st s.data.toList (some (f.1, f.1.length))) sz (armed d) (L : Int) w' ∧ ∀ b, own' b ≠ none → own b ≠ none ∨ w.heap.size ≤ b) ∧ Chg (fun b => own b ≠ none) w w' := by
  have hrf := fun q => refuseFile_any (h.drN q) s hs
  simp only [e, if_neg (show ¬ (some f = none) by simp)] at hrf
  obtain ⟨_, _, c2, _⟩ := h.cell3
  unfold armed at c2
  obtain ⟨W, hD, hcW, hsW, hgt⟩ := gate_ok h hL
  clear h
  obtain ⟨m, D, fb, fv, h⟩ := hD
  have c0 : W.cell? ⟨d, 0, none⟩ = some (.map (some m)) := by rw [cell_of_row _ _ _ _ _ _ h.cell]; rfl
  have hrun := fun q => (h.drN q).look s hs f e
  obtain ⟨fa, fc, efv, hln, f0, f1, hfz, hrd⟩ := h.fcell e
  have hfz1 := hfz 1
  have H : Hid _ := And.intro h (And.intro efv hrd)
  clear h hfz efv hrd
  generalize hnm : s.data.toList = nm at *
  generalize hg : fb nm = g at *
  have HG : Hid _ := hg
  clear hg
  go_enter Try.func13, Try.ntmps13
  go_wp2_with fail
  go_region_with (first | (go_at_call 40; refine (hrf _).mono ?_; rintro e w1 ⟨rfl, k1, rfl⟩) | (go_at_call 44; refine (hgt _).mono ?_; rintro e w2 ⟨rfl, nq, rfl⟩) | fail)
  all_goals go_wp2_with fail
  all_goals go_ret
  all_goals
    subst hnm
    have h0 := H.out.1.setSync e f.1.length (Nat.le_refl _)
    rw [HG.out] at h0
    obtain ⟨⟨own', q1, q2⟩, q3⟩ := h0
    exact ⟨rfl, ⟨own', q1.drN nq, fun b hb => by rcases q2 b hb with q | q; exact Or.inl q; exact Or.inr (by omega)⟩, (hcW.trans (q3.mono (fun b _ q => Or.inl q))).dN nq⟩
end
end Go.Proofs.Ytbolnelbchffhac
