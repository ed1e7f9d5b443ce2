/- What an armed and a dead disk let through. -/
import Derived.Test.YtbolnelbchffhacDkDrop
namespace Go.Proofs.Ytbolnelbchffhac
open Go.RowKit
set_option linter.unusedVariables false
set_option maxRecDepth 100000

/-- The values of the methods 'armed' and 'dead' of the disk in block d. -/
def armed (d : Nat) : Value := .func (.func 44) #[.pointer (some ⟨d, 0, none⟩)] #[]
def dead (d : Nat) : Value := .func (.func 54) #[.pointer (some ⟨d, 0, none⟩)] #[]

section
variable {B d n : Nat} {own : Nat → Option Role} {st : Nm → Option (List UInt8 × Nat)} {sz : Nat} {may : Value} {left : Int} {w : World}

theorem dead_any (d : Nat) (x y : Int) (w : World) : Calls Try.prog 54 #[.pointer (some ⟨d, 0, none⟩), .int .i64 x, .int .i64 y] w fun e w' => e = .returned (.int .i64 21) ∧ w' = w := by
  go_enter Try.func54, Try.ntmps54
  go_wp2
  go_ret
  exact ⟨rfl, rfl⟩

/-- A look, or what is refused anyway. -/
theorem armed_pass (d : Nat) (x y : Int) (w : World) (h : x = 0 ∨ y ≠ 0) : Calls Try.prog 44 #[.pointer (some ⟨d, 0, none⟩), .int .i64 x, .int .i64 y] w fun e w' => e = .returned (.int .i64 y) ∧ w' = w := by
  by_cases hx : x = 0
  · subst hx
    go_enter Try.func44, Try.ntmps44
    go_wp2
    go_ret
    exact ⟨rfl, rfl⟩
  · have hy : y ≠ 0 := by rcases h with q | q; exact absurd q hx; exact q
    have hx' : (x == 0) = false := by simpa using hx
    have hy' : (y != 0) = true := by simpa using hy
    go_enter Try.func44, Try.ntmps44
    go_wp2
    go_ret
    exact ⟨rfl, rfl⟩

theorem Dk.cell3 (h : Dk B d n own st sz may left w) : w.cell? ⟨d, 3, none⟩ = some (.int .i64 left) ∧ w.frozen? ⟨d, 3, none⟩ = false ∧ w.cell? ⟨d, 2, none⟩ = some may ∧ w.frozen? ⟨d, 2, none⟩ = false := by
  obtain ⟨m, D, fb, fv, h⟩ := h
  exact ⟨by rw [cell_of_row _ _ _ _ _ _ h.cell]; rfl, frozen_of_row _ _ _ _ _ h.cell, by rw [cell_of_row _ _ _ _ _ _ h.cell]; rfl, frozen_of_row _ _ _ _ _ h.cell⟩
theorem Dk.setLeft (h : Dk B d n own st sz may left w) (k : Int) : Dk B d n own st sz may k (w.setCell ⟨d, 3, none⟩ (.int .i64 k)) := by
  obtain ⟨m, D, fb, fv, h⟩ := h
  exact ⟨m, D, fb, fv, h.setDisk ((Chg.refl (fun b => b = d) w).put d 3 _ rfl) (by rw [heap_setCell_same _ _ 3 _ _ _ h.cell]; rfl)⟩
theorem Dk.setMay (h : Dk B d n own st sz may left w) (v : Value) : Dk B d n own st sz v left (w.setCell ⟨d, 2, none⟩ v) := by
  obtain ⟨m, D, fb, fv, h⟩ := h
  exact ⟨m, D, fb, fv, h.setDisk ((Chg.refl (fun b => b = d) w).put d 2 _ rfl) (by rw [heap_setCell_same _ _ 2 _ _ _ h.cell]; rfl)⟩
theorem Dk.chgD (h : Dk B d n own st sz may left w) (i : Nat) (v : Value) : Chg (fun b => own b ≠ none) w (w.setCell ⟨d, i, none⟩ v) := by
  obtain ⟨m, D, fb, fv, h⟩ := h
  exact (Chg.refl _ w).put d i v (by rw [h.od]; simp)

/-- One change more. -/
theorem armed_ok {L : Nat} (h : Dk B d n own st sz may ((L + 1 : Nat) : Int) w) (hL : L ≤ 9223372036854775806) : Calls Try.prog 44 #[.pointer (some ⟨d, 0, none⟩), .int .i64 1, .int .i64 0] w fun e w' => e = .returned (.int .i64 0) ∧ w' = w.setCell ⟨d, 3, none⟩ (.int .i64 (L : Int)) := by
  obtain ⟨c3, z3, _, _⟩ := h.cell3
  have hne : (((L + 1 : Nat) : Int) == 0) = false := by simp; omega
  have he : ((L + 1 : Nat) : Int) - 1 = (L : Int) := by omega
  generalize ((L + 1 : Nat) : Int) = K at *
  go_enter Try.func44, Try.ntmps44
  go_wp2
  go_ret
  exact ⟨rfl, rfl⟩

/-- The change at which it dies. -/
theorem armed_dies (h : Dk B d n own st sz may 0 w) : Calls Try.prog 44 #[.pointer (some ⟨d, 0, none⟩), .int .i64 1, .int .i64 0] w fun e w' => e = .returned (.int .i64 21) ∧ w' = w.setCell ⟨d, 2, none⟩ (dead d) := by
  obtain ⟨c3, z3, c2, z2⟩ := h.cell3
  go_enter Try.func44, Try.ntmps44
  go_wp2
  go_ret
  exact ⟨rfl, rfl⟩

/-- Dead. -/
theorem deadQ_armed (h : Dk B d n own st sz (armed d) left w) :
    Calls Try.prog 18 #[.pointer (some ⟨d, 0, none⟩)] w fun e w' => e = .returned (.bool false) ∧ ∃ q, w' = w.drewN q := by
  obtain ⟨_, _, c2, _⟩ := h.cell3
  unfold armed at c2
  go_enter Try.func18, Try.ntmps18
  go_wp2_with fail
  refine (armed_pass _ _ _ _ (Or.inl rfl)).mono ?_
  rintro e w1 ⟨rfl, rfl⟩
  go_wp2_with fail
  go_ret
  exact ⟨rfl, 0, rfl⟩
theorem deadQ_dead (h : Dk B d n own st sz (dead d) left w) :
    Calls Try.prog 18 #[.pointer (some ⟨d, 0, none⟩)] w fun e w' => e = .returned (.bool true) ∧ ∃ q, w' = w.drewN q := by
  obtain ⟨_, _, c2, _⟩ := h.cell3
  unfold dead at c2
  go_enter Try.func18, Try.ntmps18
  go_wp2_with fail
  refine (dead_any _ _ _ _).mono ?_
  rintro e w1 ⟨rfl, rfl⟩
  go_wp2_with fail
  go_ret
  exact ⟨rfl, 0, rfl⟩
/-- Names of a dead disk. -/
theorem namesQ_dead (h : Dk B d n own st sz (dead d) left w) :
    Calls Try.prog 22 #[.pointer (some ⟨d, 0, none⟩)] w fun e w' => e = .returned (.slice none 0 0) ∧ ∃ q, w' = w.drewN q := by
  go_enter Try.func22, Try.ntmps22
  go_wp2_with fail
  refine (deadQ_dead h).mono ?_
  rintro e w1 ⟨rfl, q1, rfl⟩
  go_wp2_with fail
  go_ret
  exact ⟨rfl, _, rfl⟩
/-- Read and Sync of a dead disk. -/
theorem read_dead (h : Dk B d n own st sz (dead d) left w) (s : ByteArray) (hs : s.size ≤ maxLen) :
    Calls Try.prog 16 #[.pointer (some ⟨d, 0, none⟩), .string s] w fun e w' => e = .returned (.tuple #[.slice none 0 0, .int .i64 21]) ∧ ∃ q, w' = w.drewN q := by
  have hrf := fun q => refuseFile_any (h.drN q) s hs
  obtain ⟨_, _, c2, _⟩ := h.cell3
  unfold dead at c2
  generalize hv : (if st s.data.toList = none then (20 : Int) else 0) = v at hrf
  go_enter Try.func16, Try.ntmps16
  go_wp2_with fail
  go_quiet (first | (go_at_call 40; refine Calls.quiet_of (v := .int .i64 v) (hrf _)) | (go_at_call 54; refine Calls.quiet_of_same (v := .int .i64 21) (dead_any _ _ _ _)) | fail)
  go_wp2_with fail
  go_ret2
  exact ⟨rfl, _, rfl⟩
theorem sync_dead (h : Dk B d n own st sz (dead d) left w) (s : ByteArray) (hs : s.size ≤ maxLen) :
    Calls Try.prog 13 #[.pointer (some ⟨d, 0, none⟩), .string s] w fun e w' => e = .returned (.int .i64 21) ∧ ∃ q, w' = w.drewN q := by
  have hrf := fun q => refuseFile_any (h.drN q) s hs
  obtain ⟨_, _, c2, _⟩ := h.cell3
  unfold dead at c2
  generalize hv : (if st s.data.toList = none then (20 : Int) else 0) = v at hrf
  go_enter Try.func13, Try.ntmps13
  go_wp2_with fail
  go_quiet (first | (go_at_call 40; refine Calls.quiet_of (v := .int .i64 v) (hrf _)) | (go_at_call 54; refine Calls.quiet_of_same (v := .int .i64 21) (dead_any _ _ _ _)) | fail)
  go_wp2_with fail
  go_ret
  exact ⟨rfl, _, rfl⟩

/-- Arm of a living disk. -/
theorem arm_alive (h : Dk B d n own st sz (alive d) left w) (k : Int) (hk : -9223372036854775808 ≤ k ∧ k ≤ 9223372036854775807) :
    Calls Try.prog 19 #[.pointer (some ⟨d, 0, none⟩), .int .i64 k] w fun e w' => (∃ v, e = .returned v) ∧ Dk B d n own st sz (armed d) (max k 0) w' ∧ Chg (fun b => own b ≠ none) w w' := by
  obtain ⟨c3, z3, c2, z2⟩ := h.cell3
  have c2' : ∀ v, (w.setCell ⟨d, 3, none⟩ v).cell? ⟨d, 2, none⟩ = some (alive d) := fun v => by
    rw [show (w.setCell ⟨d, 3, none⟩ v).cell? ⟨d, 2, none⟩ = w.cell? ⟨d, 2, none⟩ from World.cell?_setCell_other _ _ _ _ (by simp)]; exact c2
  have hfin := ((h.setLeft (max k 0)).setMay (armed d))
  have hchg : Chg (fun b => own b ≠ none) w ((w.setCell ⟨d, 3, none⟩ (.int .i64 (max k 0))).setCell ⟨d, 2, none⟩ (armed d)) := (h.chgD 3 _).trans (((h.setLeft (max k 0)).chgD 2 _).mono (fun b _ q => Or.inl q))
  have H : Hid _ := And.intro hfin hchg
  clear hfin hchg
  go_enter Try.func19, Try.ntmps19
  go_wp2_with fail
  refine (dead_alive h).mono ?_
  rintro e w1 ⟨rfl, q1, rfl⟩
  go_wp2_with fail
  go_end0
  exact ⟨⟨_, rfl⟩, H.out.1.drN q1, H.out.2.dN q1⟩
end
end Go.Proofs.Ytbolnelbchffhac
