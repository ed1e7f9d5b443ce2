/- What the document's oracle answers. -/
import Derived.Test.YtiponjphodhdjaaG5
namespace Go.Proofs.Ytiponjphodhdjaa
open Go.RowKit
set_option linter.unusedVariables false
set_option maxRecDepth 100000

theorem rtnew_any (l : Nat) (hl : l ≤ 4611686018427387904) (w : World) : Calls Try.prog 8 #[.int .u64 (l : Int)] w fun e w' => ∃ y, e = .returned (.pointer (some ⟨y, 0, none⟩)) ∧ Ord y l l w' ∧ w.heap.size ≤ y ∧ Below w.heap.size w w' := by
  go_enter Try.func8, Try.ntmps8
  go_wp2_with fail
  go_ret
  exact ⟨w.heap.size, rfl, ⟨ts_new w _, Nat.le_refl _, hl⟩, Nat.le_refl _, ts_al w _⟩

theorem tnum_any (k : Int) (w : World) : Calls Try.prog 11 #[.int .i64 k] w fun e w' => e = .returned (.int .i64 k) ∧ w' = w := by
  go_enter Try.func11, Try.ntmps11
  go_wp2_with fail
  go_ret
  exact ⟨rfl, rfl⟩
theorem most_any (a b : Nat) (w : World) : Calls Try.prog 20 #[.int .u64 (a : Int), .int .u64 (b : Int)] w fun e w' => e = .returned (.int .u64 ((max a b : Nat) : Int)) ∧ w' = w := by
  by_cases h : a > b
  · have em : max a b = a := by omega
    rw [em]
    go_enter Try.func20, Try.ntmps20
    go_wp2_with fail
    go_ret
    exact ⟨rfl, rfl⟩
  · have em : max a b = b := by omega
    rw [em]
    go_enter Try.func20, Try.ntmps20
    go_wp2_with fail
    go_ret
    exact ⟨rfl, rfl⟩
theorem rgrant_any {y l m : Nat} {w : World} (h : Ord y l m w) (z : Nat) (hz : z ≤ 4611686018427387904) : Calls Try.prog 15 #[.pointer (some ⟨y, 0, none⟩), .int .u64 (z : Int)] w fun e w' => e = .returned (.tuple #[]) ∧ Ord y l (max m z) w' ∧ Chg (fun b => b = y) w w' := by
  obtain ⟨c0, c1, fz⟩ := h.cells
  have hle := h.le
  have htop := h.top
  have hm := most_any m z w
  go_enter Try.func15, Try.ntmps15
  go_wp2_with fail
  refine hm.mono ?_
  rintro e w1 ⟨rfl, rfl⟩
  go_wp2_with fail
  go_end0
  exact ⟨rfl, h.setM (by omega) (by omega), chg_put _ _ _ _⟩

set_option maxHeartbeats 1000000 in
theorem rtake_any {y l m : Nat} {w : World} (h : Ord y l m w) (k : Int) : Calls Try.prog 10 #[.pointer (some ⟨y, 0, none⟩), .int .i64 k] w fun e w' => e = .returned (.tuple #[.int .u64 (tkV l m k : Int), .int .i64 (tkN l m k)]) ∧ Ord y (tkL l m k) m w' ∧ Chg (fun b => b = y) w w' := by
  by_cases h1 : 1 ≤ k ∧ k ≤ 1024
  · obtain ⟨n, rfl⟩ := Int.eq_ofNat_of_zero_le (show 0 ≤ k by omega)
    obtain ⟨c0, c1, fz⟩ := h.cells
    have hle := h.le
    have htop := h.top
    by_cases h2 : l + n ≤ m
    · have e0 : tkN l m (n : Int) = 0 := tkN_ok h1 (by simpa using h2)
      have e1 : tkV l m (n : Int) = l + 1 := by unfold tkV; rw [if_pos e0]
      have e2 : tkL l m (n : Int) = l + n := by unfold tkL; rw [if_pos e0]; simp
      rw [e0, e1, e2]
      have g1 : ¬ (l : Int) + (n : Int) > (m : Int) := by omega
      have ev : (l : Int) + (n : Int) - (n : Int) + 1 = ((l + 1 : Nat) : Int) := by omega
      go_enter Try.func10, Try.ntmps10
      go_wp2_with fail
      go_quiet (fail)
      go_wp2_with fail
      go_ret2
      exact ⟨by first | rfl | rw [ev] | simp, by simpa using (h.drewN _).setL h2, (chg_drewN _ _ _).trans ((chg_put y 0 _ _).mono (fun b _ q => .inl q))⟩
    · have e0 : tkN l m (n : Int) = 150 := tkN_win h1 (by simp; omega)
      have e1 : tkV l m (n : Int) = 0 := by unfold tkV; rw [if_neg (by omega)]
      have e2 : tkL l m (n : Int) = l := by unfold tkL; rw [if_neg (by omega)]
      rw [e0, e1, e2]
      have g1 : (l : Int) + (n : Int) > (m : Int) := by omega
      go_enter Try.func10, Try.ntmps10
      go_wp2_with fail
      go_quiet (fail)
      go_wp2_with fail
      go_ret2
      exact ⟨rfl, h.drewN _, chg_drewN _ _ _⟩
  · have e0 : tkN l m k = 1 := tkN_arg (by omega)
    have e1 : tkV l m k = 0 := by unfold tkV; rw [if_neg (by omega)]
    have e2 : tkL l m k = l := by unfold tkL; rw [if_neg (by omega)]
    rw [e0, e1, e2]
    by_cases h3 : k < 1
    · go_enter Try.func10, Try.ntmps10
      go_wp2_with fail
      go_ret2
      exact ⟨rfl, h, Chg.refl _ _⟩
    · have h4 : k > 1024 := by omega
      go_enter Try.func10, Try.ntmps10
      go_wp2_with fail
      go_ret2
      exact ⟨rfl, h, Chg.refl _ _⟩

set_option maxHeartbeats 1000000 in
theorem rwant_any {y l m : Nat} {w : World} (h : Ord y l m w) (k : Int) : Calls Try.prog 13 #[.pointer (some ⟨y, 0, none⟩), .int .i64 k] w fun e w' => e = .returned (.tuple #[.int .u64 (wnV l m k : Int), .bool (wnB l m k)]) ∧ Ord y l m w' ∧ Chg (fun b => b = y) w w' := by
  by_cases h1 : 1 ≤ k ∧ k ≤ 1024
  · obtain ⟨n, rfl⟩ := Int.eq_ofNat_of_zero_le (show 0 ≤ k by omega)
    obtain ⟨c0, c1, fz⟩ := h.cells
    have hle := h.le
    have htop := h.top
    by_cases h2 : l + n ≤ m
    · have e0 : tkN l m (n : Int) = 0 := tkN_ok h1 (by simpa using h2)
      have e1 : wnV l m (n : Int) = 0 := by unfold wnV; rw [if_neg (by omega)]
      have e2 : wnB l m (n : Int) = false := by unfold wnB; rw [e0]; rfl
      rw [e1, e2]
      have g1 : (l : Int) + (n : Int) ≤ (m : Int) := by omega
      have q1 : decide ((n : Int) < 1) = false := decide_eq_false (by omega)
      have q2 : decide (1024 < (n : Int)) = false := decide_eq_false (by omega)
      have w1 : IntKind.u64.wrap (n : Int) = (n : Int) := by simp [IntKind.wrap, IntKind.signed, IntKind.bits]; omega
      have w2 : IntKind.u64.wrap ((l : Int) + (n : Int)) = (l : Int) + (n : Int) := by simp [IntKind.wrap, IntKind.signed, IntKind.bits]; omega
      go_enter Try.func13, Try.ntmps13
      go_wp2_with fail
      go_quiet (fail)
      go_wp2_with fail
      go_ret2
      exact ⟨rfl, h.drewN _, chg_drewN _ _ _⟩
    · have e0 : tkN l m (n : Int) = 150 := tkN_win h1 (by simp; omega)
      have e1 : wnV l m (n : Int) = l + n + 1024 := by unfold wnV; rw [if_pos e0]; simp
      have e2 : wnB l m (n : Int) = true := by unfold wnB; rw [e0]; rfl
      rw [e1, e2]
      have g1 : ¬ (l : Int) + (n : Int) ≤ (m : Int) := by omega
      have q1 : decide ((n : Int) < 1) = false := decide_eq_false (by omega)
      have q2 : decide (1024 < (n : Int)) = false := decide_eq_false (by omega)
      have w1 : IntKind.u64.wrap (n : Int) = (n : Int) := by simp [IntKind.wrap, IntKind.signed, IntKind.bits]; omega
      have w2 : IntKind.u64.wrap ((l : Int) + (n : Int)) = (l : Int) + (n : Int) := by simp [IntKind.wrap, IntKind.signed, IntKind.bits]; omega
      go_enter Try.func13, Try.ntmps13
      go_wp2_with fail
      go_quiet (fail)
      go_wp2_with fail
      go_ret2
      exact ⟨by simp, h.drewN _, chg_drewN _ _ _⟩
  · have e0 : tkN l m k = 1 := tkN_arg (by omega)
    have e1 : wnV l m k = 0 := by unfold wnV; rw [if_neg (by omega)]
    have e2 : wnB l m k = false := by unfold wnB; rw [e0]; rfl
    obtain ⟨c0, c1, fz⟩ := h.cells
    rw [e1, e2]
    by_cases h3 : k < 1
    · have q1 : decide (k < 1) = true := decide_eq_true h3
      go_enter Try.func13, Try.ntmps13
      go_wp2_with fail
      go_quiet (fail)
      go_wp2_with fail
      go_ret2
      exact ⟨rfl, h.drewN _, chg_drewN _ _ _⟩
    · have h4 : k > 1024 := by omega
      have q1 : decide (k < 1) = false := decide_eq_false h3
      have q2 : decide (1024 < k) = true := decide_eq_true h4
      go_enter Try.func13, Try.ntmps13
      go_wp2_with fail
      go_quiet (fail)
      go_wp2_with fail
      go_ret2
      exact ⟨rfl, h.drewN _, chg_drewN _ _ _⟩
end Go.Proofs.Ytiponjphodhdjaa
