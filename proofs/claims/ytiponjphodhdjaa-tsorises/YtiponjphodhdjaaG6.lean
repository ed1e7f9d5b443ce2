/- What the oracle's calls answer. -/
import Derived.Test.YtiponjphodhdjaaG5
import Derived.Laws.EntriesVeiled
namespace Go.Proofs.Ytiponjphodhdjaa
open Go.RowKit
set_option linter.unusedVariables false
set_option maxRecDepth 100000

theorem ts_mf : ∀ (fn : Fn) (first cap : Array Value) (w : World), (Instr.makeFunc fn first cap).run Try.prog w = .ok (.func fn first cap) w := fun _ _ _ _ => rfl

set_option maxHeartbeats 1000000 in
theorem tnew_any (l : Nat) (hl : l ≤ 4611686018427387904) (w : World) : Calls Try.prog 7 #[.int .u64 (l : Int)] w fun e w' => ∃ x c, e = .returned (.pointer (some ⟨x, 0, none⟩)) ∧ Orc x c l l w' ∧ w.heap.size ≤ x ∧ w.heap.size ≤ c ∧ Below w.heap.size w w' := by
  have hmf := ts_mf
  go_enter Try.func7, Try.ntmps7
  go_wp2_with fail
  go_ret
  refine ⟨w.heap.size, w.heap.size + 1, rfl, ⟨?_, ?_, Nat.le_refl _, hl⟩, Nat.le_refl _, by omega, (ts_al w _).trans ((ts_al _ _).mono (by simp))⟩
  · rw [ts_old _ _ _ (by simp)]
    exact ts_new w _
  · show (Array.push (Array.push w.heap _) _)[w.heap.size + 1]? = _
    rw [Array.getElem?_push]
    simp

theorem inw_any (k : Int) (w : World) : Calls Try.prog 19 #[.int .i64 k] w fun e w' => e = .returned (.bool (decide (1 ≤ k ∧ k ≤ 1024))) ∧ w' = w := by
  by_cases h1 : 1 ≤ k
  · by_cases h2 : k ≤ 1024
    · go_enter Try.func19, Try.ntmps19
      go_wp2_with fail
      go_ret
      exact ⟨by simp [h1, h2], rfl⟩
    · go_enter Try.func19, Try.ntmps19
      go_wp2_with fail
      go_ret
      exact ⟨by simp [h2], rfl⟩
  · go_enter Try.func19, Try.ntmps19
    go_wp2_with fail
    go_ret
    exact ⟨by simp; omega, rfl⟩

set_option maxHeartbeats 1000000 in
theorem want_no {x c l m : Nat} {w : World} (h : Orc x c l m w) (n : Nat) (hn : l + n ≤ m) : Calls Try.prog 18 #[.int .u64 (n : Int), .pointer (some ⟨c, 0, none⟩)] w fun e w' => e = .returned (.tuple #[.int .u64 0, .bool false]) ∧ Orc x c l m w' ∧ Chg (fun b => b = x) w w' := by
  obtain ⟨c0, c1, c2, c3, fz⟩ := h.cells
  have hle := h.le
  have htop := h.top
  have g1 : (m : Int) - (l : Int) ≥ (n : Int) := by omega
  go_enter Try.func18, Try.ntmps18
  go_wp2_with fail
  go_quiet (fail)
  go_wp2_with fail
  go_ret2
  exact ⟨rfl, h.drewN _, chg_drewN _ _ _⟩

set_option maxHeartbeats 1000000 in
theorem want_yes {x c l m : Nat} {w : World} (h : Orc x c l m w) (n : Nat) (hn : m < l + n) (h2 : n ≤ 1024) : Calls Try.prog 18 #[.int .u64 (n : Int), .pointer (some ⟨c, 0, none⟩)] w fun e w' => e = .returned (.tuple #[.int .u64 ((l + n + 1024 : Nat) : Int), .bool true]) ∧ Orc x c l m w' ∧ Chg (fun b => b = x) w w' := by
  obtain ⟨c0, c1, c2, c3, fz⟩ := h.cells
  have hle := h.le
  have htop := h.top
  have g1 : ¬ (m : Int) - (l : Int) ≥ (n : Int) := by omega
  have g2 : ¬ (18446744073709551615 : Int) - (l : Int) < (n : Int) + 1024 := by omega
  have ev : ((l + n + 1024 : Nat) : Int) = (l : Int) + ((n : Int) + 1024) := by omega
  rw [ev]
  go_enter Try.func18, Try.ntmps18
  go_wp2_with fail
  go_quiet (fail)
  go_wp2_with fail
  go_quiet (fail)
  go_wp2_with fail
  go_ret2
  exact ⟨rfl, (h.drewN _).drewN _, (chg_drewN _ _ _).trans (chg_drewN _ _ _)⟩

set_option maxHeartbeats 1000000 in
theorem take_any {x c l m : Nat} {w : World} (h : Orc x c l m w) (k : Int) : Calls Try.prog 9 #[.pointer (some ⟨x, 0, none⟩), .int .i64 k] w fun e w' => e = .returned (.tuple #[.int .u64 (tkV l m k : Int), .int .i64 (tkN l m k)]) ∧ Orc x c (tkL l m k) m w' ∧ Chg (fun b => b = x) w w' := by
  by_cases h1 : 1 ≤ k ∧ k ≤ 1024
  · have hin := inw_any k w
    rw [decide_eq_true h1] at hin
    obtain ⟨n, rfl⟩ := Int.eq_ofNat_of_zero_le (show 0 ≤ k by omega)
    obtain ⟨c0, c1, c2, c3, fz⟩ := h.cells
    have hle := h.le
    have htop := h.top
    by_cases h2 : l + n ≤ m
    · have e0 : tkN l m (n : Int) = 0 := tkN_ok h1 (by simpa using h2)
      have e1 : tkV l m (n : Int) = l + 1 := by unfold tkV; rw [if_pos e0]
      have e2 : tkL l m (n : Int) = l + n := by unfold tkL; rw [if_pos e0]; simp
      rw [e0, e1, e2]
      have hw := want_no h n h2
      go_enter Try.func9, Try.ntmps9
      go_wp2_with fail
      refine hin.mono ?_
      rintro e w1 ⟨rfl, rfl⟩
      go_wp2_with fail
      refine hw.mono ?_
      rintro e w2 ⟨rfl, ho, hc⟩
      obtain ⟨d0, d1, d2, d3, fy⟩ := ho.cells
      clear c0 c1 c2 c3 fz hin hw
      go_wp2_with fail
      go_ret2
      exact ⟨rfl, by simpa using ho.setL h2, hc.trans ((chg_put x 0 _ w2).mono (fun b _ q => .inl q))⟩
    · have e0 : tkN l m (n : Int) = 150 := tkN_win h1 (by simp; omega)
      have e1 : tkV l m (n : Int) = 0 := by unfold tkV; rw [if_neg (by omega)]
      have e2 : tkL l m (n : Int) = l := by unfold tkL; rw [if_neg (by omega)]
      rw [e0, e1, e2]
      have hw := want_yes h n (by omega) (by omega)
      go_enter Try.func9, Try.ntmps9
      go_wp2_with fail
      refine hin.mono ?_
      rintro e w1 ⟨rfl, rfl⟩
      go_wp2_with fail
      refine hw.mono ?_
      rintro e w2 ⟨rfl, ho, hc⟩
      go_wp2_with fail
      go_ret2
      exact ⟨rfl, ho, hc⟩
  · have hin := inw_any k w
    rw [decide_eq_false h1] at hin
    have e0 : tkN l m k = 1 := tkN_arg (by omega)
    have e1 : tkV l m k = 0 := by unfold tkV; rw [if_neg (by omega)]
    have e2 : tkL l m k = l := by unfold tkL; rw [if_neg (by omega)]
    rw [e0, e1, e2]
    go_enter Try.func9, Try.ntmps9
    go_wp2_with fail
    refine hin.mono ?_
    rintro e w1 ⟨rfl, rfl⟩
    go_wp2_with fail
    go_ret2
    exact ⟨rfl, h, Chg.refl _ _⟩

set_option maxHeartbeats 1000000 in
theorem wantc_any {x c l m : Nat} {w : World} (h : Orc x c l m w) (k : Int) : Calls Try.prog 12 #[.pointer (some ⟨x, 0, none⟩), .int .i64 k] w fun e w' => e = .returned (.tuple #[.int .u64 (wnV l m k : Int), .bool (wnB l m k)]) ∧ Orc x c l m w' ∧ Chg (fun b => b = x) w w' := by
  by_cases h1 : 1 ≤ k ∧ k ≤ 1024
  · have hin := inw_any k w
    rw [decide_eq_true h1] at hin
    obtain ⟨n, rfl⟩ := Int.eq_ofNat_of_zero_le (show 0 ≤ k by omega)
    obtain ⟨c0, c1, c2, c3, fz⟩ := h.cells
    have hle := h.le
    have htop := h.top
    by_cases h2 : l + n ≤ m
    · have e0 : tkN l m (n : Int) = 0 := tkN_ok h1 (by simpa using h2)
      have e1 : wnV l m (n : Int) = 0 := by unfold wnV; rw [if_neg (by omega)]
      have e2 : wnB l m (n : Int) = false := by unfold wnB; rw [e0]; rfl
      rw [e1, e2]
      have hw := want_no h n h2
      go_enter Try.func12, Try.ntmps12
      go_wp2_with fail
      refine hin.mono ?_
      rintro e w1 ⟨rfl, rfl⟩
      go_wp2_with fail
      refine hw.mono ?_
      rintro e w2 ⟨rfl, ho, hc⟩
      go_wp2_with fail
      go_ret2
      exact ⟨rfl, ho, hc⟩
    · have e0 : tkN l m (n : Int) = 150 := tkN_win h1 (by simp; omega)
      have e1 : wnV l m (n : Int) = l + n + 1024 := by unfold wnV; rw [if_pos e0]; simp
      have e2 : wnB l m (n : Int) = true := by unfold wnB; rw [e0]; rfl
      rw [e1, e2]
      have hw := want_yes h n (by omega) (by omega)
      go_enter Try.func12, Try.ntmps12
      go_wp2_with fail
      refine hin.mono ?_
      rintro e w1 ⟨rfl, rfl⟩
      go_wp2_with fail
      refine hw.mono ?_
      rintro e w2 ⟨rfl, ho, hc⟩
      go_wp2_with fail
      go_ret2
      exact ⟨rfl, ho, hc⟩
  · have hin := inw_any k w
    rw [decide_eq_false h1] at hin
    have e0 : tkN l m k = 1 := tkN_arg (by omega)
    have e1 : wnV l m k = 0 := by unfold wnV; rw [if_neg (by omega)]
    have e2 : wnB l m k = false := by unfold wnB; rw [e0]; rfl
    rw [e1, e2]
    go_enter Try.func12, Try.ntmps12
    go_wp2_with fail
    refine hin.mono ?_
    rintro e w1 ⟨rfl, rfl⟩
    go_wp2_with fail
    go_ret2
    exact ⟨rfl, h, Chg.refl _ _⟩

theorem grant_any {x c l m : Nat} {w : World} (h : Orc x c l m w) (z : Nat) (hz : z ≤ 4611686018427387904) : Calls Try.prog 14 #[.pointer (some ⟨x, 0, none⟩), .int .u64 (z : Int)] w fun e w' => e = .returned (.tuple #[]) ∧ Orc x c l (max m z) w' ∧ Chg (fun b => b = x) w w' := by
  obtain ⟨c0, c1, c2, c3, fz⟩ := h.cells
  have hle := h.le
  have htop := h.top
  by_cases hmz : m < z
  · have em : max m z = z := by omega
    rw [em]
    go_enter Try.func14, Try.ntmps14
    go_wp2_with fail
    go_end0
    exact ⟨rfl, h.setM (by omega) hz, chg_put _ _ _ _⟩
  · have em : max m z = m := by omega
    rw [em]
    go_enter Try.func14, Try.ntmps14
    go_wp2_with fail
    go_end0
    exact ⟨rfl, h.setM h.le htop, chg_put _ _ _ _⟩

theorem last_any {x c l m : Nat} {w : World} (h : Orc x c l m w) : Calls Try.prog 16 #[.pointer (some ⟨x, 0, none⟩)] w fun e w' => e = .returned (.int .u64 (l : Int)) ∧ w' = w := by
  obtain ⟨c0, c1, c2, c3, fz⟩ := h.cells
  go_enter Try.func16, Try.ntmps16
  go_wp2_with fail
  go_ret
  exact ⟨rfl, rfl⟩
theorem limit_any {x c l m : Nat} {w : World} (h : Orc x c l m w) : Calls Try.prog 17 #[.pointer (some ⟨x, 0, none⟩)] w fun e w' => e = .returned (.int .u64 (m : Int)) ∧ w' = w := by
  obtain ⟨c0, c1, c2, c3, fz⟩ := h.cells
  go_enter Try.func17, Try.ntmps17
  go_wp2_with fail
  go_ret
  exact ⟨rfl, rfl⟩
end Go.Proofs.Ytiponjphodhdjaa
