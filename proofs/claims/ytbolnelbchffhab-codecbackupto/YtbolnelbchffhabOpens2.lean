/- What TakeBytes and TakeKey answer of any bytes. -/
import Derived.Test.YtbolnelbchffhabOpens
namespace Go.Proofs.Ytbolnelbchffhab
open Go.RowKit
set_option linter.unusedVariables false
set_option maxRecDepth 100000

theorem takeB_any {v : Value} {l : List UInt8} {w : World} (hr : Rd w v l) (hl : l.length ≤ 140737488355000) :
    Calls Try.prog 20 #[v] w fun e w' => ∃ v1 v2, e = .returned (.tuple #[v1, v2, .int .i64 (M.tb l).2.2]) ∧ Ow w.heap.size w' v1 (M.tb l).1 ∧ Ow w.heap.size w' v2 (M.tb l).2.1 ∧ Apart v1 v2 ∧ Below w.heap.size w w' := by
  have hle := (M.tbA_len (l.length + 1) [] l).2
  go_enter Try.func20, Try.ntmps20
  go_wp2_with fail
  refine (readB_any hr hl).mono ?_
  rintro e w1 ⟨v1, v2, rfl, ho1, hr2, hb1⟩
  have hr2' := hr2.below hb1 (Nat.le_refl _)
  have hle' : (M.tb l).2.1.length ≤ 140737488355000 := Nat.le_trans hle hl
  go_wp2_with fail
  refine (clone_any hr2' (by omega)).mono ?_
  rintro e w2 ⟨v3, rfl, ho3, hb2⟩
  go_wp2_with fail
  go_ret3
  exact ⟨_, _, rfl, ho1.below hb2 (Nat.le_refl _), ho3.mono hb1.size, ho1.apart ho3 (Nat.le_refl _), Below.tr hb1 hb2⟩

theorem tk_cases (l : List UInt8) : ((M.tb l).2.2 ≠ 0 ∧ M.tk l = ([], 0, (M.tb l).2.2)) ∨ ((M.tb l).2.2 = 0 ∧ (M.tb l).2.1.length < 8 ∧ M.tk l = ([], 0, 10)) ∨ ((M.tb l).2.2 = 0 ∧ 8 < (M.tb l).2.1.length ∧ M.tk l = ([], 0, 12)) ∨
    ((M.tb l).2.2 = 0 ∧ (M.tb l).2.1.length = 8 ∧ M.tk l = ((M.tb l).1, 18446744073709551615 - M.num ((M.tb l).2.1.take 8), 0)) := by
  by_cases h1 : (M.tb l).2.2 ≠ 0
  · refine .inl ⟨h1, ?_⟩
    unfold M.tk; simp only []; rw [if_pos h1]
  · have h1' : (M.tb l).2.2 = 0 := by simpa using h1
    by_cases h2 : (M.tb l).2.1.length < 8
    · refine .inr (.inl ⟨h1', h2, ?_⟩)
      unfold M.tk; simp only []; rw [if_neg h1, if_pos h2]
    · by_cases h3 : (M.tb l).2.1.length ≠ 8
      · refine .inr (.inr (.inl ⟨h1', by omega, ?_⟩))
        unfold M.tk; simp only []; rw [if_neg h1, if_neg h2, if_pos h3]
      · refine .inr (.inr (.inr ⟨h1', by omega, ?_⟩))
        unfold M.tk; simp only []; rw [if_neg h1, if_neg h2, if_neg h3]

set_option maxHeartbeats 400000 in
theorem takeK_any {v : Value} {l : List UInt8} {w : World} (hr : Rd w v l) (hl : l.length ≤ 140737488355000) :
    Calls Try.prog 27 #[v] w fun e w' => ∃ v1, e = .returned (.tuple #[v1, .int .u64 (M.tk l).2.1, .int .i64 (M.tk l).2.2]) ∧ Ow w.heap.size w' v1 (M.tk l).1 ∧ Below w.heap.size w w' := by
  have hrb := readB_any hr hl
  have HB : Hid _ := hrb
  clear hrb
  have HC : Hid _ := tk_cases l
  generalize M.tb l = R at *
  obtain ⟨tx, rest, er⟩ := R
  generalize M.tk l = T at *
  rcases HC.out with ⟨h1, rfl⟩ | ⟨h1, h2, rfl⟩ | ⟨h1, h2, rfl⟩ | ⟨h1, h2, rfl⟩
  · simp only [] at h1
    have hne : (((er : Nat) : Int) != 0) = true := by simp; omega
    clear h1 HC
    go_enter Try.func27, Try.ntmps27
    go_wp2_with fail
    refine Calls.mono HB.out ?_
    rintro e w1 ⟨v1, v2, rfl, ho1, hr2, hb1⟩
    go_wp2_with fail
    go_ret3
    exact ⟨_, rfl, Ow.nil _ _, hb1⟩
  all_goals
    simp only [] at h1 h2
    subst h1
    clear HC
    go_enter Try.func27, Try.ntmps27
    go_wp2_with fail
    refine Calls.mono HB.out ?_
    rintro e w1 ⟨v1, v2, rfl, ho1, hr2, hb1⟩
    have hrd := readD_any (hr2.below hb1 (Nat.le_refl _))
    have HD : Hid _ := hrd
    clear hrd
    go_wp2_with fail
    refine Calls.mono HD.out ?_
    rintro e w2 ⟨v3, rfl, hr3, k2, rfl⟩
  · have e : td rest = (0, [], 10) := by unfold td; rw [if_pos h2]
    rw [e]
    go_wp2_with fail
    go_ret3
    exact ⟨_, rfl, Ow.nil _ _, Below.tr hb1 (Below.dN _ _)⟩
  · have e : td rest = (18446744073709551615 - M.num (rest.take 8), rest.drop 8, 0) := by unfold td; rw [if_neg (by omega)]
    rw [e] at hr3 ⊢
    have hdl : 0 < (rest.drop 8).length := by simp; omega
    obtain ⟨ao, c, rfl, e1, e2, e3, e4⟩ := hr3
    unfold maxLen at e2
    simp only [] at e1 e2 ⊢
    clear e e3 e4
    generalize (rest.drop 8).length = m at *
    go_wp2_with fail
    go_ret3
    exact ⟨_, rfl, Ow.nil _ _, Below.tr hb1 (Below.dN _ _)⟩
  · have e : td rest = (18446744073709551615 - M.num (rest.take 8), [], 0) := by unfold td; rw [if_neg (by omega), List.drop_eq_nil_of_le (by omega)]
    rw [e] at hr3 ⊢
    obtain ⟨ao, c, rfl, e1, e2, _, _⟩ := hr3
    simp only [List.length_nil] at e1 ⊢
    clear e
    go_wp2_with fail
    go_ret3
    exact ⟨_, rfl, ho1.drewN k2, Below.tr hb1 (Below.dN _ _)⟩
end Go.Proofs.Ytbolnelbchffhab
