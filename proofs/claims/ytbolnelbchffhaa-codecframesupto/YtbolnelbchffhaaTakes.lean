/- What TakeUint, TakeDesc and TakeVarint answer of any bytes, the code's and the document's. -/
import Derived.Test.YtbolnelbchffhaaFrames
namespace Go.Proofs.Ytbolnelbchffhaa
open Go.RowKit
set_option linter.unusedVariables false
set_option maxRecDepth 100000

/-- Eight bytes read. -/
def tu (l : List UInt8) : Nat × List UInt8 × Nat := if l.length < 8 then (0, [], 10) else (M.num (l.take 8), l.drop 8, 0)
def td (l : List UInt8) : Nat × List UInt8 × Nat := if l.length < 8 then (0, [], 10) else (18446744073709551615 - M.num (l.take 8), l.drop 8, 0)

theorem num8_lt (l : List UInt8) : M.num (l.take 8) < 18446744073709551616 := by
  refine Nat.lt_of_lt_of_le (M.num_lt _) ?_
  have : (l.take 8).length ≤ 8 := by simp; omega
  have := Nat.pow_le_pow_right (n := 256) (by decide) this
  simpa using this

set_option maxHeartbeats 400000 in
theorem readU_any {v : Value} {l : List UInt8} {w : World} (hr : Rd w v l) :
    Calls Try.prog 46 #[v] w fun e w' => ∃ v2, e = .returned (.tuple #[.int .u64 (tu l).1, v2, .int .i64 (tu l).2.2]) ∧ Rd w v2 (tu l).2.1 ∧ ∃ k, w' = w.drewN k := by
  have hr' := hr
  obtain ⟨ao, c, rfl, h1, h2, h3, h4⟩ := hr
  unfold maxLen at h2
  clear h3 h4
  by_cases hlt : l.length < 8
  · have e : tu l = (0, [], 10) := by unfold tu; rw [if_pos hlt]
    rw [e]
    go_enter Try.func46, Try.ntmps46
    go_wp2
    go_ret3
    exact ⟨_, rfl, Rd.nil _, 0, rfl⟩
  · have e : tu l = (M.num (l.take 8), l.drop 8, 0) := by unfold tu; rw [if_neg hlt]
    rw [e]
    clear e
    have hpre := hr'.pre 8 (by omega)
    have hl8 : (l.take 8).length ≤ 8 := by simp; omega
    have hpost := hr'.post 8 (by omega) (if c = 8 then ao else ao.map (fun a => a.add 8)) ⟨fun h => by rw [if_pos h], fun h => by rw [if_neg h]⟩
    have HP : Hid _ := hpost
    have HL : Hid _ := hl8
    clear hpost hl8
    by_cases hc8 : c = 8
    all_goals
      try subst hc8
      go_enter Try.func46, Try.ntmps46
      go_wp2
      go_quiet ((go_at_call 52; refine Calls.quiet_of (number_any (l := l.take 8) (hpre.drewN _) HL.out)))
      go_wp2
      go_ret3
      refine ⟨_, rfl, Rd.cong HP.out ?_ ?_ ?_, _, rfl⟩
      · first | (simp; done) | (rw [if_neg hc8]; try rfl)
      · first | rfl | omega
      · first | rfl | omega

theorem takeU_any {v : Value} {l : List UInt8} {w : World} (hr : Rd w v l) (hl : l.length ≤ 140737488355000) :
    Calls Try.prog 18 #[v] w fun e w' => ∃ v2, e = .returned (.tuple #[.int .u64 (tu l).1, v2, .int .i64 (tu l).2.2]) ∧ Ow w.heap.size w' v2 (tu l).2.1 ∧ Below w.heap.size w w' := by
  have hle : (tu l).2.1.length ≤ 140737488355000 := by
    unfold tu; split <;> simp <;> omega
  go_enter Try.func18, Try.ntmps18
  go_wp2_with fail
  refine (readU_any hr).mono ?_
  rintro e w1 ⟨v1, rfl, hr1, k1, rfl⟩
  go_wp2_with fail
  refine (clone_any (hr1.drewN k1) (by omega)).mono ?_
  rintro e w2 ⟨v2, rfl, ho2, hb2⟩
  go_wp2_with fail
  go_ret3
  exact ⟨_, rfl, ho2, Below.tr (Below.dN w k1) hb2⟩

set_option maxHeartbeats 400000 in
theorem readD_any {v : Value} {l : List UInt8} {w : World} (hr : Rd w v l) :
    Calls Try.prog 49 #[v] w fun e w' => ∃ v2, e = .returned (.tuple #[.int .u64 (td l).1, v2, .int .i64 (td l).2.2]) ∧ Rd w v2 (td l).2.1 ∧ ∃ k, w' = w.drewN k := by
  have hru := readU_any hr
  have hn := num8_lt l
  by_cases hlt : l.length < 8
  · have e : td l = (0, [], 10) := by unfold td; rw [if_pos hlt]
    have e2 : tu l = (0, [], 10) := by unfold tu; rw [if_pos hlt]
    rw [e2] at hru
    rw [e]
    go_enter Try.func49, Try.ntmps49
    go_wp2_with fail
    refine hru.mono ?_
    rintro e w1 ⟨v1, rfl, hr1, k1, rfl⟩
    go_wp2_with fail
    go_ret3
    exact ⟨_, rfl, Rd.nil _, _, rfl⟩
  · have e : td l = (18446744073709551615 - M.num (l.take 8), l.drop 8, 0) := by unfold td; rw [if_neg hlt]
    have e2 : tu l = (M.num (l.take 8), l.drop 8, 0) := by unfold tu; rw [if_neg hlt]
    rw [e2] at hru
    rw [e]
    have ex : bits BinOp.xor IntKind.u64 IntKind.u64.max (M.num (l.take 8) : Int) = ((18446744073709551615 - M.num (l.take 8) : Nat) : Int) := by
      rw [show IntKind.u64.max = ((18446744073709551615 : Nat) : Int) from rfl, u64_xor_nat _ _ (by decide) hn, M.not64 _ hn]
    clear e e2
    generalize M.num (l.take 8) = x at *
    have HX : Hid _ := ex
    clear ex
    go_enter Try.func49, Try.ntmps49
    go_wp2_with fail
    refine hru.mono ?_
    rintro e w1 ⟨v1, rfl, hr1, k1, rfl⟩
    go_wp2_with fail
    go_ret3
    refine ⟨_, ?_, hr1, _, rfl⟩
    rw [← HX.out]; rfl

theorem takeD_any {v : Value} {l : List UInt8} {w : World} (hr : Rd w v l) (hl : l.length ≤ 140737488355000) :
    Calls Try.prog 20 #[v] w fun e w' => ∃ v2, e = .returned (.tuple #[.int .u64 (td l).1, v2, .int .i64 (td l).2.2]) ∧ Ow w.heap.size w' v2 (td l).2.1 ∧ Below w.heap.size w w' := by
  have hle : (td l).2.1.length ≤ 140737488355000 := by
    unfold td; split <;> simp <;> omega
  go_enter Try.func20, Try.ntmps20
  go_wp2_with fail
  refine (readD_any hr).mono ?_
  rintro e w1 ⟨v1, rfl, hr1, k1, rfl⟩
  go_wp2_with fail
  refine (clone_any (hr1.drewN k1) (by omega)).mono ?_
  rintro e w2 ⟨v2, rfl, ho2, hb2⟩
  go_wp2_with fail
  go_ret3
  exact ⟨_, rfl, ho2, Below.tr (Below.dN w k1) hb2⟩

theorem takeV_any {v : Value} {l : List UInt8} {w : World} (hr : Rd w v l) (hl : l.length ≤ 140737488355000) :
    Calls Try.prog 22 #[v] w fun e w' => ∃ v2, e = .returned (.tuple #[.int .u64 (M.tv l).1, v2, .int .i64 (M.tv l).2.2]) ∧ Ow w.heap.size w' v2 (M.tv l).2.1 ∧ Below w.heap.size w w' := by
  have hle := tv_len l
  go_enter Try.func22, Try.ntmps22
  go_wp2_with fail
  refine (rvar_any hr).mono ?_
  rintro e w1 ⟨v1, rfl, hr1, k1, rfl⟩
  go_wp2_with fail
  refine (clone_any (hr1.drewN k1) (by omega)).mono ?_
  rintro e w2 ⟨v2, rfl, ho2, hb2⟩
  go_wp2_with fail
  go_ret3
  exact ⟨_, rfl, ho2, Below.tr (Below.dN w k1) hb2⟩
end Go.Proofs.Ytbolnelbchffhaa
