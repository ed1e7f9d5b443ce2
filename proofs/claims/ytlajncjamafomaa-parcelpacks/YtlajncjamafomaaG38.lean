/- What SameAll answers of two lists that read as the same texts: true. -/
import Derived.Test.YtlajncjamafomaaG29
namespace Go.Proofs.Ytlajncjamafomaa
open Go.RowKit
set_option linter.unusedVariables false
set_option maxRecDepth 100000

set_option maxHeartbeats 1000000 in
theorem sameall_any {va vb : Value} {ls : List (List UInt8)} {w : World} (ha : Rds w va ls) (hb : Rds w vb ls) :
    Calls Try.prog 13 #[va, vb] w fun e w' => e = .returned (.bool true) ∧ ∃ n, w' = w.drewN n := by
  obtain ⟨aa, ca, rfl, a1, a2, a4⟩ := ha
  obtain ⟨ab, cb, rfl, b1, b2, b4⟩ := hb
  unfold maxLen at a2 b2
  go_enter Try.func13, Try.ntmps13
  go_wp2_with fail
  go_loopw [5] (fun i wr => ∃ k : Nat, k ≤ ls.length ∧ i = .int .i64 k ∧ Hid (∃ m, wr = w.drewN m)) (fun i _ => ls.length - (intOf i).toNat)
  case atStart => exact ⟨0, Nat.zero_le _, rfl, 0, rfl⟩
  case round =>
    obtain ⟨k, hk, rfl, HW⟩ := hrel
    by_cases hlt : k < ls.length
    · obtain ⟨a, u, rfl, hcu, hru⟩ := a4 k hlt
      obtain ⟨b, v, rfl, hcv, hrv⟩ := b4 k hlt
      clear a4 b4
      have hcu' : wr.cell? (a.add k) = some u := by obtain ⟨m, rfl⟩ := HW.out; exact hcu
      have hcv' : wr.cell? (b.add k) = some v := by obtain ⟨m, rfl⟩ := HW.out; exact hcv
      have hru' : Rd wr u ls[k] := by obtain ⟨m, rfl⟩ := HW.out; exact hru
      have hrv' : Rd wr v ls[k] := by obtain ⟨m, rfl⟩ := HW.out; exact hrv
      clear hcu hcv hru hrv
      have hcu := hru'
      have hcv := hrv'
      obtain ⟨au, cu, rfl, u1, u2, _, _⟩ := hru'
      obtain ⟨av, cv, rfl, v1, v2, _, _⟩ := hrv'
      unfold maxLen at u2 v2
      have hi1 : ((k : Nat) : Int) < ((ls.length : Nat) : Int) := by omega
      generalize ls[k] = f at *
      go_wp2_with fail
      go_quiet (first | (go_at_call 26; refine Calls.quiet_of (v := .bool true) ((same_any (hcu.drewN _) (hcv.drewN _)).mono ?_); rintro e w' ⟨rfl, hh⟩; exact ⟨by simp, hh⟩) | fail)
      go_wp2_with fail
      refine ⟨⟨k + 1, by omega, by go_num, ?_⟩, by simp [intOf]; omega⟩
      obtain ⟨m, rfl⟩ := HW.out
      exact ⟨_, World.drewN_drewN _ _ _⟩
    · obtain rfl : k = ls.length := by omega
      go_wp2_with fail
      go_ret
      exact ⟨rfl, HW.out⟩
end Go.Proofs.Ytlajncjamafomaa
