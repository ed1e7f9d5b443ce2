/- cmp.Compare at uint64 and cmp.Or of two. -/
import Derived.Test.YtefhinopppdjbaaGreatG10
import Derived.Deep.RegionHeld3
namespace Go.Proofs.YtefhinopppdjbaaGreat
open Go.RowKit
set_option linter.unusedVariables false
set_option maxRecDepth 100000

def cmpU (x y : UInt64) : Int := if x.toNat < y.toNat then -1 else if y.toNat < x.toNat then 1 else 0
theorem isNaN_any (x : Int) (w : World) : Calls Tryz.prog 86 #[.int .u64 x] w fun e w' => e = .returned (.bool false) ∧ w' = w := by
  go_enter Tryz.func86, Tryz.ntmps86
  go_wp2_with fail
  go_ret
  exact ⟨by simp, rfl⟩
theorem compareU_any (x y : UInt64) (w : World) : Calls Tryz.prog 100 #[.int .u64 (x.toNat : Int), .int .u64 (y.toNat : Int)] w fun e w' => e = .returned (.int .i64 (cmpU x y)) ∧ w' = w := by
  have h0 := fun z W => isNaN_any z W
  have hc : cmpU x y = if x.toNat < y.toNat then -1 else if y.toNat < x.toNat then 1 else 0 := rfl
  generalize cmpU x y = r at *
  have HC : Hid _ := hc
  clear hc
  generalize x.toNat = a at *
  generalize y.toNat = b at *
  go_enter Tryz.func100, Tryz.ntmps100
  go_wp2_with fail
  refine (h0 _ _).mono ?_
  rintro e w1 ⟨rfl, rfl⟩
  go_wp2_with fail
  refine (h0 _ _).mono ?_
  rintro e w1 ⟨rfl, rfl⟩
  by_cases h1 : a < b
  · have g1 : (a : Int) < (b : Int) := by omega
    have HR : Hid (r = -1) := by show _ = _; rw [HC.out, if_pos h1]
    go_wp2_with fail
    go_ret
    exact ⟨by rw [HR.out]; rfl, rfl⟩
  · have g1 : ¬ (a : Int) < (b : Int) := by omega
    by_cases h2 : b < a
    · have g2 : (b : Int) < (a : Int) := by omega
      have HR : Hid (r = 1) := by show _ = _; rw [HC.out, if_neg h1, if_pos h2]
      go_wp2_with fail
      go_ret
      exact ⟨by rw [HR.out]; rfl, rfl⟩
    · have g2 : ¬ (b : Int) < (a : Int) := by omega
      have HR : Hid (r = 0) := by show _ = _; rw [HC.out, if_neg h1, if_neg h2]
      go_wp2_with fail
      go_ret
      exact ⟨by rw [HR.out]; rfl, rfl⟩
def orF (a b : Int) : Int := if a ≠ 0 then a else b
set_option maxHeartbeats 1000000 in
theorem or_any {a b : Int} {g : Nat} {w : World} (h0 : w.cell? ⟨g, 0, none⟩ = some (.int .i64 a)) (h1 : w.cell? ⟨g, 1, none⟩ = some (.int .i64 b)) :
    Calls Tryz.prog 99 #[.slice (some ⟨g, 0, none⟩) 2 2] w fun e w' => e = .returned (.int .i64 (orF a b)) ∧ w' = w := by
  have hc : orF a b = if a ≠ 0 then a else b := rfl
  generalize orF a b = r at *
  have HC : Hid _ := hc
  clear hc
  go_enter Tryz.func99, Tryz.ntmps99
  go_wp2_with fail
  refine wp_loop_rounds 3 ?_
  rw [rounds_succ]
  by_cases ha : a = 0
  · subst ha
    have HR : Hid (r = b) := by show _ = _; rw [HC.out, if_neg (by simp)]
    go_wp2_with fail
    rw [rounds_succ]
    by_cases hb : b = 0
    · subst hb
      go_wp2_with fail
      rw [rounds_succ]
      go_wp2_with fail
      go_ret
      exact ⟨by rw [HR.out]; rfl, rfl⟩
    · have gb : (b != 0) = true := by simp [hb]
      go_wp2_with fail
      go_ret
      exact ⟨by rw [HR.out]; rfl, rfl⟩
  · have ga : (a != 0) = true := by simp [ha]
    have HR : Hid (r = a) := by show _ = _; rw [HC.out, if_pos ha]
    go_wp2_with fail
    go_ret
    exact ⟨by rw [HR.out]; rfl, rfl⟩
end Go.Proofs.YtefhinopppdjbaaGreat
