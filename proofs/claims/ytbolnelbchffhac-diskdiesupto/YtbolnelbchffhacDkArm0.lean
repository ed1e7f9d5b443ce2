/- The gate of an armed disk, as the four calls that change it meet it. -/
import Derived.Test.YtbolnelbchffhacDkArmed
namespace Go.Proofs.Ytbolnelbchffhac
open Go.RowKit
set_option linter.unusedVariables false
set_option maxRecDepth 100000

section
variable {B d n : Nat} {own : Nat → Option Role} {st : Nm → Option (List UInt8 × Nat)} {sz : Nat} {may : Value} {left : Int} {w : World}

theorem Chg.dNo (S : Nat → Prop) (w : World) (q : Nat) : Chg S w (w.drewN q) := ⟨rfl, rfl, rfl, Nat.le_refl _, fun _ _ _ => rfl⟩

theorem gate_dies (h : Dk B d n own st sz may 0 w) (q : Nat) : Calls Try.prog 44 #[.pointer (some ⟨d, 0, none⟩), .int .i64 1, .int .i64 0] (w.drewN q) fun e w' => e = .returned (.int .i64 21) ∧ Dk B d n own st sz (dead d) 0 w' ∧ Chg (fun b => own b ≠ none) w w' := by
  refine (armed_dies (h.drN q)).mono ?_
  rintro e w' ⟨rfl, rfl⟩
  exact ⟨rfl, (h.drN q).setMay _, (Chg.dNo _ w q).trans (((h.drN q).chgD 2 _).mono (fun b _ q => Or.inl q))⟩

/-- The disk behind the gate. -/
theorem gate_ok {L : Nat} (h : Dk B d n own st sz may ((L + 1 : Nat) : Int) w) (hL : L ≤ 9223372036854775806) :
    ∃ W, Dk B d n own st sz may (L : Int) W ∧ Chg (fun b => own b ≠ none) w W ∧ W.heap.size = w.heap.size ∧ ∀ q, Calls Try.prog 44 #[.pointer (some ⟨d, 0, none⟩), .int .i64 1, .int .i64 0] (w.drewN q) fun e w' => e = .returned (.int .i64 0) ∧ ∃ k, w' = W.drewN k := by
  refine ⟨w.setCell ⟨d, 3, none⟩ (.int .i64 (L : Int)), h.setLeft _, h.chgD 3 _, by simp, fun q => ?_⟩
  refine (armed_ok (h.drN q) hL).mono ?_
  rintro e w' ⟨rfl, rfl⟩
  exact ⟨rfl, q, rfl⟩
end
end Go.Proofs.Ytbolnelbchffhac
