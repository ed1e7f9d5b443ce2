/- A configuration in memory. -/
import Derived.Test.YtefhinopppdjbaaGreatG10
import Derived.Test.YtefhinopppdjbaaGreatG1
namespace Go.Proofs.YtefhinopppdjbaaGreat
open Go.RowKit
set_option linter.unusedVariables false
set_option maxRecDepth 100000

/-- A configuration: voters, those of before, learners. -/
abbrev Cn := List UInt64 × List UInt64 × List UInt64
/-- Three values that read as a configuration. -/
def Rc (w : World) (x y z : Value) (c : Cn) : Prop := Ru w x c.1 ∧ Ru w y c.2.1 ∧ Ru w z c.2.2
theorem Rc.below {B : Nat} {w w' : World} {x y z : Value} {c : Cn} (h : Rc w x y z c) (hb : Below B w w') (hB : w.heap.size ≤ B) : Rc w' x y z c := ⟨h.1.below hb hB, h.2.1.below hb hB, h.2.2.below hb hB⟩
theorem Rc.nil (w : World) : Rc w (.slice none 0 0) (.slice none 0 0) (.slice none 0 0) ([], [], []) := ⟨Ru.nil _, Ru.nil _, Ru.nil _⟩

/-- Three cells of a new block. -/
theorem box3 {w : World} {x y z : Value} {t : TypeId} {b : Nat} {W : World} (hb : Below (b + 1) (w.alloc (.cells #[x, y, z] t)) W) (e : b = w.heap.size) : W.cell? ⟨b, 0, none⟩ = some x ∧ W.cell? ⟨b, 1, none⟩ = some y ∧ W.cell? ⟨b, 2, none⟩ = some z := by
  subst e
  have hc : ∀ j u, #[x, y, z][j]? = some u → W.cell? ⟨w.heap.size, j, none⟩ = some u := fun j u e => by
    rw [hb.cell (by simp), World.cell?_alloc_at _ _ _ _ rfl]; exact e
  exact ⟨hc 0 x rfl, hc 1 y rfl, hc 2 z rfl⟩
theorem u_al (w : World) (o : Obj) : Below w.heap.size w (w.alloc o) := (Below.refl _ _).alloc (Nat.le_refl _) o

theorem u_drew (w : World) : Below w.heap.size w w.drew := Below.dN w 1
end Go.Proofs.YtefhinopppdjbaaGreat
