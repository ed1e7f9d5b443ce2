/- The program's graph and the document's, side by side. -/
import Derived.Test.YtipnghaphfgalaaG49
import Derived.Test.YtipnghaphfgalaaG45
import Derived.Test.YtipnghaphfgalaaG8
import Derived.Test.YtipnghaphfgalaaG16
import Derived.Test.YtipnghaphfgalaaG40
import Derived.Test.YtipnghaphfgalaaG41
namespace Go.Proofs.Ytipnghaphfgalaa
open Go.RowKit
set_option linter.unusedVariables false
set_option maxRecDepth 100000

theorem box3P {W : World} {u0 u1 u2 : Value} {t : TypeId} {g : Nat} (h : W.heap[g]? = some (.cells #[u0, u1, u2] t (0, 0))) : W.cell? ⟨g, 0, none⟩ = some u0 ∧ W.cell? ⟨g, 1, none⟩ = some u1 ∧ W.cell? ⟨g, 2, none⟩ = some u2 :=
  ⟨by rw [cell_of_row _ _ _ _ _ _ h]; rfl, by rw [cell_of_row _ _ _ _ _ _ h]; rfl, by rw [cell_of_row _ _ _ _ _ _ h]; rfl⟩
structure PR (B x y : Nat) (v u : Value) (E : List Ed) (w : World) : Prop where
  g : Gr B x v E w
  r : RGr B y u E w
  xy : x ≠ y
  vy : v.ownBlock ≠ some y
  ux : u.ownBlock ≠ some x
  vu : ∀ b, v.ownBlock = some b → u.ownBlock ≠ some b
section
variable {B x y : Nat} {v u : Value} {E : List Ed} {w w' : World}
theorem PR.keptC {S : Nat → Prop} (h : PR B x y v u E w) (hc : Chg S w w') (h1 : ¬ S x) (h2 : ¬ S y) (h3 : ∀ b, v.ownBlock = some b → ¬ S b) (h4 : ∀ b, u.ownBlock = some b → ¬ S b) : PR B x y v u E w' :=
  ⟨h.g.keptC hc h1 h3, h.r.keptC hc h2 h4, h.xy, h.vy, h.ux, h.vu⟩
theorem PR.below {C : Nat} (h : PR B x y v u E w) (hb : Below C w w') (hC : w.heap.size ≤ C) : PR B x y v u E w' :=
  ⟨h.g.below hb hC, h.r.below hb hC, h.xy, h.vy, h.ux, h.vu⟩
/-- Behind a call of the program's graph: the document's graph is what it was. -/
theorem PR.left (h : PR B x y v u E w) (hc : Chg (GS x v) w w') : RGr B y u E w' :=
  h.r.keptC hc (fun q => by rcases q with q | q; exact h.xy q.symm; exact h.vy q) (fun b e q => by
    rcases q with q | q
    · exact h.ux (by rw [e, q])
    · exact h.vu b q e)
/-- Then a call of the document's: both again. -/
theorem PR.both (h : PR B x y v u E w) {v' u' : Value} {E' : List Ed} {w1 w2 : World} (hg : Gr B x v' E' w1) (hc1 : Chg (GS x v) w w1) (hv : v'.ownBlock = v.ownBlock ∨ ∃ b, v'.ownBlock = some b ∧ w.heap.size ≤ b)
    (hr : RGr B y u' E' w2) (hc2 : Chg (fun b => b = y) w1 w2) (hu : u' = u ∨ ∀ g, u'.ownBlock = some g → w1.heap.size ≤ g) : PR B x y v' u' E' w2 ∧ Below B w w2 := by
  have hyl := h.r.xlt
  have hxl := h.g.xlt
  have hs1 := hc1.size
  have hvy : v'.ownBlock ≠ some y := fun e => by
    rcases hv with q | ⟨b, q, hb⟩
    · exact h.vy (by rw [← q]; exact e)
    · rw [q] at e; have := Option.some.inj e; omega
  have hvl := fun g e => (hg.row.lt g e).2
  refine ⟨⟨hg.keptC hc2 (fun q => h.xy q) (fun b e q => hvy (by rw [e, q])), hr, h.xy, hvy, fun e => ?_, fun b e1 e2 => ?_⟩, ?_⟩
  · rcases hu with q | q
    · exact h.ux (by rw [← q]; exact e)
    · have := q _ e; omega
  · rcases hu with q | q
    · rw [q] at e2
      rcases hv with z | ⟨b', z, hb⟩
      · exact h.vu b (by rw [← z]; exact e1) e2
      · rw [z] at e1
        have e3 := Option.some.inj e1
        have := (h.r.row.lt b e2).2
        omega
    · have := q _ e2; have := hvl b e1; omega
  · have k1 := h.g.bel hc1
    refine k1.trans ?_
    refine ⟨hc2.os, hc2.tape, hc2.output, hc2.size, fun b hb => ?_⟩
    have hlo := h.r.lo
    exact hc2.block b (by omega) (fun q => by omega)
end
theorem stop_same {E : List Ed} (hr : W.Ris E) (a b : UInt64) : W.is E (a, b) = decide ((stE E a b).length < E.length) := by
  cases hq : W.is E (a, b) with
  | true =>
    have hm := (W.is_iff hr _).1 hq
    refine (decide_eq_true ?_).symm
    unfold stE
    rcases Nat.lt_or_ge (E.filter (fun e => !(e == (a, b)))).length E.length with q | q
    · exact q
    · have hall := List.length_filter_eq_length_iff.1 (Nat.le_antisymm (List.length_filter_le _ _) q)
      have := hall (a, b) hm
      simp at this
  | false =>
    have hm := (W.is_false hr _).1 hq
    refine (decide_eq_false ?_).symm
    unfold stE
    rw [List.filter_eq_self.2 (fun e he => by simp; intro e1; exact hm (by rw [← e1]; exact he))]
    omega
end Go.Proofs.Ytipnghaphfgalaa
