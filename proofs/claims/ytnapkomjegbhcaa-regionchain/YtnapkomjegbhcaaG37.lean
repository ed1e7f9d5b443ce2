/- Two regions in two blocks, wherever they came to lie. -/
import Derived.Test.YtnapkomjegbhcaaG36
namespace Go.Proofs.Ytnapkomjegbhcaa
open Go.RowKit
set_option linter.unusedVariables false
set_option maxRecDepth 100000

/-- Two blocks hold the region's copies. -/
structure Sp6 (W1 : World) (id cf vr : Int) (s e : List UInt8) (ps : List Pe) (id' cf' vr' : Int) (s' e' : List UInt8) (ps' : List Pe) (gl gh : Nat) (u v x u' v' x' : Value) (wx : World) : Prop where
  bl : wx.heap[gl]? = some (rgC id cf vr u v x)
  bh : wx.heap[gh]? = some (rgC id' cf' vr' u' v' x')
  o1 : OwR W1.heap.size wx u v x s e ps
  o2 : OwR W1.heap.size wx u' v' x' s' e' ps'
  ne : gl ≠ gh
  n1 : ∀ b, Bl u v x b → b ≠ gl ∧ b ≠ gh ∧ True
  n2 : ∀ b, Bl u' v' x' b → b ≠ gl ∧ b ≠ gh
  g1 : W1.heap.size ≤ gl
  g2 : W1.heap.size ≤ gh
  be : Below W1.heap.size W1 wx
section
variable {W1 w4 : World} {id cf vr id' cf' vr' : Int} {s e s' e' : List UInt8} {ps ps' : List Pe} {gl gh B B' : Nat} {u v x u' v' x' : Value}
theorem Sp6.mk' {E : World} (hc : Chg (fun b => b = gl ∨ b = gh) w4 E) (e1 : E.heap[gl]? = some (rgC id cf vr u v x)) (e2 : E.heap[gh]? = some (rgC id' cf' vr' u' v' x')) (o1 : OwR B w4 u v x s e ps) (o2 : OwR B' w4 u' v' x' s' e' ps') (hB : W1.heap.size ≤ B) (hB' : W1.heap.size ≤ B') (ne : gl ≠ gh) (n1 : ∀ b, Bl u v x b → b ≠ gl ∧ b ≠ gh ∧ True) (n2 : ∀ b, Bl u' v' x' b → b ≠ gl ∧ b ≠ gh) (g1 : W1.heap.size ≤ gl) (g2 : W1.heap.size ≤ gh) (hb : Below W1.heap.size W1 w4) : Sp6 W1 id cf vr s e ps id' cf' vr' s' e' ps' gl gh u v x u' v' x' E :=
  ⟨e1, e2, (o1.keptB hc (fun b q => by have := n1 b q; rintro (r | r); exact this.1 r; exact this.2.1 r)).mono hB, (o2.keptB hc (fun b q => by have := n2 b q; rintro (r | r); exact this.1 r; exact this.2 r)).mono hB', ne, n1, n2, g1, g2, hb.trans (hc.below (fun b q => by rcases q with rfl | rfl; exact g1; exact g2) hb.size)⟩
theorem twx_c {X : World} : Chg (fun b => b = gl ∨ b = gh) X (set6 (set6 X gl id cf vr u v x) gh id' cf' vr' u' v' x') :=
  ((set6_c X gl id cf vr u v x).mono (fun b _ q => Or.inl q)).trans ((set6_c _ gh id' cf' vr' u' v' x').mono (fun b _ q => Or.inl (Or.inr q)))
theorem twx_l {X : World} (z1 : X.heap[gl]? = some zeroC) (ne : gl ≠ gh) : (set6 (set6 X gl id cf vr u v x) gh id' cf' vr' u' v' x').heap[gl]? = some (rgC id cf vr u v x) := by
  rw [(set6_c (set6 X gl id cf vr u v x) gh id' cf' vr' u' v' x').block gl (by have := lt_of_some z1; have := (set6_c X gl id cf vr u v x).size; omega) ne]
  exact set6_b z1 _ _ _ _ _ _
theorem twx_h {X : World} (z2 : X.heap[gh]? = some zeroC) (ne : gl ≠ gh) : (set6 (set6 X gl id cf vr u v x) gh id' cf' vr' u' v' x').heap[gh]? = some (rgC id' cf' vr' u' v' x') :=
  set6_b (by rw [(set6_c X gl id cf vr u v x).block gh (lt_of_some z2) (fun q => ne q.symm)]; exact z2) _ _ _ _ _ _
theorem Sp6.fA (z1 : w4.heap[gl]? = some zeroC) (z2 : w4.heap[gh]? = some zeroC) (o1 : OwR B w4 u v x s e ps) (o2 : OwR B' w4 u' v' x' s' e' ps') (hB : W1.heap.size ≤ B) (hB' : W1.heap.size ≤ B') (ne : gl ≠ gh) (n1 : ∀ b, Bl u v x b → b ≠ gl ∧ b ≠ gh ∧ True) (n2 : ∀ b, Bl u' v' x' b → b ≠ gl ∧ b ≠ gh) (g1 : W1.heap.size ≤ gl) (g2 : W1.heap.size ≤ gh) (hb : Below W1.heap.size W1 w4) : Sp6 W1 id cf vr s e ps id' cf' vr' s' e' ps' gl gh u v x u' v' x' (set6 (set6 w4 gl id cf vr u v x) gh id' cf' vr' u' v' x') :=
  Sp6.mk' twx_c (twx_l z1 ne) (twx_h z2 ne) o1 o2 hB hB' ne n1 n2 g1 g2 hb
theorem Sp6.fB (z1 : w4.heap[gl]? = some zeroC) (o1 : OwR B w4 u v x s e ps) (o2 : OwR B' w4 u' v' x' s' e' ps') (hB : W1.heap.size ≤ B) (hB' : W1.heap.size ≤ B') (n1 : ∀ b, Bl u v x b → b ≠ gl ∧ True) (n2 : ∀ b, Bl u' v' x' b → b ≠ gl) (g1 : W1.heap.size ≤ gl) (hb : Below W1.heap.size W1 w4) : Sp6 W1 id cf vr s e ps id' cf' vr' s' e' ps' gl w4.heap.size u v x u' v' x' (set6 (set6 (w4.alloc zeroC) gl id cf vr u v x) w4.heap.size id' cf' vr' u' v' x') := by
  have hl := lt_of_some z1
  have ne : gl ≠ w4.heap.size := by omega
  have zz : (w4.alloc zeroC).heap[gl]? = some zeroC := (Below.heap_alloc _ _ _ hl).trans z1
  have zn : (w4.alloc zeroC).heap[w4.heap.size]? = some zeroC := heap_alloc_new w4 _
  refine Sp6.mk' (((Chg.refl (fun b => b = gl ∨ b = w4.heap.size) w4).alloc zeroC).trans (twx_c.mono (fun b _ q => .inl q))) (twx_l zz ne) (twx_h zn ne) o1 o2 hB hB' ne (fun b q => ⟨(n1 b q).1, ?_, (n1 b q).2⟩) (fun b q => ⟨n2 b q, ?_⟩) g1 hb.size hb
  · have := (o1.lt q).2; omega
  · have := (o2.lt q).2; omega
theorem Sp6.fC (z2 : w4.heap[gh]? = some zeroC) (o1 : OwR B w4 u v x s e ps) (o2 : OwR B' w4 u' v' x' s' e' ps') (hB : W1.heap.size ≤ B) (hB' : W1.heap.size ≤ B') (n1 : ∀ b, Bl u v x b → b ≠ gh ∧ True) (n2 : ∀ b, Bl u' v' x' b → b ≠ gh) (g2 : W1.heap.size ≤ gh) (hb : Below W1.heap.size W1 w4) : Sp6 W1 id cf vr s e ps id' cf' vr' s' e' ps' w4.heap.size gh u v x u' v' x' (set6 (w4.alloc (rgC id cf vr u v x)) gh id' cf' vr' u' v' x') := by
  have hl := lt_of_some z2
  have ne : w4.heap.size ≠ gh := by omega
  have zz : (w4.alloc (rgC id cf vr u v x)).heap[gh]? = some zeroC := (Below.heap_alloc _ _ _ hl).trans z2
  have zn : (w4.alloc (rgC id cf vr u v x)).heap[w4.heap.size]? = some (rgC id cf vr u v x) := heap_alloc_new w4 _
  have ch := set6_c (w4.alloc (rgC id cf vr u v x)) gh id' cf' vr' u' v' x'
  refine Sp6.mk' (((Chg.refl (fun b => b = w4.heap.size ∨ b = gh) w4).alloc _).trans (ch.mono (fun b _ q => .inl (.inr q)))) ((ch.block _ (lt_of_some zn) ne).trans zn) (set6_b zz _ _ _ _ _ _) o1 o2 hB hB' ne (fun b q => ⟨?_, (n1 b q).1, (n1 b q).2⟩) (fun b q => ⟨?_, n2 b q⟩) hb.size g2 hb
  · have := (o1.lt q).2; omega
  · have := (o2.lt q).2; omega
theorem Sp6.fD (o1 : OwR B w4 u v x s e ps) (o2 : OwR B' w4 u' v' x' s' e' ps') (hB : W1.heap.size ≤ B) (hB' : W1.heap.size ≤ B') (hb : Below W1.heap.size W1 w4) : Sp6 W1 id cf vr s e ps id' cf' vr' s' e' ps' w4.heap.size (w4.heap.size + 1) u v x u' v' x' ((w4.alloc (rgC id cf vr u v x)).alloc (rgC id' cf' vr' u' v' x')) := by
  have zn : (w4.alloc (rgC id cf vr u v x)).heap[w4.heap.size]? = some (rgC id cf vr u v x) := heap_alloc_new w4 _
  have zm := heap_alloc_new (w4.alloc (rgC id cf vr u v x)) (rgC id' cf' vr' u' v' x')
  rw [World.size_alloc] at zm
  have hs := hb.size
  refine Sp6.mk' (((Chg.refl _ w4).alloc _).alloc _) ((Below.heap_alloc _ _ _ (lt_of_some zn)).trans zn) zm o1 o2 hB hB' (by omega) (fun b q => ⟨?_, ?_, trivial⟩) (fun b q => ⟨?_, ?_⟩) hb.size (by omega) hb
  · have := (o1.lt q).2; omega
  · have := (o1.lt q).2; omega
  · have := (o2.lt q).2; omega
  · have := (o2.lt q).2; omega
theorem Sp6.fE (o1 : OwR B w4 u v x s e ps) (o2 : OwR B' w4 u' v' x' s' e' ps') (hB : W1.heap.size ≤ B) (hB' : W1.heap.size ≤ B') (hb : Below W1.heap.size W1 w4) : Sp6 W1 id cf vr s e ps id' cf' vr' s' e' ps' (w4.heap.size + 1) w4.heap.size u v x u' v' x' ((w4.alloc (rgC id' cf' vr' u' v' x')).alloc (rgC id cf vr u v x)) := by
  have zn : (w4.alloc (rgC id' cf' vr' u' v' x')).heap[w4.heap.size]? = some (rgC id' cf' vr' u' v' x') := heap_alloc_new w4 _
  have zm := heap_alloc_new (w4.alloc (rgC id' cf' vr' u' v' x')) (rgC id cf vr u v x)
  rw [World.size_alloc] at zm
  have hs := hb.size
  refine Sp6.mk' (((Chg.refl _ w4).alloc _).alloc _) zm ((Below.heap_alloc _ _ _ (lt_of_some zn)).trans zn) o1 o2 hB hB' (by omega) (fun b q => ⟨?_, ?_, trivial⟩) (fun b q => ⟨?_, ?_⟩) (by omega) hb.size hb
  · have := (o1.lt q).2; omega
  · have := (o1.lt q).2; omega
  · have := (o2.lt q).2; omega
  · have := (o2.lt q).2; omega
end
end Go.Proofs.Ytnapkomjegbhcaa
