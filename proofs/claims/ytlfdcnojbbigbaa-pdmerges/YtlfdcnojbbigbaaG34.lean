/- Split's two copies, wherever they came to lie. -/
import Derived.Test.YtlfdcnojbbigbaaG28
namespace Go.Proofs.Ytlfdcnojbbigbaa
open Go.RowKit
set_option linter.unusedVariables false
set_option maxRecDepth 100000

/-- A block of one of three lists. -/
def Bl (u v x : Value) (b : Nat) : Prop := u.ownBlock = some b ∨ v.ownBlock = some b ∨ x.ownBlock = some b
theorem OwR.lt {B : Nat} {w : World} {u v x : Value} {s e : List UInt8} {ps : List Pe} (h : OwR B w u v x s e ps) {b : Nat} (hb : Bl u v x b) : B ≤ b ∧ b < w.heap.size := by
  rcases hb with q | q | q
  · exact h.s.lt0 b q
  · exact h.e.lt0 b q
  · exact h.p.lt b q
theorem OwR.keptB {S : Nat → Prop} {B : Nat} {w w' : World} {sv ev pv : Value} {s e : List UInt8} {ps : List Pe} (h : OwR B w sv ev pv s e ps) (hg : Chg S w w') (hne : ∀ b, Bl sv ev pv b → ¬ S b) : OwR B w' sv ev pv s e ps :=
  ⟨h.s.keptC hg (fun b q => hne b (.inl q)), h.e.keptC hg (fun b q => hne b (.inr (.inl q))), h.p.keptC hg (fun b q => hne b (.inr (.inr q))), h.se, h.sp, h.ep⟩
def zeroC : Obj := .cells #[.int .u64 0, .slice none 0 0, .slice none 0 0, .int .u64 0, .int .u64 0, .slice none 0 0] 34 (0, 0)
def rgC (id cf vr : Int) (u v x : Value) : Obj := .cells #[.int .u64 id, u, v, .int .u64 cf, .int .u64 vr, x] 34 (0, 0)
/-- Two blocks hold the region's copies. -/
structure Sp5 (W1 : World) (id cf vr : Int) (s e : List UInt8) (ps : List Pe) (gl gh : Nat) (u v x u' v' x' : Value) (wx : World) : Prop where
  bl : wx.heap[gl]? = some (rgC id cf vr u v x)
  bh : wx.heap[gh]? = some (rgC id cf vr u' v' x')
  o1 : OwR W1.heap.size wx u v x s e ps
  o2 : OwR W1.heap.size wx u' v' x' s e ps
  ne : gl ≠ gh
  n1 : ∀ b, Bl u v x b → b ≠ gl ∧ b ≠ gh ∧ ¬ Bl u' v' x' b
  n2 : ∀ b, Bl u' v' x' b → b ≠ gl ∧ b ≠ gh
  g1 : W1.heap.size ≤ gl
  g2 : W1.heap.size ≤ gh
  be : Below W1.heap.size W1 wx
section
variable {W1 w4 : World} {id cf vr : Int} {s e : List UInt8} {ps : List Pe} {gl gh B B' : Nat} {u v x u' v' x' : Value}
theorem Sp5.mk' {E : World} (hc : Chg (fun b => b = gl ∨ b = gh) w4 E) (e1 : E.heap[gl]? = some (rgC id cf vr u v x)) (e2 : E.heap[gh]? = some (rgC id cf vr u' v' x')) (o1 : OwR B w4 u v x s e ps) (o2 : OwR B' w4 u' v' x' s e ps) (hB : W1.heap.size ≤ B) (hB' : W1.heap.size ≤ B') (ne : gl ≠ gh) (n1 : ∀ b, Bl u v x b → b ≠ gl ∧ b ≠ gh ∧ ¬ Bl u' v' x' b) (n2 : ∀ b, Bl u' v' x' b → b ≠ gl ∧ b ≠ gh) (g1 : W1.heap.size ≤ gl) (g2 : W1.heap.size ≤ gh) (hb : Below W1.heap.size W1 w4) : Sp5 W1 id cf vr s e ps gl gh u v x u' v' x' E :=
  ⟨e1, e2, (o1.keptB hc (fun b q => by have := n1 b q; rintro (r | r); exact this.1 r; exact this.2.1 r)).mono hB, (o2.keptB hc (fun b q => by have := n2 b q; rintro (r | r); exact this.1 r; exact this.2 r)).mono hB', ne, n1, n2, g1, g2, hb.trans (hc.below (fun b q => by rcases q with rfl | rfl; exact g1; exact g2) hb.size)⟩
/-- The six cells of a block written. -/
def set6 (w : World) (g : Nat) (id cf vr : Int) (u v x : Value) : World := (((((w.setCell ⟨g, 0, none⟩ (.int .u64 id)).setCell ⟨g, 1, none⟩ u).setCell ⟨g, 2, none⟩ v).setCell ⟨g, 3, none⟩ (.int .u64 cf)).setCell ⟨g, 4, none⟩ (.int .u64 vr)).setCell ⟨g, 5, none⟩ x
theorem set6_b {w : World} {g : Nat} (h : w.heap[g]? = some zeroC) (id cf vr : Int) (u v x : Value) : (set6 w g id cf vr u v x).heap[g]? = some (rgC id cf vr u v x) := set6_block h _ _ _ _ _ _
theorem set6_c (w : World) (g : Nat) (id cf vr : Int) (u v x : Value) : Chg (fun b => b = g) w (set6 w g id cf vr u v x) := set6_chg w g _ _ _ _ _ _
theorem lt_of_some {w : World} {g : Nat} {o : Obj} (h : w.heap[g]? = some o) : g < w.heap.size := (Array.getElem?_eq_some_iff.1 h).1
theorem two_c {X : World} : Chg (fun b => b = gl ∨ b = gh) X (set6 (set6 X gl id cf vr u v x) gh id cf vr u' v' x') :=
  ((set6_c X gl id cf vr u v x).mono (fun b _ q => Or.inl q)).trans ((set6_c _ gh id cf vr u' v' x').mono (fun b _ q => Or.inl (Or.inr q)))
theorem two_l {X : World} (z1 : X.heap[gl]? = some zeroC) (ne : gl ≠ gh) : (set6 (set6 X gl id cf vr u v x) gh id cf vr u' v' x').heap[gl]? = some (rgC id cf vr u v x) := by
  rw [(set6_c (set6 X gl id cf vr u v x) gh id cf vr u' v' x').block gl (by have := lt_of_some z1; have := (set6_c X gl id cf vr u v x).size; omega) ne]
  exact set6_b z1 _ _ _ _ _ _
theorem two_h {X : World} (z2 : X.heap[gh]? = some zeroC) (ne : gl ≠ gh) : (set6 (set6 X gl id cf vr u v x) gh id cf vr u' v' x').heap[gh]? = some (rgC id cf vr u' v' x') :=
  set6_b (by rw [(set6_c X gl id cf vr u v x).block gh (lt_of_some z2) (fun q => ne q.symm)]; exact z2) _ _ _ _ _ _
theorem Sp5.fA (z1 : w4.heap[gl]? = some zeroC) (z2 : w4.heap[gh]? = some zeroC) (o1 : OwR B w4 u v x s e ps) (o2 : OwR B' w4 u' v' x' s e ps) (hB : W1.heap.size ≤ B) (hB' : W1.heap.size ≤ B') (ne : gl ≠ gh) (n1 : ∀ b, Bl u v x b → b ≠ gl ∧ b ≠ gh ∧ ¬ Bl u' v' x' b) (n2 : ∀ b, Bl u' v' x' b → b ≠ gl ∧ b ≠ gh) (g1 : W1.heap.size ≤ gl) (g2 : W1.heap.size ≤ gh) (hb : Below W1.heap.size W1 w4) : Sp5 W1 id cf vr s e ps gl gh u v x u' v' x' (set6 (set6 w4 gl id cf vr u v x) gh id cf vr u' v' x') :=
  Sp5.mk' two_c (two_l z1 ne) (two_h z2 ne) o1 o2 hB hB' ne n1 n2 g1 g2 hb
theorem Sp5.fB (z1 : w4.heap[gl]? = some zeroC) (o1 : OwR B w4 u v x s e ps) (o2 : OwR B' w4 u' v' x' s e ps) (hB : W1.heap.size ≤ B) (hB' : W1.heap.size ≤ B') (n1 : ∀ b, Bl u v x b → b ≠ gl ∧ ¬ Bl u' v' x' b) (n2 : ∀ b, Bl u' v' x' b → b ≠ gl) (g1 : W1.heap.size ≤ gl) (hb : Below W1.heap.size W1 w4) : Sp5 W1 id cf vr s e ps gl w4.heap.size u v x u' v' x' (set6 (set6 (w4.alloc zeroC) gl id cf vr u v x) w4.heap.size id cf vr u' v' x') := by
  have hl := lt_of_some z1
  have ne : gl ≠ w4.heap.size := by omega
  have zz : (w4.alloc zeroC).heap[gl]? = some zeroC := (Below.heap_alloc _ _ _ hl).trans z1
  have zn : (w4.alloc zeroC).heap[w4.heap.size]? = some zeroC := heap_alloc_new w4 _
  refine Sp5.mk' (((Chg.refl (fun b => b = gl ∨ b = w4.heap.size) w4).alloc zeroC).trans (two_c.mono (fun b _ q => .inl q))) (two_l zz ne) (two_h zn ne) o1 o2 hB hB' ne (fun b q => ⟨(n1 b q).1, ?_, (n1 b q).2⟩) (fun b q => ⟨n2 b q, ?_⟩) g1 hb.size hb
  · have := (o1.lt q).2; omega
  · have := (o2.lt q).2; omega
theorem Sp5.fC (z2 : w4.heap[gh]? = some zeroC) (o1 : OwR B w4 u v x s e ps) (o2 : OwR B' w4 u' v' x' s e ps) (hB : W1.heap.size ≤ B) (hB' : W1.heap.size ≤ B') (n1 : ∀ b, Bl u v x b → b ≠ gh ∧ ¬ Bl u' v' x' b) (n2 : ∀ b, Bl u' v' x' b → b ≠ gh) (g2 : W1.heap.size ≤ gh) (hb : Below W1.heap.size W1 w4) : Sp5 W1 id cf vr s e ps w4.heap.size gh u v x u' v' x' (set6 (w4.alloc (rgC id cf vr u v x)) gh id cf vr u' v' x') := by
  have hl := lt_of_some z2
  have ne : w4.heap.size ≠ gh := by omega
  have zz : (w4.alloc (rgC id cf vr u v x)).heap[gh]? = some zeroC := (Below.heap_alloc _ _ _ hl).trans z2
  have zn : (w4.alloc (rgC id cf vr u v x)).heap[w4.heap.size]? = some (rgC id cf vr u v x) := heap_alloc_new w4 _
  have ch := set6_c (w4.alloc (rgC id cf vr u v x)) gh id cf vr u' v' x'
  refine Sp5.mk' (((Chg.refl (fun b => b = w4.heap.size ∨ b = gh) w4).alloc _).trans (ch.mono (fun b _ q => .inl (.inr q)))) ((ch.block _ (lt_of_some zn) ne).trans zn) (set6_b zz _ _ _ _ _ _) o1 o2 hB hB' ne (fun b q => ⟨?_, (n1 b q).1, (n1 b q).2⟩) (fun b q => ⟨?_, n2 b q⟩) hb.size g2 hb
  · have := (o1.lt q).2; omega
  · have := (o2.lt q).2; omega
theorem Sp5.fD (o1 : OwR B w4 u v x s e ps) (o2 : OwR B' w4 u' v' x' s e ps) (hB : W1.heap.size ≤ B) (hB' : W1.heap.size ≤ B') (n1 : ∀ b, Bl u v x b → ¬ Bl u' v' x' b) (hb : Below W1.heap.size W1 w4) : Sp5 W1 id cf vr s e ps w4.heap.size (w4.heap.size + 1) u v x u' v' x' ((w4.alloc (rgC id cf vr u v x)).alloc (rgC id cf vr u' v' x')) := by
  have zn : (w4.alloc (rgC id cf vr u v x)).heap[w4.heap.size]? = some (rgC id cf vr u v x) := heap_alloc_new w4 _
  have zm := heap_alloc_new (w4.alloc (rgC id cf vr u v x)) (rgC id cf vr u' v' x')
  rw [World.size_alloc] at zm
  have hs := hb.size
  refine Sp5.mk' (((Chg.refl _ w4).alloc _).alloc _) ((Below.heap_alloc _ _ _ (lt_of_some zn)).trans zn) zm o1 o2 hB hB' (by omega) (fun b q => ⟨?_, ?_, n1 b q⟩) (fun b q => ⟨?_, ?_⟩) hb.size (by omega) hb
  · have := (o1.lt q).2; omega
  · have := (o1.lt q).2; omega
  · have := (o2.lt q).2; omega
  · have := (o2.lt q).2; omega
theorem Sp5.fE (o1 : OwR B w4 u v x s e ps) (o2 : OwR B' w4 u' v' x' s e ps) (hB : W1.heap.size ≤ B) (hB' : W1.heap.size ≤ B') (n1 : ∀ b, Bl u v x b → ¬ Bl u' v' x' b) (hb : Below W1.heap.size W1 w4) : Sp5 W1 id cf vr s e ps (w4.heap.size + 1) w4.heap.size u v x u' v' x' ((w4.alloc (rgC id cf vr u' v' x')).alloc (rgC id cf vr u v x)) := by
  have zn : (w4.alloc (rgC id cf vr u' v' x')).heap[w4.heap.size]? = some (rgC id cf vr u' v' x') := heap_alloc_new w4 _
  have zm := heap_alloc_new (w4.alloc (rgC id cf vr u' v' x')) (rgC id cf vr u v x)
  rw [World.size_alloc] at zm
  have hs := hb.size
  refine Sp5.mk' (((Chg.refl _ w4).alloc _).alloc _) zm ((Below.heap_alloc _ _ _ (lt_of_some zn)).trans zn) o1 o2 hB hB' (by omega) (fun b q => ⟨?_, ?_, n1 b q⟩) (fun b q => ⟨?_, ?_⟩) (by omega) hb.size hb
  · have := (o1.lt q).2; omega
  · have := (o1.lt q).2; omega
  · have := (o2.lt q).2; omega
  · have := (o2.lt q).2; omega
end
end Go.Proofs.Ytlfdcnojbbigbaa
