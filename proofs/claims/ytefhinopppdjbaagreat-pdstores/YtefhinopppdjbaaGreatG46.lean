/- The driver and its registered ones in a world. -/
import Derived.Test.YtefhinopppdjbaaGreatG45
namespace Go.Proofs.YtefhinopppdjbaaGreat
open Go.RowKit
set_option linter.unusedVariables false
set_option maxRecDepth 100000

/-- The driver and its registered ones in a world. -/
structure GW (B p : Nat) (d : DC) (w0 w : World) (H : List EN) : Prop where
  rg : Rg B p d w H
  hp : M.Hp elt H H.length
  bl : Below B w0 w
theorem GW.next {B p : Nat} {d d' : DC} {w0 w w' : World} {H H' : List EN} {x : Option Addr × Nat × Nat} (h : GW B p d w0 w H) (hd : d'.ev = d.ev) (hB : B ≤ w.heap.size) (hT : Tu B p d' w w' x H') : GW B p { d' with ev := x } w0 w' H' := by
  refine ⟨hT.rg, hT.hp, h.bl.trans (Chg.below hT.ch (fun b q => ?_) hB)⟩
  have q' : RgS p d b := by
    rcases q with q | q
    · exact .inl q
    · exact .inr (by rw [← hd]; exact q)
  exact (h.rg.tn q').1
theorem GW.al {B p : Nat} {d : DC} {w0 w : World} {H : List EN} (h : GW B p d w0 w H) (hB : B ≤ w.heap.size) (o : Obj) : GW B p d w0 (w.alloc o) H :=
  ⟨h.rg.below (h_al w o) (Nat.le_refl _), h.hp, h.bl.alloc hB o⟩
theorem GW.raise {B p : Nat} {d d' : DC} {w0 w w' : World} {H : List EN} (h : GW B p d w0 w H) (hB : B ≤ w.heap.size) (hr : Rg B p d' w' H) (hc : Chg (fun b => b = p) w w') : GW B p d' w0 w' H :=
  ⟨hr, h.hp, h.bl.trans (Chg.below hc (fun b q => by have q' : b = p := q; rw [q']; exact h.rg.lo) hB)⟩
end Go.Proofs.YtefhinopppdjbaaGreat
