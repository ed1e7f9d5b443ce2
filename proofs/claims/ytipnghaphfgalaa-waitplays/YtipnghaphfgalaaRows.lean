/-
  No cell of these rows narrows 'for every input' (looked for: loops, veiled, ifaces, maps, wideKeys, modest, calm, conditions, laid).
  DERIVED. THE GIVEN ROWS OF THIS SEAT. 4 by the template 'for every input the law returns true; each argument reads behind the call as it read before'; 0 by the template 'total and deterministic' (their statements: YtipnghaphfgalaaTotals.lean).
  GIVEN WITH THE SEED: the statements are not yours to turn. If you find one false, say at which input.
  Laid BY PROGRAM, IN A SANDBOX (cutbox-rows.mjs): the forced cells as the released guide's own fill.sh prints them over the translation 86b891cbd1292dcd… (all of the seat's roots in one cut). By AI agents, Wed Nov 11 2026. No macro, syntax, notation, axiom, sorry.
-/
import Derived.Test.YtipnghaphfgalaaChecked
import GoSem.Claim
import GoSem.ClaimJoined
import GoSem.ClaimMapViews
import Derived.JoinedTies
import Derived.KernelRfl
namespace Go.Proofs.Ytipnghaphfgalaa
/- THE CELL 'sum', in the pinned program and in every row, IS THE sha256 OF THE DUMP (.gsa) THAT YtipnghaphfgalaaProg.lean LOADS. Nothing in Lean hashes anything: it is a label: what it is worth is what the hold of that sum in a sandbox is worth. -/
noncomputable def Try.pinned : Pinned := { name := "ytipnghaphfgalaa", sum := "86b891cbd1292dcdc252ae035bf4308f85f27ee6ad1fedb8e1d54940935b11f6", checked := Try.checked }
namespace Rows
def none {H : Type} : Left H := { results := [], args := [] }

/-- 'regattalaw12.WaitEnds': WHATEVER THE INPUT: true; the input reads as it did. -/
def waitEndsSpec : ChangeSpec := { name := "waitEnds", fn := fun _ => fun
  | [d1, d2] => { results := [.lit (.bool true)], args := [d1, d2] }
  | _ => none }
def waitEndsRow : OpenClaim := { program := "ytipnghaphfgalaa", sum := "86b891cbd1292dcdc252ae035bf4308f85f27ee6ad1fedb8e1d54940935b11f6", func := "regatta/regattalaw12.WaitEnds", spec := "waitEnds", inPlace := ["slices.overlaps[[2]uint64]"], unfollowed := true, recurses := true, apart := false }
def WaitEndsSaid : Prop := waitEndsRow.holds Try.pinned (OpenSpec.ofChange waitEndsSpec)

/-- ITS FALSE NEIGHBOUR: 'it returns false'. Refute it at one input. -/
def waitEndsWrong : ChangeSpec := { name := "waitEnds", fn := fun _ => fun
  | [d1, d2] => { results := [.lit (.bool false)], args := [d1, d2] }
  | _ => none }
def WaitEndsWrongFalsely : Prop := waitEndsRow.holds Try.pinned (OpenSpec.ofChange waitEndsWrong)

/-- 'regattalaw12.WaitPlays': WHATEVER THE INPUT: true; the input reads as it did. -/
def waitPlaysSpec : ChangeSpec := { name := "waitPlays", fn := fun _ => fun
  | [d] => { results := [.lit (.bool true)], args := [d] }
  | _ => none }
def waitPlaysRow : OpenClaim := { program := "ytipnghaphfgalaa", sum := "86b891cbd1292dcdc252ae035bf4308f85f27ee6ad1fedb8e1d54940935b11f6", func := "regatta/regattalaw12.WaitPlays", spec := "waitPlays", inPlace := ["slices.overlaps[[2]uint64]"], unfollowed := true, recurses := true, apart := false }
def WaitPlaysSaid : Prop := waitPlaysRow.holds Try.pinned (OpenSpec.ofChange waitPlaysSpec)

/-- ITS FALSE NEIGHBOUR: 'it returns false'. Refute it at one input. -/
def waitPlaysWrong : ChangeSpec := { name := "waitPlays", fn := fun _ => fun
  | [d] => { results := [.lit (.bool false)], args := [d] }
  | _ => none }
def WaitPlaysWrongFalsely : Prop := waitPlaysRow.holds Try.pinned (OpenSpec.ofChange waitPlaysWrong)

/-- 'regattalaw12.WaitNever': WHATEVER THE INPUT: true; the input reads as it did. -/
def waitNeverSpec : ChangeSpec := { name := "waitNever", fn := fun _ => fun
  | [d] => { results := [.lit (.bool true)], args := [d] }
  | _ => none }
def waitNeverRow : OpenClaim := { program := "ytipnghaphfgalaa", sum := "86b891cbd1292dcdc252ae035bf4308f85f27ee6ad1fedb8e1d54940935b11f6", func := "regatta/regattalaw12.WaitNever", spec := "waitNever", inPlace := ["slices.overlaps[[2]uint64]"], unfollowed := true, recurses := true, apart := false }
def WaitNeverSaid : Prop := waitNeverRow.holds Try.pinned (OpenSpec.ofChange waitNeverSpec)

/-- ITS FALSE NEIGHBOUR: 'it returns false'. Refute it at one input. -/
def waitNeverWrong : ChangeSpec := { name := "waitNever", fn := fun _ => fun
  | [d] => { results := [.lit (.bool false)], args := [d] }
  | _ => none }
def WaitNeverWrongFalsely : Prop := waitNeverRow.holds Try.pinned (OpenSpec.ofChange waitNeverWrong)

/-- 'regattalaw12.WaitWays': WHATEVER THE INPUT: true; the input reads as it did. -/
def waitWaysSpec : ChangeSpec := { name := "waitWays", fn := fun _ => fun
  | [d1, d2, d3] => { results := [.lit (.bool true)], args := [d1, d2, d3] }
  | _ => none }
def waitWaysRow : OpenClaim := { program := "ytipnghaphfgalaa", sum := "86b891cbd1292dcdc252ae035bf4308f85f27ee6ad1fedb8e1d54940935b11f6", func := "regatta/regattalaw12.WaitWays", spec := "waitWays", inPlace := ["slices.overlaps[[2]uint64]"], unfollowed := true, recurses := true, apart := false }
def WaitWaysSaid : Prop := waitWaysRow.holds Try.pinned (OpenSpec.ofChange waitWaysSpec)

/-- ITS FALSE NEIGHBOUR: 'it returns false'. Refute it at one input. -/
def waitWaysWrong : ChangeSpec := { name := "waitWays", fn := fun _ => fun
  | [d1, d2, d3] => { results := [.lit (.bool false)], args := [d1, d2, d3] }
  | _ => none }
def WaitWaysWrongFalsely : Prop := waitWaysRow.holds Try.pinned (OpenSpec.ofChange waitWaysWrong)

/- THE SECOND FORM. 'bulk': how many values and letters a reading holds, each counted each time it is reached (what is shared counts as often as it is met; a slice's spare places count too). A statement '..UptoSaid' is the law's where the arguments, and the package variables that the reading takes, are together of bulk at most 1048576: NARROWER than '..Said'. Prove '..Said' where nothing that the law and all that it calls make is longer than what came in: it says more and counts as full. Else prove '..UptoSaid'. A law counts once. -/
mutual
def uptoBulk {H : Type} : DataW H → Nat
  | .lit (.string bytes) => bytes.length + 1
  | .lit _ => 1
  | .nil => 1
  | .ptr d => uptoBulk d + 1
  | .slice elems spare => uptoBulkAll elems + uptoBulkAll spare + 1
  | .agg parts => uptoBulkAll parts + 1
  | .iface _ d => uptoBulk d + 1
  | .map entries => uptoBulkEntries entries + 1
  | .held _ => 1
def uptoBulkAll {H : Type} : List (DataW H) → Nat
  | [] => 0
  | d :: r => uptoBulk d + uptoBulkAll r
def uptoBulkEntries {H : Type} : List (Lit × DataW H) → Nat
  | [] => 0
  | x :: r => uptoBulkEntry x + uptoBulkEntries r
def uptoBulkEntry {H : Type} : Lit × DataW H → Nat
  | (.string bytes, d) => bytes.length + uptoBulk d + 1
  | (_, d) => uptoBulk d + 1
 end
def uptoSmall : (H : Type) → List (DataW H) → Bool := fun _ ds => decide (uptoBulkAll ds ≤ 1048576)
def OpenSpec.upto (s : _root_.Go.ChangeSpec) : _root_.Go.OpenSpec := { _root_.Go.OpenSpec.ofChange s with cond := some uptoSmall }

/-- 'regattalaw12.WaitEnds', WHERE WHAT IT READS IS OF BULK AT MOST 1048576: true; the input reads as it did. -/
def waitEndsUptoRow : OpenClaim := { program := "ytipnghaphfgalaa", sum := "86b891cbd1292dcdc252ae035bf4308f85f27ee6ad1fedb8e1d54940935b11f6", func := "regatta/regattalaw12.WaitEnds", spec := "waitEnds", inPlace := ["slices.overlaps[[2]uint64]"], unfollowed := true, recurses := true, apart := false, narrowed := true }
def WaitEndsUptoSaid : Prop := waitEndsUptoRow.holds Try.pinned (OpenSpec.upto waitEndsSpec)

/-- 'regattalaw12.WaitPlays', WHERE WHAT IT READS IS OF BULK AT MOST 1048576: true; the input reads as it did. -/
def waitPlaysUptoRow : OpenClaim := { program := "ytipnghaphfgalaa", sum := "86b891cbd1292dcdc252ae035bf4308f85f27ee6ad1fedb8e1d54940935b11f6", func := "regatta/regattalaw12.WaitPlays", spec := "waitPlays", inPlace := ["slices.overlaps[[2]uint64]"], unfollowed := true, recurses := true, apart := false, narrowed := true }
def WaitPlaysUptoSaid : Prop := waitPlaysUptoRow.holds Try.pinned (OpenSpec.upto waitPlaysSpec)

/-- 'regattalaw12.WaitNever', WHERE WHAT IT READS IS OF BULK AT MOST 1048576: true; the input reads as it did. -/
def waitNeverUptoRow : OpenClaim := { program := "ytipnghaphfgalaa", sum := "86b891cbd1292dcdc252ae035bf4308f85f27ee6ad1fedb8e1d54940935b11f6", func := "regatta/regattalaw12.WaitNever", spec := "waitNever", inPlace := ["slices.overlaps[[2]uint64]"], unfollowed := true, recurses := true, apart := false, narrowed := true }
def WaitNeverUptoSaid : Prop := waitNeverUptoRow.holds Try.pinned (OpenSpec.upto waitNeverSpec)

/-- 'regattalaw12.WaitWays', WHERE WHAT IT READS IS OF BULK AT MOST 1048576: true; the input reads as it did. -/
def waitWaysUptoRow : OpenClaim := { program := "ytipnghaphfgalaa", sum := "86b891cbd1292dcdc252ae035bf4308f85f27ee6ad1fedb8e1d54940935b11f6", func := "regatta/regattalaw12.WaitWays", spec := "waitWays", inPlace := ["slices.overlaps[[2]uint64]"], unfollowed := true, recurses := true, apart := false, narrowed := true }
def WaitWaysUptoSaid : Prop := waitWaysUptoRow.holds Try.pinned (OpenSpec.upto waitWaysSpec)

end Rows
end Go.Proofs.Ytipnghaphfgalaa
