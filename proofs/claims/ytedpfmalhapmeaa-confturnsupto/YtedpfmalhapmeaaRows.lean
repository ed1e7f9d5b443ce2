/-
  No cell of these rows narrows 'for every input' (looked for: loops, veiled, ifaces, maps, wideKeys, modest, calm, conditions, laid).
  DERIVED. THE GIVEN ROWS OF THIS SEAT. 4 by the template 'for every input the law returns true; each argument reads behind the call as it read before'; 0 by the template 'total and deterministic' (their statements: YtedpfmalhapmeaaTotals.lean).
  GIVEN WITH THE SEED: the statements are not yours to turn. If you find one false, say at which input.
  Laid BY PROGRAM, IN A SANDBOX (cutbox-rows.mjs): the forced cells as the released guide's own fill.sh prints them over the translation 9db9beb2ac4e4cfa… (all of the seat's roots in one cut). By AI agents, Wed Nov 11 2026. No macro, syntax, notation, axiom, sorry.
-/
import Derived.Test.YtedpfmalhapmeaaChecked
import GoSem.Claim
import GoSem.ClaimJoined
import GoSem.ClaimMapViews
import Derived.JoinedTies
import Derived.KernelRfl
namespace Go.Proofs.Ytedpfmalhapmeaa
/- THE CELL 'sum', in the pinned program and in every row, IS THE sha256 OF THE DUMP (.gsa) THAT YtedpfmalhapmeaaProg.lean LOADS. Nothing in Lean hashes anything: it is a label: what it is worth is what the hold of that sum in a sandbox is worth. -/
noncomputable def Try.pinned : Pinned := { name := "ytedpfmalhapmeaa", sum := "9db9beb2ac4e4cfa6560ce2823f6355e56b785a00e756aaaed755adab8ed790b", checked := Try.checked }
namespace Rows
def none {H : Type} : Left H := { results := [], args := [] }

/-- 'regattalaw07.ConfLooks': WHATEVER THE INPUT: true; the input reads as it did. -/
def confLooksSpec : ChangeSpec := { name := "confLooks", fn := fun _ => fun
  | [d1, d2] => { results := [.lit (.bool true)], args := [d1, d2] }
  | _ => none }
def confLooksRow : OpenClaim := { program := "ytedpfmalhapmeaa", sum := "9db9beb2ac4e4cfa6560ce2823f6355e56b785a00e756aaaed755adab8ed790b", func := "regatta/regattalaw07.ConfLooks", spec := "confLooks", unfollowed := true, recurses := true, apart := false }
def ConfLooksSaid : Prop := confLooksRow.holds Try.pinned (OpenSpec.ofChange confLooksSpec)

/-- ITS FALSE NEIGHBOUR: 'it returns false'. Refute it at one input. -/
def confLooksWrong : ChangeSpec := { name := "confLooks", fn := fun _ => fun
  | [d1, d2] => { results := [.lit (.bool false)], args := [d1, d2] }
  | _ => none }
def ConfLooksWrongFalsely : Prop := confLooksRow.holds Try.pinned (OpenSpec.ofChange confLooksWrong)

/-- 'regattalaw07.ConfTurns': WHATEVER THE INPUT: true; the input reads as it did. -/
def confTurnsSpec : ChangeSpec := { name := "confTurns", fn := fun _ => fun
  | [d1, d2] => { results := [.lit (.bool true)], args := [d1, d2] }
  | _ => none }
def confTurnsRow : OpenClaim := { program := "ytedpfmalhapmeaa", sum := "9db9beb2ac4e4cfa6560ce2823f6355e56b785a00e756aaaed755adab8ed790b", func := "regatta/regattalaw07.ConfTurns", spec := "confTurns", unfollowed := true, recurses := true, apart := false }
def ConfTurnsSaid : Prop := confTurnsRow.holds Try.pinned (OpenSpec.ofChange confTurnsSpec)

/-- ITS FALSE NEIGHBOUR: 'it returns false'. Refute it at one input. -/
def confTurnsWrong : ChangeSpec := { name := "confTurns", fn := fun _ => fun
  | [d1, d2] => { results := [.lit (.bool false)], args := [d1, d2] }
  | _ => none }
def ConfTurnsWrongFalsely : Prop := confTurnsRow.holds Try.pinned (OpenSpec.ofChange confTurnsWrong)

/-- 'regattalaw07.ConfCounts': WHATEVER THE INPUT: true; the input reads as it did. -/
def confCountsSpec : ChangeSpec := { name := "confCounts", fn := fun _ => fun
  | [d1, d2, d3] => { results := [.lit (.bool true)], args := [d1, d2, d3] }
  | _ => none }
def confCountsRow : OpenClaim := { program := "ytedpfmalhapmeaa", sum := "9db9beb2ac4e4cfa6560ce2823f6355e56b785a00e756aaaed755adab8ed790b", func := "regatta/regattalaw07.ConfCounts", spec := "confCounts", unfollowed := true, recurses := true, apart := false }
def ConfCountsSaid : Prop := confCountsRow.holds Try.pinned (OpenSpec.ofChange confCountsSpec)

/-- ITS FALSE NEIGHBOUR: 'it returns false'. Refute it at one input. -/
def confCountsWrong : ChangeSpec := { name := "confCounts", fn := fun _ => fun
  | [d1, d2, d3] => { results := [.lit (.bool false)], args := [d1, d2, d3] }
  | _ => none }
def ConfCountsWrongFalsely : Prop := confCountsRow.holds Try.pinned (OpenSpec.ofChange confCountsWrong)

/-- 'regattalaw07.ConfIndex': WHATEVER THE INPUT: true; the input reads as it did. -/
def confIndexSpec : ChangeSpec := { name := "confIndex", fn := fun _ => fun
  | [d1, d2, d3, d4] => { results := [.lit (.bool true)], args := [d1, d2, d3, d4] }
  | _ => none }
def confIndexRow : OpenClaim := { program := "ytedpfmalhapmeaa", sum := "9db9beb2ac4e4cfa6560ce2823f6355e56b785a00e756aaaed755adab8ed790b", func := "regatta/regattalaw07.ConfIndex", spec := "confIndex", unfollowed := true, recurses := true, apart := false }
def ConfIndexSaid : Prop := confIndexRow.holds Try.pinned (OpenSpec.ofChange confIndexSpec)

/-- ITS FALSE NEIGHBOUR: 'it returns false'. Refute it at one input. -/
def confIndexWrong : ChangeSpec := { name := "confIndex", fn := fun _ => fun
  | [d1, d2, d3, d4] => { results := [.lit (.bool false)], args := [d1, d2, d3, d4] }
  | _ => none }
def ConfIndexWrongFalsely : Prop := confIndexRow.holds Try.pinned (OpenSpec.ofChange confIndexWrong)

/- THE SECOND FORM. 'bulk': how many values and letters a reading holds, each counted each time it is reached (what is shared counts as often as it is met; a slice's spare places count too). A statement '..UptoSaid' is the law's where the arguments, and the package variables that the reading takes, are together of bulk at most 1048576: NARROWER than '..Said'. Prove '..Said' where nothing that the law and all that it calls make is longer than what came in: it says more and counts as full. Else prove '..UptoSaid'. A law counts once. -/
mutual
def uptoBulk {H : Type} : DataW H → Nat
  | .lit (.string bytes) => bytes.length + 1
  | .lit _ => 1
  | .nil => 1
  | .ptr d => uptoBulk d + 1
  | .slice elems spare => uptoBulkAll elems + uptoBulkAll spare + 1
  | .agg parts => uptoBulkAll parts + 1
  | .iface _ d => uptoBulk d + 1
  | .map entries => uptoBulkEntries entries + 1
  | .held _ => 1
def uptoBulkAll {H : Type} : List (DataW H) → Nat
  | [] => 0
  | d :: r => uptoBulk d + uptoBulkAll r
def uptoBulkEntries {H : Type} : List (Lit × DataW H) → Nat
  | [] => 0
  | x :: r => uptoBulkEntry x + uptoBulkEntries r
def uptoBulkEntry {H : Type} : Lit × DataW H → Nat
  | (.string bytes, d) => bytes.length + uptoBulk d + 1
  | (_, d) => uptoBulk d + 1
 end
def uptoSmall : (H : Type) → List (DataW H) → Bool := fun _ ds => decide (uptoBulkAll ds ≤ 1048576)
def OpenSpec.upto (s : _root_.Go.ChangeSpec) : _root_.Go.OpenSpec := { _root_.Go.OpenSpec.ofChange s with cond := some uptoSmall }

/-- 'regattalaw07.ConfLooks', WHERE WHAT IT READS IS OF BULK AT MOST 1048576: true; the input reads as it did. -/
def confLooksUptoRow : OpenClaim := { program := "ytedpfmalhapmeaa", sum := "9db9beb2ac4e4cfa6560ce2823f6355e56b785a00e756aaaed755adab8ed790b", func := "regatta/regattalaw07.ConfLooks", spec := "confLooks", unfollowed := true, recurses := true, apart := false, narrowed := true }
def ConfLooksUptoSaid : Prop := confLooksUptoRow.holds Try.pinned (OpenSpec.upto confLooksSpec)

/-- 'regattalaw07.ConfTurns', WHERE WHAT IT READS IS OF BULK AT MOST 1048576: true; the input reads as it did. -/
def confTurnsUptoRow : OpenClaim := { program := "ytedpfmalhapmeaa", sum := "9db9beb2ac4e4cfa6560ce2823f6355e56b785a00e756aaaed755adab8ed790b", func := "regatta/regattalaw07.ConfTurns", spec := "confTurns", unfollowed := true, recurses := true, apart := false, narrowed := true }
def ConfTurnsUptoSaid : Prop := confTurnsUptoRow.holds Try.pinned (OpenSpec.upto confTurnsSpec)

/-- 'regattalaw07.ConfCounts', WHERE WHAT IT READS IS OF BULK AT MOST 1048576: true; the input reads as it did. -/
def confCountsUptoRow : OpenClaim := { program := "ytedpfmalhapmeaa", sum := "9db9beb2ac4e4cfa6560ce2823f6355e56b785a00e756aaaed755adab8ed790b", func := "regatta/regattalaw07.ConfCounts", spec := "confCounts", unfollowed := true, recurses := true, apart := false, narrowed := true }
def ConfCountsUptoSaid : Prop := confCountsUptoRow.holds Try.pinned (OpenSpec.upto confCountsSpec)

/-- 'regattalaw07.ConfIndex', WHERE WHAT IT READS IS OF BULK AT MOST 1048576: true; the input reads as it did. -/
def confIndexUptoRow : OpenClaim := { program := "ytedpfmalhapmeaa", sum := "9db9beb2ac4e4cfa6560ce2823f6355e56b785a00e756aaaed755adab8ed790b", func := "regatta/regattalaw07.ConfIndex", spec := "confIndex", unfollowed := true, recurses := true, apart := false, narrowed := true }
def ConfIndexUptoSaid : Prop := confIndexUptoRow.holds Try.pinned (OpenSpec.upto confIndexSpec)

end Rows
end Go.Proofs.Ytedpfmalhapmeaa
