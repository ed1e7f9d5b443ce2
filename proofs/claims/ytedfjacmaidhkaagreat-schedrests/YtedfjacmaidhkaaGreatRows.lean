/-
  No cell of these rows narrows 'for every input' (looked for: loops, veiled, ifaces, maps, wideKeys, modest, calm, conditions, laid).
  DERIVED. THE GIVEN ROWS OF THIS SEAT. 5 by the template 'for every input the law returns true; each argument reads behind the call as it read before'; 0 by the template 'total and deterministic' (their statements: YtedfjacmaidhkaaGreatTotals.lean).
  GIVEN WITH THE SEED: the statements are not yours to turn. If you find one false, say at which input.
  Laid BY PROGRAM, IN A SANDBOX (cutbox-rows.mjs): the forced cells as the released guide's own fill.sh prints them over the translation 75f1f7db4624fa82… (all of the seat's roots in one cut). By AI agents, Wed Nov 11 2026. No macro, syntax, notation, axiom, sorry.
-/
import Derived.Test.YtedfjacmaidhkaaGreatChecked
import GoSem.Claim
import GoSem.ClaimJoined
import GoSem.ClaimMapViews
import Derived.JoinedTies
import Derived.KernelRfl
namespace Go.Proofs.YtedfjacmaidhkaaGreat
/- THE CELL 'sum', in the pinned program and in every row, IS THE sha256 OF THE DUMP (.gsa) THAT YtedfjacmaidhkaaGreatProg.lean LOADS. Nothing in Lean hashes anything: it is a label: what it is worth is what the hold of that sum in a sandbox is worth. -/
noncomputable def Tryz.pinned : Pinned := { name := "ytedfjacmaidhkaagreat", sum := "75f1f7db4624fa8275ddc3b5a2fae0cfafa79b388422ad5c6ac8ec41b362a0c0", checked := Tryz.checked }
namespace Rows
def none {H : Type} : Left H := { results := [], args := [] }

/-- 'regattalaw17.SchedCan': WHATEVER THE INPUT: true; the input reads as it did. -/
def schedCanSpec : ChangeSpec := { name := "schedCan", fn := fun _ => fun
  | [d1, d2, d3] => { results := [.lit (.bool true)], args := [d1, d2, d3] }
  | _ => none }
def schedCanRow : OpenClaim := { program := "ytedfjacmaidhkaagreat", sum := "75f1f7db4624fa8275ddc3b5a2fae0cfafa79b388422ad5c6ac8ec41b362a0c0", func := "regatta/regattalaw17.SchedCan", spec := "schedCan", inPlace := ["internal/bytealg.Compare"], unfollowed := true, recurses := true, apart := false }
def SchedCanSaid : Prop := schedCanRow.holds Tryz.pinned (OpenSpec.ofChange schedCanSpec)

/-- ITS FALSE NEIGHBOUR: 'it returns false'. Refute it at one input. -/
def schedCanWrong : ChangeSpec := { name := "schedCan", fn := fun _ => fun
  | [d1, d2, d3] => { results := [.lit (.bool false)], args := [d1, d2, d3] }
  | _ => none }
def SchedCanWrongFalsely : Prop := schedCanRow.holds Tryz.pinned (OpenSpec.ofChange schedCanWrong)

/-- 'regattalaw17.SchedOrder': WHATEVER THE INPUT: true; the input reads as it did. -/
def schedOrderSpec : ChangeSpec := { name := "schedOrder", fn := fun _ => fun
  | [d1, d2, d3, d4] => { results := [.lit (.bool true)], args := [d1, d2, d3, d4] }
  | _ => none }
def schedOrderRow : OpenClaim := { program := "ytedfjacmaidhkaagreat", sum := "75f1f7db4624fa8275ddc3b5a2fae0cfafa79b388422ad5c6ac8ec41b362a0c0", func := "regatta/regattalaw17.SchedOrder", spec := "schedOrder", inPlace := ["internal/bytealg.Compare"], unfollowed := true, recurses := true, apart := false }
def SchedOrderSaid : Prop := schedOrderRow.holds Tryz.pinned (OpenSpec.ofChange schedOrderSpec)

/-- ITS FALSE NEIGHBOUR: 'it returns false'. Refute it at one input. -/
def schedOrderWrong : ChangeSpec := { name := "schedOrder", fn := fun _ => fun
  | [d1, d2, d3, d4] => { results := [.lit (.bool false)], args := [d1, d2, d3, d4] }
  | _ => none }
def SchedOrderWrongFalsely : Prop := schedOrderRow.holds Tryz.pinned (OpenSpec.ofChange schedOrderWrong)

/-- 'regattalaw17.SchedRests': WHATEVER THE INPUT: true; the input reads as it did. -/
def schedRestsSpec : ChangeSpec := { name := "schedRests", fn := fun _ => fun
  | [d1, d2, d3] => { results := [.lit (.bool true)], args := [d1, d2, d3] }
  | _ => none }
def schedRestsRow : OpenClaim := { program := "ytedfjacmaidhkaagreat", sum := "75f1f7db4624fa8275ddc3b5a2fae0cfafa79b388422ad5c6ac8ec41b362a0c0", func := "regatta/regattalaw17.SchedRests", spec := "schedRests", inPlace := ["internal/bytealg.Compare"], unfollowed := true, recurses := true, apart := false }
def SchedRestsSaid : Prop := schedRestsRow.holds Tryz.pinned (OpenSpec.ofChange schedRestsSpec)

/-- ITS FALSE NEIGHBOUR: 'it returns false'. Refute it at one input. -/
def schedRestsWrong : ChangeSpec := { name := "schedRests", fn := fun _ => fun
  | [d1, d2, d3] => { results := [.lit (.bool false)], args := [d1, d2, d3] }
  | _ => none }
def SchedRestsWrongFalsely : Prop := schedRestsRow.holds Tryz.pinned (OpenSpec.ofChange schedRestsWrong)

/-- 'regattalaw17.SchedMoves': WHATEVER THE INPUT: true; the input reads as it did. -/
def schedMovesSpec : ChangeSpec := { name := "schedMoves", fn := fun _ => fun
  | [d1, d2, d3] => { results := [.lit (.bool true)], args := [d1, d2, d3] }
  | _ => none }
def schedMovesRow : OpenClaim := { program := "ytedfjacmaidhkaagreat", sum := "75f1f7db4624fa8275ddc3b5a2fae0cfafa79b388422ad5c6ac8ec41b362a0c0", func := "regatta/regattalaw17.SchedMoves", spec := "schedMoves", inPlace := ["internal/bytealg.Compare"], unfollowed := true, recurses := true, apart := false }
def SchedMovesSaid : Prop := schedMovesRow.holds Tryz.pinned (OpenSpec.ofChange schedMovesSpec)

/-- ITS FALSE NEIGHBOUR: 'it returns false'. Refute it at one input. -/
def schedMovesWrong : ChangeSpec := { name := "schedMoves", fn := fun _ => fun
  | [d1, d2, d3] => { results := [.lit (.bool false)], args := [d1, d2, d3] }
  | _ => none }
def SchedMovesWrongFalsely : Prop := schedMovesRow.holds Tryz.pinned (OpenSpec.ofChange schedMovesWrong)

/-- 'regattalaw17.SchedQuiet': WHATEVER THE INPUT: true; the input reads as it did. -/
def schedQuietSpec : ChangeSpec := { name := "schedQuiet", fn := fun _ => fun
  | [d1, d2, d3, d4] => { results := [.lit (.bool true)], args := [d1, d2, d3, d4] }
  | _ => none }
def schedQuietRow : OpenClaim := { program := "ytedfjacmaidhkaagreat", sum := "75f1f7db4624fa8275ddc3b5a2fae0cfafa79b388422ad5c6ac8ec41b362a0c0", func := "regatta/regattalaw17.SchedQuiet", spec := "schedQuiet", inPlace := ["internal/bytealg.Compare"], unfollowed := true, recurses := true, apart := false }
def SchedQuietSaid : Prop := schedQuietRow.holds Tryz.pinned (OpenSpec.ofChange schedQuietSpec)

/-- ITS FALSE NEIGHBOUR: 'it returns false'. Refute it at one input. -/
def schedQuietWrong : ChangeSpec := { name := "schedQuiet", fn := fun _ => fun
  | [d1, d2, d3, d4] => { results := [.lit (.bool false)], args := [d1, d2, d3, d4] }
  | _ => none }
def SchedQuietWrongFalsely : Prop := schedQuietRow.holds Tryz.pinned (OpenSpec.ofChange schedQuietWrong)

/- THE SECOND FORM. 'bulk': how many values and letters a reading holds, each counted each time it is reached (what is shared counts as often as it is met; a slice's spare places count too). A statement '..UptoSaid' is the law's where the arguments, and the package variables that the reading takes, are together of bulk at most 1048576: NARROWER than '..Said'. Prove '..Said' where nothing that the law and all that it calls make is longer than what came in: it says more and counts as full. Else prove '..UptoSaid'. A law counts once. -/
mutual
def uptoBulk {H : Type} : DataW H → Nat
  | .lit (.string bytes) => bytes.length + 1
  | .lit _ => 1
  | .nil => 1
  | .ptr d => uptoBulk d + 1
  | .slice elems spare => uptoBulkAll elems + uptoBulkAll spare + 1
  | .agg parts => uptoBulkAll parts + 1
  | .iface _ d => uptoBulk d + 1
  | .map entries => uptoBulkEntries entries + 1
  | .held _ => 1
def uptoBulkAll {H : Type} : List (DataW H) → Nat
  | [] => 0
  | d :: r => uptoBulk d + uptoBulkAll r
def uptoBulkEntries {H : Type} : List (Lit × DataW H) → Nat
  | [] => 0
  | x :: r => uptoBulkEntry x + uptoBulkEntries r
def uptoBulkEntry {H : Type} : Lit × DataW H → Nat
  | (.string bytes, d) => bytes.length + uptoBulk d + 1
  | (_, d) => uptoBulk d + 1
 end
def uptoSmall : (H : Type) → List (DataW H) → Bool := fun _ ds => decide (uptoBulkAll ds ≤ 1048576)
def OpenSpec.upto (s : _root_.Go.ChangeSpec) : _root_.Go.OpenSpec := { _root_.Go.OpenSpec.ofChange s with cond := some uptoSmall }

/-- 'regattalaw17.SchedCan', WHERE WHAT IT READS IS OF BULK AT MOST 1048576: true; the input reads as it did. -/
def schedCanUptoRow : OpenClaim := { program := "ytedfjacmaidhkaagreat", sum := "75f1f7db4624fa8275ddc3b5a2fae0cfafa79b388422ad5c6ac8ec41b362a0c0", func := "regatta/regattalaw17.SchedCan", spec := "schedCan", inPlace := ["internal/bytealg.Compare"], unfollowed := true, recurses := true, apart := false, narrowed := true }
def SchedCanUptoSaid : Prop := schedCanUptoRow.holds Tryz.pinned (OpenSpec.upto schedCanSpec)

/-- 'regattalaw17.SchedOrder', WHERE WHAT IT READS IS OF BULK AT MOST 1048576: true; the input reads as it did. -/
def schedOrderUptoRow : OpenClaim := { program := "ytedfjacmaidhkaagreat", sum := "75f1f7db4624fa8275ddc3b5a2fae0cfafa79b388422ad5c6ac8ec41b362a0c0", func := "regatta/regattalaw17.SchedOrder", spec := "schedOrder", inPlace := ["internal/bytealg.Compare"], unfollowed := true, recurses := true, apart := false, narrowed := true }
def SchedOrderUptoSaid : Prop := schedOrderUptoRow.holds Tryz.pinned (OpenSpec.upto schedOrderSpec)

/-- 'regattalaw17.SchedRests', WHERE WHAT IT READS IS OF BULK AT MOST 1048576: true; the input reads as it did. -/
def schedRestsUptoRow : OpenClaim := { program := "ytedfjacmaidhkaagreat", sum := "75f1f7db4624fa8275ddc3b5a2fae0cfafa79b388422ad5c6ac8ec41b362a0c0", func := "regatta/regattalaw17.SchedRests", spec := "schedRests", inPlace := ["internal/bytealg.Compare"], unfollowed := true, recurses := true, apart := false, narrowed := true }
def SchedRestsUptoSaid : Prop := schedRestsUptoRow.holds Tryz.pinned (OpenSpec.upto schedRestsSpec)

/-- 'regattalaw17.SchedMoves', WHERE WHAT IT READS IS OF BULK AT MOST 1048576: true; the input reads as it did. -/
def schedMovesUptoRow : OpenClaim := { program := "ytedfjacmaidhkaagreat", sum := "75f1f7db4624fa8275ddc3b5a2fae0cfafa79b388422ad5c6ac8ec41b362a0c0", func := "regatta/regattalaw17.SchedMoves", spec := "schedMoves", inPlace := ["internal/bytealg.Compare"], unfollowed := true, recurses := true, apart := false, narrowed := true }
def SchedMovesUptoSaid : Prop := schedMovesUptoRow.holds Tryz.pinned (OpenSpec.upto schedMovesSpec)

/-- 'regattalaw17.SchedQuiet', WHERE WHAT IT READS IS OF BULK AT MOST 1048576: true; the input reads as it did. -/
def schedQuietUptoRow : OpenClaim := { program := "ytedfjacmaidhkaagreat", sum := "75f1f7db4624fa8275ddc3b5a2fae0cfafa79b388422ad5c6ac8ec41b362a0c0", func := "regatta/regattalaw17.SchedQuiet", spec := "schedQuiet", inPlace := ["internal/bytealg.Compare"], unfollowed := true, recurses := true, apart := false, narrowed := true }
def SchedQuietUptoSaid : Prop := schedQuietUptoRow.holds Tryz.pinned (OpenSpec.upto schedQuietSpec)

end Rows
end Go.Proofs.YtedfjacmaidhkaaGreat
