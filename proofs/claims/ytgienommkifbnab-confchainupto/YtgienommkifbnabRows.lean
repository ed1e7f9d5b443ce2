/-
  No cell of these rows narrows 'for every input' (looked for: loops, veiled, ifaces, maps, wideKeys, modest, calm, conditions, laid).
  DERIVED. THE GIVEN ROWS OF THIS SEAT. 3 by the template 'for every input the law returns true; each argument reads behind the call as it read before'; 0 by the template 'total and deterministic' (their statements: YtgienommkifbnabTotals.lean).
  GIVEN WITH THE SEED: the statements are not yours to turn. If you find one false, say at which input.
  Laid BY PROGRAM, IN A SANDBOX (cutbox-rows.mjs): the forced cells as the released guide's own fill.sh prints them over the translation 58bcf9b009b01f92… (all of the seat's roots in one cut). By AI agents, Wed Nov 11 2026. No macro, syntax, notation, axiom, sorry.
-/
import Derived.Test.YtgienommkifbnabChecked
import GoSem.Claim
import GoSem.ClaimJoined
import GoSem.ClaimMapViews
import Derived.JoinedTies
import Derived.KernelRfl
namespace Go.Proofs.Ytgienommkifbnab
/- THE CELL 'sum', in the pinned program and in every row, IS THE sha256 OF THE DUMP (.gsa) THAT YtgienommkifbnabProg.lean LOADS. Nothing in Lean hashes anything: it is a label: what it is worth is what the hold of that sum in a sandbox is worth. -/
noncomputable def Try.pinned : Pinned := { name := "ytgienommkifbnab", sum := "58bcf9b009b01f925597a68f601ceb050ed56b4730521dc32b38692e8939edf4", checked := Try.checked }
namespace Rows
def none {H : Type} : Left H := { results := [], args := [] }

/-- 'regattalaw07.ConfLost': WHATEVER THE INPUT: true; the input reads as it did. -/
def confLostSpec : ChangeSpec := { name := "confLost", fn := fun _ => fun
  | [d1, d2] => { results := [.lit (.bool true)], args := [d1, d2] }
  | _ => none }
def confLostRow : OpenClaim := { program := "ytgienommkifbnab", sum := "58bcf9b009b01f925597a68f601ceb050ed56b4730521dc32b38692e8939edf4", func := "regatta/regattalaw07.ConfLost", spec := "confLost", unfollowed := true, recurses := true, apart := false }
def ConfLostSaid : Prop := confLostRow.holds Try.pinned (OpenSpec.ofChange confLostSpec)

/-- ITS FALSE NEIGHBOUR: 'it returns false'. Refute it at one input. -/
def confLostWrong : ChangeSpec := { name := "confLost", fn := fun _ => fun
  | [d1, d2] => { results := [.lit (.bool false)], args := [d1, d2] }
  | _ => none }
def ConfLostWrongFalsely : Prop := confLostRow.holds Try.pinned (OpenSpec.ofChange confLostWrong)

/-- 'regattalaw07.ConfIndex': WHATEVER THE INPUT: true; the input reads as it did. -/
def confIndexSpec : ChangeSpec := { name := "confIndex", fn := fun _ => fun
  | [d1, d2, d3, d4] => { results := [.lit (.bool true)], args := [d1, d2, d3, d4] }
  | _ => none }
def confIndexRow : OpenClaim := { program := "ytgienommkifbnab", sum := "58bcf9b009b01f925597a68f601ceb050ed56b4730521dc32b38692e8939edf4", func := "regatta/regattalaw07.ConfIndex", spec := "confIndex", unfollowed := true, recurses := true, apart := false }
def ConfIndexSaid : Prop := confIndexRow.holds Try.pinned (OpenSpec.ofChange confIndexSpec)

/-- ITS FALSE NEIGHBOUR: 'it returns false'. Refute it at one input. -/
def confIndexWrong : ChangeSpec := { name := "confIndex", fn := fun _ => fun
  | [d1, d2, d3, d4] => { results := [.lit (.bool false)], args := [d1, d2, d3, d4] }
  | _ => none }
def ConfIndexWrongFalsely : Prop := confIndexRow.holds Try.pinned (OpenSpec.ofChange confIndexWrong)

/-- 'regattalaw07.ConfChain': WHATEVER THE INPUT: true; the input reads as it did. -/
def confChainSpec : ChangeSpec := { name := "confChain", fn := fun _ => fun
  | [d] => { results := [.lit (.bool true)], args := [d] }
  | _ => none }
def confChainRow : OpenClaim := { program := "ytgienommkifbnab", sum := "58bcf9b009b01f925597a68f601ceb050ed56b4730521dc32b38692e8939edf4", func := "regatta/regattalaw07.ConfChain", spec := "confChain", unfollowed := true, recurses := true, apart := false }
def ConfChainSaid : Prop := confChainRow.holds Try.pinned (OpenSpec.ofChange confChainSpec)

/-- ITS FALSE NEIGHBOUR: 'it returns false'. Refute it at one input. -/
def confChainWrong : ChangeSpec := { name := "confChain", fn := fun _ => fun
  | [d] => { results := [.lit (.bool false)], args := [d] }
  | _ => none }
def ConfChainWrongFalsely : Prop := confChainRow.holds Try.pinned (OpenSpec.ofChange confChainWrong)

/- THE SECOND FORM. 'bulk': how many values and letters a reading holds, each counted each time it is reached (what is shared counts as often as it is met; a slice's spare places count too). A statement '..UptoSaid' is the law's where the arguments, and the package variables that the reading takes, are together of bulk at most 1048576: NARROWER than '..Said'. Prove '..Said' where nothing that the law and all that it calls make is longer than what came in: it says more and counts as full. Else prove '..UptoSaid'. A law counts once. -/
mutual
def uptoBulk {H : Type} : DataW H → Nat
  | .lit (.string bytes) => bytes.length + 1
  | .lit _ => 1
  | .nil => 1
  | .ptr d => uptoBulk d + 1
  | .slice elems spare => uptoBulkAll elems + uptoBulkAll spare + 1
  | .agg parts => uptoBulkAll parts + 1
  | .iface _ d => uptoBulk d + 1
  | .map entries => uptoBulkEntries entries + 1
  | .held _ => 1
def uptoBulkAll {H : Type} : List (DataW H) → Nat
  | [] => 0
  | d :: r => uptoBulk d + uptoBulkAll r
def uptoBulkEntries {H : Type} : List (Lit × DataW H) → Nat
  | [] => 0
  | x :: r => uptoBulkEntry x + uptoBulkEntries r
def uptoBulkEntry {H : Type} : Lit × DataW H → Nat
  | (.string bytes, d) => bytes.length + uptoBulk d + 1
  | (_, d) => uptoBulk d + 1
 end
def uptoSmall : (H : Type) → List (DataW H) → Bool := fun _ ds => decide (uptoBulkAll ds ≤ 1048576)
def OpenSpec.upto (s : _root_.Go.ChangeSpec) : _root_.Go.OpenSpec := { _root_.Go.OpenSpec.ofChange s with cond := some uptoSmall }

/-- 'regattalaw07.ConfLost', WHERE WHAT IT READS IS OF BULK AT MOST 1048576: true; the input reads as it did. -/
def confLostUptoRow : OpenClaim := { program := "ytgienommkifbnab", sum := "58bcf9b009b01f925597a68f601ceb050ed56b4730521dc32b38692e8939edf4", func := "regatta/regattalaw07.ConfLost", spec := "confLost", unfollowed := true, recurses := true, apart := false, narrowed := true }
def ConfLostUptoSaid : Prop := confLostUptoRow.holds Try.pinned (OpenSpec.upto confLostSpec)

/-- 'regattalaw07.ConfIndex', WHERE WHAT IT READS IS OF BULK AT MOST 1048576: true; the input reads as it did. -/
def confIndexUptoRow : OpenClaim := { program := "ytgienommkifbnab", sum := "58bcf9b009b01f925597a68f601ceb050ed56b4730521dc32b38692e8939edf4", func := "regatta/regattalaw07.ConfIndex", spec := "confIndex", unfollowed := true, recurses := true, apart := false, narrowed := true }
def ConfIndexUptoSaid : Prop := confIndexUptoRow.holds Try.pinned (OpenSpec.upto confIndexSpec)

/-- 'regattalaw07.ConfChain', WHERE WHAT IT READS IS OF BULK AT MOST 1048576: true; the input reads as it did. -/
def confChainUptoRow : OpenClaim := { program := "ytgienommkifbnab", sum := "58bcf9b009b01f925597a68f601ceb050ed56b4730521dc32b38692e8939edf4", func := "regatta/regattalaw07.ConfChain", spec := "confChain", unfollowed := true, recurses := true, apart := false, narrowed := true }
def ConfChainUptoSaid : Prop := confChainUptoRow.holds Try.pinned (OpenSpec.upto confChainSpec)

end Rows
end Go.Proofs.Ytgienommkifbnab
