/-
  No cell of these rows narrows 'for every input' (looked for: loops, veiled, ifaces, maps, wideKeys, modest, calm, conditions, laid).
  DERIVED. THE GIVEN ROWS OF THIS SEAT. 6 by the template 'for every input the law returns true; each argument reads behind the call as it read before'; 0 by the template 'total and deterministic' (their statements: YtnenfflkldpbgaaTotals.lean).
  GIVEN WITH THE SEED: the statements are not yours to turn. If you find one false, say at which input.
  Laid BY PROGRAM, IN A SANDBOX (cutbox-rows.mjs): the forced cells as the released guide's own fill.sh prints them over the translation 9a4445e07c92a761… (all of the seat's roots in one cut). By AI agents, Wed Nov 11 2026. No macro, syntax, notation, axiom, sorry.
-/
import Derived.Test.YtnenfflkldpbgaaChecked
import GoSem.Claim
import GoSem.ClaimJoined
import GoSem.ClaimMapViews
import Derived.JoinedTies
import Derived.KernelRfl
namespace Go.Proofs.Ytnenfflkldpbgaa
/- THE CELL 'sum', in the pinned program and in every row, IS THE sha256 OF THE DUMP (.gsa) THAT YtnenfflkldpbgaaProg.lean LOADS. Nothing in Lean hashes anything: it is a label: what it is worth is what the hold of that sum in a sandbox is worth. -/
noncomputable def Try.pinned : Pinned := { name := "ytnenfflkldpbgaa", sum := "9a4445e07c92a761b430a858d8a32bead8cc5e8597843eedb796046a18e789bd", checked := Try.checked }
namespace Rows
def none {H : Type} : Left H := { results := [], args := [] }

/-- 'regattalaw10.RegionCodes': WHATEVER THE INPUT: true; the input reads as it did. -/
def regionCodesSpec : ChangeSpec := { name := "regionCodes", fn := fun _ => fun
  | [d1, d2, d3] => { results := [.lit (.bool true)], args := [d1, d2, d3] }
  | _ => none }
def regionCodesRow : OpenClaim := { program := "ytnenfflkldpbgaa", sum := "9a4445e07c92a761b430a858d8a32bead8cc5e8597843eedb796046a18e789bd", func := "regatta/regattalaw10.RegionCodes", spec := "regionCodes", inPlace := ["internal/bytealg.Compare"], unfollowed := true, recurses := true, apart := false }
def RegionCodesSaid : Prop := regionCodesRow.holds Try.pinned (OpenSpec.ofChange regionCodesSpec)

/-- ITS FALSE NEIGHBOUR: 'it returns false'. Refute it at one input. -/
def regionCodesWrong : ChangeSpec := { name := "regionCodes", fn := fun _ => fun
  | [d1, d2, d3] => { results := [.lit (.bool false)], args := [d1, d2, d3] }
  | _ => none }
def RegionCodesWrongFalsely : Prop := regionCodesRow.holds Try.pinned (OpenSpec.ofChange regionCodesWrong)

/-- 'regattalaw10.RegionLooks': WHATEVER THE INPUT: true; the input reads as it did. -/
def regionLooksSpec : ChangeSpec := { name := "regionLooks", fn := fun _ => fun
  | [d1, d2, d3, d4] => { results := [.lit (.bool true)], args := [d1, d2, d3, d4] }
  | _ => none }
def regionLooksRow : OpenClaim := { program := "ytnenfflkldpbgaa", sum := "9a4445e07c92a761b430a858d8a32bead8cc5e8597843eedb796046a18e789bd", func := "regatta/regattalaw10.RegionLooks", spec := "regionLooks", inPlace := ["internal/bytealg.Compare"], unfollowed := true, recurses := true, apart := false }
def RegionLooksSaid : Prop := regionLooksRow.holds Try.pinned (OpenSpec.ofChange regionLooksSpec)

/-- ITS FALSE NEIGHBOUR: 'it returns false'. Refute it at one input. -/
def regionLooksWrong : ChangeSpec := { name := "regionLooks", fn := fun _ => fun
  | [d1, d2, d3, d4] => { results := [.lit (.bool false)], args := [d1, d2, d3, d4] }
  | _ => none }
def RegionLooksWrongFalsely : Prop := regionLooksRow.holds Try.pinned (OpenSpec.ofChange regionLooksWrong)

/-- 'regattalaw10.RegionTexts': WHATEVER THE INPUT: true; the input reads as it did. -/
def regionTextsSpec : ChangeSpec := { name := "regionTexts", fn := fun _ => fun
  | [d1, d2] => { results := [.lit (.bool true)], args := [d1, d2] }
  | _ => none }
def regionTextsRow : OpenClaim := { program := "ytnenfflkldpbgaa", sum := "9a4445e07c92a761b430a858d8a32bead8cc5e8597843eedb796046a18e789bd", func := "regatta/regattalaw10.RegionTexts", spec := "regionTexts", inPlace := ["internal/bytealg.Compare"], unfollowed := true, recurses := true, apart := false }
def RegionTextsSaid : Prop := regionTextsRow.holds Try.pinned (OpenSpec.ofChange regionTextsSpec)

/-- ITS FALSE NEIGHBOUR: 'it returns false'. Refute it at one input. -/
def regionTextsWrong : ChangeSpec := { name := "regionTexts", fn := fun _ => fun
  | [d1, d2] => { results := [.lit (.bool false)], args := [d1, d2] }
  | _ => none }
def RegionTextsWrongFalsely : Prop := regionTextsRow.holds Try.pinned (OpenSpec.ofChange regionTextsWrong)

/-- 'regattalaw10.RegionChain': WHATEVER THE INPUT: true; the input reads as it did. -/
def regionChainSpec : ChangeSpec := { name := "regionChain", fn := fun _ => fun
  | [d1, d2, d3] => { results := [.lit (.bool true)], args := [d1, d2, d3] }
  | _ => none }
def regionChainRow : OpenClaim := { program := "ytnenfflkldpbgaa", sum := "9a4445e07c92a761b430a858d8a32bead8cc5e8597843eedb796046a18e789bd", func := "regatta/regattalaw10.RegionChain", spec := "regionChain", inPlace := ["internal/bytealg.Compare"], unfollowed := true, recurses := true, apart := false }
def RegionChainSaid : Prop := regionChainRow.holds Try.pinned (OpenSpec.ofChange regionChainSpec)

/-- ITS FALSE NEIGHBOUR: 'it returns false'. Refute it at one input. -/
def regionChainWrong : ChangeSpec := { name := "regionChain", fn := fun _ => fun
  | [d1, d2, d3] => { results := [.lit (.bool false)], args := [d1, d2, d3] }
  | _ => none }
def RegionChainWrongFalsely : Prop := regionChainRow.holds Try.pinned (OpenSpec.ofChange regionChainWrong)

/-- 'regattalaw10.RegionEpochs': WHATEVER THE INPUT: true; the input reads as it did. -/
def regionEpochsSpec : ChangeSpec := { name := "regionEpochs", fn := fun _ => fun
  | [d1, d2, d3] => { results := [.lit (.bool true)], args := [d1, d2, d3] }
  | _ => none }
def regionEpochsRow : OpenClaim := { program := "ytnenfflkldpbgaa", sum := "9a4445e07c92a761b430a858d8a32bead8cc5e8597843eedb796046a18e789bd", func := "regatta/regattalaw10.RegionEpochs", spec := "regionEpochs", inPlace := ["internal/bytealg.Compare"], unfollowed := true, recurses := true, apart := false }
def RegionEpochsSaid : Prop := regionEpochsRow.holds Try.pinned (OpenSpec.ofChange regionEpochsSpec)

/-- ITS FALSE NEIGHBOUR: 'it returns false'. Refute it at one input. -/
def regionEpochsWrong : ChangeSpec := { name := "regionEpochs", fn := fun _ => fun
  | [d1, d2, d3] => { results := [.lit (.bool false)], args := [d1, d2, d3] }
  | _ => none }
def RegionEpochsWrongFalsely : Prop := regionEpochsRow.holds Try.pinned (OpenSpec.ofChange regionEpochsWrong)

/-- 'regattalaw10.RegionRanges': WHATEVER THE INPUT: true; the input reads as it did. -/
def regionRangesSpec : ChangeSpec := { name := "regionRanges", fn := fun _ => fun
  | [d1, d2, d3] => { results := [.lit (.bool true)], args := [d1, d2, d3] }
  | _ => none }
def regionRangesRow : OpenClaim := { program := "ytnenfflkldpbgaa", sum := "9a4445e07c92a761b430a858d8a32bead8cc5e8597843eedb796046a18e789bd", func := "regatta/regattalaw10.RegionRanges", spec := "regionRanges", inPlace := ["internal/bytealg.Compare"], unfollowed := true, recurses := true, apart := false }
def RegionRangesSaid : Prop := regionRangesRow.holds Try.pinned (OpenSpec.ofChange regionRangesSpec)

/-- ITS FALSE NEIGHBOUR: 'it returns false'. Refute it at one input. -/
def regionRangesWrong : ChangeSpec := { name := "regionRanges", fn := fun _ => fun
  | [d1, d2, d3] => { results := [.lit (.bool false)], args := [d1, d2, d3] }
  | _ => none }
def RegionRangesWrongFalsely : Prop := regionRangesRow.holds Try.pinned (OpenSpec.ofChange regionRangesWrong)

/- THE SECOND FORM. 'bulk': how many values and letters a reading holds, each counted each time it is reached (what is shared counts as often as it is met; a slice's spare places count too). A statement '..UptoSaid' is the law's where the arguments, and the package variables that the reading takes, are together of bulk at most 1048576: NARROWER than '..Said'. Prove '..Said' where nothing that the law and all that it calls make is longer than what came in: it says more and counts as full. Else prove '..UptoSaid'. A law counts once. -/
mutual
def uptoBulk {H : Type} : DataW H → Nat
  | .lit (.string bytes) => bytes.length + 1
  | .lit _ => 1
  | .nil => 1
  | .ptr d => uptoBulk d + 1
  | .slice elems spare => uptoBulkAll elems + uptoBulkAll spare + 1
  | .agg parts => uptoBulkAll parts + 1
  | .iface _ d => uptoBulk d + 1
  | .map entries => uptoBulkEntries entries + 1
  | .held _ => 1
def uptoBulkAll {H : Type} : List (DataW H) → Nat
  | [] => 0
  | d :: r => uptoBulk d + uptoBulkAll r
def uptoBulkEntries {H : Type} : List (Lit × DataW H) → Nat
  | [] => 0
  | x :: r => uptoBulkEntry x + uptoBulkEntries r
def uptoBulkEntry {H : Type} : Lit × DataW H → Nat
  | (.string bytes, d) => bytes.length + uptoBulk d + 1
  | (_, d) => uptoBulk d + 1
 end
def uptoSmall : (H : Type) → List (DataW H) → Bool := fun _ ds => decide (uptoBulkAll ds ≤ 1048576)
def OpenSpec.upto (s : _root_.Go.ChangeSpec) : _root_.Go.OpenSpec := { _root_.Go.OpenSpec.ofChange s with cond := some uptoSmall }

/-- 'regattalaw10.RegionCodes', WHERE WHAT IT READS IS OF BULK AT MOST 1048576: true; the input reads as it did. -/
def regionCodesUptoRow : OpenClaim := { program := "ytnenfflkldpbgaa", sum := "9a4445e07c92a761b430a858d8a32bead8cc5e8597843eedb796046a18e789bd", func := "regatta/regattalaw10.RegionCodes", spec := "regionCodes", inPlace := ["internal/bytealg.Compare"], unfollowed := true, recurses := true, apart := false, narrowed := true }
def RegionCodesUptoSaid : Prop := regionCodesUptoRow.holds Try.pinned (OpenSpec.upto regionCodesSpec)

/-- 'regattalaw10.RegionLooks', WHERE WHAT IT READS IS OF BULK AT MOST 1048576: true; the input reads as it did. -/
def regionLooksUptoRow : OpenClaim := { program := "ytnenfflkldpbgaa", sum := "9a4445e07c92a761b430a858d8a32bead8cc5e8597843eedb796046a18e789bd", func := "regatta/regattalaw10.RegionLooks", spec := "regionLooks", inPlace := ["internal/bytealg.Compare"], unfollowed := true, recurses := true, apart := false, narrowed := true }
def RegionLooksUptoSaid : Prop := regionLooksUptoRow.holds Try.pinned (OpenSpec.upto regionLooksSpec)

/-- 'regattalaw10.RegionTexts', WHERE WHAT IT READS IS OF BULK AT MOST 1048576: true; the input reads as it did. -/
def regionTextsUptoRow : OpenClaim := { program := "ytnenfflkldpbgaa", sum := "9a4445e07c92a761b430a858d8a32bead8cc5e8597843eedb796046a18e789bd", func := "regatta/regattalaw10.RegionTexts", spec := "regionTexts", inPlace := ["internal/bytealg.Compare"], unfollowed := true, recurses := true, apart := false, narrowed := true }
def RegionTextsUptoSaid : Prop := regionTextsUptoRow.holds Try.pinned (OpenSpec.upto regionTextsSpec)

/-- 'regattalaw10.RegionChain', WHERE WHAT IT READS IS OF BULK AT MOST 1048576: true; the input reads as it did. -/
def regionChainUptoRow : OpenClaim := { program := "ytnenfflkldpbgaa", sum := "9a4445e07c92a761b430a858d8a32bead8cc5e8597843eedb796046a18e789bd", func := "regatta/regattalaw10.RegionChain", spec := "regionChain", inPlace := ["internal/bytealg.Compare"], unfollowed := true, recurses := true, apart := false, narrowed := true }
def RegionChainUptoSaid : Prop := regionChainUptoRow.holds Try.pinned (OpenSpec.upto regionChainSpec)

/-- 'regattalaw10.RegionEpochs', WHERE WHAT IT READS IS OF BULK AT MOST 1048576: true; the input reads as it did. -/
def regionEpochsUptoRow : OpenClaim := { program := "ytnenfflkldpbgaa", sum := "9a4445e07c92a761b430a858d8a32bead8cc5e8597843eedb796046a18e789bd", func := "regatta/regattalaw10.RegionEpochs", spec := "regionEpochs", inPlace := ["internal/bytealg.Compare"], unfollowed := true, recurses := true, apart := false, narrowed := true }
def RegionEpochsUptoSaid : Prop := regionEpochsUptoRow.holds Try.pinned (OpenSpec.upto regionEpochsSpec)

/-- 'regattalaw10.RegionRanges', WHERE WHAT IT READS IS OF BULK AT MOST 1048576: true; the input reads as it did. -/
def regionRangesUptoRow : OpenClaim := { program := "ytnenfflkldpbgaa", sum := "9a4445e07c92a761b430a858d8a32bead8cc5e8597843eedb796046a18e789bd", func := "regatta/regattalaw10.RegionRanges", spec := "regionRanges", inPlace := ["internal/bytealg.Compare"], unfollowed := true, recurses := true, apart := false, narrowed := true }
def RegionRangesUptoSaid : Prop := regionRangesUptoRow.holds Try.pinned (OpenSpec.upto regionRangesSpec)

end Rows
end Go.Proofs.Ytnenfflkldpbgaa
