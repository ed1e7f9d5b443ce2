/-
  No cell of these rows narrows 'for every input' (looked for: loops, veiled, ifaces, maps, wideKeys, modest, calm, conditions, laid).
  DERIVED. THE GIVEN ROWS OF THIS SEAT. 5 by the template 'for every input the law returns true; each argument reads behind the call as it read before'; 0 by the template 'total and deterministic' (their statements: YtlajncjamafomaaTotals.lean).
  GIVEN WITH THE SEED: the statements are not yours to turn. If you find one false, say at which input.
  Laid BY PROGRAM, IN A SANDBOX (cutbox-rows.mjs): the forced cells as the released guide's own fill.sh prints them over the translation b58fcf0b6561fba3… (all of the seat's roots in one cut). By AI agents, Wed Nov 11 2026. No macro, syntax, notation, axiom, sorry.
-/
import Derived.Test.YtlajncjamafomaaChecked
import GoSem.Claim
import GoSem.ClaimJoined
import GoSem.ClaimMapViews
import Derived.JoinedTies
import Derived.KernelRfl
namespace Go.Proofs.Ytlajncjamafomaa
/- THE CELL 'sum', in the pinned program and in every row, IS THE sha256 OF THE DUMP (.gsa) THAT YtlajncjamafomaaProg.lean LOADS. Nothing in Lean hashes anything: it is a label: what it is worth is what the hold of that sum in a sandbox is worth. -/
noncomputable def Try.pinned : Pinned := { name := "ytlajncjamafomaa", sum := "b58fcf0b6561fba3f6858d30631f57097a1c2d086826b481f6f080c8cc4261c4", checked := Try.checked }
namespace Rows
def none {H : Type} : Left H := { results := [], args := [] }

/-- 'regattalaw14.ParcelPacks': WHATEVER THE INPUT: true; the input reads as it did. -/
def parcelPacksSpec : ChangeSpec := { name := "parcelPacks", fn := fun _ => fun
  | [d1, d2] => { results := [.lit (.bool true)], args := [d1, d2] }
  | _ => none }
def parcelPacksRow : OpenClaim := { program := "ytlajncjamafomaa", sum := "b58fcf0b6561fba3f6858d30631f57097a1c2d086826b481f6f080c8cc4261c4", func := "regatta/regattalaw14.ParcelPacks", spec := "parcelPacks", unfollowed := true, recurses := true, apart := false }
def ParcelPacksSaid : Prop := parcelPacksRow.holds Try.pinned (OpenSpec.ofChange parcelPacksSpec)

/-- ITS FALSE NEIGHBOUR: 'it returns false'. Refute it at one input. -/
def parcelPacksWrong : ChangeSpec := { name := "parcelPacks", fn := fun _ => fun
  | [d1, d2] => { results := [.lit (.bool false)], args := [d1, d2] }
  | _ => none }
def ParcelPacksWrongFalsely : Prop := parcelPacksRow.holds Try.pinned (OpenSpec.ofChange parcelPacksWrong)

/-- 'regattalaw14.ParcelBoxes': WHATEVER THE INPUT: true; the input reads as it did. -/
def parcelBoxesSpec : ChangeSpec := { name := "parcelBoxes", fn := fun _ => fun
  | [d1, d2, d3] => { results := [.lit (.bool true)], args := [d1, d2, d3] }
  | _ => none }
def parcelBoxesRow : OpenClaim := { program := "ytlajncjamafomaa", sum := "b58fcf0b6561fba3f6858d30631f57097a1c2d086826b481f6f080c8cc4261c4", func := "regatta/regattalaw14.ParcelBoxes", spec := "parcelBoxes", unfollowed := true, recurses := true, apart := false }
def ParcelBoxesSaid : Prop := parcelBoxesRow.holds Try.pinned (OpenSpec.ofChange parcelBoxesSpec)

/-- ITS FALSE NEIGHBOUR: 'it returns false'. Refute it at one input. -/
def parcelBoxesWrong : ChangeSpec := { name := "parcelBoxes", fn := fun _ => fun
  | [d1, d2, d3] => { results := [.lit (.bool false)], args := [d1, d2, d3] }
  | _ => none }
def ParcelBoxesWrongFalsely : Prop := parcelBoxesRow.holds Try.pinned (OpenSpec.ofChange parcelBoxesWrong)

/-- 'regattalaw14.ParcelBack': WHATEVER THE INPUT: true; the input reads as it did. -/
def parcelBackSpec : ChangeSpec := { name := "parcelBack", fn := fun _ => fun
  | [d1, d2, d3, d4] => { results := [.lit (.bool true)], args := [d1, d2, d3, d4] }
  | _ => none }
def parcelBackRow : OpenClaim := { program := "ytlajncjamafomaa", sum := "b58fcf0b6561fba3f6858d30631f57097a1c2d086826b481f6f080c8cc4261c4", func := "regatta/regattalaw14.ParcelBack", spec := "parcelBack", unfollowed := true, recurses := true, apart := false }
def ParcelBackSaid : Prop := parcelBackRow.holds Try.pinned (OpenSpec.ofChange parcelBackSpec)

/-- ITS FALSE NEIGHBOUR: 'it returns false'. Refute it at one input. -/
def parcelBackWrong : ChangeSpec := { name := "parcelBack", fn := fun _ => fun
  | [d1, d2, d3, d4] => { results := [.lit (.bool false)], args := [d1, d2, d3, d4] }
  | _ => none }
def ParcelBackWrongFalsely : Prop := parcelBackRow.holds Try.pinned (OpenSpec.ofChange parcelBackWrong)

/-- 'regattalaw14.ParcelOthers': WHATEVER THE INPUT: true; the input reads as it did. -/
def parcelOthersSpec : ChangeSpec := { name := "parcelOthers", fn := fun _ => fun
  | [d1, d2, d3] => { results := [.lit (.bool true)], args := [d1, d2, d3] }
  | _ => none }
def parcelOthersRow : OpenClaim := { program := "ytlajncjamafomaa", sum := "b58fcf0b6561fba3f6858d30631f57097a1c2d086826b481f6f080c8cc4261c4", func := "regatta/regattalaw14.ParcelOthers", spec := "parcelOthers", unfollowed := true, recurses := true, apart := false }
def ParcelOthersSaid : Prop := parcelOthersRow.holds Try.pinned (OpenSpec.ofChange parcelOthersSpec)

/-- ITS FALSE NEIGHBOUR: 'it returns false'. Refute it at one input. -/
def parcelOthersWrong : ChangeSpec := { name := "parcelOthers", fn := fun _ => fun
  | [d1, d2, d3] => { results := [.lit (.bool false)], args := [d1, d2, d3] }
  | _ => none }
def ParcelOthersWrongFalsely : Prop := parcelOthersRow.holds Try.pinned (OpenSpec.ofChange parcelOthersWrong)

/-- 'regattalaw14.ParcelSizes': WHATEVER THE INPUT: true; the input reads as it did. -/
def parcelSizesSpec : ChangeSpec := { name := "parcelSizes", fn := fun _ => fun
  | [d1, d2, d3] => { results := [.lit (.bool true)], args := [d1, d2, d3] }
  | _ => none }
def parcelSizesRow : OpenClaim := { program := "ytlajncjamafomaa", sum := "b58fcf0b6561fba3f6858d30631f57097a1c2d086826b481f6f080c8cc4261c4", func := "regatta/regattalaw14.ParcelSizes", spec := "parcelSizes", unfollowed := true, recurses := true, apart := false }
def ParcelSizesSaid : Prop := parcelSizesRow.holds Try.pinned (OpenSpec.ofChange parcelSizesSpec)

/-- ITS FALSE NEIGHBOUR: 'it returns false'. Refute it at one input. -/
def parcelSizesWrong : ChangeSpec := { name := "parcelSizes", fn := fun _ => fun
  | [d1, d2, d3] => { results := [.lit (.bool false)], args := [d1, d2, d3] }
  | _ => none }
def ParcelSizesWrongFalsely : Prop := parcelSizesRow.holds Try.pinned (OpenSpec.ofChange parcelSizesWrong)

/- THE SECOND FORM. 'bulk': how many values and letters a reading holds, each counted each time it is reached (what is shared counts as often as it is met; a slice's spare places count too). A statement '..UptoSaid' is the law's where the arguments, and the package variables that the reading takes, are together of bulk at most 1048576: NARROWER than '..Said'. Prove '..Said' where nothing that the law and all that it calls make is longer than what came in: it says more and counts as full. Else prove '..UptoSaid'. A law counts once. -/
mutual
def uptoBulk {H : Type} : DataW H → Nat
  | .lit (.string bytes) => bytes.length + 1
  | .lit _ => 1
  | .nil => 1
  | .ptr d => uptoBulk d + 1
  | .slice elems spare => uptoBulkAll elems + uptoBulkAll spare + 1
  | .agg parts => uptoBulkAll parts + 1
  | .iface _ d => uptoBulk d + 1
  | .map entries => uptoBulkEntries entries + 1
  | .held _ => 1
def uptoBulkAll {H : Type} : List (DataW H) → Nat
  | [] => 0
  | d :: r => uptoBulk d + uptoBulkAll r
def uptoBulkEntries {H : Type} : List (Lit × DataW H) → Nat
  | [] => 0
  | x :: r => uptoBulkEntry x + uptoBulkEntries r
def uptoBulkEntry {H : Type} : Lit × DataW H → Nat
  | (.string bytes, d) => bytes.length + uptoBulk d + 1
  | (_, d) => uptoBulk d + 1
 end
def uptoSmall : (H : Type) → List (DataW H) → Bool := fun _ ds => decide (uptoBulkAll ds ≤ 1048576)
def OpenSpec.upto (s : _root_.Go.ChangeSpec) : _root_.Go.OpenSpec := { _root_.Go.OpenSpec.ofChange s with cond := some uptoSmall }

/-- 'regattalaw14.ParcelPacks', WHERE WHAT IT READS IS OF BULK AT MOST 1048576: true; the input reads as it did. -/
def parcelPacksUptoRow : OpenClaim := { program := "ytlajncjamafomaa", sum := "b58fcf0b6561fba3f6858d30631f57097a1c2d086826b481f6f080c8cc4261c4", func := "regatta/regattalaw14.ParcelPacks", spec := "parcelPacks", unfollowed := true, recurses := true, apart := false, narrowed := true }
def ParcelPacksUptoSaid : Prop := parcelPacksUptoRow.holds Try.pinned (OpenSpec.upto parcelPacksSpec)

/-- 'regattalaw14.ParcelBoxes', WHERE WHAT IT READS IS OF BULK AT MOST 1048576: true; the input reads as it did. -/
def parcelBoxesUptoRow : OpenClaim := { program := "ytlajncjamafomaa", sum := "b58fcf0b6561fba3f6858d30631f57097a1c2d086826b481f6f080c8cc4261c4", func := "regatta/regattalaw14.ParcelBoxes", spec := "parcelBoxes", unfollowed := true, recurses := true, apart := false, narrowed := true }
def ParcelBoxesUptoSaid : Prop := parcelBoxesUptoRow.holds Try.pinned (OpenSpec.upto parcelBoxesSpec)

/-- 'regattalaw14.ParcelBack', WHERE WHAT IT READS IS OF BULK AT MOST 1048576: true; the input reads as it did. -/
def parcelBackUptoRow : OpenClaim := { program := "ytlajncjamafomaa", sum := "b58fcf0b6561fba3f6858d30631f57097a1c2d086826b481f6f080c8cc4261c4", func := "regatta/regattalaw14.ParcelBack", spec := "parcelBack", unfollowed := true, recurses := true, apart := false, narrowed := true }
def ParcelBackUptoSaid : Prop := parcelBackUptoRow.holds Try.pinned (OpenSpec.upto parcelBackSpec)

/-- 'regattalaw14.ParcelOthers', WHERE WHAT IT READS IS OF BULK AT MOST 1048576: true; the input reads as it did. -/
def parcelOthersUptoRow : OpenClaim := { program := "ytlajncjamafomaa", sum := "b58fcf0b6561fba3f6858d30631f57097a1c2d086826b481f6f080c8cc4261c4", func := "regatta/regattalaw14.ParcelOthers", spec := "parcelOthers", unfollowed := true, recurses := true, apart := false, narrowed := true }
def ParcelOthersUptoSaid : Prop := parcelOthersUptoRow.holds Try.pinned (OpenSpec.upto parcelOthersSpec)

/-- 'regattalaw14.ParcelSizes', WHERE WHAT IT READS IS OF BULK AT MOST 1048576: true; the input reads as it did. -/
def parcelSizesUptoRow : OpenClaim := { program := "ytlajncjamafomaa", sum := "b58fcf0b6561fba3f6858d30631f57097a1c2d086826b481f6f080c8cc4261c4", func := "regatta/regattalaw14.ParcelSizes", spec := "parcelSizes", unfollowed := true, recurses := true, apart := false, narrowed := true }
def ParcelSizesUptoSaid : Prop := parcelSizesUptoRow.holds Try.pinned (OpenSpec.upto parcelSizesSpec)

end Rows
end Go.Proofs.Ytlajncjamafomaa
