/-
  No cell of these rows narrows 'for every input' (looked for: loops, veiled, ifaces, maps, wideKeys, modest, calm, conditions, laid).
  DERIVED. THE GIVEN ROWS OF THIS SEAT. 2 by the template 'for every input the law returns true; each argument reads behind the call as it read before'; 0 by the template 'total and deterministic' (their statements: YtefhinopppdjbaaGreatTotals.lean).
  GIVEN WITH THE SEED: the statements are not yours to turn. If you find one false, say at which input.
  Laid BY PROGRAM, IN A SANDBOX (cutbox-rows.mjs): the forced cells as the released guide's own fill.sh prints them over the translation e2529a618da201cc… (all of the seat's roots in one cut). By AI agents, Wed Nov 11 2026. No macro, syntax, notation, axiom, sorry.
-/
import Derived.Test.YtefhinopppdjbaaGreatChecked
import GoSem.Claim
import GoSem.ClaimJoined
import GoSem.ClaimMapViews
import Derived.JoinedTies
import Derived.KernelRfl
namespace Go.Proofs.YtefhinopppdjbaaGreat
/- THE CELL 'sum', in the pinned program and in every row, IS THE sha256 OF THE DUMP (.gsa) THAT YtefhinopppdjbaaGreatProg.lean LOADS. Nothing in Lean hashes anything: it is a label: what it is worth is what the hold of that sum in a sandbox is worth. -/
noncomputable def Tryz.pinned : Pinned := { name := "ytefhinopppdjbaagreat", sum := "e2529a618da201cc193cab278ec715998f3796546bf4db66e8d5ee80f03b93a9", checked := Tryz.checked }
namespace Rows
def none {H : Type} : Left H := { results := [], args := [] }

/-- 'regattalaw16.PdGuards': WHATEVER THE INPUT: true; the input reads as it did. -/
def pdGuardsSpec : ChangeSpec := { name := "pdGuards", fn := fun _ => fun
  | [d1, d2, d3, d4] => { results := [.lit (.bool true)], args := [d1, d2, d3, d4] }
  | _ => none }
def pdGuardsRow : OpenClaim := { program := "ytefhinopppdjbaagreat", sum := "e2529a618da201cc193cab278ec715998f3796546bf4db66e8d5ee80f03b93a9", func := "regatta/regattalaw16.PdGuards", spec := "pdGuards", inPlace := ["internal/bytealg.Compare", "slices.overlaps[regatta/api.Region]"], unfollowed := true, recurses := true, apart := false }
def PdGuardsSaid : Prop := pdGuardsRow.holds Tryz.pinned (OpenSpec.ofChange pdGuardsSpec)

/-- ITS FALSE NEIGHBOUR: 'it returns false'. Refute it at one input. -/
def pdGuardsWrong : ChangeSpec := { name := "pdGuards", fn := fun _ => fun
  | [d1, d2, d3, d4] => { results := [.lit (.bool false)], args := [d1, d2, d3, d4] }
  | _ => none }
def PdGuardsWrongFalsely : Prop := pdGuardsRow.holds Tryz.pinned (OpenSpec.ofChange pdGuardsWrong)

/-- 'regattalaw16.PdStores': WHATEVER THE INPUT: true; the input reads as it did. -/
def pdStoresSpec : ChangeSpec := { name := "pdStores", fn := fun _ => fun
  | [d1, d2] => { results := [.lit (.bool true)], args := [d1, d2] }
  | _ => none }
def pdStoresRow : OpenClaim := { program := "ytefhinopppdjbaagreat", sum := "e2529a618da201cc193cab278ec715998f3796546bf4db66e8d5ee80f03b93a9", func := "regatta/regattalaw16.PdStores", spec := "pdStores", inPlace := ["internal/bytealg.Compare", "slices.overlaps[regatta/api.Region]"], unfollowed := true, recurses := true, apart := false }
def PdStoresSaid : Prop := pdStoresRow.holds Tryz.pinned (OpenSpec.ofChange pdStoresSpec)

/-- ITS FALSE NEIGHBOUR: 'it returns false'. Refute it at one input. -/
def pdStoresWrong : ChangeSpec := { name := "pdStores", fn := fun _ => fun
  | [d1, d2] => { results := [.lit (.bool false)], args := [d1, d2] }
  | _ => none }
def PdStoresWrongFalsely : Prop := pdStoresRow.holds Tryz.pinned (OpenSpec.ofChange pdStoresWrong)

/- THE SECOND FORM. 'bulk': how many values and letters a reading holds, each counted each time it is reached (what is shared counts as often as it is met; a slice's spare places count too). A statement '..UptoSaid' is the law's where the arguments, and the package variables that the reading takes, are together of bulk at most 1048576: NARROWER than '..Said'. Prove '..Said' where nothing that the law and all that it calls make is longer than what came in: it says more and counts as full. Else prove '..UptoSaid'. A law counts once. -/
mutual
def uptoBulk {H : Type} : DataW H → Nat
  | .lit (.string bytes) => bytes.length + 1
  | .lit _ => 1
  | .nil => 1
  | .ptr d => uptoBulk d + 1
  | .slice elems spare => uptoBulkAll elems + uptoBulkAll spare + 1
  | .agg parts => uptoBulkAll parts + 1
  | .iface _ d => uptoBulk d + 1
  | .map entries => uptoBulkEntries entries + 1
  | .held _ => 1
def uptoBulkAll {H : Type} : List (DataW H) → Nat
  | [] => 0
  | d :: r => uptoBulk d + uptoBulkAll r
def uptoBulkEntries {H : Type} : List (Lit × DataW H) → Nat
  | [] => 0
  | x :: r => uptoBulkEntry x + uptoBulkEntries r
def uptoBulkEntry {H : Type} : Lit × DataW H → Nat
  | (.string bytes, d) => bytes.length + uptoBulk d + 1
  | (_, d) => uptoBulk d + 1
 end
def uptoSmall : (H : Type) → List (DataW H) → Bool := fun _ ds => decide (uptoBulkAll ds ≤ 1048576)
def OpenSpec.upto (s : _root_.Go.ChangeSpec) : _root_.Go.OpenSpec := { _root_.Go.OpenSpec.ofChange s with cond := some uptoSmall }

/-- 'regattalaw16.PdGuards', WHERE WHAT IT READS IS OF BULK AT MOST 1048576: true; the input reads as it did. -/
def pdGuardsUptoRow : OpenClaim := { program := "ytefhinopppdjbaagreat", sum := "e2529a618da201cc193cab278ec715998f3796546bf4db66e8d5ee80f03b93a9", func := "regatta/regattalaw16.PdGuards", spec := "pdGuards", inPlace := ["internal/bytealg.Compare", "slices.overlaps[regatta/api.Region]"], unfollowed := true, recurses := true, apart := false, narrowed := true }
def PdGuardsUptoSaid : Prop := pdGuardsUptoRow.holds Tryz.pinned (OpenSpec.upto pdGuardsSpec)

/-- 'regattalaw16.PdStores', WHERE WHAT IT READS IS OF BULK AT MOST 1048576: true; the input reads as it did. -/
def pdStoresUptoRow : OpenClaim := { program := "ytefhinopppdjbaagreat", sum := "e2529a618da201cc193cab278ec715998f3796546bf4db66e8d5ee80f03b93a9", func := "regatta/regattalaw16.PdStores", spec := "pdStores", inPlace := ["internal/bytealg.Compare", "slices.overlaps[regatta/api.Region]"], unfollowed := true, recurses := true, apart := false, narrowed := true }
def PdStoresUptoSaid : Prop := pdStoresUptoRow.holds Tryz.pinned (OpenSpec.upto pdStoresSpec)

end Rows
end Go.Proofs.YtefhinopppdjbaaGreat
