/-
  No cell of these rows narrows 'for every input' (looked for: loops, veiled, ifaces, maps, wideKeys, modest, calm, conditions, laid).
  DERIVED. THE GIVEN ROWS OF THIS SEAT. 3 by the template 'for every input the law returns true; each argument reads behind the call as it read before'; 0 by the template 'total and deterministic' (their statements: YtiponjphodhdjaaTotals.lean).
  GIVEN WITH THE SEED: the statements are not yours to turn. If you find one false, say at which input.
  Laid BY PROGRAM, IN A SANDBOX (cutbox-rows.mjs): the forced cells as the released guide's own fill.sh prints them over the translation a65fc8cfb07a34f2… (all of the seat's roots in one cut). By AI agents, Wed Nov 11 2026. No macro, syntax, notation, axiom, sorry.
-/
import Derived.Test.YtiponjphodhdjaaChecked
import GoSem.Claim
import GoSem.ClaimJoined
import GoSem.ClaimMapViews
import Derived.JoinedTies
import Derived.KernelRfl
namespace Go.Proofs.Ytiponjphodhdjaa
/- THE CELL 'sum', in the pinned program and in every row, IS THE sha256 OF THE DUMP (.gsa) THAT YtiponjphodhdjaaProg.lean LOADS. Nothing in Lean hashes anything: it is a label: what it is worth is what the hold of that sum in a sandbox is worth. -/
noncomputable def Try.pinned : Pinned := { name := "ytiponjphodhdjaa", sum := "a65fc8cfb07a34f23c873cd8fc30d451d5c124de9766a285b2d48a463c1837b2", checked := Try.checked }
namespace Rows
def none {H : Type} : Left H := { results := [], args := [] }

/-- 'regattalaw15.TsoPlays': WHATEVER THE INPUT: true; the input reads as it did. -/
def tsoPlaysSpec : ChangeSpec := { name := "tsoPlays", fn := fun _ => fun
  | [d1, d2] => { results := [.lit (.bool true)], args := [d1, d2] }
  | _ => none }
def tsoPlaysRow : OpenClaim := { program := "ytiponjphodhdjaa", sum := "a65fc8cfb07a34f23c873cd8fc30d451d5c124de9766a285b2d48a463c1837b2", func := "regatta/regattalaw15.TsoPlays", spec := "tsoPlays", unfollowed := true, recurses := true, apart := false }
def TsoPlaysSaid : Prop := tsoPlaysRow.holds Try.pinned (OpenSpec.ofChange tsoPlaysSpec)

/-- ITS FALSE NEIGHBOUR: 'it returns false'. Refute it at one input. -/
def tsoPlaysWrong : ChangeSpec := { name := "tsoPlays", fn := fun _ => fun
  | [d1, d2] => { results := [.lit (.bool false)], args := [d1, d2] }
  | _ => none }
def TsoPlaysWrongFalsely : Prop := tsoPlaysRow.holds Try.pinned (OpenSpec.ofChange tsoPlaysWrong)

/-- 'regattalaw15.TsoRises': WHATEVER THE INPUT: true; the input reads as it did. -/
def tsoRisesSpec : ChangeSpec := { name := "tsoRises", fn := fun _ => fun
  | [d] => { results := [.lit (.bool true)], args := [d] }
  | _ => none }
def tsoRisesRow : OpenClaim := { program := "ytiponjphodhdjaa", sum := "a65fc8cfb07a34f23c873cd8fc30d451d5c124de9766a285b2d48a463c1837b2", func := "regatta/regattalaw15.TsoRises", spec := "tsoRises", unfollowed := true, recurses := true, apart := false }
def TsoRisesSaid : Prop := tsoRisesRow.holds Try.pinned (OpenSpec.ofChange tsoRisesSpec)

/-- ITS FALSE NEIGHBOUR: 'it returns false'. Refute it at one input. -/
def tsoRisesWrong : ChangeSpec := { name := "tsoRises", fn := fun _ => fun
  | [d] => { results := [.lit (.bool false)], args := [d] }
  | _ => none }
def TsoRisesWrongFalsely : Prop := tsoRisesRow.holds Try.pinned (OpenSpec.ofChange tsoRisesWrong)

/-- 'regattalaw15.TsoWants': WHATEVER THE INPUT: true; the input reads as it did. -/
def tsoWantsSpec : ChangeSpec := { name := "tsoWants", fn := fun _ => fun
  | [d1, d2] => { results := [.lit (.bool true)], args := [d1, d2] }
  | _ => none }
def tsoWantsRow : OpenClaim := { program := "ytiponjphodhdjaa", sum := "a65fc8cfb07a34f23c873cd8fc30d451d5c124de9766a285b2d48a463c1837b2", func := "regatta/regattalaw15.TsoWants", spec := "tsoWants", unfollowed := true, recurses := true, apart := false }
def TsoWantsSaid : Prop := tsoWantsRow.holds Try.pinned (OpenSpec.ofChange tsoWantsSpec)

/-- ITS FALSE NEIGHBOUR: 'it returns false'. Refute it at one input. -/
def tsoWantsWrong : ChangeSpec := { name := "tsoWants", fn := fun _ => fun
  | [d1, d2] => { results := [.lit (.bool false)], args := [d1, d2] }
  | _ => none }
def TsoWantsWrongFalsely : Prop := tsoWantsRow.holds Try.pinned (OpenSpec.ofChange tsoWantsWrong)

/- THE SECOND FORM. 'bulk': how many values and letters a reading holds, each counted each time it is reached (what is shared counts as often as it is met; a slice's spare places count too). A statement '..UptoSaid' is the law's where the arguments, and the package variables that the reading takes, are together of bulk at most 1048576: NARROWER than '..Said'. Prove '..Said' where nothing that the law and all that it calls make is longer than what came in: it says more and counts as full. Else prove '..UptoSaid'. A law counts once. -/
mutual
def uptoBulk {H : Type} : DataW H → Nat
  | .lit (.string bytes) => bytes.length + 1
  | .lit _ => 1
  | .nil => 1
  | .ptr d => uptoBulk d + 1
  | .slice elems spare => uptoBulkAll elems + uptoBulkAll spare + 1
  | .agg parts => uptoBulkAll parts + 1
  | .iface _ d => uptoBulk d + 1
  | .map entries => uptoBulkEntries entries + 1
  | .held _ => 1
def uptoBulkAll {H : Type} : List (DataW H) → Nat
  | [] => 0
  | d :: r => uptoBulk d + uptoBulkAll r
def uptoBulkEntries {H : Type} : List (Lit × DataW H) → Nat
  | [] => 0
  | x :: r => uptoBulkEntry x + uptoBulkEntries r
def uptoBulkEntry {H : Type} : Lit × DataW H → Nat
  | (.string bytes, d) => bytes.length + uptoBulk d + 1
  | (_, d) => uptoBulk d + 1
 end
def uptoSmall : (H : Type) → List (DataW H) → Bool := fun _ ds => decide (uptoBulkAll ds ≤ 1048576)
def OpenSpec.upto (s : _root_.Go.ChangeSpec) : _root_.Go.OpenSpec := { _root_.Go.OpenSpec.ofChange s with cond := some uptoSmall }

/-- 'regattalaw15.TsoPlays', WHERE WHAT IT READS IS OF BULK AT MOST 1048576: true; the input reads as it did. -/
def tsoPlaysUptoRow : OpenClaim := { program := "ytiponjphodhdjaa", sum := "a65fc8cfb07a34f23c873cd8fc30d451d5c124de9766a285b2d48a463c1837b2", func := "regatta/regattalaw15.TsoPlays", spec := "tsoPlays", unfollowed := true, recurses := true, apart := false, narrowed := true }
def TsoPlaysUptoSaid : Prop := tsoPlaysUptoRow.holds Try.pinned (OpenSpec.upto tsoPlaysSpec)

/-- 'regattalaw15.TsoRises', WHERE WHAT IT READS IS OF BULK AT MOST 1048576: true; the input reads as it did. -/
def tsoRisesUptoRow : OpenClaim := { program := "ytiponjphodhdjaa", sum := "a65fc8cfb07a34f23c873cd8fc30d451d5c124de9766a285b2d48a463c1837b2", func := "regatta/regattalaw15.TsoRises", spec := "tsoRises", unfollowed := true, recurses := true, apart := false, narrowed := true }
def TsoRisesUptoSaid : Prop := tsoRisesUptoRow.holds Try.pinned (OpenSpec.upto tsoRisesSpec)

/-- 'regattalaw15.TsoWants', WHERE WHAT IT READS IS OF BULK AT MOST 1048576: true; the input reads as it did. -/
def tsoWantsUptoRow : OpenClaim := { program := "ytiponjphodhdjaa", sum := "a65fc8cfb07a34f23c873cd8fc30d451d5c124de9766a285b2d48a463c1837b2", func := "regatta/regattalaw15.TsoWants", spec := "tsoWants", unfollowed := true, recurses := true, apart := false, narrowed := true }
def TsoWantsUptoSaid : Prop := tsoWantsUptoRow.holds Try.pinned (OpenSpec.upto tsoWantsSpec)

end Rows
end Go.Proofs.Ytiponjphodhdjaa
