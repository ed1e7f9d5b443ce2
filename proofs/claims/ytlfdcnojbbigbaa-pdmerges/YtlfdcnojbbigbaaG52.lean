/- PdMerges, walked. -/
import Derived.Test.YtlfdcnojbbigbaaG46
import Derived.Test.YtlfdcnojbbigbaaG51
namespace Go.Proofs.Ytlfdcnojbbigbaa
open Go.RowKit Go.Maps
set_option linter.unusedVariables false
theorem pm_walk {kv mv : Value} {key : List UInt8} {nm : Nat} {mf : Nat → Bool} (n : UInt64) (first : Bool) {w : World} (hk : Rd w kv key) (hm : RdB w mv nm mf) :
    Calls Try.prog 3 #[.int .u64 (n.toNat : Int), kv, .bool first, mv] w fun e w' => e = .returned (.bool true) ∧ Below w.heap.size w w' := by
  by_cases hb : key.length = 0 ∨ 64 < key.length
  · exact pdMerges_bad n first hk hm hb
  · exact pdMerges_ok n first (fun c w h0 h64 q1 q2 e1 e2 e3 e4 => pm_merges h0 h64 q1 q2 e1 e2 e3 e4) hk hm hb
end Go.Proofs.Ytlfdcnojbbigbaa
