/- One element of any width appended to a row of the call's own. -/
import Derived.Test.YtedfjacmaidhkaaGreatG1
import Derived.Test.YtedfjacmaidhkaaGreatG2
namespace Go.Proofs.YtedfjacmaidhkaaGreat
open Go.RowKit
set_option linter.unusedVariables false
set_option maxRecDepth 100000

theorem wpList_appG {P : Program} {α : Type} (enc : α → List Value) (k bytes : Nat) (ts te : TypeId) (z : Value) (hu : P.underlying ts = some (.slice te)) (hinf : (P.info? te).map (fun i => (i.zero, i.size, i.bytes)) = some (some z, k, bytes)) (hz : z.cells.size = k) (hk0 : 0 < k) (hkl : ∀ x, (enc x).length = k) (h1 : ∀ x, ∀ u ∈ enc x, u.oneCell' = true) (hby : bytes ≤ 127)
    {w : World} {ops : Array Oper} {rest : List Oper} {o : Oper} {a : Act} {Q : Exit → Act → World → Prop} (hgd : o.guard = none) (s x : Operand)
    (ho : o.op = .call { callee := .builtin .append, args := #[s, x], argTypes := #[ts, ts] })
    (B : Nat) (v : Value) (l : List α) (hs : a.eval s = v) (hown : w.ownsRow B te k v l.length (l.flatMap enc)) (ad : Addr) (c : Nat) (e : α) (hx : a.eval x = .slice (some ad) 1 c) (h0 : ∀ (j : Nat) u, (enc e)[j]? = some u → w.cell? (ad.add j) = some u) (hB : B ≤ w.heap.size) (hlen : l.length + 1 ≤ 1099511627776)
    (h : ∀ v' w', w'.ownsRow B te k v' (l ++ [e]).length ((l ++ [e]).flatMap enc) → w.grownBy w' v.ownBlock → (v'.ownBlock = v.ownBlock ∨ v'.ownBlock = some w.heap.size) → wpList P ops Q rest (a.put o.dst v') w') : wpList P ops Q (o :: rest) a w := by
  refine wpList_plain hgd fun K hK => ?_
  have hmul : (l.length + 1) * bytes ≤ 1099511627776 * 127 := Nat.mul_le_mul hlen hby
  obtain ⟨v', w', hr, q2, q3, q4⟩ := run_appW (P := P) w B ts o.type te z k bytes hu hinf hz hk0 v l.length (l.flatMap enc) hown ad 1 c (enc e) (by rw [hkl, Nat.one_mul]) h0 (h1 e) (by unfold maxLen; omega) (by omega) hB
  unfold Oper.wp execOp
  simp only [ho, resolve, invoke, builtin, Sem.run_bind, Sem.run_pure, Result.andThen_ok, List.map_toArray, List.map_cons, List.map_nil, hs, hx, hr]
  exact hK _ _ (h v' w' (by rw [List.length_append, List.flatMap_append]; simpa using q2) q3 q4)
end Go.Proofs.YtedfjacmaidhkaaGreat
