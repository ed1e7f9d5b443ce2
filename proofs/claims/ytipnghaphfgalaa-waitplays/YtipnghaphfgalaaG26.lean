/- Copies of edges, and cells of a row set anew. -/
import Derived.Test.YtipnghaphfgalaaG17
import Derived.Laws.IdiomCopy
import Derived.Lib.AppendZerosOnto
import Derived.Lib.Overlaps
namespace Go.Proofs.Ytipnghaphfgalaa
open Go.RowKit
set_option linter.unusedVariables false
set_option maxRecDepth 100000

theorem run_copyE (w : World) (ty : TypeId) (b o dLen dCap : Nat) (a : Addr) (sLen sCap : Nat) (cs : List Value) (hn : cs.length = Nat.min sLen dLen * 2)
    (hsrc : ∀ j v, cs[j]? = some v → w.cell? (a.add j) = some v) (hc : ∀ j, j < cs.length → (w.cell? ⟨b, o + j, none⟩).isSome = true) (hf : ∀ j, j < cs.length → w.frozen? ⟨b, o + j, none⟩ = false) (h1 : ∀ v ∈ cs, v.oneCell' = true) :
    (Builtin.copy_ #[22, 22] ty #[.slice (some ⟨b, o, none⟩) dLen dCap, .slice (some a) sLen sCap]).run Try.prog w = .ok (goInt (Nat.min sLen dLen)) (w.setCells b o cs) := by
  have hl := run_loadCells_list (P := Try.prog) w a cs hsrc
  have hst := run_storeCells_cells (P := Try.prog) b o cs 0 w (by simpa using hc) (by simpa using hf) h1
  obtain ⟨i, hi, hz0, hz1, hz2⟩ := info_parts Try.infoEd
  simp [Builtin.copy_, run_underlying Try.underlying22, Builtin.lenOf, Builtin.firstCells, sizeOf, typeInfo, hi, hz1, ← hn, hl, hst]
theorem wp_copyE (w : World) {o : Oper} {a : Act} {K : Act → World → Prop} {Q : Exit → Act → World → Prop} (d s : Operand)
    (ho : o.op = .call { callee := .builtin .copy, args := #[d, s], argTypes := #[22, 22] }) (v u : Value) (hd : a.eval d = v) (hs : a.eval s = u) {v' : Value} {w' : World}
    (hr : (Builtin.copy_ #[22, 22] o.type #[v, u]).run Try.prog w = .ok v' w') (h : K (a.put o.dst v') w') : o.wp Try.prog a w K Q := by
  unfold Oper.wp execOp
  simp only [ho, resolve, invoke, builtin, Sem.run_bind, Sem.run_pure, Result.andThen_ok, List.map_toArray, List.map_cons, List.map_nil, hd, hs, hr]
  exact h
theorem wpList_copyE (w : World) {ops : Array Oper} {rest : List Oper} {o : Oper} {a : Act} {Q : Exit → Act → World → Prop} (hgd : o.guard = none) (d s : Operand)
    (ho : o.op = .call { callee := .builtin .copy, args := #[d, s], argTypes := #[22, 22] }) (v u : Value) (hd : a.eval d = v) (hs : a.eval s = u) {v' : Value} {w' : World}
    (hr : (Builtin.copy_ #[22, 22] o.type #[v, u]).run Try.prog w = .ok v' w') (h : wpList Try.prog ops Q rest (a.put o.dst v') w') : wpList Try.prog ops Q (o :: rest) a w :=
  wpList_plain hgd fun _ hK => wp_copyE w d s ho v u hd hs hr (hK _ _ h)
theorem step_copyE {ops : Array Oper} {o : Oper} {a : Act} {w : World} {K : Act → World → Prop} {Q : Exit → Act → World → Prop} {E : Prop}
    (hg : o.guard = none) (d x : Operand) (hop : o.op = .call { callee := .builtin .copy, args := #[d, x], argTypes := #[22, 22] })
    (v u : Value) (hd : a.eval d = v) (hx : a.eval x = u) {v' : Value} {w' : World} (hr : (Builtin.copy_ #[22, 22] o.type #[v, u]).run Try.prog w = .ok v' w') (hK : K (a.put o.dst v') w') :
    if Region.wanted o (yielded ops a.tmps) = true then Oper.wp Try.prog o a w K Q else E := by
  have hw : Region.wanted o (yielded ops a.tmps) = true := by simp [Region.wanted, hg]
  rw [if_pos hw]
  exact wp_copyE w d x hop v u hd hx hr hK

theorem heap_setCells (g : Nat) (t : TypeId) : ∀ (vs : List Value) (o : Nat) (w : World) (cur : Array Value), w.heap[g]? = some (.cells cur t (0, 0)) → o + vs.length ≤ cur.size → ∃ cur' : Array Value, (w.setCells g o vs).heap[g]? = some (.cells cur' t (0, 0)) ∧ cur'.size = cur.size ∧ ∀ j, cur'[j]? = if o ≤ j ∧ j < o + vs.length then vs[j - o]? else cur[j]?
  | [], o, w, cur, h, _ => ⟨cur, h, rfl, fun j => by rw [if_neg (by simp)]⟩
  | v :: r, o, w, cur, h, hl => by
    simp only [List.length_cons] at hl
    have h1 : (w.setCell ⟨g, o, none⟩ v).heap[g]? = some (.cells (cur.setIfInBounds o v) t (0, 0)) := heap_setCell_same _ _ o _ _ _ h
    obtain ⟨cur', q1, q2, q3⟩ := heap_setCells g t r (o + 1) (w.setCell ⟨g, o, none⟩ v) (cur.setIfInBounds o v) h1 (by rw [Array.size_setIfInBounds]; omega)
    refine ⟨cur', q1, by rw [q2, Array.size_setIfInBounds], fun j => ?_⟩
    rw [q3 j]
    by_cases h2 : o + 1 ≤ j ∧ j < o + 1 + r.length
    · rw [if_pos h2, if_pos (by simp only [List.length_cons]; omega)]
      rw [show j - o = (j - (o + 1)) + 1 by omega, List.getElem?_cons_succ]
    · rw [if_neg h2]
      by_cases h3 : j = o
      · subst h3
        rw [if_pos (by simp), Array.getElem?_setIfInBounds_self_of_lt (by omega)]
        simp
      · rw [if_neg (by simp only [List.length_cons]; omega), Array.getElem?_setIfInBounds_ne (by omega)]
theorem chg_setCellsE (g : Nat) (vs : List Value) : ∀ (o : Nat) (w : World), Chg (fun b => b = g) w (w.setCells g o vs) := by
  induction vs with
  | nil => exact fun o w => Chg.refl _ _
  | cons v r ih => exact fun o w => ((Chg.refl (fun b => b = g) w).put g o v rfl).trans ((ih (o + 1) _).mono (fun b _ q => .inl q))
/-- A row into whose middle an edge and then the rest were written. -/
theorem ins_row {W : World} {B g c i : Nat} {E : List Ed} (e : Ed) {cur : Array Value} (hW : W.heap[g]? = some (.cells cur 31 (0, 0))) (hsz : cur.size = c * 2) (hi : i ≤ E.length) (hc : E.length + 1 ≤ c) (hm : c ≤ maxLen) (hB : B ≤ g)
    (hcur : ∀ j, j < (E.length + 1) * 2 → cur[j]? = if i * 2 ≤ j ∧ j < i * 2 + 2 then (ec e)[j - i * 2]? else if (i + 1) * 2 ≤ j then (ecs (E.drop i))[j - (i + 1) * 2]? else (ecs E)[j]?) : OwE B W (.slice (some ⟨g, 0, none⟩) (E.length + 1) c) (E.take i ++ e :: E.drop i) := by
  have hl : (E.take i ++ e :: E.drop i).length = E.length + 1 := by simp; omega
  refine ⟨ecs_len _, .inr ⟨g, c, cur, by rw [hl], hB, hW, by rw [hl]; exact hc, hm, hsz, ?_⟩⟩
  rw [hl]
  have hL : ecs (E.take i ++ e :: E.drop i) = ecs (E.take i) ++ (ec e ++ ecs (E.drop i)) := by simp [ecs]
  have hl1 : (ecs (E.take i)).length = i * 2 := by rw [ecs_len, List.length_take, Nat.min_eq_left hi]
  apply List.ext_getElem?
  intro j
  rw [List.getElem?_take, Array.getElem?_toList, hL]
  by_cases hj : j < (E.length + 1) * 2
  · rw [if_pos hj, hcur j hj]
    by_cases h1 : j < i * 2
    · rw [if_neg (by omega), if_neg (by omega), List.getElem?_append_left (by omega), ← ecs_take, List.getElem?_take, if_pos h1]
    · rw [List.getElem?_append_right (by omega), hl1]
      by_cases h2 : j < i * 2 + 2
      · rw [if_pos (by omega), List.getElem?_append_left (by rw [ec_len]; omega)]
      · rw [if_neg (by omega), if_pos (by omega), List.getElem?_append_right (by rw [ec_len]; omega), ec_len]
        congr 1
        omega
  · rw [if_neg hj]
    symm
    rw [List.getElem?_eq_none_iff, List.length_append, List.length_append, hl1, ec_len, ecs_len, List.length_drop]
    omega
end Go.Proofs.Ytipnghaphfgalaa
