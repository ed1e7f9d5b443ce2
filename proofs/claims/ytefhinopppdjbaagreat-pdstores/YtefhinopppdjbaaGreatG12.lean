/- Peers in memory: 'RdPe w v ps': the slice value v reads as these peers; 'OwPe': a row of the call's own. -/
import Derived.Test.YtefhinopppdjbaaGreatG10
import Derived.Test.YtefhinopppdjbaaGreatG3
import Derived.Test.YtefhinopppdjbaaGreatG1
namespace Go.Proofs.YtefhinopppdjbaaGreat
open Go.RowKit
set_option linter.unusedVariables false
set_option maxRecDepth 100000

/-- A peer: its number, its store, whether it only learns. -/
abbrev Pe := UInt64 × Int × Bool
def pc (p : Pe) : List Value := [.int .u64 (p.1.toNat : Int), .int .i64 p.2.1, .bool p.2.2]
def pcs (ps : List Pe) : List Value := ps.flatMap pc
theorem pc_len (p : Pe) : (pc p).length = 3 := rfl
theorem pcs_len (ps : List Pe) : (pcs ps).length = ps.length * 3 := fm_len pc_len ps
theorem pcs_app (a b : List Pe) : pcs (a ++ b) = pcs a ++ pcs b := by simp [pcs]
theorem pcs_one (ps : List Pe) : ∀ u ∈ pcs ps, u.oneCell' = true := by
  intro u hu
  obtain ⟨p, _, h⟩ := List.mem_flatMap.1 hu
  simp only [pc, List.mem_cons, List.not_mem_nil, or_false] at h
  rcases h with rfl | rfl | rfl <;> rfl
/-- At this address a peer lies. -/
structure PeAt (w : World) (a : Addr) (p : Pe) : Prop where
  c0 : w.cell? a = some (.int .u64 (p.1.toNat : Int))
  c1 : w.cell? ⟨a.block, a.off + 1, none⟩ = some (.int .i64 p.2.1)
  c2 : w.cell? ⟨a.block, a.off + 2, none⟩ = some (.bool p.2.2)
theorem PeAt.below {B : Nat} {w w' : World} {a : Addr} {p : Pe} (h : PeAt w a p) (hb : Below B w w') (hB : w.heap.size ≤ B) : PeAt w' a p := by
  have k : ∀ x u, w.cell? x = some u → w'.cell? x = some u := fun x u q => by rw [hb.cell (by have := World.block_lt_of_cell? w _ q; omega)]; exact q
  exact ⟨k _ _ h.c0, k _ _ h.c1, k _ _ h.c2⟩
/-- The slice value v reads as these peers. -/
def RdPe (w : World) (v : Value) (ps : List Pe) : Prop :=
  ∃ ao c, v = .slice ao ps.length c ∧ ps.length ≤ c ∧ c ≤ maxLen ∧ (ao = none → c = 0) ∧ ∀ i p, ps[i]? = some p → ∃ a, ao = some a ∧ PeAt w (a.add (i * 3)) p
theorem RdPe.nil (w : World) : RdPe w (.slice none 0 0) [] := ⟨none, 0, rfl, by simp, by simp, fun _ => rfl, fun i p hi => by simp at hi⟩
theorem RdPe.below {B : Nat} {w w' : World} {v : Value} {ps : List Pe} (h : RdPe w v ps) (hb : Below B w w') (hB : w.heap.size ≤ B) : RdPe w' v ps := by
  obtain ⟨ao, c, h0, h1, h2, h3, h4⟩ := h
  refine ⟨ao, c, h0, h1, h2, h3, fun i p hi => ?_⟩
  obtain ⟨a, e, hc⟩ := h4 i p hi
  exact ⟨a, e, hc.below hb hB⟩
theorem RdPe.shape {w : World} {v : Value} {l : List Pe} (h : RdPe w v l) : ∃ a c, v = .slice a l.length c ∧ l.length ≤ c ∧ c ≤ 9223372036854775807 := by
  obtain ⟨ao, c, e, h1, h2, _⟩ := h; exact ⟨_, _, e, h1, by unfold maxLen at h2; omega⟩
/-- The first peers of a list. -/
theorem RdPe.pre {w : World} {ao : Option Addr} {n c : Nat} {ps : List Pe} (h : RdPe w (.slice ao n c) ps) (j : Nat) (hj : j ≤ ps.length) : RdPe w (.slice ao j c) (ps.take j) := by
  obtain ⟨ao', c', e, h1, h2, h3, h4⟩ := h
  simp only [Value.slice.injEq] at e
  obtain ⟨rfl, rfl, rfl⟩ := e
  have hl : (ps.take j).length = j := by rw [List.length_take]; omega
  refine ⟨ao, c, by rw [hl], by omega, h2, h3, fun i p hi => ?_⟩
  have hi2 := (List.getElem?_eq_some_iff.1 hi).1
  rw [List.getElem?_take, if_pos (by omega)] at hi
  exact h4 i p hi
theorem RdPe.cells {w : World} {a : Addr} {n c : Nat} {ps : List Pe} (h : RdPe w (.slice (some a) n c) ps) : ∀ j u, (pcs ps)[j]? = some u → w.cell? (a.add j) = some u := by
  intro j u hu
  obtain ⟨ao', c', e, h1, h2, h3, h4⟩ := h
  simp only [Value.slice.injEq] at e
  obtain ⟨rfl, rfl, rfl⟩ := e
  obtain ⟨i, r, p, ep, hr, rfl, hp⟩ := fm_inv pc_len (by omega) ps j u hu
  obtain ⟨a', e, hc⟩ := h4 i p ep
  obtain rfl := Option.some.inj e
  match r, hr with
  | 0, _ => simp [pc] at hp; subst hp; exact hc.c0
  | 1, _ => simp [pc] at hp; subst hp; rw [← add_at a (i * 3) 0]; exact hc.c1
  | 2, _ => simp [pc] at hp; subst hp; rw [← add_at a (i * 3) 1]; exact hc.c2

/-- A row of peers of the call's own. -/
def OwPe (B : Nat) (w : World) (v : Value) (ps : List Pe) : Prop := w.ownsRow B 115 3 v ps.length (pcs ps)
theorem OwPe.nil (B : Nat) (w : World) : OwPe B w (.slice none 0 0) [] := World.ownsRow_nil _ _ _ _
theorem OwPe.below {B C : Nat} {w w' : World} {v : Value} {ps : List Pe} (h : OwPe B w v ps) (hb : Below C w w') (hC : w.heap.size ≤ C) : OwPe B w' v ps := ownsRow_belP h hb hC
theorem OwPe.rd {B : Nat} {w : World} {v : Value} {ps : List Pe} (h : OwPe B w v ps) : RdPe w v ps := by
  obtain ⟨a, c, hv, h1, h2, h3, h4⟩ := row_reads h
  refine ⟨a, c, hv, h1, h2, h3, fun i p hi => ?_⟩
  have k : ∀ r u, r < 3 → (pc p)[r]? = some u → ∃ g, a = some ⟨g, 0, none⟩ ∧ w.cell? ⟨g, i * 3 + r, none⟩ = some u := fun r u hr e => h4 _ u (by unfold pcs; rw [fm_at pc_len ps i r p hi hr]; exact e)
  obtain ⟨g, e0, q0⟩ := k 0 _ (by omega) rfl
  obtain ⟨g1, e1, q1⟩ := k 1 _ (by omega) rfl
  obtain ⟨g2, e2, q2⟩ := k 2 _ (by omega) rfl
  rw [e0] at e1 e2
  obtain rfl : g = g1 := by have := Option.some.inj e1; exact congrArg Addr.block this
  obtain rfl : g = g2 := by have := Option.some.inj e2; exact congrArg Addr.block this
  refine ⟨⟨g, 0, none⟩, e0, ?_, ?_, ?_⟩
  · rw [Addr.add_lit, Nat.zero_add]; exact q0
  · rw [Addr.add_lit, Nat.zero_add]; exact q1
  · rw [Addr.add_lit, Nat.zero_add]; exact q2

theorem Tryz.infoPe : (Tryz.prog.info? 115).map (fun i => (i.zero, i.size, i.bytes)) = some (some (.agg #[.int .u64 0, .int .i64 0, .bool false]), 3, 24) := by kernel_rfl
theorem run_appPe (w : World) (ty : TypeId) (B : Nat) (v : Value) (l : List Pe) (hown : OwPe B w v l) (vx : Value) (m : List Pe) (hm : RdPe w vx m) (hB : B ≤ w.heap.size) (hlen : l.length + m.length ≤ 1099511627776) :
    ∃ v' w', (Builtin.append_ #[34, 34] ty #[v, vx]).run Tryz.prog w = .ok v' w' ∧ OwPe B w' v' (l ++ m) ∧ w.grownBy w' v.ownBlock ∧ (v'.ownBlock = v.ownBlock ∨ v'.ownBlock = some w.heap.size) := by
  obtain ⟨i, hi, hz0, hz1, hz2⟩ := info_parts Tryz.infoPe
  have hm' := hm
  obtain ⟨ao, c, rfl, h1, h2, h3, h4⟩ := hm
  cases ao with
  | none =>
    have hc := h3 rfl
    have hl : m = [] := List.length_eq_zero_iff.1 (by omega)
    subst hl; subst hc
    exact ⟨v, w, run_append_owned_none (P := Tryz.prog) (w := w) B 34 ty 115 i 3 Tryz.underlying34 hi v l.length (pcs l) hown, by simpa using hown, World.grownBy.refl _ _, .inl rfl⟩
  | some ad =>
    obtain ⟨v', w', hr, q2, q3, q4⟩ := run_appW (P := Tryz.prog) w B 34 ty 115 _ 3 24 Tryz.underlying34 Tryz.infoPe rfl (by decide) v l.length (pcs l) hown ad m.length c (pcs m) (pcs_len m) hm'.cells (pcs_one m) (by unfold maxLen; omega) (by omega) hB
    exact ⟨v', w', hr, by unfold OwPe; rw [pcs_app, List.length_append]; exact q2, q3, q4⟩
theorem wpList_appPe {w : World} {ops : Array Oper} {rest : List Oper} {o : Oper} {a : Act} {Q : Exit → Act → World → Prop} (hgd : o.guard = none) (s x : Operand)
    (ho : o.op = .call { callee := .builtin .append, args := #[s, x], argTypes := #[34, 34] })
    (B : Nat) (v : Value) (l : List Pe) (hs : a.eval s = v) (hown : OwPe B w v l) (vx : Value) (m : List Pe) (hx : a.eval x = vx) (hm : RdPe w vx m) (hB : B ≤ w.heap.size) (hlen : l.length + m.length ≤ 1099511627776)
    (h : ∀ v' w', OwPe B w' v' (l ++ m) → w.grownBy w' v.ownBlock → (v'.ownBlock = v.ownBlock ∨ v'.ownBlock = some w.heap.size) → wpList Tryz.prog ops Q rest (a.put o.dst v') w') : wpList Tryz.prog ops Q (o :: rest) a w := by
  refine wpList_plain hgd fun K hK => ?_
  obtain ⟨v', w', hr, q2, q3, q4⟩ := run_appPe w o.type B v l hown vx m hm hB hlen
  unfold Oper.wp execOp
  simp only [ho, resolve, invoke, builtin, Sem.run_bind, Sem.run_pure, Result.andThen_ok, List.map_toArray, List.map_cons, List.map_nil, hs, hx, hr]
  exact hK _ _ (h v' w' q2 q3 q4)
end Go.Proofs.YtefhinopppdjbaaGreat

/- Blocks of three and of six cells. -/
namespace Go.Proofs.YtefhinopppdjbaaGreat
open Go.RowKit
set_option linter.unusedVariables false
set_option maxRecDepth 100000

theorem set3_block {w : World} {g : Nat} {u0 u1 u2 : Value} {t : TypeId} (h : w.heap[g]? = some (.cells #[u0, u1, u2] t (0, 0))) (v0 v1 v2 : Value) : (((w.setCell ⟨g, 0, none⟩ v0).setCell ⟨g, 1, none⟩ v1).setCell ⟨g, 2, none⟩ v2).heap[g]? = some (.cells #[v0, v1, v2] t (0, 0)) := by
  have h0 := heap_setCell_same w g 0 _ _ v0 h
  have h1 := heap_setCell_same _ g 1 _ _ v1 h0
  have h2 := heap_setCell_same _ g 2 _ _ v2 h1
  rw [h2]
  rfl
theorem set3_chg (w : World) (g : Nat) (v0 v1 v2 : Value) : Chg (fun b => b = g) w (((w.setCell ⟨g, 0, none⟩ v0).setCell ⟨g, 1, none⟩ v1).setCell ⟨g, 2, none⟩ v2) :=
  (((Chg.refl (fun b => b = g) w).put g 0 v0 rfl).put g 1 v1 rfl).put g 2 v2 rfl
theorem cells3 {w : World} {g : Nat} {u0 u1 u2 : Value} {t : TypeId} (h : w.heap[g]? = some (.cells #[u0, u1, u2] t (0, 0))) : w.cell? ⟨g, 0, none⟩ = some u0 ∧ w.cell? ⟨g, 1, none⟩ = some u1 ∧ w.cell? ⟨g, 2, none⟩ = some u2 ∧ ∀ i, w.frozen? ⟨g, i, none⟩ = false :=
  ⟨by rw [cell_of_row _ _ _ _ _ _ h]; rfl, by rw [cell_of_row _ _ _ _ _ _ h]; rfl, by rw [cell_of_row _ _ _ _ _ _ h]; rfl, fun i => frozen_of_row _ _ _ _ _ h⟩
theorem set6_block {w : World} {g : Nat} {u0 u1 u2 u3 u4 u5 : Value} {t : TypeId} (h : w.heap[g]? = some (.cells #[u0, u1, u2, u3, u4, u5] t (0, 0))) (v0 v1 v2 v3 v4 v5 : Value) : ((((((w.setCell ⟨g, 0, none⟩ v0).setCell ⟨g, 1, none⟩ v1).setCell ⟨g, 2, none⟩ v2).setCell ⟨g, 3, none⟩ v3).setCell ⟨g, 4, none⟩ v4).setCell ⟨g, 5, none⟩ v5).heap[g]? = some (.cells #[v0, v1, v2, v3, v4, v5] t (0, 0)) := by
  have h0 := heap_setCell_same w g 0 _ _ v0 h
  have h1 := heap_setCell_same _ g 1 _ _ v1 h0
  have h2 := heap_setCell_same _ g 2 _ _ v2 h1
  have h3 := heap_setCell_same _ g 3 _ _ v3 h2
  have h4 := heap_setCell_same _ g 4 _ _ v4 h3
  have h5 := heap_setCell_same _ g 5 _ _ v5 h4
  rw [h5]
  rfl
theorem set6_chg (w : World) (g : Nat) (v0 v1 v2 v3 v4 v5 : Value) : Chg (fun b => b = g) w ((((((w.setCell ⟨g, 0, none⟩ v0).setCell ⟨g, 1, none⟩ v1).setCell ⟨g, 2, none⟩ v2).setCell ⟨g, 3, none⟩ v3).setCell ⟨g, 4, none⟩ v4).setCell ⟨g, 5, none⟩ v5) :=
  ((((((Chg.refl (fun b => b = g) w).put g 0 v0 rfl).put g 1 v1 rfl).put g 2 v2 rfl).put g 3 v3 rfl).put g 4 v4 rfl).put g 5 v5 rfl
theorem cells6 {w : World} {g : Nat} {u0 u1 u2 u3 u4 u5 : Value} {t : TypeId} (h : w.heap[g]? = some (.cells #[u0, u1, u2, u3, u4, u5] t (0, 0))) : w.cell? ⟨g, 0, none⟩ = some u0 ∧ w.cell? ⟨g, 1, none⟩ = some u1 ∧ w.cell? ⟨g, 2, none⟩ = some u2 ∧ w.cell? ⟨g, 3, none⟩ = some u3 ∧ w.cell? ⟨g, 4, none⟩ = some u4 ∧ w.cell? ⟨g, 5, none⟩ = some u5 ∧ ∀ i, w.frozen? ⟨g, i, none⟩ = false :=
  ⟨by rw [cell_of_row _ _ _ _ _ _ h]; rfl, by rw [cell_of_row _ _ _ _ _ _ h]; rfl, by rw [cell_of_row _ _ _ _ _ _ h]; rfl, by rw [cell_of_row _ _ _ _ _ _ h]; rfl, by rw [cell_of_row _ _ _ _ _ _ h]; rfl, by rw [cell_of_row _ _ _ _ _ _ h]; rfl, fun i => frozen_of_row _ _ _ _ _ h⟩
end Go.Proofs.YtefhinopppdjbaaGreat
