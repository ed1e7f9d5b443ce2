/- Edges in memory: 'RdE w v E': the slice value v reads as these pairs of numbers; 'OwE': a row of the call's own. -/
import Derived.Test.YtipnghaphfgalaaG9
import Derived.Test.YtipnghaphfgalaaG6
import Derived.Test.YtipnghaphfgalaaG3
namespace Go.Proofs.Ytipnghaphfgalaa
open Go.RowKit
set_option linter.unusedVariables false
set_option maxRecDepth 100000

abbrev Ed := UInt64 × UInt64
def ec (p : Ed) : List Value := [.int .u64 (p.1.toNat : Int), .int .u64 (p.2.toNat : Int)]
def ecs (E : List Ed) : List Value := E.flatMap ec
theorem ec_len (p : Ed) : (ec p).length = 2 := rfl
theorem ecs_len (E : List Ed) : (ecs E).length = E.length * 2 := fm_len ec_len E
theorem ecs_app (a b : List Ed) : ecs (a ++ b) = ecs a ++ ecs b := by simp [ecs]
theorem ecs_take (E : List Ed) (k : Nat) : (ecs E).take (k * 2) = ecs (E.take k) := fm_take ec_len E k
theorem ecs_drop (E : List Ed) (k : Nat) : (ecs E).drop (k * 2) = ecs (E.drop k) := fm_drop ec_len E k
theorem ecs_one (E : List Ed) : ∀ u ∈ ecs E, u.oneCell' = true := by
  intro u hu
  obtain ⟨p, _, h⟩ := List.mem_flatMap.1 hu
  simp only [ec, List.mem_cons, List.not_mem_nil, or_false] at h
  rcases h with rfl | rfl <;> rfl
theorem ecs_at (E : List Ed) (i : Nat) (e : Ed) (h : E[i]? = some e) : (ecs E)[i * 2]? = some (.int .u64 (e.1.toNat : Int)) ∧ (ecs E)[i * 2 + 1]? = some (.int .u64 (e.2.toNat : Int)) :=
  ⟨fm_at ec_len E i 0 e h (by omega), fm_at ec_len E i 1 e h (by omega)⟩
theorem ecs_set (E : List Ed) (i : Nat) (e : Ed) : ((ecs E).set (i * 2) (.int .u64 (e.1.toNat : Int))).set (i * 2 + 1) (.int .u64 (e.2.toNat : Int)) = ecs (E.set i e) := by
  induction E generalizing i with
  | nil => simp [ecs]
  | cons h t ih =>
    cases i with
    | zero => simp [ecs, ec]
    | succ i =>
      have := ih i
      simp only [ecs, List.flatMap_cons, ec, List.set_cons_succ] at this ⊢
      rw [show (i + 1) * 2 = i * 2 + 1 + 1 by omega]
      simp only [List.cons_append, List.nil_append, List.set_cons_succ, this]
/-- At this address an edge lies. -/
structure EdAt (w : World) (a : Addr) (p : Ed) : Prop where
  c0 : w.cell? a = some (.int .u64 (p.1.toNat : Int))
  c1 : w.cell? ⟨a.block, a.off + 1, none⟩ = some (.int .u64 (p.2.toNat : Int))
theorem EdAt.below {B : Nat} {w w' : World} {a : Addr} {p : Ed} (h : EdAt w a p) (hb : Below B w w') (hB : w.heap.size ≤ B) : EdAt w' a p := by
  have k : ∀ x u, w.cell? x = some u → w'.cell? x = some u := fun x u q => by rw [hb.cell (by have := World.block_lt_of_cell? w _ q; omega)]; exact q
  exact ⟨k _ _ h.c0, k _ _ h.c1⟩
theorem EdAt.keptC {S : Nat → Prop} {w w' : World} {a : Addr} {p : Ed} (h : EdAt w a p) (hc : Chg S w w') (hS : ¬ S a.block) : EdAt w' a p := by
  have hl := World.block_lt_of_cell? w _ h.c0
  have k : ∀ x : Addr, x.block = a.block → w'.cell? x = w.cell? x := fun x e => World.cell?_of_block (w := w) (by rw [e]; exact hc.block _ hl hS)
  exact ⟨(k a rfl).trans h.c0, (k ⟨a.block, a.off + 1, none⟩ rfl).trans h.c1⟩
/-- The slice value v reads as these edges. -/
def RdE (w : World) (v : Value) (E : List Ed) : Prop :=
  ∃ ao c, v = .slice ao E.length c ∧ E.length ≤ c ∧ c ≤ maxLen ∧ (ao = none → c = 0) ∧ ∀ i p, E[i]? = some p → ∃ a, ao = some a ∧ EdAt w (a.add (i * 2)) p
theorem RdE.nil (w : World) : RdE w (.slice none 0 0) [] := ⟨none, 0, rfl, by simp, by simp, fun _ => rfl, fun i p hi => by simp at hi⟩
theorem RdE.below {B : Nat} {w w' : World} {v : Value} {E : List Ed} (h : RdE w v E) (hb : Below B w w') (hB : w.heap.size ≤ B) : RdE w' v E := by
  obtain ⟨ao, c, h0, h1, h2, h3, h4⟩ := h
  refine ⟨ao, c, h0, h1, h2, h3, fun i p hi => ?_⟩
  obtain ⟨a, e, hc⟩ := h4 i p hi
  exact ⟨a, e, hc.below hb hB⟩
theorem RdE.keptC {S : Nat → Prop} {w w' : World} {v : Value} {E : List Ed} (h : RdE w v E) (hc : Chg S w w') (hS : ∀ b, v.ownBlock = some b → ¬ S b) : RdE w' v E := by
  obtain ⟨ao, c, rfl, h1, h2, h3, h4⟩ := h
  refine ⟨ao, c, rfl, h1, h2, h3, fun i p hi => ?_⟩
  obtain ⟨a, rfl, ha⟩ := h4 i p hi
  exact ⟨a, rfl, ha.keptC hc (by rw [add_block]; exact hS _ rfl)⟩
theorem RdE.shape {w : World} {v : Value} {l : List Ed} (h : RdE w v l) : ∃ a c, v = .slice a l.length c ∧ l.length ≤ c ∧ c ≤ 9223372036854775807 := by
  obtain ⟨ao, c, e, h1, h2, _⟩ := h; exact ⟨_, _, e, h1, by unfold maxLen at h2; omega⟩
theorem RdE.cells {w : World} {a : Addr} {n c : Nat} {E : List Ed} (h : RdE w (.slice (some a) n c) E) : ∀ j u, (ecs E)[j]? = some u → w.cell? (a.add j) = some u := by
  intro j u hu
  obtain ⟨ao', c', e, h1, h2, h3, h4⟩ := h
  simp only [Value.slice.injEq] at e
  obtain ⟨rfl, rfl, rfl⟩ := e
  obtain ⟨i, r, p, ep, hr, rfl, hp⟩ := fm_inv ec_len (by omega) E j u hu
  obtain ⟨a', e, hc⟩ := h4 i p ep
  obtain rfl := Option.some.inj e
  match r, hr with
  | 0, _ => simp [ec] at hp; subst hp; exact hc.c0
  | 1, _ => simp [ec] at hp; subst hp; rw [← add_at a (i * 2) 0]; exact hc.c1

/-- A row of edges of the call's own. -/
def OwE (B : Nat) (w : World) (v : Value) (E : List Ed) : Prop := w.ownsRow B 31 2 v E.length (ecs E)
theorem OwE.nil (B : Nat) (w : World) : OwE B w (.slice none 0 0) [] := World.ownsRow_nil _ _ _ _
theorem OwE.below {B C : Nat} {w w' : World} {v : Value} {E : List Ed} (h : OwE B w v E) (hb : Below C w w') (hC : w.heap.size ≤ C) : OwE B w' v E := ownsRow_belP h hb hC
theorem OwE.keptC {S : Nat → Prop} {B : Nat} {w w' : World} {v : Value} {E : List Ed} (h : OwE B w v E) (hc : Chg S w w') (hS : ∀ b, v.ownBlock = some b → ¬ S b) : OwE B w' v E := ownsRow_keptC h hc hS
theorem OwE.lt {B : Nat} {w : World} {v : Value} {E : List Ed} (h : OwE B w v E) (b : Nat) (e : v.ownBlock = some b) : B ≤ b ∧ b < w.heap.size := World.ownsRow.lt h b e
theorem OwE.mono {B B' : Nat} {w : World} {v : Value} {E : List Ed} (h : OwE B w v E) (hB : B' ≤ B) : OwE B' w v E := by
  obtain ⟨h1, h2⟩ := h
  refine ⟨h1, ?_⟩
  rcases h2 with h2 | ⟨g, cap, cur, hv, hg, r⟩
  · exact .inl h2
  · exact .inr ⟨g, cap, cur, hv, by omega, r⟩
theorem OwE.rd {B : Nat} {w : World} {v : Value} {E : List Ed} (h : OwE B w v E) : RdE w v E := by
  obtain ⟨a, c, hv, h1, h2, h3, h4⟩ := row_reads h
  refine ⟨a, c, hv, h1, h2, h3, fun i p hi => ?_⟩
  obtain ⟨e0, e1⟩ := ecs_at E i p hi
  obtain ⟨g, rfl, q0⟩ := h4 _ _ e0
  obtain ⟨g1, eg, q1⟩ := h4 _ _ e1
  simp only [Option.some.injEq, Addr.mk.injEq, and_true] at eg
  subst eg
  exact ⟨⟨g, 0, none⟩, rfl, by rw [Addr.add_lit, Nat.zero_add]; exact q0, by rw [Addr.add_lit, Nat.zero_add]; exact q1⟩
/-- None, or at the head of its block. -/
theorem OwE.blk {B : Nat} {w : World} {v : Value} {E : List Ed} (h : OwE B w v E) : (v = .slice none 0 0 ∧ E = []) ∨ ∃ g c, v = .slice (some ⟨g, 0, none⟩) E.length c ∧ E.length ≤ c ∧ c ≤ maxLen ∧ B ≤ g ∧ g < w.heap.size ∧ (∀ j u, (ecs E)[j]? = some u → w.cell? ⟨g, j, none⟩ = some u) ∧ (∀ j, j < c * 2 → (w.cell? ⟨g, j, none⟩).isSome = true) ∧ (∀ j, w.frozen? ⟨g, j, none⟩ = false) ∧ w.shape? g = some (31, c * 2) := by
  have h' := h
  rcases h.2 with ⟨hv, h0⟩ | ⟨g, cap, cur, hv, hg, hh, hn, hcap, hsz, htake⟩
  · exact .inl ⟨hv, List.length_eq_zero_iff.1 h0⟩
  · subst hv
    refine .inr ⟨g, cap, rfl, hn, hcap, hg, (Array.getElem?_eq_some_iff.1 hh).1, fun j u hu => ?_, fun j hj => ?_, fun j => frozen_of_row _ _ _ _ _ hh, ?_⟩
    · have := World.ownsRow.cells h' (g := g) rfl j u hu
      rwa [Addr.add_lit, Nat.zero_add] at this
    · rw [cell_of_row _ _ _ _ _ _ hh, Array.getElem?_eq_getElem (by omega)]; rfl
    · simp [World.shape?, hh, hsz]

theorem Try.infoEd : (Try.prog.info? 31).map (fun i => (i.zero, i.size, i.bytes)) = some (some (.agg #[.int .u64 0, .int .u64 0]), 2, 16) := by kernel_rfl
theorem run_appE (w : World) (ty : TypeId) (B : Nat) (v : Value) (l : List Ed) (hown : OwE B w v l) (vx : Value) (m : List Ed) (hm : RdE w vx m) (hB : B ≤ w.heap.size) (hlen : l.length + m.length ≤ 1099511627776) :
    ∃ v' w', (Builtin.append_ #[22, 22] ty #[v, vx]).run Try.prog w = .ok v' w' ∧ OwE B w' v' (l ++ m) ∧ w.grownBy w' v.ownBlock ∧ (v'.ownBlock = v.ownBlock ∨ v'.ownBlock = some w.heap.size) := by
  obtain ⟨i, hi, hz0, hz1, hz2⟩ := info_parts Try.infoEd
  have hm' := hm
  obtain ⟨ao, c, rfl, h1, h2, h3, h4⟩ := hm
  cases ao with
  | none =>
    have hc := h3 rfl
    have hl : m = [] := List.length_eq_zero_iff.1 (by omega)
    subst hl; subst hc
    exact ⟨v, w, run_append_owned_none (P := Try.prog) (w := w) B 22 ty 31 i 2 Try.underlying22 hi v l.length (ecs l) hown, by simpa using hown, World.grownBy.refl _ _, .inl rfl⟩
  | some ad =>
    obtain ⟨v', w', hr, q2, q3, q4⟩ := run_appW (P := Try.prog) w B 22 ty 31 _ 2 16 Try.underlying22 Try.infoEd rfl (by decide) v l.length (ecs l) hown ad m.length c (ecs m) (ecs_len m) hm'.cells (ecs_one m) (by unfold maxLen; omega) (by omega) hB
    exact ⟨v', w', hr, by unfold OwE; rw [ecs_app, List.length_append]; exact q2, q3, q4⟩
theorem wpList_appE {w : World} {ops : Array Oper} {rest : List Oper} {o : Oper} {a : Act} {Q : Exit → Act → World → Prop} (hgd : o.guard = none) (s x : Operand)
    (ho : o.op = .call { callee := .builtin .append, args := #[s, x], argTypes := #[22, 22] })
    (B : Nat) (v : Value) (l : List Ed) (hs : a.eval s = v) (hown : OwE B w v l) (vx : Value) (m : List Ed) (hx : a.eval x = vx) (hm : RdE w vx m) (hB : B ≤ w.heap.size) (hlen : l.length + m.length ≤ 1099511627776)
    (h : ∀ v' w', OwE B w' v' (l ++ m) → w.grownBy w' v.ownBlock → (v'.ownBlock = v.ownBlock ∨ v'.ownBlock = some w.heap.size) → wpList Try.prog ops Q rest (a.put o.dst v') w') : wpList Try.prog ops Q (o :: rest) a w := by
  refine wpList_plain hgd fun K hK => ?_
  obtain ⟨v', w', hr, q2, q3, q4⟩ := run_appE w o.type B v l hown vx m hm hB hlen
  unfold Oper.wp execOp
  simp only [ho, resolve, invoke, builtin, Sem.run_bind, Sem.run_pure, Result.andThen_ok, List.map_toArray, List.map_cons, List.map_nil, hs, hx, hr]
  exact hK _ _ (h v' w' q2 q3 q4)
end Go.Proofs.Ytipnghaphfgalaa
