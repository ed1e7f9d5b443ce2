/- My own words for lists of uint64 in memory: 'Ru w v l': the slice value v reads as the numbers l; 'Ou B w v l': a row of the call's own. -/
import Derived.Test.YtanafjbiclicpaaG1
import Derived.Test.YtanafjbiclicpaaG2
namespace Go.Proofs.Ytanafjbiclicpaa
open Go.RowKit
set_option linter.unusedVariables false

/-- The cells of a list of numbers. -/
def celU (l : List UInt64) : List Value := l.map fun x => Value.int .u64 (x.toNat : Int)
theorem celU_length (l : List UInt64) : (celU l).length = l.length := by simp [celU]
theorem celU_append (a b : List UInt64) : celU (a ++ b) = celU a ++ celU b := by simp [celU]
theorem celU_get (l : List UInt64) (i : Nat) (h : i < l.length) : (celU l)[i]? = some (.int .u64 (l[i].toNat : Int)) := by simp [celU, h]
theorem celU_one (l : List UInt64) : ∀ u ∈ celU l, u.oneCell' = true := by
  intro u hu
  obtain ⟨_, _, rfl⟩ := List.mem_map.1 hu
  rfl
theorem celU_set (l : List UInt64) (i : Nat) (x : UInt64) : celU (l.set i x) = (celU l).set i (.int .u64 (x.toNat : Int)) := by
  unfold celU; rw [List.map_set]

/-- The slice value v reads as the numbers l. -/
def Ru (w : World) (v : Value) (l : List UInt64) : Prop :=
  ∃ ao c, v = .slice ao l.length c ∧ l.length ≤ c ∧ c ≤ maxLen ∧ (ao = none → c = 0) ∧ ∀ i, (h : i < l.length) → ∃ a, ao = some a ∧ w.cell? (a.add i) = some (.int .u64 (l[i].toNat : Int))

theorem Ru.two {w : World} {v : Value} {l : List UInt64} (h : Ru w v l) :
    (v = .slice none 0 0 ∧ l = []) ∨ ∃ a c, v = .slice (some a) l.length c ∧ l.length ≤ c ∧ c ≤ maxLen ∧ ∀ i, (h : i < l.length) → w.cell? (a.add i) = some (.int .u64 (l[i].toNat : Int)) := by
  obtain ⟨ao, c, hv, h1, h2, h3, h4⟩ := h
  cases ao with
  | none =>
    have hc := h3 rfl
    have hl : l = [] := List.length_eq_zero_iff.1 (by omega)
    subst hl; subst hc
    exact .inl ⟨hv, rfl⟩
  | some a =>
    refine .inr ⟨a, c, hv, h1, h2, fun i hi => ?_⟩
    obtain ⟨a', e, hc⟩ := h4 i hi
    obtain rfl := Option.some.inj e
    exact hc
theorem Ru.mk {w : World} {a : Addr} {n c : Nat} {l : List UInt64} (hn : n = l.length) (h1 : l.length ≤ c) (h2 : c ≤ maxLen) (h3 : ∀ i, (h : i < l.length) → w.cell? (a.add i) = some (.int .u64 (l[i].toNat : Int))) : Ru w (.slice (some a) n c) l :=
  ⟨some a, c, by rw [hn], h1, h2, (fun h => by cases h), fun i hi => ⟨a, rfl, h3 i hi⟩⟩
theorem Ru.nil (w : World) : Ru w (.slice none 0 0) [] := ⟨none, 0, rfl, by simp, by simp, fun _ => rfl, fun i hi => by simp at hi⟩
theorem Ru.below {B : Nat} {w w' : World} {v : Value} {l : List UInt64} (h : Ru w v l) (hb : Below B w w') (hB : w.heap.size ≤ B) : Ru w' v l := by
  obtain ⟨ao, c, h0, h1, h2, h3, h4⟩ := h
  refine ⟨ao, c, h0, h1, h2, h3, fun i hi => ?_⟩
  obtain ⟨a, e, hc⟩ := h4 i hi
  have hlt := World.block_lt_of_cell? w _ hc
  exact ⟨a, e, by rw [hb.cell (by omega)]; exact hc⟩
theorem Ru.drewN {w : World} {v : Value} {l : List UInt64} (h : Ru w v l) (n : Nat) : Ru (w.drewN n) v l := h.below (below_drewN (Below.refl _ _) n) (Nat.le_refl _)
theorem Ru.alloc {w : World} {v : Value} {l : List UInt64} (h : Ru w v l) (o : Obj) : Ru (w.alloc o) v l := h.below ((Below.refl _ _).alloc (Nat.le_refl _) o) (Nat.le_refl _)
theorem Ru.shape {w : World} {v : Value} {l : List UInt64} (h : Ru w v l) : ∃ a c, v = .slice a l.length c := by
  obtain ⟨ao, c, e, _⟩ := h; exact ⟨_, _, e⟩
theorem Ru.len {w : World} {v : Value} {l : List UInt64} (h : Ru w v l) : l.length ≤ maxLen := by
  obtain ⟨ao, c, _, h1, h2, _⟩ := h; omega

/-- A row of numbers of the call's own, in new memory from block B on. -/
def Ou (B : Nat) (w : World) (v : Value) (l : List UInt64) : Prop := w.ownsRow B 22 1 v l.length (celU l)
theorem Ou.ru {B : Nat} {w : World} {v : Value} {l : List UInt64} (h : Ou B w v l) : Ru w v l := by
  have h' := h
  obtain ⟨_, h2⟩ := h
  rcases h2 with ⟨hv, h0⟩ | ⟨g, cap, cur, hv, hg, hh, hn, hcap, hsz, htake⟩
  · obtain rfl := List.length_eq_zero_iff.1 h0
    subst hv
    exact Ru.nil _
  · subst hv
    refine Ru.mk rfl hn hcap (fun i hi => ?_)
    rw [Addr.add_lit, Nat.zero_add]
    unfold Ou at h'
    rw [h'.cellAt i (by omega), celU_get l i hi]
theorem Ou.below {B C : Nat} {w w' : World} {v : Value} {l : List UInt64} (h : Ou B w v l) (hb : Below C w w') (hC : w.heap.size ≤ C) : Ou B w' v l := by
  obtain ⟨h1, h2⟩ := h
  refine ⟨h1, ?_⟩
  rcases h2 with h2 | ⟨g, cap, cur, hv, hg, hh, r⟩
  · exact .inl h2
  · refine .inr ⟨g, cap, cur, hv, hg, ?_, r⟩
    have hlt : g < w.heap.size := (Array.getElem?_eq_some_iff.1 hh).1
    rw [hb.block g (by omega)]; exact hh
theorem Ou.mono {B B' : Nat} {w : World} {v : Value} {l : List UInt64} (h : Ou B w v l) (hB : B' ≤ B) : Ou B' w v l := by
  obtain ⟨h1, h2⟩ := h
  refine ⟨h1, ?_⟩
  rcases h2 with h2 | ⟨g, cap, cur, hv, hg, r⟩
  · exact .inl h2
  · exact .inr ⟨g, cap, cur, hv, by omega, r⟩
theorem Ou.alloc {B : Nat} {w : World} {v : Value} {l : List UInt64} (h : Ou B w v l) (o : Obj) : Ou B (w.alloc o) v l := World.ownsRow.alloc h o
theorem Ou.nil (B : Nat) (w : World) : Ou B w (.slice none 0 0) [] := World.ownsRow_nil _ _ _ _
theorem Ou.lt {B : Nat} {w : World} {v : Value} {l : List UInt64} (h : Ou B w v l) (b : Nat) (e : v.ownBlock = some b) : B ≤ b ∧ b < w.heap.size := World.ownsRow.lt h b e
theorem Ou.shape {B : Nat} {w : World} {v : Value} {l : List UInt64} (h : Ou B w v l) : ∃ a c, v = .slice a l.length c := h.ru.shape
theorem Ou.kept {B : Nat} {w w' : World} {v : Value} {l : List UInt64} {r : Option Nat} (h : Ou B w v l) (hg : w.grownBy w' r) (hne : ∀ b, v.ownBlock = some b → r ≠ some b) : Ou B w' v l := by
  refine World.ownsRow.kept h hg ?_
  by_cases e : v.ownBlock = none
  · exact .inl e
  · obtain ⟨b, hb⟩ := Option.ne_none_iff_exists'.1 e
    exact .inr (fun q => hne b hb (by rw [← q]; exact hb))
/-- The row of a literal. -/
theorem Ou.made (B : Nat) (w : World) (l : List UInt64) (n : Nat) (hn : n = l.length) (hB : B ≤ w.heap.size) (hl : l.length ≤ maxLen) (C : Array Value) (hC : C.toList = celU l) (g : Nat) (hg : g = w.heap.size) : Ou B (w.alloc (.cells C 22)) (.slice (some ⟨g, 0, none⟩) n n) l := by
  subst hn; subst hg
  have hs : C.size = l.length := by rw [← Array.length_toList, hC, celU_length]
  refine ⟨by rw [celU_length]; simp, .inr ⟨w.heap.size, l.length, C, rfl, hB, heap_alloc_new w _, Nat.le_refl _, hl, by omega, ?_⟩⟩
  rw [hC, List.take_of_length_le (by rw [celU_length]; omega)]

theorem Try.infoU : (Try.prog.info? 22).map (fun i => (i.zero, i.size, i.bytes)) = some (some (.int .u64 0), 1, 8) := by kernel_rfl

/-- 'append(out, x...)' of numbers, out the call's own. -/
theorem wpList_appU {w : World} {ops : Array Oper} {rest : List Oper} {o : Oper} {a : Act} {Q : Exit → Act → World → Prop} (hgd : o.guard = none) (s x : Operand)
    (ho : o.op = .call { callee := .builtin .append, args := #[s, x], argTypes := #[60, 60] })
    (B : Nat) (v : Value) (l : List UInt64) (hs : a.eval s = v) (hown : Ou B w v l) (vx : Value) (m : List UInt64) (hx : a.eval x = vx) (hm : Ru w vx m)
    (hB : B ≤ w.heap.size) (hlen : l.length + m.length ≤ 10995116277760)
    (h : ∀ v' w', Ou B w' v' (l ++ m) → w.grownBy w' v.ownBlock → (v'.ownBlock = v.ownBlock ∨ v'.ownBlock = some w.heap.size) → wpList Try.prog ops Q rest (a.put o.dst v') w') : wpList Try.prog ops Q (o :: rest) a w := by
  obtain ⟨i, hi, hz0, hz1, hz2⟩ := info_parts Try.infoU
  rcases hm.two with ⟨rfl, rfl⟩ | ⟨ad, c, rfl, h1, h2, h3⟩
  · refine wpList_append_own_none hgd s x 60 ho B 22 i 1 Try.underlying60 hi _ _ _ hs hown hx ?_
    exact h v w (by simpa using hown) (World.grownBy.refl _ _) (.inl rfl)
  · refine wpList_plain hgd fun K hK => ?_
    obtain ⟨v', w', hr, q2, q3, q4⟩ := run_appN (P := Try.prog) w B 60 o.type 22 (.int .u64 0) 8 Try.underlying60 Try.infoU rfl v l.length (celU l) hown ad m.length c (celU m) (by simp [celU_length]) (by
      intro j u hu
      have hj : j < m.length := by have := (List.getElem?_eq_some_iff.1 hu).1; simpa [celU_length] using this
      rw [h3 j hj]; rw [celU_get m j hj] at hu; exact hu) (celU_one m) (by unfold maxLen; omega) (by omega) hB
    unfold Oper.wp execOp
    simp only [ho, resolve, invoke, builtin, Sem.run_bind, Sem.run_pure, Result.andThen_ok, List.map_toArray, List.map_cons, List.map_nil, hs, hx, hr]
    exact hK _ _ (h v' w' (by unfold Ou; rw [celU_append, List.length_append]; exact q2) q3 q4)

theorem ru_one (w : World) (z : Int) (b : UInt64) (hz : z = (b.toNat : Int)) (t : TypeId) (g : Nat) (hg : g = w.heap.size) : Ru (w.alloc (.cells #[.int .u64 z] t)) (.slice (some ⟨g, 0, none⟩) 1 1) [b] := by
  subst hg
  refine Ru.mk rfl (by simp) (by simp [maxLen]) (fun i hi => ?_)
  obtain rfl : i = 0 := by simpa using hi
  rw [show (⟨w.heap.size, 0, none⟩ : Addr).add 0 = ⟨w.heap.size, 0, none⟩ from rfl, World.cell?_alloc_at _ _ _ _ rfl]
  subst hz
  rfl

/-- A number written into the row. -/
theorem Ou.put {B g : Nat} {w : World} {v : Value} {l : List UInt64} (h : Ou B w v l) (hv : v.ownBlock = some g) (j : Nat) (x : UInt64) : Ou B (w.setCell ⟨g, j, none⟩ (.int .u64 (x.toNat : Int))) v (l.set j x) := by
  unfold Ou at *
  rw [celU_set]
  refine ⟨by rw [List.length_set]; have := h.1; simpa using this, ?_⟩
  rcases h.2 with ⟨q, q0⟩ | ⟨g', cap, cur, q, hB, hg, q1, q2, q3, q4⟩
  · rw [q] at hv; cases hv
  · rw [q] at hv
    obtain rfl : g' = g := Option.some.inj hv
    refine .inr ⟨g', cap, cur.setIfInBounds j (.int .u64 (x.toNat : Int)), by rw [List.length_set]; exact q, hB, by rw [heap_setCell_same _ _ j _ _ _ hg], by rw [List.length_set]; exact q1, q2, by rw [Array.size_setIfInBounds]; exact q3, ?_⟩
    rw [← q4]
    simp [List.take_set, List.length_set]
theorem Ou.froz {B g n c : Nat} {w : World} {l : List UInt64} (h : Ou B w (.slice (some ⟨g, 0, none⟩) n c) l) (j : Nat) : w.frozen? ⟨g, j, none⟩ = false := by
  rcases h.2 with ⟨q, q0⟩ | ⟨g', cap, cur, q, hB, hg, _⟩
  · cases q
  · simp only [Value.slice.injEq, Option.some.injEq, Addr.mk.injEq, and_true] at q
    rw [q.1]; exact frozen_of_row _ _ _ _ _ hg
/-- A row of the call's own: none, or at the head of its block. -/
theorem Ou.blk {B : Nat} {w : World} {v : Value} {l : List UInt64} (h : Ou B w v l) : (v = .slice none 0 0 ∧ l = []) ∨ ∃ g c, v = .slice (some ⟨g, 0, none⟩) l.length c ∧ l.length ≤ c ∧ c ≤ maxLen ∧ B ≤ g ∧ g < w.heap.size ∧ (∀ j, (hj : j < l.length) → w.cell? ⟨g, j, none⟩ = some (.int .u64 (l[j].toNat : Int))) ∧ ∀ j, w.frozen? ⟨g, j, none⟩ = false := by
  have h' := h
  rcases h.2 with ⟨hv, h0⟩ | ⟨g, cap, cur, hv, hg, hh, hn, hcap, hsz, htake⟩
  · exact .inl ⟨hv, List.length_eq_zero_iff.1 h0⟩
  · subst hv
    refine .inr ⟨g, cap, rfl, hn, hcap, hg, (Array.getElem?_eq_some_iff.1 hh).1, fun j hj => ?_, fun j => h'.froz j⟩
    unfold Ou at h'
    rw [h'.cellAt j (by omega), celU_get l j hj]
end Go.Proofs.Ytanafjbiclicpaa

/- Peers in memory: 'RdPe w v ps': the slice value v reads as these peers; 'OwPe': a row of the call's own. -/
namespace Go.Proofs.Ytanafjbiclicpaa
open Go.RowKit
set_option linter.unusedVariables false
set_option maxRecDepth 100000

theorem fm_inv {α : Type} {f : α → List Value} {n : Nat} (hf : ∀ x, (f x).length = n) (hn : 0 < n) (l : List α) (j : Nat) (u : Value) (h : (l.flatMap f)[j]? = some u) : ∃ i r x, l[i]? = some x ∧ r < n ∧ j = i * n + r ∧ (f x)[r]? = some u := by
  have hj := (List.getElem?_eq_some_iff.1 h).1
  rw [fm_len hf] at hj
  have hi : j / n < l.length := Nat.div_lt_of_lt_mul (by rw [Nat.mul_comm]; exact hj)
  have hr := Nat.mod_lt j hn
  have e : j = j / n * n + j % n := by have := Nat.div_add_mod j n; rw [Nat.mul_comm] at this; omega
  refine ⟨j / n, j % n, l[j / n], List.getElem?_eq_getElem hi, hr, e, ?_⟩
  rw [← fm_at hf l (j / n) (j % n) _ (List.getElem?_eq_getElem hi) hr, ← e]
  exact h

/-- A peer: its number, its store, whether it only learns. -/
abbrev Pe := UInt64 × Int × Bool
def pc (p : Pe) : List Value := [.int .u64 (p.1.toNat : Int), .int .i64 p.2.1, .bool p.2.2]
def pcs (ps : List Pe) : List Value := ps.flatMap pc
theorem pc_len (p : Pe) : (pc p).length = 3 := rfl
theorem pcs_len (ps : List Pe) : (pcs ps).length = ps.length * 3 := fm_len pc_len ps
theorem pcs_app (a b : List Pe) : pcs (a ++ b) = pcs a ++ pcs b := by simp [pcs]
theorem pcs_one (ps : List Pe) : ∀ u ∈ pcs ps, u.oneCell' = true := by
  intro u hu
  obtain ⟨p, _, h⟩ := List.mem_flatMap.1 hu
  simp only [pc, List.mem_cons, List.not_mem_nil, or_false] at h
  rcases h with rfl | rfl | rfl <;> rfl
/-- At this address a peer lies. -/
structure PeAt (w : World) (a : Addr) (p : Pe) : Prop where
  c0 : w.cell? a = some (.int .u64 (p.1.toNat : Int))
  c1 : w.cell? ⟨a.block, a.off + 1, none⟩ = some (.int .i64 p.2.1)
  c2 : w.cell? ⟨a.block, a.off + 2, none⟩ = some (.bool p.2.2)
theorem PeAt.below {B : Nat} {w w' : World} {a : Addr} {p : Pe} (h : PeAt w a p) (hb : Below B w w') (hB : w.heap.size ≤ B) : PeAt w' a p := by
  have k : ∀ x u, w.cell? x = some u → w'.cell? x = some u := fun x u q => by rw [hb.cell (by have := World.block_lt_of_cell? w _ q; omega)]; exact q
  exact ⟨k _ _ h.c0, k _ _ h.c1, k _ _ h.c2⟩
/-- The slice value v reads as these peers. -/
def RdPe (w : World) (v : Value) (ps : List Pe) : Prop :=
  ∃ ao c, v = .slice ao ps.length c ∧ ps.length ≤ c ∧ c ≤ maxLen ∧ (ao = none → c = 0) ∧ ∀ i p, ps[i]? = some p → ∃ a, ao = some a ∧ PeAt w (a.add (i * 3)) p
theorem RdPe.nil (w : World) : RdPe w (.slice none 0 0) [] := ⟨none, 0, rfl, by simp, by simp, fun _ => rfl, fun i p hi => by simp at hi⟩
theorem RdPe.below {B : Nat} {w w' : World} {v : Value} {ps : List Pe} (h : RdPe w v ps) (hb : Below B w w') (hB : w.heap.size ≤ B) : RdPe w' v ps := by
  obtain ⟨ao, c, h0, h1, h2, h3, h4⟩ := h
  refine ⟨ao, c, h0, h1, h2, h3, fun i p hi => ?_⟩
  obtain ⟨a, e, hc⟩ := h4 i p hi
  exact ⟨a, e, hc.below hb hB⟩
theorem RdPe.shape {w : World} {v : Value} {l : List Pe} (h : RdPe w v l) : ∃ a c, v = .slice a l.length c ∧ l.length ≤ c ∧ c ≤ 9223372036854775807 := by
  obtain ⟨ao, c, e, h1, h2, _⟩ := h; exact ⟨_, _, e, h1, by unfold maxLen at h2; omega⟩
/-- The first peers of a list. -/
theorem RdPe.pre {w : World} {ao : Option Addr} {n c : Nat} {ps : List Pe} (h : RdPe w (.slice ao n c) ps) (j : Nat) (hj : j ≤ ps.length) : RdPe w (.slice ao j c) (ps.take j) := by
  obtain ⟨ao', c', e, h1, h2, h3, h4⟩ := h
  simp only [Value.slice.injEq] at e
  obtain ⟨rfl, rfl, rfl⟩ := e
  have hl : (ps.take j).length = j := by rw [List.length_take]; omega
  refine ⟨ao, c, by rw [hl], by omega, h2, h3, fun i p hi => ?_⟩
  have hi2 := (List.getElem?_eq_some_iff.1 hi).1
  rw [List.getElem?_take, if_pos (by omega)] at hi
  exact h4 i p hi
theorem add_at (a : Addr) (n r : Nat) : (⟨(a.add n).block, (a.add n).off + (r + 1), none⟩ : Addr) = a.add (n + (r + 1)) := by
  unfold Addr.add
  by_cases h : n = 0
  · subst h; simp
  · simp [h]; omega
theorem RdPe.cells {w : World} {a : Addr} {n c : Nat} {ps : List Pe} (h : RdPe w (.slice (some a) n c) ps) : ∀ j u, (pcs ps)[j]? = some u → w.cell? (a.add j) = some u := by
  intro j u hu
  obtain ⟨ao', c', e, h1, h2, h3, h4⟩ := h
  simp only [Value.slice.injEq] at e
  obtain ⟨rfl, rfl, rfl⟩ := e
  obtain ⟨i, r, p, ep, hr, rfl, hp⟩ := fm_inv pc_len (by omega) ps j u hu
  obtain ⟨a', e, hc⟩ := h4 i p ep
  obtain rfl := Option.some.inj e
  match r, hr with
  | 0, _ => simp [pc] at hp; subst hp; exact hc.c0
  | 1, _ => simp [pc] at hp; subst hp; rw [← add_at a (i * 3) 0]; exact hc.c1
  | 2, _ => simp [pc] at hp; subst hp; rw [← add_at a (i * 3) 1]; exact hc.c2

/-- A row of peers of the call's own. -/
def OwPe (B : Nat) (w : World) (v : Value) (ps : List Pe) : Prop := w.ownsRow B 31 3 v ps.length (pcs ps)
theorem OwPe.nil (B : Nat) (w : World) : OwPe B w (.slice none 0 0) [] := World.ownsRow_nil _ _ _ _
theorem ownsRow_belP {B C n s : Nat} {e : TypeId} {w w' : World} {v : Value} {xs : List Value} (h : w.ownsRow B e s v n xs) (hb : Below C w w') (hC : w.heap.size ≤ C) : w'.ownsRow B e s v n xs := by
  obtain ⟨h1, h2⟩ := h
  refine ⟨h1, ?_⟩
  rcases h2 with h2 | ⟨g, cap, cur, hv, hg, hh, r⟩
  · exact .inl h2
  · refine .inr ⟨g, cap, cur, hv, hg, ?_, r⟩
    have hlt : g < w.heap.size := (Array.getElem?_eq_some_iff.1 hh).1
    rw [hb.block g (by omega)]; exact hh
theorem OwPe.below {B C : Nat} {w w' : World} {v : Value} {ps : List Pe} (h : OwPe B w v ps) (hb : Below C w w') (hC : w.heap.size ≤ C) : OwPe B w' v ps := ownsRow_belP h hb hC
theorem OwPe.rd {B : Nat} {w : World} {v : Value} {ps : List Pe} (h : OwPe B w v ps) : RdPe w v ps := by
  obtain ⟨a, c, hv, h1, h2, h3, h4⟩ := row_reads h
  refine ⟨a, c, hv, h1, h2, h3, fun i p hi => ?_⟩
  have k : ∀ r u, r < 3 → (pc p)[r]? = some u → ∃ g, a = some ⟨g, 0, none⟩ ∧ w.cell? ⟨g, i * 3 + r, none⟩ = some u := fun r u hr e => h4 _ u (by unfold pcs; rw [fm_at pc_len ps i r p hi hr]; exact e)
  obtain ⟨g, e0, q0⟩ := k 0 _ (by omega) rfl
  obtain ⟨g1, e1, q1⟩ := k 1 _ (by omega) rfl
  obtain ⟨g2, e2, q2⟩ := k 2 _ (by omega) rfl
  rw [e0] at e1 e2
  obtain rfl : g = g1 := by have := Option.some.inj e1; exact congrArg Addr.block this
  obtain rfl : g = g2 := by have := Option.some.inj e2; exact congrArg Addr.block this
  refine ⟨⟨g, 0, none⟩, e0, ?_, ?_, ?_⟩
  · rw [Addr.add_lit, Nat.zero_add]; exact q0
  · rw [Addr.add_lit, Nat.zero_add]; exact q1
  · rw [Addr.add_lit, Nat.zero_add]; exact q2

theorem Try.infoPe : (Try.prog.info? 31).map (fun i => (i.zero, i.size, i.bytes)) = some (some (.agg #[.int .u64 0, .int .i64 0, .bool false]), 3, 24) := by kernel_rfl
theorem run_appPe (w : World) (ty : TypeId) (B : Nat) (v : Value) (l : List Pe) (hown : OwPe B w v l) (vx : Value) (m : List Pe) (hm : RdPe w vx m) (hB : B ≤ w.heap.size) (hlen : l.length + m.length ≤ 1099511627776) :
    ∃ v' w', (Builtin.append_ #[26, 26] ty #[v, vx]).run Try.prog w = .ok v' w' ∧ OwPe B w' v' (l ++ m) ∧ w.grownBy w' v.ownBlock ∧ (v'.ownBlock = v.ownBlock ∨ v'.ownBlock = some w.heap.size) := by
  obtain ⟨i, hi, hz0, hz1, hz2⟩ := info_parts Try.infoPe
  have hm' := hm
  obtain ⟨ao, c, rfl, h1, h2, h3, h4⟩ := hm
  cases ao with
  | none =>
    have hc := h3 rfl
    have hl : m = [] := List.length_eq_zero_iff.1 (by omega)
    subst hl; subst hc
    exact ⟨v, w, run_append_owned_none (P := Try.prog) (w := w) B 26 ty 31 i 3 Try.underlying26 hi v l.length (pcs l) hown, by simpa using hown, World.grownBy.refl _ _, .inl rfl⟩
  | some ad =>
    obtain ⟨v', w', hr, q2, q3, q4⟩ := run_appW (P := Try.prog) w B 26 ty 31 _ 3 24 Try.underlying26 Try.infoPe rfl (by decide) v l.length (pcs l) hown ad m.length c (pcs m) (pcs_len m) hm'.cells (pcs_one m) (by unfold maxLen; omega) (by omega) hB
    exact ⟨v', w', hr, by unfold OwPe; rw [pcs_app, List.length_append]; exact q2, q3, q4⟩
theorem wpList_appPe {w : World} {ops : Array Oper} {rest : List Oper} {o : Oper} {a : Act} {Q : Exit → Act → World → Prop} (hgd : o.guard = none) (s x : Operand)
    (ho : o.op = .call { callee := .builtin .append, args := #[s, x], argTypes := #[26, 26] })
    (B : Nat) (v : Value) (l : List Pe) (hs : a.eval s = v) (hown : OwPe B w v l) (vx : Value) (m : List Pe) (hx : a.eval x = vx) (hm : RdPe w vx m) (hB : B ≤ w.heap.size) (hlen : l.length + m.length ≤ 1099511627776)
    (h : ∀ v' w', OwPe B w' v' (l ++ m) → w.grownBy w' v.ownBlock → (v'.ownBlock = v.ownBlock ∨ v'.ownBlock = some w.heap.size) → wpList Try.prog ops Q rest (a.put o.dst v') w') : wpList Try.prog ops Q (o :: rest) a w := by
  refine wpList_plain hgd fun K hK => ?_
  obtain ⟨v', w', hr, q2, q3, q4⟩ := run_appPe w o.type B v l hown vx m hm hB hlen
  unfold Oper.wp execOp
  simp only [ho, resolve, invoke, builtin, Sem.run_bind, Sem.run_pure, Result.andThen_ok, List.map_toArray, List.map_cons, List.map_nil, hs, hx, hr]
  exact hK _ _ (h v' w' q2 q3 q4)
end Go.Proofs.Ytanafjbiclicpaa

/- Covers, On's look, rises, numbers. -/
namespace Go.Proofs.Ytanafjbiclicpaa
open Go.RowKit
set_option linter.unusedVariables false
set_option maxRecDepth 100000

theorem g_al (w : World) (o : Obj) : Below w.heap.size w (w.alloc o) := (Below.refl _ _).alloc (Nat.le_refl _) o
theorem Rd.shp {w : World} {v : Value} {l : List UInt8} (h : Rd w v l) : ∃ a c, v = .slice a l.length c := by
  obtain ⟨a, c, e, _⟩ := h; exact ⟨a, c, e⟩
theorem covers_any {i c r : Int} {sv ev kv : Value} {pa : Option Addr} {pn pk : Nat} {s e k : List UInt8} {w : World} (hs : Rd w sv s) (he : Rd w ev e) (hk : Rd w kv k) :
    Calls Try.prog 21 #[.agg #[.int .u64 i, sv, ev, .int .u64 c, .int .u64 r, .slice pa pn pk], kv] w fun x w' => x = .returned (.bool (cov s e k)) ∧ Below w.heap.size w w' := by
  have q1 := fun o => bcompare_any (hk.alloc o) (hs.alloc o)
  have q2 := fun o => bcompare_any (hk.alloc o) (he.alloc o)
  have hcv : cov s e k = (decide (0 ≤ M.cmpL k s) && (decide (e.length = 0) || decide (M.cmpL k e < 0))) := rfl
  obtain ⟨sa, sc, rfl⟩ := hs.shp
  obtain ⟨ea, ec, rfl⟩ := he.shp
  have hel := he.len
  unfold maxLen at hel
  generalize M.cmpL k s = x1 at *
  generalize M.cmpL k e = x2 at *
  generalize cov s e k = res at *
  generalize s.length = sn at *
  generalize e.length = en at *
  clear hs he hk
  have HC : Hid _ := hcv
  clear hcv
  go_enter Try.func21, Try.ntmps21
  go_wp2_with fail
  refine (q1 _).mono ?_
  rintro x w1 ⟨rfl, rfl⟩
  by_cases h1 : 0 ≤ x1
  · by_cases h2 : en < 1
    · obtain rfl : en = 0 := by omega
      go_wp2_with fail
      go_ret
      exact ⟨by rw [HC.out, decide_eq_true h1]; rfl, g_al _ _⟩
    · have h3 : ¬ (en : Int) = 0 := by omega
      have h4 : ¬ en = 0 := by omega
      have h5 : ((en : Int) == 0) = false := by simp; omega
      go_wp2_with fail
      refine (q2 _).mono ?_
      rintro x w2 ⟨rfl, rfl⟩
      go_wp2_with fail
      go_ret
      exact ⟨by rw [HC.out, decide_eq_true h1, decide_eq_false h4]; rfl, g_al _ _⟩
  · go_wp2_with fail
    go_ret
    exact ⟨by rw [HC.out, decide_eq_false (show ¬ 0 ≤ x1 by omega)]; rfl, g_al _ _⟩
/-- Do the numbers rise, above the last one? -/
def risF : UInt64 → List UInt64 → Bool
  | _, [] => true
  | a, x :: l => decide (a < x) && risF x l
theorem rises_any {v : Value} {l : List UInt64} {w : World} (hr : Ru w v l) :
    Calls Try.prog 74 #[v] w fun x w' => x = .returned (.bool (risF 0 l)) ∧ w' = w := by
  obtain ⟨ao, c, rfl, h1, h2, h3, h4⟩ := hr
  unfold maxLen at h2
  generalize hres : risF 0 l = res
  have HR : Hid (risF 0 (l.drop 0) = res) := hres
  go_enter Try.func74, Try.ntmps74
  go_wp2_with fail
  go_loopw [3, 5, 8] (fun a _ i wr => ∃ (k : Nat) (y : UInt64), k ≤ l.length ∧ a = .int .u64 (y.toNat : Int) ∧ i = .int .i64 k ∧ Hid (risF y (l.drop k) = res) ∧ wr = w) (fun _ _ i _ => l.length - (intOf i).toNat)
  case atStart => exact ⟨0, 0, Nat.zero_le _, rfl, rfl, HR, rfl⟩
  case round =>
    obtain ⟨k, y, hk, rfl, rfl, HX, rfl⟩ := hrel
    clear HR hres
    by_cases hlt : k < l.length
    · obtain ⟨a, rfl, hc⟩ := h4 k hlt
      have HT : Hid (l.drop k = l[k] :: l.drop (k + 1)) := List.drop_eq_getElem_cons hlt
      clear h4 h3
      generalize l[k] = x at *
      by_cases hxy : y < x
      · have hq2 : ¬ x.toNat ≤ y.toNat := by have := UInt64.lt_iff_toNat_lt.1 hxy; omega
        have hq : ¬ ((x.toNat : Int) ≤ (y.toNat : Int)) := by omega
        go_wp2_with fail
        refine ⟨⟨k + 1, x, by omega, rfl, by go_num, ?_, trivial⟩, by simp [intOf]; omega⟩
        have := HX.out
        rw [HT.out] at this
        unfold risF at this
        rw [decide_eq_true hxy, Bool.true_and] at this
        exact this
      · have hq2 : x.toNat ≤ y.toNat := by have : ¬ y.toNat < x.toNat := fun q => hxy (UInt64.lt_iff_toNat_lt.2 q); omega
        have hq : ((x.toNat : Int) ≤ (y.toNat : Int)) := by omega
        go_wp2_with fail
        go_ret
        refine ⟨?_, rfl⟩
        have := HX.out
        rw [HT.out] at this
        unfold risF at this
        rw [decide_eq_false hxy, Bool.false_and] at this
        rw [← this]; rfl
    · obtain rfl : k = l.length := by omega
      have HX2 : Hid (true = res) := by have := HX.out; rw [List.drop_length] at this; exact this
      clear h4 HX
      go_wp2_with fail
      go_ret
      exact ⟨by rw [← HX2.out]; rfl, rfl⟩
theorem greatest_any (x : UInt64) (w : World) : Calls Try.prog 80 #[.int .u64 (x.toNat : Int)] w fun e w' => e = .returned (.bool (decide (x.toNat = 18446744073709551615))) ∧ w' = w := by
  go_enter Try.func80, Try.ntmps80
  go_wp2_with fail
  go_ret
  refine ⟨?_, rfl⟩
  by_cases h : x.toNat = 18446744073709551615
  · simp [h]
  · have : ¬ ((x.toNat : Int) = 18446744073709551615) := by omega
    simp [h, this]
end Go.Proofs.Ytanafjbiclicpaa

/- numbers; on. -/
namespace Go.Proofs.Ytanafjbiclicpaa
open Go.RowKit
set_option linter.unusedVariables false
set_option maxRecDepth 100000

set_option maxHeartbeats 1000000 in
theorem numbers_any {v : Value} {ps : List Pe} {w : World} (hr : RdPe w v ps) (hl : ps.length ≤ 1099511627776) :
    Calls Try.prog 75 #[v] w fun x w' => ∃ v', x = .returned v' ∧ Ou w.heap.size w' v' (ps.map (·.1)) ∧ Below w.heap.size w w' := by
  have HR : Hid (RdPe w v ps) := hr
  obtain ⟨ao, c, rfl, h1, h2, h3, h4⟩ := hr
  unfold maxLen at h2
  clear h4
  go_enter Try.func75, Try.ntmps75
  go_wp2_with fail
  go_loopw [3, 5, 8] (fun u _ i wr => ∃ k : Nat, k ≤ ps.length ∧ i = .int .i64 k ∧ Ou w.heap.size wr u ((ps.take k).map (·.1)) ∧ Below w.heap.size w wr) (fun _ _ i _ => ps.length - (intOf i).toNat)
  case atStart => exact ⟨0, Nat.zero_le _, rfl, Ou.nil _ _, Below.refl _ _⟩
  case round =>
    obtain ⟨k, hk, rfl, ho, hb⟩ := hrel
    by_cases hlt : k < ps.length
    · have HT : Hid ((ps.take (k + 1)).map (·.1) = (ps.take k).map (·.1) ++ [(ps[k]).1]) := by
        show _ = _
        rw [List.take_succ_eq_append_getElem hlt, List.map_append]; rfl
      obtain ⟨ao', c', e, _, _, _, h4⟩ := HR.out.below hb (Nat.le_refl _)
      simp only [Value.slice.injEq, true_and] at e
      obtain ⟨rfl, rfl⟩ := e
      obtain ⟨a, rfl, hc⟩ := h4 k _ (List.getElem?_eq_getElem hlt)
      clear h4
      obtain ⟨c0, c1, c2⟩ := hc
      have hlen : ((ps.take k).map (·.1)).length + 1 ≤ 10995116277760 := by simp; omega
      generalize (ps.take k).map (·.1) = L at *
      generalize ps[k] = p at *
      obtain ⟨p0, p1, p2⟩ := p
      simp only [] at c0 c1 c2 HT
      go_wp2_with (first | (at_builtin; refine wpList_appU rfl _ _ rfl w.heap.size _ L rfl ((ho.below (g_al _ _) (Nat.le_refl _)).below (g_al _ _) (Nat.le_refl _)) _ [p0] rfl (ru_one _ _ _ rfl _ _ (by simp)) (by have := hb.size; simp; omega) hlen ?_; intro v4 w4 ho4 hg4 hw4) | fail)
      refine ⟨⟨k + 1, by omega, by go_num, by rw [HT.out]; exact ho4, ?_⟩, by simp [intOf]; omega⟩
      have hx : Below w.heap.size w ((wr.alloc (.cells #[.int .u64 (p0.toNat : Int), .int .i64 p1, .bool p2] 31)).alloc (.cells #[.int .u64 (p0.toNat : Int)] 22)) := (hb.alloc hb.size _).alloc (by have := hb.size; simp; omega) _
      exact hx.grown hg4 (by have := hb.size; simp; omega) (fun j e => (World.ownsRow.lt ho j e).1)
    · obtain rfl : k = ps.length := by omega
      rw [List.take_length] at ho
      go_wp2_with fail
      go_ret
      exact ⟨_, rfl, ho, hb⟩
end Go.Proofs.Ytanafjbiclicpaa

/- Blocks of three and of six cells. -/
namespace Go.Proofs.Ytanafjbiclicpaa
open Go.RowKit
set_option linter.unusedVariables false
set_option maxRecDepth 100000

theorem set3_block {w : World} {g : Nat} {u0 u1 u2 : Value} {t : TypeId} (h : w.heap[g]? = some (.cells #[u0, u1, u2] t (0, 0))) (v0 v1 v2 : Value) : (((w.setCell ⟨g, 0, none⟩ v0).setCell ⟨g, 1, none⟩ v1).setCell ⟨g, 2, none⟩ v2).heap[g]? = some (.cells #[v0, v1, v2] t (0, 0)) := by
  have h0 := heap_setCell_same w g 0 _ _ v0 h
  have h1 := heap_setCell_same _ g 1 _ _ v1 h0
  have h2 := heap_setCell_same _ g 2 _ _ v2 h1
  rw [h2]
  rfl
theorem set3_chg (w : World) (g : Nat) (v0 v1 v2 : Value) : Chg (fun b => b = g) w (((w.setCell ⟨g, 0, none⟩ v0).setCell ⟨g, 1, none⟩ v1).setCell ⟨g, 2, none⟩ v2) :=
  (((Chg.refl (fun b => b = g) w).put g 0 v0 rfl).put g 1 v1 rfl).put g 2 v2 rfl
theorem cells3 {w : World} {g : Nat} {u0 u1 u2 : Value} {t : TypeId} (h : w.heap[g]? = some (.cells #[u0, u1, u2] t (0, 0))) : w.cell? ⟨g, 0, none⟩ = some u0 ∧ w.cell? ⟨g, 1, none⟩ = some u1 ∧ w.cell? ⟨g, 2, none⟩ = some u2 ∧ ∀ i, w.frozen? ⟨g, i, none⟩ = false :=
  ⟨by rw [cell_of_row _ _ _ _ _ _ h]; rfl, by rw [cell_of_row _ _ _ _ _ _ h]; rfl, by rw [cell_of_row _ _ _ _ _ _ h]; rfl, fun i => frozen_of_row _ _ _ _ _ h⟩
theorem set6_block {w : World} {g : Nat} {u0 u1 u2 u3 u4 u5 : Value} {t : TypeId} (h : w.heap[g]? = some (.cells #[u0, u1, u2, u3, u4, u5] t (0, 0))) (v0 v1 v2 v3 v4 v5 : Value) : ((((((w.setCell ⟨g, 0, none⟩ v0).setCell ⟨g, 1, none⟩ v1).setCell ⟨g, 2, none⟩ v2).setCell ⟨g, 3, none⟩ v3).setCell ⟨g, 4, none⟩ v4).setCell ⟨g, 5, none⟩ v5).heap[g]? = some (.cells #[v0, v1, v2, v3, v4, v5] t (0, 0)) := by
  have h0 := heap_setCell_same w g 0 _ _ v0 h
  have h1 := heap_setCell_same _ g 1 _ _ v1 h0
  have h2 := heap_setCell_same _ g 2 _ _ v2 h1
  have h3 := heap_setCell_same _ g 3 _ _ v3 h2
  have h4 := heap_setCell_same _ g 4 _ _ v4 h3
  have h5 := heap_setCell_same _ g 5 _ _ v5 h4
  rw [h5]
  rfl
theorem set6_chg (w : World) (g : Nat) (v0 v1 v2 v3 v4 v5 : Value) : Chg (fun b => b = g) w ((((((w.setCell ⟨g, 0, none⟩ v0).setCell ⟨g, 1, none⟩ v1).setCell ⟨g, 2, none⟩ v2).setCell ⟨g, 3, none⟩ v3).setCell ⟨g, 4, none⟩ v4).setCell ⟨g, 5, none⟩ v5) :=
  ((((((Chg.refl (fun b => b = g) w).put g 0 v0 rfl).put g 1 v1 rfl).put g 2 v2 rfl).put g 3 v3 rfl).put g 4 v4 rfl).put g 5 v5 rfl
theorem cells6 {w : World} {g : Nat} {u0 u1 u2 u3 u4 u5 : Value} {t : TypeId} (h : w.heap[g]? = some (.cells #[u0, u1, u2, u3, u4, u5] t (0, 0))) : w.cell? ⟨g, 0, none⟩ = some u0 ∧ w.cell? ⟨g, 1, none⟩ = some u1 ∧ w.cell? ⟨g, 2, none⟩ = some u2 ∧ w.cell? ⟨g, 3, none⟩ = some u3 ∧ w.cell? ⟨g, 4, none⟩ = some u4 ∧ w.cell? ⟨g, 5, none⟩ = some u5 ∧ ∀ i, w.frozen? ⟨g, i, none⟩ = false :=
  ⟨by rw [cell_of_row _ _ _ _ _ _ h]; rfl, by rw [cell_of_row _ _ _ _ _ _ h]; rfl, by rw [cell_of_row _ _ _ _ _ _ h]; rfl, by rw [cell_of_row _ _ _ _ _ _ h]; rfl, by rw [cell_of_row _ _ _ _ _ _ h]; rfl, by rw [cell_of_row _ _ _ _ _ _ h]; rfl, fun i => frozen_of_row _ _ _ _ _ h⟩
end Go.Proofs.Ytanafjbiclicpaa

/- on: the peer on a store. -/
namespace Go.Proofs.Ytanafjbiclicpaa
open Go.RowKit
set_option linter.unusedVariables false
set_option maxRecDepth 100000

/-- The first peer on that store. -/
def onF (ps : List Pe) (st : Int) : Option Pe := ps.find? (fun p => decide (p.2.1 = st))
def noPe : Pe := (0, 0, false)
def peV (p : Pe) : Value := .agg #[.int .u64 (p.1.toNat : Int), .int .i64 p.2.1, .bool p.2.2]

theorem on1_any {p0 : UInt64} {p1 st : Int} {p2 : Bool} {b : Nat} {w : World} (hc : w.cell? ⟨b, 0, none⟩ = some (.int .i64 st)) :
    Calls Try.prog 73 #[.agg #[.int .u64 (p0.toNat : Int), .int .i64 p1, .bool p2], .pointer (some ⟨b, 0, none⟩)] w fun x w' => x = .returned (.bool (decide (p1 = st))) ∧ Below w.heap.size w w' := by
  have hc2 : ∀ o, (w.alloc o).cell? ⟨b, 0, none⟩ = some (.int .i64 st) := fun o => by
    rw [(g_al w o).cell (by have := World.block_lt_of_cell? w _ hc; exact this)]; exact hc
  have hc3 := hc2 (.cells #[.int .u64 (p0.toNat : Int), .int .i64 p1, .bool p2] 31)
  clear hc2
  go_enter Try.func73, Try.ntmps73
  go_wp2_with fail
  go_ret
  refine ⟨?_, g_al _ _⟩
  by_cases h : p1 = st
  · simp [h]
  · simp [h]
/-- What slices.IndexFunc finds. -/
def IxP (ps : List Pe) (st : Int) (r : Int) : Prop := (∃ (k : Nat) (p : Pe), r = (k : Int) ∧ ps[k]? = some p ∧ onF ps st = some p) ∨ (r = -1 ∧ onF ps st = none)
set_option maxHeartbeats 1000000 in
theorem indexP_any {v : Value} {ps : List Pe} {st : Int} {b : Nat} {w : World} (hr : RdPe w v ps) (hc : w.cell? ⟨b, 0, none⟩ = some (.int .i64 st)) :
    Calls Try.prog 72 #[v, .func (.func 73) #[] #[.pointer (some ⟨b, 0, none⟩)]] w fun x w' => ∃ r, x = .returned (.int .i64 r) ∧ IxP ps st r ∧ Below w.heap.size w w' := by
  have HR : Hid (RdPe w v ps) := hr
  have HC : Hid _ := hc
  have hbl := World.block_lt_of_cell? w _ hc
  obtain ⟨ao, c, rfl, h1, h2, h3, h4⟩ := hr
  unfold maxLen at h2
  clear h4 hc
  go_enter Try.func72, Try.ntmps72
  go_wp2_with fail
  go_loopw [5, 8] (fun _ i wr => ∃ k : Nat, k ≤ ps.length ∧ i = .int .i64 k ∧ Hid (onF ps st = onF (ps.drop k) st) ∧ Below w.heap.size w wr) (fun _ i _ => ps.length - (intOf i).toNat)
  case atStart => exact ⟨0, Nat.zero_le _, rfl, rfl, Below.refl _ _⟩
  case round =>
    obtain ⟨k, hk, rfl, HX, hb⟩ := hrel
    by_cases hlt : k < ps.length
    · have HT : Hid (ps.drop k = ps[k] :: ps.drop (k + 1)) := List.drop_eq_getElem_cons hlt
      have HI : Hid (ps[k]? = some ps[k]) := List.getElem?_eq_getElem hlt
      obtain ⟨ao', c', e, _, _, _, h4⟩ := HR.out.below hb (Nat.le_refl _)
      simp only [Value.slice.injEq, true_and] at e
      obtain ⟨rfl, rfl⟩ := e
      obtain ⟨a, rfl, hc⟩ := h4 k _ (List.getElem?_eq_getElem hlt)
      clear h4
      obtain ⟨c0, c1, c2⟩ := hc
      have hcw : wr.cell? ⟨b, 0, none⟩ = some (.int .i64 st) := by rw [hb.cell hbl]; exact HC.out
      generalize ps[k] = p at *
      obtain ⟨p0, p1, p2⟩ := p
      simp only [] at c0 c1 c2
      have hon := on1_any (p0 := p0) (p1 := p1) (p2 := p2) hcw
      clear hcw
      by_cases he : p1 = st
      · rw [decide_eq_true he] at hon
        have HE : Hid _ := he
        clear he
        go_wp2_with fail
        refine hon.mono ?_
        rintro x w1 ⟨rfl, hb1⟩
        go_wp2_with fail
        go_ret
        refine ⟨_, rfl, .inl ⟨k, (p0, p1, p2), rfl, HI.out, ?_⟩, hb.trans (hb1.mono hb.size)⟩
        rw [HX.out, HT.out]
        unfold onF
        rw [List.find?_cons, decide_eq_true HE.out]
      · rw [decide_eq_false he] at hon
        have HE : Hid _ := he
        clear he
        go_wp2_with fail
        refine hon.mono ?_
        rintro x w1 ⟨rfl, hb1⟩
        go_wp2_with fail
        refine ⟨⟨k + 1, by omega, by go_num, ?_, hb.trans (hb1.mono hb.size)⟩, by simp [intOf]; omega⟩
        show _ = _
        rw [HX.out, HT.out]
        unfold onF
        rw [List.find?_cons, decide_eq_false HE.out]
    · obtain rfl : k = ps.length := by omega
      go_wp2_with fail
      go_ret
      refine ⟨_, rfl, .inr ⟨rfl, ?_⟩, hb⟩
      rw [HX.out, List.drop_length]; rfl
set_option maxHeartbeats 1000000 in
theorem on_any {v : Value} {ps : List Pe} {st : Int} {w : World} (hr : RdPe w v ps) :
    Calls Try.prog 45 #[v, .int .i64 st] w fun x w' => x = .returned (.tuple #[peV ((onF ps st).getD noPe), .bool (onF ps st).isSome]) ∧ Below w.heap.size w w' := by
  have HR : Hid (RdPe w v ps) := hr
  obtain ⟨ao, c, rfl, h1, h2, h3, h4⟩ := hr
  unfold maxLen at h2
  clear h4
  have hB0 : Below w.heap.size w ((w.alloc (.cells #[.int .i64 st] 3)).alloc (.cells #[.int .u64 0, .int .i64 0, .bool false] 31)) := (g_al w _).alloc (by simp) _
  have hz0 : ((w.alloc (.cells #[.int .i64 st] 3)).alloc (.cells #[.int .u64 0, .int .i64 0, .bool false] 31)).heap.size = w.heap.size + 2 := by simp
  have hcl : ((w.alloc (.cells #[.int .i64 st] 3)).alloc (.cells #[.int .u64 0, .int .i64 0, .bool false] 31)).cell? ⟨w.heap.size, 0, none⟩ = some (.int .i64 st) := by
    rw [(g_al _ _).cell (by simp), World.cell?_alloc_at _ _ _ _ rfl]; rfl
  have hrs : ((w.alloc (.cells #[.int .i64 st] 3)).alloc (.cells #[.int .u64 0, .int .i64 0, .bool false] 31)).heap[w.heap.size + 1]? = some (.cells #[.int .u64 0, .int .i64 0, .bool false] 31 (0, 0)) := by
    have := heap_alloc_new (w.alloc (.cells #[.int .i64 st] 3)) (.cells #[.int .u64 0, .int .i64 0, .bool false] 31)
    rw [World.size_alloc] at this
    exact this
  go_enter Try.func45, Try.ntmps45
  go_wp2_with fail
  generalize ((w.alloc (.cells #[.int .i64 st] 3)).alloc (.cells #[.int .u64 0, .int .i64 0, .bool false] 31)) = W0 at *
  refine (indexP_any (HR.out.below hB0 (Nat.le_refl _)) hcl).mono ?_
  rintro x w1 ⟨r, rfl, hix, hb1⟩
  have hB1 : Below w.heap.size w w1 := hB0.trans (hb1.mono hB0.size)
  have hR1 : w1.heap[w.heap.size + 1]? = some (.cells #[.int .u64 0, .int .i64 0, .bool false] 31 (0, 0)) := by rw [hb1.block _ (by omega)]; exact hrs
  have hs1 := hb1.size
  obtain ⟨r0, r1, r2, rz⟩ := cells3 hR1
  have rz0 := rz 0
  have rz1 := rz 1
  have rz2 := rz 2
  rcases hix with ⟨k, p, rfl, hp, ho⟩ | ⟨rfl, ho⟩
  · have HO : Hid _ := ho
    have hkl := (List.getElem?_eq_some_iff.1 hp).1
    obtain ⟨ao', c', e, _, _, _, h4⟩ := HR.out.below hB1 (Nat.le_refl _)
    simp only [Value.slice.injEq, true_and] at e
    obtain ⟨rfl, rfl⟩ := e
    obtain ⟨a, rfl, c0, c1, c2⟩ := h4 k p hp
    obtain ⟨p0, p1, p2⟩ := p
    simp only [] at c0 c1 c2
    have hch := set3_chg w1 (w.heap.size + 1) (.int .u64 (p0.toNat : Int)) (.int .i64 p1) (.bool p2)
    have HZ : Hid _ := And.intro (cells3 (set3_block hR1 (.int .u64 (p0.toNat : Int)) (.int .i64 p1) (.bool p2))) (hB1.trans (hch.below (fun b q => by omega) hB1.size))
    clear hch h4 ho hp hR1 rz hcl hrs
    have hk0 : ¬ ((k : Int) < 0) := by omega
    have hk1 : (k : Int) < (ps.length : Int) := by omega
    go_wp2_with fail
    obtain ⟨⟨k0, k1, k2, _⟩, hBz⟩ := HZ.out
    generalize (((w1.setCell ⟨w.heap.size + 1, 0, none⟩ (.int .u64 (p0.toNat : Int))).setCell ⟨w.heap.size + 1, 1, none⟩ (.int .i64 p1)).setCell ⟨w.heap.size + 1, 2, none⟩ (.bool p2)) = wz at *
    refine bodyPost_ret (v := .tuple #[.agg #[.int .u64 (p0.toNat : Int), .int .i64 p1, .bool p2], .bool true]) (by simp [results, Try.results45, go_sem, k0, k1, k2]; try rfl) rfl ?_
    exact ⟨by rw [HO.out]; rfl, hBz⟩
  · have HO : Hid _ := ho
    have hch := set3_chg w1 (w.heap.size + 1) (.int .u64 0) (.int .i64 0) (.bool false)
    have HZ : Hid _ := And.intro (cells3 (set3_block hR1 (.int .u64 0) (.int .i64 0) (.bool false))) (hB1.trans (hch.below (fun b q => by omega) hB1.size))
    clear hch ho hR1 rz hcl hrs
    go_wp2_with fail
    obtain ⟨⟨k0, k1, k2, _⟩, hBz⟩ := HZ.out
    generalize (((w1.setCell ⟨w.heap.size + 1, 0, none⟩ (.int .u64 0)).setCell ⟨w.heap.size + 1, 1, none⟩ (.int .i64 0)).setCell ⟨w.heap.size + 1, 2, none⟩ (.bool false)) = wz at *
    refine bodyPost_ret (v := .tuple #[.agg #[.int .u64 0, .int .i64 0, .bool false], .bool false]) (by simp [results, Try.results45, go_sem, k0, k1, k2]; try rfl) rfl ?_
    exact ⟨by rw [HO.out]; rfl, hBz⟩
end Go.Proofs.Ytanafjbiclicpaa
