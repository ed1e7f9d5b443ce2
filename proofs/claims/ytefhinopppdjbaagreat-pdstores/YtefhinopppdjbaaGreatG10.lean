/- My own words for lists of uint64 in memory: 'Ru w v l': the slice value v reads as the numbers l; 'Ou B w v l': a row of the call's own. -/
import Derived.Test.YtefhinopppdjbaaGreatG1
import Derived.Test.YtefhinopppdjbaaGreatG3
namespace Go.Proofs.YtefhinopppdjbaaGreat
open Go.RowKit
set_option linter.unusedVariables false

/-- The cells of a list of numbers. -/
def celU (l : List UInt64) : List Value := l.map fun x => Value.int .u64 (x.toNat : Int)
theorem celU_length (l : List UInt64) : (celU l).length = l.length := by simp [celU]
theorem celU_append (a b : List UInt64) : celU (a ++ b) = celU a ++ celU b := by simp [celU]
theorem celU_get (l : List UInt64) (i : Nat) (h : i < l.length) : (celU l)[i]? = some (.int .u64 (l[i].toNat : Int)) := by simp [celU, h]
theorem celU_one (l : List UInt64) : ∀ u ∈ celU l, u.oneCell' = true := by
  intro u hu
  obtain ⟨_, _, rfl⟩ := List.mem_map.1 hu
  rfl
theorem celU_set (l : List UInt64) (i : Nat) (x : UInt64) : celU (l.set i x) = (celU l).set i (.int .u64 (x.toNat : Int)) := by
  unfold celU; rw [List.map_set]

/-- The slice value v reads as the numbers l. -/
def Ru (w : World) (v : Value) (l : List UInt64) : Prop :=
  ∃ ao c, v = .slice ao l.length c ∧ l.length ≤ c ∧ c ≤ maxLen ∧ (ao = none → c = 0) ∧ ∀ i, (h : i < l.length) → ∃ a, ao = some a ∧ w.cell? (a.add i) = some (.int .u64 (l[i].toNat : Int))

theorem Ru.two {w : World} {v : Value} {l : List UInt64} (h : Ru w v l) :
    (v = .slice none 0 0 ∧ l = []) ∨ ∃ a c, v = .slice (some a) l.length c ∧ l.length ≤ c ∧ c ≤ maxLen ∧ ∀ i, (h : i < l.length) → w.cell? (a.add i) = some (.int .u64 (l[i].toNat : Int)) := by
  obtain ⟨ao, c, hv, h1, h2, h3, h4⟩ := h
  cases ao with
  | none =>
    have hc := h3 rfl
    have hl : l = [] := List.length_eq_zero_iff.1 (by omega)
    subst hl; subst hc
    exact .inl ⟨hv, rfl⟩
  | some a =>
    refine .inr ⟨a, c, hv, h1, h2, fun i hi => ?_⟩
    obtain ⟨a', e, hc⟩ := h4 i hi
    obtain rfl := Option.some.inj e
    exact hc
theorem Ru.mk {w : World} {a : Addr} {n c : Nat} {l : List UInt64} (hn : n = l.length) (h1 : l.length ≤ c) (h2 : c ≤ maxLen) (h3 : ∀ i, (h : i < l.length) → w.cell? (a.add i) = some (.int .u64 (l[i].toNat : Int))) : Ru w (.slice (some a) n c) l :=
  ⟨some a, c, by rw [hn], h1, h2, (fun h => by cases h), fun i hi => ⟨a, rfl, h3 i hi⟩⟩
theorem Ru.nil (w : World) : Ru w (.slice none 0 0) [] := ⟨none, 0, rfl, by simp, by simp, fun _ => rfl, fun i hi => by simp at hi⟩
theorem Ru.below {B : Nat} {w w' : World} {v : Value} {l : List UInt64} (h : Ru w v l) (hb : Below B w w') (hB : w.heap.size ≤ B) : Ru w' v l := by
  obtain ⟨ao, c, h0, h1, h2, h3, h4⟩ := h
  refine ⟨ao, c, h0, h1, h2, h3, fun i hi => ?_⟩
  obtain ⟨a, e, hc⟩ := h4 i hi
  have hlt := World.block_lt_of_cell? w _ hc
  exact ⟨a, e, by rw [hb.cell (by omega)]; exact hc⟩
theorem Ru.drewN {w : World} {v : Value} {l : List UInt64} (h : Ru w v l) (n : Nat) : Ru (w.drewN n) v l := h.below (below_drewN (Below.refl _ _) n) (Nat.le_refl _)
theorem Ru.alloc {w : World} {v : Value} {l : List UInt64} (h : Ru w v l) (o : Obj) : Ru (w.alloc o) v l := h.below ((Below.refl _ _).alloc (Nat.le_refl _) o) (Nat.le_refl _)
theorem Ru.shape {w : World} {v : Value} {l : List UInt64} (h : Ru w v l) : ∃ a c, v = .slice a l.length c := by
  obtain ⟨ao, c, e, _⟩ := h; exact ⟨_, _, e⟩
theorem Ru.len {w : World} {v : Value} {l : List UInt64} (h : Ru w v l) : l.length ≤ maxLen := by
  obtain ⟨ao, c, _, h1, h2, _⟩ := h; omega

/-- A row of numbers of the call's own, in new memory from block B on. -/
def Ou (B : Nat) (w : World) (v : Value) (l : List UInt64) : Prop := w.ownsRow B 23 1 v l.length (celU l)
theorem Ou.ru {B : Nat} {w : World} {v : Value} {l : List UInt64} (h : Ou B w v l) : Ru w v l := by
  have h' := h
  obtain ⟨_, h2⟩ := h
  rcases h2 with ⟨hv, h0⟩ | ⟨g, cap, cur, hv, hg, hh, hn, hcap, hsz, htake⟩
  · obtain rfl := List.length_eq_zero_iff.1 h0
    subst hv
    exact Ru.nil _
  · subst hv
    refine Ru.mk rfl hn hcap (fun i hi => ?_)
    rw [Addr.add_lit, Nat.zero_add]
    unfold Ou at h'
    rw [h'.cellAt i (by omega), celU_get l i hi]
theorem Ou.below {B C : Nat} {w w' : World} {v : Value} {l : List UInt64} (h : Ou B w v l) (hb : Below C w w') (hC : w.heap.size ≤ C) : Ou B w' v l := by
  obtain ⟨h1, h2⟩ := h
  refine ⟨h1, ?_⟩
  rcases h2 with h2 | ⟨g, cap, cur, hv, hg, hh, r⟩
  · exact .inl h2
  · refine .inr ⟨g, cap, cur, hv, hg, ?_, r⟩
    have hlt : g < w.heap.size := (Array.getElem?_eq_some_iff.1 hh).1
    rw [hb.block g (by omega)]; exact hh
theorem Ou.mono {B B' : Nat} {w : World} {v : Value} {l : List UInt64} (h : Ou B w v l) (hB : B' ≤ B) : Ou B' w v l := by
  obtain ⟨h1, h2⟩ := h
  refine ⟨h1, ?_⟩
  rcases h2 with h2 | ⟨g, cap, cur, hv, hg, r⟩
  · exact .inl h2
  · exact .inr ⟨g, cap, cur, hv, by omega, r⟩
theorem Ou.alloc {B : Nat} {w : World} {v : Value} {l : List UInt64} (h : Ou B w v l) (o : Obj) : Ou B (w.alloc o) v l := World.ownsRow.alloc h o
theorem Ou.nil (B : Nat) (w : World) : Ou B w (.slice none 0 0) [] := World.ownsRow_nil _ _ _ _
theorem Ou.lt {B : Nat} {w : World} {v : Value} {l : List UInt64} (h : Ou B w v l) (b : Nat) (e : v.ownBlock = some b) : B ≤ b ∧ b < w.heap.size := World.ownsRow.lt h b e
theorem Ou.shape {B : Nat} {w : World} {v : Value} {l : List UInt64} (h : Ou B w v l) : ∃ a c, v = .slice a l.length c := h.ru.shape
theorem Ou.kept {B : Nat} {w w' : World} {v : Value} {l : List UInt64} {r : Option Nat} (h : Ou B w v l) (hg : w.grownBy w' r) (hne : ∀ b, v.ownBlock = some b → r ≠ some b) : Ou B w' v l := by
  refine World.ownsRow.kept h hg ?_
  by_cases e : v.ownBlock = none
  · exact .inl e
  · obtain ⟨b, hb⟩ := Option.ne_none_iff_exists'.1 e
    exact .inr (fun q => hne b hb (by rw [← q]; exact hb))
/-- The row of a literal. -/
theorem Ou.made (B : Nat) (w : World) (l : List UInt64) (n : Nat) (hn : n = l.length) (hB : B ≤ w.heap.size) (hl : l.length ≤ maxLen) (C : Array Value) (hC : C.toList = celU l) (g : Nat) (hg : g = w.heap.size) : Ou B (w.alloc (.cells C 23)) (.slice (some ⟨g, 0, none⟩) n n) l := by
  subst hn; subst hg
  have hs : C.size = l.length := by rw [← Array.length_toList, hC, celU_length]
  refine ⟨by rw [celU_length]; simp, .inr ⟨w.heap.size, l.length, C, rfl, hB, heap_alloc_new w _, Nat.le_refl _, hl, by omega, ?_⟩⟩
  rw [hC, List.take_of_length_le (by rw [celU_length]; omega)]

theorem Tryz.infoU : (Tryz.prog.info? 23).map (fun i => (i.zero, i.size, i.bytes)) = some (some (.int .u64 0), 1, 8) := by kernel_rfl

/-- 'append(out, x...)' of numbers, out the call's own. -/
theorem wpList_appU {w : World} {ops : Array Oper} {rest : List Oper} {o : Oper} {a : Act} {Q : Exit → Act → World → Prop} (hgd : o.guard = none) (s x : Operand)
    (ho : o.op = .call { callee := .builtin .append, args := #[s, x], argTypes := #[22, 22] })
    (B : Nat) (v : Value) (l : List UInt64) (hs : a.eval s = v) (hown : Ou B w v l) (vx : Value) (m : List UInt64) (hx : a.eval x = vx) (hm : Ru w vx m)
    (hB : B ≤ w.heap.size) (hlen : l.length + m.length ≤ 10995116277760)
    (h : ∀ v' w', Ou B w' v' (l ++ m) → w.grownBy w' v.ownBlock → (v'.ownBlock = v.ownBlock ∨ v'.ownBlock = some w.heap.size) → wpList Tryz.prog ops Q rest (a.put o.dst v') w') : wpList Tryz.prog ops Q (o :: rest) a w := by
  obtain ⟨i, hi, hz0, hz1, hz2⟩ := info_parts Tryz.infoU
  rcases hm.two with ⟨rfl, rfl⟩ | ⟨ad, c, rfl, h1, h2, h3⟩
  · refine wpList_append_own_none hgd s x 22 ho B 23 i 1 Tryz.underlying22 hi _ _ _ hs hown hx ?_
    exact h v w (by simpa using hown) (World.grownBy.refl _ _) (.inl rfl)
  · refine wpList_plain hgd fun K hK => ?_
    obtain ⟨v', w', hr, q2, q3, q4⟩ := run_appN (P := Tryz.prog) w B 22 o.type 23 (.int .u64 0) 8 Tryz.underlying22 Tryz.infoU rfl v l.length (celU l) hown ad m.length c (celU m) (by simp [celU_length]) (by
      intro j u hu
      have hj : j < m.length := by have := (List.getElem?_eq_some_iff.1 hu).1; simpa [celU_length] using this
      rw [h3 j hj]; rw [celU_get m j hj] at hu; exact hu) (celU_one m) (by unfold maxLen; omega) (by omega) hB
    unfold Oper.wp execOp
    simp only [ho, resolve, invoke, builtin, Sem.run_bind, Sem.run_pure, Result.andThen_ok, List.map_toArray, List.map_cons, List.map_nil, hs, hx, hr]
    exact hK _ _ (h v' w' (by unfold Ou; rw [celU_append, List.length_append]; exact q2) q3 q4)

theorem ru_one (w : World) (z : Int) (b : UInt64) (hz : z = (b.toNat : Int)) (t : TypeId) (g : Nat) (hg : g = w.heap.size) : Ru (w.alloc (.cells #[.int .u64 z] t)) (.slice (some ⟨g, 0, none⟩) 1 1) [b] := by
  subst hg
  refine Ru.mk rfl (by simp) (by simp [maxLen]) (fun i hi => ?_)
  obtain rfl : i = 0 := by simpa using hi
  rw [show (⟨w.heap.size, 0, none⟩ : Addr).add 0 = ⟨w.heap.size, 0, none⟩ from rfl, World.cell?_alloc_at _ _ _ _ rfl]
  subst hz
  rfl

/-- A number written into the row. -/
theorem Ou.put {B g : Nat} {w : World} {v : Value} {l : List UInt64} (h : Ou B w v l) (hv : v.ownBlock = some g) (j : Nat) (x : UInt64) : Ou B (w.setCell ⟨g, j, none⟩ (.int .u64 (x.toNat : Int))) v (l.set j x) := by
  unfold Ou at *
  rw [celU_set]
  refine ⟨by rw [List.length_set]; have := h.1; simpa using this, ?_⟩
  rcases h.2 with ⟨q, q0⟩ | ⟨g', cap, cur, q, hB, hg, q1, q2, q3, q4⟩
  · rw [q] at hv; cases hv
  · rw [q] at hv
    obtain rfl : g' = g := Option.some.inj hv
    refine .inr ⟨g', cap, cur.setIfInBounds j (.int .u64 (x.toNat : Int)), by rw [List.length_set]; exact q, hB, by rw [heap_setCell_same _ _ j _ _ _ hg], by rw [List.length_set]; exact q1, q2, by rw [Array.size_setIfInBounds]; exact q3, ?_⟩
    rw [← q4]
    simp [List.take_set, List.length_set]
theorem Ou.froz {B g n c : Nat} {w : World} {l : List UInt64} (h : Ou B w (.slice (some ⟨g, 0, none⟩) n c) l) (j : Nat) : w.frozen? ⟨g, j, none⟩ = false := by
  rcases h.2 with ⟨q, q0⟩ | ⟨g', cap, cur, q, hB, hg, _⟩
  · cases q
  · simp only [Value.slice.injEq, Option.some.injEq, Addr.mk.injEq, and_true] at q
    rw [q.1]; exact frozen_of_row _ _ _ _ _ hg
/-- A row of the call's own: none, or at the head of its block. -/
theorem Ou.blk {B : Nat} {w : World} {v : Value} {l : List UInt64} (h : Ou B w v l) : (v = .slice none 0 0 ∧ l = []) ∨ ∃ g c, v = .slice (some ⟨g, 0, none⟩) l.length c ∧ l.length ≤ c ∧ c ≤ maxLen ∧ B ≤ g ∧ g < w.heap.size ∧ (∀ j, (hj : j < l.length) → w.cell? ⟨g, j, none⟩ = some (.int .u64 (l[j].toNat : Int))) ∧ ∀ j, w.frozen? ⟨g, j, none⟩ = false := by
  have h' := h
  rcases h.2 with ⟨hv, h0⟩ | ⟨g, cap, cur, hv, hg, hh, hn, hcap, hsz, htake⟩
  · exact .inl ⟨hv, List.length_eq_zero_iff.1 h0⟩
  · subst hv
    refine .inr ⟨g, cap, rfl, hn, hcap, hg, (Array.getElem?_eq_some_iff.1 hh).1, fun j hj => ?_, fun j => h'.froz j⟩
    unfold Ou at h'
    rw [h'.cellAt j (by omega), celU_get l j hj]
end Go.Proofs.YtefhinopppdjbaaGreat
