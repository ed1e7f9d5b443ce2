/- A whole plan: its rows are the call's own, the views' own lists lie ahead of it. -/
import Derived.Test.YtedfjacmaidhkaaGreatG8
namespace Go.Proofs.YtedfjacmaidhkaaGreat
open Go.RowKit Go.Maps
set_option linter.unusedVariables false
set_option linter.unusedSimpArgs false
set_option maxRecDepth 100000

def r9l (r : RV) : List Value := [.int .u64 (r.id.toNat : Int), .slice r.sa r.s.length r.sc, .slice r.ea r.e.length r.ec, .int .u64 r.cf, .int .u64 r.vr, .slice r.pa r.ps.length r.pc, .int .i64 r.ld, .int .i64 r.sz, .bool r.bz]
def r9s (l : List RV) : List Value := l.flatMap r9l
theorem r9l_len (r : RV) : (r9l r).length = 9 := rfl
theorem r9s_len (l : List RV) : (r9s l).length = l.length * 9 := fm_len r9l_len l
theorem r9s_app (a b : List RV) : r9s (a ++ b) = r9s a ++ r9s b := by simp [r9s]
theorem r9s_one (l : List RV) : ∀ u ∈ r9s l, u.oneCell' = true := by
  intro u hu
  obtain ⟨p, _, h⟩ := List.mem_flatMap.1 hu
  simp only [r9l, List.mem_cons, List.not_mem_nil, or_false] at h
  rcases h with rfl | rfl | rfl | rfl | rfl | rfl | rfl | rfl | rfl <;> rfl
theorem sw_rd {B : Nat} {w : World} {v : Value} {l : List Sw} (h : w.ownsRow B 48 2 v l.length (swcs l)) : RdSw w v l := by
  obtain ⟨a, c, hv, h1, h2, h3, h4⟩ := row_reads h
  refine ⟨a, c, hv, h1, by unfold maxLen at h2; omega, fun i p hi => ?_⟩
  have k : ∀ r u, r < 2 → (swc p)[r]? = some u → ∃ g, a = some ⟨g, 0, none⟩ ∧ w.cell? ⟨g, i * 2 + r, none⟩ = some u := fun r u hr e => h4 _ u (by unfold swcs; rw [fm_at swc_len l i r p hi hr]; exact e)
  obtain ⟨g, e0, q0⟩ := k 0 _ (by omega) rfl
  obtain ⟨g1, e1, q1⟩ := k 1 _ (by omega) rfl
  rw [e0] at e1
  obtain rfl : g = g1 := by have := Option.some.inj e1; exact congrArg Addr.block this
  refine ⟨⟨g, 0, none⟩, e0, ?_, ?_⟩
  · rw [Addr.add_lit, Nat.zero_add]; exact q0
  · rw [Addr.add_lit, Nat.zero_add]; exact q1
theorem rv_rd {B : Nat} {w : World} {v : Value} {l : List RV} (h : w.ownsRow B 42 9 v l.length (r9s l)) (hi9 : ∀ r ∈ l, It9 w r) : RdRv w v l := by
  obtain ⟨a, c, hv, h1, h2, h3, h4⟩ := row_reads h
  refine ⟨a, c, hv, h1, by unfold maxLen at h2; omega, fun i r hi => ⟨hi9 r (List.mem_of_getElem? hi), ?_⟩⟩
  have k : ∀ j u, j < 9 → (r9l r)[j]? = some u → ∃ g, a = some ⟨g, 0, none⟩ ∧ w.cell? ⟨g, i * 9 + j, none⟩ = some u := fun j u hj e => h4 _ u (by unfold r9s; rw [fm_at r9l_len l i j r hi hj]; exact e)
  obtain ⟨g, e0, q0⟩ := k 0 _ (by omega) rfl
  refine ⟨⟨g, 0, none⟩, e0, fun j x hx => ?_⟩
  have hj : j < 9 := (Array.getElem?_eq_some_iff.1 hx).1
  have hx' : (r9l r)[j]? = some x := by
    have : (r9 r).toList = r9l r := rfl
    rw [← this]; simpa using hx
  obtain ⟨g', e', q'⟩ := k j x hj hx'
  rw [e0] at e'
  obtain rfl : g = g' := by have := Option.some.inj e'; exact congrArg Addr.block this
  rw [Addr.add_lit, Nat.zero_add]
  by_cases hj0 : j = 0
  · subst hj0; rw [if_pos rfl]; exact q'
  · rw [if_neg hj0]; exact q'
def mv (F : FuncId) (x : Nat) : Value := .func (.func F) #[.pointer (some ⟨x, 0, none⟩)] #[]
def rul (x : Nat) : Array Value := #[mv 38 x, mv 39 x, mv 40 x, mv 41 x, mv 42 x, mv 43 x, mv 44 x]
/-- A whole plan. -/
structure Ful (K : Nat) (w0 : World) (x : Nat) (d : PL) (p : PD) (os : List Or) (w : World) : Prop where
  bl : Below w0.heap.size w0 w
  blk : w.heap[x]? = some (.cells (plA d) 71 (0, 0))
  ss : w.ownsRow w0.heap.size 48 2 (sv d.sv) p.ss.length (swcs p.ss)
  rs : w.ownsRow w0.heap.size 42 9 (sv d.rv) p.rs.length (r9s p.rs)
  it : ∀ r ∈ p.rs, It9 w0 r
  os : w.ownsRow w0.heap.size 32 5 (sv d.ov) os.length (ors os)
  st : ∃ n, n ≤ K ∧ St d.ms n p.st w
  ld : ∃ n, n ≤ K ∧ Im d.ml n p.ld w
  le : ∃ n, n ≤ K ∧ Im d.md n p.le w
  nm : ∃ n, n ≤ K ∧ Gs d.mn n p.nm w
  ru : ∀ g, d.ru = some g → w.heap[g]? = some (.cells (rul x) 92 (0, 0))
  lo : w0.heap.size ≤ x ∧ w0.heap.size ≤ d.ms ∧ w0.heap.size ≤ d.ml ∧ w0.heap.size ≤ d.md ∧ w0.heap.size ≤ d.mn
  ne : d.ms ≠ d.ml ∧ d.ms ≠ d.md ∧ d.ms ≠ d.mn ∧ d.ml ≠ d.md ∧ d.ml ≠ d.mn ∧ d.md ≠ d.mn
section
variable {K x : Nat} {d : PL} {p : PD} {os : List Or} {w0 w w' : World}
theorem Ful.pln (h : Ful K w0 x d p os w) : Pln x d p w := by
  obtain ⟨n1, _, h1⟩ := h.st
  obtain ⟨n2, _, h2⟩ := h.ld
  obtain ⟨n3, _, h3⟩ := h.le
  obtain ⟨n4, _, h4⟩ := h.nm
  exact ⟨h.blk, sw_rd h.ss, rv_rd h.rs (fun r hr => (h.it r hr).below h.bl (Nat.le_refl _)), ⟨n1, h1⟩, ⟨n2, h2⟩, ⟨n3, h3⟩, ⟨n4, h4⟩⟩
theorem Ful.lt (h : Ful K w0 x d p os w) : x < w.heap.size := (Array.getElem?_eq_some_iff.1 h.blk).1
theorem Ful.below (h : Ful K w0 x d p os w) (hb : Below w.heap.size w w') : Ful K w0 x d p os w' := by
  obtain ⟨n1, k1, h1⟩ := h.st
  obtain ⟨n2, k2, h2⟩ := h.ld
  obtain ⟨n3, k3, h3⟩ := h.le
  obtain ⟨n4, k4, h4⟩ := h.nm
  exact ⟨h.bl.trans (hb.mono h.bl.size), (hb.block x h.lt).trans h.blk, ownsRow_belP h.ss hb (Nat.le_refl _), ownsRow_belP h.rs hb (Nat.le_refl _), h.it, ownsRow_belP h.os hb (Nat.le_refl _), ⟨n1, k1, h1.below hb (Nat.le_refl _)⟩, ⟨n2, k2, h2.below hb (Nat.le_refl _)⟩, ⟨n3, k3, h3.below hb (Nat.le_refl _)⟩, ⟨n4, k4, h4.below hb (Nat.le_refl _)⟩, fun g q => (hb.block g (Array.getElem?_eq_some_iff.1 (h.ru g q)).1).trans (h.ru g q), h.lo, h.ne⟩
/-- Is the value's block one of another type? -/
theorem row_nex {B : Nat} {e t : TypeId} {s n : Nat} {v : Value} {xs : List Value} {b : Nat} {cs : Array Value} {fr : Nat × Nat} (h : w.ownsRow B e s v n xs) (hb : w.heap[b]? = some (.cells cs t fr)) (he : e ≠ t) : ∀ g, v.ownBlock = some g → ¬ g = b := by
  intro g hg q
  obtain ⟨_, cs', fr', e'⟩ := row_blk h hg
  rw [q, hb] at e'
  have := Option.some.inj e'
  simp only [Obj.cells.injEq] at this
  exact he this.2.1.symm
theorem row_nem {H : Type} {P : Program} {k : TypeId} {R : Value → Option (DataW H × List MemPlace)} {D : DataW H} {m nn : Nat} {B : Nat} {e : TypeId} {s n : Nat} {v : Value} {xs : List Value} (h : w.ownsRow B e s v n xs) (hm : w.ownsMap P k R m nn D) : ∀ g, v.ownBlock = some g → ¬ g = m := by
  intro g hg q
  obtain ⟨_, cs', fr', e'⟩ := row_blk h hg
  exact own_nem hm e' q
/-- A count is put. -/
theorem Ful.putLd (h : Ful K w0 x d p os w) {f : Int → Int} (hm : ∃ n, n ≤ K + 1 ∧ Im d.ml n f w') (hc : Chg (fun b => b = d.ml) w w') : Ful (K + 1) w0 x d { p with ld := f } os w' := by
  obtain ⟨n1, k1, h1⟩ := h.st
  obtain ⟨n2, k2, D, h2⟩ := h.ld
  obtain ⟨n3, k3, h3⟩ := h.le
  obtain ⟨n4, k4, h4⟩ := h.nm
  obtain ⟨l1, l2, l3, l4, l5⟩ := h.lo
  obtain ⟨e1, e2, e3, e4, e5, e6⟩ := h.ne
  exact ⟨h.bl.trans (hc.below (fun b q => by rw [q]; exact l3) h.bl.size), (hc.block x h.lt (own_nem h2.map h.blk)).trans h.blk, ownsRow_keptC h.ss hc (row_nem h.ss h2.map), ownsRow_keptC h.rs hc (row_nem h.rs h2.map), h.it, ownsRow_keptC h.os hc (row_nem h.os h2.map), ⟨n1, by omega, h1.next hc e1⟩, hm, ⟨n3, by omega, h3.next hc (fun q => e4 q.symm)⟩, ⟨n4, by omega, h4.next hc (fun q => e5 q.symm)⟩, fun g q => (hc.block g (Array.getElem?_eq_some_iff.1 (h.ru g q)).1 (own_nem h2.map (h.ru g q))).trans (h.ru g q), h.lo, h.ne⟩
/-- A number is put into the set of the named. -/
theorem Ful.putNm (h : Ful K w0 x d p os w) {g : Nat → Bool} (hm : ∃ n, n ≤ K + 1 ∧ Gs d.mn n g w') (hc : Chg (fun b => b = d.mn) w w') : Ful (K + 1) w0 x d { p with nm := g } os w' := by
  obtain ⟨n1, k1, h1⟩ := h.st
  obtain ⟨n2, k2, h2⟩ := h.ld
  obtain ⟨n3, k3, h3⟩ := h.le
  obtain ⟨n4, k4, D, h4⟩ := h.nm
  obtain ⟨l1, l2, l3, l4, l5⟩ := h.lo
  obtain ⟨e1, e2, e3, e4, e5, e6⟩ := h.ne
  exact ⟨h.bl.trans (hc.below (fun b q => by rw [q]; exact l5) h.bl.size), (hc.block x h.lt (own_nem h4.map h.blk)).trans h.blk, ownsRow_keptC h.ss hc (row_nem h.ss h4.map), ownsRow_keptC h.rs hc (row_nem h.rs h4.map), h.it, ownsRow_keptC h.os hc (row_nem h.os h4.map), ⟨n1, by omega, h1.next hc e3⟩, ⟨n2, by omega, h2.next hc e5⟩, ⟨n3, by omega, h3.next hc e6⟩, hm, fun g q => (hc.block g (Array.getElem?_eq_some_iff.1 (h.ru g q)).1 (own_nem h4.map (h.ru g q))).trans (h.ru g q), h.lo, h.ne⟩
/-- One order more. -/
theorem Ful.putOs (h : Ful K w0 x d p os w) {w1 w5 : World} {o : Or} {y : Option Addr × Nat × Nat} (hb : Below w.heap.size w w1) (hg : w1.grownBy w5 (sv d.ov).ownBlock) (hrow : w5.ownsRow w0.heap.size 32 5 (sv y) (os ++ [o]).length (ors (os ++ [o]))) : Ful K w0 x { d with ov := y } p (os ++ [o]) (w5.setCell ⟨x, 10, none⟩ (sv y)) := by
  have h1 := h.below hb
  have hol : ∀ b, (sv d.ov).ownBlock = some b → w0.heap.size ≤ b := fun b q => (World.ownsRow.lt h.os b q).1
  have hc : Chg (fun b => (sv d.ov).ownBlock = some b) w1 w5 := Chg.of_grown hg (fun b e _ => e)
  have hx : ¬ (sv d.ov).ownBlock = some x := fun q => row_nex h1.os h1.blk (by decide) x q rfl
  have hblk5 : w5.heap[x]? = some (.cells (plA d) 71 (0, 0)) := (hc.block x h1.lt hx).trans h1.blk
  have hc2 := chg_p x 10 (sv y) w5
  obtain ⟨n1, k1, D1, g1⟩ := h1.st
  obtain ⟨n2, k2, D2, g2⟩ := h1.ld
  obtain ⟨n3, k3, D3, g3⟩ := h1.le
  obtain ⟨n4, k4, D4, g4⟩ := h1.nm
  have hcc : Chg (fun b => (sv d.ov).ownBlock = some b ∨ b = x) w1 (w5.setCell ⟨x, 10, none⟩ (sv y)) := (hc.mono (fun b _ q => .inl q)).trans (hc2.mono (fun b _ q => .inl (.inr q)))
  have hty : ∀ {e : TypeId} {s n : Nat} {v : Value} {xs : List Value}, w1.ownsRow w0.heap.size e s v n xs → e ≠ 32 → e ≠ 71 → ∀ g, v.ownBlock = some g → ¬ ((sv d.ov).ownBlock = some g ∨ g = x) := by
    intro e s n v xs hr q1 q2 g hg' q
    rcases q with q | q
    · obtain ⟨_, cs, fr, e'⟩ := row_blk h1.os q
      exact row_nex hr e' q1 g hg' rfl
    · exact row_nex hr h1.blk q2 g hg' q
  have hmm : ∀ {m : Nat} {H : Type} {P : Program} {k : TypeId} {R : Value → Option (DataW H × List MemPlace)} {D : DataW H} {nn : Nat}, w1.ownsMap P k R m nn D → ¬ ((sv d.ov).ownBlock = some m ∨ m = x) := by
    intro m H P k R D nn hm q
    rcases q with q | q
    · exact row_nem h1.os hm m q rfl
    · exact own_nem hm h1.blk q.symm
  refine ⟨h1.bl.trans (hcc.below (fun b q => by rcases q with q | q; exact hol b q; rw [q]; exact h.lo.1) h1.bl.size), ?_, ownsRow_keptC h1.ss hcc (hty h1.ss (by decide) (by decide)), ownsRow_keptC h1.rs hcc (hty h1.rs (by decide) (by decide)), h.it, ?_, ⟨n1, k1, St.next ⟨D1, g1⟩ hcc (hmm g1.map)⟩, ⟨n2, k2, Im.next ⟨D2, g2⟩ hcc (hmm g2.map)⟩, ⟨n3, k3, Im.next ⟨D3, g3⟩ hcc (hmm g3.map)⟩, ⟨n4, k4, Gs.next ⟨D4, g4⟩ hcc (hmm g4.map)⟩, ?_, h.lo, h.ne⟩
  · rw [heap_setCell_same _ _ 10 _ _ _ hblk5]; rfl
  · exact ownsRow_keptC hrow hc2 (row_nex hrow hblk5 (by decide))
  · intro g q
    have hg1 := h1.ru g q
    refine (hcc.block g (Array.getElem?_eq_some_iff.1 hg1).1 (fun q2 => ?_)).trans hg1
    rcases q2 with q2 | q2
    · exact row_nex h1.os hg1 (by decide) g q2 rfl
    · rw [q2, h1.blk] at hg1
      have := Option.some.inj hg1
      simp only [Obj.cells.injEq] at this
      exact absurd this.2.1 (by decide)
theorem Ful.setRu (h : Ful K w0 x d p os w) {g : Nat} (hg : w.heap[g]? = some (.cells (rul x) 92 (0, 0))) : Ful K w0 x { d with ru := some g } p os w :=
  ⟨h.bl, h.blk, h.ss, h.rs, h.it, h.os, h.st, h.ld, h.le, h.nm, fun g' q => by obtain rfl := Option.some.inj q; exact hg, h.lo, h.ne⟩
end
end Go.Proofs.YtedfjacmaidhkaaGreat
