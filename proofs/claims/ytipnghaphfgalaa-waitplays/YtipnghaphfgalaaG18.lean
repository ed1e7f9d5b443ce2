/- The heap of ways in memory, and the ways that stand aside. -/
import Derived.Test.YtipnghaphfgalaaG17
import Derived.Test.YtipnghaphfgalaaG7
namespace Go.Proofs.Ytipnghaphfgalaa
open Go.RowKit
set_option linter.unusedVariables false
set_option maxRecDepth 100000

theorem row_put {w : World} {B : Nat} {e : TypeId} {size n g : Nat} {v : Value} {xs : List Value} (h : w.ownsRow B e size v n xs) (hv : v.ownBlock = some g) (j : Nat) (u : Value) : (w.setCell ⟨g, j, none⟩ u).ownsRow B e size v n (xs.set j u) := by
  refine ⟨by rw [List.length_set]; exact h.1, ?_⟩
  rcases h.2 with ⟨q, q0⟩ | ⟨g', cap, cur, q, hB, hg, q1, q2, q3, q4⟩
  · rw [q] at hv; cases hv
  · rw [q] at hv
    obtain rfl : g' = g := Option.some.inj hv
    refine .inr ⟨g', cap, cur.setIfInBounds j u, q, hB, by rw [heap_setCell_same _ _ j _ _ _ hg], q1, q2, by rw [Array.size_setIfInBounds]; exact q3, ?_⟩
    rw [← q4]
    simp [List.take_set]
theorem row_froz {w : World} {B : Nat} {e : TypeId} {size n c k g : Nat} {xs : List Value} (h : w.ownsRow B e size (.slice (some ⟨g, 0, none⟩) n c) k xs) (j : Nat) : w.frozen? ⟨g, j, none⟩ = false := by
  rcases h.2 with ⟨q, q0⟩ | ⟨g', cap, cur, q, hB, hg, _⟩
  · cases q
  · simp only [Value.slice.injEq, Option.some.injEq, Addr.mk.injEq, and_true] at q
    rw [q.1]; exact frozen_of_row _ _ _ _ _ hg
theorem row_shape {w : World} {B : Nat} {e : TypeId} {s n : Nat} {v : Value} {xs : List Value} (h : w.ownsRow B e s v n xs) : ∃ a m c, v = .slice a m c := by
  obtain ⟨a, c, e, _⟩ := row_reads h
  exact ⟨_, _, _, e⟩
theorem ownsRow_take {w : World} {B : Nat} {t : TypeId} {g n c m s : Nat} {xs : List Value} (h : w.ownsRow B t s (.slice (some ⟨g, 0, none⟩) n c) n xs) (hm : m ≤ n) : w.ownsRow B t s (.slice (some ⟨g, 0, none⟩) m c) m (xs.take (m * s)) := by
  obtain ⟨h1, h2⟩ := h
  have hms : m * s ≤ n * s := Nat.mul_le_mul_right _ hm
  refine ⟨by rw [List.length_take, h1]; omega, ?_⟩
  rcases h2 with ⟨q, _⟩ | ⟨g', cap, cur, q, hB, hg, q1, q2, q3, q4⟩
  · cases q
  · simp only [Value.slice.injEq, Option.some.injEq, Addr.mk.injEq, and_true, true_and] at q
    obtain ⟨rfl, rfl⟩ := q
    exact .inr ⟨g, c, cur, rfl, hB, hg, by omega, q2, q3, by rw [← q4, List.take_take, Nat.min_eq_left hms]⟩
theorem Ou.keptC {S : Nat → Prop} {B : Nat} {w w' : World} {v : Value} {l : List UInt64} (h : Ou B w v l) (hc : Chg S w w') (hS : ∀ b, v.ownBlock = some b → ¬ S b) : Ou B w' v l := ownsRow_keptC h hc hS
theorem Ou.some_ {B : Nat} {w : World} {v : Value} {l : List UInt64} (h : Ou B w v l) (hl : l ≠ []) : ∃ g c, v = .slice (some ⟨g, 0, none⟩) l.length c ∧ l.length ≤ c ∧ c ≤ maxLen ∧ B ≤ g ∧ g < w.heap.size := by
  rcases h.blk with ⟨_, e⟩ | ⟨g, c, e, h1, h2, h3, h4, _⟩
  · exact absurd e hl
  · exact ⟨g, c, e, h1, h2, h3, h4⟩

/-- An element: the way, as a value; its numbers. -/
abbrev HE := Value × List UInt64
/-- Which way stands ahead: the shorter one, of one length the least. -/
def lxl : List UInt64 → List UInt64 → Int
  | [], [] => 0
  | [], _ :: _ => -1
  | _ :: _, [] => 1
  | x :: a, y :: b => if x.toNat < y.toNat then -1 else if y.toNat < x.toNat then 1 else lxl a b
def wlt (a b : List UInt64) : Bool := decide (a.length < b.length ∨ (a.length = b.length ∧ lxl a b < 0))
theorem lxl_self (a : List UInt64) : lxl a a = 0 := by
  induction a with
  | nil => rfl
  | cons x a ih => simp [lxl, ih]
theorem lxl_swap (a b : List UInt64) : lxl a b = - lxl b a := by
  induction a generalizing b with
  | nil => cases b <;> rfl
  | cons x a ih =>
    cases b with
    | nil => rfl
    | cons y b =>
      unfold lxl
      rw [ih b]
      split <;> split <;> (try split) <;> omega
theorem lxl_trans {a b c : List UInt64} (h1 : lxl a b ≤ 0) (h2 : lxl b c ≤ 0) : lxl a c ≤ 0 := by
  induction a generalizing b c with
  | nil => cases c <;> simp [lxl]
  | cons x a ih =>
    cases b with
    | nil => simp [lxl] at h1
    | cons y b =>
      cases c with
      | nil => simp [lxl] at h2
      | cons z c =>
        unfold lxl at h1 h2 ⊢
        by_cases q1 : x.toNat < y.toNat
        · split at h2
          · rw [if_pos (by omega)]; omega
          · split at h2
            · omega
            · rw [if_pos (by omega)]; omega
        · rw [if_neg q1] at h1
          split at h1
          · omega
          · split at h2
            · rw [if_pos (by omega)]; omega
            · split at h2
              · omega
              · rw [if_neg (by omega), if_neg (by omega)]
                exact ih h1 h2
theorem lxl_eq {a b : List UInt64} (h : lxl a b = 0) : a = b := by
  induction a generalizing b with
  | nil => cases b with
    | nil => rfl
    | cons y b => simp [lxl] at h
  | cons x a ih =>
    cases b with
    | nil => simp [lxl] at h
    | cons y b =>
      unfold lxl at h
      split at h
      · omega
      · split at h
        · omega
        · rw [ih h, show x = y from UInt64.toNat_inj.1 (by omega)]
theorem lxl_lt_trans {a b c : List UInt64} (h1 : lxl a b < 0) (h2 : lxl b c ≤ 0) : lxl a c < 0 := by
  have h3 := lxl_trans (Int.le_of_lt h1) h2
  rcases Int.lt_or_eq_of_le h3 with q | q
  · exact q
  · have := lxl_eq q; subst this
    have := lxl_swap a b
    omega
theorem wlt_no {a b : List UInt64} : wlt a b = false ↔ b.length < a.length ∨ (a.length = b.length ∧ lxl b a ≤ 0) := by
  unfold wlt
  rw [decide_eq_false_iff_not]
  have := lxl_swap a b
  constructor
  · intro h
    by_cases q : b.length < a.length
    · exact .inl q
    · refine .inr ⟨by omega, ?_⟩
      have : ¬ lxl a b < 0 := fun q2 => h (.inr ⟨by omega, q2⟩)
      omega
  · intro h q
    omega
/-- Does a stand ahead of b? -/
def helt (a b : HE) : Bool := wlt a.2 b.2
theorem wlt_tr (a b c : List UInt64) (h1 : wlt b a = false) (h2 : wlt c b = false) : wlt c a = false := by
  rw [wlt_no] at *
  rcases h1 with h1 | ⟨h1, k1⟩ <;> rcases h2 with h2 | ⟨h2, k2⟩
  · exact .inl (by omega)
  · exact .inl (by omega)
  · exact .inl (by omega)
  · exact .inr ⟨by omega, lxl_trans k1 k2⟩
theorem wlt_asy (a b : List UInt64) (h : wlt a b = true) : wlt b a = false := by
  rw [wlt_no]
  unfold wlt at h
  rw [decide_eq_true_iff] at h
  rcases h with h | ⟨h, k⟩
  · exact .inl h
  · exact .inr ⟨h.symm, Int.le_of_lt k⟩
theorem wlt_irr (a : List UInt64) : wlt a a = false := by rw [wlt_no]; exact .inr ⟨rfl, by rw [lxl_self]; exact Int.le_refl _⟩
theorem helt_tr (a b c : HE) (h1 : helt b a = false) (h2 : helt c b = false) : helt c a = false := wlt_tr _ _ _ h1 h2
theorem helt_asy (a b : HE) (h : helt a b = true) : helt b a = false := wlt_asy _ _ h
theorem helt_irr (a : HE) : helt a a = false := wlt_irr _

/-- The heap's variable is the block x, its array v; each way lies in a block of its own; so do those that stand aside. -/
structure Hq (w0 : World) (x : Nat) (v : Value) (w : World) (H A : List HE) : Prop where
  base : Below w0.heap.size w0 w
  hx : w0.heap.size ≤ x
  cx : ∃ t, w.heap[x]? = some (.cells #[v] t (0, 0))
  row : w.ownsRow w0.heap.size 27 1 v H.length (H.map (·.1))
  ne : v.ownBlock ≠ some x
  els : ∀ e ∈ A ++ H, Ou w0.heap.size w e.1 e.2 ∧ e.2 ≠ [] ∧ e.2.length ≤ 8192 ∧ e.1.ownBlock ≠ some x ∧ e.1.ownBlock ≠ v.ownBlock
  dis : (A ++ H).Pairwise (fun a b => a.1.ownBlock ≠ b.1.ownBlock)

section
variable {w0 : World} {x : Nat} {v : Value} {w w' : World} {H A : List HE}
theorem Hq.xlt (h : Hq w0 x v w H A) : x < w.heap.size := by obtain ⟨t, hc⟩ := h.cx; exact (Array.getElem?_eq_some_iff.1 hc).1
theorem Hq.vx (h : Hq w0 x v w H A) : w.cell? ⟨x, 0, none⟩ = some v ∧ ∀ j, w.frozen? ⟨x, j, none⟩ = false := by
  obtain ⟨t, hc⟩ := h.cx
  exact ⟨by simp [World.cell?, hc], fun j => frozen_of_row _ _ _ _ _ hc⟩
theorem Hq.kept {S : Nat → Prop} (h : Hq w0 x v w H A) (hc : Chg S w w') (hS : ∀ b, b < w.heap.size → S b → w0.heap.size ≤ b) (hx : ¬ S x) (hv : ∀ b, v.ownBlock = some b → ¬ S b) (he : ∀ e ∈ A ++ H, ∀ b, e.1.ownBlock = some b → ¬ S b) : Hq w0 x v w' H A := by
  obtain ⟨t, hcx⟩ := h.cx
  refine ⟨⟨hc.os.trans h.base.os, hc.tape.trans h.base.tape, hc.output.trans h.base.output, Nat.le_trans h.base.size hc.size, fun b hb => ?_⟩, h.hx, ⟨t, ?_⟩, ownsRow_keptC h.row hc hv, h.ne, fun e hm => ?_, h.dis⟩
  · rw [hc.block b (Nat.lt_of_lt_of_le hb h.base.size) (fun q => by have := hS b (Nat.lt_of_lt_of_le hb h.base.size) q; omega)]
    exact h.base.block b hb
  · rw [hc.block x h.xlt hx]; exact hcx
  · obtain ⟨q1, q2⟩ := h.els e hm
    exact ⟨q1.keptC hc (he e hm), q2⟩
theorem Hq.below {B : Nat} (h : Hq w0 x v w H A) (hb : Below B w w') (hB : w.heap.size ≤ B) : Hq w0 x v w' H A :=
  h.kept (Chg.of_below hb) (fun b hl q => by omega) (fun q => by have := h.xlt; omega) (fun b e q => by have := (World.ownsRow.lt h.row b e).2; omega) (fun e hm b eb q => by have := ((h.els e hm).1.lt b eb).2; omega)
theorem Hq.drewN (h : Hq w0 x v w H A) (n : Nat) : Hq w0 x v (w.drewN n) H A := h.below (Below.dN w n) (Nat.le_refl _)
/-- How an element reads. -/
theorem Hq.at_ (h : Hq w0 x v w H A) {k : Nat} {e : HE} (he : H[k]? = some e) : ∃ g c, v = .slice (some ⟨g, 0, none⟩) H.length c ∧ H.length ≤ c ∧ c ≤ maxLen ∧ k < H.length ∧ w.cell? ⟨g, k, none⟩ = some e.1 ∧ Ru w e.1 e.2 ∧ (∀ j, w.frozen? ⟨g, j, none⟩ = false) := by
  obtain ⟨a, c, rfl, h1, h2, h3, h4⟩ := row_reads h.row
  obtain ⟨g, rfl, g0⟩ := h4 k e.1 (by rw [List.getElem?_map, he]; rfl)
  obtain ⟨q1, q2, q3⟩ := h.els e (List.mem_append_right _ (List.mem_of_getElem? he))
  exact ⟨g, c, rfl, h1, h2, (List.getElem?_eq_some_iff.1 he).1, g0, q1.ru, fun j => row_froz h.row j⟩
/-- The same elements in another order, in the same array. -/
theorem Hq.perm {w2 : World} {H' : List HE} {g c n : Nat} (h : Hq w0 x (.slice (some ⟨g, 0, none⟩) n c) w H A) (hp : H'.Perm H) (hch : Chg (fun b => b = g) w w2) (hrow : w2.ownsRow w0.heap.size 27 1 (.slice (some ⟨g, 0, none⟩) n c) H'.length (H'.map (·.1))) : Hq w0 x (.slice (some ⟨g, 0, none⟩) n c) w2 H' A := by
  have hgl := World.ownsRow.lt h.row g rfl
  have hgx : g ≠ x := fun q => h.ne (by rw [q]; rfl)
  obtain ⟨t, hcx⟩ := h.cx
  have hpa : (A ++ H').Perm (A ++ H) := List.Perm.append_left A hp
  refine ⟨⟨hch.os.trans h.base.os, hch.tape.trans h.base.tape, hch.output.trans h.base.output, Nat.le_trans h.base.size hch.size, fun b hb => ?_⟩, h.hx, ⟨t, ?_⟩, hrow, h.ne, fun d hd => ?_, ?_⟩
  · rw [hch.block b (Nat.lt_of_lt_of_le hb h.base.size) (fun q => by have := hgl.1; omega)]; exact h.base.block b hb
  · rw [hch.block x h.xlt (fun q => hgx q.symm)]; exact hcx
  · obtain ⟨q1, q2, q3, q4, q5⟩ := h.els d (hpa.mem_iff.1 hd)
    exact ⟨q1.keptC hch (fun b e1 e2 => q5 (by rw [e1, e2]; rfl)), q2, q3, q4, q5⟩
  · exact (List.Perm.pairwise_iff (fun q => Ne.symm q) hpa).2 h.dis
theorem Hq.swap {g c n i j : Nat} {a b : HE} (h : Hq w0 x (.slice (some ⟨g, 0, none⟩) n c) w H A) (ha : H[i]? = some a) (hb : H[j]? = some b) : Hq w0 x (.slice (some ⟨g, 0, none⟩) n c) ((w.setCell ⟨g, i, none⟩ b.1).setCell ⟨g, j, none⟩ a.1) (M.sw H i j) A := by
  refine h.perm (M.sw_perm (List.getElem?_eq_some_iff.1 ha).1 (List.getElem?_eq_some_iff.1 hb).1) (((Chg.refl (fun b => b = g) w).put g _ _ rfl).put g _ _ rfl) ?_
  rw [M.sw_len, M.sw_eq ha hb, List.map_set, List.map_set]
  exact row_put (row_put h.row rfl _ _) rfl _ _
theorem Hq.take {g c n m : Nat} (h : Hq w0 x (.slice (some ⟨g, 0, none⟩) n c) w H A) (hm : m ≤ H.length) : Hq w0 x (.slice (some ⟨g, 0, none⟩) m c) (w.setCell ⟨x, 0, none⟩ (.slice (some ⟨g, 0, none⟩) m c)) (H.take m) A := by
  obtain ⟨a, c', e, _⟩ := row_reads h.row
  simp only [Value.slice.injEq] at e
  obtain ⟨_, rfl, _⟩ := e
  have hch : Chg (fun b => b = x) w (w.setCell ⟨x, 0, none⟩ (.slice (some ⟨g, 0, none⟩) m c)) := (Chg.refl _ w).put x _ _ rfl
  have hgx : g ≠ x := fun q => h.ne (by rw [q]; rfl)
  obtain ⟨t, hcx⟩ := h.cx
  have hx := h.hx
  have hsub : (A ++ H.take m).Sublist (A ++ H) := List.Sublist.append (List.Sublist.refl _) (List.take_sublist _ _)
  refine ⟨⟨hch.os.trans h.base.os, hch.tape.trans h.base.tape, hch.output.trans h.base.output, Nat.le_trans h.base.size hch.size, fun b hb => ?_⟩, h.hx, ⟨t, ?_⟩, ?_, ?_, fun d hd => ?_, h.dis.sublist hsub⟩
  · rw [hch.block b (Nat.lt_of_lt_of_le hb h.base.size) (fun q => by omega)]; exact h.base.block b hb
  · rw [heap_setCell_same _ _ 0 _ _ _ hcx]; rfl
  · have h1 := ownsRow_take h.row hm
    rw [Nat.mul_one, ← List.map_take] at h1
    rw [List.length_take, Nat.min_eq_left hm]
    exact ownsRow_keptC h1 hch (fun b q1 q2 => hgx ((Option.some.inj q1).trans q2))
  · exact fun q => hgx (Option.some.inj q)
  · obtain ⟨q1, q2, q3, q4, q5⟩ := h.els d (hsub.subset hd)
    exact ⟨q1.keptC hch (fun b e1 e2 => q4 (by rw [e1, e2])), q2, q3, q4, q5⟩
/-- One that stood in the heap stands aside. -/
theorem Hq.aside {n : Nat} {e : HE} (h : Hq w0 x v w H A) (hn : H.length = n + 1) (he : H[n]? = some e) : (∀ d ∈ (e :: A) ++ H.take n, d ∈ A ++ H) ∧ ((e :: A) ++ H.take n).Pairwise (fun a b => a.1.ownBlock ≠ b.1.ownBlock) := by
  have hp : ((e :: A) ++ H.take n).Perm (A ++ H) := by
    have e2 : H = H.take n ++ [e] := by
      obtain ⟨hl, rfl⟩ := List.getElem?_eq_some_iff.1 he
      rw [List.take_append_getElem hl, List.take_of_length_le (by omega)]
    conv => rhs; rw [e2]
    rw [← List.append_assoc]
    exact (List.perm_append_comm (l₁ := [e]) (l₂ := A ++ H.take n))
  exact ⟨fun d hd => hp.mem_iff.1 hd, (List.Perm.pairwise_iff (fun q => Ne.symm q) hp).2 h.dis⟩
theorem Hq.takeA {g c n m : Nat} {e : HE} (h : Hq w0 x (.slice (some ⟨g, 0, none⟩) n c) w H A) (hm : H.length = m + 1) (he : H[m]? = some e) : Hq w0 x (.slice (some ⟨g, 0, none⟩) m c) (w.setCell ⟨x, 0, none⟩ (.slice (some ⟨g, 0, none⟩) m c)) (H.take m) (e :: A) := by
  have h1 := h.take (m := m) (by omega)
  obtain ⟨k1, k2⟩ := h.aside hm he
  have hch : Chg (fun b => b = x) w (w.setCell ⟨x, 0, none⟩ (.slice (some ⟨g, 0, none⟩) m c)) := (Chg.refl _ w).put x _ _ rfl
  refine ⟨h1.base, h1.hx, h1.cx, h1.row, h1.ne, fun d hd => ?_, k2⟩
  obtain ⟨q1, q2, q3, q4, q5⟩ := h.els d (k1 d hd)
  exact ⟨q1.keptC hch (fun b e1 e2 => q4 (by rw [e1, e2])), q2, q3, q4, q5⟩
end
end Go.Proofs.Ytipnghaphfgalaa
