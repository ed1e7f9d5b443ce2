/- Split's new numbers: a peer's number written; the world behind the keys' copies. -/
import Derived.Test.YtlfdcnojbbigbaaG34
namespace Go.Proofs.Ytlfdcnojbbigbaa
open Go.RowKit
set_option linter.unusedVariables false
set_option maxRecDepth 100000

theorem row_setP {w : World} {B : Nat} {e : TypeId} {size n g : Nat} {v : Value} {xs : List Value} (h : w.ownsRow B e size v n xs) (hv : v.ownBlock = some g) (j : Nat) (u : Value) : (w.setCell ⟨g, j, none⟩ u).ownsRow B e size v n (xs.set j u) := by
  refine ⟨by rw [List.length_set]; exact h.1, ?_⟩
  rcases h.2 with ⟨q, q0⟩ | ⟨g', cap, cur, q, hB, hg, q1, q2, q3, q4⟩
  · rw [q] at hv; cases hv
  · rw [q] at hv
    obtain rfl : g' = g := Option.some.inj hv
    refine .inr ⟨g', cap, cur.setIfInBounds j u, q, hB, by rw [heap_setCell_same _ _ j _ _ _ hg], q1, q2, by rw [Array.size_setIfInBounds]; exact q3, ?_⟩
    rw [← q4]
    simp [List.take_set]
theorem row_frozP {w : World} {B : Nat} {e : TypeId} {size n c k g : Nat} {xs : List Value} (h : w.ownsRow B e size (.slice (some ⟨g, 0, none⟩) n c) k xs) (j : Nat) : w.frozen? ⟨g, j, none⟩ = false := by
  rcases h.2 with ⟨q, q0⟩ | ⟨g', cap, cur, q, hB, hg, _⟩
  · cases q
  · simp only [Value.slice.injEq, Option.some.injEq, Addr.mk.injEq, and_true] at q
    obtain ⟨rfl, _⟩ := q
    exact frozen_of_row _ _ _ _ _ hg
theorem fm_set0 {α : Type} {f : α → List Value} {n : Nat} (hf : ∀ x, (f x).length = n) (hn : 0 < n) : ∀ (l : List α) (i : Nat) (x y : α), l[i]? = some x → (f x).tail = (f y).tail → ∀ u, (f y).head? = some u → (l.set i y).flatMap f = (l.flatMap f).set (i * n) u
  | [], i, x, y, e, _, u, _ => by simp at e
  | a :: l, 0, x, y, e, ht, u, hu => by
    simp at e; subst e
    cases hy : f y with
    | nil => rw [hy] at hu; simp at hu
    | cons y0 yt =>
      rw [hy] at hu ht
      simp at hu; subst hu
      cases hx : f a with
      | nil => have := hf a; rw [hx] at this; simp at this; omega
      | cons x0 xt =>
        rw [hx] at ht
        simp at ht; subst ht
        simp [hx, hy]
  | a :: l, i + 1, x, y, e, ht, u, hu => by
    have ih := fm_set0 hf hn l i x y (by simpa using e) ht u hu
    rw [List.set_cons_succ, List.flatMap_cons, List.flatMap_cons, ih, List.set_append]
    have e1 : ¬ (i + 1) * n < (f a).length := by rw [hf, Nat.add_mul]; omega
    have e2 : (i + 1) * n - (f a).length = i * n := by rw [hf, Nat.add_mul]; omega
    rw [if_neg e1, e2]
/-- A peer's number is written. -/
theorem OwPe.num {B g n c : Nat} {w : World} {ps : List Pe} (h : OwPe B w (.slice (some ⟨g, 0, none⟩) n c) ps) {k : Nat} {p : Pe} (hp : ps[k]? = some p) (m : UInt64) : OwPe B (w.setCell ⟨g, k * 3, none⟩ (.int .u64 (m.toNat : Int))) (.slice (some ⟨g, 0, none⟩) n c) (ps.set k (m, p.2)) := by
  have h1 := row_setP h (g := g) rfl (k * 3) (.int .u64 (m.toNat : Int))
  unfold OwPe pcs
  rw [fm_set0 pc_len (by omega) ps k p (m, p.2) hp rfl _ rfl, List.length_set]
  exact h1
/-- The peers, the first k with their new numbers. -/
def numQ (ps : List Pe) (L : List UInt64) : List Pe := List.zipWith (fun p n => (n, p.2)) ps L
def mixP (ps : List Pe) (L : List UInt64) (k : Nat) : List Pe := numQ (ps.take k) (L.take k) ++ ps.drop k
theorem mixP_zero (ps : List Pe) (L : List UInt64) : mixP ps L 0 = ps := by simp [mixP, numQ]
theorem mixP_len (ps : List Pe) (L : List UInt64) (k : Nat) (hl : L.length = ps.length) (hk : k ≤ ps.length) : (mixP ps L k).length = ps.length := by
  unfold mixP numQ
  simp; omega
theorem mixP_all (ps : List Pe) (L : List UInt64) (hl : L.length = ps.length) : mixP ps L ps.length = List.zipWith (fun p n => (n, p.2)) ps L := by
  unfold mixP numQ
  rw [List.take_length, List.drop_length, List.append_nil, ← hl, List.take_length]
theorem mixP_at (ps : List Pe) (L : List UInt64) (k : Nat) (hl : L.length = ps.length) (p : Pe) (hp : ps[k]? = some p) : (mixP ps L k)[k]? = some p := by
  have hk := (List.getElem?_eq_some_iff.1 hp).1
  have hz : (numQ (ps.take k) (L.take k)).length = k := by unfold numQ; simp; omega
  unfold mixP
  rw [List.getElem?_append_right (by omega), hz, Nat.sub_self, List.getElem?_drop]
  simpa using hp
theorem mixP_step (ps : List Pe) (L : List UInt64) (k : Nat) (hl : L.length = ps.length) (p : Pe) (m : UInt64) (hp : ps[k]? = some p) (hm : L[k]? = some m) : (mixP ps L k).set k (m, p.2) = mixP ps L (k + 1) := by
  have hk := (List.getElem?_eq_some_iff.1 hp).1
  have hz : (numQ (ps.take k) (L.take k)).length = k := by unfold numQ; simp; omega
  have ed : ps.drop k = p :: ps.drop (k + 1) := by
    obtain ⟨h, rfl⟩ := List.getElem?_eq_some_iff.1 hp
    exact List.drop_eq_getElem_cons h
  have et : ps.take (k + 1) = ps.take k ++ [p] := by rw [List.take_add_one, hp]; rfl
  have el : L.take (k + 1) = L.take k ++ [m] := by rw [List.take_add_one, hm]; rfl
  unfold mixP
  rw [List.set_append, if_neg (by omega), hz, Nat.sub_self, ed, List.set_cons_zero, et, el]
  unfold numQ
  rw [List.zipWith_append (by simp; omega), List.append_assoc]
  rfl
theorem chg_drew {S : Nat → Prop} {X Y : World} (c : Chg S X Y) : Chg S X Y.drew := ⟨c.os, c.tape, c.output, c.size, c.block⟩
theorem heap_drewP (Y : World) (g : Nat) : Y.drew.heap[g]? = Y.heap[g]? := rfl
/-- Two results written, and a draw. -/
theorem ret_two {X : World} {g h : Nat} (z1 : X.heap[g]? = some zeroC) (z2 : X.heap[h]? = some zeroC) (ne : g ≠ h) (i1 c1 r1 : Int) (u1 v1 x1 : Value) (i2 c2 r2 : Int) (u2 v2 x2 : Value) :
    (set6 (set6 X g i1 c1 r1 u1 v1 x1) h i2 c2 r2 u2 v2 x2).drew.heap[g]? = some (rgC i1 c1 r1 u1 v1 x1) ∧ (set6 (set6 X g i1 c1 r1 u1 v1 x1) h i2 c2 r2 u2 v2 x2).drew.heap[h]? = some (rgC i2 c2 r2 u2 v2 x2) ∧ Chg (fun b => b = g ∨ b = h) X (set6 (set6 X g i1 c1 r1 u1 v1 x1) h i2 c2 r2 u2 v2 x2).drew := by
  have cc : Chg (fun b => b = g ∨ b = h) X (set6 (set6 X g i1 c1 r1 u1 v1 x1) h i2 c2 r2 u2 v2 x2) := ((set6_c X g i1 c1 r1 u1 v1 x1).mono (fun b _ q => Or.inl q)).trans ((set6_c _ h i2 c2 r2 u2 v2 x2).mono (fun b _ q => Or.inl (Or.inr q)))
  refine ⟨?_, ?_, chg_drew cc⟩
  · rw [heap_drewP, (set6_c (set6 X g i1 c1 r1 u1 v1 x1) h i2 c2 r2 u2 v2 x2).block g (by have := lt_of_some z1; have := (set6_c X g i1 c1 r1 u1 v1 x1).size; omega) ne]
    exact set6_b z1 _ _ _ _ _ _
  · rw [heap_drewP]
    exact set6_b (by rw [(set6_c X g i1 c1 r1 u1 v1 x1).block h (lt_of_some z2) (fun q => ne q.symm)]; exact z2) _ _ _ _ _ _
end Go.Proofs.Ytlfdcnojbbigbaa
