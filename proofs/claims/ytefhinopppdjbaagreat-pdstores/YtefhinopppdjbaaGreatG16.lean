/- The registered ones in memory: a heap in a row, in the driver's own cell. -/
import Derived.Test.YtefhinopppdjbaaGreatG13
import Derived.Test.YtefhinopppdjbaaGreatG8
import Derived.Test.YtefhinopppdjbaaGreatG11
namespace Go.Proofs.YtefhinopppdjbaaGreat
open Go.RowKit
set_option linter.unusedVariables false
set_option maxRecDepth 100000

/-- One that is registered: its timestamp, until when. -/
abbrev EN := UInt64 × UInt64
def e2 (e : EN) : List Value := [.int .u64 (e.1.toNat : Int), .int .u64 (e.2.toNat : Int)]
def e2s (H : List EN) : List Value := H.flatMap e2
theorem e2_len (e : EN) : (e2 e).length = 2 := rfl
theorem e2s_length (H : List EN) : (e2s H).length = H.length * 2 := fm_len e2_len H
theorem e2s_app (a b : List EN) : e2s (a ++ b) = e2s a ++ e2s b := by simp [e2s]
theorem e2s_at (H : List EN) (i : Nat) (e : EN) (h : H[i]? = some e) : (e2s H)[i * 2]? = some (.int .u64 (e.1.toNat : Int)) ∧ (e2s H)[i * 2 + 1]? = some (.int .u64 (e.2.toNat : Int)) :=
  ⟨fm_at e2_len H i 0 e h (by omega), fm_at e2_len H i 1 e h (by omega)⟩
theorem e2s_set (H : List EN) (i : Nat) (e : EN) : ((e2s H).set (i * 2) (.int .u64 (e.1.toNat : Int))).set (i * 2 + 1) (.int .u64 (e.2.toNat : Int)) = e2s (H.set i e) := by
  induction H generalizing i with
  | nil => simp [e2s]
  | cons h t ih =>
    cases i with
    | zero => simp [e2s, e2]
    | succ i =>
      have := ih i
      simp only [e2s, List.flatMap_cons, e2, List.set_cons_succ] at this ⊢
      rw [show (i + 1) * 2 = i * 2 + 1 + 1 by omega]
      simp only [List.cons_append, List.nil_append, List.set_cons_succ, this]
/-- Does a end ahead of b? -/
def elt (a b : EN) : Bool := decide (orF (cmpU a.2 b.2) (cmpU a.1 b.1) < 0)
theorem elt_iff (a b : EN) : elt a b = true ↔ a.2.toNat < b.2.toNat ∨ (a.2.toNat = b.2.toNat ∧ a.1.toNat < b.1.toNat) := by
  unfold elt orF cmpU
  rw [decide_eq_true_iff]
  by_cases h1 : a.2.toNat < b.2.toNat
  · simp [h1]
  · by_cases h2 : b.2.toNat < a.2.toNat
    · simp [h1, h2]; omega
    · by_cases h3 : a.1.toNat < b.1.toNat
      · simp [h1, h2, h3]; omega
      · by_cases h4 : b.1.toNat < a.1.toNat <;> simp [h1, h2, h3, h4]
theorem elt_no (a b : EN) : elt a b = false ↔ b.2.toNat < a.2.toNat ∨ (a.2.toNat = b.2.toNat ∧ b.1.toNat ≤ a.1.toNat) := by
  rw [← Bool.not_eq_true, elt_iff]; omega
theorem elt_tr (a b c : EN) (h1 : elt b a = false) (h2 : elt c b = false) : elt c a = false := by rw [elt_no] at *; omega
theorem elt_asy (a b : EN) (h : elt a b = true) : elt b a = false := by rw [elt_iff] at h; rw [elt_no]; omega
theorem elt_irr (a : EN) : elt a a = false := by rw [elt_no]; omega

theorem row_put {w : World} {B : Nat} {e : TypeId} {size n g : Nat} {v : Value} {xs : List Value} (h : w.ownsRow B e size v n xs) (hv : v.ownBlock = some g) (j : Nat) (u : Value) : (w.setCell ⟨g, j, none⟩ u).ownsRow B e size v n (xs.set j u) := by
  refine ⟨by rw [List.length_set]; exact h.1, ?_⟩
  rcases h.2 with ⟨q, q0⟩ | ⟨g', cap, cur, q, hB, hg, q1, q2, q3, q4⟩
  · rw [q] at hv; cases hv
  · rw [q] at hv
    obtain rfl : g' = g := Option.some.inj hv
    refine .inr ⟨g', cap, cur.setIfInBounds j u, q, hB, by rw [heap_setCell_same _ _ j _ _ _ hg], q1, q2, by rw [Array.size_setIfInBounds]; exact q3, ?_⟩
    rw [← q4]
    simp [List.take_set]
theorem row_froz {w : World} {B : Nat} {e : TypeId} {size n c k g : Nat} {xs : List Value} (h : w.ownsRow B e size (.slice (some ⟨g, 0, none⟩) n c) k xs) (j : Nat) : w.frozen? ⟨g, j, none⟩ = false := by
  rcases h.2 with ⟨q, q0⟩ | ⟨g', cap, cur, q, hB, hg, _⟩
  · cases q
  · simp only [Value.slice.injEq, Option.some.injEq, Addr.mk.injEq, and_true] at q
    rw [q.1]; exact frozen_of_row _ _ _ _ _ hg
theorem row_shape {w : World} {B : Nat} {e : TypeId} {s n : Nat} {v : Value} {xs : List Value} (h : w.ownsRow B e s v n xs) : ∃ a m c, v = .slice a m c := by
  obtain ⟨a, c, e, _⟩ := row_reads h
  exact ⟨_, _, _, e⟩
theorem ownsRow_take {w : World} {B : Nat} {t : TypeId} {g n c m s : Nat} {xs : List Value} (h : w.ownsRow B t s (.slice (some ⟨g, 0, none⟩) n c) n xs) (hm : m ≤ n) : w.ownsRow B t s (.slice (some ⟨g, 0, none⟩) m c) m (xs.take (m * s)) := by
  obtain ⟨h1, h2⟩ := h
  have hms : m * s ≤ n * s := Nat.mul_le_mul_right _ hm
  refine ⟨by rw [List.length_take, h1]; omega, ?_⟩
  rcases h2 with ⟨q, _⟩ | ⟨g', cap, cur, q, hB, hg, q1, q2, q3, q4⟩
  · cases q
  · simp only [Value.slice.injEq, Option.some.injEq, Addr.mk.injEq, and_true, true_and] at q
    obtain ⟨rfl, rfl⟩ := q
    exact .inr ⟨g, c, cur, rfl, hB, hg, by omega, q2, q3, by rw [← q4, List.take_take, Nat.min_eq_left hms]⟩

/-- The driver at p, its registered ones as they lie. -/
structure Rg (B p : Nat) (d : DC) (w : World) (H : List EN) : Prop where
  drv : Drv p d w
  row : w.ownsRow B 59 2 (sv d.ev) H.length (e2s H)
  lo : B ≤ p
/-- What a turn of the registered ones turns. -/
def RgS (p : Nat) (d : DC) (b : Nat) : Prop := b = p ∨ (sv d.ev).ownBlock = some b
section
variable {B p : Nat} {d : DC} {w w' : World} {H : List EN}
theorem row_blk {v : Value} {n : Nat} {xs : List Value} {e : TypeId} {s : Nat} (h : w.ownsRow B e s v n xs) {b : Nat} (hb : v.ownBlock = some b) : B ≤ b ∧ ∃ cs fr, w.heap[b]? = some (.cells cs e fr) := by
  rcases h.2 with ⟨q, q0⟩ | ⟨g', cap, cur, q, hB, hg, _⟩
  · rw [q] at hb; cases hb
  · rw [q] at hb
    obtain rfl : g' = b := Option.some.inj hb
    exact ⟨hB, _, _, hg⟩
theorem Rg.ne (h : Rg B p d w H) : (sv d.ev).ownBlock ≠ some p := fun q => by
  obtain ⟨_, cs, fr, e⟩ := row_blk h.row q
  rw [h.drv] at e
  have := Option.some.inj e
  simp only [Obj.cells.injEq] at this
  exact absurd this.2.1 (by decide)
theorem Rg.tn (h : Rg B p d w H) {b : Nat} (hb : RgS p d b) : Tn B w b := by
  rcases hb with rfl | hb
  · exact h.drv.tn h.lo
  · obtain ⟨h1, cs, fr, e⟩ := row_blk h.row hb
    exact ⟨h1, _, e, .inr rfl⟩
theorem Rg.ik (h : Rg B p d w H) (hc : Chg (RgS p d) w w') : Ik B w w' := Ik.of_chg hc (fun b _ q => h.tn q)
theorem Rg.lt (h : Rg B p d w H) {b : Nat} (hb : (sv d.ev).ownBlock = some b) : b < w.heap.size := (World.ownsRow.lt h.row b hb).2
theorem Rg.kept {S : Nat → Prop} (h : Rg B p d w H) (hc : Chg S w w') (hp : ¬ S p) (hv : ∀ b, (sv d.ev).ownBlock = some b → ¬ S b) : Rg B p d w' H :=
  ⟨h.drv.next hc hp, ownsRow_keptC h.row hc hv, h.lo⟩
theorem Rg.below {C : Nat} (h : Rg B p d w H) (hb : Below C w w') (hC : w.heap.size ≤ C) : Rg B p d w' H :=
  h.kept (Chg.of_below hb) (fun q => by have := h.drv.lt; omega) (fun b e q => by have := h.lt e; omega)
theorem Rg.drewN (h : Rg B p d w H) (n : Nat) : Rg B p d (w.drewN n) H := h.below (Below.dN w n) (Nat.le_refl _)
theorem Rg.vx (h : Rg B p d w H) : w.cell? ⟨p, 6, none⟩ = some (sv d.ev) ∧ ∀ j, w.frozen? ⟨p, j, none⟩ = false := ⟨h.drv.at_ rfl, fun j => h.drv.froz j⟩
theorem Rg.len (h : Rg B p d w H) : d.ev.2.1 = H.length := by
  obtain ⟨a, c, e, _⟩ := row_reads h.row
  unfold sv at e
  simp only [Value.slice.injEq] at e
  exact e.2.1
theorem Rg.max (h : Rg B p d w H) : H.length ≤ 9223372036854775807 := by
  obtain ⟨a, c, ev, l1, l2, _⟩ := row_reads h.row
  unfold maxLen at l2
  omega
/-- How an element reads. -/
theorem Rg.at_ (h : Rg B p d w H) {k : Nat} {e : EN} (he : H[k]? = some e) : ∃ g c, d.ev = (some ⟨g, 0, none⟩, H.length, c) ∧ H.length ≤ c ∧ c ≤ maxLen ∧ k < H.length ∧ w.cell? ⟨g, k * 2, none⟩ = some (.int .u64 (e.1.toNat : Int)) ∧ w.cell? ⟨g, k * 2 + 1, none⟩ = some (.int .u64 (e.2.toNat : Int)) ∧ (∀ j, w.frozen? ⟨g, j, none⟩ = false) := by
  have hr := h.row
  obtain ⟨a, c, ev, h1, h2, h3, h4⟩ := row_reads hr
  obtain ⟨e0, e1⟩ := e2s_at H k e he
  obtain ⟨g, rfl, g0⟩ := h4 _ _ e0
  obtain ⟨g', eg, g1⟩ := h4 _ _ e1
  simp only [Option.some.injEq, Addr.mk.injEq, and_true] at eg
  subst eg
  rw [ev] at hr
  have hev : d.ev = (some ⟨g, 0, none⟩, H.length, c) := by
    unfold sv at ev
    simp only [Value.slice.injEq] at ev
    obtain ⟨q1, q2, q3⟩ := ev
    exact Prod.ext q1 (Prod.ext q2 q3)
  exact ⟨g, c, hev, h1, h2, (List.getElem?_eq_some_iff.1 he).1, g0, g1, fun j => row_froz hr j⟩
/-- One element written over. -/
theorem Rg.set {g n c : Nat} (h : Rg B p d w H) (hd : d.ev = (some ⟨g, 0, none⟩, n, c)) (k : Nat) (e : EN) : Rg B p d ((w.setCell ⟨g, k * 2, none⟩ (.int .u64 (e.1.toNat : Int))).setCell ⟨g, k * 2 + 1, none⟩ (.int .u64 (e.2.toNat : Int))) (H.set k e) ∧ Chg (RgS p d) w ((w.setCell ⟨g, k * 2, none⟩ (.int .u64 (e.1.toNat : Int))).setCell ⟨g, k * 2 + 1, none⟩ (.int .u64 (e.2.toNat : Int))) := by
  have hv : (sv d.ev).ownBlock = some g := by rw [hd]; rfl
  have hgp : g ≠ p := fun q => h.ne (by rw [← q]; exact hv)
  have hch : Chg (fun b => b = g) w ((w.setCell ⟨g, k * 2, none⟩ (.int .u64 (e.1.toNat : Int))).setCell ⟨g, k * 2 + 1, none⟩ (.int .u64 (e.2.toNat : Int))) := ((Chg.refl (fun b => b = g) w).put g _ _ rfl).put g _ _ rfl
  refine ⟨⟨h.drv.next hch (fun q => hgp q.symm), ?_, h.lo⟩, hch.mono (fun b _ q => .inr (by rw [hv]; exact congrArg some (Eq.symm q)))⟩
  rw [List.length_set, ← e2s_set]
  exact row_put (row_put h.row hv _ _) hv _ _
/-- Another row stands there. -/
theorem Rg.newRow {x : Option Addr × Nat × Nat} {H' : List EN} (h : Rg B p d w H) (hr : w.ownsRow B 59 2 (sv x) H'.length (e2s H')) : Rg B p { d with ev := x } (w.setCell ⟨p, 6, none⟩ (sv x)) H' := by
  refine ⟨h.drv.setE x, ?_, h.lo⟩
  refine ownsRow_keptC hr (chg_p p 6 (sv x) w) (fun b q1 q2 => ?_)
  obtain ⟨_, cs, fr, e⟩ := row_blk hr q1
  rw [show b = p from q2, h.drv] at e
  have := Option.some.inj e
  simp only [Obj.cells.injEq] at this
  exact absurd this.2.1 (by decide)
theorem Rg.take {g n c m : Nat} (h : Rg B p d w H) (hd : d.ev = (some ⟨g, 0, none⟩, n, c)) (hm : m ≤ H.length) : Rg B p { d with ev := (some ⟨g, 0, none⟩, m, c) } (w.setCell ⟨p, 6, none⟩ (.slice (some ⟨g, 0, none⟩) m c)) (H.take m) := by
  have hn := h.len
  rw [hd] at hn
  have hr := h.row
  rw [hd] at hr
  simp only [sv] at hr
  have hn' : n = H.length := hn
  rw [hn'] at hr
  have h1 := ownsRow_take hr hm
  have e : (e2s H).take (m * 2) = e2s (H.take m) := fm_take e2_len H m
  rw [e] at h1
  refine h.newRow (x := (some ⟨g, 0, none⟩, m, c)) ?_
  rw [List.length_take, Nat.min_eq_left hm]
  exact h1
end
end Go.Proofs.YtefhinopppdjbaaGreat
