/- A region that draws its order, whose first operations only read and whose others all wait for them: the head is walked once, in the order of the text; of what follows any order is asked. -/
import Derived.StillTailTactics
import Derived.Test.YtpieehbikmmifaaG2
import Derived.Test.YtpieehbikmmifaaG1
import Derived.Deep.QuietTactic
import Derived.BigQuiet
import Derived.Deep.Cut
namespace Go.Proofs.Ytpieehbikmmifaa
open Go
set_option linter.unusedVariables false
set_option maxRecDepth 100000

section
variable {P : Program} {ops : Array Oper} {md : Region.Mode} {w : World}

/-- Each operation behind number n waits for one that is not of the head. -/
def lateB (md : Region.Mode) (ops : Array Oper) (n : Nat) : Bool := (List.range ops.size).all fun t => decide (t ≤ n) || (List.range t).any fun s => decide (n ≤ s) && Region.waitsFor md ops t s
/-- The first n are listed, no other one. -/
def heads (ops : Array Oper) (n : Nat) : Array Bool := (List.range ops.size).toArray.map fun i => decide (i < n)

/-- While one of the head is not listed, none of the others may come up. -/
theorem late_waits {n : Nat} {listed : Array Bool} (hs : Region.sinkB md ops n = true) (hc : lateB md ops n = true) (inv : HeadInv md ops n listed) :
    ∀ (d i : Nat), n - i = d → i < n → listed.getD i true = false → ∀ t, n ≤ t → t ∉ Region.ready md ops listed := by
  intro d
  induction d using Nat.strongRecOn with
  | _ d ih =>
    intro i hd hi hun t ht hr
    obtain ⟨_, ot, hot, hall⟩ := mem_ready.1 hr
    have htl : t < ops.size := (Array.getElem?_eq_some_iff.1 hot).1
    -- an edge of t's to what is not listed
    have no : ∀ s, Region.waitsFor md ops t s = true → listed.getD s false = false → False := fun s hw hl => by
      obtain ⟨o', ho', e, he, hb, hon⟩ := Region.waitsFor_spec hw
      obtain rfl : o' = ot := Option.some.inj (ho'.symm.trans hot)
      have h2 := hall e he hb
      rw [hon, hl] at h2
      cases h2
    rcases Nat.lt_or_ge n t with htn | htn
    · have h1 := List.all_eq_true.1 hc t (List.mem_range.2 htl)
      simp only [Bool.or_eq_true, decide_eq_true_eq] at h1
      rcases h1 with h1 | h1
      · omega
      · obtain ⟨s, hs1, hs2⟩ := List.any_eq_true.1 h1
        simp only [Bool.and_eq_true, decide_eq_true_eq] at hs2
        exact no s hs2.2 (getD_both (inv.tail s hs2.1 (by have := List.mem_range.1 hs1; omega)))
    · obtain rfl : t = n := by omega
      obtain ⟨j, hj, hj2⟩ := List.any_eq_true.1 (List.all_eq_true.1 hs i (List.mem_range.2 hi))
      simp only [Bool.and_eq_true, decide_eq_true_eq] at hj2
      have hjt := List.mem_range.1 hj
      by_cases e : j = t
      · rw [e] at hj2
        exact no i hj2.2 (getD_both hun)
      · cases hl : listed.getD j false with
        | true =>
          obtain ⟨oj, hoj, e, he, hb, hon⟩ := Region.waitsFor_spec hj2.2
          have h2 := inv.closed j oj hoj hl e he hb
          rw [hon, getD_both hun] at h2
          cases h2
        | false => exact ih (t - j) (by omega) j rfl (by omega) (getD_in (by rw [inv.size]; omega) hl) t (Nat.le_refl _) hr

/-- One of the head that may come up is taken first. -/
theorem head_first {n i : Nat} {oi : Oper} {v : Value} {L : Array Bool → Act → Prop} (hi : ops[i]? = some oi) (hsel : ∀ (j : Nat) (o : Oper) cs b, ops[j]? = some o → o.op ≠ .select cs b)
    (hs : Region.sinkB md ops n = true) (hc : lateB md ops n = true) (hin : i < n) (hdone : ∀ listed a, L listed a → ∀ j ∈ Region.ready md ops listed, n ≤ j) :
    ∀ (f : Nat) (listed : Array Bool) (a : Act), HeadInv md ops n listed →
      (∀ j oj, ops[j]? = some oj → j ≠ i → listed.getD j true = false → (∀ e ∈ oj.after, Region.binds md e = true → e.on ≠ i) → oi.apart ops oj = true) →
      i ∈ Region.ready md ops listed → YieldsAt P ops w oi v a →
      wpAnyL P md ops w n L f (listed.setIfInBounds i true) (a.put oi.dst v) → wpAnyL P md ops w n L (f + 1) listed a := by
  intro f
  induction f with
  | zero =>
    intro listed a inv _ hr hy H
    have hun := (mem_ready.1 hr).1
    refine ⟨(fun h => by rw [h] at hr; cases hr), fun j hj => ?_⟩
    have hjn : j < n := Nat.lt_of_not_le (fun q => late_waits hs hc inv _ i rfl hin hun j q hj)
    by_cases e : j = i
    · subst e; exact ⟨hjn, hy.stOp hi H⟩
    · have := hdone _ _ H j (ready_mono hj e); omega
  | succ f ih =>
    intro listed a inv hfree hr hy H
    have hun := (mem_ready.1 hr).1
    refine ⟨(fun h => by rw [h] at hr; cases hr), fun j hj => ?_⟩
    have hjn : j < n := Nat.lt_of_not_le (fun q => late_waits hs hc inv _ i rfl hin hun j q hj)
    by_cases e : j = i
    · subst e; exact ⟨hjn, hy.stOp hi H⟩
    · refine ⟨hjn, ?_⟩
      obtain ⟨hjun, oj, hoj, hall⟩ := mem_ready.1 hj
      have hnot : ∀ e ∈ oj.after, Region.binds md e = true → e.on ≠ i := fun e he hb heq => by
        have h1 := hall e he hb
        rw [heq, getD_both hun] at h1
        cases h1
      refine stOp_mono (fun a' h3 => ih (listed.setIfInBounds j true) a' (inv.set hj hjn) (fun k ok hk hki hu hno => hfree k ok hk hki ?_ hno) (ready_mono hr (Ne.symm e)) h3.1 ?_)
        (stOp_put hoj (hfree j oj hoj e hjun hnot) (fun cs b => hsel i oi cs b hi) (fun cs b => hsel j oj cs b hoj) hy (H.2 j (ready_mono hj e)).2)
      · by_cases q : j = k
        · subst q; exact hjun
        · rw [getD_set_ne true q] at hu; exact hu
      · rw [Array.setIfInBounds_comm _ _ e]; exact h3.2

/-- May the first n come up in the order of the text, and do the others wait? -/
def headB (md : Region.Mode) (ops : Array Oper) (n : Nat) : Nat → Nat → Array Bool → Bool
  | 0, _, listed => decide (listed = heads ops n) && (Region.ready md ops listed).all (fun j => decide (n ≤ j))
  | f + 1, k, listed => (Region.ready md ops listed).contains k && Region.free md ops listed k && headB md ops n f (k + 1) (listed.setIfInBounds k true)
theorem head_lex {n : Nat} {Lq : Act → Prop} (hsel : Region.noSelect ops = true) (hs : Region.sinkB md ops n = true) (hc : lateB md ops n = true) :
    ∀ (l : List Oper) (k : Nat) (listed : Array Bool) (a : Act), (∀ j, j < l.length → l[j]? = ops[k + j]?) → k + l.length = n → HeadInv md ops n listed →
    headB md ops n l.length k listed = true → wpStill P ops w Lq l a →
    wpAnyL P md ops w n (fun listed' a' => (listed' = heads ops n ∧ ∀ j ∈ Region.ready md ops listed', n ≤ j) ∧ Lq a') l.length listed a
  | [], k, listed, a, _, hk, _, hB, h => by
    simp only [List.length_nil, headB, Bool.and_eq_true, decide_eq_true_eq, List.all_eq_true] at hB
    exact ⟨hB, h⟩
  | o :: l, k, listed, a, hl, hk, inv, hB, h => by
    have h0 : ops[k]? = some o := by simpa using (hl 0 (by simp)).symm
    simp only [List.length_cons, headB, Bool.and_eq_true] at hB
    obtain ⟨⟨hr, hf⟩, hB'⟩ := hB
    simp only [List.length_cons] at hk
    have hr' : k ∈ Region.ready md ops listed := by simpa using hr
    have hst : stOp P ops w k (wpStill P ops w Lq l) a := by unfold stOp; simp only [h0]; exact h
    obtain ⟨v, hy, hK⟩ := yieldsAt_of_stOp h0 hst
    exact head_first h0 (Region.noSelect_spec hsel) hs hc (by omega) (fun listed' a' hL => hL.1.2) l.length listed a inv (Region.free_spec h0 hf) hr' hy
      (head_lex hsel hs hc l (k + 1) _ _ (fun j hj => by have := hl (j + 1) (by simp; omega); simpa [Nat.add_assoc, Nat.add_comm 1 j] using this) (by omega) (inv.set hr' (by omega)) hB' hK)

def headOK (ops : Array Oper) (n : Nat) : Bool := Region.noSelect ops && decide (n < ops.size) && Region.sinkB .any ops n && lateB .any ops n && headB .any ops n n 0 (Array.replicate ops.size false)

/-- The law. -/
theorem wp_region_head {id : Nat} {Q : Exit → Act → World → Prop} {a : Act} {w : World} {l : List Oper} (n : Nat) (hm : P.follows .mixedOrders = true) (hB : headOK l.toArray n = true)
    (h : wpStill P l.toArray w.drew (fun a' => wpAny P .any l.toArray Q (l.toArray.size - n) (heads l.toArray n) a' w.drew) (l.take n) a) : (Code.region id l.toArray true).wp P Q a w := by
  simp only [headOK, Bool.and_eq_true, decide_eq_true_eq] at hB
  obtain ⟨⟨⟨⟨hsel, hn⟩, hs⟩, hc⟩, hh⟩ := hB
  have hn' : n < l.length := by simpa using hn
  have htl : (l.take n).length = n := by simp; omega
  have inv0 : HeadInv .any l.toArray n (Array.replicate l.toArray.size false) :=
    ⟨by simp, (fun j oj _ hl => by rw [getD_replicate_false] at hl; cases hl), fun t _ ht => getD_in (by simpa using ht) (getD_replicate_false _ _)⟩
  have H := head_lex (md := .any) hsel hs hc (l.take n) 0 _ a (fun j hj => by
    have hj' : j < n := by rw [htl] at hj; exact hj
    simp [hj']) (by simpa using htl) inv0 (by rw [htl]; exact hh) h
  refine wp_region_any hm ?_
  have := wpAny_of_head (Q' := Q) (g := l.toArray.size - n) (fun listed a' hL => by rw [hL.1.1]; exact hL.2) _ _ _ H
  rw [htl, show n + (l.toArray.size - n) = l.toArray.size by omega] at this
  exact this
end
end Go.Proofs.Ytpieehbikmmifaa

/- My own words for the document's net in memory: 'Rn': a Net struct in block y whose messages are the list M, in an array of its own, and whose pairs that are cut off are the list O, in another one. -/
namespace Go.Proofs.Ytpieehbikmmifaa
open Go.RowKit
set_option linter.unusedVariables false
set_option maxRecDepth 100000

section
variable {α : Type} {f : α → List Value} {n : Nat}
theorem fm_len (hf : ∀ x, (f x).length = n) (l : List α) : (l.flatMap f).length = l.length * n := by
  induction l with
  | nil => simp
  | cons x l ih => rw [List.flatMap_cons, List.length_append, ih, hf, List.length_cons, Nat.add_mul]; omega
theorem fm_at (hf : ∀ x, (f x).length = n) (l : List α) (i j : Nat) (x : α) (e : l[i]? = some x) (hj : j < n) : (l.flatMap f)[i * n + j]? = (f x)[j]? := by
  induction l generalizing i with
  | nil => simp at e
  | cons y l ih =>
    cases i with
    | zero => simp at e; subst e; rw [List.flatMap_cons, Nat.zero_mul, Nat.zero_add, List.getElem?_append_left (by rw [hf]; exact hj)]
    | succ i =>
      have := ih i (by simpa using e)
      rw [List.flatMap_cons, List.getElem?_append_right (by rw [hf, Nat.add_mul]; omega), hf, ← this]
      congr 1
      rw [Nat.add_mul]; omega
theorem fm_take (hf : ∀ x, (f x).length = n) (l : List α) (k : Nat) : (l.flatMap f).take (k * n) = (l.take k).flatMap f := by
  induction l generalizing k with
  | nil => simp
  | cons x l ih =>
    cases k with
    | zero => simp
    | succ k => rw [List.take_succ_cons, List.flatMap_cons, List.flatMap_cons, ← ih k, List.take_append, hf, show (k + 1) * n - n = k * n by rw [Nat.add_mul]; omega, List.take_of_length_le (by rw [hf, Nat.add_mul]; omega)]
theorem fm_drop (hf : ∀ x, (f x).length = n) (l : List α) (k : Nat) : (l.flatMap f).drop (k * n) = (l.drop k).flatMap f := by
  induction l generalizing k with
  | nil => simp
  | cons x l ih =>
    cases k with
    | zero => simp
    | succ k => rw [List.drop_succ_cons, List.flatMap_cons, ← ih k, List.drop_append, hf, show (k + 1) * n - n = k * n by rw [Nat.add_mul]; omega, List.drop_of_length_le (by rw [hf, Nat.add_mul]; omega), List.nil_append]
end

/-- A pair that is cut off, as cells. -/
abbrev Of := Int × Int
def ofC (p : Of) : List Value := [.int .i64 p.1, .int .i64 p.2]
def ofCs (O : List Of) : List Value := O.flatMap ofC
theorem ofC_len (p : Of) : (ofC p).length = 2 := rfl
theorem ofCs_length (O : List Of) : (ofCs O).length = O.length * 2 := fm_len ofC_len O
theorem ofCs_app (O U : List Of) : ofCs (O ++ U) = ofCs O ++ ofCs U := by simp [ofCs]

/-- The net's memory, all of it by name. -/
structure RnI (B y A nx : Nat) (lv ov : Value) (Q : List (Pk × Value)) (O : List Of) (S : Nat → Prop) (w : World) : Prop where
  cell : w.heap[y]? = some (.cells #[.int .i64 (A : Int), .int .i64 (nx : Int), lv, ov] 63 (0, 0))
  row : w.ownsRow B 46 4 lv Q.length (pkCs Q)
  data : ∀ p ∈ Q, Rd w p.2 p.1.2.2.2
  off : w.ownsRow B 56 2 ov O.length (ofCs O)
  sy : S y
  sl : ∀ b, lv.ownBlock = some b → S b ∧ b ≠ y ∧ ov.ownBlock ≠ some b
  so : ∀ b, ov.ownBlock = some b → S b ∧ b ≠ y
  sd : ∀ p ∈ Q, ∀ b, p.2.ownBlock = some b → S b ∧ b ≠ y ∧ lv.ownBlock ≠ some b ∧ ov.ownBlock ≠ some b
  lo : ∀ b, S b → B ≤ b ∧ b < w.heap.size
/-- The document's net: A actors, the next number, the messages M, the pairs O. -/
def Rn (B y A nx : Nat) (S : Nat → Prop) (M : List Pk) (O : List Of) (w : World) : Prop := ∃ lv ov Q, Q.map (·.1) = M ∧ RnI B y A nx lv ov Q O S w

section
variable {B y A nx : Nat} {lv ov : Value} {Q : List (Pk × Value)} {M : List Pk} {O : List Of} {S : Nat → Prop} {w w' : World}

theorem RnI.next {T : Nat → Prop} (h : RnI B y A nx lv ov Q O S w) (hc : Chg T w w') (hT : ∀ b, S b → ¬ T b) : RnI B y A nx lv ov Q O S w' :=
  ⟨by rw [hc.block y (h.lo y h.sy).2 (hT y h.sy)]; exact h.cell, ownsRow_keptC h.row hc (fun b hb => hT b (h.sl b hb).1), fun p hp => (h.data p hp).keptC hc (fun b hb => hT b (h.sd p hp b hb).1), ownsRow_keptC h.off hc (fun b hb => hT b (h.so b hb).1), h.sy, h.sl, h.so, h.sd, fun b hb => ⟨(h.lo b hb).1, Nat.lt_of_lt_of_le (h.lo b hb).2 hc.size⟩⟩
theorem Rn.next {T : Nat → Prop} (h : Rn B y A nx S M O w) (hc : Chg T w w') (hT : ∀ b, S b → ¬ T b) : Rn B y A nx S M O w' := by
  obtain ⟨lv, ov, Q, e, h⟩ := h
  exact ⟨lv, ov, Q, e, h.next hc hT⟩
theorem Rn.lt (h : Rn B y A nx S M O w) : ∀ b, S b → B ≤ b ∧ b < w.heap.size := by obtain ⟨_, _, _, _, h⟩ := h; exact h.lo
theorem Rn.sy (h : Rn B y A nx S M O w) : S y := by obtain ⟨_, _, _, _, h⟩ := h; exact h.sy
theorem Rn.leB (h : Rn B y A nx S M O w) : B ≤ w.heap.size := by have := h.lt y h.sy; omega
theorem RnI.below (h : RnI B y A nx lv ov Q O S w) (hb : Below w.heap.size w w') : RnI B y A nx lv ov Q O S w' := h.next (Chg.of_below hb) (fun b hs q => by have := (h.lo b hs).2; omega)
theorem Rn.below (h : Rn B y A nx S M O w) (hb : Below w.heap.size w w') : Rn B y A nx S M O w' := h.next (Chg.of_below hb) (fun b hs q => by have := (h.lt b hs).2; omega)
theorem Rn.chg (h : Rn B y A nx S M O w) (hc : Chg S w w') : Below B w w' := hc.below (fun b hb => (h.lt b hb).1) h.leB
theorem RnI.cells (h : RnI B y A nx lv ov Q O S w) : w.cell? ⟨y, 0, none⟩ = some (.int .i64 (A : Int)) ∧ w.cell? ⟨y, 1, none⟩ = some (.int .i64 (nx : Int)) ∧ w.cell? ⟨y, 2, none⟩ = some lv ∧ w.cell? ⟨y, 3, none⟩ = some ov ∧ ∀ i, w.frozen? ⟨y, i, none⟩ = false :=
  ⟨by rw [cell_of_row _ _ _ _ _ _ h.cell]; rfl, by rw [cell_of_row _ _ _ _ _ _ h.cell]; rfl, by rw [cell_of_row _ _ _ _ _ _ h.cell]; rfl, by rw [cell_of_row _ _ _ _ _ _ h.cell]; rfl, fun i => frozen_of_row _ _ _ _ _ h.cell⟩
/-- How a row of the call's own reads. -/
theorem row_reads {B : Nat} {e : TypeId} {size k : Nat} {v : Value} {xs : List Value} (h : w.ownsRow B e size v k xs) : ∃ a c, v = .slice a k c ∧ k ≤ c ∧ c ≤ maxLen ∧ (a = none → c = 0) ∧ ∀ j u, xs[j]? = some u → ∃ g, a = some ⟨g, 0, none⟩ ∧ w.cell? ⟨g, j, none⟩ = some u := by
  rcases h.2 with ⟨q, q0⟩ | ⟨g, cap, cur, q, hB, hg, q1, q2, q3, q4⟩
  · refine ⟨none, 0, by rw [q, q0], by omega, by simp, fun _ => rfl, fun j u e => ?_⟩
    have h1 := h.1
    have := (List.getElem?_eq_some_iff.1 e).1
    rw [h1, q0, Nat.zero_mul] at this
    omega
  · refine ⟨some ⟨g, 0, none⟩, cap, q, q1, q2, (fun e => by cases e), fun j u e => ⟨g, rfl, ?_⟩⟩
    have := h.cells (g := g) (by rw [q]; rfl) j u e
    rw [Addr.add_lit, Nat.zero_add] at this
    exact this
theorem RnI.shape (h : RnI B y A nx lv ov Q O S w) : ∃ a c, lv = .slice a Q.length c ∧ Q.length ≤ c ∧ c ≤ maxLen ∧ (a = none → c = 0) ∧ ∀ i p, Q[i]? = some p → ∃ g, a = some ⟨g, 0, none⟩ ∧ w.cell? ⟨g, i * 4, none⟩ = some (.int .i64 (p.1.1 : Int)) ∧ w.cell? ⟨g, i * 4 + 1, none⟩ = some (.int .i64 (p.1.2.1 : Int)) ∧ w.cell? ⟨g, i * 4 + 2, none⟩ = some (.int .i64 (p.1.2.2.1 : Int)) ∧ w.cell? ⟨g, i * 4 + 3, none⟩ = some p.2 := by
  obtain ⟨a, c, e, h1, h2, h3, h4⟩ := row_reads h.row
  refine ⟨a, c, e, h1, h2, h3, fun i p hp => ?_⟩
  obtain ⟨e0, e1, e2, e3⟩ := pkCs_at Q i p hp
  obtain ⟨g, rfl, g0⟩ := h4 _ _ e0
  have k : ∀ j u, (pkCs Q)[j]? = some u → w.cell? ⟨g, j, none⟩ = some u := fun j u q => by
    obtain ⟨g', eg, g1⟩ := h4 j u q
    simp only [Option.some.injEq, Addr.mk.injEq, and_true] at eg
    rw [eg]; exact g1
  exact ⟨g, rfl, g0, k _ _ e1, k _ _ e2, k _ _ e3⟩
theorem RnI.shapeO (h : RnI B y A nx lv ov Q O S w) : ∃ a c, ov = .slice a O.length c ∧ O.length ≤ c ∧ c ≤ maxLen ∧ (a = none → c = 0) ∧ ∀ i p, O[i]? = some p → ∃ g, a = some ⟨g, 0, none⟩ ∧ w.cell? ⟨g, i * 2, none⟩ = some (.int .i64 p.1) ∧ w.cell? ⟨g, i * 2 + 1, none⟩ = some (.int .i64 p.2) := by
  obtain ⟨a, c, e, h1, h2, h3, h4⟩ := row_reads h.off
  refine ⟨a, c, e, h1, h2, h3, fun i p hp => ?_⟩
  have e0 : (ofCs O)[i * 2 + 0]? = some (.int .i64 p.1) := fm_at ofC_len O i 0 p hp (by omega)
  have e1 : (ofCs O)[i * 2 + 1]? = some (.int .i64 p.2) := fm_at ofC_len O i 1 p hp (by omega)
  obtain ⟨g, rfl, g0⟩ := h4 _ _ e0
  obtain ⟨g', eg, g1⟩ := h4 _ _ e1
  simp only [Option.some.injEq, Addr.mk.injEq, and_true] at eg
  subst eg
  exact ⟨g, rfl, g0, g1⟩

/-- The net with another list of messages. -/
theorem RnI.newL (h : RnI B y A nx lv ov Q O S w) {we : World} {lv' : Value} {Q' : List (Pk × Value)} {S' : Nat → Prop} (hc : Chg (fun b => lv.ownBlock = some b) w we)
    (ho : we.ownsRow B 46 4 lv' Q'.length (pkCs Q')) (hu : lv'.ownBlock = lv.ownBlock ∨ ∀ b, lv'.ownBlock = some b → w.heap.size ≤ b) (hQ : ∀ p ∈ Q', Rd w p.2 p.1.2.2.2 ∧ ∀ b, p.2.ownBlock = some b → S' b ∧ b < w.heap.size ∧ b ≠ y ∧ lv.ownBlock ≠ some b ∧ ov.ownBlock ≠ some b) (hS : ∀ b, S b → S' b) (hSu : ∀ b, lv'.ownBlock = some b → S' b) (hlo : ∀ b, S' b → B ≤ b ∧ b < we.heap.size) :
    RnI B y A nx lv' ov Q' O S' (we.setCell ⟨y, 2, none⟩ lv') ∧ Chg S w (we.setCell ⟨y, 2, none⟩ lv') := by
  have hyl := (h.lo y h.sy).2
  have hux : ∀ b, lv'.ownBlock = some b → b ≠ y ∧ ov.ownBlock ≠ some b := fun b e => by
    rcases hu with q | q
    · exact (h.sl b (by rw [← q]; exact e)).2
    · have := q b e
      exact ⟨by omega, fun q2 => by have := (h.lo b (h.so b q2).1).2; omega⟩
  have hc2 : Chg (fun b => b = y) we (we.setCell ⟨y, 2, none⟩ lv') := (Chg.refl (fun b => b = y) we).put y 2 lv' rfl
  have hcx : Chg (fun b => b = y ∨ lv.ownBlock = some b) w (we.setCell ⟨y, 2, none⟩ lv') := (hc.mono (fun b _ q => Or.inr q)).trans (hc2.mono (fun b _ q => .inl (.inl q)))
  have hye : we.heap[y]? = some (.cells #[.int .i64 (A : Int), .int .i64 (nx : Int), lv, ov] 63 (0, 0)) := by
    rw [hc.block y hyl (fun q => (h.sl y q).2.1 rfl)]; exact h.cell
  refine ⟨⟨by rw [heap_setCell_same _ _ 2 _ _ _ hye]; rfl, ownsRow_keptC ho hc2 (fun b e => (hux b e).1), fun p hp => (hQ p hp).1.keptC hcx (fun b e q => ?_), ownsRow_keptC h.off hcx (fun b e q => ?_), hS _ h.sy, fun b e => ⟨hSu b e, hux b e⟩, fun b e => ⟨hS b (h.so b e).1, (h.so b e).2⟩, fun p hp b e => ?_, fun b hb => ⟨(hlo b hb).1, by have := (hlo b hb).2; simpa using this⟩⟩, hcx.mono (fun b _ q => ?_)⟩
  · obtain ⟨_, _, q1, q2, _⟩ := (hQ p hp).2 b e
    rcases q with q | q
    · exact q1 q
    · exact q2 q
  · rcases q with q | q
    · exact (h.so b e).2 q
    · exact (h.sl b q).2.2 e
  · obtain ⟨q0, q1, q2, q3, q4⟩ := (hQ p hp).2 b e
    refine ⟨q0, q2, fun q => ?_, q4⟩
    rcases hu with q5 | q5
    · exact q3 (by rw [← q5]; exact q)
    · have := q5 b q; omega
  · rcases q with q | q
    · rw [q]; exact h.sy
    · exact (h.sl b q).1
/-- The net with another list of pairs. -/
theorem RnI.newO (h : RnI B y A nx lv ov Q O S w) {we : World} {ov' : Value} {O' : List Of} {S' : Nat → Prop} (hc : Chg (fun b => ov.ownBlock = some b) w we)
    (ho : we.ownsRow B 56 2 ov' O'.length (ofCs O')) (hu : ov'.ownBlock = ov.ownBlock ∨ ∀ b, ov'.ownBlock = some b → w.heap.size ≤ b) (hS : ∀ b, S b → S' b) (hSu : ∀ b, ov'.ownBlock = some b → S' b) (hlo : ∀ b, S' b → B ≤ b ∧ b < we.heap.size) :
    RnI B y A nx lv ov' Q O' S' (we.setCell ⟨y, 3, none⟩ ov') ∧ Chg S w (we.setCell ⟨y, 3, none⟩ ov') := by
  have hyl := (h.lo y h.sy).2
  have hux : ∀ b, ov'.ownBlock = some b → b ≠ y ∧ lv.ownBlock ≠ some b ∧ ∀ p ∈ Q, p.2.ownBlock ≠ some b := fun b e => by
    rcases hu with q | q
    · have e2 : ov.ownBlock = some b := by rw [← q]; exact e
      exact ⟨(h.so b e2).2, fun q2 => (h.sl b q2).2.2 e2, fun p hp q2 => (h.sd p hp b q2).2.2.2 e2⟩
    · have := q b e
      exact ⟨by omega, fun q2 => by have := (h.lo b (h.sl b q2).1).2; omega, fun p hp q2 => by have := (h.lo b (h.sd p hp b q2).1).2; omega⟩
  have hc2 : Chg (fun b => b = y) we (we.setCell ⟨y, 3, none⟩ ov') := (Chg.refl (fun b => b = y) we).put y 3 ov' rfl
  have hcx : Chg (fun b => b = y ∨ ov.ownBlock = some b) w (we.setCell ⟨y, 3, none⟩ ov') := (hc.mono (fun b _ q => Or.inr q)).trans (hc2.mono (fun b _ q => .inl (.inl q)))
  have hye : we.heap[y]? = some (.cells #[.int .i64 (A : Int), .int .i64 (nx : Int), lv, ov] 63 (0, 0)) := by
    rw [hc.block y hyl (fun q => (h.so y q).2 rfl)]; exact h.cell
  refine ⟨⟨by rw [heap_setCell_same _ _ 3 _ _ _ hye]; rfl, ownsRow_keptC h.row hcx (fun b e q => ?_), fun p hp => (h.data p hp).keptC hcx (fun b e q => ?_), ownsRow_keptC ho hc2 (fun b e => (hux b e).1), hS _ h.sy, fun b e => ⟨hS b (h.sl b e).1, (h.sl b e).2.1, fun q => (hux b q).2.1 e⟩, fun b e => ⟨hSu b e, (hux b e).1⟩, fun p hp b e => ⟨hS b (h.sd p hp b e).1, (h.sd p hp b e).2.1, (h.sd p hp b e).2.2.1, fun q => (hux b q).2.2 p hp e⟩, fun b hb => ⟨(hlo b hb).1, by have := (hlo b hb).2; simpa using this⟩⟩, hcx.mono (fun b _ q => ?_)⟩
  · rcases q with q | q
    · exact (h.sl b e).2.1 q
    · exact (h.sl b e).2.2 q
  · rcases q with q | q
    · exact (h.sd p hp b e).2.1 q
    · exact (h.sd p hp b e).2.2.2 q
  · rcases q with q | q
    · rw [q]; exact h.sy
    · exact (h.so b q).1
/-- The net with another next number. -/
theorem RnI.newN (h : RnI B y A nx lv ov Q O S w) (nx' : Nat) : RnI B y A nx' lv ov Q O S (w.setCell ⟨y, 1, none⟩ (.int .i64 (nx' : Int))) ∧ Chg S w (w.setCell ⟨y, 1, none⟩ (.int .i64 (nx' : Int))) := by
  have hc2 : Chg (fun b => b = y) w (w.setCell ⟨y, 1, none⟩ (.int .i64 (nx' : Int))) := (Chg.refl (fun b => b = y) w).put y 1 _ rfl
  exact ⟨⟨by rw [heap_setCell_same _ _ 1 _ _ _ h.cell]; rfl, ownsRow_keptC h.row hc2 (fun b e => (h.sl b e).2.1), fun p hp => (h.data p hp).keptC hc2 (fun b e => (h.sd p hp b e).2.1), ownsRow_keptC h.off hc2 (fun b e => (h.so b e).2), h.sy, h.sl, h.so, h.sd, fun b hb => ⟨(h.lo b hb).1, by have := (h.lo b hb).2; simpa using this⟩⟩, hc2.mono (fun b _ q => by rw [q]; exact h.sy)⟩
end
end Go.Proofs.Ytpieehbikmmifaa

/- has: is a number in a list. A net's messages, counted. -/
namespace Go.Proofs.Ytpieehbikmmifaa
open Go.RowKit Go.Maps
set_option linter.unusedVariables false
set_option maxRecDepth 100000

/-- The slice value v reads as these numbers. -/
def RdZ (w : World) (v : Value) (l : List Int) : Prop := ∃ ao c, v = .slice ao l.length c ∧ l.length ≤ c ∧ c ≤ maxLen ∧ ∀ i, (h : i < l.length) → ∃ a, ao = some a ∧ w.cell? (a.add i) = some (.int .i64 l[i])
theorem RdZ.of_row {w : World} {B : Nat} {e : TypeId} {v : Value} {l : List Int} (h : w.ownsRow B e 1 v l.length (l.map (.int .i64 ·))) : RdZ w v l := by
  obtain ⟨a, c, e, h1, h2, h3, h4⟩ := row_reads h
  refine ⟨a, c, e, h1, h2, fun i hi => ?_⟩
  obtain ⟨g, rfl, hc⟩ := h4 i (.int .i64 l[i]) (by simp [hi])
  exact ⟨_, rfl, by rw [Addr.add_lit, Nat.zero_add]; exact hc⟩
theorem has_any {v : Value} {l : List Int} {w : World} (h : RdZ w v l) (z : Int) : Calls Try.prog 16 #[v, .int .i64 z] w fun e w' => e = .returned (.bool (decide (z ∈ l))) ∧ w' = w := by
  obtain ⟨ao, c, rfl, h1, h2, h4⟩ := h
  unfold maxLen at h2
  go_enter Try.func16, Try.ntmps16
  go_wp2_with fail
  go_loopw [5] (fun i wr => ∃ k : Nat, k ≤ l.length ∧ i = .int .i64 k ∧ wr = w ∧ ∀ j (hj : j < l.length), j < k → l[j] ≠ z) (fun i _ => l.length - (intOf i).toNat)
  case atStart => exact ⟨0, by omega, rfl, rfl, fun j _ hj => by omega⟩
  case round =>
    obtain ⟨k, hk, rfl, rfl, hno⟩ := hrel
    by_cases hlt : k < l.length
    · obtain ⟨a, rfl, hc⟩ := h4 k hlt
      by_cases hz : l[k] = z
      · have hm : decide (z ∈ l) = true := decide_eq_true (hz ▸ List.getElem_mem hlt)
        have H : Hid _ := hm
        rw [hz] at hc
        clear hz hm hno h4
        go_wp2_with fail
        go_ret
        exact ⟨by rw [H.out]; rfl, rfl⟩
      · have H : Hid _ := And.intro hno hz
        have hzb : (l[k] == z) = false := by simpa using hz
        generalize l[k] = y at hc hzb
        clear hno hz h4
        go_wp2_with fail
        refine ⟨⟨k + 1, by omega, by go_num, by first | rfl | trivial, fun j hj hjk => ?_⟩, by simp [intOf]; omega⟩
        by_cases e : j = k
        · subst e; exact H.out.2
        · exact H.out.1 j hj (by omega)
    · obtain rfl : k = l.length := by omega
      have hm : decide (z ∈ l) = false := decide_eq_false (fun q => by
        obtain ⟨j, hj, e⟩ := List.getElem_of_mem q
        exact hno j hj hj e)
      have H : Hid _ := hm
      clear hm hno h4
      go_wp2_with fail
      go_ret
      exact ⟨by rw [H.out]; rfl, rfl⟩

theorem nrd1 (w : World) (a : Int) (x : UInt8) (ha : a = (x.toNat : Int)) (t : TypeId) : Rd (w.alloc (.cells #[.int .u8 a] t)) (.slice (some ⟨w.heap.size, 0, none⟩) 1 1) [x] := by
  subst ha
  refine Rd.mk rfl (by simp) (by simp [maxLen]) (fun i hi => ?_)
  obtain rfl : i = 0 := by simpa using hi
  rw [Addr.add_lit, World.cell?_alloc_at _ _ _ _ rfl]; rfl
theorem nrd2 (w : World) (a b : Int) (x y : UInt8) (ha : a = (x.toNat : Int)) (hb : b = (y.toNat : Int)) (t : TypeId) : Rd (w.alloc (.cells #[.int .u8 a, .int .u8 b] t)) (.slice (some ⟨w.heap.size, 0, none⟩) 2 2) [x, y] := by
  subst ha; subst hb
  refine Rd.mk rfl (by simp) (by simp [maxLen]) (fun i hi => ?_)
  have hi' : i = 0 ∨ i = 1 := by simp at hi; omega
  rcases hi' with rfl | rfl
  · rw [Addr.add_lit, World.cell?_alloc_at _ _ _ _ rfl]; rfl
  · rw [Addr.add_lit, World.cell?_alloc_at _ _ _ _ rfl]; rfl

theorem box_cell {T : Nat → Prop} {w w1 : World} {F i : Nat} {u : Value} (hc : Chg T w w1) (hT : ¬ T F) (hF : F < w.heap.size) (c : w.cell? ⟨F, i, none⟩ = some u) : w1.cell? ⟨F, i, none⟩ = some u := by
  rw [World.cell?_of_block (hc.block F hF hT)]; exact c
theorem box_at (w : World) (cs : Array Value) (t : TypeId) (i : Nat) : (w.alloc (.cells cs t)).cell? ⟨w.heap.size, i, none⟩ = cs[i]? := by rw [World.cell?_alloc_at _ _ _ _ rfl]

section
variable {B x A last n : Nat} {M : List Pk} {C : Ct} {S : Nat → Prop} {w w' : World}
theorem pend_len (h : Nt B x A last n S M C w) (hI : InvM A last M) : Calls Try.prog 13 #[.pointer (some ⟨x, 0, none⟩)] w fun e w' => ∃ a c, e = .returned (.slice a M.length c) ∧ M.length ≤ c ∧ c ≤ maxLen ∧ Below w.heap.size w w' := by
  refine (pending_any h hI.len (fun p hp => Nat.le_trans (hI.small p hp) (by omega))).mono ?_
  rintro e w1 ⟨v, rfl, Q, hQ, hT, hb⟩
  obtain ⟨a, c, e, h1, h2, _, _⟩ := row_reads hT.row
  have hl : Q.length = M.length := by rw [← hQ, List.length_map]
  rw [hl] at e h1
  exact ⟨a, c, by rw [e], h1, h2, hb⟩
end

/-- A program that is one: the first line of each statement about nets. -/
theorem nawake_any (w : World) : Calls Try.prog 7 #[] w fun e w' => e = .returned (.bool true) ∧ Below w.heap.size w w' := by
  go_enter Try.func7, Try.ntmps7
  go_wp2_with fail
  refine (netNew_ok 3 (by omega) (by omega) w).mono ?_
  rintro e w1 ⟨x, rfl, hN1, hb1⟩
  go_wp2_with fail
  refine (send_ok (hN1.below (Below.al w1 _)) 1 2 (by decide) (by simp) (by omega) (nrd1 w1 7 7 rfl _) (by simp)).mono ?_
  rintro e w2 ⟨rfl, ⟨S2, hN2, _⟩, hc2⟩
  have hI2 : InvM 3 (0 + 1) ([] ++ [(0 + 1, 1, 2, [7])]) := (InvM.nil 3 0).put (by simp) 1 2 (by omega) (by omega) [7] (by simp)
  have hn : isN ([] ++ [(0 + 1, 1, 2, [7])]) 1 = true := (isN_iff hI2.rise 1).2 ⟨(0 + 1, 1, 2, [7]), by simp, by simp⟩
  obtain ⟨p, hp, _⟩ := isN_at hn
  have hpe : p = (0 + 1, 1, 2, [7]) := by simpa using List.mem_of_getElem? hp
  subst hpe
  have hb2 : Below w.heap.size w w2 := hb1.trans (((Below.al w1 (.cells #[.int .u8 7] 5)).mono hN1.leB).trans ((hN1.below (Below.al w1 _)).chg hc2))
  go_wp2_with fail
  refine (deliver_ok hN2 hI2.rise (by simp) 1 hn hp (by simp) (by simp) rfl).mono ?_
  rintro e w3 ⟨v3, rfl, ho3, hN3, hc3⟩
  have hb3 := hb2.trans (hN2.chg hc3)
  obtain ⟨a3, n3, c3, rfl⟩ := rowP_shape ho3
  have hr3 := (ho3.rd.alloc (.cells #[.int .i64 1, .int .i64 1, .int .i64 2, .slice a3 n3 c3] 46)).alloc (.cells #[.int .u8 7] 5)
  have hq3 := nrd1 (w3.alloc (.cells #[.int .i64 1, .int .i64 1, .int .i64 2, .slice a3 n3 c3] 46)) 7 7 rfl 5
  rw [show (w3.alloc (.cells #[.int .i64 1, .int .i64 1, .int .i64 2, .slice a3 n3 c3] 46)).heap.size = w3.heap.size + 1 by simp] at hq3
  go_wp2_with fail
  refine (same_any hr3 hq3).mono ?_
  rintro e w4 ⟨rfl, q4, rfl⟩
  rw [decide_eq_true (show ((0 + 1, 1, 2, [7]) : Pk).2.2.2 = [7] from rfl)]
  go_wp2_with fail
  go_ret
  exact ⟨rfl, hb3.trans ((below_drewN (((Below.refl w3.heap.size w3).alloc (Nat.le_refl _) _).alloc (by simp) _) _).mono hb3.size)⟩
end Go.Proofs.Ytpieehbikmmifaa

/- samePackets: two lists of messages that read the same. -/
namespace Go.Proofs.Ytpieehbikmmifaa
open Go.RowKit
set_option linter.unusedVariables false
set_option maxRecDepth 100000

/-- The k-th messages of two arrays read the same. -/
def AlikeAt (w : World) (g h k : Nat) : Prop := ∃ (i f t : Int) (da db : Value) (l : List UInt8), w.cell? ⟨g, k * 4, none⟩ = some (.int .i64 i) ∧ w.cell? ⟨g, k * 4 + 1, none⟩ = some (.int .i64 f) ∧ w.cell? ⟨g, k * 4 + 2, none⟩ = some (.int .i64 t) ∧ w.cell? ⟨g, k * 4 + 3, none⟩ = some da ∧ w.cell? ⟨h, k * 4, none⟩ = some (.int .i64 i) ∧ w.cell? ⟨h, k * 4 + 1, none⟩ = some (.int .i64 f) ∧ w.cell? ⟨h, k * 4 + 2, none⟩ = some (.int .i64 t) ∧ w.cell? ⟨h, k * 4 + 3, none⟩ = some db ∧ Rd w da l ∧ Rd w db l
def Alike (w : World) (va vb : Value) (n : Nat) : Prop := ∃ aa ca ab cb, va = .slice aa n ca ∧ vb = .slice ab n cb ∧ n ≤ ca ∧ ca ≤ maxLen ∧ n ≤ cb ∧ cb ≤ maxLen ∧ ∀ k, k < n → ∃ g h, aa = some ⟨g, 0, none⟩ ∧ ab = some ⟨h, 0, none⟩ ∧ AlikeAt w g h k

theorem nsame_q {va vb : Value} {l : List UInt8} {w : World} (ha : Rd w va l) (hb : Rd w vb l) (m q : Nat) : Calls Try.prog 23 #[va, vb] (w.drewN (m + q)) fun e w' => e = .returned (.bool true) ∧ ∃ n, w' = w.drewN (m + n) := by
  refine (same_any (ha.drewN (m + q)) (hb.drewN (m + q))).mono ?_
  rintro _ w' ⟨rfl, n, rfl⟩
  exact ⟨by rw [decide_eq_true rfl], q + n, by rw [World.drewN_drewN, Nat.add_assoc]⟩

set_option maxHeartbeats 1000000 in
theorem samePackets_any {va vb : Value} {n : Nat} {w : World} (h : Alike w va vb n) :
    Calls Try.prog 28 #[va, vb] w fun e w' => e = .returned (.bool true) ∧ ∃ n, w' = w.drewN n := by
  obtain ⟨aa, ca, ab, cb, rfl, rfl, h1, h2, h3, h4, h5⟩ := h
  unfold maxLen at h2 h4
  go_enter Try.func28, Try.ntmps28
  go_wp2_with fail
  go_loopw [5] (fun i wr => ∃ k : Nat, k ≤ n ∧ i = .int .i64 k ∧ ∃ m, wr = w.drewN m) (fun i _ => n - (intOf i).toNat)
  case atStart => exact ⟨0, Nat.zero_le _, rfl, 0, rfl⟩
  case round =>
    obtain ⟨k, hk, rfl, m, rfl⟩ := hrel
    by_cases hlt : k < n
    · obtain ⟨g, h, rfl, rfl, i, f, t, da, db, l, a0, a1, a2, a3, b0, b1, b2, b3, ra, rb⟩ := h5 k hlt
      have hsm := fun q => nsame_q ra rb m q
      have hk2 : (k : Int) < (n : Int) := by omega
      obtain ⟨pa, qa, rfl, _⟩ := ra
      obtain ⟨pb, qb, rfl, _⟩ := rb
      clear h5
      go_wp2_with fail
      go_quiet (first | (go_at_call 23; refine hsm _) | fail)
      go_wp2_with fail
      exact ⟨⟨k + 1, by omega, by go_num, m + nq, by simp [World.drewN]⟩, by simp [intOf]; omega⟩
    · obtain rfl : k = n := by omega
      clear h5
      go_wp2_with fail
      go_ret
      exact ⟨rfl, _, rfl⟩
end Go.Proofs.Ytpieehbikmmifaa

/- The document's net: what is looked up in it. -/
namespace Go.Proofs.Ytpieehbikmmifaa
open Go.RowKit
set_option linter.unusedVariables false
set_option maxRecDepth 100000

/-- Are two pairs the same, either way round? -/
def mt (a b : Int) (p : Of) : Bool := (p.1 == a && p.2 == b) || (p.1 == b && p.2 == a)
def isO (O : List Of) (a b : Int) : Bool := O.any (mt a b)
def plO (O : List Of) (a b : Int) : Nat := O.findIdx (mt a b)
/-- The place, or -1. -/
def fO (O : List Of) (a b : Int) : Int := if isO O a b = true then (plO O a b : Int) else -1
def fN (M : List Pk) (id : Int) : Int := if isN M id = true then (plN M id : Int) else -1
theorem plO_eq {O : List Of} {a b : Int} {k : Nat} (hk : k < O.length) (h1 : mt a b O[k] = true) (h2 : ∀ j x, j < k → O[j]? = some x → mt a b x = false) : isO O a b = true ∧ plO O a b = k := by
  refine ⟨List.any_eq_true.2 ⟨_, List.getElem_mem hk, h1⟩, (List.findIdx_eq hk).2 ⟨h1, fun j hj => ?_⟩⟩
  have := h2 j O[j] hj (List.getElem?_eq_getElem (by omega))
  simp [this]
theorem isO_no {O : List Of} {a b : Int} (h2 : ∀ j x, j < O.length → O[j]? = some x → mt a b x = false) : isO O a b = false := by
  unfold isO
  rw [List.any_eq_false]
  intro x hx
  obtain ⟨j, hj, e⟩ := List.getElem_of_mem hx
  have := h2 j x hj (by rw [List.getElem?_eq_getElem hj, e])
  simp [this]

section
variable {B y A nx : Nat} {S : Nat → Prop} {M : List Pk} {O : List Of} {w w' : World}

theorem ractor_any (h : Rn B y A nx S M O w) (a : Int) : Calls Try.prog 43 #[.pointer (some ⟨y, 0, none⟩), .int .i64 a] w fun e w' => e = .returned (.bool (isAct A a)) ∧ w' = w := by
  obtain ⟨lv, ov, Q, rfl, h⟩ := h
  obtain ⟨c0, c1, c2, c3, _⟩ := h.cells
  unfold isAct
  by_cases h1 : 1 ≤ a
  · go_enter Try.func43, Try.ntmps43
    go_wp2_with fail
    go_ret
    exact ⟨by simp [h1], rfl⟩
  · go_enter Try.func43, Try.ntmps43
    go_wp2_with fail
    go_ret
    exact ⟨by rw [decide_eq_false (show ¬ 1 ≤ a by omega)]; rfl, rfl⟩

theorem nfind_any (h : Rn B y A nx S M O w) (hU : Rise M) (id : Int) : Calls Try.prog 45 #[.pointer (some ⟨y, 0, none⟩), .int .i64 id] w fun e w' => e = .returned (.int .i64 (fN M id)) ∧ w' = w := by
  obtain ⟨lv, ov, Q, rfl, h⟩ := h
  obtain ⟨c0, c1, c2, c3, _⟩ := h.cells
  obtain ⟨a, c, rfl, h1, h2, h3, h4⟩ := h.shape
  unfold maxLen at h2
  clear h
  go_enter Try.func45, Try.ntmps45
  go_wp2_with fail
  go_loopw [5] (fun i wr => ∃ k : Nat, k ≤ Q.length ∧ i = .int .i64 k ∧ wr = w ∧ ∀ j x, j < k → (Q.map (·.1))[j]? = some x → (x.1 : Int) ≠ id) (fun i _ => Q.length - (intOf i).toNat)
  case atStart => exact ⟨0, by omega, rfl, rfl, fun j x hj => by omega⟩
  case round =>
    obtain ⟨k, hk, rfl, rfl, hno⟩ := hrel
    by_cases hlt : k < Q.length
    · obtain ⟨g, rfl, g0, _, _, _⟩ := h4 k Q[k] (List.getElem?_eq_getElem hlt)
      have hk2 : (Q.map (·.1))[k]? = some Q[k].1 := by rw [List.getElem?_map, List.getElem?_eq_getElem hlt]; rfl
      generalize Q[k] = q at *
      obtain ⟨⟨id0, fr, to_, da⟩, dv⟩ := q
      simp only [] at *
      by_cases hz : (id0 : Int) = id
      · subst hz
        have hit : isN (Q.map (·.1)) (id0 : Int) = true := (isN_iff hU _).2 ⟨_, List.mem_of_getElem? hk2, rfl⟩
        have hpl : plN (Q.map (·.1)) (id0 : Int) = k := plN_eq (fun j x hj e => by
          obtain ⟨h5, e5⟩ := List.getElem?_eq_some_iff.1 e
          obtain ⟨h6, e6⟩ := List.getElem?_eq_some_iff.1 hk2
          have := List.pairwise_iff_getElem.1 hU j k h5 h6 hj
          rw [e5, e6] at this
          simp only [] at this
          omega) (fun x e => by rw [hk2] at e; obtain rfl := Option.some.inj e; simp only []; omega) (by simp; omega)
        have H : Hid _ := And.intro hit hpl
        clear hit hpl hno h4 hk2
        go_wp2_with fail
        go_ret
        exact ⟨by unfold fN; rw [if_pos H.out.1, H.out.2]; rfl, rfl⟩
      · have H : Hid _ := And.intro hno (And.intro hk2 hz)
        have hzb : ((id0 : Int) == id) = false := by simpa using hz
        clear hno hz h4 hk2
        go_wp2_with fail
        refine ⟨⟨k + 1, by omega, by go_num, by first | rfl | trivial, fun j x hj e => ?_⟩, by simp [intOf]; omega⟩
        by_cases ej : j = k
        · subst ej
          rw [H.out.2.1] at e
          obtain rfl := Option.some.inj e
          exact H.out.2.2
        · exact H.out.1 j x (by omega) e
    · obtain rfl : k = Q.length := by omega
      have hm : ¬ isN (Q.map (·.1)) id = true := fun q => by
        obtain ⟨p, hp, e⟩ := (isN_iff hU _).1 q
        obtain ⟨j, hj, e2⟩ := List.getElem_of_mem hp
        exact hno j p (by simpa using hj) (by rw [List.getElem?_eq_getElem hj, e2]) e
      have H : Hid _ := hm
      clear hm hno h4
      go_wp2_with fail
      go_ret
      exact ⟨by unfold fN; rw [if_neg H.out]; rfl, rfl⟩

theorem rpair_any (h : Rn B y A nx S M O w) (a b : Int) : Calls Try.prog 47 #[.pointer (some ⟨y, 0, none⟩), .int .i64 a, .int .i64 b] w fun e w' => e = .returned (.int .i64 (fO O a b)) ∧ w' = w := by
  obtain ⟨lv, ov, Q, rfl, h⟩ := h
  obtain ⟨c0, c1, c2, c3, _⟩ := h.cells
  obtain ⟨ad, c, rfl, h1, h2, h3, h4⟩ := h.shapeO
  unfold maxLen at h2
  clear h
  go_enter Try.func47, Try.ntmps47
  go_wp2_with fail
  go_loopw [7] (fun i wr => ∃ k : Nat, k ≤ O.length ∧ i = .int .i64 k ∧ wr = w ∧ ∀ j x, j < k → O[j]? = some x → mt a b x = false) (fun i _ => O.length - (intOf i).toNat)
  case atStart => exact ⟨0, by omega, rfl, rfl, fun j x hj => by omega⟩
  case round =>
    obtain ⟨k, hk, rfl, rfl, hno⟩ := hrel
    by_cases hlt : k < O.length
    · obtain ⟨g, rfl, g0, g1⟩ := h4 k O[k] (List.getElem?_eq_getElem hlt)
      have hk2 : O[k]? = some O[k] := List.getElem?_eq_getElem hlt
      have hpe := fun q => plO_eq hlt (a := a) (b := b) q hno
      generalize O[k] = p at *
      obtain ⟨p0, p1⟩ := p
      simp only [] at *
      cases hm : mt a b (p0, p1) with
      | true =>
        have H : Hid _ := hpe hm
        clear hpe hno h4 hk2
        unfold mt at hm
        simp only [] at hm
        by_cases q : p0 = a ∧ p1 = b
        · obtain ⟨rfl, rfl⟩ := q
          clear hm
          go_wp2_with fail
          go_ret
          exact ⟨by unfold fO; rw [if_pos H.out.1, H.out.2]; rfl, rfl⟩
        · have q2 : p0 = b ∧ p1 = a := by simp at hm; omega
          obtain ⟨rfl, rfl⟩ := q2
          clear hm
          by_cases e : p0 = p1
          · exact absurd ⟨e, e.symm⟩ q
          · have e1 : (p0 == p1) = false := by simpa using e
            have e2 : (p1 == p0) = false := by simpa using fun q => e q.symm
            clear q
            go_wp2_with fail
            go_ret
            exact ⟨by unfold fO; rw [if_pos H.out.1, H.out.2]; rfl, rfl⟩
      | false =>
        have H : Hid _ := And.intro hno (And.intro hk2 hm)
        clear hpe hno h4 hk2
        unfold mt at hm
        simp only [Bool.or_eq_false_iff] at hm
        obtain ⟨m1, m2⟩ := hm
        have fin : (∃ k' : Nat, k' ≤ O.length ∧ Value.int .i64 ((k : Int) + 1) = .int .i64 k' ∧ ∀ j x, j < k' → O[j]? = some x → mt a b x = false) := ⟨k + 1, by omega, by simp, fun j x hj e => by
          by_cases ej : j = k
          · subst ej
            rw [H.out.2.1] at e
            obtain rfl := Option.some.inj e
            exact H.out.2.2
          · exact H.out.1 j x (by omega) e⟩
        have HF : Hid _ := fin
        clear fin
        cases e1 : (p0 == a) <;> cases e2 : (p1 == b) <;> cases e3 : (p0 == b) <;> cases e4 : (p1 == a) <;> simp only [e1, e2, e3, e4, Bool.and_true, Bool.and_false, Bool.true_eq_false, Bool.and_self] at m1 m2
        all_goals first
          | (simp at m1; done)
          | (simp at m2; done)
          | skip
        all_goals clear m1 m2
        all_goals go_wp2_with fail
        all_goals
          obtain ⟨k', q1, q2, q3⟩ := HF.out
          exact ⟨⟨k + 1, by omega, by go_num, by first | rfl | trivial, by simp only [Value.int.injEq, true_and] at q2; rw [show k + 1 = k' by omega]; exact q3⟩, by simp [intOf]; omega⟩
    · obtain rfl : k = O.length := by omega
      have H : Hid _ := isO_no hno
      clear hno h4
      go_wp2_with fail
      go_ret
      exact ⟨by unfold fO; rw [H.out]; rfl, rfl⟩

theorem risCut_any (h : Rn B y A nx S M O w) (a b : Int) : Calls Try.prog 32 #[.pointer (some ⟨y, 0, none⟩), .int .i64 a, .int .i64 b] w fun e w' => e = .returned (.bool (isO O a b)) ∧ w' = w := by
  have hp := rpair_any h a b
  cases e : isO O a b with
  | true =>
    unfold fO at hp
    rw [e, if_pos rfl] at hp
    generalize plO O a b = k at *
    have hd : decide ((0 : Int) ≤ (k : Int)) = true := decide_eq_true (by omega)
    go_enter Try.func32, Try.ntmps32
    go_wp2_with fail
    refine hp.mono ?_
    rintro e w1 ⟨rfl, rfl⟩
    go_wp2_with fail
    go_ret
    exact ⟨rfl, rfl⟩
  | false =>
    unfold fO at hp
    rw [e, if_neg (by simp)] at hp
    go_enter Try.func32, Try.ntmps32
    go_wp2_with fail
    refine hp.mono ?_
    rintro e w1 ⟨rfl, rfl⟩
    go_wp2_with fail
    go_ret
    exact ⟨rfl, rfl⟩
end
end Go.Proofs.Ytpieehbikmmifaa

/- The document's net: one more message. -/
namespace Go.Proofs.Ytpieehbikmmifaa
open Go.RowKit
set_option linter.unusedVariables false
set_option maxRecDepth 100000

/-- What the document's own Copy answers. -/
theorem nrcopy_any {v : Value} {l : List UInt8} {w : World} (hr : Rd w v l) (hl : l.length ≤ 140737488355328) :
    Calls Try.prog 52 #[v] w fun e w' => ∃ v', e = .returned v' ∧ Ow w.heap.size w' v' l ∧ Below w.heap.size w w' := by
  go_enter Try.func52, Try.ntmps52
  go_wp2_with (first | (at_builtin; refine wpList_app rfl _ _ rfl w.heap.size _ [] rfl (Ow.nil _ _) _ l rfl hr (Nat.le_refl _) (by simpa using hl) ?_; intro v' w' ho' hb' hg') | fail)
  go_ret
  exact ⟨_, rfl, ho', hb'⟩

section
variable {B y A nx : Nat} {S : Nat → Prop} {M : List Pk} {O : List Of} {w w' : World}

theorem rput_full (h : Rn B y A nx S M O w) (hf : 256 ≤ M.length) (a b : Int) (v : Value) : Calls Try.prog 44 #[.pointer (some ⟨y, 0, none⟩), .int .i64 a, .int .i64 b, v] w fun e w' => e = .returned (.tuple #[.int .i64 0, .int .i64 2]) ∧ w' = w := by
  obtain ⟨lv, ov, Q, rfl, h⟩ := h
  obtain ⟨c0, c1, c2, c3, _⟩ := h.cells
  obtain ⟨ad, c, rfl, h1, h2, h3, h4⟩ := h.shape
  unfold maxLen at h2
  rw [List.length_map] at hf
  have hd : decide ((256 : Int) ≤ (Q.length : Int)) = true := decide_eq_true (by omega)
  clear h h4
  go_enter Try.func44, Try.ntmps44
  go_wp2_with fail
  go_ret2
  exact ⟨rfl, rfl⟩

/-- The net with one message more. -/
theorem RnI.put {lv ov v1 v5 : Value} {Q : List (Pk × Value)} {w1 w5 : World} (h : RnI B y A nx lv ov Q O S w) (hb1 : Below w.heap.size w w1) {p : Pk} (ho1 : Ow w.heap.size w1 v1 p.2.2.2) {o : Obj} (ho5 : w5.ownsRow B 46 4 v5 (Q ++ [(p, v1)]).length (pkCs (Q ++ [(p, v1)]))) (hg5 : (w1.alloc o).grownBy w5 lv.ownBlock) (hv5 : v5.ownBlock = lv.ownBlock ∨ v5.ownBlock = some (w1.alloc o).heap.size) (N1 : Nat) :
    (∃ S', Rn B y A N1 S' ((Q ++ [(p, v1)]).map (·.1)) O ((w5.setCell ⟨y, 2, none⟩ v5).setCell ⟨y, 1, none⟩ (.int .i64 (N1 : Int))) ∧ ∀ b, S' b → S b ∨ w.heap.size ≤ b) ∧ Chg S w ((w5.setCell ⟨y, 2, none⟩ v5).setCell ⟨y, 1, none⟩ (.int .i64 (N1 : Int))) := by
  have h1 := h.below hb1
  have z1 := hb1.size
  have hl1 := World.ownsRow.lt ho1
  have za : (w1.alloc o).heap.size = w1.heap.size + 1 := by simp
  have hB : B ≤ w.heap.size := by have := h.lo y h.sy; omega
  have hc : Chg (fun b => lv.ownBlock = some b) w1 w5 := ((Chg.refl _ w1).alloc o).trans ((Chg.of_grown (S := fun b => lv.ownBlock = some b) hg5 (fun b e _ => e)).mono (fun b _ q => .inl q))
  have z5 := hc.size
  have hl5 := World.ownsRow.lt ho5
  obtain ⟨hI, hcI⟩ := h1.newL (S' := fun b => (S b ∨ v1.ownBlock = some b) ∨ v5.ownBlock = some b) hc ho5 (by
      rcases hv5 with q | q
      · exact .inl q
      · refine .inr (fun b e => ?_)
        rw [q] at e
        have e := Option.some.inj e
        omega) (fun q hq => by
      rcases List.mem_append.1 hq with m | m
      · exact ⟨h1.data q m, fun b e => ⟨.inl (.inl (h1.sd q m b e).1), (h1.lo b (h1.sd q m b e).1).2, (h1.sd q m b e).2⟩⟩
      · rw [List.mem_singleton.1 m]
        refine ⟨ho1.rd, fun b e => ?_⟩
        have e2 := hl1 b e
        have hn : ¬ S b := fun q2 => by have := (h.lo b q2).2; omega
        exact ⟨.inl (.inr e), e2.2, fun q2 => hn (by rw [q2]; exact h.sy), fun q2 => hn (h.sl b q2).1, fun q2 => hn (h.so b q2).1⟩) (fun b q => .inl (.inl q)) (fun b q => .inr q) (fun b q => by
      rcases q with (q | q) | q
      · have := h1.lo b q; omega
      · have := hl1 b q; omega
      · exact hl5 b q)
  obtain ⟨hJ, hcJ⟩ := hI.newN N1
  refine ⟨⟨_, ⟨_, _, _, rfl, hJ⟩, fun b q => ?_⟩, ?_⟩
  · rcases q with (q | q) | q
    · exact .inl q
    · exact .inr (hl1 b q).1
    · rcases hv5 with q2 | q2
      · exact .inl (h.sl b (by rw [← q2]; exact q)).1
      · rw [q2] at q
        have e := Option.some.inj q
        exact .inr (by omega)
  · have c1 : Chg S w w1 := (Chg.of_below hb1).mono (fun b hb q => by omega)
    have c2 : Chg S w (w5.setCell ⟨y, 2, none⟩ v5) := c1.trans (hcI.mono (fun b _ q => .inl q))
    exact c2.put y 1 _ h.sy

set_option maxHeartbeats 2000000 in
theorem rput_ok (h : Rn B y A nx S M O w) (hf : M.length < 256) (hnx : nx ≤ 1099511627776) (a b : Nat) {v : Value} {l : List UInt8} (hr : Rd w v l) (hl : l.length ≤ 1099511627776) : Calls Try.prog 44 #[.pointer (some ⟨y, 0, none⟩), .int .i64 (a : Int), .int .i64 (b : Int), v] w fun e w' => e = .returned (.tuple #[.int .i64 (nx : Int), .int .i64 0]) ∧ (∃ S', Rn B y A (nx + 1) S' (M ++ [(nx, a, b, l)]) O w' ∧ ∀ b, S' b → S b ∨ w.heap.size ≤ b) ∧ Chg S w w' := by
  obtain ⟨lv, ov, Q, rfl, h⟩ := h
  obtain ⟨c0, c1, c2, c3, cz⟩ := h.cells
  have z1 := cz 1
  have z2 := cz 2
  obtain ⟨ad, c, hlv, h1, h2, h3, h4⟩ := h.shape
  unfold maxLen at h2
  rw [List.length_map] at hf
  have hd : decide ((256 : Int) ≤ (Q.length : Int)) = false := decide_eq_false (by omega)
  obtain ⟨N1, hN1⟩ : ∃ N1, nx + 1 = N1 := ⟨_, rfl⟩
  rw [hN1]
  have hls : (nx : Int) + 1 = (N1 : Int) := by omega
  have hls2 : (N1 : Int) - 1 = (nx : Int) := by omega
  have hrg : (nx : Int) ≤ 9223372036854775806 := by omega
  have hrg2 : (0 : Int) ≤ (N1 : Int) ∧ (N1 : Int) ≤ 9223372036854775807 := by omega
  clear hN1
  have hyl : y < w.heap.size := (h.lo y h.sy).2
  have hBw : B ≤ w.heap.size := by have := (h.lo y h.sy).1; omega
  have hny : some y ≠ lv.ownBlock := fun e => (h.sl y e.symm).2.1 rfl
  have hrow := fun W (hb : Below w.heap.size w W) => (h.below hb).row
  have hlen : ∀ u : Value, Q.length + [((nx, a, b, l), u)].length ≤ 1099511627776 := fun u => by simp; omega
  have H : Hid _ := h
  clear h h4 h3
  subst hlv
  go_enter Try.func44, Try.ntmps44
  go_wp2_with fail
  go_region_law
    ((first
    | (rw [if_pos (by rfl)]; go_simp; go_at_call 52; refine (nrcopy_any (hr.drewN _) (by omega)).mono ?_; rintro e w1 ⟨v1, rfl, ho1, hb1⟩; have hB1 : Below w.heap.size w w1 := Below.tr (below_drewN (Below.refl w.heap.size w) _) hb1; have k1 := (hB1.cell hyl).trans c1; have k2 := (hB1.cell hyl).trans c2; have hs1 := hB1.size; have hy1 : y ≠ w1.heap.size := (by omega); obtain ⟨a1, n1, cc1, rfl⟩ := rowP_shape ho1; have k2a : (w1.alloc (.cells #[.int .i64 (nx : Int), .int .i64 (a : Int), .int .i64 (b : Int), .slice a1 n1 cc1] 46)).cell? ⟨y, 2, none⟩ = some (.slice ad Q.length c) := (by rw [World.cell?_of_block (w := w1) (Below.heap_alloc w1 _ _ (by show y < w1.heap.size; omega))]; exact k2))
    | (refine step_appP rfl _ _ rfl B (.slice ad Q.length c) Q rfl (World.ownsRow.alloc (hrow w1 hB1) _) _ [((nx, a, b, l), .slice a1 n1 cc1)] rfl (rdP_one w1 ((nx, a, b, l), .slice a1 n1 cc1) ⟨_, _, _, rfl⟩ rfl _) (by simp; omega) (hlen _) ?_; intro v5 w5 ho5 hg5 hv5; have q5 : w5.heap[y]? = w1.heap[y]? := (hg5.block y (by simp; omega) hny).trans (Below.heap_alloc w1 _ _ (by omega)); have m1 : w5.cell? ⟨y, 1, none⟩ = some (.int .i64 (nx : Int)) := (World.cell?_of_block q5).trans k1; have m2 : w5.cell? ⟨y, 2, none⟩ = some (.slice ad Q.length c) := (World.cell?_of_block q5).trans k2; have mz1 : w5.frozen? ⟨y, 1, none⟩ = false := ((World.frozen?_of_block q5).trans (World.frozen?_of_block (hB1.block y hyl))).trans z1; have mz2 : w5.frozen? ⟨y, 2, none⟩ = false := ((World.frozen?_of_block q5).trans (World.frozen?_of_block (hB1.block y hyl))).trans z2; obtain ⟨a5, n5, c5, rfl⟩ := rowP_shape ho5)
    | fail))
  all_goals go_wp2_with fail
  all_goals go_ret2
  all_goals
    obtain ⟨⟨S', hS1, hS2⟩, hS3⟩ := H.out.put hB1 (p := (nx, a, b, l)) ho1 ho5 hg5 hv5 N1
    exact ⟨rfl, ⟨S', by simpa using hS1, hS2⟩, hS3⟩

theorem rsend_no (h : Rn B y A nx S M O w) (a b : Int) (v : Value) (hab : (isAct A a && isAct A b) = false) : Calls Try.prog 25 #[.pointer (some ⟨y, 0, none⟩), .int .i64 a, .int .i64 b, v] w fun e w' => e = .returned (.tuple #[.int .i64 0, .int .i64 1]) ∧ w' = w := by
  have h1 := ractor_any h a
  have h2 := ractor_any h b
  generalize isAct A a = p at *
  generalize isAct A b = q at *
  cases p with
  | false =>
    go_enter Try.func25, Try.ntmps25
    go_wp2_with fail
    refine h1.mono ?_
    rintro e w1 ⟨rfl, rfl⟩
    go_wp2_with fail
    go_ret2
    exact ⟨rfl, rfl⟩
  | true =>
    cases q with
    | true => cases hab
    | false =>
      go_enter Try.func25, Try.ntmps25
      go_wp2_with fail
      refine h1.mono ?_
      rintro e w1 ⟨rfl, rfl⟩
      go_wp2_with fail
      refine h2.mono ?_
      rintro e w2 ⟨rfl, rfl⟩
      go_wp2_with fail
      go_ret2
      exact ⟨rfl, rfl⟩
theorem rsend_put (h : Rn B y A nx S M O w) (a b : Int) (v : Value) (hab : (isAct A a && isAct A b) = true) {i j : Int} {P : World → Prop} (hp : Calls Try.prog 44 #[.pointer (some ⟨y, 0, none⟩), .int .i64 a, .int .i64 b, v] w fun e w' => e = .returned (.tuple #[.int .i64 i, .int .i64 j]) ∧ P w') : Calls Try.prog 25 #[.pointer (some ⟨y, 0, none⟩), .int .i64 a, .int .i64 b, v] w fun e w' => e = .returned (.tuple #[.int .i64 i, .int .i64 j]) ∧ P w' := by
  have h1 := ractor_any h a
  have h2 := ractor_any h b
  rw [Bool.and_eq_true] at hab
  rw [hab.1] at h1
  rw [hab.2] at h2
  go_enter Try.func25, Try.ntmps25
  go_wp2_with fail
  refine h1.mono ?_
  rintro e w1 ⟨rfl, rfl⟩
  go_wp2_with fail
  refine h2.mono ?_
  rintro e w2 ⟨rfl, rfl⟩
  go_wp2_with fail
  refine hp.mono ?_
  rintro e w3 ⟨rfl, h3⟩
  go_wp2_with fail
  go_ret2
  exact ⟨rfl, h3⟩
theorem rcopy_no (h : Rn B y A nx S M O w) (hU : Rise M) (id : Int) (hno : isN M id = false) : Calls Try.prog 30 #[.pointer (some ⟨y, 0, none⟩), .int .i64 id] w fun e w' => e = .returned (.tuple #[.int .i64 0, .int .i64 30]) ∧ w' = w := by
  have h1 := nfind_any h hU id
  unfold fN at h1
  rw [hno, if_neg (by simp)] at h1
  go_enter Try.func30, Try.ntmps30
  go_wp2_with fail
  refine h1.mono ?_
  rintro e w1 ⟨rfl, rfl⟩
  go_wp2_with fail
  go_ret2
  exact ⟨rfl, rfl⟩
end
end Go.Proofs.Ytpieehbikmmifaa

/- The document's net: Copy. -/
namespace Go.Proofs.Ytpieehbikmmifaa
open Go.RowKit
set_option linter.unusedVariables false
set_option maxRecDepth 100000

section
variable {B y A nx : Nat} {S : Nat → Prop} {M : List Pk} {O : List Of} {w w' : World}
set_option maxHeartbeats 2000000 in
theorem rcopy_put (h : Rn B y A nx S M O w) (hU : Rise M) (id : Int) (hno : isN M id = true) {p : Pk} (hp : M[plN M id]? = some p) {i j : Int} {P : World → Prop} (hput : ∀ W v, Below w.heap.size w W → Rd W v p.2.2.2 → Calls Try.prog 44 #[.pointer (some ⟨y, 0, none⟩), .int .i64 (p.2.1 : Int), .int .i64 (p.2.2.1 : Int), v] W fun e w' => e = .returned (.tuple #[.int .i64 i, .int .i64 j]) ∧ P w') : Calls Try.prog 30 #[.pointer (some ⟨y, 0, none⟩), .int .i64 id] w fun e w' => e = .returned (.tuple #[.int .i64 i, .int .i64 j]) ∧ P w' := by
  have h1 := nfind_any h hU id
  unfold fN at h1
  rw [hno, if_pos rfl] at h1
  obtain ⟨lv, ov, Q, rfl, h⟩ := h
  generalize plN (Q.map (·.1)) id = k at *
  rw [List.getElem?_map] at hp
  obtain ⟨⟨⟨id0, fr, to_, da⟩, dv⟩, hy, rfl⟩ := Option.map_eq_some_iff.1 hp
  have hkl := (List.getElem?_eq_some_iff.1 hy).1
  obtain ⟨c0, c1, c2, c3, cz⟩ := h.cells
  obtain ⟨a, c, rfl, e1, e2, e3, e4⟩ := h.shape
  obtain ⟨g, rfl, g0, g1, g2, g3⟩ := e4 k _ hy
  have hd := h.data _ (List.mem_of_getElem? hy)
  simp only [] at hd g0 g1 g2 g3 hput
  unfold maxLen at e2
  have hlt0 : decide ((k : Int) < 0) = false := decide_eq_false (by omega)
  have hk2 : (k : Int) < (Q.length : Int) := by omega
  clear h e4 hp hy cz
  have hd' := hd
  obtain ⟨ad, cd, rfl, _⟩ := hd'
  go_enter Try.func30, Try.ntmps30
  go_wp2_with fail
  refine h1.mono ?_
  rintro e w1 ⟨rfl, rfl⟩
  go_wp2_with fail
  refine wp_region_head 25 (by kernel_rfl) (by kernel_rfl) ?_
  simp only [List.take_succ_cons, List.take_zero]
  repeat still_step
  refine wpStill_nil ?_
  change wpAny _ _ _ _ (4 + 1) _ _ _
  refine wpAny_ready (rs := [25]) (by kernel_rfl) (by simp) ?_
  refine AllReady.cons rfl (fun K hK => ?_) AllReady.nil
  go_simp
  refine (hput _ _ (below_drewN (Below.refl w1.heap.size w1) 1) (hd.drewN 1)).mono ?_
  rintro e w3 ⟨rfl, h3⟩
  refine hK _ _ ?_
  clear hK K
  refine wpAny_take (i := 26) (v := .int .i64 i) rfl (by kernel_rfl) (by kernel_rfl) (by kernel_rfl) (fun _ _ _ h => h) (.inl ⟨rfl, fun w => rfl⟩) ?_
  refine wpAny_take (i := 27) (v := .int .i64 j) rfl (by kernel_rfl) (by kernel_rfl) (by kernel_rfl) (fun _ _ _ h => h) (.inl ⟨rfl, fun w => rfl⟩) ?_
  refine wpAny_take (i := 28) (v := .int .i64 i) rfl (by kernel_rfl) (by kernel_rfl) (by kernel_rfl) (fun _ _ _ h => h) (.inl ⟨rfl, fun w => rfl⟩) ?_
  refine wpAny_take (i := 29) (v := .int .i64 j) rfl (by kernel_rfl) (by kernel_rfl) (by kernel_rfl) (fun _ _ _ h => h) (.inl ⟨rfl, fun w => rfl⟩) ?_
  refine wpAny_done (by kernel_rfl) ?_ _
  go_simp
  go_wp2_with fail
  go_ret2
  exact ⟨rfl, h3⟩
end
end Go.Proofs.Ytpieehbikmmifaa

/- The document's net: a message goes. -/
namespace Go.Proofs.Ytpieehbikmmifaa
open Go.RowKit
set_option linter.unusedVariables false
set_option maxRecDepth 100000

theorem nrow_low {w : World} {B B' : Nat} {e : TypeId} {size n : Nat} {v : Value} {xs : List Value} (h : w.ownsRow B' e size v n xs) (hB : B ≤ B') : w.ownsRow B e size v n xs := by
  refine ⟨h.1, ?_⟩
  rcases h.2 with q | ⟨g, cap, cur, q, hb, rest⟩
  · exact .inl q
  · exact .inr ⟨g, cap, cur, q, Nat.le_trans hB hb, rest⟩

section
variable {B y A nx : Nat} {lv ov : Value} {Q : List (Pk × Value)} {S : Nat → Prop} {M : List Pk} {O : List Of} {w w' : World}

theorem RnI.slices (h : RnI B y A nx lv ov Q O S w) : ∀ x ∈ Q, ∃ b m k, x.2 = .slice b m k := fun x hx => by
  obtain ⟨ao, c, e, _⟩ := h.data x hx
  exact ⟨_, _, _, e⟩
theorem RnI.pre {a : Option Addr} {n c : Nat} (h : RnI B y A nx (.slice a n c) ov Q O S w) (k : Nat) (hk : k ≤ Q.length) : RdP w (.slice a k c) (Q.take k) := by
  rcases h.row.2 with ⟨q, q0⟩ | ⟨g, cap, cur, q, hB, hg, q1, q2, q3, q4⟩
  · simp only [Value.slice.injEq] at q
    obtain ⟨rfl, rfl, rfl⟩ := q
    have hP : Q = [] := List.length_eq_zero_iff.1 q0
    subst hP
    obtain rfl : k = 0 := by simpa using hk
    exact ⟨none, 0, rfl, fun _ => ⟨rfl, rfl⟩, by simp, by simp [pkCs]⟩
  · simp only [Value.slice.injEq] at q
    obtain ⟨rfl, rfl, rfl⟩ := q
    refine ⟨some ⟨g, 0, none⟩, c, by rw [List.length_take, Nat.min_eq_left hk], (fun e => by cases e), fun x hx => h.slices x (List.mem_of_mem_take hx), fun j u hu => ⟨_, rfl, ?_⟩⟩
    rw [← pkCs_take, List.getElem?_take] at hu
    split at hu
    · exact h.row.cells (g := g) rfl j u hu
    · cases hu
theorem RnI.post {g n c : Nat} (h : RnI B y A nx (.slice (some ⟨g, 0, none⟩) n c) ov Q O S w) (k : Nat) (hk : k ≤ Q.length) : RdP w (.slice (some ⟨g, k * 4, none⟩) (Q.length - k) (c - k)) (Q.drop k) := by
  refine ⟨some ⟨g, k * 4, none⟩, c - k, by rw [List.length_drop], (fun e => by cases e), fun x hx => h.slices x (List.mem_of_mem_drop hx), fun j u hu => ⟨_, rfl, ?_⟩⟩
  rw [← pkCs_drop, List.getElem?_drop] at hu
  have := h.row.cells (g := g) rfl _ u hu
  rw [Addr.add_lit] at this ⊢
  simpa using this
theorem RdP.end0 (w : World) (a : Option Addr) (c : Nat) (h : a = none → c = 0) : RdP w (.slice a 0 c) [] := ⟨a, c, rfl, fun e => ⟨h e, rfl⟩, by simp, by simp [pkCs]⟩
theorem RdP.keptC {T : Nat → Prop} {v : Value} {P : List (Pk × Value)} (h : RdP w v P) (hg : Chg T w w') (hne : ∀ b, v.ownBlock = some b → ¬ T b) : RdP w' v P := by
  obtain ⟨ao, c, rfl, h1, h2, h3⟩ := h
  refine ⟨ao, c, rfl, h1, h2, fun j u hu => ?_⟩
  obtain ⟨a, rfl, hc⟩ := h3 j u hu
  have hlt := World.block_lt_of_cell? w _ hc
  rw [add_block] at hlt
  refine ⟨a, rfl, ?_⟩
  rw [World.cell?_of_block (w := w) (by rw [add_block]; exact hg.block a.block hlt (hne a.block rfl))]
  exact hc
theorem takeMid {w w1 : World} {v1 : Value} {P R : List (Pk × Value)} {g : Nat} {o n c : Nat} (ho1 : w1.ownsRow w.heap.size 46 4 v1 P.length (pkCs P)) (hg1 : w.grownBy w1 (Value.slice none 0 0).ownBlock) (hgl : g < w.heap.size) (hp : RdP w (.slice (some ⟨g, o, none⟩) n c) R) :
    Chg (fun b => w.heap.size ≤ b) w w1 ∧ (∀ b, v1.ownBlock = some b → w.heap.size ≤ b ∧ b < w1.heap.size) ∧ w.heap.size ≤ w1.heap.size ∧ (∀ r, r < w.heap.size → some r ≠ v1.ownBlock) ∧ RdP w1 (.slice (some ⟨g, o, none⟩) n c) R ∧ ∀ b, b < w.heap.size → w1.heap[b]? = w.heap[b]? := by
  have hc1 : Chg (fun b => w.heap.size ≤ b) w w1 := Chg.of_grown hg1 (fun b e _ => by cases e)
  refine ⟨hc1, World.ownsRow.lt ho1, hg1.size, fun r hr e => ?_, hp.keptC hc1 (fun b hb q => ?_), fun b hb => hc1.block b hb (by omega)⟩
  · have := (World.ownsRow.lt ho1 r e.symm).1; omega
  · have e : g = b := Option.some.inj hb
    omega
/-- The net with a message less, its list in a new row. -/
theorem RnI.less (h : RnI B y A nx lv ov Q O S w) {w0 w2 : World} (hb0 : Below w.heap.size w w0) (hc : Chg (fun b => w0.heap.size ≤ b) w0 w2) {v2 : Value} (k : Nat) (hrow : w2.ownsRow w0.heap.size 46 4 v2 (Q.take k ++ Q.drop (k + 1)).length (pkCs (Q.take k ++ Q.drop (k + 1)))) :
    (∃ S', Rn B y A nx S' (dropM (Q.map (·.1)) k) O (w2.setCell ⟨y, 2, none⟩ v2) ∧ ∀ b, S' b → S b ∨ w0.heap.size ≤ b) ∧ Chg S w (w2.setCell ⟨y, 2, none⟩ v2) := by
  have h0 := h.below hb0
  have hlt := World.ownsRow.lt hrow
  have z0 := hb0.size
  have z2 := hc.size
  have hB : B ≤ w0.heap.size := by have := h0.lo y h0.sy; omega
  obtain ⟨hI, hcI⟩ := h0.newL (S' := fun b => S b ∨ v2.ownBlock = some b) (hc.mono (fun b hb q => by omega)) (nrow_low hrow hB) (.inr (fun b e => (hlt b e).1)) (fun p hp => by
      have hm : p ∈ Q := by
        rcases List.mem_append.1 hp with q | q
        · exact List.mem_of_mem_take q
        · exact List.mem_of_mem_drop q
      exact ⟨h0.data p hm, fun b e => ⟨.inl (h0.sd p hm b e).1, (h0.lo b (h0.sd p hm b e).1).2, (h0.sd p hm b e).2⟩⟩) (fun b q => .inl q) (fun b q => .inr q) (fun b q => by
      rcases q with q | q
      · have := h0.lo b q; omega
      · have := hlt b q; omega)
  refine ⟨⟨_, ⟨_, _, _, by simp [dropM, List.map_take, List.map_drop], hI⟩, fun b q => ?_⟩, ?_⟩
  · rcases q with q | q
    · exact .inl q
    · exact .inr (hlt b q).1
  · exact ((Chg.of_below hb0).mono (fun b hb q => by omega)).trans (hcI.mono (fun b _ q => .inl q))

theorem RnI.took (h : RnI B y A nx lv ov Q O S w) {w0 w2 wf : World} (hb0 : Below w.heap.size w w0) (hc : Chg (fun b => w0.heap.size ≤ b) w0 w2) {v2 : Value} (k : Nat) (hrow : w2.ownsRow w0.heap.size 46 4 v2 (Q.take k ++ Q.drop (k + 1)).length (pkCs (Q.take k ++ Q.drop (k + 1)))) (hz : w.heap.size < w0.heap.size) (hf : Chg (fun b => b = w.heap.size) (w2.setCell ⟨y, 2, none⟩ v2) wf) {p : Pk} {dv : Value} (hy : Q[k]? = some (p, dv)) :
    Rd wf dv p.2.2.2 ∧ (∃ S', Rn B y A nx S' (dropM (Q.map (·.1)) k) O wf ∧ ∀ b, S' b → S b ∨ w.heap.size ≤ b) ∧ Chg S w wf := by
  obtain ⟨⟨S', hS1, hS2⟩, hS3⟩ := h.less hb0 hc k hrow
  have hm := List.mem_of_getElem? hy
  have hsd := h.sd _ hm
  have hyl := (h.lo y h.sy).2
  have hall1 : Chg (fun b => b = y ∨ w.heap.size ≤ b) w w2 := ((Chg.of_below hb0).mono (fun b _ q => Or.inr q)).trans (hc.mono (fun b hb q => .inr (by omega)))
  have hall2 : Chg (fun b => b = y ∨ w.heap.size ≤ b) w (w2.setCell ⟨y, 2, none⟩ v2) := hall1.put y 2 _ (.inl rfl)
  have hall : Chg (fun b => b = y ∨ w.heap.size ≤ b) w wf := hall2.trans (hf.mono (fun b _ q => .inr (by omega)))
  refine ⟨(h.data _ hm).keptC hall (fun b e q => ?_), ⟨S', hS1.next hf (fun b q e => ?_), fun b q => ?_⟩, hS3.trans (hf.mono (fun b _ q => .inr (by omega)))⟩
  · have := hsd b e
    have := (h.lo b this.1).2
    rcases q with q | q
    · exact (hsd b e).2.1 q
    · omega
  · rcases hS2 b q with q | q
    · have := (h.lo b q).2; omega
    · omega
  · rcases hS2 b q with q | q
    · exact .inl q
    · exact .inr (by omega)

set_option maxHeartbeats 2000000 in
theorem rtakeN_any (h : Rn B y A nx S M O w) (k : Nat) {p : Pk} (hp : M[k]? = some p) (hl : M.length ≤ 1048576) : Calls Try.prog 46 #[.pointer (some ⟨y, 0, none⟩), .int .i64 (k : Int)] w fun e w' => ∃ dv, e = .returned (.agg #[.int .i64 (p.1 : Int), .int .i64 (p.2.1 : Int), .int .i64 (p.2.2.1 : Int), dv]) ∧ (∀ b, dv.ownBlock = some b → S b) ∧ Rd w' dv p.2.2.2 ∧ (∃ S', Rn B y A nx S' (dropM M k) O w' ∧ ∀ b, S' b → S b ∨ w.heap.size ≤ b) ∧ Chg S w w' := by
  obtain ⟨lv, ov, Q, rfl, h⟩ := h
  rw [List.length_map] at hl
  rw [List.getElem?_map] at hp
  obtain ⟨⟨⟨id0, fr, to_, da⟩, dv⟩, hy, rfl⟩ := Option.map_eq_some_iff.1 hp
  have hkl := (List.getElem?_eq_some_iff.1 hy).1
  obtain ⟨a, c, rfl, h1, h2, h3, h4⟩ := h.shape
  obtain ⟨g, rfl, g0, g1, g2, g3⟩ := h4 k _ hy
  have hd := h.data _ (List.mem_of_getElem? hy)
  simp only [] at hd g0 g1 g2 g3
  obtain ⟨ad, cd, rfl, _⟩ := hd
  have HSD : Hid (∀ b, (Value.slice ad da.length cd).ownBlock = some b → S b) := fun b e => (h.sd _ (List.mem_of_getElem? hy) b e).1
  have hyl : y < w.heap.size := (h.lo y h.sy).2
  have hgl : g < w.heap.size := (h.lo g (h.sl g rfl).1).2
  have hy0 : y ≠ w.heap.size := by omega
  have hg0 : g ≠ w.heap.size := by omega
  have hal := (Below.al w (.cells #[.int .i64 0, .int .i64 0, .int .i64 0, .slice none 0 0] 46))
  have hal2 := Below.tr hal (Below.al (w.alloc (.cells #[.int .i64 0, .int .i64 0, .int .i64 0, .slice none 0 0] 46)) (.cells #[.int .i64 (id0 : Int), .int .i64 (fr : Int), .int .i64 (to_ : Int), .slice ad da.length cd] 46))
  obtain ⟨c0, c1, c2, c3, cz⟩ := h.cells
  have k2 := (hal2.cell hyl).trans c2
  have kz2 := (World.frozen?_of_block (hal2.block y hyl)).trans (cz 2)
  have hR := (Below.heap_alloc (w.alloc (.cells #[.int .i64 0, .int .i64 0, .int .i64 0, .slice none 0 0] 46)) (.cells #[.int .i64 (id0 : Int), .int .i64 (fr : Int), .int .i64 (to_ : Int), .slice ad da.length cd] 46) w.heap.size (by simp)).trans (block_new w _)
  have hV := block_new (w.alloc (.cells #[.int .i64 0, .int .i64 0, .int .i64 0, .slice none 0 0] 46)) (.cells #[.int .i64 (id0 : Int), .int .i64 (fr : Int), .int .i64 (to_ : Int), .slice ad da.length cd] 46)
  rw [show (w.alloc (.cells #[.int .i64 0, .int .i64 0, .int .i64 0, .slice none 0 0] 46)).heap.size = w.heap.size + 1 by simp] at hV
  have hz2 : ((w.alloc (.cells #[.int .i64 0, .int .i64 0, .int .i64 0, .slice none 0 0] 46)).alloc (.cells #[.int .i64 (id0 : Int), .int .i64 (fr : Int), .int .i64 (to_ : Int), .slice ad da.length cd] 46)).heap.size = w.heap.size + 2 := by simp
  have h2w := h.below hal2
  unfold maxLen at h2
  clear h3 h4 cz c0 c1 c3 hal
  go_enter Try.func46, Try.ntmps46
  go_upto_region 2 with fail
  generalize (w.alloc (.cells #[.int .i64 0, .int .i64 0, .int .i64 0, .slice none 0 0] 46)).alloc (.cells #[.int .i64 (id0 : Int), .int .i64 (fr : Int), .int .i64 (to_ : Int), .slice ad da.length cd] 46) = w2 at *
  clear g0 g1 g2 g3 c2
  have hpre := h2w.pre k (by omega)
  have hpost := h2w.post (k + 1) (by omega)
  have HT : Hid _ := fun {w4 wf : World} {v4 : Value} (hc : Chg (fun b => w2.heap.size ≤ b) w2 w4) (hrow : w4.ownsRow w2.heap.size 46 4 v4 (Q.take k ++ Q.drop (k + 1)).length (pkCs (Q.take k ++ Q.drop (k + 1)))) (hf : Chg (fun b => b = w.heap.size) (w4.setCell ⟨y, 2, none⟩ v4) wf) => h.took hal2 hc k hrow (by omega) hf hy
  have hy2 : y < w2.heap.size := by omega
  have hg2 : g < w2.heap.size := by omega
  have hyR : w.heap.size ≠ y := by omega
  have hyV : w.heap.size + 1 ≠ y := by omega
  have hl1 : ([] : List (Pk × Value)).length + (Q.take k).length ≤ 1099511627776 := by rw [List.length_take]; simp; omega
  have hl2 : (Q.take k).length + (Q.drop (k + 1)).length ≤ 1099511627776 := by rw [List.length_take, List.length_drop]; omega
  clear h h2w hy hp hal2
  generalize hRR : w.heap.size = R at *
  have HR : Hid _ := hRR
  clear hRR
  have fin : ∀ (w4 : World) (v4 : Value), Chg (fun b => w2.heap.size ≤ b) w2 w4 → w4.heap[R]? = some (.cells #[.int .i64 0, .int .i64 0, .int .i64 0, .slice none 0 0] 46 (0, 0)) ∧ w4.heap[R + 1]? = some (.cells #[.int .i64 (id0 : Int), .int .i64 (fr : Int), .int .i64 (to_ : Int), .slice ad da.length cd] 46 (0, 0)) := fun w4 v4 hc => ⟨(hc.block R (by omega) (by omega)).trans hR, (hc.block (R + 1) (by omega) (by omega)).trans hV⟩
  by_cases hck : c = k + 1
  · subst hck
    have hp : RdP w2 (.slice (some ⟨g, 0, none⟩) 0 0) (Q.drop (k + 1)) := by rw [List.drop_of_length_le (by omega)]; exact RdP.end0 _ _ _ (fun e => by cases e)
    clear hpost
    go_wp2_with (first
      | (at_builtin; refine wpList_appP rfl _ _ rfl w2.heap.size (.slice none 0 0) [] rfl (World.ownsRow_nil _ _ _ _) _ (Q.take k) rfl hpre (Nat.le_refl _) hl1 ?_; intro v3 w3 ho3 hg3 hv3; have c03 := hg3.cell k2 (fun e => by cases e); obtain ⟨hc3, hlt3, hs3, hr3, hp3, hbk3⟩ := takeMid ho3 hg3 hg2 hp)
      | (at_builtin; (refine wpList_appP rfl _ _ rfl w2.heap.size v3 (Q.take k) rfl ho3 _ (Q.drop (k + 1)) rfl hp3 hs3 hl2 ?_; intro v4 w4 ho4 hg4 hv4; obtain ⟨av4, nv4, cv4, rfl⟩ := rowP_shape ho4; have c04 := hg4.cell c03 (hr3 y hy2); have z04 : w4.frozen? ⟨y, 2, none⟩ = false := (by rw [World.frozen?_of_block (hg4.block y (by omega) (hr3 y hy2)), World.frozen?_of_block (hbk3 y hy2)]; exact kz2); have hc4 : Chg (fun b => w2.heap.size ≤ b) w2 w4 := hc3.trans ((Chg.of_grown (S := fun b => w2.heap.size ≤ b) hg4 (fun b e _ => (hlt3 b e).1)).mono (fun b _ q => .inl q)); obtain ⟨hR4, hV4⟩ := fin w4 (.slice av4 nv4 cv4) hc4; obtain ⟨r0, r1, r2, r3⟩ := cells4 hR4; obtain ⟨s0, s1, s2, s3⟩ := cells4 hV4; have rz0 : w4.frozen? ⟨R, 0, none⟩ = false := frozen_of_row _ _ _ _ _ hR4; have rz1 : w4.frozen? ⟨R, 1, none⟩ = false := frozen_of_row _ _ _ _ _ hR4; have rz2 : w4.frozen? ⟨R, 2, none⟩ = false := frozen_of_row _ _ _ _ _ hR4; have rz3 : w4.frozen? ⟨R, 3, none⟩ = false := frozen_of_row _ _ _ _ _ hR4))
      | fail)
    have hR5 : (w4.setCell ⟨y, 2, none⟩ (.slice av4 nv4 cv4)).heap[R]? = some (.cells #[.int .i64 0, .int .i64 0, .int .i64 0, .slice none 0 0] 46 (0, 0)) := (heap_setCell_other w4 ⟨y, 2, none⟩ R _ (by exact hyR)).trans hR4
    have hS := set4_block hR5 (.int .i64 (id0 : Int)) (.int .i64 (fr : Int)) (.int .i64 (to_ : Int)) (.slice ad da.length cd)
    have hF := HT.out hc4 ho4 (set4_chg (w4.setCell ⟨y, 2, none⟩ (.slice av4 nv4 cv4)) R (.int .i64 (id0 : Int)) (.int .i64 (fr : Int)) (.int .i64 (to_ : Int)) (.slice ad da.length cd))
    generalize ((((w4.setCell ⟨y, 2, none⟩ (.slice av4 nv4 cv4)).setCell ⟨R, 0, none⟩ (.int .i64 (id0 : Int))).setCell ⟨R, 1, none⟩ (.int .i64 (fr : Int))).setCell ⟨R, 2, none⟩ (.int .i64 (to_ : Int))).setCell ⟨R, 3, none⟩ (.slice ad da.length cd) = wz at *
    obtain ⟨x0, x1, x2, x3⟩ := cells4 hS
    refine bodyPost_ret (v := .agg #[.int .i64 (id0 : Int), .int .i64 (fr : Int), .int .i64 (to_ : Int), .slice ad da.length cd]) (by simp [results, Try.results46, go_sem, x0, x1, x2, x3]; try rfl) rfl ?_
    rw [HR.out]
    exact ⟨_, rfl, HSD.out, hF⟩
  · have hp := hpost
    clear hpost
    go_wp2_with (first
      | (at_builtin; refine wpList_appP rfl _ _ rfl w2.heap.size (.slice none 0 0) [] rfl (World.ownsRow_nil _ _ _ _) _ (Q.take k) rfl hpre (Nat.le_refl _) hl1 ?_; intro v3 w3 ho3 hg3 hv3; have c03 := hg3.cell k2 (fun e => by cases e); obtain ⟨hc3, hlt3, hs3, hr3, hp3, hbk3⟩ := takeMid ho3 hg3 hg2 hp)
      | (at_builtin; (refine wpList_appP rfl _ _ rfl w2.heap.size v3 (Q.take k) rfl ho3 _ (Q.drop (k + 1)) rfl hp3 hs3 hl2 ?_; intro v4 w4 ho4 hg4 hv4; obtain ⟨av4, nv4, cv4, rfl⟩ := rowP_shape ho4; have c04 := hg4.cell c03 (hr3 y hy2); have z04 : w4.frozen? ⟨y, 2, none⟩ = false := (by rw [World.frozen?_of_block (hg4.block y (by omega) (hr3 y hy2)), World.frozen?_of_block (hbk3 y hy2)]; exact kz2); have hc4 : Chg (fun b => w2.heap.size ≤ b) w2 w4 := hc3.trans ((Chg.of_grown (S := fun b => w2.heap.size ≤ b) hg4 (fun b e _ => (hlt3 b e).1)).mono (fun b _ q => .inl q)); obtain ⟨hR4, hV4⟩ := fin w4 (.slice av4 nv4 cv4) hc4; obtain ⟨r0, r1, r2, r3⟩ := cells4 hR4; obtain ⟨s0, s1, s2, s3⟩ := cells4 hV4; have rz0 : w4.frozen? ⟨R, 0, none⟩ = false := frozen_of_row _ _ _ _ _ hR4; have rz1 : w4.frozen? ⟨R, 1, none⟩ = false := frozen_of_row _ _ _ _ _ hR4; have rz2 : w4.frozen? ⟨R, 2, none⟩ = false := frozen_of_row _ _ _ _ _ hR4; have rz3 : w4.frozen? ⟨R, 3, none⟩ = false := frozen_of_row _ _ _ _ _ hR4))
      | fail)
    have hR5 : (w4.setCell ⟨y, 2, none⟩ (.slice av4 nv4 cv4)).heap[R]? = some (.cells #[.int .i64 0, .int .i64 0, .int .i64 0, .slice none 0 0] 46 (0, 0)) := (heap_setCell_other w4 ⟨y, 2, none⟩ R _ (by exact hyR)).trans hR4
    have hS := set4_block hR5 (.int .i64 (id0 : Int)) (.int .i64 (fr : Int)) (.int .i64 (to_ : Int)) (.slice ad da.length cd)
    have hF := HT.out hc4 ho4 (set4_chg (w4.setCell ⟨y, 2, none⟩ (.slice av4 nv4 cv4)) R (.int .i64 (id0 : Int)) (.int .i64 (fr : Int)) (.int .i64 (to_ : Int)) (.slice ad da.length cd))
    generalize ((((w4.setCell ⟨y, 2, none⟩ (.slice av4 nv4 cv4)).setCell ⟨R, 0, none⟩ (.int .i64 (id0 : Int))).setCell ⟨R, 1, none⟩ (.int .i64 (fr : Int))).setCell ⟨R, 2, none⟩ (.int .i64 (to_ : Int))).setCell ⟨R, 3, none⟩ (.slice ad da.length cd) = wz at *
    obtain ⟨x0, x1, x2, x3⟩ := cells4 hS
    refine bodyPost_ret (v := .agg #[.int .i64 (id0 : Int), .int .i64 (fr : Int), .int .i64 (to_ : Int), .slice ad da.length cd]) (by simp [results, Try.results46, go_sem, x0, x1, x2, x3]; try rfl) rfl ?_
    rw [HR.out]
    exact ⟨_, rfl, HSD.out, hF⟩
end
end Go.Proofs.Ytpieehbikmmifaa

/- The document's net: Cut, Join, Heal, New. -/
namespace Go.Proofs.Ytpieehbikmmifaa
open Go.RowKit
set_option linter.unusedVariables false
set_option maxRecDepth 100000

theorem Try.infoOf : (Try.prog.info? 56).map (fun i => (i.zero, i.size, i.bytes)) = some (some (.agg #[.int .i64 0, .int .i64 0]), 2, 16) := by kernel_rfl
/-- The slice value v reads as these pairs. -/
def RdO (w : World) (v : Value) (P : List Of) : Prop :=
  ∃ ao c, v = .slice ao P.length c ∧ (ao = none → c = 0 ∧ P = []) ∧ ∀ j u, (ofCs P)[j]? = some u → ∃ a, ao = some a ∧ w.cell? (a.add j) = some u
theorem ofCs_one (P : List Of) : ∀ u ∈ ofCs P, u.oneCell' = true := by
  intro u hu
  obtain ⟨x, hx, hu⟩ := List.mem_flatMap.1 hu
  simp only [ofC, List.mem_cons, List.not_mem_nil, or_false] at hu
  rcases hu with rfl | rfl <;> rfl
theorem rdO_one (w : World) (x : Of) {cs : Array Value} (hcs : cs = (ofC x).toArray) (t : TypeId) : RdO (w.alloc (.cells cs t)) (.slice (some ⟨w.heap.size, 0, none⟩) 1 1) [x] := by
  subst hcs
  refine ⟨some ⟨w.heap.size, 0, none⟩, 1, rfl, (fun e => by cases e), fun j u hu => ⟨_, rfl, ?_⟩⟩
  rw [Addr.add_lit, Nat.zero_add, World.cell?_alloc_at _ _ _ _ rfl]
  simp only [ofCs, List.flatMap_cons, List.flatMap_nil, List.append_nil] at hu
  simpa using hu
theorem run_appO (w : World) (ty : TypeId) (B : Nat) (v : Value) (l : List Of) (hown : w.ownsRow B 56 2 v l.length (ofCs l)) (vx : Value) (m : List Of) (hm : RdO w vx m) (hB : B ≤ w.heap.size) (hlen : l.length + m.length ≤ 1099511627776) :
    ∃ v' w', (Builtin.append_ #[54, 54] ty #[v, vx]).run Try.prog w = .ok v' w' ∧ w'.ownsRow B 56 2 v' (l ++ m).length (ofCs (l ++ m)) ∧ w.grownBy w' v.ownBlock ∧ (v'.ownBlock = v.ownBlock ∨ v'.ownBlock = some w.heap.size) := by
  obtain ⟨i, hi, hz0, hz1, hz2⟩ := info_parts Try.infoOf
  obtain ⟨ao, c, rfl, h0, h3⟩ := hm
  cases ao with
  | none =>
    obtain ⟨rfl, rfl⟩ := h0 rfl
    exact ⟨v, w, run_append_owned_none (P := Try.prog) (w := w) B 54 ty 56 i 2 Try.underlying54 hi v l.length (ofCs l) hown, by simpa using hown, World.grownBy.refl _ _, .inl rfl⟩
  | some ad =>
    obtain ⟨v', w', hr, q2, q3, q4⟩ := run_appW (P := Try.prog) w B 54 ty 56 _ 2 16 Try.underlying54 Try.infoOf rfl (by decide) v l.length (ofCs l) hown ad m.length c (ofCs m) (ofCs_length m) (by
      intro j u hu
      obtain ⟨a', e, hc⟩ := h3 j u hu
      obtain rfl := Option.some.inj e
      exact hc) (ofCs_one m) (by unfold maxLen; omega) (by omega) hB
    exact ⟨v', w', hr, by rw [ofCs_app, List.length_append]; exact q2, q3, q4⟩
theorem wpList_appO {w : World} {ops : Array Oper} {rest : List Oper} {o : Oper} {a : Act} {Q : Exit → Act → World → Prop} (hgd : o.guard = none) (s x : Operand)
    (ho : o.op = .call { callee := .builtin .append, args := #[s, x], argTypes := #[54, 54] })
    (B : Nat) (v : Value) (l : List Of) (hs : a.eval s = v) (hown : w.ownsRow B 56 2 v l.length (ofCs l)) (vx : Value) (m : List Of) (hx : a.eval x = vx) (hm : RdO w vx m) (hB : B ≤ w.heap.size) (hlen : l.length + m.length ≤ 1099511627776)
    (h : ∀ v' w', w'.ownsRow B 56 2 v' (l ++ m).length (ofCs (l ++ m)) → w.grownBy w' v.ownBlock → (v'.ownBlock = v.ownBlock ∨ v'.ownBlock = some w.heap.size) → wpList Try.prog ops Q rest (a.put o.dst v') w') : wpList Try.prog ops Q (o :: rest) a w := by
  refine wpList_plain hgd fun K hK => ?_
  obtain ⟨v', w', hr, q2, q3, q4⟩ := run_appO w o.type B v l hown vx m hm hB hlen
  unfold Oper.wp execOp
  simp only [ho, resolve, invoke, builtin, Sem.run_bind, Sem.run_pure, Result.andThen_ok, List.map_toArray, List.map_cons, List.map_nil, hs, hx, hr]
  exact hK _ _ (h v' w' q2 q3 q4)

def dropO (O : List Of) (k : Nat) : List Of := O.take k ++ O.drop (k + 1)

section
variable {B y A nx : Nat} {lv ov : Value} {Q : List (Pk × Value)} {S : Nat → Prop} {M : List Pk} {O : List Of} {w w' : World}

theorem RnI.preO {a : Option Addr} {n c : Nat} (h : RnI B y A nx lv (.slice a n c) Q O S w) (k : Nat) (hk : k ≤ O.length) : RdO w (.slice a k c) (O.take k) := by
  rcases h.off.2 with ⟨q, q0⟩ | ⟨g, cap, cur, q, hB, hg, q1, q2, q3, q4⟩
  · simp only [Value.slice.injEq] at q
    obtain ⟨rfl, rfl, rfl⟩ := q
    have hP : O = [] := List.length_eq_zero_iff.1 q0
    subst hP
    obtain rfl : k = 0 := by simpa using hk
    exact ⟨none, 0, rfl, fun _ => ⟨rfl, rfl⟩, by simp [ofCs]⟩
  · simp only [Value.slice.injEq] at q
    obtain ⟨rfl, rfl, rfl⟩ := q
    refine ⟨some ⟨g, 0, none⟩, c, by rw [List.length_take, Nat.min_eq_left hk], (fun e => by cases e), fun j u hu => ⟨_, rfl, ?_⟩⟩
    rw [show ofCs (O.take k) = (ofCs O).take (k * 2) from (fm_take ofC_len O k).symm, List.getElem?_take] at hu
    split at hu
    · exact h.off.cells (g := g) rfl j u hu
    · cases hu
theorem RnI.postO {g n c : Nat} (h : RnI B y A nx lv (.slice (some ⟨g, 0, none⟩) n c) Q O S w) (k : Nat) (hk : k ≤ O.length) : RdO w (.slice (some ⟨g, k * 2, none⟩) (O.length - k) (c - k)) (O.drop k) := by
  refine ⟨some ⟨g, k * 2, none⟩, c - k, by rw [List.length_drop], (fun e => by cases e), fun j u hu => ⟨_, rfl, ?_⟩⟩
  rw [show ofCs (O.drop k) = (ofCs O).drop (k * 2) from (fm_drop ofC_len O k).symm, List.getElem?_drop] at hu
  have := h.off.cells (g := g) rfl _ u hu
  rw [Addr.add_lit] at this ⊢
  simpa using this
theorem RdO.end0 (w : World) (a : Option Addr) (c : Nat) (h : a = none → c = 0) : RdO w (.slice a 0 c) [] := ⟨a, c, rfl, fun e => ⟨h e, rfl⟩, by simp [ofCs]⟩
theorem RdO.keptC {T : Nat → Prop} {v : Value} {P : List Of} (h : RdO w v P) (hg : Chg T w w') (hne : ∀ b, v.ownBlock = some b → ¬ T b) : RdO w' v P := by
  obtain ⟨ao, c, rfl, h1, h3⟩ := h
  refine ⟨ao, c, rfl, h1, fun j u hu => ?_⟩
  obtain ⟨a, rfl, hc⟩ := h3 j u hu
  have hlt := World.block_lt_of_cell? w _ hc
  rw [add_block] at hlt
  refine ⟨a, rfl, ?_⟩
  rw [World.cell?_of_block (w := w) (by rw [add_block]; exact hg.block a.block hlt (hne a.block rfl))]
  exact hc
theorem offMid {w w1 : World} {v1 : Value} {P R : List Of} {g : Nat} {o n c : Nat} (ho1 : w1.ownsRow w.heap.size 56 2 v1 P.length (ofCs P)) (hg1 : w.grownBy w1 (Value.slice none 0 0).ownBlock) (hgl : g < w.heap.size) (hp : RdO w (.slice (some ⟨g, o, none⟩) n c) R) :
    Chg (fun b => w.heap.size ≤ b) w w1 ∧ (∀ b, v1.ownBlock = some b → w.heap.size ≤ b ∧ b < w1.heap.size) ∧ w.heap.size ≤ w1.heap.size ∧ (∀ r, r < w.heap.size → some r ≠ v1.ownBlock) ∧ RdO w1 (.slice (some ⟨g, o, none⟩) n c) R ∧ ∀ b, b < w.heap.size → w1.heap[b]? = w.heap[b]? := by
  have hc1 : Chg (fun b => w.heap.size ≤ b) w w1 := Chg.of_grown hg1 (fun b e _ => by cases e)
  refine ⟨hc1, World.ownsRow.lt ho1, hg1.size, fun r hr e => ?_, hp.keptC hc1 (fun b hb q => ?_), fun b hb => hc1.block b hb (by omega)⟩
  · have := (World.ownsRow.lt ho1 r e.symm).1; omega
  · have e : g = b := Option.some.inj hb
    omega
/-- The net with a new list of pairs. -/
theorem RnI.lessO (h : RnI B y A nx lv ov Q O S w) {w2 : World} (hc : Chg (fun b => w.heap.size ≤ b) w w2) {v2 : Value} {O' : List Of} (hrow : w2.ownsRow w.heap.size 56 2 v2 O'.length (ofCs O')) :
    (∃ S', Rn B y A nx S' (Q.map (·.1)) O' (w2.setCell ⟨y, 3, none⟩ v2) ∧ ∀ b, S' b → S b ∨ w.heap.size ≤ b) ∧ Chg S w (w2.setCell ⟨y, 3, none⟩ v2) := by
  have hlt := World.ownsRow.lt hrow
  have z2 := hc.size
  have hB : B ≤ w.heap.size := by have := h.lo y h.sy; omega
  obtain ⟨hI, hcI⟩ := h.newO (S' := fun b => S b ∨ v2.ownBlock = some b) (hc.mono (fun b hb q => by omega)) (nrow_low hrow hB) (.inr (fun b e => (hlt b e).1)) (fun b q => .inl q) (fun b q => .inr q) (fun b q => by
      rcases q with q | q
      · have := h.lo b q; omega
      · have := hlt b q; omega)
  refine ⟨⟨_, ⟨_, _, _, rfl, hI⟩, fun b q => ?_⟩, hcI⟩
  rcases q with q | q
  · exact .inl q
  · exact .inr (hlt b q).1
/-- The net with a pair more. -/
theorem RnI.moreO (h : RnI B y A nx lv ov Q O S w) {w5 : World} {v5 : Value} {O' : List Of} {o : Obj} (ho5 : w5.ownsRow B 56 2 v5 O'.length (ofCs O')) (hg5 : (w.alloc o).grownBy w5 ov.ownBlock) (hv5 : v5.ownBlock = ov.ownBlock ∨ v5.ownBlock = some (w.alloc o).heap.size) :
    (∃ S', Rn B y A nx S' (Q.map (·.1)) O' (w5.setCell ⟨y, 3, none⟩ v5) ∧ ∀ b, S' b → S b ∨ w.heap.size ≤ b) ∧ Chg S w (w5.setCell ⟨y, 3, none⟩ v5) := by
  have za : (w.alloc o).heap.size = w.heap.size + 1 := by simp
  have hc : Chg (fun b => ov.ownBlock = some b) w w5 := ((Chg.refl _ w).alloc o).trans ((Chg.of_grown (S := fun b => ov.ownBlock = some b) hg5 (fun b e _ => e)).mono (fun b _ q => .inl q))
  have z5 := hc.size
  have hl5 := World.ownsRow.lt ho5
  obtain ⟨hI, hcI⟩ := h.newO (S' := fun b => S b ∨ v5.ownBlock = some b) hc ho5 (by
      rcases hv5 with q | q
      · exact .inl q
      · refine .inr (fun b e => ?_)
        rw [q] at e
        have e := Option.some.inj e
        omega) (fun b q => .inl q) (fun b q => .inr q) (fun b q => by
      rcases q with q | q
      · have := h.lo b q; omega
      · exact hl5 b q)
  refine ⟨⟨_, ⟨_, _, _, rfl, hI⟩, fun b q => ?_⟩, hcI⟩
  rcases q with q | q
  · exact .inl q
  · rcases hv5 with q2 | q2
    · exact .inl (h.so b (by rw [← q2]; exact q)).1
    · rw [q2] at q
      have e := Option.some.inj q
      exact .inr (by omega)

theorem rpair_no (h : Rn B y A nx S M O w) (a b : Int) (hO : isO O a b = false) : Calls Try.prog 47 #[.pointer (some ⟨y, 0, none⟩), .int .i64 a, .int .i64 b] w fun e w' => e = .returned (.int .i64 (-1)) ∧ w' = w := by
  have h1 := rpair_any h a b
  unfold fO at h1
  rw [hO, if_neg (by simp)] at h1
  exact h1
theorem rpair_yes (h : Rn B y A nx S M O w) (a b : Int) (hO : isO O a b = true) {k : Nat} (hk : plO O a b = k) : Calls Try.prog 47 #[.pointer (some ⟨y, 0, none⟩), .int .i64 a, .int .i64 b] w fun e w' => e = .returned (.int .i64 (k : Int)) ∧ w' = w := by
  have h1 := rpair_any h a b
  unfold fO at h1
  rw [hO, if_pos rfl, hk] at h1
  exact h1
theorem plO_lt {a b : Int} (h : isO O a b = true) : plO O a b < O.length := by
  unfold isO at h
  obtain ⟨x, hx, e⟩ := List.any_eq_true.1 h
  exact List.findIdx_lt_length_of_exists ⟨x, hx, e⟩

theorem isPr_parts {A : Nat} {a b : Int} (h : isPr A a b = true) : isAct A a = true ∧ isAct A b = true ∧ (a == b) = false := by
  unfold isPr at h
  simp only [Bool.and_eq_true, Bool.not_eq_true'] at h
  exact ⟨h.1.1, h.1.2, h.2⟩

theorem rcut_no (h : Rn B y A nx S M O w) (a b : Int) (hp : isPr A a b = false) : Calls Try.prog 31 #[.pointer (some ⟨y, 0, none⟩), .int .i64 a, .int .i64 b] w fun e w' => e = .returned (.int .i64 1) ∧ w' = w := by
  have h1 := ractor_any h a
  have h2 := ractor_any h b
  unfold isPr at hp
  generalize isAct A a = p at *
  generalize isAct A b = q at *
  cases p with
  | false =>
    go_enter Try.func31, Try.ntmps31
    go_wp2_with fail
    refine h1.mono ?_
    rintro e w1 ⟨rfl, rfl⟩
    go_wp2_with fail
    go_ret
    exact ⟨rfl, rfl⟩
  | true =>
    cases q with
    | false =>
      go_enter Try.func31, Try.ntmps31
      go_wp2_with fail
      refine h1.mono ?_
      rintro e w1 ⟨rfl, rfl⟩
      go_wp2_with fail
      refine h2.mono ?_
      rintro e w2 ⟨rfl, rfl⟩
      go_wp2_with fail
      go_ret
      exact ⟨rfl, rfl⟩
    | true =>
      have e : a = b := by simpa using hp
      subst e
      clear hp
      go_enter Try.func31, Try.ntmps31
      go_wp2_with fail
      refine h1.mono ?_
      rintro e w1 ⟨rfl, rfl⟩
      go_wp2_with fail
      refine h2.mono ?_
      rintro e w2 ⟨rfl, rfl⟩
      go_wp2_with fail
      go_ret
      exact ⟨rfl, rfl⟩
theorem rcut_has (h : Rn B y A nx S M O w) (a b : Int) (hp : isPr A a b = true) (hO : isO O a b = true) : Calls Try.prog 31 #[.pointer (some ⟨y, 0, none⟩), .int .i64 a, .int .i64 b] w fun e w' => e = .returned (.int .i64 0) ∧ w' = w := by
  obtain ⟨p1, p2, p3⟩ := isPr_parts hp
  have h1 := ractor_any h a
  have h2 := ractor_any h b
  rw [p1] at h1
  rw [p2] at h2
  have h3 := rpair_yes h a b hO rfl
  generalize plO O a b = k at *
  have hd0 : decide ((k : Int) < 0) = false := decide_eq_false (by omega)
  go_enter Try.func31, Try.ntmps31
  go_wp2_with fail
  refine h1.mono ?_
  rintro e w1 ⟨rfl, rfl⟩
  go_wp2_with fail
  refine h2.mono ?_
  rintro e w2 ⟨rfl, rfl⟩
  go_wp2_with fail
  refine h3.mono ?_
  rintro e w3 ⟨rfl, rfl⟩
  go_wp2_with fail
  go_ret
  exact ⟨rfl, rfl⟩
set_option maxHeartbeats 1000000 in
theorem rcut_new (h : Rn B y A nx S M O w) (a b : Int) (hp : isPr A a b = true) (hO : isO O a b = false) (hl : O.length ≤ 1048576000) : Calls Try.prog 31 #[.pointer (some ⟨y, 0, none⟩), .int .i64 a, .int .i64 b] w fun e w' => e = .returned (.int .i64 0) ∧ (∃ S', Rn B y A nx S' M (O ++ [(a, b)]) w' ∧ ∀ b, S' b → S b ∨ w.heap.size ≤ b) ∧ Chg S w w' := by
  obtain ⟨p1, p2, p3⟩ := isPr_parts hp
  have h1 := ractor_any h a
  have h2 := ractor_any h b
  rw [p1] at h1
  rw [p2] at h2
  have h3 := rpair_no h a b hO
  obtain ⟨lv, ov, Q, rfl, hI⟩ := h
  obtain ⟨c0, c1, c2, c3, cz⟩ := hI.cells
  have z3 := cz 3
  have hyl : y < w.heap.size := (hI.lo y hI.sy).2
  have hBw : B ≤ w.heap.size := by have := (hI.lo y hI.sy).1; omega
  have hny : some y ≠ ov.ownBlock := fun e => (hI.so y e.symm).2 rfl
  have hyw : y ≠ w.heap.size := by omega
  have hrow := hI.off
  have H : Hid _ := hI
  clear hI cz
  go_enter Try.func31, Try.ntmps31
  go_wp2_with fail
  refine h1.mono ?_
  rintro e w1 ⟨rfl, rfl⟩
  go_wp2_with fail
  refine h2.mono ?_
  rintro e w2 ⟨rfl, rfl⟩
  go_wp2_with fail
  refine h3.mono ?_
  rintro e w3 ⟨rfl, rfl⟩
  go_wp2_with (first
    | (at_builtin; refine wpList_appO rfl _ _ rfl B ov O rfl (World.ownsRow.alloc hrow _) _ [(a, b)] rfl (rdO_one w3 (a, b) rfl _) (by simp; omega) (by simp; omega) ?_; intro v5 w5 ho5 hg5 hv5; have q5 : w5.heap[y]? = w3.heap[y]? := (hg5.block y (by simp; omega) hny).trans (Below.heap_alloc w3 _ _ (by omega)); have m3 : w5.cell? ⟨y, 3, none⟩ = some ov := (World.cell?_of_block q5).trans c3; have mz3 : w5.frozen? ⟨y, 3, none⟩ = false := (World.frozen?_of_block q5).trans z3; obtain ⟨a5, n5, c5, rfl⟩ := rowP_shape ho5)
    | fail)
  go_ret
  exact ⟨rfl, H.out.moreO ho5 hg5 hv5⟩

theorem rjoin_no (h : Rn B y A nx S M O w) (a b : Int) (hp : isPr A a b = false) : Calls Try.prog 33 #[.pointer (some ⟨y, 0, none⟩), .int .i64 a, .int .i64 b] w fun e w' => e = .returned (.int .i64 1) ∧ w' = w := by
  have h1 := ractor_any h a
  have h2 := ractor_any h b
  unfold isPr at hp
  generalize isAct A a = p at *
  generalize isAct A b = q at *
  cases p with
  | false =>
    go_enter Try.func33, Try.ntmps33
    go_wp2_with fail
    refine h1.mono ?_
    rintro e w1 ⟨rfl, rfl⟩
    go_wp2_with fail
    go_ret
    exact ⟨rfl, rfl⟩
  | true =>
    cases q with
    | false =>
      go_enter Try.func33, Try.ntmps33
      go_wp2_with fail
      refine h1.mono ?_
      rintro e w1 ⟨rfl, rfl⟩
      go_wp2_with fail
      refine h2.mono ?_
      rintro e w2 ⟨rfl, rfl⟩
      go_wp2_with fail
      go_ret
      exact ⟨rfl, rfl⟩
    | true =>
      have e : a = b := by simpa using hp
      subst e
      clear hp
      go_enter Try.func33, Try.ntmps33
      go_wp2_with fail
      refine h1.mono ?_
      rintro e w1 ⟨rfl, rfl⟩
      go_wp2_with fail
      refine h2.mono ?_
      rintro e w2 ⟨rfl, rfl⟩
      go_wp2_with fail
      go_ret
      exact ⟨rfl, rfl⟩
theorem rjoin_none (h : Rn B y A nx S M O w) (a b : Int) (hp : isPr A a b = true) (hO : isO O a b = false) : Calls Try.prog 33 #[.pointer (some ⟨y, 0, none⟩), .int .i64 a, .int .i64 b] w fun e w' => e = .returned (.int .i64 0) ∧ w' = w := by
  obtain ⟨p1, p2, p3⟩ := isPr_parts hp
  have h1 := ractor_any h a
  have h2 := ractor_any h b
  rw [p1] at h1
  rw [p2] at h2
  have h3 := rpair_no h a b hO
  go_enter Try.func33, Try.ntmps33
  go_wp2_with fail
  refine h1.mono ?_
  rintro e w1 ⟨rfl, rfl⟩
  go_wp2_with fail
  refine h2.mono ?_
  rintro e w2 ⟨rfl, rfl⟩
  go_wp2_with fail
  refine h3.mono ?_
  rintro e w3 ⟨rfl, rfl⟩
  go_wp2_with fail
  go_ret
  exact ⟨rfl, rfl⟩
set_option maxHeartbeats 2000000 in
theorem rjoin_ok (h : Rn B y A nx S M O w) (a b : Int) (hp : isPr A a b = true) (hO : isO O a b = true) (hl : O.length ≤ 1048576000) : Calls Try.prog 33 #[.pointer (some ⟨y, 0, none⟩), .int .i64 a, .int .i64 b] w fun e w' => e = .returned (.int .i64 0) ∧ (∃ S', Rn B y A nx S' M (dropO O (plO O a b)) w' ∧ ∀ b, S' b → S b ∨ w.heap.size ≤ b) ∧ Chg S w w' := by
  obtain ⟨p1, p2, p3⟩ := isPr_parts hp
  have h1 := ractor_any h a
  have h2 := ractor_any h b
  rw [p1] at h1
  rw [p2] at h2
  have h3 := rpair_yes h a b hO rfl
  have hkl := plO_lt hO
  generalize plO O a b = k at *
  have hd0 : decide ((0 : Int) ≤ (k : Int)) = true := decide_eq_true (by omega)
  obtain ⟨lv, ov, Q, rfl, hI⟩ := h
  obtain ⟨c0, c1, c2, c3, cz⟩ := hI.cells
  have z3 := cz 3
  obtain ⟨ad, c, rfl, q1, q2, q3, q4⟩ := hI.shapeO
  obtain ⟨g, rfl, _⟩ := q4 k O[k] (List.getElem?_eq_getElem hkl)
  unfold maxLen at q2
  have hyl : y < w.heap.size := (hI.lo y hI.sy).2
  have hgl : g < w.heap.size := (hI.lo g (hI.so g rfl).1).2
  have hpre := hI.preO k (by omega)
  have hpost := hI.postO (k + 1) (by omega)
  have hl1 : ([] : List Of).length + (O.take k).length ≤ 1099511627776 := by rw [List.length_take]; simp; omega
  have hl2 : (O.take k).length + (O.drop (k + 1)).length ≤ 1099511627776 := by rw [List.length_take, List.length_drop]; omega
  have H : Hid _ := hI
  clear hI cz q4 q3
  by_cases hck : c = k + 1
  · subst hck
    have hp : RdO w (.slice (some ⟨g, 0, none⟩) 0 0) (O.drop (k + 1)) := by rw [List.drop_of_length_le (by omega)]; exact RdO.end0 _ _ _ (fun e => by cases e)
    clear hpost
    go_enter Try.func33, Try.ntmps33
    go_wp2_with fail
    refine h1.mono ?_
    rintro e w1 ⟨rfl, rfl⟩
    go_wp2_with fail
    refine h2.mono ?_
    rintro e w2 ⟨rfl, rfl⟩
    go_wp2_with fail
    refine h3.mono ?_
    rintro e w2 ⟨rfl, rfl⟩
    go_wp2_with (first
      | (at_builtin; refine wpList_appO rfl _ _ rfl w2.heap.size (.slice none 0 0) [] rfl (World.ownsRow_nil _ _ _ _) _ (O.take k) rfl hpre (Nat.le_refl _) hl1 ?_; intro v3 w3 ho3 hg3 hv3; have c03 := hg3.cell c3 (fun e => by cases e); obtain ⟨hc3, hlt3, hs3, hr3, hp3, hbk3⟩ := offMid ho3 hg3 hgl hp)
      | (at_builtin; (refine wpList_appO rfl _ _ rfl w2.heap.size v3 (O.take k) rfl ho3 _ (O.drop (k + 1)) rfl hp3 hs3 hl2 ?_; intro v4 w4 ho4 hg4 hv4; obtain ⟨av4, nv4, cv4, rfl⟩ := rowP_shape ho4; have c04 := hg4.cell c03 (hr3 y hyl); have z04 : w4.frozen? ⟨y, 3, none⟩ = false := (by rw [World.frozen?_of_block (hg4.block y (by omega) (hr3 y hyl)), World.frozen?_of_block (hbk3 y hyl)]; exact z3); have hc4 : Chg (fun b => w2.heap.size ≤ b) w2 w4 := hc3.trans ((Chg.of_grown (S := fun b => w2.heap.size ≤ b) hg4 (fun b e _ => (hlt3 b e).1)).mono (fun b _ q => .inl q))))
      | fail)
    go_ret
    exact ⟨rfl, H.out.lessO hc4 ho4⟩
  · have hp := hpost
    clear hpost
    go_enter Try.func33, Try.ntmps33
    go_wp2_with fail
    refine h1.mono ?_
    rintro e w1 ⟨rfl, rfl⟩
    go_wp2_with fail
    refine h2.mono ?_
    rintro e w2 ⟨rfl, rfl⟩
    go_wp2_with fail
    refine h3.mono ?_
    rintro e w2 ⟨rfl, rfl⟩
    go_wp2_with (first
      | (at_builtin; refine wpList_appO rfl _ _ rfl w2.heap.size (.slice none 0 0) [] rfl (World.ownsRow_nil _ _ _ _) _ (O.take k) rfl hpre (Nat.le_refl _) hl1 ?_; intro v3 w3 ho3 hg3 hv3; have c03 := hg3.cell c3 (fun e => by cases e); obtain ⟨hc3, hlt3, hs3, hr3, hp3, hbk3⟩ := offMid ho3 hg3 hgl hp)
      | (at_builtin; (refine wpList_appO rfl _ _ rfl w2.heap.size v3 (O.take k) rfl ho3 _ (O.drop (k + 1)) rfl hp3 hs3 hl2 ?_; intro v4 w4 ho4 hg4 hv4; obtain ⟨av4, nv4, cv4, rfl⟩ := rowP_shape ho4; have c04 := hg4.cell c03 (hr3 y hyl); have z04 : w4.frozen? ⟨y, 3, none⟩ = false := (by rw [World.frozen?_of_block (hg4.block y (by omega) (hr3 y hyl)), World.frozen?_of_block (hbk3 y hyl)]; exact z3); have hc4 : Chg (fun b => w2.heap.size ≤ b) w2 w4 := hc3.trans ((Chg.of_grown (S := fun b => w2.heap.size ≤ b) hg4 (fun b e _ => (hlt3 b e).1)).mono (fun b _ q => .inl q))))
      | fail)
    go_ret
    exact ⟨rfl, H.out.lessO hc4 ho4⟩

/-- Nobody is cut off. -/
theorem Rn.heal (h : Rn B y A nx S M O w) : Rn B y A nx S M [] (w.setCell ⟨y, 3, none⟩ (.slice none 0 0)) ∧ Chg S w (w.setCell ⟨y, 3, none⟩ (.slice none 0 0)) := by
  obtain ⟨lv, ov, Q, rfl, h⟩ := h
  have hlo := h.lo
  obtain ⟨hI, hcI⟩ := h.newO (S' := S) (O' := []) (ov' := .slice none 0 0) (Chg.refl _ w) (World.ownsRow_nil _ _ _ _) (.inr (fun b e => by cases e)) (fun b q => q) (fun b e => by cases e) hlo
  exact ⟨⟨_, _, _, rfl, hI⟩, hcI⟩
theorem rnetNew_no (a : Int) (ha : ¬ (1 ≤ a ∧ a ≤ 64)) (w : World) : Calls Try.prog 9 #[.int .i64 a] w fun e w' => e = .returned (.tuple #[.pointer none, .int .i64 1]) ∧ w' = w := by
  by_cases h1 : a < 1
  · go_enter Try.func9, Try.ntmps9
    go_wp2_with fail
    go_ret2
    exact ⟨rfl, rfl⟩
  · have h2 : decide (a < 1) = false := decide_eq_false h1
    have h3 : decide ((64 : Int) < a) = true := decide_eq_true (by omega)
    go_enter Try.func9, Try.ntmps9
    go_wp2_with fail
    go_ret2
    exact ⟨rfl, rfl⟩
theorem rnetNew_ok (A : Nat) (h1 : 1 ≤ A) (h2 : A ≤ 64) (w : World) : Calls Try.prog 9 #[.int .i64 (A : Int)] w fun e w' => e = .returned (.tuple #[.pointer (some ⟨w.heap.size, 0, none⟩), .int .i64 0]) ∧ Rn w.heap.size w.heap.size A 1 (fun b => b = w.heap.size) [] [] w' ∧ Below w.heap.size w w' ∧ w'.heap.size = w.heap.size + 1 := by
  have e1 : decide ((A : Int) < 1) = false := decide_eq_false (by omega)
  have e2 : decide ((64 : Int) < (A : Int)) = false := decide_eq_false (by omega)
  go_enter Try.func9, Try.ntmps9
  go_wp2_with fail
  go_ret2
  exact ⟨rfl, ⟨.slice none 0 0, .slice none 0 0, [], rfl, block_new _ _, World.ownsRow_nil _ _ _ _, (fun p hp => by cases hp), World.ownsRow_nil _ _ _ _, rfl, (fun b e => by cases e), (fun b e => by cases e), (fun p hp => by cases hp), fun b e => ⟨Nat.le_of_eq e.symm, by rw [e]; simp⟩⟩, Below.al w _, by simp⟩
end
end Go.Proofs.Ytpieehbikmmifaa

/- The document's net: Drop and Deliver. -/
namespace Go.Proofs.Ytpieehbikmmifaa
open Go.RowKit
set_option linter.unusedVariables false
set_option maxRecDepth 100000

section
variable {B y A nx : Nat} {S : Nat → Prop} {M : List Pk} {O : List Of} {w w' : World}

theorem rfind_no (h : Rn B y A nx S M O w) (hU : Rise M) (id : Int) (hno : isN M id = false) : Calls Try.prog 45 #[.pointer (some ⟨y, 0, none⟩), .int .i64 id] w fun e w' => e = .returned (.int .i64 (-1)) ∧ w' = w := by
  have h1 := nfind_any h hU id
  unfold fN at h1
  rw [hno, if_neg (by simp)] at h1
  exact h1
theorem rfind_yes (h : Rn B y A nx S M O w) (hU : Rise M) (id : Int) (hno : isN M id = true) {k : Nat} (hk : plN M id = k) : Calls Try.prog 45 #[.pointer (some ⟨y, 0, none⟩), .int .i64 id] w fun e w' => e = .returned (.int .i64 (k : Int)) ∧ w' = w := by
  have h1 := nfind_any h hU id
  unfold fN at h1
  rw [hno, if_pos rfl, hk] at h1
  exact h1
theorem rdrop_no (h : Rn B y A nx S M O w) (hU : Rise M) (id : Int) (hno : isN M id = false) : Calls Try.prog 29 #[.pointer (some ⟨y, 0, none⟩), .int .i64 id] w fun e w' => e = .returned (.int .i64 30) ∧ w' = w := by
  go_enter Try.func29, Try.ntmps29
  go_wp2_with fail
  refine (rfind_no h hU id hno).mono ?_
  rintro e w1 ⟨rfl, rfl⟩
  go_wp2_with fail
  go_ret
  exact ⟨rfl, rfl⟩
theorem rdrop_ok (h : Rn B y A nx S M O w) (hU : Rise M) (hl : M.length ≤ 1048576) (id : Int) (hno : isN M id = true) : Calls Try.prog 29 #[.pointer (some ⟨y, 0, none⟩), .int .i64 id] w fun e w' => e = .returned (.int .i64 0) ∧ (∃ S', Rn B y A nx S' (dropM M (plN M id)) O w' ∧ ∀ b, S' b → S b ∨ w.heap.size ≤ b) ∧ Chg S w w' := by
  obtain ⟨p, hp, _⟩ := isN_at hno
  have h1 := rfind_yes h hU id hno rfl
  generalize plN M id = k at *
  have hlt0 : decide ((k : Int) < 0) = false := decide_eq_false (by omega)
  go_enter Try.func29, Try.ntmps29
  go_wp2_with fail
  refine h1.mono ?_
  rintro e w1 ⟨rfl, rfl⟩
  go_wp2_with fail
  refine (rtakeN_any h k hp hl).mono ?_
  rintro e w2 ⟨dv, rfl, _, hd, hN, hc⟩
  go_wp2_with fail
  go_ret
  exact ⟨rfl, hN, hc⟩
theorem rdeliver_no (h : Rn B y A nx S M O w) (hU : Rise M) (id : Int) (hno : isN M id = false) : Calls Try.prog 27 #[.pointer (some ⟨y, 0, none⟩), .int .i64 id] w fun e w' => e = .returned (.tuple #[.agg #[.int .i64 0, .int .i64 0, .int .i64 0, .slice none 0 0], .int .i64 30]) ∧ Below w.heap.size w w' := by
  have h1 := rfind_no (h.below (Below.al w (.cells #[.int .i64 0, .int .i64 0, .int .i64 0, .slice none 0 0] 46))) hU id hno
  have hR := block_new w (.cells #[.int .i64 0, .int .i64 0, .int .i64 0, .slice none 0 0] 46)
  obtain ⟨k0, k1, k2, k3⟩ := cells4 hR
  go_enter Try.func27, Try.ntmps27
  go_wp2_with fail
  refine h1.mono ?_
  rintro e w1 ⟨rfl, rfl⟩
  go_wp2_with fail
  refine bodyPost_ret (v := .tuple #[.agg #[.int .i64 0, .int .i64 0, .int .i64 0, .slice none 0 0], .int .i64 30]) (by simp [results, Try.results27, go_sem, k0, k1, k2, k3]; try rfl) rfl ?_
  exact ⟨rfl, Below.al w _⟩

set_option maxHeartbeats 2000000 in
theorem rdeliver_cut (h : Rn B y A nx S M O w) (hU : Rise M) (hl : M.length ≤ 1048576) (id : Int) (hno : isN M id = true) {p : Pk} (hp : M[plN M id]? = some p) (hO : isO O (p.2.1 : Int) (p.2.2.1 : Int) = true) : Calls Try.prog 27 #[.pointer (some ⟨y, 0, none⟩), .int .i64 id] w fun e w' => e = .returned (.tuple #[.agg #[.int .i64 0, .int .i64 0, .int .i64 0, .slice none 0 0], .int .i64 31]) ∧ (∃ S', Rn B y A nx S' (dropM M (plN M id)) O w' ∧ ∀ b, S' b → S b ∨ w.heap.size ≤ b) ∧ Chg S w w' := by
  have hb0 := Below.al w (.cells #[.int .i64 0, .int .i64 0, .int .i64 0, .slice none 0 0] 46)
  have hz0 : (w.alloc (.cells #[.int .i64 0, .int .i64 0, .int .i64 0, .slice none 0 0] 46)).heap.size = w.heap.size + 1 := by simp
  have hR0 := block_new w (.cells #[.int .i64 0, .int .i64 0, .int .i64 0, .slice none 0 0] 46)
  have h1 := rfind_yes (h.below hb0) hU id hno rfl
  generalize hk : plN M id = k at *
  have h2 := rtakeN_any (h.below hb0) k hp hl
  have hlt0 := h.lt
  obtain ⟨id0, fr, to_, da⟩ := p
  simp only [] at *
  have hd0 : decide ((k : Int) < 0) = false := decide_eq_false (by omega)
  go_enter Try.func27, Try.ntmps27
  go_wp2_with fail
  refine h1.mono ?_
  rintro e w1 ⟨rfl, rfl⟩
  go_wp2_with fail
  refine h2.mono ?_
  rintro e w2 ⟨dv, rfl, hdS, hd, ⟨S2, hN2, hS2⟩, hc2⟩
  have hRS : ¬ S w.heap.size := fun q => by have := (hlt0 _ q).2; omega
  have hR := (hc2.block _ (by simp) hRS).trans hR0
  have hRl : w.heap.size < w2.heap.size := (Array.getElem?_eq_some_iff.1 hR).1
  have hB3 := Below.al w2 (.cells #[.int .i64 (id0 : Int), .int .i64 (fr : Int), .int .i64 (to_ : Int), dv] 46)
  obtain ⟨ad, cd, rfl, _⟩ := hd
  have hcut := risCut_any (hN2.below hB3) (fr : Int) (to_ : Int)
  rw [hO] at hcut
  have H : Hid _ := And.intro hN2 (And.intro hS2 hc2)
  clear hN2 hS2 hc2 h1 h2 hp
  go_wp2_with fail
  refine hcut.mono ?_
  rintro e w3 ⟨rfl, rfl⟩
  have hR2 := (hB3.block _ hRl).trans hR
  generalize w2.alloc (.cells #[.int .i64 (id0 : Int), .int .i64 (fr : Int), .int .i64 (to_ : Int), .slice ad da.length cd] 46) = w3 at *
  obtain ⟨r0, r1, r2, r3⟩ := cells4 hR2
  have rz0 : w3.frozen? ⟨w.heap.size, 0, none⟩ = false := frozen_of_row _ _ _ _ _ hR2
  have rz1 : w3.frozen? ⟨w.heap.size, 1, none⟩ = false := frozen_of_row _ _ _ _ _ hR2
  have rz2 : w3.frozen? ⟨w.heap.size, 2, none⟩ = false := frozen_of_row _ _ _ _ _ hR2
  have rz3 : w3.frozen? ⟨w.heap.size, 3, none⟩ = false := frozen_of_row _ _ _ _ _ hR2
  have HS : Hid _ := And.intro (set4_block hR2 (.int .i64 0) (.int .i64 0) (.int .i64 0) (.slice none 0 0)) (set4_chg w3 w.heap.size (.int .i64 0) (.int .i64 0) (.int .i64 0) (.slice none 0 0))
  go_wp2_with fail
  obtain ⟨hS, hC⟩ := HS.out
  generalize ((((w3.setCell ⟨w.heap.size, 0, none⟩ (.int .i64 0)).setCell ⟨w.heap.size, 1, none⟩ (.int .i64 0)).setCell ⟨w.heap.size, 2, none⟩ (.int .i64 0)).setCell ⟨w.heap.size, 3, none⟩ (.slice none 0 0)) = wz at *
  obtain ⟨k0, k1, k2, k3⟩ := cells4 hS
  refine bodyPost_ret (v := .tuple #[.agg #[.int .i64 0, .int .i64 0, .int .i64 0, .slice none 0 0], .int .i64 31]) (by simp [results, Try.results27, go_sem, k0, k1, k2, k3]; try rfl) rfl ?_
  obtain ⟨hN2, hS2, hc2⟩ := H.out
  have hnR : ¬ S2 w.heap.size := fun q => by
    rcases hS2 _ q with q | q
    · exact hRS q
    · omega
  refine ⟨rfl, ⟨S2, (hN2.below hB3).next hC (fun b hs e => hnR (by rw [← e]; exact hs)), fun b q => ?_⟩, ((((Chg.refl S w).alloc (.cells #[.int .i64 0, .int .i64 0, .int .i64 0, .slice none 0 0] 46)).trans (hc2.mono (fun b _ q => .inl q))).trans ((Chg.of_below hB3).mono (fun b hb q => absurd hb (Nat.not_lt.2 q)))).trans (hC.mono (fun b _ q => .inr (Nat.le_of_eq q.symm)))⟩
  rcases hS2 b q with q | q
  · exact .inl q
  · exact .inr (by omega)

set_option maxHeartbeats 2000000 in
theorem rdeliver_ok (h : Rn B y A nx S M O w) (hU : Rise M) (hl : M.length ≤ 1048576) (id : Int) (hno : isN M id = true) {p : Pk} (hp : M[plN M id]? = some p) (hO : isO O (p.2.1 : Int) (p.2.2.1 : Int) = false) : Calls Try.prog 27 #[.pointer (some ⟨y, 0, none⟩), .int .i64 id] w fun e w' => ∃ dv, e = .returned (.tuple #[.agg #[.int .i64 (p.1 : Int), .int .i64 (p.2.1 : Int), .int .i64 (p.2.2.1 : Int), dv], .int .i64 0]) ∧ Rd w' dv p.2.2.2 ∧ (∃ S', Rn B y A nx S' (dropM M (plN M id)) O w' ∧ ∀ b, S' b → S b ∨ w.heap.size ≤ b) ∧ Chg S w w' := by
  have hb0 := Below.al w (.cells #[.int .i64 0, .int .i64 0, .int .i64 0, .slice none 0 0] 46)
  have hz0 : (w.alloc (.cells #[.int .i64 0, .int .i64 0, .int .i64 0, .slice none 0 0] 46)).heap.size = w.heap.size + 1 := by simp
  have hR0 := block_new w (.cells #[.int .i64 0, .int .i64 0, .int .i64 0, .slice none 0 0] 46)
  have h1 := rfind_yes (h.below hb0) hU id hno rfl
  generalize hk : plN M id = k at *
  have h2 := rtakeN_any (h.below hb0) k hp hl
  have hlt0 := h.lt
  obtain ⟨id0, fr, to_, da⟩ := p
  simp only [] at *
  have hd0 : decide ((k : Int) < 0) = false := decide_eq_false (by omega)
  go_enter Try.func27, Try.ntmps27
  go_wp2_with fail
  refine h1.mono ?_
  rintro e w1 ⟨rfl, rfl⟩
  go_wp2_with fail
  refine h2.mono ?_
  rintro e w2 ⟨dv, rfl, hdS, hd, ⟨S2, hN2, hS2⟩, hc2⟩
  have hRS : ¬ S w.heap.size := fun q => by have := (hlt0 _ q).2; omega
  have hR := (hc2.block _ (by simp) hRS).trans hR0
  have hRl : w.heap.size < w2.heap.size := (Array.getElem?_eq_some_iff.1 hR).1
  have hB3 := Below.al w2 (.cells #[.int .i64 (id0 : Int), .int .i64 (fr : Int), .int .i64 (to_ : Int), dv] 46)
  have hV := block_new w2 (.cells #[.int .i64 (id0 : Int), .int .i64 (fr : Int), .int .i64 (to_ : Int), dv] 46)
  have hd3 := hd.below hB3 (Nat.le_refl _)
  have hd' := hd
  obtain ⟨ad, cd, rfl, _⟩ := hd'
  have hcut := risCut_any (hN2.below hB3) (fr : Int) (to_ : Int)
  rw [hO] at hcut
  have H : Hid _ := And.intro hN2 (And.intro hS2 hc2)
  clear hN2 hS2 hc2 h1 h2 hp
  have hVR : w2.heap.size ≠ w.heap.size := by omega
  go_wp2_with fail
  refine hcut.mono ?_
  rintro e w3 ⟨rfl, rfl⟩
  have hR2 := (hB3.block _ hRl).trans hR
  generalize w2.alloc (.cells #[.int .i64 (id0 : Int), .int .i64 (fr : Int), .int .i64 (to_ : Int), .slice ad da.length cd] 46) = w3 at *
  obtain ⟨r0, r1, r2, r3⟩ := cells4 hR2
  obtain ⟨v0, v1, v2, v3⟩ := cells4 hV
  have rz0 : w3.frozen? ⟨w.heap.size, 0, none⟩ = false := frozen_of_row _ _ _ _ _ hR2
  have rz1 : w3.frozen? ⟨w.heap.size, 1, none⟩ = false := frozen_of_row _ _ _ _ _ hR2
  have rz2 : w3.frozen? ⟨w.heap.size, 2, none⟩ = false := frozen_of_row _ _ _ _ _ hR2
  have rz3 : w3.frozen? ⟨w.heap.size, 3, none⟩ = false := frozen_of_row _ _ _ _ _ hR2
  have HS : Hid _ := And.intro (set4_block hR2 (.int .i64 (id0 : Int)) (.int .i64 (fr : Int)) (.int .i64 (to_ : Int)) (.slice ad da.length cd)) (set4_chg w3 w.heap.size (.int .i64 (id0 : Int)) (.int .i64 (fr : Int)) (.int .i64 (to_ : Int)) (.slice ad da.length cd))
  have HD : Hid _ := And.intro hd3 hdS
  clear hd3 hdS
  go_wp2_with fail
  obtain ⟨hS, hC⟩ := HS.out
  generalize ((((w3.setCell ⟨w.heap.size, 0, none⟩ (.int .i64 (id0 : Int))).setCell ⟨w.heap.size, 1, none⟩ (.int .i64 (fr : Int))).setCell ⟨w.heap.size, 2, none⟩ (.int .i64 (to_ : Int))).setCell ⟨w.heap.size, 3, none⟩ (.slice ad da.length cd)) = wz at *
  obtain ⟨k0, k1, k2, k3⟩ := cells4 hS
  refine bodyPost_ret (v := .tuple #[.agg #[.int .i64 (id0 : Int), .int .i64 (fr : Int), .int .i64 (to_ : Int), .slice ad da.length cd], .int .i64 0]) (by simp [results, Try.results27, go_sem, k0, k1, k2, k3]; try rfl) rfl ?_
  obtain ⟨hN2, hS2, hc2⟩ := H.out
  have hnR : ¬ S2 w.heap.size := fun q => by
    rcases hS2 _ q with q | q
    · exact hRS q
    · omega
  refine ⟨_, rfl, ?_, ⟨S2, (hN2.below hB3).next hC (fun b hs e => hnR (by rw [← e]; exact hs)), fun b q => ?_⟩, ((((Chg.refl S w).alloc (.cells #[.int .i64 0, .int .i64 0, .int .i64 0, .slice none 0 0] 46)).trans (hc2.mono (fun b _ q => .inl q))).trans ((Chg.of_below hB3).mono (fun b hb q => absurd hb (Nat.not_lt.2 q)))).trans (hC.mono (fun b _ q => .inr (Nat.le_of_eq q.symm)))⟩
  · exact HD.out.1.keptC hC (fun b e q => hRS (by rw [← q]; exact HD.out.2 b e))
  · rcases hS2 b q with q | q
    · exact .inl q
    · exact .inr (by omega)
end
end Go.Proofs.Ytpieehbikmmifaa

/- A net and the document's net side by side, with the same messages and the same pairs cut off. -/
namespace Go.Proofs.Ytpieehbikmmifaa
open Go.RowKit
set_option linter.unusedVariables false
set_option maxRecDepth 100000

/-- The two tell the same of who is cut off. -/
def Co (C : Ct) (O : List Of) : Prop := ∀ a b, I64 a → I64 b → C (min a b) (max a b) = isO O a b
/-- No pair is there twice. -/
def Uq (O : List Of) : Prop := O.Pairwise (fun p q => mt p.1 p.2 q = false)

theorem mt_iff (a b : Int) (p : Of) : mt a b p = true ↔ (min p.1 p.2 = min a b ∧ max p.1 p.2 = max a b) := by
  unfold mt
  simp only [Bool.or_eq_true, Bool.and_eq_true, beq_iff_eq]
  omega
theorem mt_sym (a b : Int) (p : Of) : mt p.1 p.2 (a, b) = mt a b p := by
  rw [Bool.eq_iff_iff, mt_iff, mt_iff]
  constructor
  · rintro ⟨h1, h2⟩; exact ⟨h1.symm, h2.symm⟩
  · rintro ⟨h1, h2⟩; exact ⟨h1.symm, h2.symm⟩
theorem isO_app (O : List Of) (a b p q : Int) : isO (O ++ [(a, b)]) p q = (isO O p q || mt p q (a, b)) := by simp [isO]
theorem isO_mem {O : List Of} {a b : Int} (h : isO O a b = false) : ∀ p ∈ O, mt a b p = false := by
  intro p hp
  unfold isO at h
  have := List.any_eq_false.1 h p hp
  simpa using this

theorem Co.nil : Co noC [] := fun a b _ _ => rfl
theorem Co.cut {C : Ct} {O : List Of} (h : Co C O) (a b : Int) (hO : isO O a b = false) : Co (setC C (min a b) (max a b) true) (O ++ [(a, b)]) := fun p q hp hq => by
  rw [isO_app, ← h p q hp hq]
  unfold setC
  by_cases e : min p q = min a b ∧ max p q = max a b
  · rw [if_pos e, (mt_iff p q (a, b)).2 ⟨e.1.symm, e.2.symm⟩, Bool.or_true]
  · rw [if_neg e]
    cases hm : mt p q (a, b) with
    | true => have := (mt_iff p q (a, b)).1 hm; exact absurd ⟨this.1.symm, this.2.symm⟩ e
    | false => rw [Bool.or_false]
theorem Co.cutHas {C : Ct} {O : List Of} (h : Co C O) (a b : Int) (ha : I64 a) (hb : I64 b) (hO : isO O a b = true) : Co (setC C (min a b) (max a b) true) O := fun p q hp hq => by
  rw [← h p q hp hq]
  unfold setC
  by_cases e : min p q = min a b ∧ max p q = max a b
  · rw [if_pos e, e.1, e.2, h a b ha hb, hO]
  · rw [if_neg e]
theorem Co.joinNone {C : Ct} {O : List Of} (h : Co C O) (a b : Int) (ha : I64 a) (hb : I64 b) (hO : isO O a b = false) : Co (setC C (min a b) (max a b) false) O := fun p q hp hq => by
  rw [← h p q hp hq]
  unfold setC
  by_cases e : min p q = min a b ∧ max p q = max a b
  · rw [if_pos e, e.1, e.2, h a b ha hb, hO]
  · rw [if_neg e]
theorem plO_at {O : List Of} {a b : Int} (h : isO O a b = true) : ∃ p, O[plO O a b]? = some p ∧ mt a b p = true := by
  have hl := plO_lt h
  refine ⟨_, List.getElem?_eq_getElem hl, ?_⟩
  exact List.findIdx_getElem (w := hl)
theorem isO_split (O : List Of) (k : Nat) (x : Of) (h : O[k]? = some x) (p q : Int) : isO O p q = (isO (dropO O k) p q || mt p q x) := by
  obtain ⟨hk, e⟩ := List.getElem?_eq_some_iff.1 h
  have : O = O.take k ++ x :: O.drop (k + 1) := by rw [← e, List.getElem_cons_drop, List.take_append_drop]
  unfold isO dropO
  rw [List.any_append]
  conv => lhs; rw [this]
  rw [List.any_append, List.any_cons]
  cases (O.take k).any (mt p q) <;> cases mt p q x <;> simp
theorem dropO_sub (O : List Of) (k : Nat) : (dropO O k).Sublist O := by
  unfold dropO
  have h1 : (O.drop (k + 1)).Sublist (O.drop k) := by
    rw [← List.drop_drop]
    exact List.drop_sublist 1 _
  have h2 := (List.Sublist.refl (O.take k)).append h1
  rwa [List.take_append_drop] at h2
theorem Co.joinOk {C : Ct} {O : List Of} (h : Co C O) (hu : Uq O) (a b : Int) (hO : isO O a b = true) : Co (setC C (min a b) (max a b) false) (dropO O (plO O a b)) := fun p q hp hq => by
  obtain ⟨x, hx, hm⟩ := plO_at hO
  have hs := isO_split O _ x hx p q
  obtain ⟨hk, ek⟩ := List.getElem?_eq_some_iff.1 hx
  unfold setC
  by_cases e : min p q = min a b ∧ max p q = max a b
  · rw [if_pos e]
    cases hd : isO (dropO O (plO O a b)) p q with
    | false => rfl
    | true =>
      exfalso
      obtain ⟨z, hz, hzm⟩ := List.any_eq_true.1 hd
      have hxz : mt x.1 x.2 z = true := by
        rw [mt_iff] at hzm hm ⊢
        omega
      have hzx : mt z.1 z.2 x = true := by
        rw [mt_iff] at hxz ⊢
        omega
      unfold dropO at hz
      rcases List.mem_append.1 hz with m | m
      · obtain ⟨j, hj, ej⟩ := List.getElem_of_mem m
        rw [List.length_take] at hj
        rw [List.getElem_take] at ej
        have := List.pairwise_iff_getElem.1 hu j (plO O a b) (by omega) hk (by omega)
        rw [ej, ek, hzx] at this
        cases this
      · obtain ⟨j, hj, ej⟩ := List.getElem_of_mem m
        rw [List.length_drop] at hj
        rw [List.getElem_drop] at ej
        have := List.pairwise_iff_getElem.1 hu (plO O a b) (plO O a b + 1 + j) hk (by omega) (by omega)
        rw [ej, ek, hxz] at this
        cases this
  · rw [if_neg e, h p q hp hq, hs]
    cases hmx : mt p q x with
    | false => rw [Bool.or_false]
    | true =>
      rw [mt_iff] at hmx hm
      exact absurd (by omega) e
theorem Uq.cut {O : List Of} (h : Uq O) (a b : Int) (hO : isO O a b = false) : Uq (O ++ [(a, b)]) := by
  refine List.pairwise_append.2 ⟨h, by simp, fun p hp q hq => ?_⟩
  rw [List.mem_singleton.1 hq, mt_sym]
  exact isO_mem hO p hp
theorem Uq.drop {O : List Of} (h : Uq O) (k : Nat) : Uq (dropO O k) := h.sublist (dropO_sub O k)

/-- The two in memory, all by name. -/
structure NpI (B x y A N last n : Nat) (Sx Sy : Nat → Prop) (M : List Pk) (C : Ct) (O : List Of) (T : Nat → Prop) (w : World) : Prop where
  nt : Nt B x A last n Sx M C w
  rn : Rn B y A (last + 1) Sy M O w
  inv : InvM A last M
  co : Co C O
  uq : Uq O
  a64 : A ≤ 64
  ln : last ≤ N
  nn : n ≤ N
  on : O.length ≤ N
  ap : ∀ b, Sx b → ¬ Sy b
  t1 : ∀ b, Sx b ∨ Sy b → T b
  t2 : ∀ b, T b → B ≤ b ∧ b < w.heap.size
/-- The two, in blocks of T. -/
def Np (B x y A N : Nat) (T : Nat → Prop) (w : World) : Prop := ∃ last n Sx Sy M C O, NpI B x y A N last n Sx Sy M C O T w
/-- The blocks that were theirs, and new ones. -/
def Tn (T : Nat → Prop) (w w' : World) : Nat → Prop := fun b => T b ∨ (w.heap.size ≤ b ∧ b < w'.heap.size)

section
variable {B x y A N last n : Nat} {Sx Sy Sx' Sy' : Nat → Prop} {M M' : List Pk} {C C' : Ct} {O O' : List Of} {T T' : Nat → Prop} {w w1 w1' w2 wb : World}

theorem NpI.next (h : NpI B x y A N last n Sx Sy M C O T w) {X : Nat → Prop} (hc : Chg X w w1) (hX : ∀ b, T b → ¬ X b) : NpI B x y A N last n Sx Sy M C O T w1 :=
  ⟨h.nt.next hc (fun b hb => hX b (h.t1 b (.inl hb))), h.rn.next hc (fun b hb => hX b (h.t1 b (.inr hb))), h.inv, h.co, h.uq, h.a64, h.ln, h.nn, h.on, h.ap, h.t1, fun b hb => ⟨(h.t2 b hb).1, Nat.lt_of_lt_of_le (h.t2 b hb).2 hc.size⟩⟩
theorem Np.next (h : Np B x y A N T w) {X : Nat → Prop} (hc : Chg X w w1) (hX : ∀ b, T b → ¬ X b) : Np B x y A N T w1 := by
  obtain ⟨last, n, Sx, Sy, M, C, O, h⟩ := h
  exact ⟨last, n, Sx, Sy, M, C, O, h.next hc hX⟩
theorem NpI.leB (h : NpI B x y A N last n Sx Sy M C O T w) : B ≤ w.heap.size := h.nt.leB
theorem NpI.below (h : NpI B x y A N last n Sx Sy M C O T w) (hb : Below w.heap.size w w1) : NpI B x y A N last n Sx Sy M C O T w1 := h.next (Chg.of_below hb) (fun b hb q => by have := (h.t2 b hb).2; omega)
theorem Np.below (h : Np B x y A N T w) (hb : Below w.heap.size w w1) : Np B x y A N T w1 := by
  obtain ⟨last, n, Sx, Sy, M, C, O, h⟩ := h
  exact ⟨last, n, Sx, Sy, M, C, O, h.below hb⟩
theorem Np.lt (h : Np B x y A N T w) : ∀ b, T b → B ≤ b ∧ b < w.heap.size := by obtain ⟨last, n, Sx, Sy, M, C, O, h⟩ := h; exact h.t2
theorem Np.leB (h : Np B x y A N T w) : B ≤ w.heap.size := by obtain ⟨last, n, Sx, Sy, M, C, O, h⟩ := h; exact h.leB
theorem Np.chg (h : Np B x y A N T w) (hc : Chg T w w1) : Below B w w1 := hc.below (fun b hb => (h.lt b hb).1) h.leB
theorem Np.more (h : Np B x y A N T w) {N' : Nat} (hN : N ≤ N') : Np B x y A N' T w := by
  obtain ⟨last, n, Sx, Sy, M, C, O, h⟩ := h
  exact ⟨last, n, Sx, Sy, M, C, O, h.nt, h.rn, h.inv, h.co, h.uq, h.a64, Nat.le_trans h.ln hN, Nat.le_trans h.nn hN, Nat.le_trans h.on hN, h.ap, h.t1, h.t2⟩

/-- Both have done their call. -/
theorem NpI.done (h : NpI B x y A N last n Sx Sy M C O T w) {last' n' N' : Nat} (hx : Nt B x A last' n' Sx' M' C' w1) (ho : ∀ b, Sx' b → Sx b ∨ w.heap.size ≤ b) (hc1 : Chg Sx w w1) (hb : Below w1.heap.size w1 w1')
    (hy : Rn B y A (last' + 1) Sy' M' O' w2) (hS : ∀ b, Sy' b → Sy b ∨ w1'.heap.size ≤ b) (hc2 : Chg Sy w1' w2) (hI : InvM A last' M') (hco : Co C' O') (huq : Uq O') (h1 : last' ≤ N') (h2 : n' ≤ N') (h3 : O'.length ≤ N') : Chg T w w2 ∧ Np B x y A N' (Tn T w w2) w2 := by
  have hSl := h.rn.lt
  have z1 := hc1.size
  have z2 := hb.size
  have z3 := hc2.size
  have hlt1 := hx.lt
  have hnS : ∀ b, Sx' b → ¬ Sy b := fun b hb q => by
    rcases ho b hb with q2 | q2
    · exact h.ap b q2 q
    · have := (hSl b q).2; omega
  have hx2 := (hx.below hb).next hc2 hnS
  refine ⟨(hc1.mono (fun b _ q => h.t1 b (.inl q))).trans (((Chg.of_below hb).mono (fun b _ q => Or.inr (by omega))).trans (hc2.mono (fun b hb2 q => .inl (.inl (h.t1 b (.inr q)))))), last', n', Sx', Sy', M', C', O', hx2, hy, hI, hco, huq, h.a64, h1, h2, h3, fun b q1 q2 => ?_, fun b q => ?_, fun b q => ?_⟩
  · rcases hS b q2 with q | q
    · exact hnS b q1 q
    · have := (hlt1 b q1).2; omega
  · rcases q with q | q
    · rcases ho b q with q2 | q2
      · exact .inl (h.t1 b (.inl q2))
      · exact .inr ⟨q2, (hx2.lt b q).2⟩
    · rcases hS b q with q2 | q2
      · exact .inl (h.t1 b (.inr q2))
      · exact .inr ⟨by omega, (hy.lt b q).2⟩
  · rcases q with q | q
    · exact ⟨(h.t2 b q).1, by have := (h.t2 b q).2; omega⟩
    · exact ⟨by have := h.leB; omega, q.2⟩
/-- Nothing but new memory has come. -/
theorem Np.wider (h : Np B x y A N T w) (hT : ∀ b, T b → T' b) (h2 : ∀ b, T' b → B ≤ b ∧ b < w.heap.size) : Np B x y A N T' w := by
  obtain ⟨last, n, Sx, Sy, M, C, O, h⟩ := h
  exact ⟨last, n, Sx, Sy, M, C, O, h.nt, h.rn, h.inv, h.co, h.uq, h.a64, h.ln, h.nn, h.on, h.ap, fun b q => hT b (h.t1 b q), h2⟩
theorem Np.fin (h : Np B x y A N T w) {N' : Nat} (hb : Below w.heap.size w wb) (hc : Chg T wb w2) (hP : Np B x y A N' (Tn T wb w2) w2) : Chg T w w2 ∧ Np B x y A N' (Tn T w w2) w2 := by
  have z1 := hb.size
  have z2 := hc.size
  have hB := h.leB
  refine ⟨((Chg.of_below hb).mono (fun b hb q => by omega)).trans (hc.mono (fun b _ q => .inl q)), hP.wider (fun b q => ?_) (fun b q => ?_)⟩
  · rcases q with q | q
    · exact .inl q
    · exact .inr ⟨by omega, q.2⟩
  · rcases q with q | q
    · exact ⟨(h.lt b q).1, by have := (h.lt b q).2; omega⟩
    · exact ⟨by omega, q.2⟩
theorem Np.finB (h : Np B x y A N T w) {N' : Nat} (hN : N ≤ N') (hb : Below w.heap.size w w2) : Chg T w w2 ∧ Np B x y A N' (Tn T w w2) w2 := by
  have z1 := hb.size
  have hB := h.leB
  refine ⟨(Chg.of_below hb).mono (fun b hb q => by omega), ((h.below hb).more hN).wider (fun b q => .inl q) (fun b q => ?_)⟩
  rcases q with q | q
  · exact ⟨(h.lt b q).1, by have := (h.lt b q).2; omega⟩
  · exact ⟨by omega, q.2⟩
theorem Np.after {N' : Nat} (h0 : Np B x y A N T w) (h : Chg T w w2 ∧ Np B x y A N' (Tn T w w2) w2) {w3 : World} (hb : Below w2.heap.size w2 w3) : Chg T w w3 ∧ Np B x y A N' (Tn T w w3) w3 := by
  have z1 := h.1.size
  have z2 := hb.size
  have hB := h0.leB
  refine ⟨h.1.trans ((Chg.of_below hb).mono (fun b hb q => by omega)), (h.2.below hb).wider (fun b q => ?_) (fun b q => ?_)⟩
  · rcases q with q | q
    · exact .inl q
    · exact .inr ⟨q.1, by omega⟩
  · rcases q with q | q
    · exact ⟨(h0.lt b q).1, by have := (h0.lt b q).2; omega⟩
    · exact ⟨by omega, q.2⟩
/-- The half of it: the document's net behind the program's call. -/
theorem NpI.rn1 (h : NpI B x y A N last n Sx Sy M C O T w) (hc1 : Chg Sx w w1) (hb : Below w1.heap.size w1 w1') : Rn B y A (last + 1) Sy M O w1' :=
  (h.rn.next hc1 (fun b hb q => h.ap b q hb)).below hb
theorem NpI.chgX (h : NpI B x y A N last n Sx Sy M C O T w) (hc1 : Chg Sx w w1) : Chg T w w1 := hc1.mono (fun b _ q => h.t1 b (.inl q))
theorem NpI.np (h : NpI B x y A N last n Sx Sy M C O T w) : Np B x y A N T w := ⟨_, _, _, _, _, _, _, h⟩
theorem NpI.drawn (h : NpI B x y A N last n Sx Sy M C O T w) {N' : Nat} (hN : N ≤ N') (hb : Below w.heap.size w w2) : Chg T w w2 ∧ Np B x y A N' (Tn T w w2) w2 := h.np.finB hN hb

/-- The post of a call of the program's net, with what the document's net does then. -/
def BothN (B x y A N : Nat) (T : Nat → Prop) (w : World) (fn : FuncId) (args : Array Value) (ret : Ending) (w1 : World) : Prop :=
  ∃ v : Value, ret = .returned v ∧ Chg T w w1 ∧ ∀ w1', Below w1.heap.size w1 w1' → Calls Try.prog fn args w1' fun ret2 w2 => ret2 = .returned v ∧ Chg T w w2 ∧ Np B x y A N (Tn T w w2) w2
end
end Go.Proofs.Ytpieehbikmmifaa

/- The two nets: each call of the program's net, and the document's behind it. -/
namespace Go.Proofs.Ytpieehbikmmifaa
open Go.RowKit
set_option linter.unusedVariables false
set_option maxRecDepth 100000

section
variable {B x y A N : Nat} {T : Nat → Prop} {w : World}

def BothE (B x y A N : Nat) (T : Nat → Prop) (w : World) (fn : FuncId) (args : Array Value) (ret : Ending) (w1 : World) : Prop :=
  ∃ e : Int, ret = .returned (.int .i64 e) ∧ Chg T w w1 ∧ ∀ w1', Below w1.heap.size w1 w1' → Calls Try.prog fn args w1' fun ret2 w2 => ret2 = .returned (.int .i64 e) ∧ Chg T w w2 ∧ Np B x y A N (Tn T w w2) w2
def BothT (B x y A N : Nat) (T : Nat → Prop) (w : World) (fn : FuncId) (args : Array Value) (ret : Ending) (w1 : World) : Prop :=
  ∃ i e : Int, ret = .returned (.tuple #[.int .i64 i, .int .i64 e]) ∧ Chg T w w1 ∧ ∀ w1', Below w1.heap.size w1 w1' → Calls Try.prog fn args w1' fun ret2 w2 => ret2 = .returned (.tuple #[.int .i64 i, .int .i64 e]) ∧ Chg T w w2 ∧ Np B x y A N (Tn T w w2) w2

theorem chg_bel {T : Nat → Prop} {w w1 : World} (h : Below w.heap.size w w1) : Chg T w w1 := (Chg.of_below h).mono (fun b hb q => absurd hb (Nat.not_lt.2 q))

theorem drop_pair (h : Np B x y A N T w) (id : Int) :
    Calls Try.prog 19 #[.pointer (some ⟨x, 0, none⟩), .int .i64 id] w fun ret w1 => BothE B x y A (N + 1) T w 29 #[.pointer (some ⟨y, 0, none⟩), .int .i64 id] ret w1 := by
  obtain ⟨last, n, Sx, Sy, M, C, O, h⟩ := h
  have hl := h.inv.len
  have h1 := h.ln
  have h2 := h.nn
  have h3 := h.on
  cases hno : isN M id with
  | false =>
    refine (drop_no h.nt h.inv.rise (by omega) id hno).mono ?_
    rintro _ w1 ⟨rfl, hb1⟩
    refine ⟨30, rfl, chg_bel hb1, fun w1' hb => (rdrop_no (h.rn.below (Below.tr hb1 hb)) h.inv.rise id hno).mono ?_⟩
    rintro _ w2 ⟨rfl, rfl⟩
    exact ⟨rfl, h.drawn (by omega) (Below.tr hb1 hb)⟩
  | true =>
    refine (drop_ok h.nt h.inv.rise (by omega) id hno).mono ?_
    rintro _ w1 ⟨rfl, hN1, hc1⟩
    refine ⟨0, rfl, h.chgX hc1, fun w1' hb => (rdrop_ok (h.rn1 hc1 hb) h.inv.rise (by omega) id hno).mono ?_⟩
    rintro _ w2 ⟨rfl, ⟨S', hR2, hS2⟩, hc2⟩
    exact ⟨rfl, h.done hN1 (fun b q => .inl q) hc1 hb hR2 hS2 hc2 (h.inv.drop _) h.co h.uq (by omega) (by omega) (by omega)⟩

theorem copy_pair (h : Np B x y A N T w) (hN : N ≤ 1099511626000) (id : Int) :
    Calls Try.prog 15 #[.pointer (some ⟨x, 0, none⟩), .int .i64 id] w fun ret w1 => BothT B x y A (N + 1) T w 30 #[.pointer (some ⟨y, 0, none⟩), .int .i64 id] ret w1 := by
  obtain ⟨last, n, Sx, Sy, M, C, O, h⟩ := h
  have hl := h.inv.len
  have h1 := h.ln
  have h2 := h.nn
  have h3 := h.on
  cases hno : isN M id with
  | false =>
    refine (copy_no h.nt h.inv.rise (by omega) id hno).mono ?_
    rintro _ w1 ⟨rfl, hb1⟩
    refine ⟨0, 30, rfl, chg_bel hb1, fun w1' hb => (rcopy_no (h.rn.below (Below.tr hb1 hb)) h.inv.rise id hno).mono ?_⟩
    rintro _ w2 ⟨rfl, rfl⟩
    exact ⟨rfl, h.drawn (by omega) (Below.tr hb1 hb)⟩
  | true =>
    obtain ⟨p, hp, hid⟩ := isN_at hno
    have hmem := List.mem_of_getElem? hp
    have hsm := h.inv.small p hmem
    by_cases hf : 256 ≤ M.length
    · refine (copy_full h.nt h.inv.rise (by omega) id hno hf).mono ?_
      rintro _ w1 ⟨rfl, hb1⟩
      refine ⟨0, 2, rfl, chg_bel hb1, fun w1' hb => ?_⟩
      have hR := h.rn.below (Below.tr hb1 hb)
      refine (rcopy_put (i := 0) (j := 2) (P := fun w2 => Below w1'.heap.size w1' w2) hR h.inv.rise id hno hp (fun W v hW hv => (rput_full (hR.below hW) hf _ _ v).mono ?_)).mono ?_
      · rintro _ w2 ⟨rfl, rfl⟩
        exact ⟨rfl, hW⟩
      · rintro _ w2 ⟨rfl, hb2⟩
        exact ⟨rfl, h.drawn (by omega) (Below.tr (Below.tr hb1 hb) hb2)⟩
    · refine (copy_ok h.nt h.inv.rise (by omega) id (by omega) hp hid hno).mono ?_
      rintro _ w1 ⟨rfl, ⟨Sx', hN1, hSx⟩, hc1⟩
      refine ⟨_, 0, rfl, h.chgX hc1, fun w1' hb => ?_⟩
      have hR := h.rn1 hc1 hb
      refine (rcopy_put (i := ((last + 1 : Nat) : Int)) (j := 0) (P := fun w2 => (∃ S', Rn B y A (last + 1 + 1) S' (M ++ [(last + 1, p.2.1, p.2.2.1, p.2.2.2)]) O w2 ∧ ∀ b, S' b → Sy b ∨ w1'.heap.size ≤ b) ∧ Chg Sy w1' w2) hR h.inv.rise id hno hp (fun W v hW hv => (rput_ok (hR.below hW) (by omega) (by omega) p.2.1 p.2.2.1 hv (by omega)).mono ?_)).mono ?_
      · rintro _ w2 ⟨rfl, ⟨S', hR2, hS2⟩, hc2⟩
        have zW := hW.size
        refine ⟨rfl, ⟨S', hR2, fun b q => ?_⟩, (chg_bel hW).trans (hc2.mono (fun b _ q => .inl q))⟩
        rcases hS2 b q with q | q
        · exact .inl q
        · exact .inr (by omega)
      · rintro _ w2 ⟨rfl, ⟨S', hR2, hS2⟩, hc2⟩
        exact ⟨rfl, h.done hN1 hSx hc1 hb hR2 hS2 hc2 (h.inv.put (by omega) _ _ (h.inv.act p hmem).1 (h.inv.act p hmem).2 _ hsm) h.co h.uq (by omega) (by omega) (by omega)⟩

theorem send_pair (h : Np B x y A N T w) (hN : N ≤ 1099511626000) (a b : Int) {v vb : Value} {l : List UInt8} (hr : Rd w v l) (hrb : ∀ W, Below B w W → Rd W vb l) (hl : l.length ≤ 1048576) :
    Calls Try.prog 14 #[.pointer (some ⟨x, 0, none⟩), .int .i64 a, .int .i64 b, v] w fun ret w1 => BothT B x y A (N + 1) T w 25 #[.pointer (some ⟨y, 0, none⟩), .int .i64 a, .int .i64 b, vb] ret w1 := by
  have hnp := h
  obtain ⟨last, n, Sx, Sy, M, C, O, h⟩ := h
  have hl2 := h.inv.len
  have h1 := h.ln
  have h2 := h.nn
  have h3 := h.on
  cases hab : (isAct A a && isAct A b) with
  | false =>
    refine (send_no h.nt a b v hab).mono ?_
    rintro _ w1 ⟨rfl, rfl⟩
    refine ⟨0, 1, rfl, Chg.refl _ _, fun w1' hb => (rsend_no (h.rn.below hb) a b vb hab).mono ?_⟩
    rintro _ w2 ⟨rfl, rfl⟩
    exact ⟨rfl, h.drawn (by omega) hb⟩
  | true =>
    by_cases hf : 256 ≤ M.length
    · refine (send_full h.nt a b v hab hf).mono ?_
      rintro _ w1 ⟨rfl, rfl⟩
      refine ⟨0, 2, rfl, Chg.refl _ _, fun w1' hb => (rsend_put (h.rn.below hb) a b vb hab (rput_full (h.rn.below hb) hf a b vb)).mono ?_⟩
      rintro _ w2 ⟨rfl, rfl⟩
      exact ⟨rfl, h.drawn (by omega) hb⟩
    · have hab' := hab
      rw [Bool.and_eq_true] at hab'
      have q1 := of_decide_eq_true hab'.1
      have q2 := of_decide_eq_true hab'.2
      obtain ⟨a', rfl⟩ : ∃ a' : Nat, a = (a' : Int) := ⟨a.toNat, by omega⟩
      obtain ⟨b', rfl⟩ : ∃ b' : Nat, b = (b' : Int) := ⟨b.toNat, by omega⟩
      refine (send_ok h.nt a' b' hab (by omega) (by omega) hr (by omega)).mono ?_
      rintro _ w1 ⟨rfl, ⟨Sx', hN1, hSx⟩, hc1⟩
      have hB1 := hnp.chg (h.chgX hc1)
      have hBl := hnp.leB
      have z1 := hc1.size
      refine ⟨_, 0, rfl, h.chgX hc1, fun w1' hb => (rsend_put (h.rn1 hc1 hb) _ _ vb hab (rput_ok (h.rn1 hc1 hb) (by omega) (by omega) a' b' (hrb _ (hB1.trans (hb.mono (by omega)))) (by omega))).mono ?_⟩
      rintro _ w2 ⟨rfl, ⟨S', hR2, hS2⟩, hc2⟩
      exact ⟨rfl, h.done hN1 hSx hc1 hb hR2 hS2 hc2 (h.inv.put (by omega) _ _ (by omega) (by omega) _ hl) h.co h.uq (by omega) (by omega) (by omega)⟩

theorem cut_pair (h : Np B x y A N T w) (hN : N ≤ 1048575999) (a b : Int) (ha : I64 a) (hb : I64 b) :
    Calls Try.prog 20 #[.pointer (some ⟨x, 0, none⟩), .int .i64 a, .int .i64 b] w fun ret w1 => BothE B x y A (N + 1) T w 31 #[.pointer (some ⟨y, 0, none⟩), .int .i64 a, .int .i64 b] ret w1 := by
  obtain ⟨last, n, Sx, Sy, M, C, O, h⟩ := h
  have h1 := h.ln
  have h2 := h.nn
  have h3 := h.on
  cases hp : isPr A a b with
  | false =>
    refine (cut_no h.nt a b hp).mono ?_
    rintro _ w1 ⟨rfl, rfl⟩
    refine ⟨1, rfl, Chg.refl _ _, fun w1' hb => (rcut_no (h.rn.below hb) a b hp).mono ?_⟩
    rintro _ w2 ⟨rfl, rfl⟩
    exact ⟨rfl, h.drawn (by omega) hb⟩
  | true =>
    refine (cut_ok h.nt (by omega) a b ha hb hp).mono ?_
    rintro _ w1 ⟨rfl, hN1, hc1⟩
    refine ⟨0, rfl, h.chgX hc1, fun w1' hbb => ?_⟩
    cases hO : isO O a b with
    | true =>
      refine (rcut_has (h.rn1 hc1 hbb) a b hp hO).mono ?_
      rintro _ w2 ⟨rfl, rfl⟩
      exact ⟨rfl, h.done hN1 (fun b q => .inl q) hc1 hbb (h.rn1 hc1 hbb) (fun b q => .inl q) (Chg.refl _ _) h.inv (h.co.cutHas a b ha hb hO) h.uq (by omega) (by omega) (by omega)⟩
    | false =>
      refine (rcut_new (h.rn1 hc1 hbb) a b hp hO (by omega)).mono ?_
      rintro _ w2 ⟨rfl, ⟨S', hR2, hS2⟩, hc2⟩
      exact ⟨rfl, h.done hN1 (fun b q => .inl q) hc1 hbb hR2 hS2 hc2 h.inv (h.co.cut a b hO) (h.uq.cut a b hO) (by omega) (by omega) (by simp; omega)⟩
theorem join_pair (h : Np B x y A N T w) (hN : N ≤ 1048575999) (a b : Int) (ha : I64 a) (hb : I64 b) :
    Calls Try.prog 21 #[.pointer (some ⟨x, 0, none⟩), .int .i64 a, .int .i64 b] w fun ret w1 => BothE B x y A (N + 1) T w 33 #[.pointer (some ⟨y, 0, none⟩), .int .i64 a, .int .i64 b] ret w1 := by
  obtain ⟨last, n, Sx, Sy, M, C, O, h⟩ := h
  have h1 := h.ln
  have h2 := h.nn
  have h3 := h.on
  cases hp : isPr A a b with
  | false =>
    refine (join_no h.nt a b hp).mono ?_
    rintro _ w1 ⟨rfl, rfl⟩
    refine ⟨1, rfl, Chg.refl _ _, fun w1' hb => (rjoin_no (h.rn.below hb) a b hp).mono ?_⟩
    rintro _ w2 ⟨rfl, rfl⟩
    exact ⟨rfl, h.drawn (by omega) hb⟩
  | true =>
    refine (join_ok h.nt a b ha hb hp).mono ?_
    rintro _ w1 ⟨rfl, hN1, hc1⟩
    refine ⟨0, rfl, h.chgX hc1, fun w1' hbb => ?_⟩
    cases hO : isO O a b with
    | false =>
      refine (rjoin_none (h.rn1 hc1 hbb) a b hp hO).mono ?_
      rintro _ w2 ⟨rfl, rfl⟩
      exact ⟨rfl, h.done hN1 (fun b q => .inl q) hc1 hbb (h.rn1 hc1 hbb) (fun b q => .inl q) (Chg.refl _ _) h.inv (h.co.joinNone a b ha hb hO) h.uq (by omega) (by omega) (by omega)⟩
    | true =>
      refine (rjoin_ok (h.rn1 hc1 hbb) a b hp hO (by omega)).mono ?_
      rintro _ w2 ⟨rfl, ⟨S', hR2, hS2⟩, hc2⟩
      have := (dropO_sub O (plO O a b)).length_le
      exact ⟨rfl, h.done hN1 (fun b q => .inl q) hc1 hbb hR2 hS2 hc2 h.inv (h.co.joinOk h.uq a b hO) (h.uq.drop _) (by omega) (by omega) (by omega)⟩
theorem isCut_pair (h : Np B x y A N T w) (a b : Int) (ha : I64 a) (hb : I64 b) :
    Calls Try.prog 18 #[.pointer (some ⟨x, 0, none⟩), .int .i64 a, .int .i64 b] w fun ret w1 => ∃ t, ret = .returned (.bool t) ∧ Below w.heap.size w w1 ∧ ∀ w1', Below w1.heap.size w1 w1' → Calls Try.prog 32 #[.pointer (some ⟨y, 0, none⟩), .int .i64 a, .int .i64 b] w1' fun ret2 w2 => ret2 = .returned (.bool t) ∧ w2 = w1' := by
  obtain ⟨last, n, Sx, Sy, M, C, O, h⟩ := h
  refine (isCut_any h.nt a b ha hb).mono ?_
  rintro _ w1 ⟨rfl, hb1⟩
  rw [h.co a b ha hb]
  exact ⟨_, rfl, hb1, fun w1' hbb => risCut_any (h.rn.below (Below.tr hb1 hbb)) a b⟩

/-- Deliver of both: the numbers are the same, the bytes read the same. -/
theorem deliver_pair (h : Np B x y A N T w) (id : Int) :
    Calls Try.prog 17 #[.pointer (some ⟨x, 0, none⟩), .int .i64 id] w fun ret w1 => ∃ (i f t e : Int) (va : Value) (l : List UInt8), ret = .returned (.tuple #[.agg #[.int .i64 i, .int .i64 f, .int .i64 t, va], .int .i64 e]) ∧ Chg T w w1 ∧ (∃ g m c, va = .slice g m c) ∧
      ∀ w1', Below w1.heap.size w1 w1' → Calls Try.prog 27 #[.pointer (some ⟨y, 0, none⟩), .int .i64 id] w1' fun ret2 w2 => ∃ vb, ret2 = .returned (.tuple #[.agg #[.int .i64 i, .int .i64 f, .int .i64 t, vb], .int .i64 e]) ∧ Rd w2 va l ∧ Rd w2 vb l ∧ Chg T w1' w2 ∧ Chg T w w2 ∧ Np B x y A (N + 1) (Tn T w w2) w2 := by
  obtain ⟨last, n, Sx, Sy, M, C, O, h⟩ := h
  have hl := h.inv.len
  have h1 := h.ln
  have h2 := h.nn
  have h3 := h.on
  have ha := h.a64
  cases hno : isN M id with
  | false =>
    refine (deliver_no h.nt h.inv.rise (by omega) id hno).mono ?_
    rintro _ w1 ⟨rfl, hb1⟩
    refine ⟨0, 0, 0, 30, .slice none 0 0, [], rfl, chg_bel hb1, ⟨_, _, _, rfl⟩, fun w1' hb => (rdeliver_no (h.rn.below (Below.tr hb1 hb)) h.inv.rise id hno).mono ?_⟩
    rintro _ w2 ⟨rfl, hb2⟩
    exact ⟨_, rfl, Rd.nil _, Rd.nil _, chg_bel hb2, h.drawn (by omega) (Below.tr (Below.tr hb1 hb) hb2)⟩
  | true =>
    obtain ⟨p, hp, hid⟩ := isN_at hno
    have hmem := List.mem_of_getElem? hp
    have hsm := h.inv.small p hmem
    have hact := h.inv.act p hmem
    have hc := h.co (p.2.1 : Int) (p.2.2.1 : Int) (by unfold I64; omega) (by unfold I64; omega)
    cases hO : isO O (p.2.1 : Int) (p.2.2.1 : Int) with
    | true =>
      rw [hO] at hc
      refine (deliver_cut h.nt h.inv.rise (by omega) id hno hp (by omega) hc).mono ?_
      rintro _ w1 ⟨rfl, hN1, hc1⟩
      refine ⟨0, 0, 0, 31, .slice none 0 0, [], rfl, h.chgX hc1, ⟨_, _, _, rfl⟩, fun w1' hb => (rdeliver_cut (h.rn1 hc1 hb) h.inv.rise (by omega) id hno hp hO).mono ?_⟩
      rintro _ w2 ⟨rfl, ⟨S', hR2, hS2⟩, hc2⟩
      exact ⟨_, rfl, Rd.nil _, Rd.nil _, hc2.mono (fun b _ q => h.t1 b (.inr q)), h.done hN1 (fun b q => .inl q) hc1 hb hR2 hS2 hc2 (h.inv.drop _) h.co h.uq (by omega) (by omega) (by omega)⟩
    | false =>
      rw [hO] at hc
      refine (deliver_ok h.nt h.inv.rise (by omega) id hno hp (by omega) (by omega) hc).mono ?_
      rintro _ w1 ⟨va, rfl, ho1, hN1, hc1⟩
      have hlt1 := World.ownsRow.lt ho1
      refine ⟨_, _, _, 0, va, p.2.2.2, rfl, h.chgX hc1, rowP_shape ho1, fun w1' hb => (rdeliver_ok (h.rn1 hc1 hb) h.inv.rise (by omega) id hno hp hO).mono ?_⟩
      rintro _ w2 ⟨vb, rfl, hrb, ⟨S', hR2, hS2⟩, hc2⟩
      refine ⟨_, rfl, (ho1.rd.below hb (Nat.le_refl _)).keptC hc2 (fun b e q => ?_), hrb, hc2.mono (fun b _ q => h.t1 b (.inr q)), h.done hN1 (fun b q => .inl q) hc1 hb hR2 hS2 hc2 (h.inv.drop _) h.co h.uq (by omega) (by omega) (by omega)⟩
      have := (h.rn.lt b q).2
      have := (hlt1 b e).1
      omega
theorem heal_pair (h : Np B x y A N T w) :
    Calls Try.prog 22 #[.pointer (some ⟨x, 0, none⟩)] w fun ret w1 => (∃ v, ret = .returned v) ∧ Chg T w w1 ∧ (∃ u, w1.cell? ⟨y, 3, none⟩ = some u) ∧ w1.frozen? ⟨y, 3, none⟩ = false ∧ Chg T w (w1.setCell ⟨y, 3, none⟩ (.slice none 0 0)) ∧ Np B x y A (N + 1) (Tn T w (w1.setCell ⟨y, 3, none⟩ (.slice none 0 0))) (w1.setCell ⟨y, 3, none⟩ (.slice none 0 0)) := by
  obtain ⟨last, n, Sx, Sy, M, C, O, h⟩ := h
  have h1 := h.ln
  have h2 := h.nn
  have h3 := h.on
  refine (heal_any h.nt).mono ?_
  rintro _ w1 ⟨⟨v, rfl⟩, hN1, hc1⟩
  have hR := h.rn1 hc1 (Below.refl _ _)
  obtain ⟨hR2, hc2⟩ := hR.heal
  obtain ⟨lv, ov, Q, _, hI⟩ := hR
  obtain ⟨c0, c1, c2, c3, cz⟩ := hI.cells
  exact ⟨⟨_, rfl⟩, h.chgX hc1, ⟨_, c3⟩, cz 3, h.done hN1 (fun b q => .inl q) hc1 (Below.refl _ _) hR2 (fun b q => .inl q) hc2 h.inv Co.nil List.Pairwise.nil (by omega) (by omega) (by simp)⟩
end
end Go.Proofs.Ytpieehbikmmifaa
