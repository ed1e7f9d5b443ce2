/- The document's box in memory. -/
import Derived.Test.YtlajncjamafomaaG14
import Derived.Test.YtlajncjamafomaaG32
namespace Go.Proofs.Ytlajncjamafomaa
open Go.RowKit Go.Maps
set_option linter.unusedVariables false
set_option maxRecDepth 100000

/-- Where a part lies among those that rise. -/
theorem insP_split {ps : List (Nat × List UInt8)} {i : Nat} (p : List UInt8) (k : Nat) (hk : k ≤ ps.length) (h1 : ∀ j x, j < k → ps[j]? = some x → x.1 < i) (h2 : ∀ x, ps[k]? = some x → ¬ x.1 < i) : insP ps i p = ps.take k ++ (i, p) :: ps.drop k := by
  induction ps generalizing k with
  | nil =>
    obtain rfl : k = 0 := by simpa using hk
    rfl
  | cons a r ih =>
    obtain ⟨q, x⟩ := a
    cases k with
    | zero =>
      have := h2 (q, x) rfl
      simp only [insP]
      rw [if_neg this]
      rfl
    | succ k =>
      have h0 := h1 0 (q, x) (by omega) rfl
      simp only [insP]
      rw [if_pos h0, ih k (by simpa using hk) (fun j y hj e => h1 (j + 1) y (by omega) e) (fun y e => h2 y e)]
      simp
theorem lkP_at {ps : List (Nat × List UInt8)} {i k : Nat} {p : List UInt8} (h1 : ∀ j x, j < k → ps[j]? = some x → x.1 ≠ i) (h2 : ps[k]? = some (i, p)) : lkP ps i = some p := by
  induction ps generalizing k with
  | nil => simp at h2
  | cons a r ih =>
    obtain ⟨q, x⟩ := a
    cases k with
    | zero =>
      simp only [List.getElem?_cons_zero, Option.some.injEq, Prod.mk.injEq] at h2
      unfold lkP
      rw [if_pos h2.1, h2.2]
    | succ k =>
      have h0 := h1 0 (q, x) (by omega) rfl
      unfold lkP
      rw [if_neg h0]
      exact ih (fun j y hj e => h1 (j + 1) y (by omega) e) h2
theorem lkP_no {ps : List (Nat × List UInt8)} {i : Nat} (h : ∀ j x, j < ps.length → ps[j]? = some x → x.1 ≠ i) : lkP ps i = none := by
  cases q : lkP ps i with
  | none => rfl
  | some p =>
    obtain ⟨j, hj, e⟩ := List.getElem_of_mem (lkP_mem q)
    exact absurd (by rw [e]) (h j ps[j] hj (by simp [hj]))
theorem RdK.pre {w : World} {ao : Option Addr} {n c : Nat} {E : List Kp} (h : RdK w (.slice ao n c) E) (j : Nat) (hj : j ≤ E.length) : RdK w (.slice ao j c) (E.take j) := by
  obtain ⟨ao', c', e, h1, h2, h3, h4⟩ := h
  simp only [Value.slice.injEq] at e
  obtain ⟨rfl, rfl, rfl⟩ := e
  have hl : (E.take j).length = j := by rw [List.length_take]; omega
  refine ⟨ao, c, by rw [hl], by omega, h2, h3, fun i p hi => ?_⟩
  have hi2 := (List.getElem?_eq_some_iff.1 hi).1
  rw [List.getElem?_take, if_pos (by omega)] at hi
  exact h4 i p hi
theorem RdK.post {w : World} {g n c : Nat} {E : List Kp} (h : RdK w (.slice (some ⟨g, 0, none⟩) n c) E) (j : Nat) (hj : j ≤ E.length) (a' : Addr) (ha : (c = j → True) ∧ (¬ c = j → a' = ⟨g, j * 2, none⟩)) : RdK w (.slice (some a') (n - j) (c - j)) (E.drop j) := by
  obtain ⟨ao', c', e, h1, h2, h3, h4⟩ := h
  simp only [Value.slice.injEq] at e
  obtain ⟨rfl, rfl, rfl⟩ := e
  have hl : (E.drop j).length = E.length - j := by rw [List.length_drop]
  refine ⟨some a', c - j, by rw [hl], by omega, by omega, (fun q => by cases q), fun i p hi => ⟨a', rfl, ?_⟩⟩
  have hi2 := (List.getElem?_eq_some_iff.1 hi).1
  have hne : ¬ c = j := by omega
  rw [List.getElem?_drop] at hi
  obtain ⟨a0, ea, hc⟩ := h4 (j + i) p hi
  obtain rfl := Option.some.inj ea
  rw [ha.2 hne]
  have e1 : (⟨g, j * 2, none⟩ : Addr).add (i * 2) = (⟨g, 0, none⟩ : Addr).add ((j + i) * 2) := by
    rw [Addr.add_lit, Addr.add_lit]
    congr 1
    omega
  rw [e1]
  exact hc

theorem owK_ne {B g : Nat} {w : World} {v : Value} {l : List Kp} {cs : Array Value} {t : TypeId} {fr : Nat × Nat} (h : OwK B w v l) (hg : w.heap[g]? = some (.cells cs t fr)) (ht : t ≠ 89) (b : Nat) (e : v.ownBlock = some b) : b ≠ g := by
  rcases h.2 with ⟨rfl, _⟩ | ⟨g', cap, cur, rfl, _, hh, _⟩
  · cases e
  · obtain rfl : g' = b := Option.some.inj e
    rintro rfl
    rw [hh] at hg
    have := Option.some.inj hg
    simp only [Obj.cells.injEq] at this
    exact ht this.2.1.symm

structure RbI (T : Nat → Prop) (E x s n k : Nat) (ps : List (Nat × List UInt8)) (pv : Value) (us : List Kp) (w : World) : Prop where
  cell : w.heap[x]? = some (.cells #[.int .u32 (s : Int), .int .i64 (n : Int), .int .u64 (k : Int), pv] 79 (0, 0))
  row : OwK E w pv us
  len : us.length = ps.length
  el : ∀ (i : Nat) (p : Nat × List UInt8) (u : Kp), ps[i]? = some p → us[i]? = some u → u.1 = p.1 ∧ Ow E w (kpV u) p.2
  rs : RsP ps
  kb : ∀ y ∈ ps, y.1 < k ∧ y.2.length ≤ n
  k64 : k < 18446744073709551616
  n20 : n ≤ 1048576
  s32 : s < 4294967296
  lo : E ≤ x
  ge : ∀ u ∈ us, ∀ b, (kpV u).ownBlock = some b → T b
/-- The document's box. -/
def Rb (T : Nat → Prop) (E x s n k : Nat) (ps : List (Nat × List UInt8)) (w : World) : Prop := ∃ pv us, RbI T E x s n k ps pv us w
section
variable {T : Nat → Prop} {E x s n k : Nat} {ps : List (Nat × List UInt8)} {pv : Value} {us : List Kp} {w w' : World}
theorem RbI.lt (h : RbI T E x s n k ps pv us w) : x < w.heap.size := (Array.getElem?_eq_some_iff.1 h.cell).1
theorem RbI.next {S : Nat → Prop} (h : RbI T E x s n k ps pv us w) (hc : Chg S w w') (hS : ∀ b, E ≤ b → b < w.heap.size → ¬ S b) : RbI T E x s n k ps pv us w' :=
  ⟨by rw [hc.block x h.lt (hS x h.lo h.lt)]; exact h.cell, ownsRow_keptC h.row hc (fun b e => hS b (h.row.lt b e).1 (h.row.lt b e).2), h.len, fun i p u e1 e2 => ⟨(h.el i p u e1 e2).1, (h.el i p u e1 e2).2.keptC hc (fun b e => hS b (World.ownsRow.lt (h.el i p u e1 e2).2 b e).1 (World.ownsRow.lt (h.el i p u e1 e2).2 b e).2)⟩, h.rs, h.kb, h.k64, h.n20, h.s32, h.lo, h.ge⟩
theorem RbI.below {F : Nat} (h : RbI T E x s n k ps pv us w) (hb : Below F w w') (hF : w.heap.size ≤ F) : RbI T E x s n k ps pv us w' := h.next (Chg.of_below hb) (fun b _ h2 q => by omega)
theorem Rb.below {F : Nat} (h : Rb T E x s n k ps w) (hb : Below F w w') (hF : w.heap.size ≤ F) : Rb T E x s n k ps w' := by
  obtain ⟨pv, us, h⟩ := h
  exact ⟨pv, us, h.below hb hF⟩
theorem Rb.next {S : Nat → Prop} (h : Rb T E x s n k ps w) (hc : Chg S w w') (hS : ∀ b, E ≤ b → b < w.heap.size → ¬ S b) : Rb T E x s n k ps w' := by
  obtain ⟨pv, us, h⟩ := h
  exact ⟨pv, us, h.next hc hS⟩
theorem Rb.mono {T' : Nat → Prop} (h : Rb T E x s n k ps w) (hT : ∀ b, b < w.heap.size → T b → T' b) : Rb T' E x s n k ps w := by
  obtain ⟨pv, us, h⟩ := h
  refine ⟨pv, us, h.cell, h.row, h.len, h.el, h.rs, h.kb, h.k64, h.n20, h.s32, h.lo, fun u hu b e => ?_⟩
  obtain ⟨i, hi, rfl⟩ := List.getElem_of_mem hu
  have hi2 : i < ps.length := by rw [← h.len]; exact hi
  have ho := (h.el i ps[i] us[i] (by simp [hi2]) (by simp [hi])).2
  exact hT b (World.ownsRow.lt ho b e).2 (h.ge _ hu b e)
theorem Rb.any (h : Rb T E x s n k ps w) : Rb (fun _ => True) E x s n k ps w := h.mono (fun _ _ _ => trivial)
/-- A block of bytes that is none of its parts' turns. -/
theorem Rb.turn {g : Nat} {cs : Array Value} {fr : Nat × Nat} (h : Rb T E x s n k ps w) (hg : w.heap[g]? = some (.cells cs 5 fr)) (hT : ¬ T g) (hc : Chg (fun b => b = g) w w') : Rb T E x s n k ps w' := by
  obtain ⟨pv, us, h⟩ := h
  have hx : x ≠ g := fun e => by
    have h1 := h.cell
    rw [e, hg] at h1
    have h2 := Option.some.inj h1
    simp only [Obj.cells.injEq] at h2
    exact absurd h2.2.1 (by decide)
  refine ⟨pv, us, by rw [hc.block x h.lt hx]; exact h.cell, ownsRow_keptC h.row hc (fun b e q => owK_ne h.row hg (by decide) b e q), h.len, fun i p u e1 e2 => ⟨(h.el i p u e1 e2).1, (h.el i p u e1 e2).2.keptC hc (fun b e q => hT (by rw [← q]; exact h.ge u (List.mem_of_getElem? e2) b e))⟩, h.rs, h.kb, h.k64, h.n20, h.s32, h.lo, h.ge⟩
theorem RbI.cells (h : RbI T E x s n k ps pv us w) : w.cell? ⟨x, 0, none⟩ = some (.int .u32 (s : Int)) ∧ w.cell? ⟨x, 1, none⟩ = some (.int .i64 (n : Int)) ∧ w.cell? ⟨x, 2, none⟩ = some (.int .u64 (k : Int)) ∧ w.cell? ⟨x, 3, none⟩ = some pv ∧ ∀ i, w.frozen? ⟨x, i, none⟩ = false :=
  ⟨by rw [cell_of_row _ _ _ _ _ _ h.cell]; rfl, by rw [cell_of_row _ _ _ _ _ _ h.cell]; rfl, by rw [cell_of_row _ _ _ _ _ _ h.cell]; rfl, by rw [cell_of_row _ _ _ _ _ _ h.cell]; rfl, fun i => frozen_of_row _ _ _ _ _ h.cell⟩
/-- Its row: none, or at the head of a block. -/
theorem RbI.blk (h : RbI T E x s n k ps pv us w) : (pv = .slice none 0 0 ∧ ps = []) ∨ ∃ g c, pv = .slice (some ⟨g, 0, none⟩) ps.length c ∧ ps.length ≤ c ∧ c ≤ 9223372036854775807 ∧ E ≤ g ∧ g < w.heap.size ∧ ∀ i u, us[i]? = some u → w.cell? ⟨g, i * 2, none⟩ = some (.int .u64 (u.1 : Int)) ∧ w.cell? ⟨g, i * 2 + 1, none⟩ = some (kpV u) := by
  rcases h.row.blk with ⟨q1, q2⟩ | ⟨g, c, q1, q2, q3, q4, q5, q6, _⟩
  · left
    refine ⟨q1, List.length_eq_zero_iff.1 ?_⟩
    rw [← h.len, q2]; rfl
  · right
    rw [h.len] at q1 q2
    refine ⟨g, c, q1, q2, by unfold maxLen at q3; omega, q4, q5, fun i u e => ?_⟩
    obtain ⟨e0, e1⟩ := kcs_at us i u e
    exact ⟨q6 _ _ e0, q6 _ _ e1⟩
end
set_option maxHeartbeats 1000000 in
theorem rnewBox_ok (T : Nat → Prop) (s n : Nat) (hs : s < 4294967296) (hn : n ≤ 1048576) (w : World) (E : Nat) (hE : E ≤ w.heap.size) : Calls Try.prog 18 #[.int .u32 (s : Int), .int .i64 (n : Int)] w fun e w' => ∃ x, e = .returned (.tuple #[.pointer (some ⟨x, 0, none⟩), .int .i64 0]) ∧ Rb T E x s n 0 [] w' ∧ Below w.heap.size w w' := by
  have g1 : ¬ (n : Int) < 0 := by omega
  have g2 : ¬ (n : Int) > 1048576 := by omega
  go_enter Try.func18, Try.ntmps18
  go_wp2_with fail
  go_ret2
  refine ⟨_, rfl, ⟨.slice none 0 0, [], ?_, OwK.nil _ _, rfl, fun i p u e => by simp at e, List.Pairwise.nil, fun y hy => (by cases hy), by omega, hn, hs, hE, fun u hu => (by cases hu)⟩, pk_al w _⟩
  exact pk_new w _
theorem rnewBox_err (s : Nat) (z : Int) (hz : z < 0 ∨ 1048576 < z) (w : World) : Calls Try.prog 18 #[.int .u32 (s : Int), .int .i64 z] w fun e w' => e = .returned (.tuple #[.pointer none, .int .i64 1]) ∧ w' = w := by
  by_cases h : z < 0
  · go_enter Try.func18, Try.ntmps18
    go_wp2_with fail
    go_ret2
    exact ⟨rfl, rfl⟩
  · have h2 : 1048576 < z := by omega
    go_enter Try.func18, Try.ntmps18
    go_wp2_with fail
    go_ret2
    exact ⟨rfl, rfl⟩
end Go.Proofs.Ytlajncjamafomaa
