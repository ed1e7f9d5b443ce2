/- One part more in the document's box. -/
import Derived.Test.YtlajncjamafomaaG38
namespace Go.Proofs.Ytlajncjamafomaa
open Go.RowKit Go.Maps
set_option linter.unusedVariables false
set_option maxRecDepth 100000

theorem rdK_one (w : World) (i : Nat) (a : Option Addr) (n c : Nat) (t : TypeId) (g : Nat) (hg : g = w.heap.size) : RdK (w.alloc (.cells #[.int .u64 (i : Int), .slice a n c] t)) (.slice (some ⟨g, 0, none⟩) 1 1) [(i, a, n, c)] := by
  subst hg
  refine ⟨some ⟨w.heap.size, 0, none⟩, 1, rfl, by simp, by simp [maxLen], (fun q => by cases q), fun j p e => ⟨_, rfl, ?_⟩⟩
  have hj : j = 0 := by have := (List.getElem?_eq_some_iff.1 e).1; simpa using this
  subst hj
  simp only [List.getElem?_cons_zero, Option.some.injEq] at e
  subst e
  refine ⟨?_, ?_⟩
  · show (w.alloc (.cells #[.int .u64 (i : Int), .slice a n c] t)).cell? ⟨w.heap.size, 0, none⟩ = _
    rw [World.cell?_alloc_at _ _ _ _ rfl]; rfl
  · show (w.alloc (.cells #[.int .u64 (i : Int), .slice a n c] t)).cell? ⟨w.heap.size, 1, none⟩ = _
    rw [World.cell?_alloc_at _ _ _ _ rfl]; rfl
theorem rdK_emp {w : World} {a : Addr} {n c : Nat} {l : List Kp} (hl : l = []) (hn : n = 0) (hc : c ≤ maxLen) : RdK w (.slice (some a) n c) l := by
  subst hl
  subst hn
  exact ⟨some a, c, rfl, Nat.zero_le _, hc, (fun q => by cases q), fun i p e => by simp at e⟩
section
variable {T : Nat → Prop} {E x s n k : Nat} {ps : List (Nat × List UInt8)} {pv : Value} {us : List Kp} {w w' : World}
theorem RbI.setK (h : RbI T E x s n k ps pv us w) {k' : Nat} (hk : ∀ y ∈ ps, y.1 < k') (h64 : k' < 18446744073709551616) : RbI T E x s n k' ps pv us (w.setCell ⟨x, 2, none⟩ (.int .u64 (k' : Int))) ∧ Chg (fun b => b = x) w (w.setCell ⟨x, 2, none⟩ (.int .u64 (k' : Int))) := by
  have hc : Chg (fun b => b = x) w (w.setCell ⟨x, 2, none⟩ (.int .u64 (k' : Int))) := (Chg.refl (fun b => b = x) w).put x 2 _ rfl
  refine ⟨⟨by rw [heap_setCell_same _ _ 2 _ _ _ h.cell]; rfl, ownsRow_keptC h.row hc (fun b e q => owK_ne h.row h.cell (by decide) b e q), h.len, fun i p u e1 e2 => ⟨(h.el i p u e1 e2).1, (h.el i p u e1 e2).2.keptC hc (fun b e q => ow_ne (h.el i p u e1 e2).2 h.cell (by decide) b e q)⟩, h.rs, fun y hy => ⟨hk y hy, (h.kb y hy).2⟩, h64, h.n20, h.s32, h.lo, h.ge⟩, hc⟩
theorem RbI.setP (h : RbI T E x s n k ps pv us w) {i j : Nat} {p : List UInt8} {a : Option Addr} {m c : Nat} (hj : j ≤ ps.length) (h1 : ∀ q y, q < j → ps[q]? = some y → y.1 < i) (h2 : ∀ y, ps[j]? = some y → ¬ y.1 < i) (hlk : lkP ps i = none) (hi : i < k) (hp : p.length ≤ n) (ho : Ow E w (.slice a m c) p) {v' : Value} (hrow : OwK E w v' (us.take j ++ [(i, a, m, c)] ++ us.drop j)) (hge : ∀ b, (Value.slice a m c).ownBlock = some b → T b) :
    Rb T E x s n k (putP ps i p) (w.setCell ⟨x, 3, none⟩ v') ∧ Chg (fun b => b = x) w (w.setCell ⟨x, 3, none⟩ v') := by
  have hc : Chg (fun b => b = x) w (w.setCell ⟨x, 3, none⟩ v') := (Chg.refl (fun b => b = x) w).put x 3 _ rfl
  have hput : putP ps i p = ps.take j ++ (i, p) :: ps.drop j := by
    unfold putP
    rw [hlk]
    exact insP_split p j hj h1 h2
  have hul := h.len
  have hutl : (us.take j).length = (ps.take j).length := by rw [List.length_take, List.length_take, hul]
  refine ⟨⟨v', us.take j ++ [(i, a, m, c)] ++ us.drop j, ?_⟩, hc⟩
  refine ⟨by rw [heap_setCell_same _ _ 3 _ _ _ h.cell]; rfl, ownsRow_keptC hrow hc (fun b e q => owK_ne hrow h.cell (by decide) b e q), ?_, fun t y u e1 e2 => ?_, ?_, fun y hy => ?_, h.k64, h.n20, h.s32, h.lo, fun u hu b e => ?_⟩
  · rw [hput]; simp [hul]
  · have kp : ∀ (t : Nat) (y : Nat × List UInt8) (u : Kp), ps[t]? = some y → us[t]? = some u → u.1 = y.1 ∧ Ow E (w.setCell ⟨x, 3, none⟩ v') (kpV u) y.2 := fun t y u e1 e2 => ⟨(h.el t y u e1 e2).1, (h.el t y u e1 e2).2.keptC hc (fun b e q => ow_ne (h.el t y u e1 e2).2 h.cell (by decide) b e q)⟩
    rw [hput] at e1
    rw [List.append_assoc] at e2
    by_cases q1 : t < (ps.take j).length
    · rw [List.getElem?_append_left q1] at e1
      rw [List.getElem?_append_left (by omega)] at e2
      rw [List.length_take] at q1
      rw [List.getElem?_take, if_pos (by omega)] at e1 e2
      exact kp t y u e1 e2
    · rw [List.getElem?_append_right (by omega)] at e1
      rw [List.getElem?_append_right (by omega), hutl] at e2
      generalize t - (ps.take j).length = r at e1 e2
      cases r with
      | zero =>
        simp only [List.getElem?_cons_zero, Option.some.injEq] at e1
        simp only [List.cons_append, List.nil_append, List.getElem?_cons_zero, Option.some.injEq] at e2
        subst e1
        subst e2
        exact ⟨rfl, ho.keptC hc (fun b e q => ow_ne ho h.cell (by decide) b e q)⟩
      | succ r =>
        simp only [List.getElem?_cons_succ] at e1
        simp only [List.cons_append, List.nil_append, List.getElem?_cons_succ] at e2
        rw [List.getElem?_drop] at e1 e2
        exact kp _ y u e1 e2
  · unfold putP
    rw [hlk]
    exact insP_rises h.rs p hlk
  · rcases putP_mem ps i p y hy with rfl | hy
    · exact ⟨hi, hp⟩
    · exact h.kb y hy
  · rcases List.mem_append.1 hu with hu | hu
    · rcases List.mem_append.1 hu with hu | hu
      · exact h.ge u (List.mem_of_mem_take hu) b e
      · obtain rfl := List.mem_singleton.1 hu
        exact hge b e
    · exact h.ge u (List.mem_of_mem_drop hu) b e
end
end Go.Proofs.Ytlajncjamafomaa
