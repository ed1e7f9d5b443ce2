/- How many vote; the first rule. -/
import Derived.Test.YtedfjacmaidhkaaGreatG22
import Derived.Deep.Cut
namespace Go.Proofs.YtedfjacmaidhkaaGreat
open Go.RowKit Go.Maps
set_option linter.unusedVariables false
set_option linter.unusedSimpArgs false
set_option maxRecDepth 100000

theorem rdis_2 {w : World} {g : Nat} {f1 f2 : Value} {t : TypeId} {o1 o2 : Pe → Bool} (h : w.heap[g]? = some (.cells #[f1, f2] t (0, 0))) (h1 : Is w f1 o1) (h2 : Is w f2 o2) : RdIs w (.slice (some ⟨g, 0, none⟩) 2 2) [o1, o2] := by
  refine ⟨⟨g, 0, none⟩, 2, rfl, by simp, by omega, fun i ok hi => ?_⟩
  match i with
  | 0 => simp at hi; subst hi; exact ⟨f1, by rw [Addr.add_lit, Nat.zero_add, cell_of_row _ _ _ _ _ _ h]; rfl, h1⟩
  | 1 => simp at hi; subst hi; exact ⟨f2, by rw [Addr.add_lit, Nat.zero_add, cell_of_row _ _ _ _ _ _ h]; rfl, h2⟩
  | i + 2 => simp at hi
theorem rdis_1 {w : World} {g : Nat} {f1 : Value} {t : TypeId} {o1 : Pe → Bool} (h : w.heap[g]? = some (.cells #[f1] t (0, 0))) (h1 : Is w f1 o1) : RdIs w (.slice (some ⟨g, 0, none⟩) 1 1) [o1] := by
  refine ⟨⟨g, 0, none⟩, 1, rfl, by simp, by omega, fun i ok hi => ?_⟩
  match i with
  | 0 => simp at hi; subst hi; exact ⟨f1, by rw [Addr.add_lit, Nat.zero_add, cell_of_row _ _ _ _ _ _ h]; rfl, h1⟩
  | i + 1 => simp at hi
theorem set5_block {w : World} {g : Nat} {u0 u1 u2 u3 u4 : Value} {t : TypeId} (h : w.heap[g]? = some (.cells #[u0, u1, u2, u3, u4] t (0, 0))) (v0 v1 v2 v3 v4 : Value) : (((((w.setCell ⟨g, 0, none⟩ v0).setCell ⟨g, 1, none⟩ v1).setCell ⟨g, 2, none⟩ v2).setCell ⟨g, 3, none⟩ v3).setCell ⟨g, 4, none⟩ v4).heap[g]? = some (.cells #[v0, v1, v2, v3, v4] t (0, 0)) := by
  have h0 := heap_setCell_same w g 0 _ _ v0 h
  have h1 := heap_setCell_same _ g 1 _ _ v1 h0
  have h2 := heap_setCell_same _ g 2 _ _ v2 h1
  have h3 := heap_setCell_same _ g 3 _ _ v3 h2
  have h4 := heap_setCell_same _ g 4 _ _ v4 h3
  rw [h4]
  rfl
theorem set5_chg (w : World) (g : Nat) (v0 v1 v2 v3 v4 : Value) : Chg (fun b => b = g) w (((((w.setCell ⟨g, 0, none⟩ v0).setCell ⟨g, 1, none⟩ v1).setCell ⟨g, 2, none⟩ v2).setCell ⟨g, 3, none⟩ v3).setCell ⟨g, 4, none⟩ v4) :=
  (((((Chg.refl (fun b => b = g) w).put g 0 v0 rfl).put g 1 v1 rfl).put g 2 v2 rfl).put g 3 v3 rfl).put g 4 v4 rfl
theorem cells5 {w : World} {g : Nat} {u0 u1 u2 u3 u4 : Value} {t : TypeId} (h : w.heap[g]? = some (.cells #[u0, u1, u2, u3, u4] t (0, 0))) : w.cell? ⟨g, 0, none⟩ = some u0 ∧ w.cell? ⟨g, 1, none⟩ = some u1 ∧ w.cell? ⟨g, 2, none⟩ = some u2 ∧ w.cell? ⟨g, 3, none⟩ = some u3 ∧ w.cell? ⟨g, 4, none⟩ = some u4 ∧ ∀ i, w.frozen? ⟨g, i, none⟩ = false := by
  have k : ∀ i v, (#[u0, u1, u2, u3, u4] : Array Value)[i]? = some v → w.cell? ⟨g, i, none⟩ = some v := fun i v hv => by rw [cell_of_row _ _ _ _ _ _ h]; exact hv
  exact ⟨k 0 _ rfl, k 1 _ rfl, k 2 _ rfl, k 3 _ rfl, k 4 _ rfl, fun i => frozen_of_row _ _ _ _ _ h⟩
/-- A box among the call's own blocks in a later world. -/
theorem keep_blk {w w' : World} {g : Nat} {ob : Obj} (h : w.heap[g]? = some ob) (hb : Below w.heap.size w w') : w'.heap[g]? = some ob := (hb.block g (Array.getElem?_eq_some_iff.1 h).1).trans h
def votF (q : Pe) : Bool := !q.2.2
def lrnF (q : Pe) : Bool := q.2.2
def voF (p : PD) (r : RV) : Nat := (onlyF r.ps [livF p.ss, votF]).length
section
variable {x : Nat} {d : PL} {p : PD} {r : RV} {w : World}
set_option maxHeartbeats 1000000 in
theorem voting_any (h : Pln x d p w) (hr : It9 w r) (hl : r.ps.length ≤ 1099511627000) :
    Calls Tryz.prog 59 #[.pointer (some ⟨x, 0, none⟩), .agg #[.int .u64 (r.id.toNat : Int), .slice r.sa r.s.length r.sc, .slice r.ea r.e.length r.ec, .int .u64 r.cf, .int .u64 r.vr, .slice r.pa r.ps.length r.pc, .int .i64 r.ld, .int .i64 r.sz, .bool r.bz]] w fun e w' => e = .returned (.int .i64 (voF p r : Int)) ∧ Below w.heap.size w w' := by
  have hb0 := ob_al w (.cells #[.int .u64 (r.id.toNat : Int), .slice r.sa r.s.length r.sc, .slice r.ea r.e.length r.ec, .int .u64 r.cf, .int .u64 r.vr, .slice r.pa r.ps.length r.pc, .int .i64 r.ld, .int .i64 r.sz, .bool r.bz] 42)
  have hk0 := heap_new w (.cells #[.int .u64 (r.id.toNat : Int), .slice r.sa r.s.length r.sc, .slice r.ea r.e.length r.ec, .int .u64 r.cf, .int .u64 r.vr, .slice r.pa r.ps.length r.pc, .int .i64 r.ld, .int .i64 r.sz, .bool r.bz] 42)
  have h0 := h.below hb0
  have hr0 := hr.below hb0 (Nat.le_refl _)
  have hmf : ∀ (fn : Fn) (first cap : Array Value) (w : World), (Instr.makeFunc fn first cap).run Tryz.prog w = .ok (.func fn first cap) w := fun _ _ _ _ => rfl
  clear h hr
  go_enter Tryz.func59, Tryz.ntmps59
  go_upto_region 1 with fail
  generalize World.alloc w _ = w0 at *
  obtain ⟨-, -, -, -, -, c5, -, -, -⟩ := nine_at (r := r) hk0
  have hb1 := ob_al w0 (.cells #[.func (.func 62) #[.pointer (some ⟨x, 0, none⟩)] #[], .func (.func 26) #[] #[]] 78)
  have hon := only_any (hr0.p.below hb1 (Nat.le_refl _)) (rdis_2 (heap_new w0 (.cells #[.func (.func 62) #[.pointer (some ⟨x, 0, none⟩)] #[], .func (.func 26) #[] #[]] 78)) (is_lives (h0.below hb1)) (is_votes _)) hl
  have HV : Hid (voF p r = (onlyF r.ps [livF p.ss, fun q => !q.2.2]).length) := rfl
  generalize onlyF r.ps [livF p.ss, fun q => !q.2.2] = L at *
  clear h0 hr0 hk0
  go_wp2_with fail
  refine hon.mono ?_
  rintro e w1 ⟨v1, rfl, ho1, hb2⟩
  obtain ⟨a1, d1, rfl, -⟩ := ho1.rd.shape
  clear hon
  go_wp2_with fail
  go_ret
  exact ⟨by rw [HV.out]; rfl, (hb0.trans (hb1.mono hb0.size)).trans (hb2.mono (hb0.trans (hb1.mono hb0.size)).size)⟩
end
/-- What a rule answers. -/
def RuA (w : World) (S : Or → Bool → Prop) (e : Ending) (w' : World) : Prop := ∃ o b, e = .returned (.tuple #[orV o, .bool b]) ∧ S o b ∧ Below w.heap.size w w'
theorem RuA.mk {w w' : World} {S : Or → Bool → Prop} {e : Ending} (o : Or) (b : Bool) (h1 : e = .returned (.tuple #[orV o, .bool b])) (h2 : S o b) (h3 : Below w.heap.size w w') : RuA w S e w' := ⟨o, b, h1, h2, h3⟩
theorem none_any (w : World) : Calls Tryz.prog 60 #[] w fun e w' => e = .returned (.tuple #[orV noOr, .bool false]) ∧ Below w.heap.size w w' := by
  have hk := heap_new w (.cells #[.int .i64 0, .int .u64 0, .int .i64 0, .int .u64 0, .int .u64 0] 32)
  have hb0 := ob_al w (.cells #[.int .i64 0, .int .u64 0, .int .i64 0, .int .u64 0, .int .u64 0] 32)
  go_enter Tryz.func60, Tryz.ntmps60
  go_upto_region 1 with fail
  generalize World.alloc w _ = w0 at *
  obtain ⟨m0, m1, m2, m3, m4, m5⟩ := cells5 hk
  have f0 := m5 0
  have f1 := m5 1
  have f2 := m5 2
  have f3 := m5 3
  have f4 := m5 4
  have hst := set5_block hk (.int .i64 0) (.int .u64 0) (.int .i64 0) (.int .u64 0) (.int .u64 0)
  have hch := set5_chg w0 w.heap.size (.int .i64 0) (.int .u64 0) (.int .i64 0) (.int .u64 0) (.int .u64 0)
  have HF : Hid _ := hb0.trans (hch.below (fun b q => by omega) hb0.size)
  clear m5 hch
  go_wp2_with fail
  generalize World.setCell _ ⟨_, 4, none⟩ _ = wz at *
  obtain ⟨k0, k1, k2, k3, k4, _⟩ := cells5 hst
  refine bodyPost_ret (v := .tuple #[.agg #[.int .i64 0, .int .u64 0, .int .i64 0, .int .u64 0, .int .u64 0], .bool false]) (by simp [results, Tryz.results60, go_sem, k0, k1, k2, k3, k4]; try rfl) rfl ?_
  exact ⟨rfl, HF.out⟩
end Go.Proofs.YtedfjacmaidhkaaGreat
