/- What is asked of a peer; which one stands ahead. -/
import Derived.Test.YtedfjacmaidhkaaGreatG8
import Derived.Test.YtedfjacmaidhkaaGreatG14
import Derived.Test.YtedfjacmaidhkaaGreatG7
import Derived.Test.YtedfjacmaidhkaaGreatG1
import Derived.Test.YtedfjacmaidhkaaGreatG5
import Derived.Laws.StructEq
import Derived.Deep.Cut
namespace Go.Proofs.YtedfjacmaidhkaaGreat
open Go.RowKit Go.Maps
set_option linter.unusedVariables false
set_option linter.unusedSimpArgs false
set_option maxRecDepth 100000

theorem eql_sw (W : World) (a c : Int) (b d : Bool) : (binOp .eql 48 (.agg #[.int .i64 a, .bool b]) (.agg #[.int .i64 c, .bool d])).run Tryz.prog W = .ok (.bool (a == c && b == d)) W := by
  rw [run_eql_struct, run_equalIn_agg _ _ _ _ _ (by kernel_rfl) (by kernel_rfl)]
  simp only [Program.fieldsOf, Tryz.underlying48]
  go_simp
  by_cases h1 : a = c
  · subst h1
    cases b <;> cases d <;> simp
  · simp [h1]
set_option maxHeartbeats 1000000 in
theorem indexSw_any {v : Value} {l : List Sw} {st : Int} {w : World} (hr : RdSw w v l) :
    Calls Tryz.prog 98 #[v, .agg #[.int .i64 st, .bool true]] w fun e w' => ∃ r : Int, e = .returned (.int .i64 r) ∧ decide (0 ≤ r) = l.contains (st, true) ∧ Below w.heap.size w w' := by
  have hb0 := ob_al w (.cells #[.int .i64 st, .bool true] 48)
  have hk0 := heap_new w (.cells #[.int .i64 st, .bool true] 48)
  have hz0 : (w.alloc (.cells #[.int .i64 st, .bool true] 48)).heap.size = w.heap.size + 1 := by simp
  have HR : Hid (RdSw w v l) := hr
  obtain ⟨ao, c, rfl, h1, h2, h3⟩ := hr
  have heq := eql_sw
  have HL : Hid (l.contains (st, true) = (l.drop 0).contains (st, true)) := rfl
  generalize hres : l.contains (st, true) = res at *
  clear h3 hres
  generalize hn : l.length = n at *
  have HN : Hid (l.length = n) := hn
  clear hn
  go_enter Tryz.func98, Tryz.ntmps98
  go_upto_region 1 with fail
  generalize World.alloc w _ = w0 at *
  go_wp2_with fail
  go_loopw [5, 8] (fun _ i wr => ∃ k : Nat, k ≤ n ∧ i = .int .i64 k ∧ Hid (res = (l.drop k).contains (st, true)) ∧ Below w0.heap.size w0 wr) (fun _ i _ => n - (intOf i).toNat)
  case atStart => exact ⟨0, Nat.zero_le _, rfl, HL, Below.refl _ _⟩
  case round =>
    obtain ⟨k, hk, rfl, HX, hb⟩ := hrel
    have hbw : Below w.heap.size w wr := hb0.trans (hb.mono hb0.size)
    by_cases hlt : k < n
    · have hlt' : k < l.length := by rw [HN.out]; exact hlt
      have HT : Hid (l.drop k = l[k] :: l.drop (k + 1)) := List.drop_eq_getElem_cons hlt'
      obtain ⟨ao', c', e, _, _, h4⟩ := HR.out.below hbw (Nat.le_refl _)
      simp only [Value.slice.injEq] at e
      obtain ⟨rfl, -, rfl⟩ := e
      obtain ⟨a, rfl, c0, c1⟩ := h4 k _ (List.getElem?_eq_getElem hlt')
      clear h4
      have hkb : wr.heap[w.heap.size]? = some (.cells #[.int .i64 st, .bool true] 48 (0, 0)) := (hb.block _ (by omega)).trans hk0
      have m0 : wr.cell? ⟨w.heap.size, 0, none⟩ = some (.int .i64 st) := by rw [cell_of_row _ _ _ _ _ _ hkb]; rfl
      have m1 : wr.cell? ⟨w.heap.size, 1, none⟩ = some (.bool true) := by rw [cell_of_row _ _ _ _ _ _ hkb]; rfl
      have hki : (k : Int) < (n : Int) := by omega
      have hlen : n ≤ 9223372036854775807 := by omega
      generalize l[k] = e at *
      obtain ⟨e0, e1⟩ := e
      simp only [] at c0 c1
      clear hkb
      by_cases hq : (e0, e1) = (st, true)
      · simp only [Prod.mk.injEq] at hq
        obtain ⟨rfl, rfl⟩ := hq
        have hT : (e0 == e0 && true == true) = true := by simp
        have HS : Hid (res = true) := by
          show _ = _
          rw [HX.out, HT.out]; simp
        have heq2 := fun W => eql_sw W e0 e0 true true
        rw [hT] at heq2
        clear heq
        go_wp2_with fail
        go_quiet (fail)
        go_wp2_with fail
        go_ret
        refine ⟨_, rfl, ?_, hbw.trans ((Below.dN wr _).mono hbw.size)⟩
        rw [HS.out]; simp
      · have hF : (st == e0 && true == e1) = false := by
          rw [Bool.eq_false_iff]
          intro q
          simp only [Bool.and_eq_true, beq_iff_eq] at q
          exact hq (by rw [q.1, ← q.2])
        have HS : Hid (res = (l.drop (k + 1)).contains (st, true)) := by
          show _ = _
          rw [HX.out, HT.out, List.contains_cons]
          have : ((st, true) == (e0, e1)) = false := beq_eq_false_iff_ne.2 (fun q => hq q.symm)
          rw [this, Bool.false_or]
        have heq2 := fun W => eql_sw W st e0 true e1
        rw [hF] at heq2
        clear heq hq
        go_wp2_with fail
        go_quiet (fail)
        go_wp2_with fail
        exact ⟨⟨k + 1, by omega, by go_num, HS.out, hb.trans ((Below.dN wr _).mono hb.size)⟩, by simp [intOf]; omega⟩
    · have HS : Hid (res = false) := by
        show _ = _
        rw [HX.out, List.drop_of_length_le (by rw [HN.out]; omega)]; rfl
      clear heq
      go_wp2_with fail
      go_ret
      exact ⟨_, rfl, by rw [HS.out]; rfl, hbw⟩
theorem containsSw_any {v : Value} {l : List Sw} {st : Int} {w : World} (hr : RdSw w v l) :
    Calls Tryz.prog 80 #[v, .agg #[.int .i64 st, .bool true]] w fun e w' => e = .returned (.bool (l.contains (st, true))) ∧ Below w.heap.size w w' := by
  have hb0 := ob_al w (.cells #[.int .i64 st, .bool true] 48)
  have hk0 := heap_new w (.cells #[.int .i64 st, .bool true] 48)
  have hix := indexSw_any (st := st) (hr.below hb0 (Nat.le_refl _))
  obtain ⟨ao, c, rfl, -⟩ := hr
  generalize l.contains (st, true) = res at *
  go_enter Tryz.func80, Tryz.ntmps80
  go_upto_region 1 with fail
  have m0 : (w.alloc (.cells #[.int .i64 st, .bool true] 48)).cell? ⟨w.heap.size, 0, none⟩ = some (.int .i64 st) := by rw [cell_of_row _ _ _ _ _ _ hk0]; rfl
  have m1 : (w.alloc (.cells #[.int .i64 st, .bool true] 48)).cell? ⟨w.heap.size, 1, none⟩ = some (.bool true) := by rw [cell_of_row _ _ _ _ _ _ hk0]; rfl
  clear hk0
  generalize World.alloc w _ = w0 at *
  go_wp2_with fail
  refine hix.mono ?_
  rintro e w1 ⟨r, rfl, hr, hb1⟩
  have HR : Hid _ := hr
  clear hr
  go_wp2_with fail
  go_ret
  exact ⟨by rw [← HR.out]; first | rfl | simp, hb0.trans (hb1.mono hb0.size)⟩
section
variable {x : Nat} {d : PL} {p : PD} {w : World}
set_option maxHeartbeats 1000000 in
theorem lives_any {p0 : UInt64} {p1 : Int} {p2 : Bool} (h : Pln x d p w) :
    Calls Tryz.prog 62 #[.pointer (some ⟨x, 0, none⟩), .agg #[.int .u64 (p0.toNat : Int), .int .i64 p1, .bool p2]] w fun e w' => e = .returned (.bool (livF p.ss (p0, p1, p2))) ∧ Below w.heap.size w w' := by
  have hb0 := ob_al w (.cells #[.int .u64 (p0.toNat : Int), .int .i64 p1, .bool p2] 44)
  have h0 := h.below hb0
  obtain ⟨m0, m1, m2, _⟩ := cells3 (heap_new w (.cells #[.int .u64 (p0.toNat : Int), .int .i64 p1, .bool p2] 44))
  have x4 := h0.at_ (i := 4) rfl
  have HSS : Hid (∀ W, Below (w.alloc (.cells #[.int .u64 (p0.toNat : Int), .int .i64 p1, .bool p2] 44)).heap.size (w.alloc (.cells #[.int .u64 (p0.toNat : Int), .int .i64 p1, .bool p2] 44)) W → RdSw W (sv d.sv) p.ss) := fun W hW => h0.ss.below hW (Nat.le_refl _)
  have hl : livF p.ss (p0, p1, p2) = p.ss.contains (p1, true) := rfl
  rw [hl]
  have HC : Hid _ := fun W hW => containsSw_any (st := p1) (HSS.out W hW)
  generalize p.ss.contains (p1, true) = res at *
  simp only [sv] at *
  clear h h0 hl HSS
  go_enter Tryz.func62, Tryz.ntmps62
  go_upto_region 1 with fail
  generalize World.alloc w _ = w0 at *
  go_wp2_with fail
  refine wp_region_head 7 (by kernel_rfl) (by kernel_rfl) ?_
  simp only [List.take_succ_cons, List.take_zero]
  iterate 7 still_step
  refine wpStill_nil ?_
  change wpAny _ _ _ _ (1 + 1) _ _ _
  refine wpAny_ready (rs := [7]) (by kernel_rfl) (by simp) ?_
  refine AllReady.cons rfl (fun K hK => ?_) AllReady.nil
  go_simp
  refine (HC.out (w0.drewN 1) (Below.dN w0 1)).mono ?_
  rintro e w1 ⟨rfl, hb1⟩
  refine hK _ _ ?_
  clear hK K
  refine wpAny_ready (rs := [8]) (by kernel_rfl) (by simp) ?_
  refine AllReady.cons rfl (fun K hK => ?_) AllReady.nil
  go_simp
  refine hK _ _ ?_
  clear hK K
  refine wpAny_done (by kernel_rfl) ?_ _
  go_simp
  go_wp2_with fail
  go_ret
  exact ⟨rfl, (hb0.trans ((Below.dN w0 1).mono hb0.size)).trans (hb1.mono hb0.size)⟩
theorem lost_any {p0 : UInt64} {p1 : Int} {p2 : Bool} (h : Pln x d p w) :
    Calls Tryz.prog 66 #[.pointer (some ⟨x, 0, none⟩), .agg #[.int .u64 (p0.toNat : Int), .int .i64 p1, .bool p2]] w fun e w' => e = .returned (.bool (!livF p.ss (p0, p1, p2))) ∧ Below w.heap.size w w' := by
  have hb0 := ob_al w (.cells #[.int .u64 (p0.toNat : Int), .int .i64 p1, .bool p2] 44)
  have h0 := h.below hb0
  obtain ⟨m0, m1, m2, _⟩ := cells3 (heap_new w (.cells #[.int .u64 (p0.toNat : Int), .int .i64 p1, .bool p2] 44))
  have hc := lives_any (p0 := p0) (p1 := p1) (p2 := p2) h0
  generalize livF p.ss (p0, p1, p2) = res at *
  clear h h0
  go_enter Tryz.func66, Tryz.ntmps66
  go_upto_region 1 with fail
  generalize World.alloc w _ = w0 at *
  go_wp2_with fail
  refine hc.mono ?_
  rintro e w1 ⟨rfl, hb1⟩
  go_wp2_with fail
  go_ret
  exact ⟨rfl, hb0.trans (hb1.mono hb0.size)⟩
end
theorem votes_any {p0 : UInt64} {p1 : Int} {p2 : Bool} (w : World) : Calls Tryz.prog 26 #[.agg #[.int .u64 (p0.toNat : Int), .int .i64 p1, .bool p2]] w fun e w' => e = .returned (.bool (!p2)) ∧ Below w.heap.size w w' := by
  go_enter Tryz.func26, Tryz.ntmps26
  go_wp2_with fail
  go_ret
  exact ⟨rfl, ob_al _ _⟩
theorem learns_any {p0 : UInt64} {p1 : Int} {p2 : Bool} (w : World) : Calls Tryz.prog 63 #[.agg #[.int .u64 (p0.toNat : Int), .int .i64 p1, .bool p2]] w fun e w' => e = .returned (.bool p2) ∧ Below w.heap.size w w' := by
  go_enter Tryz.func63, Tryz.ntmps63
  go_wp2_with fail
  go_ret
  exact ⟨rfl, ob_al _ _⟩
def oldF (a b : Pe) : Bool := decide (a.1.toNat < b.1.toNat)
theorem older_any {p0 q0 : UInt64} {p1 q1 : Int} {p2 q2 : Bool} (w : World) : Calls Tryz.prog 64 #[.agg #[.int .u64 (p0.toNat : Int), .int .i64 p1, .bool p2], .agg #[.int .u64 (q0.toNat : Int), .int .i64 q1, .bool q2]] w fun e w' => e = .returned (.bool (oldF (p0, p1, p2) (q0, q1, q2))) ∧ Below w.heap.size w w' := by
  have hl : oldF (p0, p1, p2) (q0, q1, q2) = decide (p0.toNat < q0.toNat) := rfl
  rw [hl]
  clear hl
  go_enter Tryz.func64, Tryz.ntmps64
  go_wp2_with fail
  go_ret
  exact ⟨by congr 2, (ob_al w _).trans ((ob_al _ _).mono (ob_al w _).size)⟩
/-- Which one stands ahead by a count. -/
def lesF (f : Int → Int) (a b : Pe) : Bool := decide (orF (cmpI (f a.2.1) (f b.2.1)) (cmpI a.2.1 b.2.1) < 0)
theorem lesF_iff (f : Int → Int) (a b : Pe) : lesF f a b = true ↔ f a.2.1 < f b.2.1 ∨ (f a.2.1 = f b.2.1 ∧ a.2.1 < b.2.1) := by
  unfold lesF orF cmpI
  rw [decide_eq_true_iff]
  by_cases h1 : f a.2.1 < f b.2.1
  · simp [h1]
  · by_cases h2 : f b.2.1 < f a.2.1
    · simp [h1, h2]; omega
    · by_cases h3 : a.2.1 < b.2.1
      · simp [h1, h2, h3]; omega
      · by_cases h4 : b.2.1 < a.2.1 <;> simp [h1, h2, h3, h4]
theorem ord_les (f : Int → Int) : Ord3 (lesF f) := by
  have no : ∀ a b, lesF f a b = false ↔ ¬ (f a.2.1 < f b.2.1 ∨ (f a.2.1 = f b.2.1 ∧ a.2.1 < b.2.1)) := fun a b => by rw [← lesF_iff, Bool.not_eq_true]
  exact ⟨fun a b c h1 h2 => by rw [no] at *; omega, fun a b h => by rw [lesF_iff] at h; rw [no]; omega, fun a => by rw [no]; omega⟩
theorem ord_gre (f : Int → Int) : Ord3 (fun a b => lesF f b a) := by
  have no : ∀ a b, lesF f a b = false ↔ ¬ (f a.2.1 < f b.2.1 ∨ (f a.2.1 = f b.2.1 ∧ a.2.1 < b.2.1)) := fun a b => by rw [← lesF_iff, Bool.not_eq_true]
  exact ⟨fun a b c h1 h2 => by rw [no] at *; omega, fun a b h => by rw [lesF_iff] at h; rw [no]; omega, fun a => by rw [no]; omega⟩
theorem ord_old : Ord3 oldF := by
  unfold oldF
  exact ⟨fun a b c h1 h2 => by rw [decide_eq_false_iff_not] at *; omega, fun a b h => by rw [decide_eq_true_iff] at h; rw [decide_eq_false_iff_not]; omega, fun a => by rw [decide_eq_false_iff_not]; omega⟩
end Go.Proofs.YtedfjacmaidhkaaGreat
