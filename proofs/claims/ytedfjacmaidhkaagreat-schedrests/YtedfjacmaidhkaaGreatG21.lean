/- Which peer stands ahead by a count of the plan's. -/
import Derived.Test.YtedfjacmaidhkaaGreatG20
import Derived.Test.YtedfjacmaidhkaaGreatG5
namespace Go.Proofs.YtedfjacmaidhkaaGreat
open Go.RowKit Go.Maps
set_option linter.unusedVariables false
set_option linter.unusedSimpArgs false
set_option maxRecDepth 100000

theorem two_bx (w : World) (a b : Obj) : ((w.alloc a).alloc b).heap[w.heap.size]? = some a ∧ ((w.alloc a).alloc b).heap[w.heap.size + 1]? = some b ∧ Below w.heap.size w ((w.alloc a).alloc b) := by
  have hz : (w.alloc a).heap.size = w.heap.size + 1 := by simp
  refine ⟨?_, ?_, ((Below.refl _ _).alloc (Nat.le_refl _) a).alloc (by rw [hz]; omega) b⟩
  · rw [Below.heap_alloc _ _ _ (by rw [hz]; omega)]; exact heap_new w a
  · rw [← hz]; exact heap_new _ b
set_option maxHeartbeats 2000000 in
theorem less_any {m n : Nat} {f : Int → Int} {p0 q0 : UInt64} {p1 q1 : Int} {p2 q2 : Bool} {w : World} (h : Im m n f w) (hp : i64 p1) (hq : i64 q1) :
    Calls Tryz.prog 83 #[.map (some m), .agg #[.int .u64 (p0.toNat : Int), .int .i64 p1, .bool p2], .agg #[.int .u64 (q0.toNat : Int), .int .i64 q1, .bool q2]] w fun e w' => e = .returned (.bool (lesF f (p0, p1, p2) (q0, q1, q2))) ∧ Below w.heap.size w w' := by
  obtain ⟨hk4, hk5, hb0⟩ := two_bx w (.cells #[.int .u64 (p0.toNat : Int), .int .i64 p1, .bool p2] 44) (.cells #[.int .u64 (q0.toNat : Int), .int .i64 q1, .bool q2] 44)
  have h0 := h.below hb0 (Nat.le_refl _)
  have hl : lesF f (p0, p1, p2) (q0, q1, q2) = decide (orF (cmpI (f p1) (f q1)) (cmpI p1 q1) < 0) := rfl
  rw [hl]
  have hcA := fun W => compareI_any (f p1) (f q1) W
  have hcB := fun W => compareI_any p1 q1 W
  have hor := fun (g : Nat) (W : World) (e0 : W.cell? ⟨g, 0, none⟩ = some (.int .i64 (cmpI (f p1) (f q1)))) (e1 : W.cell? ⟨g, 1, none⟩ = some (.int .i64 (cmpI p1 q1))) => or_any e0 e1
  generalize orF (cmpI (f p1) (f q1)) (cmpI p1 q1) = z at *
  generalize cmpI (f p1) (f q1) = ca at *
  generalize cmpI p1 q1 = cb at *
  have HOR : Hid _ := hor
  clear h hl hor
  go_enter Tryz.func83, Tryz.ntmps83
  go_upto_region 1 with fail
  generalize World.alloc (World.alloc w _) _ = w0 at *
  have HA : Hid (∀ W, Below w0.heap.size w0 W → W.cell? ⟨w.heap.size, 1, none⟩ = some (.int .i64 p1)) := fun W hW => by
    have e : W.heap[w.heap.size]? = _ := (hW.block _ (Array.getElem?_eq_some_iff.1 hk4).1).trans hk4
    rw [cell_of_row _ _ _ _ _ _ e]; rfl
  have HB : Hid (∀ W, Below w0.heap.size w0 W → W.cell? ⟨w.heap.size + 1, 1, none⟩ = some (.int .i64 q1)) := fun W hW => by
    have e : W.heap[w.heap.size + 1]? = _ := (hW.block _ (Array.getElem?_eq_some_iff.1 hk5).1).trans hk5
    rw [cell_of_row _ _ _ _ _ _ e]; rfl
  have HLA : Hid (∀ W, Below w0.heap.size w0 W → (Instr.lookup 68 (.map (some m)) (.int .i64 p1) false).run Tryz.prog W = .ok (.int .i64 (f p1)) W) := fun W hW => (h0.below hW (Nat.le_refl _)).look hp
  have HLB : Hid (∀ W, Below w0.heap.size w0 W → (Instr.lookup 68 (.map (some m)) (.int .i64 q1) false).run Tryz.prog W = .ok (.int .i64 (f q1)) W) := fun W hW => (h0.below hW (Nat.le_refl _)).look hq
  clear h0 hk4 hk5
  refine wp_region_heldN (S := fun W => Below w0.heap.size w0 W) (L := []) (by kernel_rfl) ?_
  have hS0 : Below w0.heap.size w0 w0.drew := (Below.refl _ _).drew
  have hS1 : w.heap.size ≤ w0.drew.heap.size := hb0.size
  generalize w0.drew = wd at *
  refine wpAnyN_take (i := 0) (v := .map (some m)) rfl (by kernel_rfl) (by kernel_rfl) (by kernel_rfl) (by kernel_rfl) (fun _ _ _ h => h) (.inl ⟨by kernel_rfl, fun W hW => by kernel_rfl⟩) hS0 ?_
  refine wpAnyN_take (i := 1) (v := .pointer (some ⟨w.heap.size, 1, none⟩)) rfl (by kernel_rfl) (by kernel_rfl) (by kernel_rfl) (by kernel_rfl) (fun _ _ _ h => h) (.inl ⟨by kernel_rfl, fun W hW => by kernel_rfl⟩) hS0 ?_
  refine wpAnyN_take (i := 2) (v := .int .i64 p1) rfl (by kernel_rfl) (by kernel_rfl) (by kernel_rfl) (by kernel_rfl) (fun _ _ _ h => h) (.inl ⟨by kernel_rfl, fun W hW => by have c := HA.out W hW; go_simp⟩) hS0 ?_
  refine wpAnyN_take (i := 3) (v := .int .i64 (f p1)) rfl (by kernel_rfl) (by kernel_rfl) (by kernel_rfl) (by kernel_rfl) (fun _ _ _ h => h) (.inl ⟨by kernel_rfl, fun W hW => by have c := HLA.out W hW; go_simp⟩) hS0 ?_
  refine wpAnyN_take (i := 4) (v := .map (some m)) rfl (by kernel_rfl) (by kernel_rfl) (by kernel_rfl) (by kernel_rfl) (fun _ _ _ h => h) (.inl ⟨by kernel_rfl, fun W hW => by kernel_rfl⟩) hS0 ?_
  refine wpAnyN_take (i := 5) (v := .pointer (some ⟨w.heap.size + 1, 1, none⟩)) rfl (by kernel_rfl) (by kernel_rfl) (by kernel_rfl) (by kernel_rfl) (fun _ _ _ h => h) (.inl ⟨by kernel_rfl, fun W hW => by kernel_rfl⟩) hS0 ?_
  refine wpAnyN_take (i := 6) (v := .int .i64 q1) rfl (by kernel_rfl) (by kernel_rfl) (by kernel_rfl) (by kernel_rfl) (fun _ _ _ h => h) (.inl ⟨by kernel_rfl, fun W hW => by have c := HB.out W hW; go_simp⟩) hS0 ?_
  refine wpAnyN_take (i := 7) (v := .int .i64 (f q1)) rfl (by kernel_rfl) (by kernel_rfl) (by kernel_rfl) (by kernel_rfl) (fun _ _ _ h => h) (.inl ⟨by kernel_rfl, fun W hW => by have c := HLB.out W hW; go_simp⟩) hS0 ?_
  refine wpAnyN_take (i := 9) (v := .pointer (some ⟨w.heap.size, 1, none⟩)) rfl (by kernel_rfl) (by kernel_rfl) (by kernel_rfl) (by kernel_rfl) (fun _ _ _ h => h) (.inl ⟨by kernel_rfl, fun W hW => by kernel_rfl⟩) hS0 ?_
  refine wpAnyN_take (i := 10) (v := .int .i64 p1) rfl (by kernel_rfl) (by kernel_rfl) (by kernel_rfl) (by kernel_rfl) (fun _ _ _ h => h) (.inl ⟨by kernel_rfl, fun W hW => by have c := HA.out W hW; go_simp⟩) hS0 ?_
  refine wpAnyN_take (i := 11) (v := .pointer (some ⟨w.heap.size + 1, 1, none⟩)) rfl (by kernel_rfl) (by kernel_rfl) (by kernel_rfl) (by kernel_rfl) (fun _ _ _ h => h) (.inl ⟨by kernel_rfl, fun W hW => by kernel_rfl⟩) hS0 ?_
  refine wpAnyN_take (i := 12) (v := .int .i64 q1) rfl (by kernel_rfl) (by kernel_rfl) (by kernel_rfl) (by kernel_rfl) (fun _ _ _ h => h) (.inl ⟨by kernel_rfl, fun W hW => by have c := HB.out W hW; go_simp⟩) hS0 ?_
  refine wpAnyN_one (i := 8) (by kernel_rfl) rfl (fun K hK => ?_)
  rw [if_pos (by kernel_rfl)]
  go_simp
  refine (hcA _).mono ?_
  rintro e w1 ⟨rfl, rfl⟩
  refine hK _ _ (fun _ => hS0) ?_
  clear hK K
  refine wpAnyN_one (i := 13) (by kernel_rfl) rfl (fun K hK => ?_)
  rw [if_pos (by kernel_rfl)]
  go_simp
  refine (hcB _).mono ?_
  rintro e w1 ⟨rfl, rfl⟩
  refine hK _ _ (fun _ => hS0) ?_
  clear hK K
  refine wpAnyN_one (i := 14) (by kernel_rfl) rfl (fun K hK => ?_)
  rw [if_pos (by kernel_rfl)]
  go_simp
  have hal := ob_al w1 (.cells #[.int .i64 ca, .int .i64 cb] 3)
  refine hK _ _ (fun _ => hS0.trans (hal.mono hS0.size)) ?_
  clear hK K
  have hk := heap_new w1 (.cells #[.int .i64 ca, .int .i64 cb] 3)
  have e0 : (w1.alloc (.cells #[.int .i64 ca, .int .i64 cb] 3)).cell? ⟨w1.heap.size, 0, none⟩ = some (.int .i64 ca) := by rw [cell_of_row _ _ _ _ _ _ hk]; rfl
  have e1 : (w1.alloc (.cells #[.int .i64 ca, .int .i64 cb] 3)).cell? ⟨w1.heap.size, 1, none⟩ = some (.int .i64 cb) := by rw [cell_of_row _ _ _ _ _ _ hk]; rfl
  refine wpAnyN_one (i := 15) (by kernel_rfl) rfl (fun K hK => ?_)
  rw [if_pos (by kernel_rfl)]
  go_simp
  refine (HOR.out _ _ e0 e1).mono ?_
  rintro e w2 ⟨rfl, rfl⟩
  refine hK _ _ (fun _ => hS0.trans (hal.mono hS0.size)) ?_
  clear hK K
  refine wpAnyN_one (i := 16) (by kernel_rfl) rfl (fun K hK => ?_)
  rw [if_pos (by kernel_rfl)]
  go_simp
  refine hK _ _ (fun _ => hS0.trans (hal.mono hS0.size)) ?_
  clear hK K
  refine wpAnyN_one (i := 17) (by kernel_rfl) rfl (fun K hK => ?_)
  rw [if_pos (by kernel_rfl)]
  go_simp
  refine hK _ _ (fun _ => hS0.trans (hal.mono hS0.size)) ?_
  clear hK K
  refine ⟨by kernel_rfl, ?_⟩
  go_simp
  go_wp2_with fail
  go_ret
  exact ⟨rfl, (hb0.trans (hS0.mono hb0.size)).trans (hal.mono hS1)⟩
set_option maxHeartbeats 1000000 in
theorem emptier_any {x : Nat} {d : PL} {p : PD} {p0 q0 : UInt64} {p1 q1 : Int} {p2 q2 : Bool} {w : World} (h : Pln x d p w) (hp : i64 p1) (hq : i64 q1) :
    Calls Tryz.prog 82 #[.pointer (some ⟨x, 0, none⟩), .agg #[.int .u64 (p0.toNat : Int), .int .i64 p1, .bool p2], .agg #[.int .u64 (q0.toNat : Int), .int .i64 q1, .bool q2]] w fun e w' => e = .returned (.bool (lesF p.ld (p0, p1, p2) (q0, q1, q2))) ∧ Below w.heap.size w w' := by
  obtain ⟨hk4, hk5, hb0⟩ := two_bx w (.cells #[.int .u64 (p0.toNat : Int), .int .i64 p1, .bool p2] 44) (.cells #[.int .u64 (q0.toNat : Int), .int .i64 q1, .bool q2] 44)
  have h0 := h.below hb0
  obtain ⟨n, hm⟩ := h0.ld
  have x5 : World.cell? _ ⟨x, 7, none⟩ = some (.map (some d.ml)) := h0.at_ rfl
  obtain ⟨a0, a1, a2, _⟩ := cells3 hk4
  obtain ⟨c0, c1, c2, _⟩ := cells3 hk5
  generalize p.ld = f at *
  generalize d.ml = m at *
  clear h hk4 hk5
  go_enter Tryz.func82, Tryz.ntmps82
  go_upto_region 1 with fail
  generalize World.alloc (World.alloc w _) _ = w0 at *
  have HC : Hid _ := fun W (hW : Below w0.heap.size w0 W) => less_any (p0 := p0) (p1 := p1) (p2 := p2) (q0 := q0) (q1 := q1) (q2 := q2) (hm.below hW (Nat.le_refl _))
  clear hm h0
  go_wp2_with fail
  refine wp_region_head 6 (by kernel_rfl) (by kernel_rfl) ?_
  simp only [List.take_succ_cons, List.take_zero]
  iterate 6 still_step
  refine wpStill_nil ?_
  change wpAny _ _ _ _ (1 + 1) _ _ _
  refine wpAny_ready (rs := [6]) (by kernel_rfl) (by simp) ?_
  refine AllReady.cons rfl (fun K hK => ?_) AllReady.nil
  go_simp
  refine (HC.out (w0.drewN 1) (Below.dN w0 1) (by assumption) (by assumption)).mono ?_
  rintro e w1 ⟨rfl, hb1⟩
  refine hK _ _ ?_
  clear hK K
  refine wpAny_ready (rs := [7]) (by kernel_rfl) (by simp) ?_
  refine AllReady.cons rfl (fun K hK => ?_) AllReady.nil
  go_simp
  refine hK _ _ ?_
  clear hK K
  refine wpAny_done (by kernel_rfl) ?_ _
  go_simp
  go_wp2_with fail
  go_ret
  exact ⟨rfl, (hb0.trans ((Below.dN w0 1).mono hb0.size)).trans (hb1.mono hb0.size)⟩
set_option maxHeartbeats 1000000 in
theorem fuller_any {x : Nat} {d : PL} {p : PD} {p0 q0 : UInt64} {p1 q1 : Int} {p2 q2 : Bool} {w : World} (h : Pln x d p w) (hp : i64 p1) (hq : i64 q1) :
    Calls Tryz.prog 67 #[.pointer (some ⟨x, 0, none⟩), .agg #[.int .u64 (p0.toNat : Int), .int .i64 p1, .bool p2], .agg #[.int .u64 (q0.toNat : Int), .int .i64 q1, .bool q2]] w fun e w' => e = .returned (.bool (lesF p.ld (q0, q1, q2) (p0, p1, p2))) ∧ Below w.heap.size w w' := by
  obtain ⟨hk4, hk5, hb0⟩ := two_bx w (.cells #[.int .u64 (p0.toNat : Int), .int .i64 p1, .bool p2] 44) (.cells #[.int .u64 (q0.toNat : Int), .int .i64 q1, .bool q2] 44)
  have h0 := h.below hb0
  obtain ⟨n, hm⟩ := h0.ld
  have x5 : World.cell? _ ⟨x, 7, none⟩ = some (.map (some d.ml)) := h0.at_ rfl
  obtain ⟨a0, a1, a2, _⟩ := cells3 hk4
  obtain ⟨c0, c1, c2, _⟩ := cells3 hk5
  generalize p.ld = f at *
  generalize d.ml = m at *
  clear h hk4 hk5
  go_enter Tryz.func67, Tryz.ntmps67
  go_upto_region 1 with fail
  generalize World.alloc (World.alloc w _) _ = w0 at *
  have HC : Hid _ := fun W (hW : Below w0.heap.size w0 W) => less_any (p0 := q0) (p1 := q1) (p2 := q2) (q0 := p0) (q1 := p1) (q2 := p2) (hm.below hW (Nat.le_refl _))
  clear hm h0
  go_wp2_with fail
  refine wp_region_head 6 (by kernel_rfl) (by kernel_rfl) ?_
  simp only [List.take_succ_cons, List.take_zero]
  iterate 6 still_step
  refine wpStill_nil ?_
  change wpAny _ _ _ _ (1 + 1) _ _ _
  refine wpAny_ready (rs := [6]) (by kernel_rfl) (by simp) ?_
  refine AllReady.cons rfl (fun K hK => ?_) AllReady.nil
  go_simp
  refine (HC.out (w0.drewN 1) (Below.dN w0 1) (by assumption) (by assumption)).mono ?_
  rintro e w1 ⟨rfl, hb1⟩
  refine hK _ _ ?_
  clear hK K
  refine wpAny_ready (rs := [7]) (by kernel_rfl) (by simp) ?_
  refine AllReady.cons rfl (fun K hK => ?_) AllReady.nil
  go_simp
  refine hK _ _ ?_
  clear hK K
  refine wpAny_done (by kernel_rfl) ?_ _
  go_simp
  go_wp2_with fail
  go_ret
  exact ⟨rfl, (hb0.trans ((Below.dN w0 1).mono hb0.size)).trans (hb1.mono hb0.size)⟩
set_option maxHeartbeats 1000000 in
theorem idler_any {x : Nat} {d : PL} {p : PD} {p0 q0 : UInt64} {p1 q1 : Int} {p2 q2 : Bool} {w : World} (h : Pln x d p w) (hp : i64 p1) (hq : i64 q1) :
    Calls Tryz.prog 71 #[.pointer (some ⟨x, 0, none⟩), .agg #[.int .u64 (p0.toNat : Int), .int .i64 p1, .bool p2], .agg #[.int .u64 (q0.toNat : Int), .int .i64 q1, .bool q2]] w fun e w' => e = .returned (.bool (lesF p.le (p0, p1, p2) (q0, q1, q2))) ∧ Below w.heap.size w w' := by
  obtain ⟨hk4, hk5, hb0⟩ := two_bx w (.cells #[.int .u64 (p0.toNat : Int), .int .i64 p1, .bool p2] 44) (.cells #[.int .u64 (q0.toNat : Int), .int .i64 q1, .bool q2] 44)
  have h0 := h.below hb0
  obtain ⟨n, hm⟩ := h0.le
  have x5 : World.cell? _ ⟨x, 8, none⟩ = some (.map (some d.md)) := h0.at_ rfl
  obtain ⟨a0, a1, a2, _⟩ := cells3 hk4
  obtain ⟨c0, c1, c2, _⟩ := cells3 hk5
  generalize p.le = f at *
  generalize d.md = m at *
  clear h hk4 hk5
  go_enter Tryz.func71, Tryz.ntmps71
  go_upto_region 1 with fail
  generalize World.alloc (World.alloc w _) _ = w0 at *
  have HC : Hid _ := fun W (hW : Below w0.heap.size w0 W) => less_any (p0 := p0) (p1 := p1) (p2 := p2) (q0 := q0) (q1 := q1) (q2 := q2) (hm.below hW (Nat.le_refl _))
  clear hm h0
  go_wp2_with fail
  refine wp_region_head 6 (by kernel_rfl) (by kernel_rfl) ?_
  simp only [List.take_succ_cons, List.take_zero]
  iterate 6 still_step
  refine wpStill_nil ?_
  change wpAny _ _ _ _ (1 + 1) _ _ _
  refine wpAny_ready (rs := [6]) (by kernel_rfl) (by simp) ?_
  refine AllReady.cons rfl (fun K hK => ?_) AllReady.nil
  go_simp
  refine (HC.out (w0.drewN 1) (Below.dN w0 1) (by assumption) (by assumption)).mono ?_
  rintro e w1 ⟨rfl, hb1⟩
  refine hK _ _ ?_
  clear hK K
  refine wpAny_ready (rs := [7]) (by kernel_rfl) (by simp) ?_
  refine AllReady.cons rfl (fun K hK => ?_) AllReady.nil
  go_simp
  refine hK _ _ ?_
  clear hK K
  refine wpAny_done (by kernel_rfl) ?_ _
  go_simp
  go_wp2_with fail
  go_ret
  exact ⟨rfl, (hb0.trans ((Below.dN w0 1).mono hb0.size)).trans (hb1.mono hb0.size)⟩
end Go.Proofs.YtedfjacmaidhkaaGreat
