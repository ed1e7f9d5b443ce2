/- give: of orders that count. -/
import Derived.Test.YtedfjacmaidhkaaGreatG28
namespace Go.Proofs.YtedfjacmaidhkaaGreat
open Go.RowKit Go.Maps
set_option linter.unusedVariables false
set_option linter.unusedSimpArgs false
set_option maxRecDepth 100000
section
variable {K x : Nat} {d : PL} {p : PD} {os : List Or} {w0 w : World}
set_option maxHeartbeats 4000000 in
theorem give_add (rg pee oth : Nat) (sto : Int) (h : Ful K w0 x d p os w) (hso : i64 sto) (hreg : rg < 18446744073709551616) (hld : sm62 p.ld) (hK : K + 2 < 1099511627776) (hos : os.length + 1 ≤ 1099511627776) :
    Calls Tryz.prog 45 #[.pointer (some ⟨x, 0, none⟩), .agg #[.int .i64 1, .int .u64 (rg : Int), .int .i64 sto, .int .u64 (pee : Int), .int .u64 (oth : Int)]] w fun e w' => GivP K x d p os w0 ⟨1, rg, sto, pee, oth⟩ e w' := by
  have hb0 := ob_al w (.cells #[.int .i64 1, .int .u64 (rg : Int), .int .i64 sto, .int .u64 (pee : Int), .int .u64 (oth : Int)] 32)
  have hk0 := heap_new w (.cells #[.int .i64 1, .int .u64 (rg : Int), .int .i64 sto, .int .u64 (pee : Int), .int .u64 (oth : Int)] 32)
  have h0 := h.below hb0
  clear h
  go_enter Tryz.func45, Tryz.ntmps45
  go_upto_region 1 with fail
  generalize World.alloc w _ = wa at *
  generalize w.heap.size = b3 at *
  have hbox : ∀ W : World, W.heap[b3]? = some (.cells #[.int .i64 1, .int .u64 (rg : Int), .int .i64 sto, .int .u64 (pee : Int), .int .u64 (oth : Int)] 32 (0, 0)) → W.cell? ⟨b3, 0, none⟩ = some (.int .i64 1) ∧ W.cell? ⟨b3, 1, none⟩ = some (.int .u64 (rg : Int)) ∧ W.cell? ⟨b3, 2, none⟩ = some (.int .i64 sto) ∧ W.cell? ⟨b3, 3, none⟩ = some (.int .u64 (pee : Int)) ∧ W.cell? ⟨b3, 4, none⟩ = some (.int .u64 (oth : Int)) := fun W hW => by
    obtain ⟨y0, y1, y2, y3, y4, _⟩ := cells5 hW
    exact ⟨y0, y1, y2, y3, y4⟩
  have HBX : Hid _ := hbox
  obtain ⟨z0, z1, z2, z3, z4⟩ := hbox wa hk0
  clear hbox
  have m7 : wa.cell? ⟨x, 7, none⟩ = some (.map (some d.ml)) := h0.pln.at_ rfl
  obtain ⟨n2, kn2, hl2⟩ := h0.ld
  have hl2d := hl2.below (Below.dN wa 1) (Nat.le_refl _)
  have hlk := hl2d.look (x := sto) hso
  have hwr : IntKind.i64.wrap (p.ld sto + 1) = p.ld sto + 1 := by have := hld sto; rw [IntKind.wrap_i64]; omega
  obtain ⟨w4, hr4, hg4, hc4⟩ := hl2d.put (k := sto) hso (p.ld sto + 1) (by omega)
  rw [show wa.drewN 1 = wa.drew from rfl] at hr4 hlk
  have hF4 := (h0.below (Below.dN wa 1)).putLd ⟨n2 + 1, by omega, hg4⟩ hc4
  have hk4 := (hc4.block b3 (Array.getElem?_eq_some_iff.1 hk0).1 (by obtain ⟨D, hD⟩ := hl2; exact own_nem hD.map hk0)).trans hk0
  have HF4 : Hid _ := hF4
  have HK4 : Hid _ := hk4
  clear hg4 hc4 hF4 hk4 hl2 hl2d h0
  go_upto_region 3 with fail
  refine wp_region_head 8 (by kernel_rfl) (by kernel_rfl) ?_
  simp only [List.take_succ_cons, List.take_zero]
  iterate 8 still_step
  refine wpStill_nil ?_
  change wpAny _ _ _ _ 1 _ _ _
  refine wpAny_ready (rs := [8]) (by kernel_rfl) (by simp) ?_
  refine AllReady.cons rfl (fun K8 hK8 => ?_) AllReady.nil
  go_simp
  go_simp
  refine hK8 _ _ ?_
  clear hK8 K8
  refine wpAny_done (by kernel_rfl) ?_ _
  go_simp
  clear hr4 hlk
  clear z0 z1 z2 z3 z4 m7
  have v9 : w4.cell? ⟨x, 9, none⟩ = some (.map (some d.mn)) := HF4.out.pln.at_ rfl
  obtain ⟨z0, z1, z2, z3, z4⟩ := HBX.out w4 HK4.out
  obtain ⟨n4, kn4, hg4⟩ := HF4.out.nm
  obtain ⟨w5, hr5, hg5, hc5⟩ := (hg4.below (Below.dN w4 1) (Nat.le_refl _)).put (k := rg) hreg (by omega)
  rw [show w4.drewN 1 = w4.drew from rfl] at hr5
  have hF5 := (HF4.out.below (Below.dN w4 1)).putNm ⟨n4 + 1, by omega, hg5⟩ hc5
  have hk5 := (hc5.block b3 (Array.getElem?_eq_some_iff.1 HK4.out).1 (by obtain ⟨D, hD⟩ := hg4; exact own_nem hD.map HK4.out)).trans HK4.out
  have HF5 : Hid _ := hF5
  have HK5 : Hid _ := hk5
  clear hg5 hc5 hF5 hk5 hg4
  go_upto_region 8 with fail
  refine wp_region_head 7 (by kernel_rfl) (by kernel_rfl) ?_
  simp only [List.take_succ_cons, List.take_zero]
  iterate 7 still_step
  refine wpStill_nil ?_
  change wpAny _ _ _ _ 1 _ _ _
  refine wpAny_ready (rs := [7]) (by kernel_rfl) (by simp) ?_
  refine AllReady.cons rfl (fun K8 hK8 => ?_) AllReady.nil
  go_simp
  go_simp
  refine hK8 _ _ ?_
  clear hK8 K8
  refine wpAny_done (by kernel_rfl) ?_ _
  go_simp
  have m10 : w5.cell? ⟨x, 10, none⟩ = some (sv d.ov) := HF5.out.pln.at_ rfl
  obtain ⟨y0, y1, y2, y3, y4⟩ := HBX.out w5 HK5.out
  have m11 : (w5.alloc (.cells #[.int .i64 1, .int .u64 (rg : Int), .int .i64 sto, .int .u64 (pee : Int), .int .u64 (oth : Int)] 32)).cell? ⟨x, 10, none⟩ = some (sv d.ov) := (HF5.out.below (ob_al w5 _)).pln.at_ rfl
  simp only [sv] at m10 m11
  obtain ⟨hrow, hA, hB, hmid, hput⟩ := HF5.out.app ⟨1, rg, sto, pee, oth⟩
  have HP : Hid _ := hput
  clear hput HBX hr5 hk0 z0 z1 z2 z3 z4 v9
  go_wp2_with fail
  go_region_law
    ((first
    | (refine step_appOr rfl _ _ rfl w0.heap.size (.slice d.ov.1 d.ov.2.1 d.ov.2.2) os rfl hrow ⟨w5.heap.size, 0, none⟩ 1 ⟨1, rg, sto, pee, oth⟩ rfl hA hB hos ?_; intro v6 w6 ho6 hg6 hv6; obtain ⟨a6, n6, c6, rfl⟩ := row_shape ho6; obtain ⟨q1, q2⟩ := hmid w6 hg6)
    | fail))
  all_goals go_wp2_with fail
  all_goals go_end0
  all_goals exact ⟨⟨_, rfl⟩, (a6, n6, c6), by exact (HP.out w6 (a6, n6, c6) hg6 ho6)⟩
set_option maxHeartbeats 4000000 in
theorem give_rem (rg pee oth : Nat) (sto : Int) (h : Ful K w0 x d p os w) (hso : i64 sto) (hreg : rg < 18446744073709551616) (hld : sm62 p.ld) (hK : K + 2 < 1099511627776) (hos : os.length + 1 ≤ 1099511627776) :
    Calls Tryz.prog 45 #[.pointer (some ⟨x, 0, none⟩), .agg #[.int .i64 3, .int .u64 (rg : Int), .int .i64 sto, .int .u64 (pee : Int), .int .u64 (oth : Int)]] w fun e w' => GivP K x d p os w0 ⟨3, rg, sto, pee, oth⟩ e w' := by
  have hb0 := ob_al w (.cells #[.int .i64 3, .int .u64 (rg : Int), .int .i64 sto, .int .u64 (pee : Int), .int .u64 (oth : Int)] 32)
  have hk0 := heap_new w (.cells #[.int .i64 3, .int .u64 (rg : Int), .int .i64 sto, .int .u64 (pee : Int), .int .u64 (oth : Int)] 32)
  have h0 := h.below hb0
  clear h
  go_enter Tryz.func45, Tryz.ntmps45
  go_upto_region 1 with fail
  generalize World.alloc w _ = wa at *
  generalize w.heap.size = b3 at *
  have hbox : ∀ W : World, W.heap[b3]? = some (.cells #[.int .i64 3, .int .u64 (rg : Int), .int .i64 sto, .int .u64 (pee : Int), .int .u64 (oth : Int)] 32 (0, 0)) → W.cell? ⟨b3, 0, none⟩ = some (.int .i64 3) ∧ W.cell? ⟨b3, 1, none⟩ = some (.int .u64 (rg : Int)) ∧ W.cell? ⟨b3, 2, none⟩ = some (.int .i64 sto) ∧ W.cell? ⟨b3, 3, none⟩ = some (.int .u64 (pee : Int)) ∧ W.cell? ⟨b3, 4, none⟩ = some (.int .u64 (oth : Int)) := fun W hW => by
    obtain ⟨y0, y1, y2, y3, y4, _⟩ := cells5 hW
    exact ⟨y0, y1, y2, y3, y4⟩
  have HBX : Hid _ := hbox
  obtain ⟨z0, z1, z2, z3, z4⟩ := hbox wa hk0
  clear hbox
  have m7 : wa.cell? ⟨x, 7, none⟩ = some (.map (some d.ml)) := h0.pln.at_ rfl
  obtain ⟨n2, kn2, hl2⟩ := h0.ld
  have hl2d := hl2.below (Below.dN wa 1) (Nat.le_refl _)
  have hlk := hl2d.look (x := sto) hso
  have hwr : IntKind.i64.wrap (p.ld sto - 1) = p.ld sto - 1 := by have := hld sto; rw [IntKind.wrap_i64]; omega
  obtain ⟨w4, hr4, hg4, hc4⟩ := hl2d.put (k := sto) hso (p.ld sto - 1) (by omega)
  rw [show wa.drewN 1 = wa.drew from rfl] at hr4 hlk
  have hF4 := (h0.below (Below.dN wa 1)).putLd ⟨n2 + 1, by omega, hg4⟩ hc4
  have hk4 := (hc4.block b3 (Array.getElem?_eq_some_iff.1 hk0).1 (by obtain ⟨D, hD⟩ := hl2; exact own_nem hD.map hk0)).trans hk0
  have HF4 : Hid _ := hF4
  have HK4 : Hid _ := hk4
  clear hg4 hc4 hF4 hk4 hl2 hl2d h0
  go_upto_region 5 with fail
  refine wp_region_head 8 (by kernel_rfl) (by kernel_rfl) ?_
  simp only [List.take_succ_cons, List.take_zero]
  iterate 8 still_step
  refine wpStill_nil ?_
  change wpAny _ _ _ _ 1 _ _ _
  refine wpAny_ready (rs := [8]) (by kernel_rfl) (by simp) ?_
  refine AllReady.cons rfl (fun K8 hK8 => ?_) AllReady.nil
  go_simp
  go_simp
  refine hK8 _ _ ?_
  clear hK8 K8
  refine wpAny_done (by kernel_rfl) ?_ _
  go_simp
  clear hr4 hlk
  clear z0 z1 z2 z3 z4 m7
  have v9 : w4.cell? ⟨x, 9, none⟩ = some (.map (some d.mn)) := HF4.out.pln.at_ rfl
  obtain ⟨z0, z1, z2, z3, z4⟩ := HBX.out w4 HK4.out
  obtain ⟨n4, kn4, hg4⟩ := HF4.out.nm
  obtain ⟨w5, hr5, hg5, hc5⟩ := (hg4.below (Below.dN w4 1) (Nat.le_refl _)).put (k := rg) hreg (by omega)
  rw [show w4.drewN 1 = w4.drew from rfl] at hr5
  have hF5 := (HF4.out.below (Below.dN w4 1)).putNm ⟨n4 + 1, by omega, hg5⟩ hc5
  have hk5 := (hc5.block b3 (Array.getElem?_eq_some_iff.1 HK4.out).1 (by obtain ⟨D, hD⟩ := hg4; exact own_nem hD.map HK4.out)).trans HK4.out
  have HF5 : Hid _ := hF5
  have HK5 : Hid _ := hk5
  clear hg5 hc5 hF5 hk5 hg4
  go_upto_region 8 with fail
  refine wp_region_head 7 (by kernel_rfl) (by kernel_rfl) ?_
  simp only [List.take_succ_cons, List.take_zero]
  iterate 7 still_step
  refine wpStill_nil ?_
  change wpAny _ _ _ _ 1 _ _ _
  refine wpAny_ready (rs := [7]) (by kernel_rfl) (by simp) ?_
  refine AllReady.cons rfl (fun K8 hK8 => ?_) AllReady.nil
  go_simp
  go_simp
  refine hK8 _ _ ?_
  clear hK8 K8
  refine wpAny_done (by kernel_rfl) ?_ _
  go_simp
  have m10 : w5.cell? ⟨x, 10, none⟩ = some (sv d.ov) := HF5.out.pln.at_ rfl
  obtain ⟨y0, y1, y2, y3, y4⟩ := HBX.out w5 HK5.out
  have m11 : (w5.alloc (.cells #[.int .i64 3, .int .u64 (rg : Int), .int .i64 sto, .int .u64 (pee : Int), .int .u64 (oth : Int)] 32)).cell? ⟨x, 10, none⟩ = some (sv d.ov) := (HF5.out.below (ob_al w5 _)).pln.at_ rfl
  simp only [sv] at m10 m11
  obtain ⟨hrow, hA, hB, hmid, hput⟩ := HF5.out.app ⟨3, rg, sto, pee, oth⟩
  have HP : Hid _ := hput
  clear hput HBX hr5 hk0 z0 z1 z2 z3 z4 v9
  go_wp2_with fail
  go_region_law
    ((first
    | (refine step_appOr rfl _ _ rfl w0.heap.size (.slice d.ov.1 d.ov.2.1 d.ov.2.2) os rfl hrow ⟨w5.heap.size, 0, none⟩ 1 ⟨3, rg, sto, pee, oth⟩ rfl hA hB hos ?_; intro v6 w6 ho6 hg6 hv6; obtain ⟨a6, n6, c6, rfl⟩ := row_shape ho6; obtain ⟨q1, q2⟩ := hmid w6 hg6)
    | fail))
  all_goals go_wp2_with fail
  all_goals go_end0
  all_goals exact ⟨⟨_, rfl⟩, (a6, n6, c6), by exact (HP.out w6 (a6, n6, c6) hg6 ho6)⟩
/-- give, of every order but a merge. -/
theorem give_any (o : Or) (h : Ful K w0 x d p os w) (hk : o.kind ≠ 6) (hso : i64 o.store) (hreg : o.reg < 18446744073709551616) (hld : sm62 p.ld) (hK : K + 2 < 1099511627776) (hos : os.length + 1 ≤ 1099511627776) :
    Calls Tryz.prog 45 #[.pointer (some ⟨x, 0, none⟩), orV o] w fun e w' => GivP K x d p os w0 o e w' := by
  by_cases h1 : o.kind = 1
  · obtain ⟨k, rg, sto, pee, oth⟩ := o
    obtain rfl : k = 1 := h1
    exact give_add rg pee oth sto h hso hreg hld hK hos
  · by_cases h3 : o.kind = 3
    · obtain ⟨k, rg, sto, pee, oth⟩ := o
      obtain rfl : k = 3 := h3
      exact give_rem rg pee oth sto h hso hreg hld hK hos
    · exact give_oth o h hk h1 h3 hso hreg hld hK hos
end
end Go.Proofs.YtedfjacmaidhkaaGreat
