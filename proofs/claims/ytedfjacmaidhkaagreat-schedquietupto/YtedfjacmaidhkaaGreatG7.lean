/- The queue's Less, Swap and Len. -/
import Derived.Test.YtedfjacmaidhkaaGreatG6
import Derived.Test.YtedfjacmaidhkaaGreatG3
namespace Go.Proofs.YtedfjacmaidhkaaGreat
open Go.RowKit
set_option linter.unusedVariables false
set_option linter.unusedSimpArgs false
set_option maxRecDepth 100000

section
variable {B p : Nat} {f : Value} {x : Option Addr × Nat × Nat} {w w' : World} {H : List Pe}
set_option maxHeartbeats 2000000 in
theorem qless_any {lt : Pe → Pe → Bool} (h : Qu B p f x w H) (hA : Ahead w f lt) {i j : Nat} {a b : Pe} (ha : H[i]? = some a) (hb : H[j]? = some b) :
    Calls Tryz.prog 142 #[.pointer (some ⟨p, 0, none⟩), .int .i64 i, .int .i64 j] w fun e w' => e = .returned (.bool (lt a b)) ∧ Below w.heap.size w w' := by
  obtain ⟨g, c, hd, h1, h2, hi, a0, a1, a2, fr⟩ := h.at_ ha
  obtain ⟨g', c', ev, _, _, hj, b0, b1, b2, _⟩ := h.at_ hb
  rw [hd] at ev
  simp only [Prod.mk.injEq, Option.some.injEq, Addr.mk.injEq, and_true, true_and] at ev
  obtain ⟨rfl, rfl⟩ := ev
  obtain ⟨v0, v1, -⟩ := h.vx
  rw [hd] at v0
  simp only [sv] at v0
  unfold maxLen at h2
  obtain ⟨F, caps, ⟨rfl, hE, hcp⟩, hx⟩ := hA
  have hii : (i : Int) < (H.length : Int) := by omega
  have hji : (j : Int) < (H.length : Int) := by omega
  have hx1 := hx a b (w.drewN 1) (h.dom a (List.mem_of_getElem? ha)) (h.dom b (List.mem_of_getElem? hb)) (Below.dN w 1)
  clear hx hd h ha hb
  generalize lt a b = T at *
  generalize H.length = n at *
  obtain ⟨x1, x2, x3⟩ := a
  obtain ⟨y1, y2, y3⟩ := b
  simp only [peV] at *
  have hfin : ∀ w3, Below (w.drewN 1).heap.size (w.drewN 1) w3 → Below w.heap.size w w3 := fun w3 q => (Below.dN w 1).trans q
  rcases hcp with rfl | ⟨cv, rfl⟩
  · rw [show ∀ u v : Value, (#[] : Array Value) ++ #[u, v] = #[u, v] from fun u v => by simp] at hx1
    go_enter Tryz.func142, Tryz.ntmps142
    go_wp2_with fail
    refine wp_region_head 18 (by kernel_rfl) (by kernel_rfl) ?_
    simp only [List.take_succ_cons, List.take_zero]
    iterate 18 still_step
    refine wpStill_nil ?_
    change wpAny _ _ _ _ (1 + 1) _ _ _
    refine wpAny_ready (rs := [18]) (by kernel_rfl) (by simp) ?_
    refine AllReady.cons rfl (fun K hK => ?_) AllReady.nil
    go_simp
    refine hx1.mono ?_
    rintro e w3 ⟨rfl, hb3⟩
    refine hK _ _ ?_
    clear hK K
    refine wpAny_ready (rs := [19]) (by kernel_rfl) (by simp) ?_
    refine AllReady.cons rfl (fun K hK => ?_) AllReady.nil
    go_simp
    refine hK _ _ ?_
    clear hK K
    refine wpAny_done (by kernel_rfl) ?_ _
    go_simp
    go_wp2_with fail
    go_ret
    exact ⟨rfl, hfin _ hb3⟩
  · rw [show ∀ u v : Value, (#[cv] : Array Value) ++ #[u, v] = #[cv, u, v] from fun u v => by simp] at hx1
    go_enter Tryz.func142, Tryz.ntmps142
    go_wp2_with fail
    refine wp_region_head 18 (by kernel_rfl) (by kernel_rfl) ?_
    simp only [List.take_succ_cons, List.take_zero]
    iterate 18 still_step
    refine wpStill_nil ?_
    change wpAny _ _ _ _ (1 + 1) _ _ _
    refine wpAny_ready (rs := [18]) (by kernel_rfl) (by simp) ?_
    refine AllReady.cons rfl (fun K hK => ?_) AllReady.nil
    go_simp
    refine hx1.mono ?_
    rintro e w3 ⟨rfl, hb3⟩
    refine hK _ _ ?_
    clear hK K
    refine wpAny_ready (rs := [19]) (by kernel_rfl) (by simp) ?_
    refine AllReady.cons rfl (fun K hK => ?_) AllReady.nil
    go_simp
    refine hK _ _ ?_
    clear hK K
    refine wpAny_done (by kernel_rfl) ?_ _
    go_simp
    go_wp2_with fail
    go_ret
    exact ⟨rfl, hfin _ hb3⟩

theorem qlen_any (h : Qu B p f x w H) : Calls Tryz.prog 78 #[.pointer (some ⟨p, 0, none⟩)] w fun e w' => e = .returned (.int .i64 (H.length : Int)) ∧ Below w.heap.size w w' := by
  have hl := h.len
  obtain ⟨v0, -, -⟩ := h.vx
  unfold sv at v0
  rw [hl] at v0
  clear h hl
  go_enter Tryz.func78, Tryz.ntmps78
  go_wp2_with fail
  go_ret
  exact ⟨rfl, Below.refl _ _⟩

end
end Go.Proofs.YtedfjacmaidhkaaGreat
