/- refused, New, give. -/
import Derived.Test.YtlfdcnojbbigbaaG13
import Derived.Laws.EntriesVeiled
import Derived.Deep.Cut
namespace Go.Proofs.Ytlfdcnojbbigbaa
open Go.RowKit Go.Maps
set_option linter.unusedVariables false
set_option linter.unusedSimpArgs false
set_option maxRecDepth 100000

theorem prefused_any (er : Int) (w : World) : Calls Try.prog 14 #[.int .i64 er] w fun e w' => e = .returned (prA er 0 0) ∧ Below w.heap.size w w' := by
  go_enter Try.func14, Try.ntmps14
  go_wp2_with fail
  refine bodyPost_ret (v := prA er 0 0) (by simp [results, Try.results14, go_sem]; try rfl) rfl ?_
  exact ⟨rfl, (Below.refl _ _).alloc (Nat.le_refl _) _⟩

theorem pnew_any (n : Nat) (hn : 1 ≤ n) (hn2 : n < 18446744073709551616) (w : World) : Calls Try.prog 5 #[.int .u64 (n : Int)] w fun e w' => e = .returned (.pointer (some ⟨w.heap.size + 3, 0, none⟩)) ∧ Drv (w.heap.size + 3) ⟨n - 1, 0, 0, 0, w.heap.size, (none, 0, 0), (none, 0, 0), w.heap.size + 1, w.heap.size + 2⟩ w' ∧ w'.heap[w.heap.size]? = some (.map #[] 0) ∧ w'.heap[w.heap.size + 1]? = some (.map #[] 0) ∧ w'.heap[w.heap.size + 2]? = some (.map #[] 0) ∧ Below w.heap.size w w' := by
  have hm : max (n : Int) 1 = (n : Int) := by omega
  have hs : IntKind.u64.wrap ((n : Int) - 1) = ((n - 1 : Nat) : Int) := by rw [IntKind.wrap_u64]; omega
  have hmm := @run_makeMap Try.prog
  go_enter Try.func5, Try.ntmps5
  go_wp2_with fail
  go_ret
  have e1 : (w.alloc (.map #[] 0)).heap.size = w.heap.size + 1 := by simp
  have e2 : ((w.alloc (.map #[] 0)).alloc (.map #[] 0)).heap.size = w.heap.size + 2 := by simp
  have e3 : (((w.alloc (.map #[] 0)).alloc (.map #[] 0)).alloc (.map #[] 0)).heap.size = w.heap.size + 3 := by simp
  have n1 := heap_new w (.map #[] 0)
  have n2 := heap_new (w.alloc (.map #[] 0)) (.map #[] 0)
  have n3 := heap_new ((w.alloc (.map #[] 0)).alloc (.map #[] 0)) (.map #[] 0)
  rw [e1] at n2
  rw [e2] at n3
  refine ⟨rfl, ?_, ?_, ?_, ?_, ?_⟩
  · unfold Drv
    have := heap_new (((w.alloc (.map #[] 0)).alloc (.map #[] 0)).alloc (.map #[] 0)) (.cells #[.int .u64 ((n - 1 : Nat) : Int), .int .u64 0, .int .u64 0, .int .u64 0, .map (some w.heap.size), .slice none 0 0, .slice none 0 0, .map (some (w.heap.size + 1)), .map (some (w.heap.size + 1 + 1))] 55)
    rw [e3] at this
    exact this
  · rw [Below.heap_alloc _ _ _ (by omega), Below.heap_alloc _ _ _ (by omega), Below.heap_alloc _ _ _ (by omega)]; exact n1
  · rw [Below.heap_alloc _ _ _ (by omega), Below.heap_alloc _ _ _ (by omega)]; exact n2
  · rw [Below.heap_alloc _ _ _ (by omega)]; exact n3
  · exact ((((Below.refl _ _).alloc (Nat.le_refl _) _).alloc (by omega) _).alloc (by omega) _).alloc (by omega) _

set_option maxHeartbeats 1000000 in
theorem give_ok (c : PC) {p : Nat} {d : DC} {w : World} (h : Drv p d w) (h1 : 1 ≤ c.n) (h2 : c.n ≤ 1000) (h3 : d.g + c.n < 18446744073709551616) :
    Calls Try.prog 24 #[.pointer (some ⟨p, 0, none⟩), .agg (pcA c)] w fun e w' => e = .returned (prA 0 ((d.g + 1 : Nat) : Int) 0) ∧ Drv p { d with g := d.g + c.n } w' ∧ Chg (fun b => b = p) w w' := by
  have hbx := Bxd.new c w
  have hB0 := (two_new w (.cells (pcA c) 40) (.cells #[.int .i64 0, .int .u64 0, .int .i64 0] 42)).2.2
  have hd := h.belowN hB0 (Nat.le_refl _)
  have hpx := h.lt
  have g1 : ¬ (c.n : Int) < 1 := by omega
  have g2 : ¬ (c.n : Int) > 1000 := by omega
  have g3 : ¬ (c.n : Int) > 18446744073709551615 - (d.g : Int) := by omega
  obtain ⟨G, hG⟩ : ∃ G, d.g + c.n = G := ⟨_, rfl⟩
  obtain ⟨F, hF⟩ : ∃ F, d.g + 1 = F := ⟨_, rfl⟩
  have gG : (d.g : Int) + (c.n : Int) = (G : Int) := by omega
  have gF : (d.g : Int) + 1 = (F : Int) := by omega
  rw [hG, hF]
  clear hG hF
  go_enter Try.func24, Try.ntmps24
  go_upto_region 1 with fail
  generalize World.alloc (World.alloc w _) _ = W at *
  obtain ⟨r0, r1, r2, f5, f6, f7⟩ := hbx.rs
  have c1 : W.cell? ⟨w.heap.size, 1, none⟩ = some (.int .u64 (c.n : Int)) := hbx.at_ rfl
  have p0 : W.cell? ⟨p, 0, none⟩ = some (.int .u64 (d.g : Int)) := hd.at_ rfl
  have f0 := hd.froz 0
  go_wp2_with fail
  go_quiet (fail)
  go_wp2_with fail
  go_region
  go_wp2_with fail
  have hd1 := (hd.drewN (nq + 1)).setG G
  have hc1 := (chg_dN (fun b => b = p) W (nq + 1)).trans ((chg_p p 0 (.int .u64 (G : Int)) (W.drewN (nq + 1))).mono (fun b _ q => .inl q))
  have hb1 := (hbx.drewN (nq + 1)).next (chg_p p 0 (.int .u64 (G : Int)) (W.drewN (nq + 1))) (by omega) (by omega)
  obtain ⟨⟨k0, k1, k2⟩, hc⟩ := pr_fin hb1.res (.int .i64 0) (.int .u64 (F : Int)) (.int .i64 0)
  have hfin := fin_chg hB0 hc1 hc
  have hd2 := hd1.next hc (by omega)
  clear hc hc1 hb1 hd1
  generalize World.setCell _ ⟨_, 2, none⟩ _ = wz at *
  refine bodyPost_ret (v := prA 0 (F : Int) 0) (by simp [results, Try.results24, go_sem, k0, k1, k2]; try rfl) rfl ?_
  exact ⟨rfl, hd2, hfin⟩
end Go.Proofs.Ytlfdcnojbbigbaa
