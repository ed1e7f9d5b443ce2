/- Do: the kind chooses what is done. -/
import Derived.Test.YtlfdcnojbbigbaaG13
import Derived.Laws.EntriesVeiled
import Derived.Deep.Cut
import Derived.Test.YtlfdcnojbbigbaaG9
namespace Go.Proofs.Ytlfdcnojbbigbaa
open Go.RowKit Go.Maps
set_option linter.unusedVariables false
set_option linter.unusedSimpArgs false
set_option maxRecDepth 100000

def kds : Array Value := #[.nilFunc, .func (.func 24) #[] #[], .func (.func 25) #[] #[], .func (.func 26) #[] #[], .func (.func 27) #[] #[], .func (.func 28) #[] #[], .func (.func 29) #[] #[], .func (.func 30) #[] #[], .func (.func 31) #[] #[], .func (.func 32) #[] #[], .func (.func 33) #[] #[]]
set_option maxHeartbeats 1000000 in
theorem commands_any (w : World) : Calls Try.prog 13 #[] w fun e w' => e = .returned (.agg kds) ∧ Below w.heap.size w w' := by
  go_enter Try.func13, Try.ntmps13
  go_wp2_with fail
  refine bodyPost_ret (v := .agg kds) (by simp [results, Try.results13, go_sem]; try rfl) rfl ?_
  exact ⟨rfl, (Below.refl _ _).alloc (Nat.le_refl _) _⟩

set_option maxHeartbeats 4000000 in
theorem do_any (c : PC) (k F : Nat) (hk : c.kind = k) (hk1 : 1 ≤ k) (hk2 : k < 11) (hF : kds[k]? = some (.func (.func F) #[] #[])) (hE : ∀ args w, (callFunc F args).run Try.prog w = .ok (.enter F args) w) {p B : Nat} {w : World} {P : Int → Int → Int → World → Prop}
    (hx : ∀ W, Below w.heap.size w W → Calls Try.prog F #[.pointer (some ⟨p, 0, none⟩), .agg (pcA c)] W fun e w' => ∃ er n st, e = .returned (prA er n st) ∧ P er n st w' ∧ Ik B W w')
    (hP : ∀ er n st w1 w2, P er n st w1 → Bxd c w.heap.size (w.heap.size + 1) w1 → Chg (fun b => b = w.heap.size + 1) w1 w2 → P er n st w2) :
    Calls Try.prog 7 #[.pointer (some ⟨p, 0, none⟩), .agg (pcA c)] w fun e w' => ∃ er n st, e = .returned (prA er n st) ∧ P er n st w' ∧ Ik B w w' := by
  have hbx := Bxd.new c w
  have hB0 := (two_new w (.cells (pcA c) 40) (.cells #[.int .i64 0, .int .u64 0, .int .i64 0] 42)).2.2
  have HX : Hid _ := hx
  have HP : Hid _ := hP
  have hk0 : (pcA c)[0]? = some (.int .i64 (k : Int)) := by rw [← hk]; rfl
  have hlit : pcA c = #[.int .i64 (k : Int), .int .u64 (c.n : Int), .int .u64 (c.ts : Int), .int .u64 (c.ttl : Int), .int .i64 c.store, .int .u64 (c.rid : Int), .slice c.rs.1 c.rs.2.1 c.rs.2.2, .slice c.re.1 c.re.2.1 c.re.2.2, .int .u64 (c.rcf : Int), .int .u64 (c.rvr : Int), .slice c.rp.1 c.rp.2.1 c.rp.2.2, .int .u64 (c.oid : Int), .slice c.os.1 c.os.2.1 c.os.2.2, .slice c.oe.1 c.oe.2.1 c.oe.2.2, .int .u64 (c.ocf : Int), .int .u64 (c.ovr : Int), .slice c.op.1 c.op.2.1 c.op.2.2, .bool c.cm] := by unfold pcA; rw [hk]
  have HL : Hid _ := hlit
  have HF : Hid _ := hF
  have g1 : ¬ (k : Int) < 1 := by omega
  have g2 : ¬ (k : Int) ≥ 11 := by omega
  have g3 : (k : Int) < 11 := by omega
  clear hx hP hk hlit hF
  go_enter Try.func7, Try.ntmps7
  go_upto_region 1 with fail
  generalize World.alloc (World.alloc w _) _ = W at *
  go_wp2_with fail
  refine (commands_any _).mono ?_
  rintro e w1 ⟨rfl, hb1⟩
  have hbx1 := hbx.next (Chg.of_below hb1) (by have := (Array.getElem?_eq_some_iff.1 hbx.box).1; simp; omega) (by have := (Array.getElem?_eq_some_iff.1 hbx.res).1; simp; omega)
  clear hbx
  unfold kds
  have ha := heap_new w1 (.cells #[.nilFunc, .func (.func 24) #[] #[], .func (.func 25) #[] #[], .func (.func 26) #[] #[], .func (.func 27) #[] #[], .func (.func 28) #[] #[], .func (.func 29) #[] #[], .func (.func 30) #[] #[], .func (.func 31) #[] #[], .func (.func 32) #[] #[], .func (.func 33) #[] #[]] 60)
  have hba : Below w1.heap.size w1 (w1.alloc (.cells #[.nilFunc, .func (.func 24) #[] #[], .func (.func 25) #[] #[], .func (.func 26) #[] #[], .func (.func 27) #[] #[], .func (.func 28) #[] #[], .func (.func 29) #[] #[], .func (.func 30) #[] #[], .func (.func 31) #[] #[], .func (.func 32) #[] #[], .func (.func 33) #[] #[]] 60)) := (Below.refl _ _).alloc (Nat.le_refl _) _
  go_upto_region 2 with fail
  generalize World.alloc w1 _ = W2 at *
  have hbx2 := hbx1.next (Chg.of_below hba) (by have := (Array.getElem?_eq_some_iff.1 hbx1.box).1; simp; omega) (by have := (Array.getElem?_eq_some_iff.1 hbx1.res).1; simp; omega)
  have hB2 : Below w.heap.size w W2 := (hB0.trans (hb1.mono hB0.size)).trans (hba.mono (Nat.le_trans hB0.size hb1.size))
  have c0 : W2.cell? ⟨w.heap.size, 0, none⟩ = some (.int .i64 (k : Int)) := hbx2.at_ hk0
  have c1 : W2.cell? ⟨w.heap.size, 1, none⟩ = some (.int .u64 (c.n : Int)) := hbx2.at_ rfl
  have c2 : W2.cell? ⟨w.heap.size, 2, none⟩ = some (.int .u64 (c.ts : Int)) := hbx2.at_ rfl
  have c3 : W2.cell? ⟨w.heap.size, 3, none⟩ = some (.int .u64 (c.ttl : Int)) := hbx2.at_ rfl
  have c4 : W2.cell? ⟨w.heap.size, 4, none⟩ = some (.int .i64 c.store) := hbx2.at_ rfl
  have c5 : W2.cell? ⟨w.heap.size, 5, none⟩ = some (.int .u64 (c.rid : Int)) := hbx2.at_ rfl
  have c6 : W2.cell? ⟨w.heap.size, 6, none⟩ = some (.slice c.rs.1 c.rs.2.1 c.rs.2.2) := hbx2.at_ rfl
  have c7 : W2.cell? ⟨w.heap.size, 7, none⟩ = some (.slice c.re.1 c.re.2.1 c.re.2.2) := hbx2.at_ rfl
  have c8 : W2.cell? ⟨w.heap.size, 8, none⟩ = some (.int .u64 (c.rcf : Int)) := hbx2.at_ rfl
  have c9 : W2.cell? ⟨w.heap.size, 9, none⟩ = some (.int .u64 (c.rvr : Int)) := hbx2.at_ rfl
  have c10 : W2.cell? ⟨w.heap.size, 10, none⟩ = some (.slice c.rp.1 c.rp.2.1 c.rp.2.2) := hbx2.at_ rfl
  have c11 : W2.cell? ⟨w.heap.size, 11, none⟩ = some (.int .u64 (c.oid : Int)) := hbx2.at_ rfl
  have c12 : W2.cell? ⟨w.heap.size, 12, none⟩ = some (.slice c.os.1 c.os.2.1 c.os.2.2) := hbx2.at_ rfl
  have c13 : W2.cell? ⟨w.heap.size, 13, none⟩ = some (.slice c.oe.1 c.oe.2.1 c.oe.2.2) := hbx2.at_ rfl
  have c14 : W2.cell? ⟨w.heap.size, 14, none⟩ = some (.int .u64 (c.ocf : Int)) := hbx2.at_ rfl
  have c15 : W2.cell? ⟨w.heap.size, 15, none⟩ = some (.int .u64 (c.ovr : Int)) := hbx2.at_ rfl
  have c16 : W2.cell? ⟨w.heap.size, 16, none⟩ = some (.slice c.op.1 c.op.2.1 c.op.2.2) := hbx2.at_ rfl
  have c17 : W2.cell? ⟨w.heap.size, 17, none⟩ = some (.bool c.cm) := hbx2.at_ rfl
  have ak : W2.cell? ⟨w1.heap.size, k, none⟩ = some (.func (.func F) #[] #[]) := by rw [cell_of_row _ _ _ _ _ _ ha]; exact HF.out
  clear hbx1 ha hba hb1 hk0
  have hx1 := HX.out (W2.drewN 1) (hB2.trans ((Below.dN W2 1).mono hB2.size))
  rw [HL.out] at hx1
  go_wp2_with fail
  generalize Value.agg (pcA c) = vC
  generalize Value.agg #[.nilFunc, _, _, _, _, _, _, _, _, _, _] = vK
  refine wp_region_head 6 (by kernel_rfl) (by kernel_rfl) ?_
  simp only [List.take_succ_cons, List.take_zero]
  still_step
  still_step
  still_step
  still_step
  still_step
  still_step
  refine wpStill_nil ?_
  change wpAny _ _ _ _ (1 + 1) _ _ _
  refine wpAny_ready (rs := [6]) (by kernel_rfl) (by simp) ?_
  refine AllReady.cons rfl (fun K hK => ?_) AllReady.nil
  go_simp
  refine hx1.mono ?_
  rintro e w3 ⟨er, n, st, rfl, hp3, hi3⟩
  refine hK _ _ ?_
  clear hK K
  have hbx3 := (hbx2.drewN 1).ik hi3
  obtain ⟨r0, r1, r2, f5, f6, f7⟩ := hbx3.rs
  simp only [prA]
  have HP3 : Hid _ := hp3
  clear hp3 c0 c1 c2 c3 c4 c5 c6 c7 c8 c9 c10 c11 c12 c13 c14 c15 c16 c17 ak
  refine wpAny_ready (rs := [7]) (by kernel_rfl) (by simp) ?_
  refine AllReady.cons rfl (fun K hK => ?_) AllReady.nil
  go_simp
  refine hK _ _ ?_
  clear hK K
  refine wpAny_done (by kernel_rfl) ?_ _
  go_simp
  go_wp2_with fail
  obtain ⟨⟨k0, k1, k2⟩, hc⟩ := pr_fin hbx3.res (.int .i64 er) (.int .u64 n) (.int .i64 st)
  have hfin := fin_ik hB2 ((Ik.of_below (Below.dN W2 1) (Nat.le_refl _)).trans hi3) hc
  have HP4 : Hid _ := HP.out _ _ _ _ _ HP3.out hbx3 hc
  clear hc hi3 hbx3 HP3
  generalize World.setCell _ ⟨_, 2, none⟩ _ = wz at *
  refine bodyPost_ret (v := prA er n st) (by simp [results, Try.results7, go_sem, k0, k1, k2]; try rfl) rfl ?_
  exact ⟨er, n, st, rfl, HP4.out, hfin⟩
end Go.Proofs.Ytlfdcnojbbigbaa
