/- The rule merge where nothing is to be merged. -/
import Derived.Test.YtedfjacmaidhkaaGreatG38
namespace Go.Proofs.YtedfjacmaidhkaaGreat
open Go.RowKit Go.Maps
set_option linter.unusedVariables false
set_option linter.unusedSimpArgs false
set_option maxRecDepth 100000

section
variable {x : Nat} {d : PL} {p : PD} {r : RV} {w : World}
set_option maxHeartbeats 4000000 in
theorem merge_no (h : Pln x d p w) (hr : It9 w r) (hst : ∀ k v, p.st k = some v → ∃ i : Nat, v = (i : Int) ∧ i < p.rs.length) (hno : smaF d r = false ∨ p.st r.e = none ∨ r.e = []) :
    Calls Tryz.prog 42 #[.pointer (some ⟨x, 0, none⟩), .agg #[.int .u64 (r.id.toNat : Int), .slice r.sa r.s.length r.sc, .slice r.ea r.e.length r.ec, .int .u64 r.cf, .int .u64 r.vr, .slice r.pa r.ps.length r.pc, .int .i64 r.ld, .int .i64 r.sz, .bool r.bz]] w fun e w' => RuA w (fun o b => b = false) e w' := by
  obtain ⟨hkb, hk4, hb0⟩ := two_bx w (.cells #[.int .u64 (r.id.toNat : Int), .slice r.sa r.s.length r.sc, .slice r.ea r.e.length r.ec, .int .u64 r.cf, .int .u64 r.vr, .slice r.pa r.ps.length r.pc, .int .i64 r.ld, .int .i64 r.sz, .bool r.bz] 42) (.cells #[.int .i64 0, .int .u64 0, .int .i64 0, .int .u64 0, .int .u64 0] 32)
  have h0 := h.below hb0
  have hr0 := hr.below hb0 (Nat.le_refl _)
  have hmf : ∀ (fn : Fn) (first cap : Array Value) (w : World), (Instr.makeFunc fn first cap).run Tryz.prog w = .ok (.func fn first cap) w := fun _ _ _ _ => rfl
  clear h hr
  go_enter Tryz.func42, Tryz.ntmps42
  go_upto_region 1 with fail
  generalize World.alloc (World.alloc w _) _ = w0 at *
  have HP : Hid (Pln x d p w0) := h0
  have HI : Hid (It9 w0 r) := hr0
  have HN : Hid (∀ W, Below w0.heap.size w0 W → W.cell? ⟨w.heap.size, 0, none⟩ = some (.int .u64 (r.id.toNat : Int)) ∧ W.cell? ⟨w.heap.size, 1, none⟩ = some (.slice r.sa r.s.length r.sc) ∧ W.cell? ⟨w.heap.size, 2, none⟩ = some (.slice r.ea r.e.length r.ec) ∧ W.cell? ⟨w.heap.size, 3, none⟩ = some (.int .u64 r.cf) ∧ W.cell? ⟨w.heap.size, 4, none⟩ = some (.int .u64 r.vr) ∧ W.cell? ⟨w.heap.size, 5, none⟩ = some (.slice r.pa r.ps.length r.pc) ∧ W.cell? ⟨w.heap.size, 6, none⟩ = some (.int .i64 r.ld) ∧ W.cell? ⟨w.heap.size, 7, none⟩ = some (.int .i64 r.sz) ∧ W.cell? ⟨w.heap.size, 8, none⟩ = some (.bool r.bz)) := fun W hW => nine_at (r := r) (keep_blk hkb hW)
  have HK4 : Hid (∀ W, Below w0.heap.size w0 W → W.heap[w.heap.size + 1]? = some (.cells #[.int .i64 0, .int .u64 0, .int .i64 0, .int .u64 0, .int .u64 0] 32 (0, 0))) := fun W hW => keep_blk hk4 hW
  have HB : Hid (∀ W, Below w0.heap.size w0 W → Below w.heap.size w W) := fun W hW => hb0.trans (hW.mono hb0.size)
  have HX : Hid (∀ W, Below w0.heap.size w0 W → W.cell? ⟨x, 0, none⟩ = some (.int .i64 d.pr) ∧ W.cell? ⟨x, 1, none⟩ = some (.int .i64 d.psp) ∧ W.cell? ⟨x, 2, none⟩ = some (.int .i64 d.pmg) ∧ W.cell? ⟨x, 3, none⟩ = some (.int .i64 d.rep)) := fun W hW => ⟨(HP.out.below hW).at_ rfl, (HP.out.below hW).at_ rfl, (HP.out.below hW).at_ rfl, (HP.out.below hW).at_ rfl⟩
  clear h0 hr0 hkb hk4
  obtain ⟨n0, n1, n2, n3, n4, n5, n6, n7, n8⟩ := HN.out w0 (Below.refl _ _)
  have hbe := behind_any HP.out HI.out hst
  go_wp2_with fail
  refine hbe.mono ?_
  rintro e w1 hA
  obtain ⟨b, q, rfl, ht, hf, hb1⟩ := hA
  clear hbe n0 n1 n2 n3 n4 n5 n6 n7 n8
  unfold r9
  go_upto_region 2 with fail
  have hbq := ob_al w1 (.cells #[.int .u64 (q.id.toNat : Int), .slice q.sa q.s.length q.sc, .slice q.ea q.e.length q.ec, .int .u64 q.cf, .int .u64 q.vr, .slice q.pa q.ps.length q.pc, .int .i64 q.ld, .int .i64 q.sz, .bool q.bz] 42)
  have hkq := heap_new w1 (.cells #[.int .u64 (q.id.toNat : Int), .slice q.sa q.s.length q.sc, .slice q.ea q.e.length q.ec, .int .u64 q.cf, .int .u64 q.vr, .slice q.pa q.ps.length q.pc, .int .i64 q.ld, .int .i64 q.sz, .bool q.bz] 42)
  have hS := hb1.trans (hbq.mono hb1.size)
  have hlt6 : w1.heap.size < (w1.alloc (.cells #[.int .u64 (q.id.toNat : Int), .slice q.sa q.s.length q.sc, .slice q.ea q.e.length q.ec, .int .u64 q.cf, .int .u64 q.vr, .slice q.pa q.ps.length q.pc, .int .i64 q.ld, .int .i64 q.sz, .bool q.bz] 42)).heap.size := by simp
  generalize World.alloc w1 _ = wq at *
  generalize w1.heap.size = b6 at *
  have HQ : Hid (∀ W, Below wq.heap.size wq W → W.cell? ⟨b6, 0, none⟩ = some (.int .u64 (q.id.toNat : Int)) ∧ W.cell? ⟨b6, 1, none⟩ = some (.slice q.sa q.s.length q.sc) ∧ W.cell? ⟨b6, 2, none⟩ = some (.slice q.ea q.e.length q.ec) ∧ W.cell? ⟨b6, 3, none⟩ = some (.int .u64 q.cf) ∧ W.cell? ⟨b6, 4, none⟩ = some (.int .u64 q.vr) ∧ W.cell? ⟨b6, 5, none⟩ = some (.slice q.pa q.ps.length q.pc) ∧ W.cell? ⟨b6, 6, none⟩ = some (.int .i64 q.ld) ∧ W.cell? ⟨b6, 7, none⟩ = some (.int .i64 q.sz) ∧ W.cell? ⟨b6, 8, none⟩ = some (.bool q.bz)) := fun W hW => nine_at (r := q) (keep_blk hkq hW)
  clear hkq
  cases b with
  | false =>
    go_upto_region 3 with fail
    have hno := none_any wq
    go_wp2_with fail
    refine hno.mono ?_
    rintro e w1 ⟨rfl, hb1⟩
    have hS1 := hS.trans (hb1.mono hS.size)
    have hkR := HK4.out w1 hS1
    have hbW := HB.out w1 hS1
    clear hno
    simp only [orV, noOr]
    obtain ⟨m0, m1, m2, m3, m4, m5⟩ := cells5 hkR
    have f0 := m5 0
    have f1 := m5 1
    have f2 := m5 2
    have f3 := m5 3
    have f4 := m5 4
    have hst := set5_block hkR (.int .i64 0) (.int .u64 0) (.int .i64 0) (.int .u64 0) (.int .u64 0)
    have hch := set5_chg w1 (w.heap.size + 1) (.int .i64 0) (.int .u64 0) (.int .i64 0) (.int .u64 0) (.int .u64 0)
    have HF : Hid _ := (hbW).trans (hch.below (fun b q => by omega) (hbW).size)
    clear m5 hch
    go_wp2_with fail
    generalize World.setCell _ ⟨_, 4, none⟩ _ = wz at *
    obtain ⟨k0, k1, k2, k3, k4, _⟩ := cells5 hst
    refine bodyPost_ret (v := .tuple #[.agg #[.int .i64 0, .int .u64 0, .int .i64 0, .int .u64 0, .int .u64 0], .bool false]) (by simp [results, Tryz.results42, go_sem, k0, k1, k2, k3, k4]; try rfl) rfl ?_
    exact RuA.mk noOr false rfl (rfl) HF.out
  | true =>
    have hsm : smaF d r = false := by
      obtain ⟨i, h1, _, h2⟩ := ht rfl
      rcases hno with h | h | h
      · exact h
      · rw [h1] at h; cases h
      · exact absurd h h2
    clear ht hf
    obtain ⟨l0, l1, l2, l3, l4, l5, l6, l7, l8⟩ := HQ.out wq (Below.refl _ _)
    generalize hz : q.bz = bz at *
    cases bz with
    | true =>
      go_upto_region 3 with fail
      clear l0 l1 l2 l3 l4 l5 l6 l7 l8
      have hno := none_any wq
      go_wp2_with fail
      refine hno.mono ?_
      rintro e w1 ⟨rfl, hb1⟩
      have hS1 := hS.trans (hb1.mono hS.size)
      have hkR := HK4.out w1 hS1
      have hbW := HB.out w1 hS1
      clear hno
      simp only [orV, noOr]
      obtain ⟨m0, m1, m2, m3, m4, m5⟩ := cells5 hkR
      have f0 := m5 0
      have f1 := m5 1
      have f2 := m5 2
      have f3 := m5 3
      have f4 := m5 4
      have hst := set5_block hkR (.int .i64 0) (.int .u64 0) (.int .i64 0) (.int .u64 0) (.int .u64 0)
      have hch := set5_chg w1 (w.heap.size + 1) (.int .i64 0) (.int .u64 0) (.int .i64 0) (.int .u64 0) (.int .u64 0)
      have HF : Hid _ := (hbW).trans (hch.below (fun b q => by omega) (hbW).size)
      clear m5 hch
      go_wp2_with fail
      generalize World.setCell _ ⟨_, 4, none⟩ _ = wz at *
      obtain ⟨k0, k1, k2, k3, k4, _⟩ := cells5 hst
      refine bodyPost_ret (v := .tuple #[.agg #[.int .i64 0, .int .u64 0, .int .i64 0, .int .u64 0, .int .u64 0], .bool false]) (by simp [results, Tryz.results42, go_sem, k0, k1, k2, k3, k4]; try rfl) rfl ?_
      exact RuA.mk noOr false rfl (rfl) HF.out
    | false =>
      have hin := isNamed_any (r := q) (HP.out.below hS)
      rw [hz] at hin
      generalize p.nm q.id.toNat = nn at *
      go_wp2_with fail
      refine hin.mono ?_
      rintro e w2 ⟨rfl, hb2⟩
      have hS2 := hS.trans (hb2.mono hS.size)
      clear hin l0 l1 l2 l3 l4 l5 l6 l7 l8
      cases nn with
      | true =>
        go_upto_region 3 with fail
        have hno := none_any w2
        go_wp2_with fail
        refine hno.mono ?_
        rintro e w1 ⟨rfl, hb1⟩
        have hS1 := hS2.trans (hb1.mono hS2.size)
        have hkR := HK4.out w1 hS1
        have hbW := HB.out w1 hS1
        clear hno
        simp only [orV, noOr]
        obtain ⟨m0, m1, m2, m3, m4, m5⟩ := cells5 hkR
        have f0 := m5 0
        have f1 := m5 1
        have f2 := m5 2
        have f3 := m5 3
        have f4 := m5 4
        have hst := set5_block hkR (.int .i64 0) (.int .u64 0) (.int .i64 0) (.int .u64 0) (.int .u64 0)
        have hch := set5_chg w1 (w.heap.size + 1) (.int .i64 0) (.int .u64 0) (.int .i64 0) (.int .u64 0) (.int .u64 0)
        have HF : Hid _ := (hbW).trans (hch.below (fun b q => by omega) (hbW).size)
        clear m5 hch
        go_wp2_with fail
        generalize World.setCell _ ⟨_, 4, none⟩ _ = wz at *
        obtain ⟨k0, k1, k2, k3, k4, _⟩ := cells5 hst
        refine bodyPost_ret (v := .tuple #[.agg #[.int .i64 0, .int .u64 0, .int .i64 0, .int .u64 0, .int .u64 0], .bool false]) (by simp [results, Tryz.results42, go_sem, k0, k1, k2, k3, k4]; try rfl) rfl ?_
        exact RuA.mk noOr false rfl (rfl) HF.out
      | false =>
        obtain ⟨n0, n1, n2, n3, n4, n5, n6, n7, n8⟩ := HN.out w2 hS2
        have hsa := small_any (r := r) (HP.out.below hS2)
        rw [hsm] at hsa
        go_wp2_with fail
        refine hsa.mono ?_
        rintro e w3 ⟨rfl, hb3⟩
        have hS3 := hS2.trans (hb3.mono hS2.size)
        clear hsa n0 n1 n2 n3 n4 n5 n6 n7 n8
        go_upto_region 3 with fail
        have hno := none_any w3
        go_wp2_with fail
        refine hno.mono ?_
        rintro e w1 ⟨rfl, hb1⟩
        have hS1 := hS3.trans (hb1.mono hS3.size)
        have hkR := HK4.out w1 hS1
        have hbW := HB.out w1 hS1
        clear hno
        simp only [orV, noOr]
        obtain ⟨m0, m1, m2, m3, m4, m5⟩ := cells5 hkR
        have f0 := m5 0
        have f1 := m5 1
        have f2 := m5 2
        have f3 := m5 3
        have f4 := m5 4
        have hst := set5_block hkR (.int .i64 0) (.int .u64 0) (.int .i64 0) (.int .u64 0) (.int .u64 0)
        have hch := set5_chg w1 (w.heap.size + 1) (.int .i64 0) (.int .u64 0) (.int .i64 0) (.int .u64 0) (.int .u64 0)
        have HF : Hid _ := (hbW).trans (hch.below (fun b q => by omega) (hbW).size)
        clear m5 hch
        go_wp2_with fail
        generalize World.setCell _ ⟨_, 4, none⟩ _ = wz at *
        obtain ⟨k0, k1, k2, k3, k4, _⟩ := cells5 hst
        refine bodyPost_ret (v := .tuple #[.agg #[.int .i64 0, .int .u64 0, .int .i64 0, .int .u64 0, .int .u64 0], .bool false]) (by simp [results, Tryz.results42, go_sem, k0, k1, k2, k3, k4]; try rfl) rfl ?_
        exact RuA.mk noOr false rfl (rfl) HF.out
end
end Go.Proofs.YtedfjacmaidhkaaGreat
