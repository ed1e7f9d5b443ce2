/- The rule split; small. -/
import Derived.Test.YtedfjacmaidhkaaGreatG23
import Derived.Test.YtedfjacmaidhkaaGreatG5
import Derived.Deep.CutRange
namespace Go.Proofs.YtedfjacmaidhkaaGreat
open Go.RowKit Go.Maps
set_option linter.unusedVariables false
set_option linter.unusedSimpArgs false
set_option maxRecDepth 100000

def SplP (d : PL) (r : RV) (o : Or) (b : Bool) : Prop := o = ⟨5, r.id.toNat, 0, 0, 0⟩ ∧ b = (decide (0 < d.psp) && decide (d.psp ≤ r.sz))
def smaF (d : PL) (r : RV) : Bool := decide (0 < d.pmg) && decide (r.sz ≤ d.pmg)
section
variable {x : Nat} {d : PL} {p : PD} {r : RV} {w : World}
set_option maxHeartbeats 2000000 in
theorem split_any (h : Pln x d p w) (hr : It9 w r)  :
    Calls Tryz.prog 41 #[.pointer (some ⟨x, 0, none⟩), .agg #[.int .u64 (r.id.toNat : Int), .slice r.sa r.s.length r.sc, .slice r.ea r.e.length r.ec, .int .u64 r.cf, .int .u64 r.vr, .slice r.pa r.ps.length r.pc, .int .i64 r.ld, .int .i64 r.sz, .bool r.bz]] w fun e w' => RuA w (SplP d r) e w' := by
  obtain ⟨hkb, hk4, hb0⟩ := two_bx w (.cells #[.int .u64 (r.id.toNat : Int), .slice r.sa r.s.length r.sc, .slice r.ea r.e.length r.ec, .int .u64 r.cf, .int .u64 r.vr, .slice r.pa r.ps.length r.pc, .int .i64 r.ld, .int .i64 r.sz, .bool r.bz] 42) (.cells #[.int .i64 0, .int .u64 0, .int .i64 0, .int .u64 0, .int .u64 0] 32)
  have h0 := h.below hb0
  have hr0 := hr.below hb0 (Nat.le_refl _)
  have hmf : ∀ (fn : Fn) (first cap : Array Value) (w : World), (Instr.makeFunc fn first cap).run Tryz.prog w = .ok (.func fn first cap) w := fun _ _ _ _ => rfl
  clear h hr
  go_enter Tryz.func41, Tryz.ntmps41
  go_upto_region 1 with fail
  generalize World.alloc (World.alloc w _) _ = w0 at *
  have HP : Hid (Pln x d p w0) := h0
  have HI : Hid (It9 w0 r) := hr0
  have HN : Hid (∀ W, Below w0.heap.size w0 W → W.cell? ⟨w.heap.size, 0, none⟩ = some (.int .u64 (r.id.toNat : Int)) ∧ W.cell? ⟨w.heap.size, 1, none⟩ = some (.slice r.sa r.s.length r.sc) ∧ W.cell? ⟨w.heap.size, 2, none⟩ = some (.slice r.ea r.e.length r.ec) ∧ W.cell? ⟨w.heap.size, 3, none⟩ = some (.int .u64 r.cf) ∧ W.cell? ⟨w.heap.size, 4, none⟩ = some (.int .u64 r.vr) ∧ W.cell? ⟨w.heap.size, 5, none⟩ = some (.slice r.pa r.ps.length r.pc) ∧ W.cell? ⟨w.heap.size, 6, none⟩ = some (.int .i64 r.ld) ∧ W.cell? ⟨w.heap.size, 7, none⟩ = some (.int .i64 r.sz) ∧ W.cell? ⟨w.heap.size, 8, none⟩ = some (.bool r.bz)) := fun W hW => nine_at (r := r) (keep_blk hkb hW)
  have HK4 : Hid (∀ W, Below w0.heap.size w0 W → W.heap[w.heap.size + 1]? = some (.cells #[.int .i64 0, .int .u64 0, .int .i64 0, .int .u64 0, .int .u64 0] 32 (0, 0))) := fun W hW => keep_blk hk4 hW
  have HB : Hid (∀ W, Below w0.heap.size w0 W → Below w.heap.size w W) := fun W hW => hb0.trans (hW.mono hb0.size)
  have HX : Hid (∀ W, Below w0.heap.size w0 W → W.cell? ⟨x, 0, none⟩ = some (.int .i64 d.pr) ∧ W.cell? ⟨x, 1, none⟩ = some (.int .i64 d.psp) ∧ W.cell? ⟨x, 2, none⟩ = some (.int .i64 d.pmg) ∧ W.cell? ⟨x, 3, none⟩ = some (.int .i64 d.rep)) := fun W hW => ⟨(HP.out.below hW).at_ rfl, (HP.out.below hW).at_ rfl, (HP.out.below hW).at_ rfl, (HP.out.below hW).at_ rfl⟩
  clear h0 hr0 hkb hk4
  obtain ⟨n0, n1, n2, n3, n4, n5, n6, n7, n8⟩ := HN.out w0 (Below.refl _ _)
  clear n1 n2 n3 n4 n5 n6 n8
  obtain ⟨-, x1, -, -⟩ := HX.out w0 (Below.refl _ _)
  have hkR := HK4.out w0 (Below.refl _ _)
  obtain ⟨m0, m1, m2, m3, m4, m5⟩ := cells5 hkR
  have f0 := m5 0
  have f1 := m5 1
  have f2 := m5 2
  have f3 := m5 3
  have f4 := m5 4
  have hst := set5_block hkR (.int .i64 5) (.int .u64 (r.id.toNat : Int)) (.int .i64 0) (.int .u64 0) (.int .u64 0)
  have hch := set5_chg w0 (w.heap.size + 1) (.int .i64 5) (.int .u64 (r.id.toNat : Int)) (.int .i64 0) (.int .u64 0) (.int .u64 0)
  have HF : Hid _ := hb0.trans (hch.below (fun b q => by omega) hb0.size)
  have HST : Hid _ := hst
  have ne1 : ¬ x = w.heap.size + 1 := fun q => by
    have := HP.out.blk
    rw [q, hkR] at this
    have := Option.some.inj this
    simp only [Obj.cells.injEq] at this
    exact absurd this.2.1 (by decide)
  clear m5 hch hst hkR
  by_cases c1 : 0 < d.psp
  · by_cases c2 : d.psp ≤ r.sz
    · have HC : Hid (SplP d r ⟨5, r.id.toNat, 0, 0, 0⟩ true) := ⟨rfl, by rw [decide_eq_true c1, decide_eq_true c2]; rfl⟩
      go_region
      go_wp2_with fail
      obtain ⟨k0, k1, k2, k3, k4, _⟩ := cells5 HST.out
      refine bodyPost_ret (v := .tuple #[.agg #[.int .i64 5, .int .u64 (r.id.toNat : Int), .int .i64 0, .int .u64 0, .int .u64 0], .bool true]) (by simp [results, Tryz.results41, go_sem, k0, k1, k2, k3, k4]; try rfl) rfl ?_
      exact RuA.mk ⟨5, r.id.toNat, 0, 0, 0⟩ true rfl HC.out (HF.out.trans ((Below.dN _ 1).mono HF.out.size))
    · have HC : Hid (SplP d r ⟨5, r.id.toNat, 0, 0, 0⟩ false) := ⟨rfl, by rw [decide_eq_true c1, decide_eq_false c2]; rfl⟩
      go_region
      go_wp2_with fail
      obtain ⟨k0, k1, k2, k3, k4, _⟩ := cells5 HST.out
      refine bodyPost_ret (v := .tuple #[.agg #[.int .i64 5, .int .u64 (r.id.toNat : Int), .int .i64 0, .int .u64 0, .int .u64 0], .bool false]) (by simp [results, Tryz.results41, go_sem, k0, k1, k2, k3, k4]; try rfl) rfl ?_
      exact RuA.mk ⟨5, r.id.toNat, 0, 0, 0⟩ false rfl HC.out (HF.out.trans ((Below.dN _ 1).mono HF.out.size))
  · have HC : Hid (SplP d r ⟨5, r.id.toNat, 0, 0, 0⟩ false) := ⟨rfl, by rw [decide_eq_false c1]; rfl⟩
    go_region
    go_wp2_with fail
    obtain ⟨k0, k1, k2, k3, k4, _⟩ := cells5 HST.out
    refine bodyPost_ret (v := .tuple #[.agg #[.int .i64 5, .int .u64 (r.id.toNat : Int), .int .i64 0, .int .u64 0, .int .u64 0], .bool false]) (by simp [results, Tryz.results41, go_sem, k0, k1, k2, k3, k4]; try rfl) rfl ?_
    exact RuA.mk ⟨5, r.id.toNat, 0, 0, 0⟩ false rfl HC.out (HF.out.trans ((Below.dN _ 1).mono HF.out.size))
set_option maxHeartbeats 1000000 in
theorem small_any (h : Pln x d p w) : Calls Tryz.prog 69 #[.pointer (some ⟨x, 0, none⟩), .agg #[.int .u64 (r.id.toNat : Int), .slice r.sa r.s.length r.sc, .slice r.ea r.e.length r.ec, .int .u64 r.cf, .int .u64 r.vr, .slice r.pa r.ps.length r.pc, .int .i64 r.ld, .int .i64 r.sz, .bool r.bz]] w fun e w' => e = .returned (.bool (smaF d r)) ∧ Below w.heap.size w w' := by
  have hkb := heap_new w (.cells #[.int .u64 (r.id.toNat : Int), .slice r.sa r.s.length r.sc, .slice r.ea r.e.length r.ec, .int .u64 r.cf, .int .u64 r.vr, .slice r.pa r.ps.length r.pc, .int .i64 r.ld, .int .i64 r.sz, .bool r.bz] 42)
  have hb0 := ob_al w (.cells #[.int .u64 (r.id.toNat : Int), .slice r.sa r.s.length r.sc, .slice r.ea r.e.length r.ec, .int .u64 r.cf, .int .u64 r.vr, .slice r.pa r.ps.length r.pc, .int .i64 r.ld, .int .i64 r.sz, .bool r.bz] 42)
  have h0 := h.below hb0
  have x2 : World.cell? _ ⟨x, 2, none⟩ = some (.int .i64 d.pmg) := h0.at_ rfl
  obtain ⟨-, -, -, -, -, -, -, n7, -⟩ := nine_at (r := r) hkb
  have hs : smaF d r = (decide (0 < d.pmg) && decide (r.sz ≤ d.pmg)) := rfl
  clear h h0 hkb
  by_cases c1 : 0 < d.pmg
  · by_cases c2 : r.sz ≤ d.pmg
    · rw [decide_eq_true c1, decide_eq_true c2] at hs
      rw [hs]
      clear hs
      go_enter Tryz.func69, Tryz.ntmps69
      go_upto_region 1 with fail
      generalize World.alloc w _ = w0 at *
      go_quiet (fail)
      go_wp2_with fail
      go_ret
      exact ⟨rfl, hb0.trans ((Below.dN _ _).mono hb0.size)⟩
    · rw [decide_eq_true c1, decide_eq_false c2] at hs
      rw [hs]
      clear hs
      have c3 : decide (r.sz ≤ d.pmg) = false := decide_eq_false c2
      go_enter Tryz.func69, Tryz.ntmps69
      go_upto_region 1 with fail
      generalize World.alloc w _ = w0 at *
      go_quiet (fail)
      go_wp2_with fail
      go_ret
      exact ⟨rfl, hb0.trans ((Below.dN _ _).mono hb0.size)⟩
  · rw [decide_eq_false c1] at hs
    rw [hs]
    clear hs
    have c3 : decide (0 < d.pmg) = false := decide_eq_false c1
    go_enter Tryz.func69, Tryz.ntmps69
    go_upto_region 1 with fail
    generalize World.alloc w _ = w0 at *
    go_quiet (fail)
    go_wp2_with fail
    go_ret
    exact ⟨rfl, hb0.trans ((Below.dN _ _).mono hb0.size)⟩
end
end Go.Proofs.YtedfjacmaidhkaaGreat
