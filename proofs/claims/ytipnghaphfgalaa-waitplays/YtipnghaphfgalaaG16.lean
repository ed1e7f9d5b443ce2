/- How a list of steps that came in is read. -/
import Derived.Test.YtipnghaphfgalaaG14
namespace Go.Proofs.Ytipnghaphfgalaa
open Go.ChangeShapes Go.WideShapes Go.ChangeAt Go.RowKit
set_option linter.unusedVariables false
set_option maxRecDepth 100000

/-- A step: what it does, its two numbers. -/
structure StAt (w : World) (a : Addr) (d : Int) (p q : UInt64) : Prop where
  c0 : w.cell? a = some (.int .i64 d)
  c1 : w.cell? ⟨a.block, a.off + 1, none⟩ = some (.int .u64 (p.toNat : Int))
  c2 : w.cell? ⟨a.block, a.off + 2, none⟩ = some (.int .u64 (q.toNat : Int))
theorem StAt.below {B : Nat} {w w' : World} {a : Addr} {d : Int} {p q : UInt64} (h : StAt w a d p q) (hb : Below B w w') (hB : w.heap.size ≤ B) : StAt w' a d p q := by
  have k : ∀ x u, w.cell? x = some u → w'.cell? x = some u := fun x u q => by rw [hb.cell (by have := World.block_lt_of_cell? w _ q; omega)]; exact q
  exact ⟨k _ _ h.c0, k _ _ h.c1, k _ _ h.c2⟩
def Stps (w : World) (v : Value) (n : Nat) : Prop := ∃ ao c, v = .slice ao n c ∧ n ≤ c ∧ c ≤ 9223372036854775807 ∧ ∀ i, i < n → ∃ d p q ad, ao = some ad ∧ StAt w (ad.add (i * 3)) d p q
theorem open_stps {H : Type} {enc : TypeId × Value → H} {W : World} {a0 : Option Addr} {len cap : Nat} {d : DataW H} {p : List MemPlace} (h : DataW.Trod enc Try.prog W 0 (fun _ => true) true 36 (.slice a0 len cap) d p) : Stps W (.slice a0 len cap) len := by
  obtain ⟨fuel, hf⟩ := h
  have hc3 : Try.prog.cellsOf 42 = 3 := by kernel_rfl
  have k1 : Try.prog.cellsOf 23 = 1 := by kernel_rfl
  have k3 : Try.prog.cellsOf 3 = 1 := by kernel_rfl
  rcases DataW.trod_slice Try.underlying36 hf with ⟨hcs, hx⟩ | ⟨a, len', cap', elems, rest, n, _, hcs, hx, _, hl, hm, hlen, hel, _, _⟩
  · simp [Value.cells] at hcs
    obtain ⟨rfl, rfl, rfl⟩ := hcs
    exact ⟨none, 0, rfl, by simp, by simp, fun i hi => by omega⟩
  · simp [Value.cells] at hcs
    obtain ⟨rfl, rfl, rfl⟩ := hcs
    refine ⟨some a, cap, rfl, by omega, by unfold maxLen at hm; omega, fun i hi => ?_⟩
    have h1 := hel i hi
    rw [hc3, List.getElem?_eq_getElem (by omega), Option.bind_eq_some_iff] at h1
    obtain ⟨cs, h2, ht⟩ := h1
    obtain ⟨_, hln, hcell⟩ := World.cells?_some h2
    obtain ⟨xs, m, _, _, hl, hxl, hfs⟩ := DataW.trod_struct Try.underlying42 ht
    match cs, hln with
    | [v0, v1, v2], _ =>
      match xs, hxl with
      | [y0, y1, y2], _ =>
        have f0 : DataW.trod enc Try.prog W 0 (fun _ => true) true m 3 (List.take (Try.prog.cellsOf 3) (List.drop 0 [v0, v1, v2])) = some y0 := hfs 0 _ rfl
        have f1 : DataW.trod enc Try.prog W 0 (fun _ => true) true m 23 (List.take (Try.prog.cellsOf 23) (List.drop 1 [v0, v1, v2])) = some y1 := hfs 1 _ rfl
        have f2 : DataW.trod enc Try.prog W 0 (fun _ => true) true m 23 (List.take (Try.prog.cellsOf 23) (List.drop 2 [v0, v1, v2])) = some y2 := hfs 2 _ rfl
        rw [k3] at f0
        rw [k1] at f1 f2
        replace f0 : DataW.trod enc Try.prog W 0 (fun _ => true) true m 3 [v0] = some y0 := f0
        replace f1 : DataW.trod enc Try.prog W 0 (fun _ => true) true m 23 [v1] = some y1 := f1
        replace f2 : DataW.trod enc Try.prog W 0 (fun _ => true) true m 23 [v2] = some y2 := f2
        obtain ⟨n0, e0, _, _⟩ := DataW.trod_int Try.underlying3 f0
        obtain ⟨n1, e1, _, w1⟩ := DataW.trod_int Try.underlying23 f1
        obtain ⟨n2, e2, _, w2⟩ := DataW.trod_int Try.underlying23 f2
        simp only [List.cons.injEq, and_true] at e0 e1 e2
        have q0 := hcell 0 (by omega)
        have q1 := hcell 1 (by omega)
        have q2 := hcell 2 (by omega)
        simp only [List.getElem?_cons_zero, List.getElem?_cons_succ] at q0 q1 q2
        have g1 : 0 ≤ n1 ∧ n1 ≤ 18446744073709551615 := by simpa [Lit.wf, IntKind.min, IntKind.max, IntKind.signed, IntKind.bits] using w1
        have g2 : 0 ≤ n2 ∧ n2 ≤ 18446744073709551615 := by simpa [Lit.wf, IntKind.min, IntKind.max, IntKind.signed, IntKind.bits] using w2
        obtain ⟨m1, rfl⟩ := Int.eq_ofNat_of_zero_le g1.1
        obtain ⟨m2, rfl⟩ := Int.eq_ofNat_of_zero_le g2.1
        have t1 : (UInt64.ofNat m1).toNat = m1 := by simp; omega
        have t2 : (UInt64.ofNat m2).toNat = m2 := by simp; omega
        have ee : ∀ j, 0 < j → (⟨(a.add (i * 3)).block, (a.add (i * 3)).off + j, none⟩ : Addr) = (a.add (i * 3)).add j := fun j hj => by
          have hj0 : ¬ j = 0 := by omega
          unfold Addr.add
          by_cases hz : i * 3 = 0 <;> simp [hz, hj0]
        refine ⟨n0, UInt64.ofNat m1, UInt64.ofNat m2, a, rfl, ?_, ?_, ?_⟩
        · rw [← e0]; exact q0
        · rw [t1, ← e1, ee 1 (by omega)]; exact q1
        · rw [t2, ← e2, ee 2 (by omega)]; exact q2
end Go.Proofs.Ytipnghaphfgalaa
