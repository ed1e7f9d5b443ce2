/- How a list of steps that came in is read. -/
import Derived.Test.YtiponjphodhdjaaG4
import Derived.JoinedCond
import Derived.SizedLaws
import Derived.Laws.BitsLemmas
namespace Go.Proofs.Ytiponjphodhdjaa
open Go.ChangeShapes Go.WideShapes Go.ChangeAt Go.RowKit
set_option linter.unusedVariables false
set_option maxRecDepth 100000

theorem mask60i (z : Int) : ∃ a : Nat, bits .and .u64 z 1152921504606846975 = (a : Int) ∧ a ≤ 1152921504606846975 := by
  have hle : (BitVec.ofInt 64 z &&& BitVec.ofInt 64 1152921504606846975).toNat ≤ 1152921504606846975 := by
    rw [BitVec.toNat_and, show (BitVec.ofInt 64 1152921504606846975).toNat = 1152921504606846975 by decide]
    exact Nat.and_le_right
  refine ⟨(BitVec.ofInt 64 z &&& BitVec.ofInt 64 1152921504606846975).toNat, ?_, hle⟩
  show IntKind.u64.wrap ((BitVec.ofInt 64 z &&& BitVec.ofInt 64 1152921504606846975).toNat : Int) = _
  rw [IntKind.wrap_u64]
  omega
/-- A step: what it does, its number. -/
structure TsAt (w : World) (a : Addr) (d p : Int) : Prop where
  c0 : w.cell? a = some (.int .i64 d)
  c1 : w.cell? ⟨a.block, a.off + 1, none⟩ = some (.int .i64 p)
  hp : -9223372036854775808 ≤ p ∧ p ≤ 9223372036854775807
theorem TsAt.below {B : Nat} {w w' : World} {a : Addr} {d p : Int} (h : TsAt w a d p) (hb : Below B w w') (hB : w.heap.size ≤ B) : TsAt w' a d p := by
  have k : ∀ x u, w.cell? x = some u → w'.cell? x = some u := fun x u q => by rw [hb.cell (by have := World.block_lt_of_cell? w _ q; omega)]; exact q
  exact ⟨k _ _ h.c0, k _ _ h.c1, h.hp⟩
def Tsps (w : World) (v : Value) (n : Nat) : Prop := ∃ ao c, v = .slice ao n c ∧ n ≤ c ∧ c ≤ 9223372036854775807 ∧ ∀ i, i < n → ∃ d p ad, ao = some ad ∧ TsAt w (ad.add (i * 2)) d p
theorem open_tsteps {H : Type} {enc : TypeId × Value → H} {W : World} {a0 : Option Addr} {len cap : Nat} {d : DataW H} {p : List MemPlace} (h : DataW.Trod enc Try.prog W 0 (fun _ => true) true 23 (.slice a0 len cap) d p) : Tsps W (.slice a0 len cap) len ∧ (len = 0 ∨ ∃ es ss, d = .slice es ss ∧ es.length = len) := by
  obtain ⟨fuel, hf⟩ := h
  have hc2 : Try.prog.cellsOf 30 = 2 := by kernel_rfl
  have k3 : Try.prog.cellsOf 3 = 1 := by kernel_rfl
  rcases DataW.trod_slice Try.underlying23 hf with ⟨hcs, hx⟩ | ⟨a, len', cap', elems, rest, n, _, hcs, hx, _, hl, hm, hlen, hel, _, _⟩
  · simp [Value.cells] at hcs
    obtain ⟨rfl, rfl, rfl⟩ := hcs
    exact ⟨⟨none, 0, rfl, by simp, by simp, fun i hi => by omega⟩, .inl rfl⟩
  · simp [Value.cells] at hcs
    obtain ⟨rfl, rfl, rfl⟩ := hcs
    have hd : d = .slice (elems.map (·.1)) (rest.map (·.1)) := congrArg Prod.fst hx
    refine ⟨⟨some a, cap, rfl, by omega, by unfold maxLen at hm; omega, fun i hi => ?_⟩, .inr ⟨_, _, hd, by rw [List.length_map]; exact hlen⟩⟩
    have h1 := hel i hi
    rw [hc2, List.getElem?_eq_getElem (by omega), Option.bind_eq_some_iff] at h1
    obtain ⟨cs, h2, ht⟩ := h1
    obtain ⟨_, hln, hcell⟩ := World.cells?_some h2
    obtain ⟨xs, m, _, _, hl, hxl, hfs⟩ := DataW.trod_struct Try.underlying30 ht
    match cs, hln with
    | [v0, v1], _ =>
      match xs, hxl with
      | [y0, y1], _ =>
        have f0 : DataW.trod enc Try.prog W 0 (fun _ => true) true m 3 (List.take (Try.prog.cellsOf 3) (List.drop 0 [v0, v1])) = some y0 := hfs 0 _ rfl
        have f1 : DataW.trod enc Try.prog W 0 (fun _ => true) true m 3 (List.take (Try.prog.cellsOf 3) (List.drop 1 [v0, v1])) = some y1 := hfs 1 _ rfl
        rw [k3] at f0 f1
        replace f0 : DataW.trod enc Try.prog W 0 (fun _ => true) true m 3 [v0] = some y0 := f0
        replace f1 : DataW.trod enc Try.prog W 0 (fun _ => true) true m 3 [v1] = some y1 := f1
        obtain ⟨n0, e0, _, _⟩ := DataW.trod_int Try.underlying3 f0
        obtain ⟨n1, e1, _, w1⟩ := DataW.trod_int Try.underlying3 f1
        simp only [List.cons.injEq, and_true] at e0 e1
        have q0 := hcell 0 (by omega)
        have q1 := hcell 1 (by omega)
        simp only [List.getElem?_cons_zero, List.getElem?_cons_succ] at q0 q1
        have g1 : -9223372036854775808 ≤ n1 ∧ n1 ≤ 9223372036854775807 := by simpa [Lit.wf, IntKind.min, IntKind.max, IntKind.signed, IntKind.bits] using w1
        have ee : ∀ j, 0 < j → (⟨(a.add (i * 2)).block, (a.add (i * 2)).off + j, none⟩ : Addr) = (a.add (i * 2)).add j := fun j hj => by
          have hj0 : ¬ j = 0 := by omega
          unfold Addr.add
          by_cases hz : i * 2 = 0 <;> simp [hz, hj0]
        refine ⟨n0, n1, a, rfl, ?_, ?_, g1⟩
        · rw [← e0]; exact q0
        · rw [← e1, ee 1 (by omega)]; exact q1
end Go.Proofs.Ytiponjphodhdjaa
