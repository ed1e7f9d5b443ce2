/- How a list of pairs of uint64 that came in is read; a number's last bits. -/
import Derived.Test.YtipnghaphfgalaaG12
import Derived.Test.YtipnghaphfgalaaG13
import Derived.Laws.BitsLemmas
import Derived.ProofKit
import Derived.OpenShut
import Derived.ChangeOld
import Derived.SizedLaws
import Derived.JoinedCond
import Derived.SliceStrings
namespace Go.Proofs.Ytipnghaphfgalaa
open Go.ChangeShapes Go.WideShapes Go.ChangeAt Go.RowKit
set_option linter.unusedVariables false
set_option maxRecDepth 100000

theorem andU (x c : UInt64) : bits .and .u64 (x.toNat : Int) (c.toNat : Int) = ((x &&& c).toNat : Int) := by
  show IntKind.u64.wrap ((BitVec.ofInt 64 (x.toNat : Int) &&& BitVec.ofInt 64 (c.toNat : Int)).toNat : Int) = _
  have h1 : ∀ y : UInt64, (BitVec.ofInt 64 (y.toNat : Int)).toNat = y.toNat := fun y => by
    have := y.toNat_lt
    rw [BitVec.toNat_ofInt]
    omega
  rw [BitVec.toNat_and, h1, h1, UInt64.toNat_and]
  have h2 : x.toNat &&& c.toNat ≤ x.toNat := Nat.and_le_left
  have h3 := x.toNat_lt
  rw [IntKind.wrap_u64]
  omega
theorem and7 (x : UInt64) : bits .and .u64 (x.toNat : Int) 7 = ((x &&& 7).toNat : Int) := andU x 7
theorem and15 (x : UInt64) : bits .and .u64 (x.toNat : Int) 15 = ((x &&& 15).toNat : Int) := andU x 15
theorem and7_lt (x : UInt64) : (x &&& 7).toNat < 8 := by
  rw [UInt64.toNat_and]
  have : x.toNat &&& (7 : UInt64).toNat ≤ (7 : UInt64).toNat := Nat.and_le_right
  have h7 : (7 : UInt64).toNat = 7 := rfl
  omega
theorem and15_lt (x : UInt64) : (x &&& 15).toNat < 16 := by
  rw [UInt64.toNat_and]
  have : x.toNat &&& (15 : UInt64).toNat ≤ (15 : UInt64).toNat := Nat.and_le_right
  have h7 : (15 : UInt64).toNat = 15 := rfl
  omega
theorem open_eds {H : Type} {enc : TypeId × Value → H} {W : World} {a0 : Option Addr} {len cap : Nat} {d : DataW H} {p : List MemPlace} (h : DataW.Trod enc Try.prog W 0 (fun _ => true) true 22 (.slice a0 len cap) d p) : ∃ E : List Ed, RdE W (.slice a0 len cap) E := by
  obtain ⟨fuel, hf⟩ := h
  have hc2 : Try.prog.cellsOf 31 = 2 := by kernel_rfl
  have hc1 : Try.prog.cellsOf 23 = 1 := by kernel_rfl
  rcases DataW.trod_slice Try.underlying22 hf with ⟨hcs, hx⟩ | ⟨a, len', cap', elems, rest, n, _, hcs, hx, _, hl, hm, hlen, hel, _, _⟩
  · simp [Value.cells] at hcs
    obtain ⟨rfl, rfl, rfl⟩ := hcs
    exact ⟨[], RdE.nil _⟩
  · simp [Value.cells] at hcs
    obtain ⟨rfl, rfl, rfl⟩ := hcs
    have key : ∀ i, i < len → ∃ e : Ed, EdAt W (a.add (i * 2)) e := fun i hi => by
      have h1 := hel i hi
      rw [hc2, List.getElem?_eq_getElem (by omega), Option.bind_eq_some_iff] at h1
      obtain ⟨cs, h2, h3⟩ := h1
      obtain ⟨_, hln, hcell⟩ := World.cells?_some h2
      obtain ⟨xs, m, _, _, _, hxl, hfs⟩ := DataW.trod_array Try.underlying31 h3
      match cs, hln with
      | [v0, v1], _ =>
        match xs, hxl with
        | [y0, y1], _ =>
          have f0 := hfs 0 (by omega)
          have f1 := hfs 1 (by omega)
          rw [hc1] at f0 f1
          replace f0 : DataW.trod enc Try.prog W 0 (fun _ => true) true m 23 [v0] = some y0 := f0
          replace f1 : DataW.trod enc Try.prog W 0 (fun _ => true) true m 23 [v1] = some y1 := f1
          obtain ⟨n0, e0, _, w0⟩ := DataW.trod_int Try.underlying23 f0
          obtain ⟨n1, e1, _, w1⟩ := DataW.trod_int Try.underlying23 f1
          simp only [List.cons.injEq, and_true] at e0 e1
          have q0 := hcell 0 (by omega)
          have q1 := hcell 1 (by omega)
          simp only [List.getElem?_cons_zero, List.getElem?_cons_succ] at q0 q1
          have g0 : 0 ≤ n0 ∧ n0 ≤ 18446744073709551615 := by simpa [Lit.wf, IntKind.min, IntKind.max, IntKind.signed, IntKind.bits] using w0
          have g1 : 0 ≤ n1 ∧ n1 ≤ 18446744073709551615 := by simpa [Lit.wf, IntKind.min, IntKind.max, IntKind.signed, IntKind.bits] using w1
          obtain ⟨m0, rfl⟩ := Int.eq_ofNat_of_zero_le g0.1
          obtain ⟨m1, rfl⟩ := Int.eq_ofNat_of_zero_le g1.1
          have t0 : (UInt64.ofNat m0).toNat = m0 := by simp; omega
          have t1 : (UInt64.ofNat m1).toNat = m1 := by simp; omega
          refine ⟨(UInt64.ofNat m0, UInt64.ofNat m1), ?_, ?_⟩
          · simp only []; rw [t0, ← e0]; exact q0
          · simp only []
            rw [t1, ← e1]
            have e2 : (⟨(a.add (i * 2)).block, (a.add (i * 2)).off + 1, none⟩ : Addr) = (a.add (i * 2)).add 1 := by
              unfold Addr.add
              by_cases hz : i * 2 = 0 <;> simp [hz]
            rw [e2]; exact q1
    refine ⟨List.ofFn (fun i : Fin len => Classical.choose (key i.1 i.2)), some a, cap, by simp, by simp; omega, hm, (fun e => by cases e), fun i p hi => ⟨a, rfl, ?_⟩⟩
    have hil : i < len := by have := (List.getElem?_eq_some_iff.1 hi).1; simpa using this
    rw [List.getElem?_ofFn, dif_pos hil] at hi
    obtain rfl := Option.some.inj hi
    exact Classical.choose_spec (key i hil)
end Go.Proofs.Ytipnghaphfgalaa
