/- The law's two regions as they lie, and SameRegion of them. -/
import Derived.Test.YtlfdcnojbbigbaaG44
namespace Go.Proofs.Ytlfdcnojbbigbaa
open Go.RowKit Go.Maps
set_option linter.unusedVariables false
set_option linter.unusedSimpArgs false
set_option maxRecDepth 100000

section
variable {B p o qa qb k k2 cc N : Nat} {d : DC} {c : PC} {f : Nat → Option Value} {g : Nat → Bool} {key : List UInt8} {w0 w w' : World} {s t : RC}
theorem MI.blocks (h : MI B p o qa qb d c k k2 cc f g key w0 w) (hc : CF c N) : ∃ sa sc ea ec pa pc ta tc fa fc ra rc,
    (w.heap[qb]? = some (.cells #[.int .u64 7, .slice sa key.length sc, .slice ea 0 ec, .int .u64 1, .int .u64 2, .slice pa 1 pc] 34 (0, 0)) ∧ Rd w (.slice sa key.length sc) key ∧ Rd w (.slice ea 0 ec) [] ∧ RdPe w (.slice pa 1 pc) [Pe8]) ∧
    (w.heap[qa]? = some (.cells #[.int .u64 1, .slice ta 0 tc, .slice fa key.length fc, .int .u64 1, .int .u64 2, .slice ra 1 rc] 34 (0, 0)) ∧ Rd w (.slice ta 0 tc) [] ∧ Rd w (.slice fa key.length fc) key ∧ RdPe w (.slice ra 1 rc) [Pe1]) := by
  have h1 := h.ba
  have h2 := h.bb
  have o1 := h.ob
  have o2 := h.oa
  unfold Rb6 rA at h1 h2
  unfold OwC at o1 o2
  obtain ⟨kd, n, ts, ttl, st, rid, rs, re, rcf, rvr, rp, oid, os, oe, ocf, ovr, op, cm⟩ := c
  obtain ⟨c1, c2, c3, c4, c5, c6, c7, c8⟩ := hc
  simp only [rcR, rcO] at *
  subst c3 c4 c5 c6 c7 c8
  obtain ⟨a1, d1, e1⟩ := o1.s.rd.shp
  obtain ⟨a2, d2, e2⟩ := o1.e.rd.shp
  obtain ⟨a3, d3, e3, -⟩ := o1.p.rd.shape
  obtain ⟨a4, d4, e4⟩ := o2.s.rd.shp
  obtain ⟨a5, d5, e5⟩ := o2.e.rd.shp
  obtain ⟨a6, d6, e6, -⟩ := o2.p.rd.shape
  have r1 := o1.s.rd
  have r2 := o1.e.rd
  have r3 := o1.p.rd
  have r4 := o2.s.rd
  have r5 := o2.e.rd
  have r6 := o2.p.rd
  rw [e1, e2, e3] at h2
  rw [e4, e5, e6] at h1
  rw [e1] at r1
  rw [e2] at r2
  rw [e3] at r3
  rw [e4] at r4
  rw [e5] at r5
  rw [e6] at r6
  exact ⟨a1, d1, a2, d2, a3, d3, a4, d4, a5, d5, a6, d6, ⟨h2, r1, r2, r3⟩, ⟨h1, r4, r5, r6⟩⟩
theorem same7 {sa ta pa ra ea fa : Option Addr} {sc tc ec fc pc rc : Nat} (h1 : Rd w (.slice sa key.length sc) key) (h2 : Rd w (.slice ea 0 ec) []) (h3 : RdPe w (.slice pa 1 pc) [Pe8]) (h4 : Rd w (.slice ta key.length tc) key) (h5 : Rd w (.slice fa 0 fc) []) (h6 : RdPe w (.slice ra 1 rc) [Pe8]) (W : World) (hW : Below w.heap.size w W) :
    Calls Try.prog 9 #[.agg #[.int .u64 7, .slice sa key.length sc, .slice ea 0 ec, .int .u64 1, .int .u64 2, .slice pa 1 pc], .agg #[.int .u64 7, .slice ta key.length tc, .slice fa 0 fc, .int .u64 1, .int .u64 2, .slice ra 1 rc]] W fun x w' => x = .returned (.bool true) ∧ Below w.heap.size w w' :=
  (pm_same (i := 7) (cf := 1) (vr := 2) (by decide) (by decide) (by decide) (h1.below hW (Nat.le_refl _)) (h2.below hW (Nat.le_refl _)) (h3.below hW (Nat.le_refl _)) (h4.below hW (Nat.le_refl _)) (h5.below hW (Nat.le_refl _)) (h6.below hW (Nat.le_refl _))).mono (fun x w' q => ⟨q.1, hW.trans (q.2.mono hW.size)⟩)
theorem same1 {sa ta pa ra ea fa : Option Addr} {sc tc ec fc pc rc : Nat} (h1 : Rd w (.slice sa 0 sc) []) (h2 : Rd w (.slice ea key.length ec) key) (h3 : RdPe w (.slice pa 1 pc) [Pe1]) (h4 : Rd w (.slice ta 0 tc) []) (h5 : Rd w (.slice fa key.length fc) key) (h6 : RdPe w (.slice ra 1 rc) [Pe1]) (W : World) (hW : Below w.heap.size w W) :
    Calls Try.prog 9 #[.agg #[.int .u64 1, .slice sa 0 sc, .slice ea key.length ec, .int .u64 1, .int .u64 2, .slice pa 1 pc], .agg #[.int .u64 1, .slice ta 0 tc, .slice fa key.length fc, .int .u64 1, .int .u64 2, .slice ra 1 rc]] W fun x w' => x = .returned (.bool true) ∧ Below w.heap.size w w' :=
  (pm_same (i := 1) (cf := 1) (vr := 2) (by decide) (by decide) (by decide) (h1.below hW (Nat.le_refl _)) (h2.below hW (Nat.le_refl _)) (h3.below hW (Nat.le_refl _)) (h4.below hW (Nat.le_refl _)) (h5.below hW (Nat.le_refl _)) (h6.below hW (Nat.le_refl _))).mono (fun x w' q => ⟨q.1, hW.trans (q.2.mono hW.size)⟩)
end
end Go.Proofs.Ytlfdcnojbbigbaa
