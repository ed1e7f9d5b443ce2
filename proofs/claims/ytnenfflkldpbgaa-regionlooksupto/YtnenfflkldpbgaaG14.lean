/- RegionLooks's walk (tools/genlooks10.py). -/
import Derived.Test.YtnenfflkldpbgaaG9
import Derived.Test.YtnenfflkldpbgaaG7
import Derived.Test.YtnenfflkldpbgaaG10
import Derived.Test.YtnenfflkldpbgaaG5
import Derived.Test.YtnenfflkldpbgaaG4
import Derived.Test.YtnenfflkldpbgaaG13
import Derived.Test.YtnenfflkldpbgaaG12
import Derived.Test.YtnenfflkldpbgaaG3
import Derived.Deep.RegionHeld3
namespace Go.Proofs.Ytnenfflkldpbgaa
open Go.RowKit
set_option linter.unusedVariables false
set_option maxRecDepth 100000

set_option maxHeartbeats 8000000 in
theorem regionLooks_any {id cf vr id' cf' vr' : UInt64} {sv ev pv tv fv qv kv : Value} {s e t f k : List UInt8} {ps qs : List Pe} {st : Int} {w : World} (hs : Rd w sv s) (he : Rd w ev e) (hp : RdPe w pv ps) (ht : Rd w tv t) (hf : Rd w fv f) (hq : RdPe w qv qs) (hk : Rd w kv k) (hsl : s.length ≤ 140737488355328) (hel : e.length ≤ 140737488355328) (hpl : ps.length ≤ 1099511627776) :
    Calls Try.prog 4 #[.agg #[.int .u64 (id.toNat : Int), sv, ev, .int .u64 (cf.toNat : Int), .int .u64 (vr.toNat : Int), pv], .agg #[.int .u64 (id'.toNat : Int), tv, fv, .int .u64 (cf'.toNat : Int), .int .u64 (vr'.toNat : Int), qv], kv, .int .i64 st] w fun x w' => x = .returned (.bool true) ∧ Below w.heap.size w w' := by
  have HRS : Hid (Rd w sv s ∧ Rd w ev e ∧ RdPe w pv ps ∧ Rd w tv t ∧ Rd w fv f ∧ RdPe w qv qs ∧ Rd w kv k) := ⟨hs, he, hp, ht, hf, hq, hk⟩
  obtain ⟨sa, sc, rfl⟩ := hs.shp
  obtain ⟨ea, ec, rfl⟩ := he.shp
  obtain ⟨ta, tc, rfl⟩ := ht.shp
  obtain ⟨fa, fc, rfl⟩ := hf.shp
  obtain ⟨ka, kc, rfl⟩ := hk.shp
  obtain ⟨pa, pk, rfl, _⟩ := hp.shape
  obtain ⟨qa, qk, rfl, _⟩ := hq.shape
  clear hs he ht hf hk hp hq
  have HLN : Hid (s.length ≤ 140737488355328 ∧ e.length ≤ 140737488355328 ∧ ps.length ≤ 1099511627776) := ⟨hsl, hel, hpl⟩
  clear hsl hel hpl
  have hb0 : Below w.heap.size w ((w.alloc (.cells #[.int .u64 (id.toNat : Int), .slice sa s.length sc, .slice ea e.length ec, .int .u64 (cf.toNat : Int), .int .u64 (vr.toNat : Int), .slice pa ps.length pk] 28)).alloc (.cells #[.int .u64 (id'.toNat : Int), .slice ta t.length tc, .slice fa f.length fc, .int .u64 (cf'.toNat : Int), .int .u64 (vr'.toNat : Int), .slice qa qs.length qk] 28)) := (g_al w _).alloc (by simp) _
  have hl0 : ((w.alloc (.cells #[.int .u64 (id.toNat : Int), .slice sa s.length sc, .slice ea e.length ec, .int .u64 (cf.toNat : Int), .int .u64 (vr.toNat : Int), .slice pa ps.length pk] 28)).alloc (.cells #[.int .u64 (id'.toNat : Int), .slice ta t.length tc, .slice fa f.length fc, .int .u64 (cf'.toNat : Int), .int .u64 (vr'.toNat : Int), .slice qa qs.length qk] 28)).heap[w.heap.size]? = some (.cells #[.int .u64 (id.toNat : Int), .slice sa s.length sc, .slice ea e.length ec, .int .u64 (cf.toNat : Int), .int .u64 (vr.toNat : Int), .slice pa ps.length pk] 28 (0, 0)) := (Below.heap_alloc _ _ _ (by simp)).trans (heap_alloc_new w _)
  have hh0 : ((w.alloc (.cells #[.int .u64 (id.toNat : Int), .slice sa s.length sc, .slice ea e.length ec, .int .u64 (cf.toNat : Int), .int .u64 (vr.toNat : Int), .slice pa ps.length pk] 28)).alloc (.cells #[.int .u64 (id'.toNat : Int), .slice ta t.length tc, .slice fa f.length fc, .int .u64 (cf'.toNat : Int), .int .u64 (vr'.toNat : Int), .slice qa qs.length qk] 28)).heap[w.heap.size + 1]? = some (.cells #[.int .u64 (id'.toNat : Int), .slice ta t.length tc, .slice fa f.length fc, .int .u64 (cf'.toNat : Int), .int .u64 (vr'.toNat : Int), .slice qa qs.length qk] 28 (0, 0)) := by
    have := heap_alloc_new (w.alloc (.cells #[.int .u64 (id.toNat : Int), .slice sa s.length sc, .slice ea e.length ec, .int .u64 (cf.toNat : Int), .int .u64 (vr.toNat : Int), .slice pa ps.length pk] 28)) (.cells #[.int .u64 (id'.toNat : Int), .slice ta t.length tc, .slice fa f.length fc, .int .u64 (cf'.toNat : Int), .int .u64 (vr'.toNat : Int), .slice qa qs.length qk] 28)
    rw [World.size_alloc] at this
    exact this
  go_enter Try.func4, Try.ntmps4
  go_wp2_with fail
  generalize ((w.alloc (.cells #[.int .u64 (id.toNat : Int), .slice sa s.length sc, .slice ea e.length ec, .int .u64 (cf.toNat : Int), .int .u64 (vr.toNat : Int), .slice pa ps.length pk] 28)).alloc (.cells #[.int .u64 (id'.toNat : Int), .slice ta t.length tc, .slice fa f.length fc, .int .u64 (cf'.toNat : Int), .int .u64 (vr'.toNat : Int), .slice qa qs.length qk] 28)) = W0 at *
  refine (awake_any W0).mono ?_
  rintro x W1 ⟨rfl, hbW⟩
  have hW1 : Below w.heap.size w W1 := hb0.trans (hbW.mono hb0.size)
  have hx1 := (hbW.block _ (lt_of_some hl0)).trans hl0
  have hy1 := (hbW.block _ (lt_of_some hh0)).trans hh0
  clear hl0 hh0 hb0 hbW
  obtain ⟨a0, a1, a2, a3, a4, a5, _⟩ := cells6 hx1
  go_wp2_with fail
  have hcr : Calls Try.prog 15 #[.agg #[.int .u64 (id.toNat : Int), .slice sa s.length sc, .slice ea e.length ec, .int .u64 (cf.toNat : Int), .int .u64 (vr.toNat : Int), .slice pa ps.length pk]] W1 fun x w' => ∃ sv' ev' pv', x = .returned (.agg #[.int .u64 (id.toNat : Int), sv', ev', .int .u64 (cf.toNat : Int), .int .u64 (vr.toNat : Int), pv']) ∧ OwR W1.heap.size w' sv' ev' pv' s e ps ∧ Below W1.heap.size W1 w' := copyRegion_any (HRS.out.1.below hW1 (Nat.le_refl _)) (HRS.out.2.1.below hW1 (Nat.le_refl _)) (HRS.out.2.2.1.below hW1 (Nat.le_refl _)) HLN.out.1 HLN.out.2.1 HLN.out.2.2
  refine hcr.mono ?_
  clear hcr a0 a1 a2 a3 a4 a5
  rintro x w2 ⟨sv', ev', pv', rfl, ow, hb2⟩
  obtain ⟨sb, sd, rfl⟩ := ow.s.rd.shp
  obtain ⟨eb, ed, rfl⟩ := ow.e.rd.shp
  obtain ⟨pb, pd, rfl, _⟩ := ow.p.rd.shape
  have HOW : Hid (Rd w2 (.slice sb s.length sd) s ∧ Rd w2 (.slice eb e.length ed) e ∧ RdPe w2 (.slice pb ps.length pd) ps) := ⟨ow.s.rd, ow.e.rd, ow.p.rd⟩
  clear ow
  have hW2 : Below w.heap.size w w2 := hW1.trans (hb2.mono hW1.size)
  have hx2 := (hb2.block _ (lt_of_some hx1)).trans hx1
  have hy2 := (hb2.block _ (lt_of_some hy1)).trans hy1
  clear hx1 hy1 hb2
  have hb3 : Below w2.heap.size w2 (w2.alloc (.cells #[.int .u64 (id.toNat : Int), .slice sb s.length sd, .slice eb e.length ed, .int .u64 (cf.toNat : Int), .int .u64 (vr.toNat : Int), .slice pb ps.length pd] 28)) := g_al w2 _
  have hz3 : (w2.alloc (.cells #[.int .u64 (id.toNat : Int), .slice sb s.length sd, .slice eb e.length ed, .int .u64 (cf.toNat : Int), .int .u64 (vr.toNat : Int), .slice pb ps.length pd] 28)).heap[w2.heap.size]? = some (.cells #[.int .u64 (id.toNat : Int), .slice sb s.length sd, .slice eb e.length ed, .int .u64 (cf.toNat : Int), .int .u64 (vr.toNat : Int), .slice pb ps.length pd] 28 (0, 0)) := heap_alloc_new w2 _
  have hx3 := (hb3.block _ (lt_of_some hx2)).trans hx2
  have hy3 := (hb3.block _ (lt_of_some hy2)).trans hy2
  obtain ⟨c0, c1, c2, c3, c4, c5, _⟩ := cells6 hz3
  go_wp2_with fail
  generalize hW3e : w2.alloc (.cells #[.int .u64 (id.toNat : Int), .slice sb s.length sd, .slice eb e.length ed, .int .u64 (cf.toNat : Int), .int .u64 (vr.toNat : Int), .slice pb ps.length pd] 28) = w3 at *
  have hsz3 : w2.heap.size < w3.heap.size := by rw [← hW3e]; simp
  have HSZ3 : Hid _ := hsz3
  clear hW3e hsz3
  have hone := onR_any (i := (id.toNat : Int)) (c := (cf.toNat : Int)) (r := (vr.toNat : Int)) (st := st) (HOW.out.1.below hb3 (Nat.le_refl _)) (HOW.out.2.1.below hb3 (Nat.le_refl _)) (HOW.out.2.2.below hb3 (Nat.le_refl _))
  clear c0 c1 c2 c3 c4 c5
  have HON : Hid (∀ W, Rd W (.slice sa s.length sc) s → Rd W (.slice ea e.length ec) e → RdPe W (.slice pa ps.length pk) ps → Calls Try.prog 17 #[.agg #[.int .u64 (id.toNat : Int), .slice sa s.length sc, .slice ea e.length ec, .int .u64 (cf.toNat : Int), .int .u64 (vr.toNat : Int), .slice pa ps.length pk], .int .i64 st] W fun x w' => x = .returned (.tuple #[peV ((onF ps st).getD noPe), .bool (onF ps st).isSome]) ∧ Below W.heap.size W w') := fun W h1 h2 h3 => ron_any h1 h2 h3
  generalize (onF ps st).getD noPe = pp at *
  generalize (onF ps st).isSome = ob at *
  obtain ⟨p0, p1, p2⟩ := pp
  refine hone.mono ?_
  clear hone
  rintro x w4 ⟨rfl, hb4⟩
  simp only [peV]
  have hb34 : Below w2.heap.size w2 w4 := hb3.trans (hb4.mono hb3.size)
  have hx4 := (hb4.block _ (lt_of_some hx3)).trans hx3
  have hy4 := (hb4.block _ (lt_of_some hy3)).trans hy3
  have hz4 := (hb4.block _ (lt_of_some hz3)).trans hz3
  clear hx2 hy2 hx3 hy3 hz3 hb3 hb4
  have hbP : Below w4.heap.size w4 (w4.alloc (.cells #[.int .u64 (p0.toNat : Int), .int .i64 p1, .bool p2] 31)) := g_al w4 _
  have hp5 : (w4.alloc (.cells #[.int .u64 (p0.toNat : Int), .int .i64 p1, .bool p2] 31)).heap[w4.heap.size]? = some (.cells #[.int .u64 (p0.toNat : Int), .int .i64 p1, .bool p2] 31 (0, 0)) := heap_alloc_new w4 _
  have hx5 := (hbP.block _ (lt_of_some hx4)).trans hx4
  have hy5 := (hbP.block _ (lt_of_some hy4)).trans hy4
  have hz5 := (hbP.block _ (lt_of_some hz4)).trans hz4
  obtain ⟨a0, a1, a2, a3, a4, a5, _⟩ := cells6 hx5
  go_wp2_with fail
  generalize w4.alloc (.cells #[.int .u64 (p0.toNat : Int), .int .i64 p1, .bool p2] 31) = w5 at *
  have hb25 : Below w2.heap.size w2 w5 := hb34.trans (hbP.mono hb34.size)
  have hW5 : Below w.heap.size w w5 := hW2.trans (hb25.mono hW2.size)
  refine (HON.out _ (HRS.out.1.below hW5 (Nat.le_refl _)) (HRS.out.2.1.below hW5 (Nat.le_refl _)) (HRS.out.2.2.1.below hW5 (Nat.le_refl _))).mono ?_
  clear a0 a1 a2 a3 a4 a5 HON
  rintro x w55 ⟨rfl, hb55⟩
  simp only [peV]
  have hbQ : Below w55.heap.size w55 (w55.alloc (.cells #[.int .u64 (p0.toNat : Int), .int .i64 p1, .bool p2] 31)) := g_al w55 _
  have hq6 : (w55.alloc (.cells #[.int .u64 (p0.toNat : Int), .int .i64 p1, .bool p2] 31)).heap[w55.heap.size]? = some (.cells #[.int .u64 (p0.toNat : Int), .int .i64 p1, .bool p2] 31 (0, 0)) := heap_alloc_new w55 _
  have hb56 : Below w5.heap.size w5 (w55.alloc (.cells #[.int .u64 (p0.toNat : Int), .int .i64 p1, .bool p2] 31)) := hb55.trans (hbQ.mono hb55.size)
  have hp6 := (hb56.block _ (lt_of_some hp5)).trans hp5
  have hx6 := (hb56.block _ (lt_of_some hx5)).trans hx5
  have hy6 := (hb56.block _ (lt_of_some hy5)).trans hy5
  have hz6 := (hb56.block _ (lt_of_some hz5)).trans hz5
  clear hp5 hx5 hy5 hz5 hx4 hy4 hz4 hbP
  go_upto_region 6 with fail
  generalize w55.alloc (.cells #[.int .u64 (p0.toNat : Int), .int .i64 p1, .bool p2] 31) = w6 at *
  have hb26 : Below w2.heap.size w2 w6 := hb25.trans (hb56.mono hb25.size)
  have hW6 : Below w.heap.size w w6 := hW2.trans (hb26.mono hW2.size)
  have HK : Hid (∀ W, Below w6.heap.size w6 W → W.heap[w.heap.size]? = some (.cells #[.int .u64 (id.toNat : Int), .slice sa s.length sc, .slice ea e.length ec, .int .u64 (cf.toNat : Int), .int .u64 (vr.toNat : Int), .slice pa ps.length pk] 28 (0, 0)) ∧ W.heap[w.heap.size + 1]? = some (.cells #[.int .u64 (id'.toNat : Int), .slice ta t.length tc, .slice fa f.length fc, .int .u64 (cf'.toNat : Int), .int .u64 (vr'.toNat : Int), .slice qa qs.length qk] 28 (0, 0)) ∧ W.heap[w2.heap.size]? = some (.cells #[.int .u64 (id.toNat : Int), .slice sb s.length sd, .slice eb e.length ed, .int .u64 (cf.toNat : Int), .int .u64 (vr.toNat : Int), .slice pb ps.length pd] 28 (0, 0)) ∧ W.heap[w4.heap.size]? = some (.cells #[.int .u64 (p0.toNat : Int), .int .i64 p1, .bool p2] 31 (0, 0)) ∧ W.heap[w55.heap.size]? = some (.cells #[.int .u64 (p0.toNat : Int), .int .i64 p1, .bool p2] 31 (0, 0))) := fun W hW => ⟨(hW.block _ (lt_of_some hx6)).trans hx6, (hW.block _ (lt_of_some hy6)).trans hy6, (hW.block _ (lt_of_some hz6)).trans hz6, (hW.block _ (lt_of_some hp6)).trans hp6, (hW.block _ (lt_of_some hq6)).trans hq6⟩
  have HRD : Hid (∀ W, Below w6.heap.size w6 W → Rd W (.slice sa s.length sc) s ∧ Rd W (.slice ea e.length ec) e ∧ RdPe W (.slice pa ps.length pk) ps ∧ Rd W (.slice ta t.length tc) t ∧ Rd W (.slice fa f.length fc) f ∧ RdPe W (.slice qa qs.length qk) qs ∧ Rd W (.slice ka k.length kc) k ∧ Rd W (.slice sb s.length sd) s ∧ Rd W (.slice eb e.length ed) e ∧ RdPe W (.slice pb ps.length pd) ps) := fun W hW => by
    have hb : Below w.heap.size w W := hW6.trans (hW.mono hW6.size)
    have hb' : Below w2.heap.size w2 W := hb26.trans (hW.mono hb26.size)
    obtain ⟨q1, q2, q3, q4, q5, q6, q7⟩ := HRS.out
    obtain ⟨r1, r2, r3⟩ := HOW.out
    exact ⟨q1.below hb (Nat.le_refl _), q2.below hb (Nat.le_refl _), q3.below hb (Nat.le_refl _), q4.below hb (Nat.le_refl _), q5.below hb (Nat.le_refl _), q6.below hb (Nat.le_refl _), q7.below hb (Nat.le_refl _), r1.below hb' (Nat.le_refl _), r2.below hb' (Nat.le_refl _), r3.below hb' (Nat.le_refl _)⟩
  have hck : ∀ W, Below w6.heap.size w6 W → Calls Try.prog 19 #[.agg #[.int .u64 (id.toNat : Int), .slice sb s.length sd, .slice eb e.length ed, .int .u64 (cf.toNat : Int), .int .u64 (vr.toNat : Int), .slice pb ps.length pd]] W fun e1 w' => e1 = .returned (.int .i64 (chkE id s e ps)) ∧ Below w6.heap.size w6 w' := fun W hW => (check_any (HRD.out W hW).2.2.2.2.2.2.2.1 (HRD.out W hW).2.2.2.2.2.2.2.2.1 (HRD.out W hW).2.2.2.2.2.2.2.2.2).mono (by rintro e1 w' ⟨rfl, hb⟩; exact ⟨rfl, hW.trans (hb.mono hW.size)⟩)
  have hrk : ∀ W, Below w6.heap.size w6 W → Calls Try.prog 20 #[.agg #[.int .u64 (id.toNat : Int), .slice sa s.length sc, .slice ea e.length ec, .int .u64 (cf.toNat : Int), .int .u64 (vr.toNat : Int), .slice pa ps.length pk]] W fun e1 w' => e1 = .returned (.int .i64 (chkE id s e ps)) ∧ Below w6.heap.size w6 w' := fun W hW => (rcheck_any (HRD.out W hW).1 (HRD.out W hW).2.1 (HRD.out W hW).2.2.1).mono (by rintro e1 w' ⟨rfl, hb⟩; exact ⟨rfl, hW.trans (hb.mono hW.size)⟩)
  have hnm : ∀ W, Below w6.heap.size w6 W → Calls Try.prog 18 #[.int .i64 (chkE id s e ps)] W fun e1 w' => e1 = .returned (.int .i64 (chkE id s e ps)) ∧ Below w6.heap.size w6 w' := fun W hW => (num_anyR _ W).mono (by rintro e1 w' ⟨rfl, hb⟩; exact ⟨rfl, hW.trans (hb.mono hW.size)⟩)
  have hcv : ∀ W, Below w6.heap.size w6 W → Calls Try.prog 21 #[.agg #[.int .u64 (id.toNat : Int), .slice sb s.length sd, .slice eb e.length ed, .int .u64 (cf.toNat : Int), .int .u64 (vr.toNat : Int), .slice pb ps.length pd], .slice ka k.length kc] W fun e1 w' => e1 = .returned (.bool (cov s e k)) ∧ Below w6.heap.size w6 w' := fun W hW => (covers_any (HRD.out W hW).2.2.2.2.2.2.2.1 (HRD.out W hW).2.2.2.2.2.2.2.2.1 (HRD.out W hW).2.2.2.2.2.2.1).mono (by rintro e1 w' ⟨rfl, hb⟩; exact ⟨rfl, hW.trans (hb.mono hW.size)⟩)
  have hrv : ∀ W, Below w6.heap.size w6 W → Calls Try.prog 22 #[.agg #[.int .u64 (id.toNat : Int), .slice sa s.length sc, .slice ea e.length ec, .int .u64 (cf.toNat : Int), .int .u64 (vr.toNat : Int), .slice pa ps.length pk], .slice ka k.length kc] W fun e1 w' => e1 = .returned (.bool (cov s e k)) ∧ Below w6.heap.size w6 w' := fun W hW => (rcovers_any (HRD.out W hW).1 (HRD.out W hW).2.1 (HRD.out W hW).2.2.2.2.2.2.1).mono (by rintro e1 w' ⟨rfl, hb⟩; exact ⟨rfl, hW.trans (hb.mono hW.size)⟩)
  have hov : ∀ W, Below w6.heap.size w6 W → Calls Try.prog 23 #[.agg #[.int .u64 (id.toNat : Int), .slice sb s.length sd, .slice eb e.length ed, .int .u64 (cf.toNat : Int), .int .u64 (vr.toNat : Int), .slice pb ps.length pd], .agg #[.int .u64 (id'.toNat : Int), .slice ta t.length tc, .slice fa f.length fc, .int .u64 (cf'.toNat : Int), .int .u64 (vr'.toNat : Int), .slice qa qs.length qk]] W fun e1 w' => e1 = .returned (.bool (ovl s e t f)) ∧ Below w6.heap.size w6 w' := fun W hW => (overlap_any (HRD.out W hW).2.2.2.2.2.2.2.1 (HRD.out W hW).2.2.2.2.2.2.2.2.1 (HRD.out W hW).2.2.2.1 (HRD.out W hW).2.2.2.2.1).mono (by rintro e1 w' ⟨rfl, hb⟩; exact ⟨rfl, hW.trans (hb.mono hW.size)⟩)
  have hro : ∀ W, Below w6.heap.size w6 W → Calls Try.prog 24 #[.agg #[.int .u64 (id.toNat : Int), .slice sa s.length sc, .slice ea e.length ec, .int .u64 (cf.toNat : Int), .int .u64 (vr.toNat : Int), .slice pa ps.length pk], .agg #[.int .u64 (id'.toNat : Int), .slice ta t.length tc, .slice fa f.length fc, .int .u64 (cf'.toNat : Int), .int .u64 (vr'.toNat : Int), .slice qa qs.length qk]] W fun e1 w' => e1 = .returned (.bool (ovl s e t f)) ∧ Below w6.heap.size w6 w' := fun W hW => (roverlap_any (HRD.out W hW).1 (HRD.out W hW).2.1 (HRD.out W hW).2.2.2.1 (HRD.out W hW).2.2.2.2.1).mono (by rintro e1 w' ⟨rfl, hb⟩; exact ⟨rfl, hW.trans (hb.mono hW.size)⟩)
  have hnw : ∀ W, Below w6.heap.size w6 W → Calls Try.prog 25 #[.agg #[.int .u64 (cf.toNat : Int), .int .u64 (vr.toNat : Int)], .agg #[.int .u64 (cf'.toNat : Int), .int .u64 (vr'.toNat : Int)]] W fun e1 w' => e1 = .returned (.bool (nwr cf vr cf' vr')) ∧ Below w6.heap.size w6 w' := fun W hW => (newer_any _ _ _ _ W).mono (by rintro e1 w' ⟨rfl, hb⟩; exact ⟨rfl, hW.trans (hb.mono hW.size)⟩)
  have hrn : ∀ W, Below w6.heap.size w6 W → Calls Try.prog 26 #[.agg #[.int .u64 (cf.toNat : Int), .int .u64 (vr.toNat : Int)], .agg #[.int .u64 (cf'.toNat : Int), .int .u64 (vr'.toNat : Int)]] W fun e1 w' => e1 = .returned (.bool (nwr cf vr cf' vr')) ∧ Below w6.heap.size w6 w' := fun W hW => (rnewer_any _ _ _ _ W).mono (by rintro e1 w' ⟨rfl, hb⟩; exact ⟨rfl, hW.trans (hb.mono hW.size)⟩)
  have hst : ∀ W, Below w6.heap.size w6 W → Calls Try.prog 27 #[.agg #[.int .u64 (id.toNat : Int), .slice sb s.length sd, .slice eb e.length ed, .int .u64 (cf.toNat : Int), .int .u64 (vr.toNat : Int), .slice pb ps.length pd], .agg #[.int .u64 (cf'.toNat : Int), .int .u64 (vr'.toNat : Int)]] W fun e1 w' => e1 = .returned (.bool (stl cf vr cf' vr')) ∧ Below w6.heap.size w6 w' := fun W hW => (stale_any cf vr cf' vr' ⟨_, _, _, rfl⟩ ⟨_, _, _, rfl⟩ ⟨_, _, _, rfl⟩).mono (by rintro e1 w' ⟨rfl, hb⟩; exact ⟨rfl, hW.trans (hb.mono hW.size)⟩)
  have hrt : ∀ W, Below w6.heap.size w6 W → Calls Try.prog 28 #[.agg #[.int .u64 (id.toNat : Int), .slice sa s.length sc, .slice ea e.length ec, .int .u64 (cf.toNat : Int), .int .u64 (vr.toNat : Int), .slice pa ps.length pk], .agg #[.int .u64 (cf'.toNat : Int), .int .u64 (vr'.toNat : Int)]] W fun e1 w' => e1 = .returned (.bool (stl cf vr cf' vr')) ∧ Below w6.heap.size w6 w' := fun W hW => (rstale_any cf vr cf' vr' ⟨_, _, _, rfl⟩ ⟨_, _, _, rfl⟩ ⟨_, _, _, rfl⟩).mono (by rintro e1 w' ⟨rfl, hb⟩; exact ⟨rfl, hW.trans (hb.mono hW.size)⟩)
  generalize chkE id s e ps = ck at *
  generalize cov s e k = cv at *
  generalize ovl s e t f = ov at *
  generalize nwr cf vr cf' vr' = nw at *
  generalize stl cf vr cf' vr' = sl at *
  have hS6 : Below w6.heap.size w6 w6.drew := Below.dN w6 1
  refine wp_region_held_drew (S := (fun W => Below w6.heap.size w6 W)) (by kernel_rfl) hS6 (fun _ => ?_)
  refine wpAnyH_take (i := 0) (v := .agg #[.int .u64 (id.toNat : Int), .slice sb s.length sd, .slice eb e.length ed, .int .u64 (cf.toNat : Int), .int .u64 (vr.toNat : Int), .slice pb ps.length pd]) rfl (by kernel_rfl) (by kernel_rfl) (by kernel_rfl) (fun _ _ _ h => h) (.inl ⟨by kernel_rfl, fun W hW => by obtain ⟨hx, hy, hz, hp1, hq1⟩ := HK.out W hW; obtain ⟨a0, a1, a2, a3, a4, a5, _⟩ := cells6 hx; obtain ⟨b0, b1, b2, b3, b4, b5, _⟩ := cells6 hy; obtain ⟨c0, c1, c2, c3, c4, c5, _⟩ := cells6 hz; go_simp⟩) hS6 ?_
  refine wpAnyH_take (i := 3) (v := .agg #[.int .u64 (id.toNat : Int), .slice sa s.length sc, .slice ea e.length ec, .int .u64 (cf.toNat : Int), .int .u64 (vr.toNat : Int), .slice pa ps.length pk]) rfl (by kernel_rfl) (by kernel_rfl) (by kernel_rfl) (fun _ _ _ h => h) (.inl ⟨by kernel_rfl, fun W hW => by obtain ⟨hx, hy, hz, hp1, hq1⟩ := HK.out W hW; obtain ⟨a0, a1, a2, a3, a4, a5, _⟩ := cells6 hx; obtain ⟨b0, b1, b2, b3, b4, b5, _⟩ := cells6 hy; obtain ⟨c0, c1, c2, c3, c4, c5, _⟩ := cells6 hz; go_simp⟩) hS6 ?_
  refine wpAnyH_ready (rs := [1]) (by kernel_rfl) (by simp) ?_
  refine AllReadyH.cons rfl (fun K hK => ?_) AllReadyH.nil
  rw [if_pos (by kernel_rfl)]
  go_simp
  refine (hck _ hS6).mono ?_
  rintro e1 v7 ⟨rfl, hV7⟩
  simp only []
  refine hK.out _ _ hV7 (fun _ => ?_)
  clear hK K
  refine wpAnyH_ready (rs := [2]) (by kernel_rfl) (by simp) ?_
  refine AllReadyH.cons rfl (fun K hK => ?_) AllReadyH.nil
  rw [if_pos (by kernel_rfl)]
  go_simp
  refine (hnm _ hV7).mono ?_
  rintro e1 v8 ⟨rfl, hV8⟩
  simp only []
  refine hK.out _ _ hV8 (fun _ => ?_)
  clear hK K
  refine wpAnyH_ready (rs := [4]) (by kernel_rfl) (by simp) ?_
  refine AllReadyH.cons rfl (fun K hK => ?_) AllReadyH.nil
  rw [if_pos (by kernel_rfl)]
  go_simp
  refine (hrk _ hV8).mono ?_
  rintro e1 v9 ⟨rfl, hV9⟩
  simp only []
  refine hK.out _ _ hV9 (fun _ => ?_)
  clear hK K
  refine wpAnyH_take (i := 5) (v := .bool false) rfl (by kernel_rfl) (by kernel_rfl) (by kernel_rfl) (fun _ _ _ h => h) (.inl ⟨by kernel_rfl, fun W hW => by go_simp; try simp [*]⟩) hV9 ?_
  refine wpAnyH_take (i := 6) (v := .bool false) rfl (by kernel_rfl) (by kernel_rfl) (by kernel_rfl) (fun _ _ _ h => h) (.inl ⟨by kernel_rfl, fun W hW => by kernel_rfl⟩) hV9 ?_
  refine wpAnyH_take (i := 7) (v := .agg #[.int .u64 (id.toNat : Int), .slice sb s.length sd, .slice eb e.length ed, .int .u64 (cf.toNat : Int), .int .u64 (vr.toNat : Int), .slice pb ps.length pd]) rfl (by kernel_rfl) (by kernel_rfl) (by kernel_rfl) (fun _ _ _ h => h) (.inl ⟨by kernel_rfl, fun W hW => by obtain ⟨hx, hy, hz, hp1, hq1⟩ := HK.out W hW; obtain ⟨a0, a1, a2, a3, a4, a5, _⟩ := cells6 hx; obtain ⟨b0, b1, b2, b3, b4, b5, _⟩ := cells6 hy; obtain ⟨c0, c1, c2, c3, c4, c5, _⟩ := cells6 hz; go_simp⟩) hV9 ?_
  refine wpAnyH_take (i := 8) (v := .slice ka k.length kc) rfl (by kernel_rfl) (by kernel_rfl) (by kernel_rfl) (fun _ _ _ h => h) (.inl ⟨by kernel_rfl, fun W hW => by kernel_rfl⟩) hV9 ?_
  refine wpAnyH_take (i := 10) (v := .agg #[.int .u64 (id.toNat : Int), .slice sa s.length sc, .slice ea e.length ec, .int .u64 (cf.toNat : Int), .int .u64 (vr.toNat : Int), .slice pa ps.length pk]) rfl (by kernel_rfl) (by kernel_rfl) (by kernel_rfl) (fun _ _ _ h => h) (.inl ⟨by kernel_rfl, fun W hW => by obtain ⟨hx, hy, hz, hp1, hq1⟩ := HK.out W hW; obtain ⟨a0, a1, a2, a3, a4, a5, _⟩ := cells6 hx; obtain ⟨b0, b1, b2, b3, b4, b5, _⟩ := cells6 hy; obtain ⟨c0, c1, c2, c3, c4, c5, _⟩ := cells6 hz; go_simp⟩) hV9 ?_
  refine wpAnyH_take (i := 11) (v := .slice ka k.length kc) rfl (by kernel_rfl) (by kernel_rfl) (by kernel_rfl) (fun _ _ _ h => h) (.inl ⟨by kernel_rfl, fun W hW => by kernel_rfl⟩) hV9 ?_
  refine wpAnyH_ready (rs := [9]) (by kernel_rfl) (by simp) ?_
  refine AllReadyH.cons rfl (fun K hK => ?_) AllReadyH.nil
  rw [if_pos (by kernel_rfl)]
  go_simp
  refine (hcv _ hV9).mono ?_
  rintro e1 v10 ⟨rfl, hV10⟩
  simp only []
  refine hK.out _ _ hV10 (fun _ => ?_)
  clear hK K
  refine wpAnyH_ready (rs := [12]) (by kernel_rfl) (by simp) ?_
  refine AllReadyH.cons rfl (fun K hK => ?_) AllReadyH.nil
  rw [if_pos (by kernel_rfl)]
  go_simp
  refine (hrv _ hV10).mono ?_
  rintro e1 v11 ⟨rfl, hV11⟩
  simp only []
  refine hK.out _ _ hV11 (fun _ => ?_)
  clear hK K
  refine wpAnyH_take (i := 13) (v := .bool false) rfl (by kernel_rfl) (by kernel_rfl) (by kernel_rfl) (fun _ _ _ h => h) (.inl ⟨by kernel_rfl, fun W hW => by go_simp; try simp [*]⟩) hV11 ?_
  refine wpAnyH_take (i := 14) (v := .bool false) rfl (by kernel_rfl) (by kernel_rfl) (by kernel_rfl) (fun _ _ _ h => h) (.inl ⟨by kernel_rfl, fun W hW => by go_simp; try simp [*]⟩) hV11 ?_
  refine wpAnyH_take (i := 15) (v := .bool false) rfl (by kernel_rfl) (by kernel_rfl) (by kernel_rfl) (fun _ _ _ h => h) (.inl ⟨by kernel_rfl, fun W hW => by kernel_rfl⟩) hV11 ?_
  refine wpAnyH_take (i := 16) (v := .agg #[.int .u64 (id.toNat : Int), .slice sb s.length sd, .slice eb e.length ed, .int .u64 (cf.toNat : Int), .int .u64 (vr.toNat : Int), .slice pb ps.length pd]) rfl (by kernel_rfl) (by kernel_rfl) (by kernel_rfl) (fun _ _ _ h => h) (.inl ⟨by kernel_rfl, fun W hW => by obtain ⟨hx, hy, hz, hp1, hq1⟩ := HK.out W hW; obtain ⟨a0, a1, a2, a3, a4, a5, _⟩ := cells6 hx; obtain ⟨b0, b1, b2, b3, b4, b5, _⟩ := cells6 hy; obtain ⟨c0, c1, c2, c3, c4, c5, _⟩ := cells6 hz; go_simp⟩) hV11 ?_
  refine wpAnyH_take (i := 17) (v := .agg #[.int .u64 (id'.toNat : Int), .slice ta t.length tc, .slice fa f.length fc, .int .u64 (cf'.toNat : Int), .int .u64 (vr'.toNat : Int), .slice qa qs.length qk]) rfl (by kernel_rfl) (by kernel_rfl) (by kernel_rfl) (fun _ _ _ h => h) (.inl ⟨by kernel_rfl, fun W hW => by obtain ⟨hx, hy, hz, hp1, hq1⟩ := HK.out W hW; obtain ⟨a0, a1, a2, a3, a4, a5, _⟩ := cells6 hx; obtain ⟨b0, b1, b2, b3, b4, b5, _⟩ := cells6 hy; obtain ⟨c0, c1, c2, c3, c4, c5, _⟩ := cells6 hz; go_simp⟩) hV11 ?_
  refine wpAnyH_take (i := 19) (v := .agg #[.int .u64 (id.toNat : Int), .slice sa s.length sc, .slice ea e.length ec, .int .u64 (cf.toNat : Int), .int .u64 (vr.toNat : Int), .slice pa ps.length pk]) rfl (by kernel_rfl) (by kernel_rfl) (by kernel_rfl) (fun _ _ _ h => h) (.inl ⟨by kernel_rfl, fun W hW => by obtain ⟨hx, hy, hz, hp1, hq1⟩ := HK.out W hW; obtain ⟨a0, a1, a2, a3, a4, a5, _⟩ := cells6 hx; obtain ⟨b0, b1, b2, b3, b4, b5, _⟩ := cells6 hy; obtain ⟨c0, c1, c2, c3, c4, c5, _⟩ := cells6 hz; go_simp⟩) hV11 ?_
  refine wpAnyH_take (i := 20) (v := .agg #[.int .u64 (id'.toNat : Int), .slice ta t.length tc, .slice fa f.length fc, .int .u64 (cf'.toNat : Int), .int .u64 (vr'.toNat : Int), .slice qa qs.length qk]) rfl (by kernel_rfl) (by kernel_rfl) (by kernel_rfl) (fun _ _ _ h => h) (.inl ⟨by kernel_rfl, fun W hW => by obtain ⟨hx, hy, hz, hp1, hq1⟩ := HK.out W hW; obtain ⟨a0, a1, a2, a3, a4, a5, _⟩ := cells6 hx; obtain ⟨b0, b1, b2, b3, b4, b5, _⟩ := cells6 hy; obtain ⟨c0, c1, c2, c3, c4, c5, _⟩ := cells6 hz; go_simp⟩) hV11 ?_
  refine wpAnyH_ready (rs := [18]) (by kernel_rfl) (by simp) ?_
  refine AllReadyH.cons rfl (fun K hK => ?_) AllReadyH.nil
  rw [if_pos (by kernel_rfl)]
  go_simp
  refine (hov _ hV11).mono ?_
  rintro e1 v12 ⟨rfl, hV12⟩
  simp only []
  refine hK.out _ _ hV12 (fun _ => ?_)
  clear hK K
  refine wpAnyH_ready (rs := [21]) (by kernel_rfl) (by simp) ?_
  refine AllReadyH.cons rfl (fun K hK => ?_) AllReadyH.nil
  rw [if_pos (by kernel_rfl)]
  go_simp
  refine (hro _ hV12).mono ?_
  rintro e1 v13 ⟨rfl, hV13⟩
  simp only []
  refine hK.out _ _ hV13 (fun _ => ?_)
  clear hK K
  refine wpAnyH_take (i := 22) (v := .bool false) rfl (by kernel_rfl) (by kernel_rfl) (by kernel_rfl) (fun _ _ _ h => h) (.inl ⟨by kernel_rfl, fun W hW => by go_simp; try simp [*]⟩) hV13 ?_
  refine wpAnyH_take (i := 23) (v := .bool false) rfl (by kernel_rfl) (by kernel_rfl) (by kernel_rfl) (fun _ _ _ h => h) (.inl ⟨by kernel_rfl, fun W hW => by go_simp; try simp [*]⟩) hV13 ?_
  refine wpAnyH_take (i := 24) (v := .bool false) rfl (by kernel_rfl) (by kernel_rfl) (by kernel_rfl) (fun _ _ _ h => h) (.inl ⟨by kernel_rfl, fun W hW => by kernel_rfl⟩) hV13 ?_
  refine wpAnyH_take (i := 25) (v := .pointer (some ⟨w.heap.size, 3, none⟩)) rfl (by kernel_rfl) (by kernel_rfl) (by kernel_rfl) (fun _ _ _ h => h) (.inl ⟨by kernel_rfl, fun W hW => by kernel_rfl⟩) hV13 ?_
  refine wpAnyH_take (i := 26) (v := .agg #[.int .u64 (cf.toNat : Int), .int .u64 (vr.toNat : Int)]) rfl (by kernel_rfl) (by kernel_rfl) (by kernel_rfl) (fun _ _ _ h => h) (.inl ⟨by kernel_rfl, fun W hW => by obtain ⟨hx, hy, hz, hp1, hq1⟩ := HK.out W hW; obtain ⟨a0, a1, a2, a3, a4, a5, _⟩ := cells6 hx; obtain ⟨b0, b1, b2, b3, b4, b5, _⟩ := cells6 hy; obtain ⟨c0, c1, c2, c3, c4, c5, _⟩ := cells6 hz; go_simp⟩) hV13 ?_
  refine wpAnyH_take (i := 27) (v := .pointer (some ⟨w.heap.size + 1, 3, none⟩)) rfl (by kernel_rfl) (by kernel_rfl) (by kernel_rfl) (fun _ _ _ h => h) (.inl ⟨by kernel_rfl, fun W hW => by kernel_rfl⟩) hV13 ?_
  refine wpAnyH_take (i := 28) (v := .agg #[.int .u64 (cf'.toNat : Int), .int .u64 (vr'.toNat : Int)]) rfl (by kernel_rfl) (by kernel_rfl) (by kernel_rfl) (fun _ _ _ h => h) (.inl ⟨by kernel_rfl, fun W hW => by obtain ⟨hx, hy, hz, hp1, hq1⟩ := HK.out W hW; obtain ⟨a0, a1, a2, a3, a4, a5, _⟩ := cells6 hx; obtain ⟨b0, b1, b2, b3, b4, b5, _⟩ := cells6 hy; obtain ⟨c0, c1, c2, c3, c4, c5, _⟩ := cells6 hz; go_simp⟩) hV13 ?_
  refine wpAnyH_take (i := 30) (v := .pointer (some ⟨w.heap.size, 3, none⟩)) rfl (by kernel_rfl) (by kernel_rfl) (by kernel_rfl) (fun _ _ _ h => h) (.inl ⟨by kernel_rfl, fun W hW => by kernel_rfl⟩) hV13 ?_
  refine wpAnyH_take (i := 31) (v := .agg #[.int .u64 (cf.toNat : Int), .int .u64 (vr.toNat : Int)]) rfl (by kernel_rfl) (by kernel_rfl) (by kernel_rfl) (fun _ _ _ h => h) (.inl ⟨by kernel_rfl, fun W hW => by obtain ⟨hx, hy, hz, hp1, hq1⟩ := HK.out W hW; obtain ⟨a0, a1, a2, a3, a4, a5, _⟩ := cells6 hx; obtain ⟨b0, b1, b2, b3, b4, b5, _⟩ := cells6 hy; obtain ⟨c0, c1, c2, c3, c4, c5, _⟩ := cells6 hz; go_simp⟩) hV13 ?_
  refine wpAnyH_take (i := 32) (v := .pointer (some ⟨w.heap.size + 1, 3, none⟩)) rfl (by kernel_rfl) (by kernel_rfl) (by kernel_rfl) (fun _ _ _ h => h) (.inl ⟨by kernel_rfl, fun W hW => by kernel_rfl⟩) hV13 ?_
  refine wpAnyH_take (i := 33) (v := .agg #[.int .u64 (cf'.toNat : Int), .int .u64 (vr'.toNat : Int)]) rfl (by kernel_rfl) (by kernel_rfl) (by kernel_rfl) (fun _ _ _ h => h) (.inl ⟨by kernel_rfl, fun W hW => by obtain ⟨hx, hy, hz, hp1, hq1⟩ := HK.out W hW; obtain ⟨a0, a1, a2, a3, a4, a5, _⟩ := cells6 hx; obtain ⟨b0, b1, b2, b3, b4, b5, _⟩ := cells6 hy; obtain ⟨c0, c1, c2, c3, c4, c5, _⟩ := cells6 hz; go_simp⟩) hV13 ?_
  refine wpAnyH_ready (rs := [29]) (by kernel_rfl) (by simp) ?_
  refine AllReadyH.cons rfl (fun K hK => ?_) AllReadyH.nil
  rw [if_pos (by kernel_rfl)]
  go_simp
  refine (hnw _ hV13).mono ?_
  rintro e1 v14 ⟨rfl, hV14⟩
  simp only []
  refine hK.out _ _ hV14 (fun _ => ?_)
  clear hK K
  refine wpAnyH_ready (rs := [34]) (by kernel_rfl) (by simp) ?_
  refine AllReadyH.cons rfl (fun K hK => ?_) AllReadyH.nil
  rw [if_pos (by kernel_rfl)]
  go_simp
  refine (hrn _ hV14).mono ?_
  rintro e1 v15 ⟨rfl, hV15⟩
  simp only []
  refine hK.out _ _ hV15 (fun _ => ?_)
  clear hK K
  refine wpAnyH_take (i := 35) (v := .bool false) rfl (by kernel_rfl) (by kernel_rfl) (by kernel_rfl) (fun _ _ _ h => h) (.inl ⟨by kernel_rfl, fun W hW => by go_simp; try simp [*]⟩) hV15 ?_
  refine wpAnyH_take (i := 36) (v := .bool false) rfl (by kernel_rfl) (by kernel_rfl) (by kernel_rfl) (fun _ _ _ h => h) (.inl ⟨by kernel_rfl, fun W hW => by go_simp; try simp [*]⟩) hV15 ?_
  refine wpAnyH_take (i := 37) (v := .bool false) rfl (by kernel_rfl) (by kernel_rfl) (by kernel_rfl) (fun _ _ _ h => h) (.inl ⟨by kernel_rfl, fun W hW => by kernel_rfl⟩) hV15 ?_
  refine wpAnyH_take (i := 38) (v := .agg #[.int .u64 (id.toNat : Int), .slice sb s.length sd, .slice eb e.length ed, .int .u64 (cf.toNat : Int), .int .u64 (vr.toNat : Int), .slice pb ps.length pd]) rfl (by kernel_rfl) (by kernel_rfl) (by kernel_rfl) (fun _ _ _ h => h) (.inl ⟨by kernel_rfl, fun W hW => by obtain ⟨hx, hy, hz, hp1, hq1⟩ := HK.out W hW; obtain ⟨a0, a1, a2, a3, a4, a5, _⟩ := cells6 hx; obtain ⟨b0, b1, b2, b3, b4, b5, _⟩ := cells6 hy; obtain ⟨c0, c1, c2, c3, c4, c5, _⟩ := cells6 hz; go_simp⟩) hV15 ?_
  refine wpAnyH_take (i := 39) (v := .pointer (some ⟨w.heap.size + 1, 3, none⟩)) rfl (by kernel_rfl) (by kernel_rfl) (by kernel_rfl) (fun _ _ _ h => h) (.inl ⟨by kernel_rfl, fun W hW => by kernel_rfl⟩) hV15 ?_
  refine wpAnyH_take (i := 40) (v := .agg #[.int .u64 (cf'.toNat : Int), .int .u64 (vr'.toNat : Int)]) rfl (by kernel_rfl) (by kernel_rfl) (by kernel_rfl) (fun _ _ _ h => h) (.inl ⟨by kernel_rfl, fun W hW => by obtain ⟨hx, hy, hz, hp1, hq1⟩ := HK.out W hW; obtain ⟨a0, a1, a2, a3, a4, a5, _⟩ := cells6 hx; obtain ⟨b0, b1, b2, b3, b4, b5, _⟩ := cells6 hy; obtain ⟨c0, c1, c2, c3, c4, c5, _⟩ := cells6 hz; go_simp⟩) hV15 ?_
  refine wpAnyH_take (i := 42) (v := .agg #[.int .u64 (id.toNat : Int), .slice sa s.length sc, .slice ea e.length ec, .int .u64 (cf.toNat : Int), .int .u64 (vr.toNat : Int), .slice pa ps.length pk]) rfl (by kernel_rfl) (by kernel_rfl) (by kernel_rfl) (fun _ _ _ h => h) (.inl ⟨by kernel_rfl, fun W hW => by obtain ⟨hx, hy, hz, hp1, hq1⟩ := HK.out W hW; obtain ⟨a0, a1, a2, a3, a4, a5, _⟩ := cells6 hx; obtain ⟨b0, b1, b2, b3, b4, b5, _⟩ := cells6 hy; obtain ⟨c0, c1, c2, c3, c4, c5, _⟩ := cells6 hz; go_simp⟩) hV15 ?_
  refine wpAnyH_take (i := 43) (v := .pointer (some ⟨w.heap.size + 1, 3, none⟩)) rfl (by kernel_rfl) (by kernel_rfl) (by kernel_rfl) (fun _ _ _ h => h) (.inl ⟨by kernel_rfl, fun W hW => by kernel_rfl⟩) hV15 ?_
  refine wpAnyH_take (i := 44) (v := .agg #[.int .u64 (cf'.toNat : Int), .int .u64 (vr'.toNat : Int)]) rfl (by kernel_rfl) (by kernel_rfl) (by kernel_rfl) (fun _ _ _ h => h) (.inl ⟨by kernel_rfl, fun W hW => by obtain ⟨hx, hy, hz, hp1, hq1⟩ := HK.out W hW; obtain ⟨a0, a1, a2, a3, a4, a5, _⟩ := cells6 hx; obtain ⟨b0, b1, b2, b3, b4, b5, _⟩ := cells6 hy; obtain ⟨c0, c1, c2, c3, c4, c5, _⟩ := cells6 hz; go_simp⟩) hV15 ?_
  refine wpAnyH_ready (rs := [41]) (by kernel_rfl) (by simp) ?_
  refine AllReadyH.cons rfl (fun K hK => ?_) AllReadyH.nil
  rw [if_pos (by kernel_rfl)]
  go_simp
  refine (hst _ hV15).mono ?_
  rintro e1 v16 ⟨rfl, hV16⟩
  simp only []
  refine hK.out _ _ hV16 (fun _ => ?_)
  clear hK K
  refine wpAnyH_ready (rs := [45]) (by kernel_rfl) (by simp) ?_
  refine AllReadyH.cons rfl (fun K hK => ?_) AllReadyH.nil
  rw [if_pos (by kernel_rfl)]
  go_simp
  refine (hrt _ hV16).mono ?_
  rintro e1 v17 ⟨rfl, hV17⟩
  simp only []
  refine hK.out _ _ hV17 (fun _ => ?_)
  clear hK K
  refine wpAnyH_take (i := 46) (v := .bool false) rfl (by kernel_rfl) (by kernel_rfl) (by kernel_rfl) (fun _ _ _ h => h) (.inl ⟨by kernel_rfl, fun W hW => by go_simp; try simp [*]⟩) hV17 ?_
  refine wpAnyH_take (i := 47) (v := .bool false) rfl (by kernel_rfl) (by kernel_rfl) (by kernel_rfl) (fun _ _ _ h => h) (.inl ⟨by kernel_rfl, fun W hW => by go_simp; try simp [*]⟩) hV17 ?_
  refine wpAnyH_done (by kernel_rfl) ?_ _
  go_simp
  obtain ⟨v7, hv7⟩ : ∃ v7, v7 = v17 := ⟨v17, rfl⟩
  subst hv7
  obtain ⟨hx7, hy7, hz7, hp7, hq7⟩ := HK.out _ hV17
  obtain ⟨p10, p11, p12, _⟩ := cells3 hp7
  obtain ⟨q10, q11, q12, _⟩ := cells3 hq7
  have hal : Below v7.heap.size v7 ((v7.alloc (.cells #[.int .u64 (p0.toNat : Int), .int .i64 p1, .bool p2] 31)).alloc (.cells #[.int .u64 (p0.toNat : Int), .int .i64 p1, .bool p2] 31)) := (g_al v7 _).alloc (by simp) _
  have hal1 : ((v7.alloc (.cells #[.int .u64 (p0.toNat : Int), .int .i64 p1, .bool p2] 31)).alloc (.cells #[.int .u64 (p0.toNat : Int), .int .i64 p1, .bool p2] 31)).heap[v7.heap.size]? = some (.cells #[.int .u64 (p0.toNat : Int), .int .i64 p1, .bool p2] 31 (0, 0)) := (Below.heap_alloc _ _ _ (by simp)).trans (heap_alloc_new v7 _)
  have hal2 : ((v7.alloc (.cells #[.int .u64 (p0.toNat : Int), .int .i64 p1, .bool p2] 31)).alloc (.cells #[.int .u64 (p0.toNat : Int), .int .i64 p1, .bool p2] 31)).heap[v7.heap.size + 1]? = some (.cells #[.int .u64 (p0.toNat : Int), .int .i64 p1, .bool p2] 31 (0, 0)) := by
    have := heap_alloc_new (v7.alloc (.cells #[.int .u64 (p0.toNat : Int), .int .i64 p1, .bool p2] 31)) (.cells #[.int .u64 (p0.toNat : Int), .int .i64 p1, .bool p2] 31)
    rw [World.size_alloc] at this
    exact this
  have q10' : ∀ o, (v7.alloc o).cell? ⟨w55.heap.size, 0, none⟩ = some (.int .u64 (p0.toNat : Int)) := fun o => by rw [(g_al v7 o).cell (lt_of_some hq7)]; exact q10
  have q11' : ∀ o, (v7.alloc o).cell? ⟨w55.heap.size, 1, none⟩ = some (.int .i64 p1) := fun o => by rw [(g_al v7 o).cell (lt_of_some hq7)]; exact q11
  have q12' : ∀ o, (v7.alloc o).cell? ⟨w55.heap.size, 2, none⟩ = some (.bool p2) := fun o => by rw [(g_al v7 o).cell (lt_of_some hq7)]; exact q12
  go_wp2_with fail
  generalize ((v7.alloc (.cells #[.int .u64 (p0.toNat : Int), .int .i64 p1, .bool p2] 31)).alloc (.cells #[.int .u64 (p0.toNat : Int), .int .i64 p1, .bool p2] 31)) = v8 at *
  refine (samePeers_any (rdpe_one hal1) (rdpe_one hal2)).mono ?_
  rintro x v9 ⟨rfl, n9, rfl⟩
  simp only [decide_true]
  have hV8 : Below w6.heap.size w6 (v8.drewN n9) := hV17.trans ((hal.trans ((Below.dN v8 n9).mono hal.size)).mono hV17.size)
  generalize v8.drewN n9 = v9 at *
  obtain ⟨hx9, hy9, hz9, hp9, hq9⟩ := HK.out _ hV8
  obtain ⟨a0, a1, a2, a3, a4, a5, _⟩ := cells6 hx9
  obtain ⟨c0, c1, c2, c3, c4, c5, _⟩ := cells6 hz9
  go_wp2_with fail
  obtain ⟨q1, q2, q3, q4, q5, q6, q7, q8, q9, q99⟩ := HRD.out _ hV8
  refine (sameRegion_any q8 q9 q99 q1 q2 q3).mono ?_
  rintro x v10 ⟨rfl, hb10⟩
  go_wp2_with fail
  go_ret
  exact ⟨by simp, hW6.trans ((hV8.trans (hb10.mono hV8.size)).mono hW6.size)⟩
end Go.Proofs.Ytnenfflkldpbgaa
