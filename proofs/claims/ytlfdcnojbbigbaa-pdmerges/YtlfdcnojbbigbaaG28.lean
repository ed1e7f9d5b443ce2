/- clone. -/
import Derived.Test.YtlfdcnojbbigbaaG27
namespace Go.Proofs.Ytlfdcnojbbigbaa
open Go.RowKit
set_option linter.unusedVariables false
set_option maxRecDepth 100000

theorem OwPe.keptC {S : Nat → Prop} {w w' : World} {B : Nat} {v : Value} {l : List Pe} (h : OwPe B w v l) (hg : Chg S w w') (hne : ∀ b, v.ownBlock = some b → ¬ S b) : OwPe B w' v l := ownsRow_keptC h hg hne
theorem OwPe.shape {B : Nat} {w : World} {v : Value} {l : List Pe} (h : OwPe B w v l) : ∃ a c, v = .slice a l.length c := by
  obtain ⟨a, c, e, _⟩ := h.rd; exact ⟨a, c, e⟩
theorem OwPe.lt {B : Nat} {w : World} {v : Value} {l : List Pe} (h : OwPe B w v l) : ∀ b, v.ownBlock = some b → B ≤ b ∧ b < w.heap.size := fun b e => World.ownsRow.lt h b e
theorem Ow.lt0 {B : Nat} {w : World} {v : Value} {l : List UInt8} (h : Ow B w v l) : ∀ b, v.ownBlock = some b → B ≤ b ∧ b < w.heap.size := fun b e => World.ownsRow.lt h b e
theorem Ow.shp {B : Nat} {w : World} {v : Value} {l : List UInt8} (h : Ow B w v l) : ∃ a c, v = .slice a l.length c := h.rd.shp
theorem OwR.keptC {S : Nat → Prop} {B : Nat} {w w' : World} {sv ev pv : Value} {s e : List UInt8} {ps : List Pe} (h : OwR B w sv ev pv s e ps) (hg : Chg S w w') (hne : ∀ b, B ≤ b → ¬ S b) : OwR B w' sv ev pv s e ps :=
  ⟨h.s.keptC hg (fun b q => hne b (h.s.lt0 b q).1), h.e.keptC hg (fun b q => hne b (h.e.lt0 b q).1), h.p.keptC hg (fun b q => hne b (h.p.lt b q).1), h.se, h.sp, h.ep⟩
theorem OwR.mono {B B' : Nat} {w : World} {sv ev pv : Value} {s e : List UInt8} {ps : List Pe} (h : OwR B w sv ev pv s e ps) (hB : B' ≤ B) : OwR B' w sv ev pv s e ps := ⟨h.s.mono hB, h.e.mono hB, h.p.mono hB, h.se, h.sp, h.ep⟩
theorem put1_block {w : World} {g i : Nat} {cs : Array Value} {t : TypeId} (h : w.heap[g]? = some (.cells cs t (0, 0))) (u : Value) : (w.setCell ⟨g, i, none⟩ u).heap[g]? = some (.cells (cs.setIfInBounds i u) t (0, 0)) := heap_setCell_same w g i _ _ u h
theorem put1_chg (w : World) (g i : Nat) (u : Value) : Chg (fun b => b = g) w (w.setCell ⟨g, i, none⟩ u) := (Chg.refl (fun b => b = g) w).put g i u rfl

set_option maxHeartbeats 2000000 in
theorem clone_rg {id cf vr : Int} {sv ev pv : Value} {s e : List UInt8} {ps : List Pe} {w : World} (hs : Rd w sv s) (he : Rd w ev e) (hp : RdPe w pv ps) (hsl : s.length ≤ 140737488355328) (hel : e.length ≤ 140737488355328) (hpl : ps.length ≤ 1099511627776) :
    Calls Try.prog 11 #[.agg #[.int .u64 id, sv, ev, .int .u64 cf, .int .u64 vr, pv]] w fun x w' => ∃ sv' ev' pv', x = .returned (.agg #[.int .u64 id, sv', ev', .int .u64 cf, .int .u64 vr, pv']) ∧ OwR w.heap.size w' sv' ev' pv' s e ps ∧ Below w.heap.size w w' := by
  have HRS : Hid (Rd w sv s ∧ Rd w ev e ∧ RdPe w pv ps) := ⟨hs, he, hp⟩
  obtain ⟨sa, sc, rfl⟩ := hs.shp
  obtain ⟨ea, ec, rfl⟩ := he.shp
  obtain ⟨pa, pk, rfl, _⟩ := hp.shape
  clear hs he hp
  obtain ⟨g, hg⟩ : ∃ g, g = w.heap.size := ⟨_, rfl⟩
  have hB0 : Below w.heap.size w ((w.alloc (.cells #[.int .u64 id, .slice sa s.length sc, .slice ea e.length ec, .int .u64 cf, .int .u64 vr, .slice pa ps.length pk] 34)).alloc (.cells #[.int .u64 0, .slice none 0 0, .slice none 0 0, .int .u64 0, .int .u64 0, .slice none 0 0] 34)) := (g_al w _).alloc (by simp) _
  have hk0 : ((w.alloc (.cells #[.int .u64 id, .slice sa s.length sc, .slice ea e.length ec, .int .u64 cf, .int .u64 vr, .slice pa ps.length pk] 34)).alloc (.cells #[.int .u64 0, .slice none 0 0, .slice none 0 0, .int .u64 0, .int .u64 0, .slice none 0 0] 34)).heap[w.heap.size]? = some (.cells #[.int .u64 id, .slice sa s.length sc, .slice ea e.length ec, .int .u64 cf, .int .u64 vr, .slice pa ps.length pk] 34 (0, 0)) := by
    rw [Below.heap_alloc _ _ _ (by simp)]; exact heap_alloc_new w _
  have hr0 : ((w.alloc (.cells #[.int .u64 id, .slice sa s.length sc, .slice ea e.length ec, .int .u64 cf, .int .u64 vr, .slice pa ps.length pk] 34)).alloc (.cells #[.int .u64 0, .slice none 0 0, .slice none 0 0, .int .u64 0, .int .u64 0, .slice none 0 0] 34)).heap[w.heap.size + 1]? = some (.cells #[.int .u64 0, .slice none 0 0, .slice none 0 0, .int .u64 0, .int .u64 0, .slice none 0 0] 34 (0, 0)) := by
    have := heap_alloc_new (w.alloc (.cells #[.int .u64 id, .slice sa s.length sc, .slice ea e.length ec, .int .u64 cf, .int .u64 vr, .slice pa ps.length pk] 34)) (.cells #[.int .u64 0, .slice none 0 0, .slice none 0 0, .int .u64 0, .int .u64 0, .slice none 0 0] 34)
    rw [World.size_alloc] at this
    exact this
  have hz0 : ((w.alloc (.cells #[.int .u64 id, .slice sa s.length sc, .slice ea e.length ec, .int .u64 cf, .int .u64 vr, .slice pa ps.length pk] 34)).alloc (.cells #[.int .u64 0, .slice none 0 0, .slice none 0 0, .int .u64 0, .int .u64 0, .slice none 0 0] 34)).heap.size > w.heap.size + 1 := by simp
  go_enter Try.func11, Try.ntmps11
  go_wp2_with fail
  generalize ((w.alloc (.cells #[.int .u64 id, .slice sa s.length sc, .slice ea e.length ec, .int .u64 cf, .int .u64 vr, .slice pa ps.length pk] 34)).alloc (.cells #[.int .u64 0, .slice none 0 0, .slice none 0 0, .int .u64 0, .int .u64 0, .slice none 0 0] 34)) = W0 at *
  refine (clone_any (HRS.out.1.below hB0 (Nat.le_refl _)) hsl).mono ?_
  rintro x w1 ⟨v1, rfl, o1, b1⟩
  have hs1 := b1.size
  have hk1 : w1.heap[w.heap.size]? = _ := (b1.block _ (by omega)).trans hk0
  have hr1 : w1.heap[w.heap.size + 1]? = _ := (b1.block _ (by omega)).trans hr0
  have hB1 : Below w.heap.size w w1 := hB0.trans (b1.mono hB0.size)
  obtain ⟨a1, d1, rfl⟩ := o1.shp
  obtain ⟨c0, c1, c2, c3, c4, c5, cz⟩ := cells6 hk1
  have z1 := cz 1
  have ch1 := put1_chg w1 w.heap.size 1 (.slice a1 s.length d1)
  have hq1 : (w1.setCell ⟨w.heap.size, 1, none⟩ (.slice a1 s.length d1)).heap[w.heap.size]? = some (.cells #[.int .u64 id, .slice a1 s.length d1, .slice ea e.length ec, .int .u64 cf, .int .u64 vr, .slice pa ps.length pk] 34 (0, 0)) := put1_block hk1 _
  have hp1 : (w1.setCell ⟨w.heap.size, 1, none⟩ (.slice a1 s.length d1)).heap[w.heap.size + 1]? = _ := (ch1.block _ (by omega) (by omega)).trans hr1
  have hC1 : Below w.heap.size w (w1.setCell ⟨w.heap.size, 1, none⟩ (.slice a1 s.length d1)) := hB1.trans (ch1.below (fun b q => by omega) hB1.size)
  have oo1 : Ow W0.heap.size (w1.setCell ⟨w.heap.size, 1, none⟩ (.slice a1 s.length d1)) (.slice a1 s.length d1) s := o1.keptC ch1 (fun b q1 q2 => by have := (o1.lt0 b q1).1; omega)
  have hss1 : w1.heap.size ≤ (w1.setCell ⟨w.heap.size, 1, none⟩ (.slice a1 s.length d1)).heap.size := ch1.size
  have HX1 : Hid _ := And.intro hk1 (And.intro hr1 hB1)
  clear cz hk0 hr0 hk1 hr1 ch1 o1 hB1
  go_wp2_with fail
  generalize (w1.setCell ⟨w.heap.size, 1, none⟩ (.slice a1 s.length d1)) = W1 at *
  clear c0 c1 c2 c3 c4 c5 z1
  refine (clone_any (HRS.out.2.1.below hC1 (Nat.le_refl _)) hel).mono ?_
  rintro x w2 ⟨v2, rfl, o2, b2⟩
  have hs2 := b2.size
  have hk2 : w2.heap[w.heap.size]? = _ := (b2.block _ (by omega)).trans hq1
  have hr2 : w2.heap[w.heap.size + 1]? = _ := (b2.block _ (by omega)).trans hp1
  have hB2 : Below w.heap.size w w2 := hC1.trans (b2.mono hC1.size)
  obtain ⟨a2, d2, rfl⟩ := o2.shp
  obtain ⟨c0, c1, c2, c3, c4, c5, cz⟩ := cells6 hk2
  have z2 := cz 2
  have ch2 := put1_chg w2 w.heap.size 2 (.slice a2 e.length d2)
  have hq2 : (w2.setCell ⟨w.heap.size, 2, none⟩ (.slice a2 e.length d2)).heap[w.heap.size]? = some (.cells #[.int .u64 id, .slice a1 s.length d1, .slice a2 e.length d2, .int .u64 cf, .int .u64 vr, .slice pa ps.length pk] 34 (0, 0)) := put1_block hk2 _
  have hp2 : (w2.setCell ⟨w.heap.size, 2, none⟩ (.slice a2 e.length d2)).heap[w.heap.size + 1]? = _ := (ch2.block _ (by omega) (by omega)).trans hr2
  have hC2 : Below w.heap.size w (w2.setCell ⟨w.heap.size, 2, none⟩ (.slice a2 e.length d2)) := hB2.trans (ch2.below (fun b q => by omega) hB2.size)
  have oo1' : Ow W0.heap.size (w2.setCell ⟨w.heap.size, 2, none⟩ (.slice a2 e.length d2)) (.slice a1 s.length d1) s := (oo1.below b2 (Nat.le_refl _)).keptC ch2 (fun b q1 q2 => by have := (oo1.lt0 b q1).1; omega)
  have oo2 : Ow W1.heap.size (w2.setCell ⟨w.heap.size, 2, none⟩ (.slice a2 e.length d2)) (.slice a2 e.length d2) e := o2.keptC ch2 (fun b q1 q2 => by have := (o2.lt0 b q1).1; omega)
  have hss2 : w2.heap.size ≤ (w2.setCell ⟨w.heap.size, 2, none⟩ (.slice a2 e.length d2)).heap.size := ch2.size
  have HAP : Hid (∀ b, (Value.slice a1 s.length d1).ownBlock = some b → b < W1.heap.size) := fun b q => (oo1.lt0 b q).2
  clear cz hk2 hr2 ch2 o2 hB2 hq1 hp1 hC1 oo1
  go_wp2_with fail
  generalize (w2.setCell ⟨w.heap.size, 2, none⟩ (.slice a2 e.length d2)) = W2 at *
  clear c0 c1 c2 c3 c4 c5 z2
  refine (cloneP_any (HRS.out.2.2.below hC2 (Nat.le_refl _)) hpl).mono ?_
  rintro x w3 ⟨v3, rfl, o3, b3⟩
  have hs3 := b3.size
  have hk3 : w3.heap[w.heap.size]? = _ := (b3.block _ (by omega)).trans hq2
  have hr3 : w3.heap[w.heap.size + 1]? = _ := (b3.block _ (by omega)).trans hp2
  have hB3 : Below w.heap.size w w3 := hC2.trans (b3.mono hC2.size)
  obtain ⟨a3, d3, rfl⟩ := o3.shape
  obtain ⟨c0, c1, c2, c3, c4, c5, cz⟩ := cells6 hk3
  have z5 := cz 5
  have ch3 := put1_chg w3 w.heap.size 5 (.slice a3 ps.length d3)
  have hq3 : (w3.setCell ⟨w.heap.size, 5, none⟩ (.slice a3 ps.length d3)).heap[w.heap.size]? = some (.cells #[.int .u64 id, .slice a1 s.length d1, .slice a2 e.length d2, .int .u64 cf, .int .u64 vr, .slice a3 ps.length d3] 34 (0, 0)) := put1_block hk3 _
  have hp3 : (w3.setCell ⟨w.heap.size, 5, none⟩ (.slice a3 ps.length d3)).heap[w.heap.size + 1]? = _ := (ch3.block _ (by omega) (by omega)).trans hr3
  have hC3 : Below w.heap.size w (w3.setCell ⟨w.heap.size, 5, none⟩ (.slice a3 ps.length d3)) := hB3.trans (ch3.below (fun b q => by omega) hB3.size)
  have hss3 : w3.heap.size ≤ (w3.setCell ⟨w.heap.size, 5, none⟩ (.slice a3 ps.length d3)).heap.size := ch3.size
  have hOR : OwR W0.heap.size (w3.setCell ⟨w.heap.size, 5, none⟩ (.slice a3 ps.length d3)) (.slice a1 s.length d1) (.slice a2 e.length d2) (.slice a3 ps.length d3) s e ps :=
    ⟨((oo1'.below b3 (Nat.le_refl _)).keptC ch3 (fun b q1 q2 => by have := (oo1'.lt0 b q1).1; omega)).mono (Nat.le_refl _),
     ((oo2.below b3 (Nat.le_refl _)).keptC ch3 (fun b q1 q2 => by have := (oo2.lt0 b q1).1; omega)).mono (by omega),
     (o3.keptC ch3 (fun b q1 q2 => by have := (o3.lt b q1).1; omega)).mono (by omega),
     fun b q1 q2 => by have := HAP.out b q1; have := (oo2.lt0 b q2).1; omega,
     fun b q1 q2 => by have := (oo1'.lt0 b q1).2; have := (o3.lt b q2).1; omega,
     fun b q1 q2 => by have := (oo2.lt0 b q1).2; have := (o3.lt b q2).1; omega⟩
  obtain ⟨e0, e1, e2, e3, e4, e5, ez⟩ := cells6 hq3
  obtain ⟨f0, f1, f2, f3, f4, f5, fz⟩ := cells6 hp3
  have fz0 := fz 0
  have fz1 := fz 1
  have fz2 := fz 2
  have fz3 := fz 3
  have fz4 := fz 4
  have fz5 := fz 5
  have HOR : Hid _ := hOR
  have HPC : Hid _ := And.intro hp3 hC3
  have hlg : w.heap.size + 1 < (w3.setCell ⟨w.heap.size, 5, none⟩ (.slice a3 ps.length d3)).heap.size := by omega
  clear cz hk3 hr3 ch3 o3 hB3 hq2 hp2 hC2 oo1' oo2 hOR hp3 hC3 hq3 ez fz HAP
  go_upto_region 4 with fail
  have HDD : Hid _ := And.intro c0 (And.intro c1 (And.intro c2 (And.intro c3 (And.intro c4 (And.intro c5 z5)))))
  clear c0 c1 c2 c3 c4 c5 z5
  generalize (w3.setCell ⟨w.heap.size, 5, none⟩ (.slice a3 ps.length d3)) = W3 at *
  have HZ : Hid _ := And.intro (cells6 (set6_block HPC.out.1 (.int .u64 id) (.slice a1 s.length d1) (.slice a2 e.length d2) (.int .u64 cf) (.int .u64 vr) (.slice a3 ps.length d3))) (set6_chg W3 (w.heap.size + 1) (.int .u64 id) (.slice a1 s.length d1) (.slice a2 e.length d2) (.int .u64 cf) (.int .u64 vr) (.slice a3 ps.length d3))
  go_wp2_with fail
  obtain ⟨⟨k0, k1, k2, k3, k4, k5, _⟩, hch⟩ := HZ.out
  generalize ((((((W3.setCell ⟨w.heap.size + 1, 0, none⟩ (.int .u64 id)).setCell ⟨w.heap.size + 1, 1, none⟩ (.slice a1 s.length d1)).setCell ⟨w.heap.size + 1, 2, none⟩ (.slice a2 e.length d2)).setCell ⟨w.heap.size + 1, 3, none⟩ (.int .u64 cf)).setCell ⟨w.heap.size + 1, 4, none⟩ (.int .u64 vr)).setCell ⟨w.heap.size + 1, 5, none⟩ (.slice a3 ps.length d3)) = wz at *
  refine bodyPost_ret (v := .agg #[.int .u64 id, .slice a1 s.length d1, .slice a2 e.length d2, .int .u64 cf, .int .u64 vr, .slice a3 ps.length d3]) (by simp [results, Try.results11, go_sem, k0, k1, k2, k3, k4, k5]; try rfl) rfl ?_
  refine ⟨_, _, _, rfl, ?_, HPC.out.2.trans (hch.below (fun b q => by omega) HPC.out.2.size)⟩
  exact (HOR.out.keptC hch (fun b q1 q2 => by omega)).mono (by omega)
end Go.Proofs.Ytlfdcnojbbigbaa
