/- pd.fresh: the same region in new memory. -/
import Derived.Test.YtlfdcnojbbigbaaG28
import Derived.Test.YtlfdcnojbbigbaaG9
import Derived.Deep.Cut
namespace Go.Proofs.Ytlfdcnojbbigbaa
open Go.RowKit
set_option linter.unusedVariables false
set_option linter.unusedSimpArgs false
set_option maxRecDepth 100000

set_option maxHeartbeats 2000000 in
theorem fresh_rg {id cf vr : Int} {sv ev pv : Value} {s e : List UInt8} {ps : List Pe} {w : World} (hs : Rd w sv s) (he : Rd w ev e) (hp : RdPe w pv ps) (hsl : s.length ≤ 140737488355328) (hel : e.length ≤ 140737488355328) (hpl : ps.length ≤ 1099511627776) :
    Calls Try.prog 15 #[.agg #[.int .u64 id, sv, ev, .int .u64 cf, .int .u64 vr, pv]] w fun x w' => ∃ sv' ev' pv', x = .returned (.agg #[.int .u64 id, sv', ev', .int .u64 cf, .int .u64 vr, pv']) ∧ OwR w.heap.size w' sv' ev' pv' s e ps ∧ Below w.heap.size w w' := by
  have HRS : Hid (Rd w sv s ∧ Rd w ev e ∧ RdPe w pv ps) := ⟨hs, he, hp⟩
  obtain ⟨sa, sc, rfl⟩ := hs.shp
  obtain ⟨ea, ec, rfl⟩ := he.shp
  obtain ⟨pa, pk, rfl, _⟩ := hp.shape
  clear hs he hp
  have hB0 : Below w.heap.size w ((w.alloc (.cells #[.int .u64 id, .slice sa s.length sc, .slice ea e.length ec, .int .u64 cf, .int .u64 vr, .slice pa ps.length pk] 34)).alloc (.cells #[.int .u64 0, .slice none 0 0, .slice none 0 0, .int .u64 0, .int .u64 0, .slice none 0 0] 34)) := (g_al w _).alloc (by simp) _
  have hk0 : ((w.alloc (.cells #[.int .u64 id, .slice sa s.length sc, .slice ea e.length ec, .int .u64 cf, .int .u64 vr, .slice pa ps.length pk] 34)).alloc (.cells #[.int .u64 0, .slice none 0 0, .slice none 0 0, .int .u64 0, .int .u64 0, .slice none 0 0] 34)).heap[w.heap.size]? = some (.cells #[.int .u64 id, .slice sa s.length sc, .slice ea e.length ec, .int .u64 cf, .int .u64 vr, .slice pa ps.length pk] 34 (0, 0)) := by
    rw [Below.heap_alloc _ _ _ (by simp)]; exact heap_alloc_new w _
  have hr0 : ((w.alloc (.cells #[.int .u64 id, .slice sa s.length sc, .slice ea e.length ec, .int .u64 cf, .int .u64 vr, .slice pa ps.length pk] 34)).alloc (.cells #[.int .u64 0, .slice none 0 0, .slice none 0 0, .int .u64 0, .int .u64 0, .slice none 0 0] 34)).heap[w.heap.size + 1]? = some (.cells #[.int .u64 0, .slice none 0 0, .slice none 0 0, .int .u64 0, .int .u64 0, .slice none 0 0] 34 (0, 0)) := by
    have := heap_alloc_new (w.alloc (.cells #[.int .u64 id, .slice sa s.length sc, .slice ea e.length ec, .int .u64 cf, .int .u64 vr, .slice pa ps.length pk] 34)) (.cells #[.int .u64 0, .slice none 0 0, .slice none 0 0, .int .u64 0, .int .u64 0, .slice none 0 0] 34)
    rw [World.size_alloc] at this
    exact this
  have hz0 : ((w.alloc (.cells #[.int .u64 id, .slice sa s.length sc, .slice ea e.length ec, .int .u64 cf, .int .u64 vr, .slice pa ps.length pk] 34)).alloc (.cells #[.int .u64 0, .slice none 0 0, .slice none 0 0, .int .u64 0, .int .u64 0, .slice none 0 0] 34)).heap.size > w.heap.size + 1 := by simp
  go_enter Try.func15, Try.ntmps15
  go_upto_region 1 with fail
  generalize ((w.alloc (.cells #[.int .u64 id, .slice sa s.length sc, .slice ea e.length ec, .int .u64 cf, .int .u64 vr, .slice pa ps.length pk] 34)).alloc (.cells #[.int .u64 0, .slice none 0 0, .slice none 0 0, .int .u64 0, .int .u64 0, .slice none 0 0] 34)) = W00 at *
  refine wp_region_heldN (S := fun W => W.heap[w.heap.size]? = some (.cells #[.int .u64 id, .slice sa s.length sc, .slice ea e.length ec, .int .u64 cf, .int .u64 vr, .slice pa ps.length pk] 34 (0, 0))) (L := [10, 11, 12, 13, 14]) (by kernel_rfl) ?_
  have hk0' : W00.drew.heap[w.heap.size]? = _ := hk0
  have hr0' : W00.drew.heap[w.heap.size + 1]? = _ := hr0
  have hB0' : Below w.heap.size w W00.drew := hB0.drew
  have hz0' : W00.drew.heap.size > w.heap.size + 1 := hz0
  clear hk0 hr0 hB0 hz0
  generalize W00.drew = W0 at *
  refine wpAnyN_take (i := 0) (v := .pointer (some ⟨w.heap.size, 1, none⟩)) rfl (by kernel_rfl) (by kernel_rfl) (by kernel_rfl) (by kernel_rfl) (fun _ _ _ h => h) (.inl ⟨by kernel_rfl, fun W hW => by kernel_rfl⟩) hk0' ?_
  refine wpAnyN_take (i := 1) (v := .slice sa s.length sc) rfl (by kernel_rfl) (by kernel_rfl) (by kernel_rfl) (by kernel_rfl) (fun _ _ _ h => h) (.inl ⟨by kernel_rfl, fun W hW => by obtain ⟨m0, m1, m2, m3, m4, m5, _⟩ := cells6 hW; go_simp⟩) hk0' ?_
  refine wpAnyN_take (i := 3) (v := .pointer (some ⟨w.heap.size, 2, none⟩)) rfl (by kernel_rfl) (by kernel_rfl) (by kernel_rfl) (by kernel_rfl) (fun _ _ _ h => h) (.inl ⟨by kernel_rfl, fun W hW => by kernel_rfl⟩) hk0' ?_
  refine wpAnyN_take (i := 4) (v := .slice ea e.length ec) rfl (by kernel_rfl) (by kernel_rfl) (by kernel_rfl) (by kernel_rfl) (fun _ _ _ h => h) (.inl ⟨by kernel_rfl, fun W hW => by obtain ⟨m0, m1, m2, m3, m4, m5, _⟩ := cells6 hW; go_simp⟩) hk0' ?_
  refine wpAnyN_take (i := 6) (v := .pointer (some ⟨w.heap.size, 5, none⟩)) rfl (by kernel_rfl) (by kernel_rfl) (by kernel_rfl) (by kernel_rfl) (fun _ _ _ h => h) (.inl ⟨by kernel_rfl, fun W hW => by kernel_rfl⟩) hk0' ?_
  refine wpAnyN_take (i := 7) (v := .slice pa ps.length pk) rfl (by kernel_rfl) (by kernel_rfl) (by kernel_rfl) (by kernel_rfl) (fun _ _ _ h => h) (.inl ⟨by kernel_rfl, fun W hW => by obtain ⟨m0, m1, m2, m3, m4, m5, _⟩ := cells6 hW; go_simp⟩) hk0' ?_
  refine wpAnyN_one (i := 2) (by kernel_rfl) rfl (fun K hK => ?_)
  rw [if_pos (by kernel_rfl)]
  go_simp
  refine (clone_any (HRS.out.1.below hB0' (Nat.le_refl _)) hsl).mono ?_
  rintro x w1 ⟨v1, rfl, o1, b1⟩
  have hs1 := b1.size
  have hk1 : w1.heap[w.heap.size]? = _ := (b1.block _ (by omega)).trans hk0'
  have hr1 : w1.heap[w.heap.size + 1]? = _ := (b1.block _ (by omega)).trans hr0'
  have hB1 : Below w.heap.size w w1 := hB0'.trans (b1.mono hB0'.size)
  obtain ⟨a1, d1, rfl⟩ := o1.shp
  simp only []
  refine hK _ _ (fun _ => hk1) ?_
  clear hK K
  refine wpAnyN_take (i := 9) (v := .pointer (some ⟨w.heap.size, 1, none⟩)) rfl (by kernel_rfl) (by kernel_rfl) (by kernel_rfl) (by kernel_rfl) (fun _ _ _ h => h) (.inl ⟨by kernel_rfl, fun W hW => by kernel_rfl⟩) hk1 ?_
  refine wpAnyN_one (i := 5) (by kernel_rfl) rfl (fun K hK => ?_)
  rw [if_pos (by kernel_rfl)]
  go_simp
  refine (clone_any (HRS.out.2.1.below hB1 (Nat.le_refl _)) hel).mono ?_
  rintro x w2 ⟨v2, rfl, o2, b2⟩
  have hs2 := b2.size
  have hk2 : w2.heap[w.heap.size]? = _ := (b2.block _ (by omega)).trans hk1
  have hr2 : w2.heap[w.heap.size + 1]? = _ := (b2.block _ (by omega)).trans hr1
  have hB2 : Below w.heap.size w w2 := hB1.trans (b2.mono hB1.size)
  obtain ⟨a2, d2, rfl⟩ := o2.shp
  simp only []
  refine hK _ _ (fun _ => hk2) ?_
  clear hK K
  refine wpAnyN_one (i := 8) (by kernel_rfl) rfl (fun K hK => ?_)
  rw [if_pos (by kernel_rfl)]
  go_simp
  refine (cloneP_any (HRS.out.2.2.below hB2 (Nat.le_refl _)) hpl).mono ?_
  rintro x w3 ⟨v3, rfl, o3, b3⟩
  have hs3 := b3.size
  have hk3 : w3.heap[w.heap.size]? = _ := (b3.block _ (by omega)).trans hk2
  have hr3 : w3.heap[w.heap.size + 1]? = _ := (b3.block _ (by omega)).trans hr2
  have hB3 : Below w.heap.size w w3 := hB2.trans (b3.mono hB2.size)
  obtain ⟨a3, d3, rfl⟩ := o3.shape
  have oo1 : Ow W0.heap.size w3 (.slice a1 s.length d1) s := (o1.below b2 (Nat.le_refl _)).below b3 (by omega)
  have oo2 : Ow w1.heap.size w3 (.slice a2 e.length d2) e := o2.below b3 (Nat.le_refl _)
  have hOR : OwR W0.heap.size w3 (.slice a1 s.length d1) (.slice a2 e.length d2) (.slice a3 ps.length d3) s e ps :=
    ⟨oo1, oo2.mono (by omega), o3.mono (by omega),
     fun b q1 q2 => by have := (o1.lt0 b q1).2; have := (oo2.lt0 b q2).1; omega,
     fun b q1 q2 => by have := (o1.lt0 b q1).2; have := (o3.lt b q2).1; omega,
     fun b q1 q2 => by have := (o2.lt0 b q1).2; have := (o3.lt b q2).1; omega⟩
  simp only []
  refine hK _ _ (fun _ => hk3) ?_
  clear hK K
  have hlg : w.heap.size + 1 < w3.heap.size := by omega
  have hC0 := hB3
  have hO0 := hOR
  have hl0 := hlg
  clear hOR hB3 hB2 hB1 hB0' hk0' hk1 hk2 hr0' hr1 hr2 oo1 oo2 o1 o2 o3 b1 b2 b3
  refine wpAnyN_one (i := 10) (by kernel_rfl) rfl (fun K hK => ?_)
  rw [if_pos (by kernel_rfl)]
  obtain ⟨c0, c1, c2, c3, c4, c5, cz⟩ := cells6 hk3
  have z := cz 1
  go_simp
  refine hK _ _ (fun h => absurd h (by decide)) ?_
  clear hK K c0 c1 c2 c3 c4 c5 cz z
  have ch := put1_chg w3 w.heap.size 1 (.slice a1 s.length d1)
  have hq1 : (w3.setCell ⟨w.heap.size, 1, none⟩ (.slice a1 s.length d1)).heap[w.heap.size]? = some (.cells #[.int .u64 id, .slice a1 s.length d1, .slice ea e.length ec, .int .u64 cf, .int .u64 vr, .slice pa ps.length pk] 34 (0, 0)) := put1_block hk3 _
  have hp1 : (w3.setCell ⟨w.heap.size, 1, none⟩ (.slice a1 s.length d1)).heap[w.heap.size + 1]? = _ := (ch.block _ (by omega) (by omega)).trans hr3
  have hC1 : Below w.heap.size w (w3.setCell ⟨w.heap.size, 1, none⟩ (.slice a1 s.length d1)) := hC0.trans (ch.below (fun b q => by omega) hC0.size)
  have hO1 : OwR W0.heap.size (w3.setCell ⟨w.heap.size, 1, none⟩ (.slice a1 s.length d1)) (.slice a1 s.length d1) (.slice a2 e.length d2) (.slice a3 ps.length d3) s e ps := hO0.keptC ch (fun b q1 q2 => by omega)
  have hl1 : w.heap.size + 1 < (w3.setCell ⟨w.heap.size, 1, none⟩ (.slice a1 s.length d1)).heap.size := by have := ch.size; omega
  clear ch
  generalize (w3.setCell ⟨w.heap.size, 1, none⟩ (.slice a1 s.length d1)) = U1 at *
  refine wpAnyN_one (i := 11) (by kernel_rfl) rfl (fun K hK => ?_)
  rw [if_pos (by kernel_rfl)]
  go_simp
  refine hK _ _ (fun h => absurd h (by decide)) ?_
  clear hK K
  refine wpAnyN_one (i := 12) (by kernel_rfl) rfl (fun K hK => ?_)
  rw [if_pos (by kernel_rfl)]
  obtain ⟨c0, c1, c2, c3, c4, c5, cz⟩ := cells6 hq1
  have z := cz 2
  go_simp
  refine hK _ _ (fun h => absurd h (by decide)) ?_
  clear hK K c0 c1 c2 c3 c4 c5 cz z
  have ch := put1_chg U1 w.heap.size 2 (.slice a2 e.length d2)
  have hq2 : (U1.setCell ⟨w.heap.size, 2, none⟩ (.slice a2 e.length d2)).heap[w.heap.size]? = some (.cells #[.int .u64 id, .slice a1 s.length d1, .slice a2 e.length d2, .int .u64 cf, .int .u64 vr, .slice pa ps.length pk] 34 (0, 0)) := put1_block hq1 _
  have hp2 : (U1.setCell ⟨w.heap.size, 2, none⟩ (.slice a2 e.length d2)).heap[w.heap.size + 1]? = _ := (ch.block _ (by omega) (by omega)).trans hp1
  have hC2 : Below w.heap.size w (U1.setCell ⟨w.heap.size, 2, none⟩ (.slice a2 e.length d2)) := hC1.trans (ch.below (fun b q => by omega) hC1.size)
  have hO2 : OwR W0.heap.size (U1.setCell ⟨w.heap.size, 2, none⟩ (.slice a2 e.length d2)) (.slice a1 s.length d1) (.slice a2 e.length d2) (.slice a3 ps.length d3) s e ps := hO1.keptC ch (fun b q1 q2 => by omega)
  have hl2 : w.heap.size + 1 < (U1.setCell ⟨w.heap.size, 2, none⟩ (.slice a2 e.length d2)).heap.size := by have := ch.size; omega
  clear ch
  generalize (U1.setCell ⟨w.heap.size, 2, none⟩ (.slice a2 e.length d2)) = U2 at *
  refine wpAnyN_one (i := 13) (by kernel_rfl) rfl (fun K hK => ?_)
  rw [if_pos (by kernel_rfl)]
  go_simp
  refine hK _ _ (fun h => absurd h (by decide)) ?_
  clear hK K
  refine wpAnyN_one (i := 14) (by kernel_rfl) rfl (fun K hK => ?_)
  rw [if_pos (by kernel_rfl)]
  obtain ⟨c0, c1, c2, c3, c4, c5, cz⟩ := cells6 hq2
  have z := cz 5
  go_simp
  refine hK _ _ (fun h => absurd h (by decide)) ?_
  clear hK K c0 c1 c2 c3 c4 c5 cz z
  have ch := put1_chg U2 w.heap.size 5 (.slice a3 ps.length d3)
  have hq3 : (U2.setCell ⟨w.heap.size, 5, none⟩ (.slice a3 ps.length d3)).heap[w.heap.size]? = some (.cells #[.int .u64 id, .slice a1 s.length d1, .slice a2 e.length d2, .int .u64 cf, .int .u64 vr, .slice a3 ps.length d3] 34 (0, 0)) := put1_block hq2 _
  have hp3 : (U2.setCell ⟨w.heap.size, 5, none⟩ (.slice a3 ps.length d3)).heap[w.heap.size + 1]? = _ := (ch.block _ (by omega) (by omega)).trans hp2
  have hC3 : Below w.heap.size w (U2.setCell ⟨w.heap.size, 5, none⟩ (.slice a3 ps.length d3)) := hC2.trans (ch.below (fun b q => by omega) hC2.size)
  have hO3 : OwR W0.heap.size (U2.setCell ⟨w.heap.size, 5, none⟩ (.slice a3 ps.length d3)) (.slice a1 s.length d1) (.slice a2 e.length d2) (.slice a3 ps.length d3) s e ps := hO2.keptC ch (fun b q1 q2 => by omega)
  have hl3 : w.heap.size + 1 < (U2.setCell ⟨w.heap.size, 5, none⟩ (.slice a3 ps.length d3)).heap.size := by have := ch.size; omega
  clear ch
  generalize (U2.setCell ⟨w.heap.size, 5, none⟩ (.slice a3 ps.length d3)) = U3 at *
  refine ⟨by kernel_rfl, ?_⟩
  obtain ⟨e0, e1, e2, e3, e4, e5, ez⟩ := cells6 hq3
  obtain ⟨f0, f1, f2, f3, f4, f5, fz⟩ := cells6 hp3
  have fz0 := fz 0
  have fz1 := fz 1
  have fz2 := fz 2
  have fz3 := fz 3
  have fz4 := fz 4
  have fz5 := fz 5
  have HZ : Hid _ := And.intro (cells6 (set6_block hp3 (.int .u64 id) (.slice a1 s.length d1) (.slice a2 e.length d2) (.int .u64 cf) (.int .u64 vr) (.slice a3 ps.length d3))) (set6_chg U3 (w.heap.size + 1) (.int .u64 id) (.slice a1 s.length d1) (.slice a2 e.length d2) (.int .u64 cf) (.int .u64 vr) (.slice a3 ps.length d3))
  have HOR : Hid _ := hO3
  have HPC : Hid _ := hC3
  clear ez fz hq1 hq2 hq3 hp1 hp2 hp3 hC0 hC1 hC2 hC3 hO0 hO1 hO2 hO3 hk3 hr3
  go_simp
  go_wp2_with fail
  obtain ⟨⟨k0, k1, k2, k3, k4, k5, _⟩, hch⟩ := HZ.out
  generalize ((((((U3.setCell ⟨w.heap.size + 1, 0, none⟩ (.int .u64 id)).setCell ⟨w.heap.size + 1, 1, none⟩ (.slice a1 s.length d1)).setCell ⟨w.heap.size + 1, 2, none⟩ (.slice a2 e.length d2)).setCell ⟨w.heap.size + 1, 3, none⟩ (.int .u64 cf)).setCell ⟨w.heap.size + 1, 4, none⟩ (.int .u64 vr)).setCell ⟨w.heap.size + 1, 5, none⟩ (.slice a3 ps.length d3)) = wz at *
  refine bodyPost_ret (v := .agg #[.int .u64 id, .slice a1 s.length d1, .slice a2 e.length d2, .int .u64 cf, .int .u64 vr, .slice a3 ps.length d3]) (by simp [results, Try.results15, go_sem, k0, k1, k2, k3, k4, k5]; try rfl) rfl ?_
  refine ⟨_, _, _, rfl, ?_, HPC.out.trans (hch.below (fun b q => by omega) HPC.out.size)⟩
  exact (HOR.out.keptC hch (fun b q1 q2 => by omega)).mono (by omega)
end Go.Proofs.Ytlfdcnojbbigbaa
