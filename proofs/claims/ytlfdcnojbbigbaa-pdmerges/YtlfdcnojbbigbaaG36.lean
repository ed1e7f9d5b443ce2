/- Split where it is refused (tools/gensplit10e.py). -/
import Derived.Test.YtlfdcnojbbigbaaG26
import Derived.Test.YtlfdcnojbbigbaaG34
import Derived.Test.YtlfdcnojbbigbaaG12
namespace Go.Proofs.Ytlfdcnojbbigbaa
open Go.RowKit
set_option linter.unusedVariables false
set_option maxRecDepth 100000

set_option maxHeartbeats 2000000 in
theorem split_err {id nid vr : UInt64} {cf : Int} {sv ev pv kv lv : Value} {s e k : List UInt8} {ps : List Pe} {L : List UInt64} {w : World} (hs : Rd w sv s) (he : Rd w ev e) (hp : RdPe w pv ps) (hk : Rd w kv k) (hL : Ru w lv L) (hok : cspE id nid vr s e k ps L ≠ 0) :
    Calls Try.prog 6 #[.agg #[.int .u64 (id.toNat : Int), sv, ev, .int .u64 cf, .int .u64 (vr.toNat : Int), pv], kv, .int .u64 (nid.toNat : Int), lv] w fun x w' => x = .returned (.tuple #[.agg #[.int .u64 0, .slice none 0 0, .slice none 0 0, .int .u64 0, .int .u64 0, .slice none 0 0], .agg #[.int .u64 0, .slice none 0 0, .slice none 0 0, .int .u64 0, .int .u64 0, .slice none 0 0], .int .i64 (cspE id nid vr s e k ps L)]) ∧ Below w.heap.size w w' := by
  have HRS : Hid (Rd w sv s ∧ Rd w ev e ∧ RdPe w pv ps ∧ Rd w kv k ∧ Ru w lv L) := ⟨hs, he, hp, hk, hL⟩
  obtain ⟨sa, sc, rfl⟩ := hs.shp
  obtain ⟨ea, ec, rfl⟩ := he.shp
  obtain ⟨ka, kc, rfl⟩ := hk.shp
  obtain ⟨pa, pk, rfl, hp1, hp2⟩ := hp.shape
  obtain ⟨la, lc, rfl⟩ := hL.shape
  clear hs he hp hk hL
  have hb0 : Below w.heap.size w (((w.alloc (.cells #[.int .u64 (id.toNat : Int), .slice sa s.length sc, .slice ea e.length ec, .int .u64 cf, .int .u64 (vr.toNat : Int), .slice pa ps.length pk] 34)).alloc (.cells #[.int .u64 0, .slice none 0 0, .slice none 0 0, .int .u64 0, .int .u64 0, .slice none 0 0] 34)).alloc (.cells #[.int .u64 0, .slice none 0 0, .slice none 0 0, .int .u64 0, .int .u64 0, .slice none 0 0] 34)) := ((g_al w _).alloc (by simp) _).alloc (by simp; omega) _
  have hl0 : (((w.alloc (.cells #[.int .u64 (id.toNat : Int), .slice sa s.length sc, .slice ea e.length ec, .int .u64 cf, .int .u64 (vr.toNat : Int), .slice pa ps.length pk] 34)).alloc (.cells #[.int .u64 0, .slice none 0 0, .slice none 0 0, .int .u64 0, .int .u64 0, .slice none 0 0] 34)).alloc (.cells #[.int .u64 0, .slice none 0 0, .slice none 0 0, .int .u64 0, .int .u64 0, .slice none 0 0] 34)).heap[w.heap.size]? = some (.cells #[.int .u64 (id.toNat : Int), .slice sa s.length sc, .slice ea e.length ec, .int .u64 cf, .int .u64 (vr.toNat : Int), .slice pa ps.length pk] 34 (0, 0)) := (Below.heap_alloc _ _ _ (by simp; omega)).trans ((Below.heap_alloc _ _ _ (by simp)).trans (heap_alloc_new w _))
  have hh0 : (((w.alloc (.cells #[.int .u64 (id.toNat : Int), .slice sa s.length sc, .slice ea e.length ec, .int .u64 cf, .int .u64 (vr.toNat : Int), .slice pa ps.length pk] 34)).alloc (.cells #[.int .u64 0, .slice none 0 0, .slice none 0 0, .int .u64 0, .int .u64 0, .slice none 0 0] 34)).alloc (.cells #[.int .u64 0, .slice none 0 0, .slice none 0 0, .int .u64 0, .int .u64 0, .slice none 0 0] 34)).heap[w.heap.size + 1]? = some (.cells #[.int .u64 0, .slice none 0 0, .slice none 0 0, .int .u64 0, .int .u64 0, .slice none 0 0] 34 (0, 0)) := (Below.heap_alloc _ _ _ (by simp)).trans (by have := heap_alloc_new (w.alloc (.cells #[.int .u64 (id.toNat : Int), .slice sa s.length sc, .slice ea e.length ec, .int .u64 cf, .int .u64 (vr.toNat : Int), .slice pa ps.length pk] 34)) (.cells #[.int .u64 0, .slice none 0 0, .slice none 0 0, .int .u64 0, .int .u64 0, .slice none 0 0] 34); rw [World.size_alloc] at this; exact this)
  have hz0 : (((w.alloc (.cells #[.int .u64 (id.toNat : Int), .slice sa s.length sc, .slice ea e.length ec, .int .u64 cf, .int .u64 (vr.toNat : Int), .slice pa ps.length pk] 34)).alloc (.cells #[.int .u64 0, .slice none 0 0, .slice none 0 0, .int .u64 0, .int .u64 0, .slice none 0 0] 34)).alloc (.cells #[.int .u64 0, .slice none 0 0, .slice none 0 0, .int .u64 0, .int .u64 0, .slice none 0 0] 34)).heap[w.heap.size + 1 + 1]? = some (.cells #[.int .u64 0, .slice none 0 0, .slice none 0 0, .int .u64 0, .int .u64 0, .slice none 0 0] 34 (0, 0)) := by
    have := heap_alloc_new ((w.alloc (.cells #[.int .u64 (id.toNat : Int), .slice sa s.length sc, .slice ea e.length ec, .int .u64 cf, .int .u64 (vr.toNat : Int), .slice pa ps.length pk] 34)).alloc (.cells #[.int .u64 0, .slice none 0 0, .slice none 0 0, .int .u64 0, .int .u64 0, .slice none 0 0] 34)) (.cells #[.int .u64 0, .slice none 0 0, .slice none 0 0, .int .u64 0, .int .u64 0, .slice none 0 0] 34)
    rw [World.size_alloc, World.size_alloc] at this
    exact this
  have HCS : Hid (∀ W, Below w.heap.size w W → Calls Try.prog 10 #[.agg #[.int .u64 (id.toNat : Int), .slice sa s.length sc, .slice ea e.length ec, .int .u64 cf, .int .u64 (vr.toNat : Int), .slice pa ps.length pk], .slice ka k.length kc, .int .u64 (nid.toNat : Int), .slice la L.length lc] W fun x w' => x = .returned (.int .i64 (cspE id nid vr s e k ps L)) ∧ Below W.heap.size W w') := fun W hb => checkSplit_any (HRS.out.1.below hb (Nat.le_refl _)) (HRS.out.2.1.below hb (Nat.le_refl _)) (HRS.out.2.2.1.below hb (Nat.le_refl _)) (HRS.out.2.2.2.1.below hb (Nat.le_refl _)) (HRS.out.2.2.2.2.below hb (Nat.le_refl _))
  generalize cspE id nid vr s e k ps L = ce at *
  have g1 : (ce != 0) = true := by simpa using hok
  obtain ⟨a0, a1, a2, a3, a4, a5, _⟩ := cells6 hl0
  clear hok
  go_enter Try.func6, Try.ntmps6
  go_wp2_with fail
  generalize (((w.alloc (.cells #[.int .u64 (id.toNat : Int), .slice sa s.length sc, .slice ea e.length ec, .int .u64 cf, .int .u64 (vr.toNat : Int), .slice pa ps.length pk] 34)).alloc (.cells #[.int .u64 0, .slice none 0 0, .slice none 0 0, .int .u64 0, .int .u64 0, .slice none 0 0] 34)).alloc (.cells #[.int .u64 0, .slice none 0 0, .slice none 0 0, .int .u64 0, .int .u64 0, .slice none 0 0] 34)) = W0 at *
  refine (HCS.out W0 hb0).mono ?_
  rintro x w1 ⟨rfl, hb1⟩
  have hB1 := hb0.trans (hb1.mono hb0.size)
  have hh1 := (hb1.block _ (lt_of_some hh0)).trans hh0
  have hz1 := (hb1.block _ (lt_of_some hz0)).trans hz0
  clear hl0 hh0 hz0 a0 a1 a2 a3 a4 a5
  have ch1 := set6_chg w1 (w.heap.size + 1) (.int .u64 0) (.slice none 0 0) (.slice none 0 0) (.int .u64 0) (.int .u64 0) (.slice none 0 0)
  have hh3 := set6_block hh1 (.int .u64 0) (.slice none 0 0) (.slice none 0 0) (.int .u64 0) (.int .u64 0) (.slice none 0 0)
  have hz3 := (ch1.block (w.heap.size + 1 + 1) (lt_of_some hz1) (by omega)).trans hz1
  have hB3 := hB1.trans (ch1.below (fun b q => by omega) hB1.size)
  have HN : Hid _ := And.intro hh3 (And.intro hz3 hB3)
  obtain ⟨y0, y1, y2, y3, y4, y5, yy⟩ := cells6 hh1
  have yy0 := yy 0
  have yy1 := yy 1
  have yy2 := yy 2
  have yy3 := yy 3
  have yy4 := yy 4
  have yy5 := yy 5
  obtain ⟨z0, z1, z2, z3, z4, z5, zz⟩ := cells6 hz1
  have zz0 := zz 0
  have zz1 := zz 1
  have zz2 := zz 2
  have zz3 := zz 3
  have zz4 := zz 4
  have zz5 := zz 5
  clear yy zz ch1 hh3 hz3 hB3
  go_wp2_with fail
  obtain ⟨hh3, hz3, hB3⟩ := HN.out
  generalize ((((((w1.setCell ⟨w.heap.size + 1, 0, none⟩ (.int .u64 0)).setCell ⟨w.heap.size + 1, 1, none⟩ (.slice none 0 0)).setCell ⟨w.heap.size + 1, 2, none⟩ (.slice none 0 0)).setCell ⟨w.heap.size + 1, 3, none⟩ (.int .u64 0)).setCell ⟨w.heap.size + 1, 4, none⟩ (.int .u64 0)).setCell ⟨w.heap.size + 1, 5, none⟩ (.slice none 0 0)) = w3 at *
  have ch4 := set6_chg w3 (w.heap.size + 1 + 1) (.int .u64 0) (.slice none 0 0) (.slice none 0 0) (.int .u64 0) (.int .u64 0) (.slice none 0 0)
  obtain ⟨l0, l1, l2, l3, l4, l5, _⟩ := cells6 (set6_block hz3 (.int .u64 0) (.slice none 0 0) (.slice none 0 0) (.int .u64 0) (.int .u64 0) (.slice none 0 0))
  obtain ⟨k0, k1, k2, k3, k4, k5, _⟩ := cells6 ((ch4.block (w.heap.size + 1) (lt_of_some hh3) (by omega)).trans hh3)
  have hB4 := hB3.trans (ch4.below (fun b q => by omega) hB3.size)
  generalize ((((((w3.setCell ⟨w.heap.size + 1 + 1, 0, none⟩ (.int .u64 0)).setCell ⟨w.heap.size + 1 + 1, 1, none⟩ (.slice none 0 0)).setCell ⟨w.heap.size + 1 + 1, 2, none⟩ (.slice none 0 0)).setCell ⟨w.heap.size + 1 + 1, 3, none⟩ (.int .u64 0)).setCell ⟨w.heap.size + 1 + 1, 4, none⟩ (.int .u64 0)).setCell ⟨w.heap.size + 1 + 1, 5, none⟩ (.slice none 0 0)) = wz at *
  refine bodyPost_ret (v := .tuple #[.agg #[.int .u64 0, .slice none 0 0, .slice none 0 0, .int .u64 0, .int .u64 0, .slice none 0 0], .agg #[.int .u64 0, .slice none 0 0, .slice none 0 0, .int .u64 0, .int .u64 0, .slice none 0 0], .int .i64 ce]) (by simp [results, Try.results6, go_sem, k0, k1, k2, k3, k4, k5, l0, l1, l2, l3, l4, l5]; try rfl) rfl ?_
  exact ⟨rfl, hB4⟩
end Go.Proofs.Ytlfdcnojbbigbaa
