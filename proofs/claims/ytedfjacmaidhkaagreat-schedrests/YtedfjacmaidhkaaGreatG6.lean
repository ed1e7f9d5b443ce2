/- Blocks of three and of six cells. -/
import Derived.Test.YtedfjacmaidhkaaGreatG5
import Derived.Shelf.Lay
import Derived.Shelf.LaySoft
import Derived.Shelf.SlSortCmp.WholeK
import Derived.Test.YtedfjacmaidhkaaGreatG4
import Derived.Maps.OwnSet
import Derived.Lib.BufferRead
namespace Go.Proofs.YtedfjacmaidhkaaGreat
open Go.RowKit
set_option linter.unusedVariables false
set_option maxRecDepth 100000

theorem set3_block {w : World} {g : Nat} {u0 u1 u2 : Value} {t : TypeId} (h : w.heap[g]? = some (.cells #[u0, u1, u2] t (0, 0))) (v0 v1 v2 : Value) : (((w.setCell ⟨g, 0, none⟩ v0).setCell ⟨g, 1, none⟩ v1).setCell ⟨g, 2, none⟩ v2).heap[g]? = some (.cells #[v0, v1, v2] t (0, 0)) := by
  have h0 := heap_setCell_same w g 0 _ _ v0 h
  have h1 := heap_setCell_same _ g 1 _ _ v1 h0
  have h2 := heap_setCell_same _ g 2 _ _ v2 h1
  rw [h2]
  rfl
theorem set3_chg (w : World) (g : Nat) (v0 v1 v2 : Value) : Chg (fun b => b = g) w (((w.setCell ⟨g, 0, none⟩ v0).setCell ⟨g, 1, none⟩ v1).setCell ⟨g, 2, none⟩ v2) :=
  (((Chg.refl (fun b => b = g) w).put g 0 v0 rfl).put g 1 v1 rfl).put g 2 v2 rfl
theorem cells3 {w : World} {g : Nat} {u0 u1 u2 : Value} {t : TypeId} (h : w.heap[g]? = some (.cells #[u0, u1, u2] t (0, 0))) : w.cell? ⟨g, 0, none⟩ = some u0 ∧ w.cell? ⟨g, 1, none⟩ = some u1 ∧ w.cell? ⟨g, 2, none⟩ = some u2 ∧ ∀ i, w.frozen? ⟨g, i, none⟩ = false :=
  ⟨by rw [cell_of_row _ _ _ _ _ _ h]; rfl, by rw [cell_of_row _ _ _ _ _ _ h]; rfl, by rw [cell_of_row _ _ _ _ _ _ h]; rfl, fun i => frozen_of_row _ _ _ _ _ h⟩
theorem set6_block {w : World} {g : Nat} {u0 u1 u2 u3 u4 u5 : Value} {t : TypeId} (h : w.heap[g]? = some (.cells #[u0, u1, u2, u3, u4, u5] t (0, 0))) (v0 v1 v2 v3 v4 v5 : Value) : ((((((w.setCell ⟨g, 0, none⟩ v0).setCell ⟨g, 1, none⟩ v1).setCell ⟨g, 2, none⟩ v2).setCell ⟨g, 3, none⟩ v3).setCell ⟨g, 4, none⟩ v4).setCell ⟨g, 5, none⟩ v5).heap[g]? = some (.cells #[v0, v1, v2, v3, v4, v5] t (0, 0)) := by
  have h0 := heap_setCell_same w g 0 _ _ v0 h
  have h1 := heap_setCell_same _ g 1 _ _ v1 h0
  have h2 := heap_setCell_same _ g 2 _ _ v2 h1
  have h3 := heap_setCell_same _ g 3 _ _ v3 h2
  have h4 := heap_setCell_same _ g 4 _ _ v4 h3
  have h5 := heap_setCell_same _ g 5 _ _ v5 h4
  rw [h5]
  rfl
theorem set6_chg (w : World) (g : Nat) (v0 v1 v2 v3 v4 v5 : Value) : Chg (fun b => b = g) w ((((((w.setCell ⟨g, 0, none⟩ v0).setCell ⟨g, 1, none⟩ v1).setCell ⟨g, 2, none⟩ v2).setCell ⟨g, 3, none⟩ v3).setCell ⟨g, 4, none⟩ v4).setCell ⟨g, 5, none⟩ v5) :=
  ((((((Chg.refl (fun b => b = g) w).put g 0 v0 rfl).put g 1 v1 rfl).put g 2 v2 rfl).put g 3 v3 rfl).put g 4 v4 rfl).put g 5 v5 rfl
theorem cells6 {w : World} {g : Nat} {u0 u1 u2 u3 u4 u5 : Value} {t : TypeId} (h : w.heap[g]? = some (.cells #[u0, u1, u2, u3, u4, u5] t (0, 0))) : w.cell? ⟨g, 0, none⟩ = some u0 ∧ w.cell? ⟨g, 1, none⟩ = some u1 ∧ w.cell? ⟨g, 2, none⟩ = some u2 ∧ w.cell? ⟨g, 3, none⟩ = some u3 ∧ w.cell? ⟨g, 4, none⟩ = some u4 ∧ w.cell? ⟨g, 5, none⟩ = some u5 ∧ ∀ i, w.frozen? ⟨g, i, none⟩ = false :=
  ⟨by rw [cell_of_row _ _ _ _ _ _ h]; rfl, by rw [cell_of_row _ _ _ _ _ _ h]; rfl, by rw [cell_of_row _ _ _ _ _ _ h]; rfl, by rw [cell_of_row _ _ _ _ _ _ h]; rfl, by rw [cell_of_row _ _ _ _ _ _ h]; rfl, by rw [cell_of_row _ _ _ _ _ _ h]; rfl, fun i => frozen_of_row _ _ _ _ _ h⟩
end Go.Proofs.YtedfjacmaidhkaaGreat

/- on: the peer on a store. -/
namespace Go.Proofs.YtedfjacmaidhkaaGreat
open Go.RowKit
set_option linter.unusedVariables false
set_option maxRecDepth 100000

/-- The first peer on that store. -/
def onF (ps : List Pe) (st : Int) : Option Pe := ps.find? (fun p => decide (p.2.1 = st))
def noPe : Pe := (0, 0, false)
def peV (p : Pe) : Value := .agg #[.int .u64 (p.1.toNat : Int), .int .i64 p.2.1, .bool p.2.2]

theorem on1_any {p0 : UInt64} {p1 st : Int} {p2 : Bool} {b : Nat} {w : World} (hc : w.cell? ⟨b, 0, none⟩ = some (.int .i64 st)) :
    Calls Tryz.prog 49 #[.agg #[.int .u64 (p0.toNat : Int), .int .i64 p1, .bool p2], .pointer (some ⟨b, 0, none⟩)] w fun x w' => x = .returned (.bool (decide (p1 = st))) ∧ Below w.heap.size w w' := by
  have hc2 : ∀ o, (w.alloc o).cell? ⟨b, 0, none⟩ = some (.int .i64 st) := fun o => by
    rw [(g_al w o).cell (by have := World.block_lt_of_cell? w _ hc; exact this)]; exact hc
  have hc3 := hc2 (.cells #[.int .u64 (p0.toNat : Int), .int .i64 p1, .bool p2] 44)
  clear hc2
  go_enter Tryz.func49, Tryz.ntmps49
  go_wp2_with fail
  go_ret
  refine ⟨?_, g_al _ _⟩
  by_cases h : p1 = st
  · simp [h]
  · simp [h]
/-- What slices.IndexFunc finds. -/
def IxP (ps : List Pe) (st : Int) (r : Int) : Prop := (∃ (k : Nat) (p : Pe), r = (k : Int) ∧ ps[k]? = some p ∧ onF ps st = some p) ∨ (r = -1 ∧ onF ps st = none)
set_option maxHeartbeats 1000000 in
theorem indexP_any {v : Value} {ps : List Pe} {st : Int} {b : Nat} {w : World} (hr : RdPe w v ps) (hc : w.cell? ⟨b, 0, none⟩ = some (.int .i64 st)) :
    Calls Tryz.prog 27 #[v, .func (.func 49) #[] #[.pointer (some ⟨b, 0, none⟩)]] w fun x w' => ∃ r, x = .returned (.int .i64 r) ∧ IxP ps st r ∧ Below w.heap.size w w' := by
  have HR : Hid (RdPe w v ps) := hr
  have HC : Hid _ := hc
  have hbl := World.block_lt_of_cell? w _ hc
  obtain ⟨ao, c, rfl, h1, h2, h3, h4⟩ := hr
  unfold maxLen at h2
  clear h4 hc
  go_enter Tryz.func27, Tryz.ntmps27
  go_wp2_with fail
  go_loopw [5, 8] (fun _ i wr => ∃ k : Nat, k ≤ ps.length ∧ i = .int .i64 k ∧ Hid (onF ps st = onF (ps.drop k) st) ∧ Below w.heap.size w wr) (fun _ i _ => ps.length - (intOf i).toNat)
  case atStart => exact ⟨0, Nat.zero_le _, rfl, rfl, Below.refl _ _⟩
  case round =>
    obtain ⟨k, hk, rfl, HX, hb⟩ := hrel
    by_cases hlt : k < ps.length
    · have HT : Hid (ps.drop k = ps[k] :: ps.drop (k + 1)) := List.drop_eq_getElem_cons hlt
      have HI : Hid (ps[k]? = some ps[k]) := List.getElem?_eq_getElem hlt
      obtain ⟨ao', c', e, _, _, _, h4⟩ := HR.out.below hb (Nat.le_refl _)
      simp only [Value.slice.injEq, true_and] at e
      obtain ⟨rfl, rfl⟩ := e
      obtain ⟨a, rfl, hc⟩ := h4 k _ (List.getElem?_eq_getElem hlt)
      clear h4
      obtain ⟨c0, c1, c2⟩ := hc
      have hcw : wr.cell? ⟨b, 0, none⟩ = some (.int .i64 st) := by rw [hb.cell hbl]; exact HC.out
      generalize ps[k] = p at *
      obtain ⟨p0, p1, p2⟩ := p
      simp only [] at c0 c1 c2
      have hon := on1_any (p0 := p0) (p1 := p1) (p2 := p2) hcw
      clear hcw
      by_cases he : p1 = st
      · rw [decide_eq_true he] at hon
        have HE : Hid _ := he
        clear he
        go_wp2_with fail
        refine hon.mono ?_
        rintro x w1 ⟨rfl, hb1⟩
        go_wp2_with fail
        go_ret
        refine ⟨_, rfl, .inl ⟨k, (p0, p1, p2), rfl, HI.out, ?_⟩, hb.trans (hb1.mono hb.size)⟩
        rw [HX.out, HT.out]
        unfold onF
        rw [List.find?_cons, decide_eq_true HE.out]
      · rw [decide_eq_false he] at hon
        have HE : Hid _ := he
        clear he
        go_wp2_with fail
        refine hon.mono ?_
        rintro x w1 ⟨rfl, hb1⟩
        go_wp2_with fail
        refine ⟨⟨k + 1, by omega, by go_num, ?_, hb.trans (hb1.mono hb.size)⟩, by simp [intOf]; omega⟩
        show _ = _
        rw [HX.out, HT.out]
        unfold onF
        rw [List.find?_cons, decide_eq_false HE.out]
    · obtain rfl : k = ps.length := by omega
      go_wp2_with fail
      go_ret
      refine ⟨_, rfl, .inr ⟨rfl, ?_⟩, hb⟩
      rw [HX.out, List.drop_length]; rfl
set_option maxHeartbeats 1000000 in
theorem on_any {v : Value} {ps : List Pe} {st : Int} {w : World} (hr : RdPe w v ps) :
    Calls Tryz.prog 24 #[v, .int .i64 st] w fun x w' => x = .returned (.tuple #[peV ((onF ps st).getD noPe), .bool (onF ps st).isSome]) ∧ Below w.heap.size w w' := by
  have HR : Hid (RdPe w v ps) := hr
  obtain ⟨ao, c, rfl, h1, h2, h3, h4⟩ := hr
  unfold maxLen at h2
  clear h4
  have hB0 : Below w.heap.size w ((w.alloc (.cells #[.int .i64 st] 3)).alloc (.cells #[.int .u64 0, .int .i64 0, .bool false] 44)) := (g_al w _).alloc (by simp) _
  have hz0 : ((w.alloc (.cells #[.int .i64 st] 3)).alloc (.cells #[.int .u64 0, .int .i64 0, .bool false] 44)).heap.size = w.heap.size + 2 := by simp
  have hcl : ((w.alloc (.cells #[.int .i64 st] 3)).alloc (.cells #[.int .u64 0, .int .i64 0, .bool false] 44)).cell? ⟨w.heap.size, 0, none⟩ = some (.int .i64 st) := by
    rw [(g_al _ _).cell (by simp), World.cell?_alloc_at _ _ _ _ rfl]; rfl
  have hrs : ((w.alloc (.cells #[.int .i64 st] 3)).alloc (.cells #[.int .u64 0, .int .i64 0, .bool false] 44)).heap[w.heap.size + 1]? = some (.cells #[.int .u64 0, .int .i64 0, .bool false] 44 (0, 0)) := by
    have := heap_alloc_new (w.alloc (.cells #[.int .i64 st] 3)) (.cells #[.int .u64 0, .int .i64 0, .bool false] 44)
    rw [World.size_alloc] at this
    exact this
  go_enter Tryz.func24, Tryz.ntmps24
  go_wp2_with fail
  generalize ((w.alloc (.cells #[.int .i64 st] 3)).alloc (.cells #[.int .u64 0, .int .i64 0, .bool false] 44)) = W0 at *
  refine (indexP_any (HR.out.below hB0 (Nat.le_refl _)) hcl).mono ?_
  rintro x w1 ⟨r, rfl, hix, hb1⟩
  have hB1 : Below w.heap.size w w1 := hB0.trans (hb1.mono hB0.size)
  have hR1 : w1.heap[w.heap.size + 1]? = some (.cells #[.int .u64 0, .int .i64 0, .bool false] 44 (0, 0)) := by rw [hb1.block _ (by omega)]; exact hrs
  have hs1 := hb1.size
  obtain ⟨r0, r1, r2, rz⟩ := cells3 hR1
  have rz0 := rz 0
  have rz1 := rz 1
  have rz2 := rz 2
  rcases hix with ⟨k, p, rfl, hp, ho⟩ | ⟨rfl, ho⟩
  · have HO : Hid _ := ho
    have hkl := (List.getElem?_eq_some_iff.1 hp).1
    obtain ⟨ao', c', e, _, _, _, h4⟩ := HR.out.below hB1 (Nat.le_refl _)
    simp only [Value.slice.injEq, true_and] at e
    obtain ⟨rfl, rfl⟩ := e
    obtain ⟨a, rfl, c0, c1, c2⟩ := h4 k p hp
    obtain ⟨p0, p1, p2⟩ := p
    simp only [] at c0 c1 c2
    have hch := set3_chg w1 (w.heap.size + 1) (.int .u64 (p0.toNat : Int)) (.int .i64 p1) (.bool p2)
    have HZ : Hid _ := And.intro (cells3 (set3_block hR1 (.int .u64 (p0.toNat : Int)) (.int .i64 p1) (.bool p2))) (hB1.trans (hch.below (fun b q => by omega) hB1.size))
    clear hch h4 ho hp hR1 rz hcl hrs
    have hk0 : ¬ ((k : Int) < 0) := by omega
    have hk1 : (k : Int) < (ps.length : Int) := by omega
    go_wp2_with fail
    obtain ⟨⟨k0, k1, k2, _⟩, hBz⟩ := HZ.out
    generalize (((w1.setCell ⟨w.heap.size + 1, 0, none⟩ (.int .u64 (p0.toNat : Int))).setCell ⟨w.heap.size + 1, 1, none⟩ (.int .i64 p1)).setCell ⟨w.heap.size + 1, 2, none⟩ (.bool p2)) = wz at *
    refine bodyPost_ret (v := .tuple #[.agg #[.int .u64 (p0.toNat : Int), .int .i64 p1, .bool p2], .bool true]) (by simp [results, Tryz.results24, go_sem, k0, k1, k2]; try rfl) rfl ?_
    exact ⟨by rw [HO.out]; rfl, hBz⟩
  · have HO : Hid _ := ho
    have hch := set3_chg w1 (w.heap.size + 1) (.int .u64 0) (.int .i64 0) (.bool false)
    have HZ : Hid _ := And.intro (cells3 (set3_block hR1 (.int .u64 0) (.int .i64 0) (.bool false))) (hB1.trans (hch.below (fun b q => by omega) hB1.size))
    clear hch ho hR1 rz hcl hrs
    go_wp2_with fail
    obtain ⟨⟨k0, k1, k2, _⟩, hBz⟩ := HZ.out
    generalize (((w1.setCell ⟨w.heap.size + 1, 0, none⟩ (.int .u64 0)).setCell ⟨w.heap.size + 1, 1, none⟩ (.int .i64 0)).setCell ⟨w.heap.size + 1, 2, none⟩ (.bool false)) = wz at *
    refine bodyPost_ret (v := .tuple #[.agg #[.int .u64 0, .int .i64 0, .bool false], .bool false]) (by simp [results, Tryz.results24, go_sem, k0, k1, k2]; try rfl) rfl ?_
    exact ⟨by rw [HO.out]; rfl, hBz⟩
end Go.Proofs.YtedfjacmaidhkaaGreat

/- region.On. -/
namespace Go.Proofs.YtedfjacmaidhkaaGreat
open Go.RowKit
set_option linter.unusedVariables false
set_option maxRecDepth 100000

set_option maxHeartbeats 2000000 in
theorem onR_any {i c r : Int} {sv ev pv : Value} {s e : List UInt8} {ps : List Pe} {st : Int} {w : World} (hs : Rd w sv s) (he : Rd w ev e) (hp : RdPe w pv ps) :
    Calls Tryz.prog 12 #[.agg #[.int .u64 i, sv, ev, .int .u64 c, .int .u64 r, pv], .int .i64 st] w fun x w' => x = .returned (.tuple #[peV ((onF ps st).getD noPe), .bool (onF ps st).isSome]) ∧ Below w.heap.size w w' := by
  obtain ⟨sa, sc, rfl⟩ := hs.shp
  obtain ⟨ea, ec, rfl⟩ := he.shp
  have HR : Hid (RdPe w pv ps) := hp
  obtain ⟨pa, pk, rfl, _⟩ := hp.shape
  clear hs he hp
  have hB0 : Below w.heap.size w ((w.alloc (.cells #[.int .u64 i, .slice sa s.length sc, .slice ea e.length ec, .int .u64 c, .int .u64 r, .slice pa ps.length pk] 40)).alloc (.cells #[.int .u64 0, .int .i64 0, .bool false] 44)) := (g_al w _).alloc (by simp) _
  have hk0 : ((w.alloc (.cells #[.int .u64 i, .slice sa s.length sc, .slice ea e.length ec, .int .u64 c, .int .u64 r, .slice pa ps.length pk] 40)).alloc (.cells #[.int .u64 0, .int .i64 0, .bool false] 44)).heap[w.heap.size]? = some (.cells #[.int .u64 i, .slice sa s.length sc, .slice ea e.length ec, .int .u64 c, .int .u64 r, .slice pa ps.length pk] 40 (0, 0)) := (Below.heap_alloc _ _ _ (by simp)).trans (heap_alloc_new w _)
  have hr0 : ((w.alloc (.cells #[.int .u64 i, .slice sa s.length sc, .slice ea e.length ec, .int .u64 c, .int .u64 r, .slice pa ps.length pk] 40)).alloc (.cells #[.int .u64 0, .int .i64 0, .bool false] 44)).heap[w.heap.size + 1]? = some (.cells #[.int .u64 0, .int .i64 0, .bool false] 44 (0, 0)) := by
    have := heap_alloc_new (w.alloc (.cells #[.int .u64 i, .slice sa s.length sc, .slice ea e.length ec, .int .u64 c, .int .u64 r, .slice pa ps.length pk] 40)) (.cells #[.int .u64 0, .int .i64 0, .bool false] 44)
    rw [World.size_alloc] at this
    exact this
  have hon : ∀ W, RdPe W (.slice pa ps.length pk) ps → Calls Tryz.prog 24 #[.slice pa ps.length pk, .int .i64 st] W fun x w' => x = .returned (.tuple #[peV ((onF ps st).getD noPe), .bool (onF ps st).isSome]) ∧ Below W.heap.size W w' := fun W h => on_any h
  generalize (onF ps st).getD noPe = pp at *
  generalize (onF ps st).isSome = ob at *
  obtain ⟨p0, p1, p2⟩ := pp
  go_enter Tryz.func12, Tryz.ntmps12
  go_wp2_with fail
  generalize ((w.alloc (.cells #[.int .u64 i, .slice sa s.length sc, .slice ea e.length ec, .int .u64 c, .int .u64 r, .slice pa ps.length pk] 40)).alloc (.cells #[.int .u64 0, .int .i64 0, .bool false] 44)) = W at *
  refine (hon _ (HR.out.below hB0 (Nat.le_refl _))).mono ?_
  rintro x w1 ⟨rfl, hb1⟩
  simp only [peV]
  have hr1 := (hb1.block _ (Array.getElem?_eq_some_iff.1 hr0).1).trans hr0
  have hB1 : Below w.heap.size w w1 := hB0.trans (hb1.mono hB0.size)
  obtain ⟨r0, r1, r2, rz⟩ := cells3 hr1
  have rz0 := rz 0
  have rz1 := rz 1
  have rz2 := rz 2
  clear rz hk0 hr0
  have hch := set3_chg w1 (w.heap.size + 1) (.int .u64 (p0.toNat : Int)) (.int .i64 p1) (.bool p2)
  have HZ : Hid _ := And.intro (cells3 (set3_block hr1 (.int .u64 (p0.toNat : Int)) (.int .i64 p1) (.bool p2))) (hB1.trans (hch.below (fun b q => by omega) hB1.size))
  clear hch hr1
  go_wp2_with fail
  obtain ⟨⟨k0, k1, k2, _⟩, hBz⟩ := HZ.out
  generalize (((w1.setCell ⟨w.heap.size + 1, 0, none⟩ (.int .u64 (p0.toNat : Int))).setCell ⟨w.heap.size + 1, 1, none⟩ (.int .i64 p1)).setCell ⟨w.heap.size + 1, 2, none⟩ (.bool p2)) = wz at *
  refine bodyPost_ret (v := .tuple #[.agg #[.int .u64 (p0.toNat : Int), .int .i64 p1, .bool p2], .bool ob]) (by simp [results, Tryz.results12, go_sem, k0, k1, k2]; try rfl) rfl ?_
  exact ⟨rfl, hBz⟩
end Go.Proofs.YtedfjacmaidhkaaGreat

/- What a sort leaves. -/
namespace Go.Proofs.YtedfjacmaidhkaaGreat
open Go.RowKit Go.Shelf Go.Lib
open Go.Sort hiding Below
set_option linter.unusedVariables false
set_option maxRecDepth 100000

theorem sort_chg {α : Type} [Inhabited α] (enc : α → List Value) (k : Nat) (w : World) (blk off n : Nat) (d : Array α) (os : Array Obj) : Chg (fun b => b = blk) w (sortWorldK enc k w blk off n d os) := by
  have e : (sortWorldK enc k w blk off n d os).heap = w.heap.modify blk (onCells (putCells id off (flatK enc k d))) ++ os := rfl
  refine ⟨rfl, rfl, rfl, ?_, fun b hb hne => ?_⟩
  · rw [e]; simp
  · rw [e, Array.getElem?_append_left (by simpa using hb), Array.getElem?_modify, if_neg (fun q => hne q.symm)]
theorem Rd.keptE {S : Nat → Prop} {w w' : World} {v : Value} {l : List UInt8} (h : Rd w v l) (hg : Chg S w w') (hne : ∀ b, v.ownBlock = some b → S b → l = []) : Rd w' v l := by
  by_cases hl : l = []
  · subst hl
    obtain ⟨ao, c, h0, h1, h2, h3, _⟩ := h
    exact ⟨ao, c, h0, h1, h2, h3, fun i hi => by simp at hi⟩
  · exact h.keptC hg (fun b e q => hl (hne b e q))
theorem Rd.blk {w : World} {v : Value} {l : List UInt8} (h : Rd w v l) (hl : l ≠ []) {b : Nat} (hb : v.ownBlock = some b) : b < w.heap.size := by
  obtain ⟨ao, c, rfl, h1, h2, h3, h4⟩ := h
  obtain ⟨a, rfl, hc⟩ := h4 0 (List.length_pos_iff.2 hl)
  have := World.block_lt_of_cell? w _ hc
  have e : a.block = b := Option.some.inj hb
  rw [← e]
  exact this
end Go.Proofs.YtedfjacmaidhkaaGreat

/- The heap of peers in memory: the queue of sched.first. -/
namespace Go.Proofs.YtedfjacmaidhkaaGreat
open Go.RowKit
set_option linter.unusedVariables false
set_option maxRecDepth 100000

theorem heap_new (w : World) (o : Obj) : (w.alloc o).heap[w.heap.size]? = some o := heap_alloc_new w o
def sv (x : Option Addr × Nat × Nat) : Value := .slice x.1 x.2.1 x.2.2
theorem pcs_at (H : List Pe) (i : Nat) (e : Pe) (h : H[i]? = some e) : (pcs H)[i * 3]? = some (.int .u64 (e.1.toNat : Int)) ∧ (pcs H)[i * 3 + 1]? = some (.int .i64 e.2.1) ∧ (pcs H)[i * 3 + 2]? = some (.bool e.2.2) :=
  ⟨fm_at pc_len H i 0 e h (by omega), fm_at pc_len H i 1 e h (by omega), fm_at pc_len H i 2 e h (by omega)⟩
theorem pcs_set (H : List Pe) (i : Nat) (e : Pe) : (((pcs H).set (i * 3) (.int .u64 (e.1.toNat : Int))).set (i * 3 + 1) (.int .i64 e.2.1)).set (i * 3 + 2) (.bool e.2.2) = pcs (H.set i e) := by
  induction H generalizing i with
  | nil => simp [pcs]
  | cons h t ih =>
    cases i with
    | zero => simp [pcs, pc]
    | succ i =>
      have := ih i
      simp only [pcs, List.flatMap_cons, pc, List.set_cons_succ] at this ⊢
      rw [show (i + 1) * 3 = i * 3 + 1 + 1 + 1 by omega]
      simp only [List.cons_append, List.nil_append, List.set_cons_succ, this]
theorem row_put {w : World} {B : Nat} {e : TypeId} {size n g : Nat} {v : Value} {xs : List Value} (h : w.ownsRow B e size v n xs) (hv : v.ownBlock = some g) (j : Nat) (u : Value) : (w.setCell ⟨g, j, none⟩ u).ownsRow B e size v n (xs.set j u) := by
  refine ⟨by rw [List.length_set]; exact h.1, ?_⟩
  rcases h.2 with ⟨q, q0⟩ | ⟨g', cap, cur, q, hB, hg, q1, q2, q3, q4⟩
  · rw [q] at hv; cases hv
  · rw [q] at hv
    obtain rfl : g' = g := Option.some.inj hv
    refine .inr ⟨g', cap, cur.setIfInBounds j u, q, hB, by rw [heap_setCell_same _ _ j _ _ _ hg], q1, q2, by rw [Array.size_setIfInBounds]; exact q3, ?_⟩
    rw [← q4]
    simp [List.take_set]
theorem row_froz {w : World} {B : Nat} {e : TypeId} {size n c k g : Nat} {xs : List Value} (h : w.ownsRow B e size (.slice (some ⟨g, 0, none⟩) n c) k xs) (j : Nat) : w.frozen? ⟨g, j, none⟩ = false := by
  rcases h.2 with ⟨q, q0⟩ | ⟨g', cap, cur, q, hB, hg, _⟩
  · cases q
  · simp only [Value.slice.injEq, Option.some.injEq, Addr.mk.injEq, and_true] at q
    rw [q.1]; exact frozen_of_row _ _ _ _ _ hg
theorem row_shape {w : World} {B : Nat} {e : TypeId} {s n : Nat} {v : Value} {xs : List Value} (h : w.ownsRow B e s v n xs) : ∃ a m c, v = .slice a m c := by
  obtain ⟨a, c, e, _⟩ := row_reads h
  exact ⟨_, _, _, e⟩
theorem ownsRow_take {w : World} {B : Nat} {t : TypeId} {g n c m s : Nat} {xs : List Value} (h : w.ownsRow B t s (.slice (some ⟨g, 0, none⟩) n c) n xs) (hm : m ≤ n) : w.ownsRow B t s (.slice (some ⟨g, 0, none⟩) m c) m (xs.take (m * s)) := by
  obtain ⟨h1, h2⟩ := h
  have hms : m * s ≤ n * s := Nat.mul_le_mul_right _ hm
  refine ⟨by rw [List.length_take, h1]; omega, ?_⟩
  rcases h2 with ⟨q, _⟩ | ⟨g', cap, cur, q, hB, hg, q1, q2, q3, q4⟩
  · cases q
  · simp only [Value.slice.injEq, Option.some.injEq, Addr.mk.injEq, and_true, true_and] at q
    obtain ⟨rfl, rfl⟩ := q
    exact .inr ⟨g, c, cur, rfl, hB, hg, by omega, q2, q3, by rw [← q4, List.take_take, Nat.min_eq_left hms]⟩
theorem row_blk {w : World} {B : Nat} {v : Value} {n : Nat} {xs : List Value} {e : TypeId} {s : Nat} (h : w.ownsRow B e s v n xs) {b : Nat} (hb : v.ownBlock = some b) : B ≤ b ∧ ∃ cs fr, w.heap[b]? = some (.cells cs e fr) := by
  rcases h.2 with ⟨q, q0⟩ | ⟨g', cap, cur, q, hB, hg, _⟩
  · rw [q] at hb; cases hb
  · rw [q] at hb
    obtain rfl : g' = b := Option.some.inj hb
    exact ⟨hB, _, _, hg⟩
theorem chg_p (p k : Nat) (u : Value) (w : World) : Chg (fun b => b = p) w (w.setCell ⟨p, k, none⟩ u) := (Chg.refl _ w).put p k u rfl
theorem chg_bl {S : Nat → Prop} {w1 w2 : World} (hb : Below w1.heap.size w1 w2) : Chg S w1 w2 := (Chg.of_below hb).mono (fun b q1 q2 => by omega)

def i64 (x : Int) : Prop := -9223372036854775808 ≤ x ∧ x ≤ 9223372036854775807
/-- The queue at p: its peers as they lie, and its order. -/
structure Qu (B p : Nat) (f : Value) (x : Option Addr × Nat × Nat) (w : World) (H : List Pe) : Prop where
  blk : w.heap[p]? = some (.cells #[sv x, f] 123 (0, 0))
  row : OwPe B w (sv x) H
  lo : B ≤ p
  dom : ∀ e ∈ H, i64 e.2.1
/-- What a turn of the queue turns. -/
def QuS (p : Nat) (x : Option Addr × Nat × Nat) (b : Nat) : Prop := b = p ∨ (sv x).ownBlock = some b
section
variable {B p : Nat} {f : Value} {x : Option Addr × Nat × Nat} {w w' : World} {H : List Pe}
theorem Qu.lt (h : Qu B p f x w H) : p < w.heap.size := (Array.getElem?_eq_some_iff.1 h.blk).1
theorem Qu.ne (h : Qu B p f x w H) : (sv x).ownBlock ≠ some p := fun q => by
  obtain ⟨_, cs, fr, e⟩ := row_blk h.row q
  rw [h.blk] at e
  have := Option.some.inj e
  simp only [Obj.cells.injEq] at this
  exact absurd this.2.1 (by decide)
theorem Qu.rlt (h : Qu B p f x w H) {b : Nat} (hb : (sv x).ownBlock = some b) : b < w.heap.size := (World.ownsRow.lt h.row b hb).2
theorem Qu.blo (h : Qu B p f x w H) {b : Nat} (hb : QuS p x b) : B ≤ b := by
  rcases hb with rfl | hb
  · exact h.lo
  · exact (World.ownsRow.lt h.row b hb).1
theorem Qu.kept {S : Nat → Prop} (h : Qu B p f x w H) (hc : Chg S w w') (hp : ¬ S p) (hv : ∀ b, (sv x).ownBlock = some b → ¬ S b) : Qu B p f x w' H :=
  ⟨(hc.block p h.lt hp).trans h.blk, ownsRow_keptC h.row hc hv, h.lo, h.dom⟩
theorem Qu.below {C : Nat} (h : Qu B p f x w H) (hb : Below C w w') (hC : w.heap.size ≤ C) : Qu B p f x w' H :=
  h.kept (Chg.of_below hb) (fun q => by have := h.lt; omega) (fun b e q => by have := h.rlt e; omega)
theorem Qu.drewN (h : Qu B p f x w H) (n : Nat) : Qu B p f x (w.drewN n) H := h.below (Below.dN w n) (Nat.le_refl _)
theorem Qu.vx (h : Qu B p f x w H) : w.cell? ⟨p, 0, none⟩ = some (sv x) ∧ w.cell? ⟨p, 1, none⟩ = some f ∧ ∀ j, w.frozen? ⟨p, j, none⟩ = false :=
  ⟨by rw [cell_of_row _ _ _ _ _ _ h.blk]; rfl, by rw [cell_of_row _ _ _ _ _ _ h.blk]; rfl, fun j => frozen_of_row _ _ _ _ _ h.blk⟩
theorem Qu.len (h : Qu B p f x w H) : x.2.1 = H.length := by
  obtain ⟨a, c, e, _⟩ := row_reads h.row
  unfold sv at e
  simp only [Value.slice.injEq] at e
  exact e.2.1
theorem Qu.max (h : Qu B p f x w H) : H.length ≤ 9223372036854775807 := by
  obtain ⟨a, c, ev, l1, l2, _⟩ := row_reads h.row
  unfold maxLen at l2
  omega
/-- How an element reads. -/
theorem Qu.at_ (h : Qu B p f x w H) {k : Nat} {e : Pe} (he : H[k]? = some e) : ∃ g c, x = (some ⟨g, 0, none⟩, H.length, c) ∧ H.length ≤ c ∧ c ≤ maxLen ∧ k < H.length ∧ w.cell? ⟨g, k * 3, none⟩ = some (.int .u64 (e.1.toNat : Int)) ∧ w.cell? ⟨g, k * 3 + 1, none⟩ = some (.int .i64 e.2.1) ∧ w.cell? ⟨g, k * 3 + 2, none⟩ = some (.bool e.2.2) ∧ (∀ j, w.frozen? ⟨g, j, none⟩ = false) := by
  have hr := h.row
  unfold OwPe at hr
  obtain ⟨a, c, ev, h1, h2, h3, h4⟩ := row_reads hr
  obtain ⟨e0, e1, e2⟩ := pcs_at H k e he
  obtain ⟨g, rfl, g0⟩ := h4 _ _ e0
  obtain ⟨g', eg, g1⟩ := h4 _ _ e1
  simp only [Option.some.injEq, Addr.mk.injEq, and_true] at eg
  subst eg
  obtain ⟨g', eg, g2⟩ := h4 _ _ e2
  simp only [Option.some.injEq, Addr.mk.injEq, and_true] at eg
  subst eg
  rw [ev] at hr
  have hev : x = (some ⟨g, 0, none⟩, H.length, c) := by
    unfold sv at ev
    simp only [Value.slice.injEq] at ev
    obtain ⟨q1, q2, q3⟩ := ev
    exact Prod.ext q1 (Prod.ext q2 q3)
  exact ⟨g, c, hev, h1, h2, (List.getElem?_eq_some_iff.1 he).1, g0, g1, g2, fun j => row_froz hr j⟩
/-- One element written over. -/
theorem Qu.set {g n c : Nat} (h : Qu B p f x w H) (hd : x = (some ⟨g, 0, none⟩, n, c)) (k : Nat) (e : Pe) (he : i64 e.2.1) : Qu B p f x (((w.setCell ⟨g, k * 3, none⟩ (.int .u64 (e.1.toNat : Int))).setCell ⟨g, k * 3 + 1, none⟩ (.int .i64 e.2.1)).setCell ⟨g, k * 3 + 2, none⟩ (.bool e.2.2)) (H.set k e) ∧ Chg (QuS p x) w (((w.setCell ⟨g, k * 3, none⟩ (.int .u64 (e.1.toNat : Int))).setCell ⟨g, k * 3 + 1, none⟩ (.int .i64 e.2.1)).setCell ⟨g, k * 3 + 2, none⟩ (.bool e.2.2)) := by
  have hv : (sv x).ownBlock = some g := by rw [hd]; rfl
  have hgp : g ≠ p := fun q => h.ne (by rw [← q]; exact hv)
  have hch : Chg (fun b => b = g) w (((w.setCell ⟨g, k * 3, none⟩ (.int .u64 (e.1.toNat : Int))).setCell ⟨g, k * 3 + 1, none⟩ (.int .i64 e.2.1)).setCell ⟨g, k * 3 + 2, none⟩ (.bool e.2.2)) := (((Chg.refl (fun b => b = g) w).put g _ _ rfl).put g _ _ rfl).put g _ _ rfl
  refine ⟨⟨(hch.block p h.lt (fun q => hgp q.symm)).trans h.blk, ?_, h.lo, fun q hq => by rcases List.mem_or_eq_of_mem_set hq with q | rfl; exact h.dom _ q; exact he⟩, hch.mono (fun b _ q => .inr (by rw [hv]; exact congrArg some (Eq.symm q)))⟩
  unfold OwPe
  rw [List.length_set, ← pcs_set]
  exact row_put (row_put (row_put h.row hv _ _) hv _ _) hv _ _
/-- Another row stands there. -/
theorem Qu.newRow {y : Option Addr × Nat × Nat} {H' : List Pe} (h : Qu B p f x w H) (hr : OwPe B w (sv y) H') (hd : ∀ e ∈ H', i64 e.2.1) : Qu B p f y (w.setCell ⟨p, 0, none⟩ (sv y)) H' := by
  refine ⟨by rw [heap_setCell_same _ _ 0 _ _ _ h.blk]; rfl, ?_, h.lo, hd⟩
  refine ownsRow_keptC hr (chg_p p 0 (sv y) w) (fun b q1 q2 => ?_)
  obtain ⟨_, cs, fr, e⟩ := row_blk hr q1
  rw [show b = p from q2, h.blk] at e
  have := Option.some.inj e
  simp only [Obj.cells.injEq] at this
  exact absurd this.2.1 (by decide)
theorem Qu.take {g n c m : Nat} (h : Qu B p f x w H) (hd : x = (some ⟨g, 0, none⟩, n, c)) (hm : m ≤ H.length) : Qu B p f (some ⟨g, 0, none⟩, m, c) (w.setCell ⟨p, 0, none⟩ (.slice (some ⟨g, 0, none⟩) m c)) (H.take m) := by
  have hn := h.len
  rw [hd] at hn
  have hr := h.row
  rw [hd] at hr
  simp only [sv] at hr
  have hn' : n = H.length := hn
  rw [hn'] at hr
  have h1 := ownsRow_take hr hm
  have e : (pcs H).take (m * 3) = pcs (H.take m) := fm_take pc_len H m
  rw [e] at h1
  refine h.newRow (y := (some ⟨g, 0, none⟩, m, c)) ?_ (fun e he => h.dom e (List.mem_of_mem_take he))
  unfold OwPe
  rw [List.length_take, Nat.min_eq_left hm]
  exact h1
end
/-- A function value, and what it calls. -/
def FnV (f : Value) (F : FuncId) (caps : Array Value) : Prop := f = .func (.func F) caps #[] ∧ (∀ args w, (callFunc F args).run Tryz.prog w = .ok (.enter F args) w) ∧ (caps = #[] ∨ ∃ c, caps = #[c])
/-- A function value of two peers that tells which one stands ahead, in every world that keeps what was there. -/
def Ahead (w0 : World) (f : Value) (lt : Pe → Pe → Bool) : Prop := ∃ F caps, FnV f F caps ∧ ∀ a b W, i64 a.2.1 → i64 b.2.1 → Below w0.heap.size w0 W → Calls Tryz.prog F (caps ++ #[peV a, peV b]) W fun e w' => e = .returned (.bool (lt a b)) ∧ Below W.heap.size W w'
/-- .. of one: is it so? -/
def Is (w0 : World) (f : Value) (ok : Pe → Bool) : Prop := ∃ F caps, FnV f F caps ∧ ∀ a W, Below w0.heap.size w0 W → Calls Tryz.prog F (caps ++ #[peV a]) W fun e w' => e = .returned (.bool (ok a)) ∧ Below W.heap.size W w'
theorem Ahead.below {w0 w : World} {f : Value} {lt : Pe → Pe → Bool} (h : Ahead w0 f lt) (hb : Below w0.heap.size w0 w) : Ahead w f lt := by
  obtain ⟨F, caps, h1, h2⟩ := h
  exact ⟨F, caps, h1, fun a b W d1 d2 hW => h2 a b W d1 d2 (hb.trans (hW.mono hb.size))⟩
theorem Is.below {w0 w : World} {f : Value} {ok : Pe → Bool} (h : Is w0 f ok) (hb : Below w0.heap.size w0 w) : Is w f ok := by
  obtain ⟨F, caps, h1, h2⟩ := h
  exact ⟨F, caps, h1, fun a W hW => h2 a W (hb.trans (hW.mono hb.size))⟩
end Go.Proofs.YtedfjacmaidhkaaGreat

/- The queue's Less, Swap and Len. -/
namespace Go.Proofs.YtedfjacmaidhkaaGreat
open Go.RowKit
set_option linter.unusedVariables false
set_option linter.unusedSimpArgs false
set_option maxRecDepth 100000

section
variable {B p : Nat} {f : Value} {x : Option Addr × Nat × Nat} {w w' : World} {H : List Pe}
set_option maxHeartbeats 2000000 in
theorem qless_any {lt : Pe → Pe → Bool} (h : Qu B p f x w H) (hA : Ahead w f lt) {i j : Nat} {a b : Pe} (ha : H[i]? = some a) (hb : H[j]? = some b) :
    Calls Tryz.prog 142 #[.pointer (some ⟨p, 0, none⟩), .int .i64 i, .int .i64 j] w fun e w' => e = .returned (.bool (lt a b)) ∧ Below w.heap.size w w' := by
  obtain ⟨g, c, hd, h1, h2, hi, a0, a1, a2, fr⟩ := h.at_ ha
  obtain ⟨g', c', ev, _, _, hj, b0, b1, b2, _⟩ := h.at_ hb
  rw [hd] at ev
  simp only [Prod.mk.injEq, Option.some.injEq, Addr.mk.injEq, and_true, true_and] at ev
  obtain ⟨rfl, rfl⟩ := ev
  obtain ⟨v0, v1, -⟩ := h.vx
  rw [hd] at v0
  simp only [sv] at v0
  unfold maxLen at h2
  obtain ⟨F, caps, ⟨rfl, hE, hcp⟩, hx⟩ := hA
  have hii : (i : Int) < (H.length : Int) := by omega
  have hji : (j : Int) < (H.length : Int) := by omega
  have hx1 := hx a b (w.drewN 1) (h.dom a (List.mem_of_getElem? ha)) (h.dom b (List.mem_of_getElem? hb)) (Below.dN w 1)
  clear hx hd h ha hb
  generalize lt a b = T at *
  generalize H.length = n at *
  obtain ⟨x1, x2, x3⟩ := a
  obtain ⟨y1, y2, y3⟩ := b
  simp only [peV] at *
  have hfin : ∀ w3, Below (w.drewN 1).heap.size (w.drewN 1) w3 → Below w.heap.size w w3 := fun w3 q => (Below.dN w 1).trans q
  rcases hcp with rfl | ⟨cv, rfl⟩
  · rw [show ∀ u v : Value, (#[] : Array Value) ++ #[u, v] = #[u, v] from fun u v => by simp] at hx1
    go_enter Tryz.func142, Tryz.ntmps142
    go_wp2_with fail
    refine wp_region_head 18 (by kernel_rfl) (by kernel_rfl) ?_
    simp only [List.take_succ_cons, List.take_zero]
    iterate 18 still_step
    refine wpStill_nil ?_
    change wpAny _ _ _ _ (1 + 1) _ _ _
    refine wpAny_ready (rs := [18]) (by kernel_rfl) (by simp) ?_
    refine AllReady.cons rfl (fun K hK => ?_) AllReady.nil
    go_simp
    refine hx1.mono ?_
    rintro e w3 ⟨rfl, hb3⟩
    refine hK _ _ ?_
    clear hK K
    refine wpAny_ready (rs := [19]) (by kernel_rfl) (by simp) ?_
    refine AllReady.cons rfl (fun K hK => ?_) AllReady.nil
    go_simp
    refine hK _ _ ?_
    clear hK K
    refine wpAny_done (by kernel_rfl) ?_ _
    go_simp
    go_wp2_with fail
    go_ret
    exact ⟨rfl, hfin _ hb3⟩
  · rw [show ∀ u v : Value, (#[cv] : Array Value) ++ #[u, v] = #[cv, u, v] from fun u v => by simp] at hx1
    go_enter Tryz.func142, Tryz.ntmps142
    go_wp2_with fail
    refine wp_region_head 18 (by kernel_rfl) (by kernel_rfl) ?_
    simp only [List.take_succ_cons, List.take_zero]
    iterate 18 still_step
    refine wpStill_nil ?_
    change wpAny _ _ _ _ (1 + 1) _ _ _
    refine wpAny_ready (rs := [18]) (by kernel_rfl) (by simp) ?_
    refine AllReady.cons rfl (fun K hK => ?_) AllReady.nil
    go_simp
    refine hx1.mono ?_
    rintro e w3 ⟨rfl, hb3⟩
    refine hK _ _ ?_
    clear hK K
    refine wpAny_ready (rs := [19]) (by kernel_rfl) (by simp) ?_
    refine AllReady.cons rfl (fun K hK => ?_) AllReady.nil
    go_simp
    refine hK _ _ ?_
    clear hK K
    refine wpAny_done (by kernel_rfl) ?_ _
    go_simp
    go_wp2_with fail
    go_ret
    exact ⟨rfl, hfin _ hb3⟩

theorem qlen_any (h : Qu B p f x w H) : Calls Tryz.prog 78 #[.pointer (some ⟨p, 0, none⟩)] w fun e w' => e = .returned (.int .i64 (H.length : Int)) ∧ Below w.heap.size w w' := by
  have hl := h.len
  obtain ⟨v0, -, -⟩ := h.vx
  unfold sv at v0
  rw [hl] at v0
  clear h hl
  go_enter Tryz.func78, Tryz.ntmps78
  go_wp2_with fail
  go_ret
  exact ⟨rfl, Below.refl _ _⟩

end
end Go.Proofs.YtedfjacmaidhkaaGreat

/- The plan's maps: counts by store, regions by number, places by Start. -/
namespace Go.Proofs.YtedfjacmaidhkaaGreat
open Go.RowKit Go.Maps
set_option linter.unusedVariables false
set_option linter.unusedSimpArgs false
set_option maxRecDepth 100000

theorem Tryz.keyedI : Maps.Keyed Tryz.prog 3 := Maps.int_keyed Tryz.underlying3
theorem Tryz.keyedM : Maps.Keyed Tryz.prog 30 := Maps.int_keyed Tryz.underlying30
theorem Tryz.keyedS : Maps.Keyed Tryz.prog 9 := Maps.string_keyed Tryz.underlying9
def kI (i : Int) : Lit := .int .i64 i
def kM (i : Nat) : Lit := .int .u64 (i : Int)
theorem kI_inj {i j : Int} (h : kI i = kI j) : i = j := by simpa only [kI, Lit.int.injEq, true_and] using h
theorem kM_inj {i j : Nat} (h : kM i = kM j) : i = j := by
  simp only [kM, Lit.int.injEq, true_and] at h
  omega
theorem keyI_mk (x : Int) (h : -9223372036854775808 ≤ x ∧ x ≤ 9223372036854775807) : keyOf Tryz.prog 3 (.int .i64 x) = some (kI x) :=
  Maps.keyOf_int_mk Tryz.underlying3 (by simp [Lit.wf, IntKind.min, IntKind.max, IntKind.signed, IntKind.bits]; omega)
theorem keyM (i : Nat) (h : i < 18446744073709551616) : keyOf Tryz.prog 30 (.int .u64 (i : Int)) = some (kM i) :=
  Maps.keyOf_int_mk Tryz.underlying30 (by simp [Lit.wf, IntKind.min, IntKind.max, IntKind.signed, IntKind.bits]; omega)
theorem Tryz.zeroE (w : World) : (zeroValue 90).run Tryz.prog w = .ok (.agg #[]) w := by kernel_rfl
theorem Tryz.zeroI (w : World) : (zeroValue 3).run Tryz.prog w = .ok (.int .i64 0) w := by kernel_rfl
/-- How an int in a map reads. -/
def elI : Value → Option (DataW Unit × List MemPlace)
  | .int .i64 n => some (.lit (.int .i64 n), [])
  | _ => none
theorem elI_inv {v : Value} {n : Int} {ps : List MemPlace} (h : elI v = some (.lit (.int .i64 n), ps)) : v = .int .i64 n := by
  unfold elI at h
  split at h
  · simp only [Option.some.injEq, Prod.mk.injEq, DataW.lit.injEq, Lit.int.injEq, true_and] at h
    rw [h.1]
  · cases h
/-- Block m counts by store. -/
structure ImI (m n : Nat) (D : DataW Unit) (f : Int → Int) (w : World) : Prop where
  map : w.ownsMap Tryz.prog 3 elI m n D
  at_ : ∀ x, D.atKey (kI x) (.lit (.int .i64 0)) = .lit (.int .i64 (f x))
def Im (m n : Nat) (f : Int → Int) (w : World) : Prop := ∃ D, ImI m n D f w
/-- Block m is the set of the numbers that g says. -/
structure GsI (m n : Nat) (D : DataW Unit) (g : Nat → Bool) (w : World) : Prop where
  map : w.ownsMap Tryz.prog 30 unitElem m n D
  has : ∀ x, Maps.has D (kM x) = g x
def Gs (m n : Nat) (g : Nat → Bool) (w : World) : Prop := ∃ D, GsI m n D g w
/-- Block m tells the place of who begins at a key. -/
structure StI (m n : Nat) (D : DataW Unit) (s : List UInt8 → Option Int) (w : World) : Prop where
  map : w.ownsMap Tryz.prog 9 elI m n D
  has : ∀ x, Maps.has D (.string x) = (s x).isSome
  at_ : ∀ x v, s x = some v → D.atKey (.string x) (.lit (.int .i64 0)) = .lit (.int .i64 v)
def St (m n : Nat) (s : List UInt8 → Option Int) (w : World) : Prop := ∃ D, StI m n D s w
def iPut (f : Int → Int) (k v : Int) : Int → Int := fun x => if x = k then v else f x
def gPut (g : Nat → Bool) (k : Nat) : Nat → Bool := fun x => if x = k then true else g x
def sPut (s : List UInt8 → Option Int) (k : List UInt8) (v : Int) : List UInt8 → Option Int := fun x => if x = k then some v else s x
section
variable {m n : Nat} {f : Int → Int} {g : Nat → Bool} {s : List UInt8 → Option Int} {w w' : World}
theorem owM_chg {H : Type} {P : Program} {k : TypeId} {R : Value → Option (DataW H × List MemPlace)} {b : Nat} {D : DataW H} {S : Nat → Prop} (h : w.ownsMap P k R b n D) (hc : Chg S w w') (hb : ¬ S b) : w'.ownsMap P k R b n D := by
  obtain ⟨es, clock, hh, r⟩ := h
  exact ⟨es, clock, by rw [hc.block b (Array.getElem?_eq_some_iff.1 hh).1 hb]; exact hh, r⟩
theorem Im.next {S : Nat → Prop} (h : Im m n f w) (hc : Chg S w w') (hm : ¬ S m) : Im m n f w' := by
  obtain ⟨D, h⟩ := h
  exact ⟨D, owM_chg h.map hc hm, h.at_⟩
theorem Gs.next {S : Nat → Prop} (h : Gs m n g w) (hc : Chg S w w') (hm : ¬ S m) : Gs m n g w' := by
  obtain ⟨D, h⟩ := h
  exact ⟨D, owM_chg h.map hc hm, h.has⟩
theorem St.next {S : Nat → Prop} (h : St m n s w) (hc : Chg S w w') (hm : ¬ S m) : St m n s w' := by
  obtain ⟨D, h⟩ := h
  exact ⟨D, owM_chg h.map hc hm, h.has, h.at_⟩
theorem Im.lt (h : Im m n f w) : m < w.heap.size := by obtain ⟨D, h⟩ := h; exact h.map.lt
theorem Gs.lt (h : Gs m n g w) : m < w.heap.size := by obtain ⟨D, h⟩ := h; exact h.map.lt
theorem St.lt (h : St m n s w) : m < w.heap.size := by obtain ⟨D, h⟩ := h; exact h.map.lt
theorem Im.below {C : Nat} (h : Im m n f w) (hb : Below C w w') (hC : w.heap.size ≤ C) : Im m n f w' := h.next (Chg.of_below hb) (fun q => by have := h.lt; omega)
theorem Gs.below {C : Nat} (h : Gs m n g w) (hb : Below C w w') (hC : w.heap.size ≤ C) : Gs m n g w' := h.next (Chg.of_below hb) (fun q => by have := h.lt; omega)
theorem St.below {C : Nat} (h : St m n s w) (hb : Below C w w') (hC : w.heap.size ≤ C) : St m n s w' := h.next (Chg.of_below hb) (fun q => by have := h.lt; omega)
theorem own_nem {H : Type} {P : Program} {k : TypeId} {R : Value → Option (DataW H × List MemPlace)} {D : DataW H} (h : w.ownsMap P k R m n D) {b : Nat} {cs : Array Value} {t : TypeId} {fr : Nat × Nat} (hb : w.heap[b]? = some (.cells cs t fr)) : b ≠ m := by
  obtain ⟨es, clock, hh, r⟩ := h
  rintro rfl
  rw [hb] at hh
  cases hh
theorem Im.nem (h : Im m n f w) {b : Nat} {cs : Array Value} {t : TypeId} {fr : Nat × Nat} (hb : w.heap[b]? = some (.cells cs t fr)) : b ≠ m := by obtain ⟨D, h⟩ := h; exact own_nem h.map hb
theorem Gs.nem (h : Gs m n g w) {b : Nat} {cs : Array Value} {t : TypeId} {fr : Nat × Nat} (hb : w.heap[b]? = some (.cells cs t fr)) : b ≠ m := by obtain ⟨D, h⟩ := h; exact own_nem h.map hb
theorem St.nem (h : St m n s w) {b : Nat} {cs : Array Value} {t : TypeId} {fr : Nat × Nat} (hb : w.heap[b]? = some (.cells cs t fr)) : b ≠ m := by obtain ⟨D, h⟩ := h; exact own_nem h.map hb
theorem Im.made (w : World) (h : w.heap[m]? = some (.map #[] 0)) : Im m 0 (fun _ => 0) w := by
  obtain ⟨es, ck, hh, r⟩ := World.ownsMap_made (H := Unit) w Tryz.prog 3 elI
  rw [heap_new] at hh
  cases hh
  exact ⟨.map [], ⟨#[], 0, h, r⟩, fun x => rfl⟩
theorem Gs.made (w : World) (h : w.heap[m]? = some (.map #[] 0)) : Gs m 0 (fun _ => false) w := by
  obtain ⟨es, ck, hh, r⟩ := World.ownsMap_made (H := Unit) w Tryz.prog 30 unitElem
  rw [heap_new] at hh
  cases hh
  exact ⟨.map [], ⟨#[], 0, h, r⟩, fun x => rfl⟩
theorem St.made (w : World) (h : w.heap[m]? = some (.map #[] 0)) : St m 0 (fun _ => none) w := by
  obtain ⟨es, ck, hh, r⟩ := World.ownsMap_made (H := Unit) w Tryz.prog 9 elI
  rw [heap_new] at hh
  cases hh
  exact ⟨.map [], ⟨#[], 0, h, r⟩, fun x => rfl, fun x v e => by cases e⟩
theorem Im.look (h : Im m n f w) {x : Int} (hx : -9223372036854775808 ≤ x ∧ x ≤ 9223372036854775807) : (Instr.lookup 68 (.map (some m)) (.int .i64 x) false).run Tryz.prog w = .ok (.int .i64 (f x)) w := by
  obtain ⟨D, h⟩ := h
  obtain ⟨v, qs, hr, hv⟩ := h.map.lookup (t := 68) Tryz.keyedI Tryz.underlying68 (Tryz.zeroI w) (zd := .lit (.int .i64 0)) (zp := []) rfl (keyI_mk x hx)
  rw [h.at_ x] at hv
  rw [hr, elI_inv hv]
theorem Im.put (h : Im m n f w) {k : Int} (hk : -9223372036854775808 ≤ k ∧ k ≤ 9223372036854775807) (c : Int) (hn : n < 1099511627776) : ∃ w2, (Instr.mapUpdate 68 (.map (some m)) (.int .i64 k) (.int .i64 c)).run Tryz.prog w = .ok () w2 ∧ Im m (n + 1) (iPut f k c) w2 ∧ Chg (fun b => b = m) w w2 := by
  obtain ⟨D, h⟩ := h
  obtain ⟨w2, hr, hown, ht⟩ := h.map.store Tryz.keyedI Tryz.underlying68 (by unfold maxLen; omega) (keyI_mk k hk) (show elI (.int .i64 c) = some (.lit (.int .i64 c), []) from rfl)
  refine ⟨w2, hr, ⟨_, hown, fun x => ?_⟩, Chg.of_grown ht.grown (fun b e _ => (Option.some.inj e).symm)⟩
  unfold iPut
  by_cases e : x = k
  · subst e
    rw [if_pos rfl, Maps.atKey_put_same h.map.isMap (by trivial)]
  · rw [if_neg e, Maps.atKey_put_other (fun q => e (kI_inj q))]; exact h.at_ x
theorem Gs.look (h : Gs m n g w) {x : Nat} (hx : x < 18446744073709551616) : (Instr.lookup 69 (.map (some m)) (.int .u64 (x : Int)) true).run Tryz.prog w = .ok (.tuple #[.agg #[], .bool (g x)]) w := by
  obtain ⟨D, h⟩ := h
  obtain ⟨v, qs, hr, hv⟩ := h.map.look_ok (t := 69) Tryz.keyedM Tryz.underlying69 (Tryz.zeroE w) unitElem_mk (keyM x hx)
  rw [hr, (unitElem_inv hv).1, h.has]
theorem Gs.put (h : Gs m n g w) {k : Nat} (hk : k < 18446744073709551616) (hn : n < 1099511627776) : ∃ w2, (Instr.mapUpdate 69 (.map (some m)) (.int .u64 (k : Int)) (.agg #[])).run Tryz.prog w = .ok () w2 ∧ Gs m (n + 1) (gPut g k) w2 ∧ Chg (fun b => b = m) w w2 := by
  obtain ⟨D, h⟩ := h
  obtain ⟨w2, hr, hown, ht⟩ := h.map.store Tryz.keyedM Tryz.underlying69 (by unfold maxLen; omega) (keyM k hk) unitElem_mk
  refine ⟨w2, hr, ⟨_, hown, fun x => ?_⟩, Chg.of_grown ht.grown (fun b e _ => (Option.some.inj e).symm)⟩
  unfold gPut
  by_cases e : x = k
  · subst e
    rw [if_pos rfl, Maps.has_put_same h.map.isMap (by trivial)]
  · rw [if_neg e, Maps.has_put_other (fun q => e (kM_inj q))]; exact h.has x
theorem St.look (h : St m n s w) (x : ByteArray) (hx : x.size ≤ maxLen) : (Instr.lookup 67 (.map (some m)) (.string x) true).run Tryz.prog w = .ok (.tuple #[.int .i64 ((s x.data.toList).getD 0), .bool (s x.data.toList).isSome]) w := by
  obtain ⟨D, h⟩ := h
  obtain ⟨v, qs, hr, hv⟩ := h.map.look_ok (t := 67) Tryz.keyedS Tryz.underlying67 (Tryz.zeroI w) (zd := .lit (.int .i64 0)) (zp := []) rfl (key := .string x) (WideMaps.keyOf_string_mk Tryz.underlying9 hx)
  rw [hr, h.has]
  cases hf : s x.data.toList with
  | none =>
    rw [Maps.atKey_of_not_has (by rw [h.has, hf]; rfl)] at hv
    rw [elI_inv hv]; rfl
  | some u =>
    rw [h.at_ _ u hf] at hv
    rw [elI_inv hv]; rfl
theorem St.put (h : St m n s w) (k : ByteArray) (hk : k.size ≤ maxLen) (c : Int) (hn : n < 1099511627776) : ∃ w2, (Instr.mapUpdate 67 (.map (some m)) (.string k) (.int .i64 c)).run Tryz.prog w = .ok () w2 ∧ St m (n + 1) (sPut s k.data.toList c) w2 ∧ Chg (fun b => b = m) w w2 := by
  obtain ⟨D, h⟩ := h
  obtain ⟨w2, hr, hown, ht⟩ := h.map.store Tryz.keyedS Tryz.underlying67 (by unfold maxLen; omega) (key := .string k) (WideMaps.keyOf_string_mk Tryz.underlying9 hk) (show elI (.int .i64 c) = some (.lit (.int .i64 c), []) from rfl)
  refine ⟨w2, hr, ⟨_, hown, fun x => ?_, fun x v hx => ?_⟩, Chg.of_grown ht.grown (fun b e _ => (Option.some.inj e).symm)⟩
  · unfold sPut
    by_cases e : x = k.data.toList
    · subst e
      rw [if_pos rfl, Maps.has_put_same h.map.isMap (by trivial)]; rfl
    · rw [if_neg e, Maps.has_put_other (fun q => e (by simpa using q))]; exact h.has x
  · unfold sPut at hx
    by_cases e : x = k.data.toList
    · subst e
      rw [if_pos rfl] at hx
      obtain rfl := Option.some.inj hx
      rw [Maps.atKey_put_same h.map.isMap (by trivial)]
    · rw [if_neg e] at hx
      rw [Maps.atKey_put_other (fun q => e (by simpa using q))]; exact h.at_ x v hx
/-- string(b) of bytes. -/
theorem conv_rd {v : Value} {l : List UInt8} (h : Rd w v l) : (convert 35 9 v).run Tryz.prog w = .ok (.string ⟨l.toArray⟩) w := by
  rcases h.two with ⟨rfl, rfl⟩ | ⟨a, c, rfl, h1, h2, h3⟩
  · exact Go.Lib.run_convert_nil_bytes w 35 9 5 0 Tryz.underlying35 Tryz.underlying5 Tryz.underlying9
  · exact run_convert_bytes_back w 35 9 5 a c l Tryz.underlying35 Tryz.underlying5 Tryz.underlying9 h3
end
end Go.Proofs.YtedfjacmaidhkaaGreat
