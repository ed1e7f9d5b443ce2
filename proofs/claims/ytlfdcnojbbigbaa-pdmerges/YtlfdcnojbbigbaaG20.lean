/- on: the peer on a store. -/
import Derived.Test.YtlfdcnojbbigbaaG11
import Derived.Test.YtlfdcnojbbigbaaG12
namespace Go.Proofs.Ytlfdcnojbbigbaa
open Go.RowKit
set_option linter.unusedVariables false
set_option maxRecDepth 100000

/-- The first peer on that store. -/
def onF (ps : List Pe) (st : Int) : Option Pe := ps.find? (fun p => decide (p.2.1 = st))
def noPe : Pe := (0, 0, false)
def peV (p : Pe) : Value := .agg #[.int .u64 (p.1.toNat : Int), .int .i64 p.2.1, .bool p.2.2]

theorem on1_any {p0 : UInt64} {p1 st : Int} {p2 : Bool} {b : Nat} {w : World} (hc : w.cell? ⟨b, 0, none⟩ = some (.int .i64 st)) :
    Calls Try.prog 67 #[.agg #[.int .u64 (p0.toNat : Int), .int .i64 p1, .bool p2], .pointer (some ⟨b, 0, none⟩)] w fun x w' => x = .returned (.bool (decide (p1 = st))) ∧ Below w.heap.size w w' := by
  have hc2 : ∀ o, (w.alloc o).cell? ⟨b, 0, none⟩ = some (.int .i64 st) := fun o => by
    rw [(g_al w o).cell (by have := World.block_lt_of_cell? w _ hc; exact this)]; exact hc
  have hc3 := hc2 (.cells #[.int .u64 (p0.toNat : Int), .int .i64 p1, .bool p2] 31)
  clear hc2
  go_enter Try.func67, Try.ntmps67
  go_wp2_with fail
  go_ret
  refine ⟨?_, g_al _ _⟩
  by_cases h : p1 = st
  · simp [h]
  · simp [h]
/-- What slices.IndexFunc finds. -/
def IxP (ps : List Pe) (st : Int) (r : Int) : Prop := (∃ (k : Nat) (p : Pe), r = (k : Int) ∧ ps[k]? = some p ∧ onF ps st = some p) ∨ (r = -1 ∧ onF ps st = none)
set_option maxHeartbeats 1000000 in
theorem indexP_any {v : Value} {ps : List Pe} {st : Int} {b : Nat} {w : World} (hr : RdPe w v ps) (hc : w.cell? ⟨b, 0, none⟩ = some (.int .i64 st)) :
    Calls Try.prog 66 #[v, .func (.func 67) #[] #[.pointer (some ⟨b, 0, none⟩)]] w fun x w' => ∃ r, x = .returned (.int .i64 r) ∧ IxP ps st r ∧ Below w.heap.size w w' := by
  have HR : Hid (RdPe w v ps) := hr
  have HC : Hid _ := hc
  have hbl := World.block_lt_of_cell? w _ hc
  obtain ⟨ao, c, rfl, h1, h2, h3, h4⟩ := hr
  unfold maxLen at h2
  clear h4 hc
  go_enter Try.func66, Try.ntmps66
  go_wp2_with fail
  go_loopw [5, 8] (fun _ i wr => ∃ k : Nat, k ≤ ps.length ∧ i = .int .i64 k ∧ Hid (onF ps st = onF (ps.drop k) st) ∧ Below w.heap.size w wr) (fun _ i _ => ps.length - (intOf i).toNat)
  case atStart => exact ⟨0, Nat.zero_le _, rfl, rfl, Below.refl _ _⟩
  case round =>
    obtain ⟨k, hk, rfl, HX, hb⟩ := hrel
    by_cases hlt : k < ps.length
    · have HT : Hid (ps.drop k = ps[k] :: ps.drop (k + 1)) := List.drop_eq_getElem_cons hlt
      have HI : Hid (ps[k]? = some ps[k]) := List.getElem?_eq_getElem hlt
      obtain ⟨ao', c', e, _, _, _, h4⟩ := HR.out.below hb (Nat.le_refl _)
      simp only [Value.slice.injEq, true_and] at e
      obtain ⟨rfl, rfl⟩ := e
      obtain ⟨a, rfl, hc⟩ := h4 k _ (List.getElem?_eq_getElem hlt)
      clear h4
      obtain ⟨c0, c1, c2⟩ := hc
      have hcw : wr.cell? ⟨b, 0, none⟩ = some (.int .i64 st) := by rw [hb.cell hbl]; exact HC.out
      generalize ps[k] = p at *
      obtain ⟨p0, p1, p2⟩ := p
      simp only [] at c0 c1 c2
      have hon := on1_any (p0 := p0) (p1 := p1) (p2 := p2) hcw
      clear hcw
      by_cases he : p1 = st
      · rw [decide_eq_true he] at hon
        have HE : Hid _ := he
        clear he
        go_wp2_with fail
        refine hon.mono ?_
        rintro x w1 ⟨rfl, hb1⟩
        go_wp2_with fail
        go_ret
        refine ⟨_, rfl, .inl ⟨k, (p0, p1, p2), rfl, HI.out, ?_⟩, hb.trans (hb1.mono hb.size)⟩
        rw [HX.out, HT.out]
        unfold onF
        rw [List.find?_cons, decide_eq_true HE.out]
      · rw [decide_eq_false he] at hon
        have HE : Hid _ := he
        clear he
        go_wp2_with fail
        refine hon.mono ?_
        rintro x w1 ⟨rfl, hb1⟩
        go_wp2_with fail
        refine ⟨⟨k + 1, by omega, by go_num, ?_, hb.trans (hb1.mono hb.size)⟩, by simp [intOf]; omega⟩
        show _ = _
        rw [HX.out, HT.out]
        unfold onF
        rw [List.find?_cons, decide_eq_false HE.out]
    · obtain rfl : k = ps.length := by omega
      go_wp2_with fail
      go_ret
      refine ⟨_, rfl, .inr ⟨rfl, ?_⟩, hb⟩
      rw [HX.out, List.drop_length]; rfl
set_option maxHeartbeats 1000000 in
theorem on_any {v : Value} {ps : List Pe} {st : Int} {w : World} (hr : RdPe w v ps) :
    Calls Try.prog 53 #[v, .int .i64 st] w fun x w' => x = .returned (.tuple #[peV ((onF ps st).getD noPe), .bool (onF ps st).isSome]) ∧ Below w.heap.size w w' := by
  have HR : Hid (RdPe w v ps) := hr
  obtain ⟨ao, c, rfl, h1, h2, h3, h4⟩ := hr
  unfold maxLen at h2
  clear h4
  have hB0 : Below w.heap.size w ((w.alloc (.cells #[.int .i64 st] 3)).alloc (.cells #[.int .u64 0, .int .i64 0, .bool false] 31)) := (g_al w _).alloc (by simp) _
  have hz0 : ((w.alloc (.cells #[.int .i64 st] 3)).alloc (.cells #[.int .u64 0, .int .i64 0, .bool false] 31)).heap.size = w.heap.size + 2 := by simp
  have hcl : ((w.alloc (.cells #[.int .i64 st] 3)).alloc (.cells #[.int .u64 0, .int .i64 0, .bool false] 31)).cell? ⟨w.heap.size, 0, none⟩ = some (.int .i64 st) := by
    rw [(g_al _ _).cell (by simp), World.cell?_alloc_at _ _ _ _ rfl]; rfl
  have hrs : ((w.alloc (.cells #[.int .i64 st] 3)).alloc (.cells #[.int .u64 0, .int .i64 0, .bool false] 31)).heap[w.heap.size + 1]? = some (.cells #[.int .u64 0, .int .i64 0, .bool false] 31 (0, 0)) := by
    have := heap_alloc_new (w.alloc (.cells #[.int .i64 st] 3)) (.cells #[.int .u64 0, .int .i64 0, .bool false] 31)
    rw [World.size_alloc] at this
    exact this
  go_enter Try.func53, Try.ntmps53
  go_wp2_with fail
  generalize ((w.alloc (.cells #[.int .i64 st] 3)).alloc (.cells #[.int .u64 0, .int .i64 0, .bool false] 31)) = W0 at *
  refine (indexP_any (HR.out.below hB0 (Nat.le_refl _)) hcl).mono ?_
  rintro x w1 ⟨r, rfl, hix, hb1⟩
  have hB1 : Below w.heap.size w w1 := hB0.trans (hb1.mono hB0.size)
  have hR1 : w1.heap[w.heap.size + 1]? = some (.cells #[.int .u64 0, .int .i64 0, .bool false] 31 (0, 0)) := by rw [hb1.block _ (by omega)]; exact hrs
  have hs1 := hb1.size
  obtain ⟨r0, r1, r2, rz⟩ := cells3 hR1
  have rz0 := rz 0
  have rz1 := rz 1
  have rz2 := rz 2
  rcases hix with ⟨k, p, rfl, hp, ho⟩ | ⟨rfl, ho⟩
  · have HO : Hid _ := ho
    have hkl := (List.getElem?_eq_some_iff.1 hp).1
    obtain ⟨ao', c', e, _, _, _, h4⟩ := HR.out.below hB1 (Nat.le_refl _)
    simp only [Value.slice.injEq, true_and] at e
    obtain ⟨rfl, rfl⟩ := e
    obtain ⟨a, rfl, c0, c1, c2⟩ := h4 k p hp
    obtain ⟨p0, p1, p2⟩ := p
    simp only [] at c0 c1 c2
    have hch := set3_chg w1 (w.heap.size + 1) (.int .u64 (p0.toNat : Int)) (.int .i64 p1) (.bool p2)
    have HZ : Hid _ := And.intro (cells3 (set3_block hR1 (.int .u64 (p0.toNat : Int)) (.int .i64 p1) (.bool p2))) (hB1.trans (hch.below (fun b q => by omega) hB1.size))
    clear hch h4 ho hp hR1 rz hcl hrs
    have hk0 : ¬ ((k : Int) < 0) := by omega
    have hk1 : (k : Int) < (ps.length : Int) := by omega
    go_wp2_with fail
    obtain ⟨⟨k0, k1, k2, _⟩, hBz⟩ := HZ.out
    generalize (((w1.setCell ⟨w.heap.size + 1, 0, none⟩ (.int .u64 (p0.toNat : Int))).setCell ⟨w.heap.size + 1, 1, none⟩ (.int .i64 p1)).setCell ⟨w.heap.size + 1, 2, none⟩ (.bool p2)) = wz at *
    refine bodyPost_ret (v := .tuple #[.agg #[.int .u64 (p0.toNat : Int), .int .i64 p1, .bool p2], .bool true]) (by simp [results, Try.results53, go_sem, k0, k1, k2]; try rfl) rfl ?_
    exact ⟨by rw [HO.out]; rfl, hBz⟩
  · have HO : Hid _ := ho
    have hch := set3_chg w1 (w.heap.size + 1) (.int .u64 0) (.int .i64 0) (.bool false)
    have HZ : Hid _ := And.intro (cells3 (set3_block hR1 (.int .u64 0) (.int .i64 0) (.bool false))) (hB1.trans (hch.below (fun b q => by omega) hB1.size))
    clear hch ho hR1 rz hcl hrs
    go_wp2_with fail
    obtain ⟨⟨k0, k1, k2, _⟩, hBz⟩ := HZ.out
    generalize (((w1.setCell ⟨w.heap.size + 1, 0, none⟩ (.int .u64 0)).setCell ⟨w.heap.size + 1, 1, none⟩ (.int .i64 0)).setCell ⟨w.heap.size + 1, 2, none⟩ (.bool false)) = wz at *
    refine bodyPost_ret (v := .tuple #[.agg #[.int .u64 0, .int .i64 0, .bool false], .bool false]) (by simp [results, Try.results53, go_sem, k0, k1, k2]; try rfl) rfl ?_
    exact ⟨by rw [HO.out]; rfl, hBz⟩
end Go.Proofs.Ytlfdcnojbbigbaa
