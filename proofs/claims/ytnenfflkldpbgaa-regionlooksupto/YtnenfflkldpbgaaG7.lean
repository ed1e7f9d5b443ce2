/- The document's On. -/
import Derived.Test.YtnenfflkldpbgaaG5
import Derived.Test.YtnenfflkldpbgaaG3
namespace Go.Proofs.Ytnenfflkldpbgaa
open Go.RowKit
set_option linter.unusedVariables false
set_option maxRecDepth 100000

set_option maxHeartbeats 2000000 in
theorem ron_any {i c r : Int} {sv ev pv : Value} {s e : List UInt8} {ps : List Pe} {st : Int} {w : World} (hs : Rd w sv s) (he : Rd w ev e) (hp : RdPe w pv ps) :
    Calls Try.prog 17 #[.agg #[.int .u64 i, sv, ev, .int .u64 c, .int .u64 r, pv], .int .i64 st] w fun x w' => x = .returned (.tuple #[peV ((onF ps st).getD noPe), .bool (onF ps st).isSome]) ∧ Below w.heap.size w w' := by
  obtain ⟨sa, sc, rfl⟩ := hs.shp
  obtain ⟨ea, ec, rfl⟩ := he.shp
  have HR : Hid (RdPe w pv ps) := hp
  obtain ⟨pa, pk, rfl, hl1, hl2⟩ := hp.shape
  clear hs he hp
  have hB0 : Below w.heap.size w ((w.alloc (.cells #[.int .u64 i, .slice sa s.length sc, .slice ea e.length ec, .int .u64 c, .int .u64 r, .slice pa ps.length pk] 28)).alloc (.cells #[.int .u64 0, .int .i64 0, .bool false] 31)) := (g_al w _).alloc (by simp) _
  have hk0 : ((w.alloc (.cells #[.int .u64 i, .slice sa s.length sc, .slice ea e.length ec, .int .u64 c, .int .u64 r, .slice pa ps.length pk] 28)).alloc (.cells #[.int .u64 0, .int .i64 0, .bool false] 31)).heap[w.heap.size]? = some (.cells #[.int .u64 i, .slice sa s.length sc, .slice ea e.length ec, .int .u64 c, .int .u64 r, .slice pa ps.length pk] 28 (0, 0)) := (Below.heap_alloc _ _ _ (by simp)).trans (heap_alloc_new w _)
  have hr0 : ((w.alloc (.cells #[.int .u64 i, .slice sa s.length sc, .slice ea e.length ec, .int .u64 c, .int .u64 r, .slice pa ps.length pk] 28)).alloc (.cells #[.int .u64 0, .int .i64 0, .bool false] 31)).heap[w.heap.size + 1]? = some (.cells #[.int .u64 0, .int .i64 0, .bool false] 31 (0, 0)) := by
    have := heap_alloc_new (w.alloc (.cells #[.int .u64 i, .slice sa s.length sc, .slice ea e.length ec, .int .u64 c, .int .u64 r, .slice pa ps.length pk] 28)) (.cells #[.int .u64 0, .int .i64 0, .bool false] 31)
    rw [World.size_alloc] at this
    exact this
  go_enter Try.func17, Try.ntmps17
  go_wp2_with fail
  generalize ((w.alloc (.cells #[.int .u64 i, .slice sa s.length sc, .slice ea e.length ec, .int .u64 c, .int .u64 r, .slice pa ps.length pk] 28)).alloc (.cells #[.int .u64 0, .int .i64 0, .bool false] 31)) = W at *
  obtain ⟨_, _, _, _, _, c5, _⟩ := cells6 hk0
  obtain ⟨r0, r1, r2, rz⟩ := cells3 hr0
  have rz0 := rz 0
  have rz1 := rz 1
  have rz2 := rz 2
  clear rz
  go_loopw [6] (fun v wr => ∃ k : Nat, k ≤ ps.length ∧ v = .int .i64 k ∧ Hid (onF ps st = onF (ps.drop k) st) ∧ wr = W) (fun v _ => ps.length - (intOf v).toNat)
  case atStart => exact ⟨0, Nat.zero_le _, rfl, rfl, rfl⟩
  case round =>
    obtain ⟨k, hk, rfl, HX, rfl⟩ := hrel
    by_cases hlt : k < ps.length
    · have HT : Hid (ps.drop k = ps[k] :: ps.drop (k + 1)) := List.drop_eq_getElem_cons hlt
      obtain ⟨ao', c', e1, _, _, _, h4⟩ := HR.out.below hB0 (Nat.le_refl _)
      simp only [Value.slice.injEq, true_and] at e1
      obtain ⟨rfl, rfl⟩ := e1
      obtain ⟨a, rfl, q0, q1, q2⟩ := h4 k _ (List.getElem?_eq_getElem hlt)
      clear h4
      generalize ps[k] = p at *
      obtain ⟨p0, p1, p2⟩ := p
      simp only [] at q0 q1 q2
      have hk1 : (k : Int) < (ps.length : Int) := by omega
      by_cases he : p1 = st
      · have HO : Hid (onF ps st = some (p0, p1, p2)) := by
          show _ = _
          rw [HX.out, HT.out]
          unfold onF
          rw [List.find?_cons, decide_eq_true he]
        have hch := set3_chg wr (w.heap.size + 1) (.int .u64 (p0.toNat : Int)) (.int .i64 p1) (.bool p2)
        have HZ : Hid _ := And.intro (cells3 (set3_block hr0 (.int .u64 (p0.toNat : Int)) (.int .i64 p1) (.bool p2))) (hB0.trans (hch.below (fun b q => by omega) hB0.size))
        have gq : (p1 == st) = true := by simp [he]
        clear hch hk0 hr0
        subst he
        go_wp2_with fail
        obtain ⟨⟨k0, k1, k2, _⟩, hBz⟩ := HZ.out
        generalize (((wr.setCell ⟨w.heap.size + 1, 0, none⟩ (.int .u64 (p0.toNat : Int))).setCell ⟨w.heap.size + 1, 1, none⟩ (.int .i64 p1)).setCell ⟨w.heap.size + 1, 2, none⟩ (.bool p2)) = wz at *
        refine bodyPost_ret (v := .tuple #[.agg #[.int .u64 (p0.toNat : Int), .int .i64 p1, .bool p2], .bool true]) (by simp [results, Try.results17, go_sem, k0, k1, k2]; try rfl) rfl ?_
        exact ⟨by rw [HO.out]; rfl, hBz⟩
      · have gq : (p1 == st) = false := beq_eq_false_iff_ne.2 he
        have HY : Hid (onF ps st = onF (ps.drop (k + 1)) st) := by
          show _ = _
          rw [HX.out, HT.out]
          unfold onF
          rw [List.find?_cons, decide_eq_false he]
        go_wp2_with fail
        exact ⟨⟨k + 1, by omega, by go_num, HY, trivial⟩, by simp [intOf]; omega⟩
    · obtain rfl : k = ps.length := by omega
      have HO : Hid (onF ps st = none) := by show _ = _; rw [HX.out, List.drop_length]; rfl
      have hch := set3_chg wr (w.heap.size + 1) (.int .u64 0) (.int .i64 0) (.bool false)
      have HZ : Hid _ := And.intro (cells3 (set3_block hr0 (.int .u64 0) (.int .i64 0) (.bool false))) (hB0.trans (hch.below (fun b q => by omega) hB0.size))
      clear hch hk0 hr0
      go_wp2_with fail
      obtain ⟨⟨k0, k1, k2, _⟩, hBz⟩ := HZ.out
      generalize (((wr.setCell ⟨w.heap.size + 1, 0, none⟩ (.int .u64 0)).setCell ⟨w.heap.size + 1, 1, none⟩ (.int .i64 0)).setCell ⟨w.heap.size + 1, 2, none⟩ (.bool false)) = wz at *
      refine bodyPost_ret (v := .tuple #[.agg #[.int .u64 0, .int .i64 0, .bool false], .bool false]) (by simp [results, Try.results17, go_sem, k0, k1, k2]; try rfl) rfl ?_
      exact ⟨by rw [HO.out]; rfl, hBz⟩
end Go.Proofs.Ytnenfflkldpbgaa

/- Overlap. -/
namespace Go.Proofs.Ytnenfflkldpbgaa
open Go.RowKit
set_option linter.unusedVariables false
set_option maxRecDepth 100000

set_option maxHeartbeats 1000000 in
theorem overlap_any {i c r i' c' r' : Int} {sv ev tv fv : Value} {pa pb : Option Addr} {pn pk qn qk : Nat} {s e t f : List UInt8} {w : World} (hs : Rd w sv s) (he : Rd w ev e) (ht : Rd w tv t) (hf : Rd w fv f) :
    Calls Try.prog 23 #[.agg #[.int .u64 i, sv, ev, .int .u64 c, .int .u64 r, .slice pa pn pk], .agg #[.int .u64 i', tv, fv, .int .u64 c', .int .u64 r', .slice pb qn qk]] w fun x w' => x = .returned (.bool (ovl s e t f)) ∧ Below w.heap.size w w' := by
  have HRS : Hid (Rd w sv s ∧ Rd w ev e ∧ Rd w tv t ∧ Rd w fv f) := ⟨hs, he, ht, hf⟩
  obtain ⟨sa, sc, rfl⟩ := hs.shp
  obtain ⟨ea, ec, rfl⟩ := he.shp
  obtain ⟨ta, tc, rfl⟩ := ht.shp
  obtain ⟨fa, fc, rfl⟩ := hf.shp
  have hres : ovl s e t f = (cov s e (topS s t) && cov t f (topS s t)) := rfl
  generalize ovl s e t f = res at *
  have HV : Hid _ := hres
  clear hres hs he ht hf
  have hb0 : Below w.heap.size w ((w.alloc (.cells #[.int .u64 i, .slice sa s.length sc, .slice ea e.length ec, .int .u64 c, .int .u64 r, .slice pa pn pk] 28)).alloc (.cells #[.int .u64 i', .slice ta t.length tc, .slice fa f.length fc, .int .u64 c', .int .u64 r', .slice pb qn qk] 28)) := (g_al w _).alloc (by simp) _
  have hl0 : ((w.alloc (.cells #[.int .u64 i, .slice sa s.length sc, .slice ea e.length ec, .int .u64 c, .int .u64 r, .slice pa pn pk] 28)).alloc (.cells #[.int .u64 i', .slice ta t.length tc, .slice fa f.length fc, .int .u64 c', .int .u64 r', .slice pb qn qk] 28)).heap[w.heap.size]? = some (.cells #[.int .u64 i, .slice sa s.length sc, .slice ea e.length ec, .int .u64 c, .int .u64 r, .slice pa pn pk] 28 (0, 0)) := (Below.heap_alloc _ _ _ (by simp)).trans (heap_alloc_new w _)
  have hh0 : ((w.alloc (.cells #[.int .u64 i, .slice sa s.length sc, .slice ea e.length ec, .int .u64 c, .int .u64 r, .slice pa pn pk] 28)).alloc (.cells #[.int .u64 i', .slice ta t.length tc, .slice fa f.length fc, .int .u64 c', .int .u64 r', .slice pb qn qk] 28)).heap[w.heap.size + 1]? = some (.cells #[.int .u64 i', .slice ta t.length tc, .slice fa f.length fc, .int .u64 c', .int .u64 r', .slice pb qn qk] 28 (0, 0)) := by
    have := heap_alloc_new (w.alloc (.cells #[.int .u64 i, .slice sa s.length sc, .slice ea e.length ec, .int .u64 c, .int .u64 r, .slice pa pn pk] 28)) (.cells #[.int .u64 i', .slice ta t.length tc, .slice fa f.length fc, .int .u64 c', .int .u64 r', .slice pb qn qk] 28)
    rw [World.size_alloc] at this
    exact this
  go_enter Try.func23, Try.ntmps23
  go_wp2_with fail
  generalize ((w.alloc (.cells #[.int .u64 i, .slice sa s.length sc, .slice ea e.length ec, .int .u64 c, .int .u64 r, .slice pa pn pk] 28)).alloc (.cells #[.int .u64 i', .slice ta t.length tc, .slice fa f.length fc, .int .u64 c', .int .u64 r', .slice pb qn qk] 28)) = W at *
  obtain ⟨hs, he, ht, hf⟩ := HRS.out
  have kS := hs.below hb0 (Nat.le_refl _)
  have kE := he.below hb0 (Nat.le_refl _)
  have kT := ht.below hb0 (Nat.le_refl _)
  have kF := hf.below hb0 (Nat.le_refl _)
  have HK : Hid (∀ W', Below W.heap.size W W' → W'.heap[w.heap.size + 1]? = some (.cells #[.int .u64 i', .slice ta t.length tc, .slice fa f.length fc, .int .u64 c', .int .u64 r', .slice pb qn qk] 28 (0, 0))) := fun W' hW => by rw [hW.block _ ((Array.getElem?_eq_some_iff.1 hh0).1)]; exact hh0
  have HKS : Hid (Rd W (.slice ta t.length tc) t ∧ Rd W (.slice fa f.length fc) f ∧ Rd W (.slice sa s.length sc) s) := ⟨kT, kF, kS⟩
  obtain ⟨c0, c1, c2, c3, c4, c5, _⟩ := cells6 hl0
  obtain ⟨d0, d1, d2, d3, d4, d5, _⟩ := cells6 hh0
  have hcm := bcompare_any kT kS
  have hcA := covers_any (i := i) (c := c) (r := r) (pa := pa) (pn := pn) (pk := pk) kS kE kT
  have hcB := covers_any (i := i) (c := c) (r := r) (pa := pa) (pn := pn) (pk := pk) kS kE kS
  clear hs he ht hf kS kE kT kF hl0 hh0
  refine hcm.mono ?_
  rintro x w1 ⟨rfl, rfl⟩
  by_cases hgt : 0 < M.cmpL t s
  · have HT : Hid (topS s t = t) := if_pos hgt
    generalize M.cmpL t s = z at *
    go_wp2_with fail
    refine hcA.mono ?_
    rintro x w2 ⟨rfl, hb2⟩
    have hcC := covers_any (i := i') (c := c') (r := r') (pa := pb) (pn := qn) (pk := qk) (HKS.out.1.below hb2 (Nat.le_refl _)) (HKS.out.2.1.below hb2 (Nat.le_refl _)) (HKS.out.1.below hb2 (Nat.le_refl _))
    obtain ⟨e0, e1, e2, e3, e4, e5, _⟩ := cells6 (HK.out w2 hb2)
    clear hcA hcB hcm
    have hB2 : Below w.heap.size w w2 := hb0.trans (hb2.mono hb0.size)
    cases hq : cov s e t with
    | false =>
      have HR : Hid (false = res) := by show _ = _; rw [HV.out, HT.out, hq]; rfl
      go_wp2_with fail
      go_ret
      exact ⟨by rw [← HR.out]; rfl, hB2⟩
    | true =>
      have HR : Hid (cov t f t = res) := by show _ = _; rw [HV.out, HT.out, hq]; rfl
      generalize cov t f t = y at *
      go_wp2_with fail
      refine hcC.mono ?_
      rintro x w3 ⟨rfl, hb3⟩
      go_wp2_with fail
      go_ret
      exact ⟨by rw [← HR.out]; rfl, hB2.trans (hb3.mono hB2.size)⟩
  · have HT : Hid (topS s t = s) := if_neg hgt
    generalize M.cmpL t s = z at *
    go_wp2_with fail
    refine hcB.mono ?_
    rintro x w2 ⟨rfl, hb2⟩
    have hcC := covers_any (i := i') (c := c') (r := r') (pa := pb) (pn := qn) (pk := qk) (HKS.out.1.below hb2 (Nat.le_refl _)) (HKS.out.2.1.below hb2 (Nat.le_refl _)) (HKS.out.2.2.below hb2 (Nat.le_refl _))
    obtain ⟨e0, e1, e2, e3, e4, e5, _⟩ := cells6 (HK.out w2 hb2)
    clear hcA hcB hcm
    have hB2 : Below w.heap.size w w2 := hb0.trans (hb2.mono hb0.size)
    cases hq : cov s e s with
    | false =>
      have HR : Hid (false = res) := by show _ = _; rw [HV.out, HT.out, hq]; rfl
      go_wp2_with fail
      go_ret
      exact ⟨by rw [← HR.out]; rfl, hB2⟩
    | true =>
      have HR : Hid (cov t f s = res) := by show _ = _; rw [HV.out, HT.out, hq]; rfl
      generalize cov t f s = y at *
      go_wp2_with fail
      refine hcC.mono ?_
      rintro x w3 ⟨rfl, hb3⟩
      go_wp2_with fail
      go_ret
      exact ⟨by rw [← HR.out]; rfl, hB2.trans (hb3.mono hB2.size)⟩
end Go.Proofs.Ytnenfflkldpbgaa
