/- Overlap. -/
import Derived.Test.YtnapkomjegbhcaaG5
import Derived.Test.YtnapkomjegbhcaaG11
namespace Go.Proofs.Ytnapkomjegbhcaa
open Go.RowKit
set_option linter.unusedVariables false
set_option maxRecDepth 100000

set_option maxHeartbeats 1000000 in
theorem overlap_any {i c r i' c' r' : Int} {sv ev tv fv : Value} {pa pb : Option Addr} {pn pk qn qk : Nat} {s e t f : List UInt8} {w : World} (hs : Rd w sv s) (he : Rd w ev e) (ht : Rd w tv t) (hf : Rd w fv f) :
    Calls Try.prog 9 #[.agg #[.int .u64 i, sv, ev, .int .u64 c, .int .u64 r, .slice pa pn pk], .agg #[.int .u64 i', tv, fv, .int .u64 c', .int .u64 r', .slice pb qn qk]] w fun x w' => x = .returned (.bool (ovl s e t f)) ∧ Below w.heap.size w w' := by
  have HRS : Hid (Rd w sv s ∧ Rd w ev e ∧ Rd w tv t ∧ Rd w fv f) := ⟨hs, he, ht, hf⟩
  obtain ⟨sa, sc, rfl⟩ := hs.shp
  obtain ⟨ea, ec, rfl⟩ := he.shp
  obtain ⟨ta, tc, rfl⟩ := ht.shp
  obtain ⟨fa, fc, rfl⟩ := hf.shp
  have hres : ovl s e t f = (cov s e (topS s t) && cov t f (topS s t)) := rfl
  generalize ovl s e t f = res at *
  have HV : Hid _ := hres
  clear hres hs he ht hf
  have hb0 : Below w.heap.size w ((w.alloc (.cells #[.int .u64 i, .slice sa s.length sc, .slice ea e.length ec, .int .u64 c, .int .u64 r, .slice pa pn pk] 34)).alloc (.cells #[.int .u64 i', .slice ta t.length tc, .slice fa f.length fc, .int .u64 c', .int .u64 r', .slice pb qn qk] 34)) := (g_al w _).alloc (by simp) _
  have hl0 : ((w.alloc (.cells #[.int .u64 i, .slice sa s.length sc, .slice ea e.length ec, .int .u64 c, .int .u64 r, .slice pa pn pk] 34)).alloc (.cells #[.int .u64 i', .slice ta t.length tc, .slice fa f.length fc, .int .u64 c', .int .u64 r', .slice pb qn qk] 34)).heap[w.heap.size]? = some (.cells #[.int .u64 i, .slice sa s.length sc, .slice ea e.length ec, .int .u64 c, .int .u64 r, .slice pa pn pk] 34 (0, 0)) := (Below.heap_alloc _ _ _ (by simp)).trans (heap_alloc_new w _)
  have hh0 : ((w.alloc (.cells #[.int .u64 i, .slice sa s.length sc, .slice ea e.length ec, .int .u64 c, .int .u64 r, .slice pa pn pk] 34)).alloc (.cells #[.int .u64 i', .slice ta t.length tc, .slice fa f.length fc, .int .u64 c', .int .u64 r', .slice pb qn qk] 34)).heap[w.heap.size + 1]? = some (.cells #[.int .u64 i', .slice ta t.length tc, .slice fa f.length fc, .int .u64 c', .int .u64 r', .slice pb qn qk] 34 (0, 0)) := by
    have := heap_alloc_new (w.alloc (.cells #[.int .u64 i, .slice sa s.length sc, .slice ea e.length ec, .int .u64 c, .int .u64 r, .slice pa pn pk] 34)) (.cells #[.int .u64 i', .slice ta t.length tc, .slice fa f.length fc, .int .u64 c', .int .u64 r', .slice pb qn qk] 34)
    rw [World.size_alloc] at this
    exact this
  go_enter Try.func9, Try.ntmps9
  go_wp2_with fail
  generalize ((w.alloc (.cells #[.int .u64 i, .slice sa s.length sc, .slice ea e.length ec, .int .u64 c, .int .u64 r, .slice pa pn pk] 34)).alloc (.cells #[.int .u64 i', .slice ta t.length tc, .slice fa f.length fc, .int .u64 c', .int .u64 r', .slice pb qn qk] 34)) = W at *
  obtain ⟨hs, he, ht, hf⟩ := HRS.out
  have kS := hs.below hb0 (Nat.le_refl _)
  have kE := he.below hb0 (Nat.le_refl _)
  have kT := ht.below hb0 (Nat.le_refl _)
  have kF := hf.below hb0 (Nat.le_refl _)
  have HK : Hid (∀ W', Below W.heap.size W W' → W'.heap[w.heap.size + 1]? = some (.cells #[.int .u64 i', .slice ta t.length tc, .slice fa f.length fc, .int .u64 c', .int .u64 r', .slice pb qn qk] 34 (0, 0))) := fun W' hW => by rw [hW.block _ ((Array.getElem?_eq_some_iff.1 hh0).1)]; exact hh0
  have HKS : Hid (Rd W (.slice ta t.length tc) t ∧ Rd W (.slice fa f.length fc) f ∧ Rd W (.slice sa s.length sc) s) := ⟨kT, kF, kS⟩
  obtain ⟨c0, c1, c2, c3, c4, c5, _⟩ := cells6 hl0
  obtain ⟨d0, d1, d2, d3, d4, d5, _⟩ := cells6 hh0
  have hcm := bcompare_any kT kS
  have hcA := covers_any (i := i) (c := c) (r := r) (pa := pa) (pn := pn) (pk := pk) kS kE kT
  have hcB := covers_any (i := i) (c := c) (r := r) (pa := pa) (pn := pn) (pk := pk) kS kE kS
  clear hs he ht hf kS kE kT kF hl0 hh0
  refine hcm.mono ?_
  rintro x w1 ⟨rfl, rfl⟩
  by_cases hgt : 0 < M.cmpL t s
  · have HT : Hid (topS s t = t) := if_pos hgt
    generalize M.cmpL t s = z at *
    go_wp2_with fail
    refine hcA.mono ?_
    rintro x w2 ⟨rfl, hb2⟩
    have hcC := covers_any (i := i') (c := c') (r := r') (pa := pb) (pn := qn) (pk := qk) (HKS.out.1.below hb2 (Nat.le_refl _)) (HKS.out.2.1.below hb2 (Nat.le_refl _)) (HKS.out.1.below hb2 (Nat.le_refl _))
    obtain ⟨e0, e1, e2, e3, e4, e5, _⟩ := cells6 (HK.out w2 hb2)
    clear hcA hcB hcm
    have hB2 : Below w.heap.size w w2 := hb0.trans (hb2.mono hb0.size)
    cases hq : cov s e t with
    | false =>
      have HR : Hid (false = res) := by show _ = _; rw [HV.out, HT.out, hq]; rfl
      go_wp2_with fail
      go_ret
      exact ⟨by rw [← HR.out]; rfl, hB2⟩
    | true =>
      have HR : Hid (cov t f t = res) := by show _ = _; rw [HV.out, HT.out, hq]; rfl
      generalize cov t f t = y at *
      go_wp2_with fail
      refine hcC.mono ?_
      rintro x w3 ⟨rfl, hb3⟩
      go_wp2_with fail
      go_ret
      exact ⟨by rw [← HR.out]; rfl, hB2.trans (hb3.mono hB2.size)⟩
  · have HT : Hid (topS s t = s) := if_neg hgt
    generalize M.cmpL t s = z at *
    go_wp2_with fail
    refine hcB.mono ?_
    rintro x w2 ⟨rfl, hb2⟩
    have hcC := covers_any (i := i') (c := c') (r := r') (pa := pb) (pn := qn) (pk := qk) (HKS.out.1.below hb2 (Nat.le_refl _)) (HKS.out.2.1.below hb2 (Nat.le_refl _)) (HKS.out.2.2.below hb2 (Nat.le_refl _))
    obtain ⟨e0, e1, e2, e3, e4, e5, _⟩ := cells6 (HK.out w2 hb2)
    clear hcA hcB hcm
    have hB2 : Below w.heap.size w w2 := hb0.trans (hb2.mono hb0.size)
    cases hq : cov s e s with
    | false =>
      have HR : Hid (false = res) := by show _ = _; rw [HV.out, HT.out, hq]; rfl
      go_wp2_with fail
      go_ret
      exact ⟨by rw [← HR.out]; rfl, hB2⟩
    | true =>
      have HR : Hid (cov t f s = res) := by show _ = _; rw [HV.out, HT.out, hq]; rfl
      generalize cov t f s = y at *
      go_wp2_with fail
      refine hcC.mono ?_
      rintro x w3 ⟨rfl, hb3⟩
      go_wp2_with fail
      go_ret
      exact ⟨by rw [← HR.out]; rfl, hB2.trans (hb3.mono hB2.size)⟩
end Go.Proofs.Ytnapkomjegbhcaa
