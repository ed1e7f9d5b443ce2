/- The document's Overlap. -/
import Derived.Test.YtnenfflkldpbgaaG11
import Derived.Test.YtnenfflkldpbgaaG5
namespace Go.Proofs.Ytnenfflkldpbgaa
open Go.RowKit
set_option linter.unusedVariables false
set_option maxRecDepth 100000

theorem ovl_ref {s e t f : List UInt8} (h1 : emp s e = false) (h2 : emp t f = false) : ovl s e t f = ((decide (f.length = 0) || decide (M.cmpL s f < 0)) && (decide (e.length = 0) || decide (M.cmpL t e < 0))) := by
  have c1 : cov s e s = true := by rw [cov_start, h1]; rfl
  have c2 : cov t f t = true := by rw [cov_start, h2]; rfl
  have hsw := M.cmpL_swap s t
  unfold ovl topS
  by_cases h : 0 < M.cmpL t s
  · rw [if_pos h, c2, Bool.and_true]
    have hf : (decide (f.length = 0) || decide (M.cmpL s f < 0)) = true := by
      rcases (cov_iff.1 c2).2 with q | q
      · subst q; rfl
      · have : M.cmpL s f < 0 := M.cmpL_le_lt (by omega) q
        rw [decide_eq_true this, Bool.or_true]
    rw [hf, Bool.true_and]
    unfold cov
    rw [decide_eq_true (show 0 ≤ M.cmpL t s by omega), Bool.true_and]
  · rw [if_neg h, c1, Bool.true_and]
    have hf : (decide (e.length = 0) || decide (M.cmpL t e < 0)) = true := by
      rcases (cov_iff.1 c1).2 with q | q
      · subst q; rfl
      · have : M.cmpL t e < 0 := M.cmpL_le_lt (by omega) q
        rw [decide_eq_true this, Bool.or_true]
    rw [hf, Bool.and_true]
    unfold cov
    rw [decide_eq_true (show 0 ≤ M.cmpL s t by omega), Bool.true_and]

set_option maxHeartbeats 2000000 in
theorem roverlap_any {i c r i' c' r' : Int} {sv ev tv fv : Value} {pa pb : Option Addr} {pn pk qn qk : Nat} {s e t f : List UInt8} {w : World} (hs : Rd w sv s) (he : Rd w ev e) (ht : Rd w tv t) (hf : Rd w fv f) :
    Calls Try.prog 24 #[.agg #[.int .u64 i, sv, ev, .int .u64 c, .int .u64 r, .slice pa pn pk], .agg #[.int .u64 i', tv, fv, .int .u64 c', .int .u64 r', .slice pb qn qk]] w fun x w' => x = .returned (.bool (ovl s e t f)) ∧ Below w.heap.size w w' := by
  have HRS : Hid (Rd w sv s ∧ Rd w ev e ∧ Rd w tv t ∧ Rd w fv f) := ⟨hs, he, ht, hf⟩
  obtain ⟨sa, sc, rfl⟩ := hs.shp
  obtain ⟨ea, ec, rfl⟩ := he.shp
  obtain ⟨ta, tc, rfl⟩ := ht.shp
  obtain ⟨fa, fc, rfl⟩ := hf.shp
  have HV1 : Hid (emp s e = true → ovl s e t f = false) := fun q => ovl_emp (.inl q)
  have HV2 : Hid (emp t f = true → ovl s e t f = false) := fun q => ovl_emp (.inr q)
  have HV3 : Hid (emp s e = false → emp t f = false → ovl s e t f = ((decide (f.length = 0) || decide (M.cmpL s f < 0)) && (decide (e.length = 0) || decide (M.cmpL t e < 0)))) := fun a b => ovl_ref a b
  generalize ovl s e t f = res at *
  have hel := he.len
  have hfl := hf.len
  unfold maxLen at hel hfl
  clear hs he ht hf
  have hb0 : Below w.heap.size w ((w.alloc (.cells #[.int .u64 i, .slice sa s.length sc, .slice ea e.length ec, .int .u64 c, .int .u64 r, .slice pa pn pk] 28)).alloc (.cells #[.int .u64 i', .slice ta t.length tc, .slice fa f.length fc, .int .u64 c', .int .u64 r', .slice pb qn qk] 28)) := (g_al w _).alloc (by simp) _
  have hl0 : ((w.alloc (.cells #[.int .u64 i, .slice sa s.length sc, .slice ea e.length ec, .int .u64 c, .int .u64 r, .slice pa pn pk] 28)).alloc (.cells #[.int .u64 i', .slice ta t.length tc, .slice fa f.length fc, .int .u64 c', .int .u64 r', .slice pb qn qk] 28)).heap[w.heap.size]? = some (.cells #[.int .u64 i, .slice sa s.length sc, .slice ea e.length ec, .int .u64 c, .int .u64 r, .slice pa pn pk] 28 (0, 0)) := (Below.heap_alloc _ _ _ (by simp)).trans (heap_alloc_new w _)
  have hh0 : ((w.alloc (.cells #[.int .u64 i, .slice sa s.length sc, .slice ea e.length ec, .int .u64 c, .int .u64 r, .slice pa pn pk] 28)).alloc (.cells #[.int .u64 i', .slice ta t.length tc, .slice fa f.length fc, .int .u64 c', .int .u64 r', .slice pb qn qk] 28)).heap[w.heap.size + 1]? = some (.cells #[.int .u64 i', .slice ta t.length tc, .slice fa f.length fc, .int .u64 c', .int .u64 r', .slice pb qn qk] 28 (0, 0)) := by
    have := heap_alloc_new (w.alloc (.cells #[.int .u64 i, .slice sa s.length sc, .slice ea e.length ec, .int .u64 c, .int .u64 r, .slice pa pn pk] 28)) (.cells #[.int .u64 i', .slice ta t.length tc, .slice fa f.length fc, .int .u64 c', .int .u64 r', .slice pb qn qk] 28)
    rw [World.size_alloc] at this
    exact this
  go_enter Try.func24, Try.ntmps24
  go_wp2_with fail
  generalize ((w.alloc (.cells #[.int .u64 i, .slice sa s.length sc, .slice ea e.length ec, .int .u64 c, .int .u64 r, .slice pa pn pk] 28)).alloc (.cells #[.int .u64 i', .slice ta t.length tc, .slice fa f.length fc, .int .u64 c', .int .u64 r', .slice pb qn qk] 28)) = W at *
  have HA : Hid (∀ W', Below W.heap.size W W' → W'.heap[w.heap.size]? = some (.cells #[.int .u64 i, .slice sa s.length sc, .slice ea e.length ec, .int .u64 c, .int .u64 r, .slice pa pn pk] 28 (0, 0))) := fun W' hW => by rw [hW.block _ ((Array.getElem?_eq_some_iff.1 hl0).1)]; exact hl0
  have HB : Hid (∀ W', Below W.heap.size W W' → W'.heap[w.heap.size + 1]? = some (.cells #[.int .u64 i', .slice ta t.length tc, .slice fa f.length fc, .int .u64 c', .int .u64 r', .slice pb qn qk] 28 (0, 0))) := fun W' hW => by rw [hW.block _ ((Array.getElem?_eq_some_iff.1 hh0).1)]; exact hh0
  obtain ⟨hs, he, ht, hf⟩ := HRS.out
  have HKS : Hid (∀ W', Below W.heap.size W W' → Rd W' (.slice sa s.length sc) s ∧ Rd W' (.slice ea e.length ec) e ∧ Rd W' (.slice ta t.length tc) t ∧ Rd W' (.slice fa f.length fc) f) := fun W' hW => by
    have hb := hb0.trans (hW.mono hb0.size)
    exact ⟨hs.below hb (Nat.le_refl _), he.below hb (Nat.le_refl _), ht.below hb (Nat.le_refl _), hf.below hb (Nat.le_refl _)⟩
  clear hs he ht hf hl0 hh0
  have hE1 := rempty_any (i := i) (c := c) (r := r) (pa := pa) (pn := pn) (pk := pk) (HKS.out W (Below.refl _ _)).1 (HKS.out W (Below.refl _ _)).2.1
  obtain ⟨c0, c1, c2, c3, c4, c5, _⟩ := cells6 (HA.out W (Below.refl _ _))
  try go_wp2_with fail
  refine hE1.mono ?_
  rintro x w1 ⟨rfl, hb1⟩
  clear hE1 c0 c1 c2 c3 c4 c5
  cases he1 : emp s e with
  | true =>
    have HR : Hid (res = false) := HV1.out he1
    go_wp2_with fail
    go_ret
    exact ⟨by rw [HR.out]; rfl, hb0.trans (hb1.mono hb0.size)⟩
  | false =>
    have hE2 := rempty_any (i := i') (c := c') (r := r') (pa := pb) (pn := qn) (pk := qk) (HKS.out w1 hb1).2.2.1 (HKS.out w1 hb1).2.2.2
    obtain ⟨d0, d1, d2, d3, d4, d5, _⟩ := cells6 (HB.out w1 hb1)
    go_wp2_with fail
    refine hE2.mono ?_
    rintro x w2 ⟨rfl, hb2⟩
    clear hE2 d0 d1 d2 d3 d4 d5
    have hB2 : Below W.heap.size W w2 := hb1.trans (hb2.mono hb1.size)
    have hW2 : Below w.heap.size w w2 := hb0.trans (hB2.mono hb0.size)
    cases he2 : emp t f with
    | true =>
      have HR : Hid (res = false) := HV2.out he2
      go_wp2_with fail
      go_ret
      exact ⟨by rw [HR.out]; rfl, hW2⟩
    | false =>
      have HC := HV3.out he1 he2
      replace HC : Hid _ := HC
      obtain ⟨kS, kE, kT, kF⟩ := HKS.out w2 hB2
      have q1 := rcmp_any kS kF
      have q2 := fun n => rcmp_any (kT.drewN n) (kE.drewN n)
      have q0 := rcmp_any kT kE
      obtain ⟨c0, c1, c2, c3, c4, c5, _⟩ := cells6 (HA.out w2 hB2)
      obtain ⟨d0, d1, d2, d3, d4, d5, _⟩ := cells6 (HB.out w2 hB2)
      have hN : ∀ n, Below w.heap.size w (w2.drewN n) := fun n => hW2.trans ((Below.dN w2 n).mono hW2.size)
      clear kS kE kT kF he1 he2 hb1 hb2 HV1 HV2 HV3
      generalize M.cmpL s f = x1 at *
      generalize M.cmpL t e = x2 at *
      by_cases hf0 : f.length = 0
      · have g1 : ((f.length : Int) == 0) = true := by simp [hf0]
        have g1' : ((f.length : Int) = 0) := by omega
        by_cases he0 : e.length = 0
        · have g2 : ((e.length : Int) == 0) = true := by simp [he0]
          have g2' : ((e.length : Int) = 0) := by omega
          have HR : Hid (res = true) := by show _ = _; rw [HC.out, decide_eq_true hf0, decide_eq_true he0]; rfl
          go_wp2_with fail
          go_ret
          exact ⟨by rw [HR.out]; rfl, hW2⟩
        · have g2 : ((e.length : Int) == 0) = false := beq_eq_false_iff_ne.2 (by omega)
          have g2' : ¬ ((e.length : Int) = 0) := by omega
          have HR : Hid (res = decide (x2 < 0)) := by show _ = _; rw [HC.out, decide_eq_true hf0, decide_eq_false he0]; rfl
          go_wp2_with fail
          refine q0.mono ?_
          rintro x w3 ⟨rfl, n, rfl⟩
          have h3 := hN n
          go_wp2_with fail
          go_ret
          exact ⟨by rw [HR.out]; rfl, h3⟩
      · have g1 : ((f.length : Int) == 0) = false := beq_eq_false_iff_ne.2 (by omega)
        have g1' : ¬ ((f.length : Int) = 0) := by omega
        go_wp2_with fail
        refine q1.mono ?_
        rintro x w3 ⟨rfl, n, rfl⟩
        have h3 := hN n
        by_cases hx : x1 < 0
        · by_cases he0 : e.length = 0
          · have g2 : ((e.length : Int) == 0) = true := by simp [he0]
            have g2' : ((e.length : Int) = 0) := by omega
            have HR : Hid (res = true) := by show _ = _; rw [HC.out, decide_eq_true hx, decide_eq_true he0, Bool.or_true]; rfl
            go_wp2_with fail
            go_ret
            exact ⟨by rw [HR.out]; rfl, h3⟩
          · have g2 : ((e.length : Int) == 0) = false := beq_eq_false_iff_ne.2 (by omega)
            have g2' : ¬ ((e.length : Int) = 0) := by omega
            have HR : Hid (res = decide (x2 < 0)) := by show _ = _; rw [HC.out, decide_eq_true hx, decide_eq_false he0, Bool.or_true]; rfl
            go_wp2_with fail
            refine (q2 n).mono ?_
            rintro x w4 ⟨rfl, n4, rfl⟩
            have h4 : Below w.heap.size w ((w2.drewN n).drewN n4) := h3.trans ((Below.dN _ n4).mono h3.size)
            go_wp2_with fail
            go_ret
            exact ⟨by rw [HR.out]; rfl, hN _⟩
        · have HR : Hid (res = false) := by show _ = _; rw [HC.out, decide_eq_false hx, decide_eq_false hf0]; rfl
          go_wp2_with fail
          go_ret
          exact ⟨by rw [HR.out]; rfl, h3⟩
end Go.Proofs.Ytnenfflkldpbgaa
