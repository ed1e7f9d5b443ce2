/- SameRegion: are two regions the same? -/
import Derived.Test.YtlfdcnojbbigbaaG21
import Derived.Test.YtlfdcnojbbigbaaG26
import Derived.Test.YtlfdcnojbbigbaaG2
namespace Go.Proofs.Ytlfdcnojbbigbaa
open Go.RowKit
set_option linter.unusedVariables false
set_option maxRecDepth 100000

set_option maxHeartbeats 4000000 in
theorem sameRegion_any {id cf vr id' cf' vr' : UInt64} {sv ev pv tv fv qv : Value} {s e t f : List UInt8} {ps qs : List Pe} {w : World} (hs : Rd w sv s) (he : Rd w ev e) (hp : RdPe w pv ps) (ht : Rd w tv t) (hf : Rd w fv f) (hq : RdPe w qv qs) :
    Calls Try.prog 9 #[.agg #[.int .u64 (id.toNat : Int), sv, ev, .int .u64 (cf.toNat : Int), .int .u64 (vr.toNat : Int), pv], .agg #[.int .u64 (id'.toNat : Int), tv, fv, .int .u64 (cf'.toNat : Int), .int .u64 (vr'.toNat : Int), qv]] w fun x w' => x = .returned (.bool (decide (id = id' ∧ s = t ∧ e = f ∧ cf = cf' ∧ vr = vr' ∧ ps = qs))) ∧ Below w.heap.size w w' := by
  have HRS : Hid (Rd w sv s ∧ Rd w ev e ∧ RdPe w pv ps ∧ Rd w tv t ∧ Rd w fv f ∧ RdPe w qv qs) := ⟨hs, he, hp, ht, hf, hq⟩
  obtain ⟨sa, sc, rfl⟩ := hs.shp
  obtain ⟨ea, ec, rfl⟩ := he.shp
  obtain ⟨pa, pk, rfl, _⟩ := hp.shape
  obtain ⟨ta, tc, rfl⟩ := ht.shp
  obtain ⟨fa, fc, rfl⟩ := hf.shp
  obtain ⟨qa, qk, rfl, _⟩ := hq.shape
  clear hs he hp ht hf hq
  obtain ⟨res, hres⟩ : ∃ res : Bool, res = decide (id = id' ∧ s = t ∧ e = f ∧ cf = cf' ∧ vr = vr' ∧ ps = qs) := ⟨_, rfl⟩
  rw [← hres]
  have HV : Hid _ := hres
  clear hres
  have hb0 : Below w.heap.size w ((w.alloc (.cells #[.int .u64 (id.toNat : Int), .slice sa s.length sc, .slice ea e.length ec, .int .u64 (cf.toNat : Int), .int .u64 (vr.toNat : Int), .slice pa ps.length pk] 34)).alloc (.cells #[.int .u64 (id'.toNat : Int), .slice ta t.length tc, .slice fa f.length fc, .int .u64 (cf'.toNat : Int), .int .u64 (vr'.toNat : Int), .slice qa qs.length qk] 34)) := (g_al w _).alloc (by simp) _
  have hl0 : ((w.alloc (.cells #[.int .u64 (id.toNat : Int), .slice sa s.length sc, .slice ea e.length ec, .int .u64 (cf.toNat : Int), .int .u64 (vr.toNat : Int), .slice pa ps.length pk] 34)).alloc (.cells #[.int .u64 (id'.toNat : Int), .slice ta t.length tc, .slice fa f.length fc, .int .u64 (cf'.toNat : Int), .int .u64 (vr'.toNat : Int), .slice qa qs.length qk] 34)).heap[w.heap.size]? = some (.cells #[.int .u64 (id.toNat : Int), .slice sa s.length sc, .slice ea e.length ec, .int .u64 (cf.toNat : Int), .int .u64 (vr.toNat : Int), .slice pa ps.length pk] 34 (0, 0)) := (Below.heap_alloc _ _ _ (by simp)).trans (heap_alloc_new w _)
  have hh0 : ((w.alloc (.cells #[.int .u64 (id.toNat : Int), .slice sa s.length sc, .slice ea e.length ec, .int .u64 (cf.toNat : Int), .int .u64 (vr.toNat : Int), .slice pa ps.length pk] 34)).alloc (.cells #[.int .u64 (id'.toNat : Int), .slice ta t.length tc, .slice fa f.length fc, .int .u64 (cf'.toNat : Int), .int .u64 (vr'.toNat : Int), .slice qa qs.length qk] 34)).heap[w.heap.size + 1]? = some (.cells #[.int .u64 (id'.toNat : Int), .slice ta t.length tc, .slice fa f.length fc, .int .u64 (cf'.toNat : Int), .int .u64 (vr'.toNat : Int), .slice qa qs.length qk] 34 (0, 0)) := by
    have := heap_alloc_new (w.alloc (.cells #[.int .u64 (id.toNat : Int), .slice sa s.length sc, .slice ea e.length ec, .int .u64 (cf.toNat : Int), .int .u64 (vr.toNat : Int), .slice pa ps.length pk] 34)) (.cells #[.int .u64 (id'.toNat : Int), .slice ta t.length tc, .slice fa f.length fc, .int .u64 (cf'.toNat : Int), .int .u64 (vr'.toNat : Int), .slice qa qs.length qk] 34)
    rw [World.size_alloc] at this
    exact this
  go_enter Try.func9, Try.ntmps9
  go_upto_region 1 with fail
  generalize ((w.alloc (.cells #[.int .u64 (id.toNat : Int), .slice sa s.length sc, .slice ea e.length ec, .int .u64 (cf.toNat : Int), .int .u64 (vr.toNat : Int), .slice pa ps.length pk] 34)).alloc (.cells #[.int .u64 (id'.toNat : Int), .slice ta t.length tc, .slice fa f.length fc, .int .u64 (cf'.toNat : Int), .int .u64 (vr'.toNat : Int), .slice qa qs.length qk] 34)) = W at *
  obtain ⟨q1, q2, q3, q4, q5, q6⟩ := HRS.out
  have hS : ∀ n, Calls Try.prog 16 #[.slice sa s.length sc, .slice ta t.length tc] (W.drewN n) fun x w' => x = .returned (.bool (decide (s = t))) ∧ ∃ m, w' = W.drewN m := fun n => (same_any ((q1.below hb0 (Nat.le_refl _)).drewN n) ((q4.below hb0 (Nat.le_refl _)).drewN n)).mono (by rintro x w' ⟨rfl, m, rfl⟩; exact ⟨rfl, n + m, by simp [World.drewN, Nat.add_assoc]⟩)
  have hE : ∀ n, Calls Try.prog 16 #[.slice ea e.length ec, .slice fa f.length fc] (W.drewN n) fun x w' => x = .returned (.bool (decide (e = f))) ∧ ∃ m, w' = W.drewN m := fun n => (same_any ((q2.below hb0 (Nat.le_refl _)).drewN n) ((q5.below hb0 (Nat.le_refl _)).drewN n)).mono (by rintro x w' ⟨rfl, m, rfl⟩; exact ⟨rfl, n + m, by simp [World.drewN, Nat.add_assoc]⟩)
  have hP : ∀ n, Calls Try.prog 17 #[.slice pa ps.length pk, .slice qa qs.length qk] (W.drewN n) fun x w' => x = .returned (.bool (decide (ps = qs))) ∧ ∃ m, w' = W.drewN m := fun n => (samePeers_any ((q3.below hb0 (Nat.le_refl _)).below (Below.dN W n) (Nat.le_refl _)) ((q6.below hb0 (Nat.le_refl _)).below (Below.dN W n) (Nat.le_refl _))).mono (by rintro x w' ⟨rfl, m, rfl⟩; exact ⟨rfl, n + m, by simp [World.drewN, Nat.add_assoc]⟩)
  clear q1 q2 q3 q4 q5 q6
  have hfin : ∀ n, Below w.heap.size w (W.drewN n) := fun n => hb0.trans ((Below.dN W n).mono hb0.size)
  have HK : Hid (∀ n, (W.drewN n).heap[w.heap.size]? = some (.cells #[.int .u64 (id.toNat : Int), .slice sa s.length sc, .slice ea e.length ec, .int .u64 (cf.toNat : Int), .int .u64 (vr.toNat : Int), .slice pa ps.length pk] 34 (0, 0)) ∧ (W.drewN n).heap[w.heap.size + 1]? = some (.cells #[.int .u64 (id'.toNat : Int), .slice ta t.length tc, .slice fa f.length fc, .int .u64 (cf'.toNat : Int), .int .u64 (vr'.toNat : Int), .slice qa qs.length qk] 34 (0, 0))) := fun n => ⟨hl0, hh0⟩
  obtain ⟨a0, a1, a2, a3, a4, a5, _⟩ := cells6 hl0
  obtain ⟨b0, b1, b2, b3, b4, b5, _⟩ := cells6 hh0
  clear hl0 hh0
  by_cases hq : id = id'
  · have g0 : ((id.toNat : Int) == (id'.toNat : Int)) = true := by rw [hq]; simp
    have HI : Hid _ := hq
    clear hq
    have hn1 := hS 0
    by_cases hq : s = t
    · rw [decide_eq_true hq] at hn1
      have Hn1 : Hid _ := hq
      clear hq
      go_wp2_with fail
      refine hn1.mono ?_
      rintro x wn1 ⟨rfl, n1, rfl⟩
      clear a0 a1 a2 a3 a4 a5 b0 b1 b2 b3 b4 b5
      obtain ⟨a0, a1, a2, a3, a4, a5, _⟩ := cells6 (HK.out n1).1
      obtain ⟨b0, b1, b2, b3, b4, b5, _⟩ := cells6 (HK.out n1).2
      have hn2 := hE n1
      by_cases hq : e = f
      · rw [decide_eq_true hq] at hn2
        have Hn2 : Hid _ := hq
        clear hq
        go_wp2_with fail
        refine hn2.mono ?_
        rintro x wn2 ⟨rfl, n2, rfl⟩
        clear a0 a1 a2 a3 a4 a5 b0 b1 b2 b3 b4 b5
        obtain ⟨a0, a1, a2, a3, a4, a5, _⟩ := cells6 (HK.out n2).1
        obtain ⟨b0, b1, b2, b3, b4, b5, _⟩ := cells6 (HK.out n2).2
        by_cases hq : cf = cf'
        · have g3 : ((cf.toNat : Int) == (cf'.toNat : Int)) = true := by rw [hq]; simp
          have HC : Hid _ := hq
          clear hq
          by_cases hq : vr = vr'
          · have g4 : ((vr.toNat : Int) == (vr'.toNat : Int)) = true := by rw [hq]; simp
            have HR : Hid _ := hq
            clear hq
            have hn3 := hP n2
            by_cases hq : ps = qs
            · rw [decide_eq_true hq] at hn3
              have Hn3 : Hid _ := hq
              clear hq
              go_wp2_with fail
              refine hn3.mono ?_
              rintro x wn3 ⟨rfl, n3, rfl⟩
              clear a0 a1 a2 a3 a4 a5 b0 b1 b2 b3 b4 b5
              obtain ⟨a0, a1, a2, a3, a4, a5, _⟩ := cells6 (HK.out n3).1
              obtain ⟨b0, b1, b2, b3, b4, b5, _⟩ := cells6 (HK.out n3).2
              have HY : Hid (true = res) := by show _ = _; rw [HV.out]; exact (decide_eq_true ⟨HI.out, Hn1.out, Hn2.out, HC.out, HR.out, Hn3.out⟩).symm
              go_wp2_with fail
              go_ret
              exact ⟨by rw [← HY.out]; rfl, hfin _⟩
            · rw [decide_eq_false hq] at hn3
              have HY : Hid (false = res) := by show _ = _; rw [HV.out]; exact (decide_eq_false (fun q => hq q.2.2.2.2.2)).symm
              clear hq
              go_wp2_with fail
              refine hn3.mono ?_
              rintro x wn3 ⟨rfl, n3, rfl⟩
              clear a0 a1 a2 a3 a4 a5 b0 b1 b2 b3 b4 b5
              obtain ⟨a0, a1, a2, a3, a4, a5, _⟩ := cells6 (HK.out n3).1
              obtain ⟨b0, b1, b2, b3, b4, b5, _⟩ := cells6 (HK.out n3).2
              go_wp2_with fail
              go_ret
              exact ⟨by rw [← HY.out]; rfl, hfin _⟩
          · have g4 : ((vr.toNat : Int) == (vr'.toNat : Int)) = false := beq_eq_false_iff_ne.2 (fun q => hq (UInt64.toNat_inj.1 (by omega)))
            have HY : Hid (false = res) := by show _ = _; rw [HV.out]; exact (decide_eq_false (fun q => hq q.2.2.2.2.1)).symm
            go_wp2_with fail
            go_ret
            exact ⟨by rw [← HY.out]; rfl, hfin _⟩
        · have g3 : ((cf.toNat : Int) == (cf'.toNat : Int)) = false := beq_eq_false_iff_ne.2 (fun q => hq (UInt64.toNat_inj.1 (by omega)))
          have HY : Hid (false = res) := by show _ = _; rw [HV.out]; exact (decide_eq_false (fun q => hq q.2.2.2.1)).symm
          go_wp2_with fail
          go_ret
          exact ⟨by rw [← HY.out]; rfl, hfin _⟩
      · rw [decide_eq_false hq] at hn2
        have HY : Hid (false = res) := by show _ = _; rw [HV.out]; exact (decide_eq_false (fun q => hq q.2.2.1)).symm
        clear hq
        go_wp2_with fail
        refine hn2.mono ?_
        rintro x wn2 ⟨rfl, n2, rfl⟩
        clear a0 a1 a2 a3 a4 a5 b0 b1 b2 b3 b4 b5
        obtain ⟨a0, a1, a2, a3, a4, a5, _⟩ := cells6 (HK.out n2).1
        obtain ⟨b0, b1, b2, b3, b4, b5, _⟩ := cells6 (HK.out n2).2
        go_wp2_with fail
        go_ret
        exact ⟨by rw [← HY.out]; rfl, hfin _⟩
    · rw [decide_eq_false hq] at hn1
      have HY : Hid (false = res) := by show _ = _; rw [HV.out]; exact (decide_eq_false (fun q => hq q.2.1)).symm
      clear hq
      go_wp2_with fail
      refine hn1.mono ?_
      rintro x wn1 ⟨rfl, n1, rfl⟩
      clear a0 a1 a2 a3 a4 a5 b0 b1 b2 b3 b4 b5
      obtain ⟨a0, a1, a2, a3, a4, a5, _⟩ := cells6 (HK.out n1).1
      obtain ⟨b0, b1, b2, b3, b4, b5, _⟩ := cells6 (HK.out n1).2
      go_wp2_with fail
      go_ret
      exact ⟨by rw [← HY.out]; rfl, hfin _⟩
  · have g0 : ((id.toNat : Int) == (id'.toNat : Int)) = false := beq_eq_false_iff_ne.2 (fun q => hq (UInt64.toNat_inj.1 (by omega)))
    have HY : Hid (false = res) := by show _ = _; rw [HV.out]; exact (decide_eq_false (fun q => hq q.1)).symm
    go_wp2_with fail
    go_ret
    exact ⟨by rw [← HY.out]; rfl, hb0⟩
end Go.Proofs.Ytlfdcnojbbigbaa
