/- follows: does one region begin where another ends? -/
import Derived.Test.YtlfdcnojbbigbaaG10
import Derived.Test.YtlfdcnojbbigbaaG34
import Derived.Test.YtlfdcnojbbigbaaG12
import Derived.Test.YtlfdcnojbbigbaaG7
namespace Go.Proofs.Ytlfdcnojbbigbaa
open Go.RowKit
set_option linter.unusedVariables false
set_option maxRecDepth 100000

/-- Does what begins at t lie right behind what ends at e? -/
def flw (t e : List UInt8) : Bool := decide (0 < e.length) && decide (e = t)
set_option maxHeartbeats 2000000 in
theorem follows_any {i c r i' c' r' : Int} {sv ev tv fv : Value} {pa pb : Option Addr} {pn pk qn qk : Nat} {s e t f : List UInt8} {w : World} (ht : Rd w tv t) (hf : Rd w fv f) (hs : Rd w sv s) (he : Rd w ev e) :
    Calls Try.prog 65 #[.agg #[.int .u64 i', tv, fv, .int .u64 c', .int .u64 r', .slice pb qn qk], .agg #[.int .u64 i, sv, ev, .int .u64 c, .int .u64 r, .slice pa pn pk]] w fun x w' => x = .returned (.bool (flw t e)) ∧ Below w.heap.size w w' := by
  have q1 := fun o o' => bequal_any ((he.alloc o).alloc o') ((ht.alloc o).alloc o')
  have hfl : flw t e = (decide (0 < e.length) && decide (e = t)) := rfl
  have hel := he.len
  unfold maxLen at hel
  obtain ⟨sa, sc, rfl⟩ := hs.shp
  obtain ⟨ea, ec, rfl⟩ := he.shp
  obtain ⟨ta, tc, rfl⟩ := ht.shp
  obtain ⟨fa, fc, rfl⟩ := hf.shp
  generalize flw t e = res at *
  have HF : Hid _ := hfl
  clear hfl hs he ht hf
  generalize decide (e = t) = eq at *
  have hb0 : Below w.heap.size w ((w.alloc (.cells #[.int .u64 i', .slice ta t.length tc, .slice fa f.length fc, .int .u64 c', .int .u64 r', .slice pb qn qk] 34)).alloc (.cells #[.int .u64 i, .slice sa s.length sc, .slice ea e.length ec, .int .u64 c, .int .u64 r, .slice pa pn pk] 34)) := (g_al w _).alloc (by simp) _
  have hl0 : ((w.alloc (.cells #[.int .u64 i', .slice ta t.length tc, .slice fa f.length fc, .int .u64 c', .int .u64 r', .slice pb qn qk] 34)).alloc (.cells #[.int .u64 i, .slice sa s.length sc, .slice ea e.length ec, .int .u64 c, .int .u64 r, .slice pa pn pk] 34)).heap[w.heap.size]? = some (.cells #[.int .u64 i', .slice ta t.length tc, .slice fa f.length fc, .int .u64 c', .int .u64 r', .slice pb qn qk] 34 (0, 0)) := (Below.heap_alloc _ _ _ (by simp)).trans (heap_alloc_new w _)
  have hh0 : ((w.alloc (.cells #[.int .u64 i', .slice ta t.length tc, .slice fa f.length fc, .int .u64 c', .int .u64 r', .slice pb qn qk] 34)).alloc (.cells #[.int .u64 i, .slice sa s.length sc, .slice ea e.length ec, .int .u64 c, .int .u64 r, .slice pa pn pk] 34)).heap[w.heap.size + 1]? = some (.cells #[.int .u64 i, .slice sa s.length sc, .slice ea e.length ec, .int .u64 c, .int .u64 r, .slice pa pn pk] 34 (0, 0)) := by
    have := heap_alloc_new (w.alloc (.cells #[.int .u64 i', .slice ta t.length tc, .slice fa f.length fc, .int .u64 c', .int .u64 r', .slice pb qn qk] 34)) (.cells #[.int .u64 i, .slice sa s.length sc, .slice ea e.length ec, .int .u64 c, .int .u64 r, .slice pa pn pk] 34)
    rw [World.size_alloc] at this
    exact this
  obtain ⟨b0, b1, b2, b3, b4, b5, _⟩ := cells6 hl0
  obtain ⟨a0, a1, a2, a3, a4, a5, _⟩ := cells6 hh0
  go_enter Try.func65, Try.ntmps65
  by_cases hz : e.length < 1
  · have g0 : ¬ (0 : Int) < (e.length : Int) := by omega
    have g1 : ¬ 0 < e.length := by omega
    have HR : Hid (res = false) := by show _ = _; rw [HF.out, decide_eq_false g1]; rfl
    go_wp2_with fail
    go_ret
    exact ⟨by rw [HR.out]; rfl, hb0⟩
  · have g0 : (0 : Int) < (e.length : Int) := by omega
    have g1 : 0 < e.length := by omega
    have HR : Hid (res = eq) := by show _ = _; rw [HF.out, decide_eq_true g1]; rfl
    go_wp2_with fail
    refine (q1 _ _).mono ?_
    rintro x w1 ⟨rfl, rfl⟩
    go_wp2_with fail
    go_ret
    exact ⟨by rw [HR.out]; rfl, hb0⟩
end Go.Proofs.Ytlfdcnojbbigbaa
