/- Find: the first region that covers a key; follows. -/
import Derived.Test.YtnapkomjegbhcaaG21
import Derived.Test.YtnapkomjegbhcaaG2
namespace Go.Proofs.Ytnapkomjegbhcaa
open Go.RowKit
set_option linter.unusedVariables false
set_option maxRecDepth 100000

/-- The first region of a list that covers the key; as many as there are, if none does. -/
def fdF (rs : List R3) (k : List UInt8) : Nat := rs.findIdx (fun r => cov r.2.1 r.2.2 k)
theorem fdF_le (rs : List R3) (k : List UInt8) : fdF rs k ≤ rs.length := List.findIdx_le_length
theorem fdF_cons (r : R3) (rs : List R3) (k : List UInt8) : fdF (r :: rs) k = if cov r.2.1 r.2.2 k then 0 else fdF rs k + 1 := by
  unfold fdF
  rw [List.findIdx_cons]
  cases cov r.2.1 r.2.2 k <;> rfl

theorem find1_any {i c r : Int} {sv ev kv : Value} {pa : Option Addr} {pn pk : Nat} {s e k : List UInt8} {b : Nat} {w : World} (hs : Rd w sv s) (he : Rd w ev e) (hk : Rd w kv k) (hc : w.cell? ⟨b, 0, none⟩ = some kv) :
    Calls Try.prog 17 #[.agg #[.int .u64 i, sv, ev, .int .u64 c, .int .u64 r, .slice pa pn pk], .pointer (some ⟨b, 0, none⟩)] w fun x w' => x = .returned (.bool (cov s e k)) ∧ Below w.heap.size w w' := by
  obtain ⟨sa, sc, rfl⟩ := hs.shp
  obtain ⟨ea, ec, rfl⟩ := he.shp
  obtain ⟨ka, kc, rfl⟩ := hk.shp
  have hB0 := g_al w (.cells #[.int .u64 i, .slice sa s.length sc, .slice ea e.length ec, .int .u64 c, .int .u64 r, .slice pa pn pk] 34)
  have hk0 : (w.alloc (.cells #[.int .u64 i, .slice sa s.length sc, .slice ea e.length ec, .int .u64 c, .int .u64 r, .slice pa pn pk] 34)).heap[w.heap.size]? = _ := heap_alloc_new w _
  have hc3 : (w.alloc (.cells #[.int .u64 i, .slice sa s.length sc, .slice ea e.length ec, .int .u64 c, .int .u64 r, .slice pa pn pk] 34)).cell? ⟨b, 0, none⟩ = some (.slice ka k.length kc) := by
    rw [hB0.cell (by have := World.block_lt_of_cell? w _ hc; exact this)]; exact hc
  have hcv := covers_any (i := i) (c := c) (r := r) (pa := pa) (pn := pn) (pk := pk) (hs.below hB0 (Nat.le_refl _)) (he.below hB0 (Nat.le_refl _)) (hk.below hB0 (Nat.le_refl _))
  obtain ⟨c0, c1, c2, c3, c4, c5, _⟩ := cells6 hk0
  clear hc hs he hk
  go_enter Try.func17, Try.ntmps17
  go_wp2_with fail
  refine hcv.mono ?_
  rintro x w1 ⟨rfl, hb1⟩
  go_wp2_with fail
  go_ret
  exact ⟨rfl, hB0.trans (hb1.mono hB0.size)⟩
/-- What Find answers, as a number. -/
def fdI (rs : List R3) (k : List UInt8) : Int := if fdF rs k < rs.length then (fdF rs k : Int) else -1
set_option maxHeartbeats 1000000 in
theorem indexR_any {v kv : Value} {rs : List R3} {k : List UInt8} {b : Nat} {w : World} (hr : RdRs w v rs) (hk : Rd w kv k) (hc : w.cell? ⟨b, 0, none⟩ = some kv) :
    Calls Try.prog 16 #[v, .func (.func 17) #[] #[.pointer (some ⟨b, 0, none⟩)]] w fun x w' => x = .returned (.int .i64 (fdI rs k)) ∧ Below w.heap.size w w' := by
  have HR : Hid (RdRs w v rs) := hr
  have HC : Hid (w.cell? ⟨b, 0, none⟩ = some kv ∧ Rd w kv k) := ⟨hc, hk⟩
  have hbl := World.block_lt_of_cell? w _ hc
  obtain ⟨ao, c, rfl, h1, h2, h4⟩ := hr
  unfold maxLen at h2
  clear h4 hc hk
  generalize hI : fdI rs k = I
  have HI : Hid _ := hI
  clear hI
  go_enter Try.func16, Try.ntmps16
  go_wp2_with fail
  go_loopw [5, 8] (fun _ i wr => ∃ j : Nat, j ≤ rs.length ∧ i = .int .i64 j ∧ Hid (fdF rs k = j + fdF (rs.drop j) k) ∧ Below w.heap.size w wr) (fun _ i _ => rs.length - (intOf i).toNat)
  case atStart => exact ⟨0, Nat.zero_le _, rfl, by show _ = _; simp, Below.refl _ _⟩
  case round =>
    obtain ⟨j, hj, rfl, HX, hb⟩ := hrel
    by_cases hlt : j < rs.length
    · have HT : Hid (rs.drop j = rs[j] :: rs.drop (j + 1)) := List.drop_eq_getElem_cons hlt
      obtain ⟨ao', c', e, _, _, h4⟩ := HR.out.below hb (Nat.le_refl _)
      simp only [Value.slice.injEq, true_and] at e
      obtain ⟨rfl, rfl⟩ := e
      obtain ⟨hit, a, rfl, hc⟩ := h4 j _ (List.getElem?_eq_getElem hlt)
      clear h4
      obtain ⟨c0, c1, c2, c3, c4, c5⟩ := hc.six
      have hcw : wr.cell? ⟨b, 0, none⟩ = some kv := by rw [hb.cell hbl]; exact HC.out.1
      have hkw := HC.out.2.below hb (Nat.le_refl _)
      clear hc
      generalize rs[j] = p at *
      obtain ⟨⟨p0, p1, p2, p3, p4, p5⟩, s, e⟩ := p
      obtain ⟨his, hie, hip⟩ := hit
      simp only [] at c0 c1 c2 c3 c4 c5 his hie hip
      obtain ⟨pa, pn, pk, rfl⟩ := hip
      have hon := find1_any (i := p0) (c := p3) (r := p4) (pa := pa) (pn := pn) (pk := pk) his hie hkw hcw
      obtain ⟨sa, sc, rfl⟩ := his.shp
      obtain ⟨ea, ec, rfl⟩ := hie.shp
      clear hcw hkw his hie
      cases hcv : cov s e k with
      | true =>
        rw [hcv] at hon
        have HE : Hid (I = (j : Int)) := by
          show _ = _
          rw [← HI.out]
          unfold fdI
          rw [HX.out, HT.out, fdF_cons]
          simp only [hcv, if_true, Nat.add_zero]
          rw [if_pos hlt]
        clear hcv
        go_wp2_with fail
        refine hon.mono ?_
        rintro x w1 ⟨rfl, hb1⟩
        go_wp2_with fail
        go_ret
        exact ⟨by rw [HE.out]; rfl, hb.trans (hb1.mono hb.size)⟩
      | false =>
        rw [hcv] at hon
        have HE : Hid (fdF rs k = (j + 1) + fdF (rs.drop (j + 1)) k) := by
          show _ = _
          rw [HX.out, HT.out, fdF_cons]
          simp only [hcv]
          simp
          omega
        clear hcv
        go_wp2_with fail
        refine hon.mono ?_
        rintro x w1 ⟨rfl, hb1⟩
        go_wp2_with fail
        exact ⟨⟨j + 1, by omega, by go_num, HE, hb.trans (hb1.mono hb.size)⟩, by simp [intOf]; omega⟩
    · obtain rfl : j = rs.length := by omega
      have HE : Hid (I = -1) := by
        show _ = _
        rw [← HI.out]
        unfold fdI
        rw [HX.out, if_neg (by omega)]
      go_wp2_with fail
      go_ret
      exact ⟨by rw [HE.out]; rfl, hb⟩
set_option maxHeartbeats 1000000 in
theorem find_any {v kv : Value} {rs : List R3} {k : List UInt8} {w : World} (hr : RdRs w v rs) (hk : Rd w kv k) :
    Calls Try.prog 6 #[v, kv] w fun x w' => x = .returned (.int .i64 (fdI rs k)) ∧ Below w.heap.size w w' := by
  obtain ⟨ka, kc, rfl⟩ := hk.shp
  have hB0 := g_al w (.cells #[.slice ka k.length kc] 24)
  have hc0 : (w.alloc (.cells #[.slice ka k.length kc] 24)).cell? ⟨w.heap.size, 0, none⟩ = some (.slice ka k.length kc) := by rw [World.cell?_alloc_at _ _ _ _ rfl]; rfl
  have hix := indexR_any (hr.below hB0 (Nat.le_refl _)) (hk.below hB0 (Nat.le_refl _)) hc0
  obtain ⟨ao, c, rfl, _⟩ := hr
  clear hk
  go_enter Try.func6, Try.ntmps6
  go_wp2_with fail
  refine hix.mono ?_
  rintro x w1 ⟨rfl, hb1⟩
  go_wp2_with fail
  go_ret
  exact ⟨rfl, hB0.trans (hb1.mono hB0.size)⟩
end Go.Proofs.Ytnapkomjegbhcaa
