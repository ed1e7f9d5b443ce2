/- RegionCodes's walk (tools/gencodes10.py). -/
import Derived.Test.YtnenfflkldpbgaaG8
import Derived.Test.YtnenfflkldpbgaaG7
import Derived.Test.YtnenfflkldpbgaaG3
import Derived.Deep.RegionHeld3
namespace Go.Proofs.Ytnenfflkldpbgaa
open Go.RowKit
set_option linter.unusedVariables false
set_option maxRecDepth 100000

set_option maxHeartbeats 8000000 in
theorem regionCodes_any {id cf vr id' cf' vr' : UInt64} {sv ev pv tv fv qv : Value} {s e t f : List UInt8} {ps qs : List Pe} {w : World} (hs : Rd w sv s) (he : Rd w ev e) (hp : RdPe w pv ps) (hla : s.length + e.length + ps.length ≤ 1048576) (ht : Rd w tv t) (hf : Rd w fv f) (hq : RdPe w qv qs) (hlb : t.length + f.length + qs.length ≤ 1048576) (n : Nat) (hn : n ≤ 255) :
    Calls Try.prog 3 #[.agg #[.int .u64 (id.toNat : Int), sv, ev, .int .u64 (cf.toNat : Int), .int .u64 (vr.toNat : Int), pv], .agg #[.int .u64 (id'.toNat : Int), tv, fv, .int .u64 (cf'.toNat : Int), .int .u64 (vr'.toNat : Int), qv], .int .u8 n] w fun x w' => x = .returned (.bool true) ∧ Below w.heap.size w w' := by
  have HRS : Hid (Rd w sv s ∧ Rd w ev e ∧ RdPe w pv ps ∧ Rd w tv t ∧ Rd w fv f ∧ RdPe w qv qs) := ⟨hs, he, hp, ht, hf, hq⟩
  obtain ⟨sa, sc, rfl⟩ := hs.shp
  obtain ⟨ea, ec, rfl⟩ := he.shp
  obtain ⟨ta, tc, rfl⟩ := ht.shp
  obtain ⟨fa, fc, rfl⟩ := hf.shp
  obtain ⟨pa, pk, rfl, hp1, hp2⟩ := hp.shape
  obtain ⟨qa, qk, rfl, hq1, hq2⟩ := hq.shape
  clear hs he ht hf hp hq
  have hb0 : Below w.heap.size w ((w.alloc (.cells #[.int .u64 (id.toNat : Int), .slice sa s.length sc, .slice ea e.length ec, .int .u64 (cf.toNat : Int), .int .u64 (vr.toNat : Int), .slice pa ps.length pk] 28)).alloc (.cells #[.int .u64 (id'.toNat : Int), .slice ta t.length tc, .slice fa f.length fc, .int .u64 (cf'.toNat : Int), .int .u64 (vr'.toNat : Int), .slice qa qs.length qk] 28)) := (g_al w _).alloc (by simp) _
  have hl0 : ((w.alloc (.cells #[.int .u64 (id.toNat : Int), .slice sa s.length sc, .slice ea e.length ec, .int .u64 (cf.toNat : Int), .int .u64 (vr.toNat : Int), .slice pa ps.length pk] 28)).alloc (.cells #[.int .u64 (id'.toNat : Int), .slice ta t.length tc, .slice fa f.length fc, .int .u64 (cf'.toNat : Int), .int .u64 (vr'.toNat : Int), .slice qa qs.length qk] 28)).heap[w.heap.size]? = some (.cells #[.int .u64 (id.toNat : Int), .slice sa s.length sc, .slice ea e.length ec, .int .u64 (cf.toNat : Int), .int .u64 (vr.toNat : Int), .slice pa ps.length pk] 28 (0, 0)) := (Below.heap_alloc _ _ _ (by simp)).trans (heap_alloc_new w _)
  have hh0 : ((w.alloc (.cells #[.int .u64 (id.toNat : Int), .slice sa s.length sc, .slice ea e.length ec, .int .u64 (cf.toNat : Int), .int .u64 (vr.toNat : Int), .slice pa ps.length pk] 28)).alloc (.cells #[.int .u64 (id'.toNat : Int), .slice ta t.length tc, .slice fa f.length fc, .int .u64 (cf'.toNat : Int), .int .u64 (vr'.toNat : Int), .slice qa qs.length qk] 28)).heap[w.heap.size + 1]? = some (.cells #[.int .u64 (id'.toNat : Int), .slice ta t.length tc, .slice fa f.length fc, .int .u64 (cf'.toNat : Int), .int .u64 (vr'.toNat : Int), .slice qa qs.length qk] 28 (0, 0)) := by
    have := heap_alloc_new (w.alloc (.cells #[.int .u64 (id.toNat : Int), .slice sa s.length sc, .slice ea e.length ec, .int .u64 (cf.toNat : Int), .int .u64 (vr.toNat : Int), .slice pa ps.length pk] 28)) (.cells #[.int .u64 (id'.toNat : Int), .slice ta t.length tc, .slice fa f.length fc, .int .u64 (cf'.toNat : Int), .int .u64 (vr'.toNat : Int), .slice qa qs.length qk] 28)
    rw [World.size_alloc] at this
    exact this
  go_enter Try.func3, Try.ntmps3
  go_wp2_with fail
  generalize ((w.alloc (.cells #[.int .u64 (id.toNat : Int), .slice sa s.length sc, .slice ea e.length ec, .int .u64 (cf.toNat : Int), .int .u64 (vr.toNat : Int), .slice pa ps.length pk] 28)).alloc (.cells #[.int .u64 (id'.toNat : Int), .slice ta t.length tc, .slice fa f.length fc, .int .u64 (cf'.toNat : Int), .int .u64 (vr'.toNat : Int), .slice qa qs.length qk] 28)) = W0 at *
  refine (awake_any W0).mono ?_
  rintro x W1 ⟨rfl, hbW⟩
  have hW1 : Below w.heap.size w W1 := hb0.trans (hbW.mono hb0.size)
  have hx1 := (hbW.block _ (lt_of_some hl0)).trans hl0
  have hy1 := (hbW.block _ (lt_of_some hh0)).trans hh0
  clear hl0 hh0 hb0 hbW
  have HK : Hid (∀ W, Below W1.heap.size W1 W → W.heap[w.heap.size]? = some (.cells #[.int .u64 (id.toNat : Int), .slice sa s.length sc, .slice ea e.length ec, .int .u64 (cf.toNat : Int), .int .u64 (vr.toNat : Int), .slice pa ps.length pk] 28 (0, 0)) ∧ W.heap[w.heap.size + 1]? = some (.cells #[.int .u64 (id'.toNat : Int), .slice ta t.length tc, .slice fa f.length fc, .int .u64 (cf'.toNat : Int), .int .u64 (vr'.toNat : Int), .slice qa qs.length qk] 28 (0, 0))) := fun W hW => ⟨(hW.block _ (lt_of_some hx1)).trans hx1, (hW.block _ (lt_of_some hy1)).trans hy1⟩
  clear hx1 hy1
  go_wp2_with fail
  go_loopw [7] (fun i wr => ∃ k : Nat, k ≤ ps.length ∧ i = .int .i64 k ∧ Hid (∀ p ∈ ps.take k, okPe p) ∧ Below W1.heap.size W1 wr) (fun i _ => ps.length - (intOf i).toNat)
  case atStart => exact ⟨0, Nat.zero_le _, rfl, (fun p hp => by simp at hp), Below.refl _ _⟩
  case round =>
    obtain ⟨k, hk, rfl, HA, hb⟩ := hrel
    obtain ⟨hx, hy⟩ := HK.out wr hb
    obtain ⟨_, _, _, _, _, c5, _⟩ := cells6 hx
    by_cases hlt : k < ps.length
    · have hpe := HRS.out.2.2.1.below (hW1.trans (hb.mono hW1.size)) (Nat.le_refl _)
      obtain ⟨ao', c', e1, _, _, _, h4⟩ := hpe
      simp only [Value.slice.injEq, true_and] at e1
      obtain ⟨rfl, rfl⟩ := e1
      obtain ⟨a, rfl, q0, q1, q2⟩ := h4 k _ (List.getElem?_eq_getElem hlt)
      have HT : Hid (∀ p ∈ ps.take (k + 1), p ∈ ps.take k ∨ p = ps[k]) := fun p hp => by
        rw [List.take_succ_eq_append_getElem hlt] at hp
        rcases List.mem_append.1 hp with q | q
        · exact .inl q
        · exact .inr (List.mem_singleton.1 q)
      clear h4 q0 q2
      generalize ps[k] = p at *
      obtain ⟨p0, p1, p2⟩ := p
      simp only [] at q1
      have hkl : (k : Int) < (ps.length : Int) := by omega
      by_cases h0 : p1 < 0
      · go_wp2_with fail
        go_ret
        exact ⟨rfl, hW1.trans (hb.mono hW1.size)⟩
      · by_cases h1 : 2147483648 ≤ p1
        · have h0' : 0 ≤ p1 := by omega
          go_wp2_with fail
          go_ret
          exact ⟨rfl, hW1.trans (hb.mono hW1.size)⟩
        · have h0' : 0 ≤ p1 := by omega
          have h1' : p1 < 2147483648 := by omega
          go_wp2_with fail
          refine ⟨⟨k + 1, by omega, by go_num, fun p hp => ?_, hb⟩, by simp [intOf]; omega⟩
          rcases HT.out p hp with q | rfl
          · exact HA.out p q
          · exact ⟨h0', h1'⟩
    · obtain rfl : k = ps.length := by omega
      have HOKA : Hid (∀ p ∈ ps, okPe p) := fun p hp => HA.out p (by rw [List.take_of_length_le (Nat.le_refl _)]; exact hp)
      clear HA
      obtain ⟨wA, hwA⟩ : ∃ wA, wA = wr := ⟨wr, rfl⟩
      subst hwA
      go_wp2_with fail
      go_loopw [8] (fun i wr => ∃ k : Nat, k ≤ qs.length ∧ i = .int .i64 k ∧ Hid (∀ p ∈ qs.take k, okPe p) ∧ Below W1.heap.size W1 wr) (fun i _ => qs.length - (intOf i).toNat)
      case atStart => exact ⟨0, Nat.zero_le _, rfl, (fun p hp => by simp at hp), hb⟩
      case round =>
        obtain ⟨k, hk, rfl, HA, hb⟩ := hrel
        obtain ⟨hx, hy⟩ := HK.out wr hb
        obtain ⟨_, _, _, _, _, c5, _⟩ := cells6 hy
        by_cases hlt : k < qs.length
        · have hpe := HRS.out.2.2.2.2.2.below (hW1.trans (hb.mono hW1.size)) (Nat.le_refl _)
          obtain ⟨ao', c', e1, _, _, _, h4⟩ := hpe
          simp only [Value.slice.injEq, true_and] at e1
          obtain ⟨rfl, rfl⟩ := e1
          obtain ⟨a, rfl, q0, q1, q2⟩ := h4 k _ (List.getElem?_eq_getElem hlt)
          have HT : Hid (∀ p ∈ qs.take (k + 1), p ∈ qs.take k ∨ p = qs[k]) := fun p hp => by
            rw [List.take_succ_eq_append_getElem hlt] at hp
            rcases List.mem_append.1 hp with q | q
            · exact .inl q
            · exact .inr (List.mem_singleton.1 q)
          clear h4 q0 q2
          generalize qs[k] = p at *
          obtain ⟨p0, p1, p2⟩ := p
          simp only [] at q1
          have hkl : (k : Int) < (qs.length : Int) := by omega
          by_cases h0 : p1 < 0
          · go_wp2_with fail
            go_ret
            exact ⟨rfl, hW1.trans (hb.mono hW1.size)⟩
          · by_cases h1 : 2147483648 ≤ p1
            · have h0' : 0 ≤ p1 := by omega
              go_wp2_with fail
              go_ret
              exact ⟨rfl, hW1.trans (hb.mono hW1.size)⟩
            · have h0' : 0 ≤ p1 := by omega
              have h1' : p1 < 2147483648 := by omega
              go_wp2_with fail
              refine ⟨⟨k + 1, by omega, by go_num, fun p hp => ?_, hb⟩, by simp [intOf]; omega⟩
              rcases HT.out p hp with q | rfl
              · exact HA.out p q
              · exact ⟨h0', h1'⟩
        · obtain rfl : k = qs.length := by omega
          have HOKB : Hid (∀ p ∈ qs, okPe p) := fun p hp => HA.out p (by rw [List.take_of_length_le (Nat.le_refl _)]; exact hp)
          clear HA
          obtain ⟨w1, hwA⟩ : ∃ wA, wA = wr := ⟨wr, rfl⟩
          subst hwA
          have hb1 := hb
          clear hb c5 hx hy
          have HEI : Hid (decide (rnc (id, s, e, cf, vr, ps) = rnc (id', t, f, cf', vr', qs)) = decide (id = id' ∧ s = t ∧ e = f ∧ cf = cf' ∧ vr = vr' ∧ ps = qs)) := rnc_dec (rnc_inj _ _ (by simp only []; omega) (by simp only []; omega) (by simp only []; omega) HOKA.out (by simp only []; omega) (by simp only []; omega) (by simp only []; omega) HOKB.out)
          have HDM : Hid (rdc (rnc (id, s, e, cf, vr, ps) ++ [UInt8.ofNat n]) = none) := rdc_more _ _ (by simp only []; omega) (by simp only []; omega) (by simp only []; omega)
          have HDL : Hid (rdc ((rnc (id, s, e, cf, vr, ps)).take ((rnc (id, s, e, cf, vr, ps)).length - 1)) = none) := rdc_less _ (by simp only []; omega) (by simp only []; omega) (by simp only []; omega)
          have HDB : Hid (rdc (rnc (id, s, e, cf, vr, ps)) = some (id, s, e, cf, vr, ps)) := rdc_back _ (by simp only []; omega) (by simp only []; omega) (by simp only []; omega) HOKA.out
          have hel : (rnc (id, s, e, cf, vr, ps)).length ≤ 100000000 := by have := rnc_len2 (id, s, e, cf, vr, ps); simp only [] at this; omega
          have hpos := rnc_pos (id, s, e, cf, vr, ps)
          have HRA : Hid (∀ W, Below W1.heap.size W1 W → Rd W (.slice sa s.length sc) s ∧ Rd W (.slice ea e.length ec) e ∧ RdPe W (.slice pa ps.length pk) ps) := fun W hW => by
            have hb : Below w.heap.size w W := hW1.trans (hW.mono hW1.size)
            exact ⟨HRS.out.1.below hb (Nat.le_refl _), HRS.out.2.1.below hb (Nat.le_refl _), HRS.out.2.2.1.below hb (Nat.le_refl _)⟩
          have HRB : Hid (∀ W, Below W1.heap.size W1 W → Rd W (.slice ta t.length tc) t ∧ Rd W (.slice fa f.length fc) f ∧ RdPe W (.slice qa qs.length qk) qs) := fun W hW => by
            have hb : Below w.heap.size w W := hW1.trans (hW.mono hW1.size)
            exact ⟨HRS.out.2.2.2.1.below hb (Nat.le_refl _), HRS.out.2.2.2.2.1.below hb (Nat.le_refl _), HRS.out.2.2.2.2.2.below hb (Nat.le_refl _)⟩
          have hE1 : ∀ W, Below W1.heap.size W1 W → Calls Try.prog 10 #[.agg #[.int .u64 (id.toNat : Int), .slice sa s.length sc, .slice ea e.length ec, .int .u64 (cf.toNat : Int), .int .u64 (vr.toNat : Int), .slice pa ps.length pk]] W fun e1 w' => ∃ v', e1 = .returned v' ∧ Ow W1.heap.size w' v' (rnc (id, s, e, cf, vr, ps)) ∧ Below W1.heap.size W1 w' := fun W hW => (encR_any (HRA.out W hW).1 (HRA.out W hW).2.1 (HRA.out W hW).2.2 HOKA.out (by omega) (by omega) (by omega)).mono (by
            rintro e1 w' ⟨v', rfl, q1, q2⟩
            exact ⟨v', rfl, q1.mono hW.size, hW.trans (q2.mono hW.size)⟩)
          have hE2 : ∀ W, Below W1.heap.size W1 W → Calls Try.prog 10 #[.agg #[.int .u64 (id'.toNat : Int), .slice ta t.length tc, .slice fa f.length fc, .int .u64 (cf'.toNat : Int), .int .u64 (vr'.toNat : Int), .slice qa qs.length qk]] W fun e1 w' => ∃ v', e1 = .returned v' ∧ Ow W.heap.size w' v' (rnc (id', t, f, cf', vr', qs)) ∧ Below W.heap.size W w' := fun W hW => encR_any (HRB.out W hW).1 (HRB.out W hW).2.1 (HRB.out W hW).2.2 HOKB.out (by omega) (by omega) (by omega)
          generalize hra : rnc (id, s, e, cf, vr, ps) = ra at *
          generalize hrb : rnc (id', t, f, cf', vr', qs) = rb at *
          clear hra hrb
          obtain ⟨hx, hy⟩ := HK.out w1 hb1
          obtain ⟨c0, c1, c2, c3, c4, c5, _⟩ := cells6 hx
          obtain ⟨d0, d1, d2, d3, d4, d5, _⟩ := cells6 hy
          clear hx hy
          go_wp2_with fail
          go_region_held3 (fun w' => (w'.cell? ⟨w.heap.size, 0, none⟩ = some (.int .u64 (id.toNat : Int)) ∧ w'.cell? ⟨w.heap.size, 1, none⟩ = some (.slice sa s.length sc) ∧ w'.cell? ⟨w.heap.size, 2, none⟩ = some (.slice ea e.length ec) ∧ w'.cell? ⟨w.heap.size, 3, none⟩ = some (.int .u64 (cf.toNat : Int)) ∧ w'.cell? ⟨w.heap.size, 4, none⟩ = some (.int .u64 (vr.toNat : Int)) ∧ w'.cell? ⟨w.heap.size, 5, none⟩ = some (.slice pa ps.length pk)) ∧ w'.cell? ⟨w.heap.size + 1, 0, none⟩ = some (.int .u64 (id'.toNat : Int)) ∧ w'.cell? ⟨w.heap.size + 1, 1, none⟩ = some (.slice ta t.length tc) ∧ w'.cell? ⟨w.heap.size + 1, 2, none⟩ = some (.slice fa f.length fc) ∧ w'.cell? ⟨w.heap.size + 1, 3, none⟩ = some (.int .u64 (cf'.toNat : Int)) ∧ w'.cell? ⟨w.heap.size + 1, 4, none⟩ = some (.int .u64 (vr'.toNat : Int)) ∧ w'.cell? ⟨w.heap.size + 1, 5, none⟩ = some (.slice qa qs.length qk)) (go_keep) (first
            | (go_at_call 10; refine (hE2 w2 hb2).mono ?_; rintro e1 w3 ⟨v3, rfl, ho3, hb3⟩; obtain ⟨a3, e3, rfl⟩ := ho3.shape; have hb03 := hb2.trans (hb3.mono hb2.size); obtain ⟨t0, t1, t2, t3, t4, t5, _⟩ := cells6 (HK.out w3 hb03).1; obtain ⟨u0, u1, u2, u3, u4, u5, _⟩ := cells6 (HK.out w3 hb03).2)
            | (go_at_call 10; refine (hE1 _ (Below.drN hb1 1)).mono ?_; rintro e1 w2 ⟨v2, rfl, ho2, hb2⟩; obtain ⟨a2, e2, rfl⟩ := ho2.shape; obtain ⟨s0, s1, s2, s3, s4, s5, _⟩ := cells6 (HK.out w2 hb2).1; obtain ⟨r0, r1, r2, r3, r4, r5, _⟩ := cells6 (HK.out w2 hb2).2)
            | fail)
          have hs1 := hb2.size
          have hs3 := hb03.size
          have HX : Hid (∀ W, Below w3.heap.size w3 W → Rd W (.slice a2 ra.length e2) ra) := fun W hW => (ho2.below (hb3.trans (hW.mono hb3.size)) (Nat.le_refl _)).rd
          have HY : Hid (∀ W, Below w3.heap.size w3 W → Rd W (.slice a3 rb.length e3) rb) := fun W hW => (ho3.below hW (Nat.le_refl _)).rd
          have hqs : ∀ W, Below w3.heap.size w3 W → Calls Try.prog 11 #[.slice a2 ra.length e2, .slice a3 rb.length e3] W fun e1 w' => e1 = .returned (.bool (decide (id = id' ∧ s = t ∧ e = f ∧ cf = cf' ∧ vr = vr' ∧ ps = qs))) ∧ Below w3.heap.size w3 w' := fun W hW => (same_any (HX.out W hW) (HY.out W hW)).mono (by
            rintro e1 w' ⟨rfl, n1, rfl⟩
            rw [HEI.out]
            exact ⟨rfl, Below.drN hW n1⟩)
          have HK3 : Hid (∀ W, Below w3.heap.size w3 W → Below W1.heap.size W1 W) := fun W hW => hb03.trans (hW.mono hs3)
          have hqc : ∀ W, Below w3.heap.size w3 W → Calls Try.prog 12 #[.agg #[.int .u64 (id.toNat : Int), .slice sa s.length sc, .slice ea e.length ec, .int .u64 (cf.toNat : Int), .int .u64 (vr.toNat : Int), .slice pa ps.length pk], .agg #[.int .u64 (id'.toNat : Int), .slice ta t.length tc, .slice fa f.length fc, .int .u64 (cf'.toNat : Int), .int .u64 (vr'.toNat : Int), .slice qa qs.length qk]] W fun e1 w' => e1 = .returned (.bool (decide (id = id' ∧ s = t ∧ e = f ∧ cf = cf' ∧ vr = vr' ∧ ps = qs))) ∧ Below w3.heap.size w3 w' := fun W hW => (sameRegion_any (HRA.out W (HK3.out W hW)).1 (HRA.out W (HK3.out W hW)).2.1 (HRA.out W (HK3.out W hW)).2.2 (HRB.out W (HK3.out W hW)).1 (HRB.out W (HK3.out W hW)).2.1 (HRB.out W (HK3.out W hW)).2.2).mono (by
            rintro e1 w' ⟨rfl, hb⟩
            exact ⟨rfl, hW.trans (hb.mono hW.size)⟩)
          clear hE1 hE2 ho2 ho3 hb2 hb3 c0 c1 c2 c3 c4 c5 d0 d1 d2 d3 d4 d5 s0 s1 s2 s3 s4 s5 r0 r1 r2 r3 r4 r5
          generalize decide (id = id' ∧ s = t ∧ e = f ∧ cf = cf' ∧ vr = vr' ∧ ps = qs) = R at *
          have hRR : (R != R) = false := by simp
          go_wp2_with fail
          go_region_held3 (fun w' => (w'.cell? ⟨w.heap.size, 0, none⟩ = some (.int .u64 (id.toNat : Int)) ∧ w'.cell? ⟨w.heap.size, 1, none⟩ = some (.slice sa s.length sc) ∧ w'.cell? ⟨w.heap.size, 2, none⟩ = some (.slice ea e.length ec) ∧ w'.cell? ⟨w.heap.size, 3, none⟩ = some (.int .u64 (cf.toNat : Int)) ∧ w'.cell? ⟨w.heap.size, 4, none⟩ = some (.int .u64 (vr.toNat : Int)) ∧ w'.cell? ⟨w.heap.size, 5, none⟩ = some (.slice pa ps.length pk)) ∧ w'.cell? ⟨w.heap.size + 1, 0, none⟩ = some (.int .u64 (id'.toNat : Int)) ∧ w'.cell? ⟨w.heap.size + 1, 1, none⟩ = some (.slice ta t.length tc) ∧ w'.cell? ⟨w.heap.size + 1, 2, none⟩ = some (.slice fa f.length fc) ∧ w'.cell? ⟨w.heap.size + 1, 3, none⟩ = some (.int .u64 (cf'.toNat : Int)) ∧ w'.cell? ⟨w.heap.size + 1, 4, none⟩ = some (.int .u64 (vr'.toNat : Int)) ∧ w'.cell? ⟨w.heap.size + 1, 5, none⟩ = some (.slice qa qs.length qk)) (go_keep) (first
            | (go_at_call 12; refine (hqc w4 hb4).mono ?_; rintro e1 w5 ⟨rfl, hb5⟩; obtain ⟨t0', t1', t2', t3', t4', t5', _⟩ := cells6 (HK.out w5 (HK3.out w5 hb5)).1; obtain ⟨u0', u1', u2', u3', u4', u5', _⟩ := cells6 (HK.out w5 (HK3.out w5 hb5)).2)
            | (go_at_call 11; refine (hqs _ (u_drew w3)).mono ?_; rintro e1 w4 ⟨rfl, hb4⟩; obtain ⟨s0, s1, s2, s3, s4, s5, _⟩ := cells6 (HK.out w4 (HK3.out w4 hb4)).1; obtain ⟨r0, r1, r2, r3, r4, r5, _⟩ := cells6 (HK.out w4 (HK3.out w4 hb4)).2)
            | fail)
          clear t0 t1 t2 t3 t4 t5 u0 u1 u2 u3 u4 u5 s0 s1 s2 s3 s4 s5 r0 r1 r2 r3 r4 r5 t0' t1' t2' t3' t4' t5' u0' u1' u2' u3' u4' u5' hqs hqc
          go_wp2_with fail
          have hs5 := hb5.size
          refine (lcopy_any (HX.out w5 hb5) (by omega)).mono ?_
          rintro e1 w6 ⟨v6, rfl, ho6, hb6⟩
          obtain ⟨a6, e6, rfl⟩ := ho6.shape
          have hs6 := hb6.size
          have ho6' : Ow w5.heap.size (w6.alloc (.cells #[.int .u8 n] 5)) (.slice a6 ra.length e6) ra := ho6.alloc _
          have hr6 : Rd (w6.alloc (.cells #[.int .u8 n] 5)) (.slice (some ⟨w6.heap.size, 0, none⟩) 1 1) [UInt8.ofNat n] := rd_one w6 _ _ (by rw [UInt8.toNat_ofNat']; omega) _
          go_wp2_with (first | (at_builtin; refine wpList_app rfl _ _ rfl w5.heap.size _ ra rfl ho6' _ [UInt8.ofNat n] rfl hr6 ?k1 ?k2 ?_; rotate_right; intro v7 w7 ho7 hb7 hg7) | fail)
          case k1 => simp; omega
          case k2 => simp; omega
          have hb57 : Below w5.heap.size w5 w7 := (hb6.trans ((Below.refl _ w6).alloc hs6 _)).trans hb7
          have hl7 : (ra ++ [UInt8.ofNat n]).length ≤ 1099511627776 := by simp; omega
          obtain ⟨a7, e7, rfl⟩ := ho7.shape
          have hD1 := decR_any ho7.rd hl7
          rw [HDM.out] at hD1
          simp only [Option.getD_none, Option.isSome_none] at hD1
          clear ho6' hr6 ho6 hg7
          refine hD1.mono ?_
          rintro e1 w8 ⟨x8, y8, z8, rfl, hx8, hy8, hz8, hb8⟩
          have hb37 : Below w3.heap.size w3 w7 := hb5.trans (hb57.mono hs5)
          have hb38 : Below w3.heap.size w3 w8 := hb37.trans (hb8.mono hb37.size)
          obtain ⟨g1, f1, rfl⟩ := hx8.shp
          obtain ⟨g2, f2, rfl⟩ := hy8.shp
          obtain ⟨g3, f3, rfl, _⟩ := hz8.shape
          clear hD1 ho7 hx8 hy8 hz8
          simp only [noRg, List.length_nil]
          have hA8 : ∀ o, Below w3.heap.size w3 (w8.alloc o) := fun o => hb38.alloc hb38.size o
          have HA8 : Hid _ := hA8
          clear hA8
          have hrx := HX.out w8 hb38
          obtain ⟨xo, xc, ex, x1, x2, _⟩ := hrx
          simp only [Value.slice.injEq, true_and] at ex
          obtain ⟨rfl, rfl⟩ := ex
          unfold maxLen at x2
          have hm1 : IntKind.i64.wrap ((ra.length : Int) - 1) = ((ra.length - 1 : Nat) : Int) := by rw [IntKind.wrap_i64]; omega
          have hm2 : (ra.length : Int) - 1 = ((ra.length - 1 : Nat) : Int) := by omega
          go_wp2_with fail
          have hp8 := (HX.out _ (HA8.out (.cells #[.int .u64 0, .slice g1 0 f1, .slice g2 0 f2, .int .u64 0, .int .u64 0, .slice g3 0 f3] 28))).pre (ra.length - 1) (by omega)
          have hD2 := decR_any hp8 (by rw [List.length_take]; omega)
          rw [HDL.out] at hD2
          simp only [Option.getD_none, Option.isSome_none] at hD2
          have hbA8 := HA8.out (.cells #[.int .u64 0, .slice g1 0 f1, .slice g2 0 f2, .int .u64 0, .int .u64 0, .slice g3 0 f3] 28)
          generalize (w8.alloc (.cells #[.int .u64 0, .slice g1 0 f1, .slice g2 0 f2, .int .u64 0, .int .u64 0, .slice g3 0 f3] 28)) = w9 at *
          clear HA8 hp8
          refine hD2.mono ?_
          rintro e1 w10 ⟨x10, y10, z10, rfl, hx10, hy10, hz10, hb10⟩
          have hb310 : Below w3.heap.size w3 w10 := hbA8.trans (hb10.mono hbA8.size)
          obtain ⟨g4, f4, rfl⟩ := hx10.shp
          obtain ⟨g5, f5, rfl⟩ := hy10.shp
          obtain ⟨g6, f6, rfl, _⟩ := hz10.shape
          clear hD2 hx10 hy10 hz10
          simp only [noRg, List.length_nil]
          have hbA10 : Below w3.heap.size w3 (w10.alloc (.cells #[.int .u64 0, .slice g4 0 f4, .slice g5 0 f5, .int .u64 0, .int .u64 0, .slice g6 0 f6] 28)) := hb310.alloc hb310.size _
          go_wp2_with fail
          have hD3 := decR_any (HX.out (w10.alloc (.cells #[.int .u64 0, .slice g4 0 f4, .slice g5 0 f5, .int .u64 0, .int .u64 0, .slice g6 0 f6] 28)) hbA10) (by omega)
          rw [HDB.out] at hD3
          simp only [Option.getD_some, Option.isSome_some] at hD3
          generalize (w10.alloc (.cells #[.int .u64 0, .slice g4 0 f4, .slice g5 0 f5, .int .u64 0, .int .u64 0, .slice g6 0 f6] 28)) = w11 at *
          refine hD3.mono ?_
          rintro e1 w12 ⟨x12, y12, z12, rfl, hx12, hy12, hz12, hb12⟩
          have hb312 : Below w3.heap.size w3 w12 := hbA10.trans (hb12.mono hbA10.size)
          have HZ : Hid (Rd w12 x12 s ∧ Rd w12 y12 e ∧ RdPe w12 z12 ps) := ⟨hx12, hy12, hz12⟩
          obtain ⟨g7, f7, rfl⟩ := hx12.shp
          obtain ⟨g8, f8, rfl⟩ := hy12.shp
          obtain ⟨g9, f9, rfl, _⟩ := hz12.shape
          clear hD3 hx12 hy12 hz12
          have hal := g_al w12 (.cells #[.int .u64 (id.toNat : Int), .slice g7 s.length f7, .slice g8 e.length f8, .int .u64 (cf.toNat : Int), .int .u64 (vr.toNat : Int), .slice g9 ps.length f9] 28)
          have hb313 : Below w3.heap.size w3 (w12.alloc (.cells #[.int .u64 (id.toNat : Int), .slice g7 s.length f7, .slice g8 e.length f8, .int .u64 (cf.toNat : Int), .int .u64 (vr.toNat : Int), .slice g9 ps.length f9] 28)) := hb312.trans (hal.mono hb312.size)
          have hk13 : (w12.alloc (.cells #[.int .u64 (id.toNat : Int), .slice g7 s.length f7, .slice g8 e.length f8, .int .u64 (cf.toNat : Int), .int .u64 (vr.toNat : Int), .slice g9 ps.length f9] 28)).heap[w12.heap.size]? = _ := heap_alloc_new w12 _
          obtain ⟨m0, m1, m2, m3, m4, m5, _⟩ := cells6 hk13
          obtain ⟨c0, c1, c2, c3, c4, c5, _⟩ := cells6 (HK.out _ (HK3.out _ hb313)).1
          go_wp2_with fail
          have hsr := HRA.out _ (HK3.out _ hb313)
          refine (sameRegion_any (HZ.out.1.below hal (Nat.le_refl _)) (HZ.out.2.1.below hal (Nat.le_refl _)) (HZ.out.2.2.below hal (Nat.le_refl _)) hsr.1 hsr.2.1 hsr.2.2).mono ?_
          rintro e1 w14 ⟨rfl, hb14⟩
          go_wp2_with fail
          go_ret
          have hbz : Below W1.heap.size W1 w14 := HK3.out _ (hb313.trans (hb14.mono hb313.size))
          exact ⟨by simp, hW1.trans (hbz.mono hW1.size)⟩
end Go.Proofs.Ytnenfflkldpbgaa
