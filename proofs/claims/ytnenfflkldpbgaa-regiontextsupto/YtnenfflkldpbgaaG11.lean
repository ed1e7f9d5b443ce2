/- RegionTexts's walk (tools/gentexts10.py). -/
import Derived.Test.YtnenfflkldpbgaaG10
import Derived.Test.YtnenfflkldpbgaaG8
import Derived.Test.YtnenfflkldpbgaaG9
import Derived.Test.YtnenfflkldpbgaaG3
namespace Go.Proofs.Ytnenfflkldpbgaa
open Go.RowKit
set_option linter.unusedVariables false
set_option maxRecDepth 100000

set_option maxHeartbeats 8000000 in
theorem regionTexts_any {id cf vr : UInt64} {sv ev pv bv : Value} {s e b : List UInt8} {ps : List Pe} {w : World} (hs : Rd w sv s) (he : Rd w ev e) (hp : RdPe w pv ps) (hla : s.length + e.length + ps.length ≤ 1048576) (hbv : Rd w bv b) (hlb : b.length ≤ 1048576) :
    Calls Try.prog 5 #[.agg #[.int .u64 (id.toNat : Int), sv, ev, .int .u64 (cf.toNat : Int), .int .u64 (vr.toNat : Int), pv], bv] w fun x w' => x = .returned (.bool true) ∧ Below w.heap.size w w' := by
  have HRS : Hid (Rd w sv s ∧ Rd w ev e ∧ RdPe w pv ps ∧ Rd w bv b) := ⟨hs, he, hp, hbv⟩
  obtain ⟨sa, sc, rfl⟩ := hs.shp
  obtain ⟨ea, ec, rfl⟩ := he.shp
  obtain ⟨ba, bc, rfl⟩ := hbv.shp
  obtain ⟨pa, pk, rfl, hp1, hp2⟩ := hp.shape
  clear hs he hp hbv
  have hb0 : Below w.heap.size w (w.alloc (.cells #[.int .u64 (id.toNat : Int), .slice sa s.length sc, .slice ea e.length ec, .int .u64 (cf.toNat : Int), .int .u64 (vr.toNat : Int), .slice pa ps.length pk] 28)) := g_al w _
  have hl0 : (w.alloc (.cells #[.int .u64 (id.toNat : Int), .slice sa s.length sc, .slice ea e.length ec, .int .u64 (cf.toNat : Int), .int .u64 (vr.toNat : Int), .slice pa ps.length pk] 28)).heap[w.heap.size]? = some (.cells #[.int .u64 (id.toNat : Int), .slice sa s.length sc, .slice ea e.length ec, .int .u64 (cf.toNat : Int), .int .u64 (vr.toNat : Int), .slice pa ps.length pk] 28 (0, 0)) := heap_alloc_new w _
  go_enter Try.func5, Try.ntmps5
  go_wp2_with fail
  generalize (w.alloc (.cells #[.int .u64 (id.toNat : Int), .slice sa s.length sc, .slice ea e.length ec, .int .u64 (cf.toNat : Int), .int .u64 (vr.toNat : Int), .slice pa ps.length pk] 28)) = W0 at *
  refine (awake_any W0).mono ?_
  rintro x W1 ⟨rfl, hbW⟩
  have hW1 : Below w.heap.size w W1 := hb0.trans (hbW.mono hb0.size)
  have hx1 := (hbW.block _ (lt_of_some hl0)).trans hl0
  clear hl0 hb0 hbW
  have HK : Hid (∀ W, Below W1.heap.size W1 W → W.heap[w.heap.size]? = some (.cells #[.int .u64 (id.toNat : Int), .slice sa s.length sc, .slice ea e.length ec, .int .u64 (cf.toNat : Int), .int .u64 (vr.toNat : Int), .slice pa ps.length pk] 28 (0, 0))) := fun W hW => (hW.block _ (lt_of_some hx1)).trans hx1
  have HRA : Hid (∀ W, Below W1.heap.size W1 W → Rd W (.slice sa s.length sc) s ∧ Rd W (.slice ea e.length ec) e ∧ RdPe W (.slice pa ps.length pk) ps ∧ Rd W (.slice ba b.length bc) b) := fun W hW => by
    have hb : Below w.heap.size w W := hW1.trans (hW.mono hW1.size)
    exact ⟨HRS.out.1.below hb (Nat.le_refl _), HRS.out.2.1.below hb (Nat.le_refl _), HRS.out.2.2.1.below hb (Nat.le_refl _), HRS.out.2.2.2.below hb (Nat.le_refl _)⟩
  clear hx1
  go_wp2_with fail
  refine (lcopy_any (HRA.out W1 (Below.refl _ _)).2.2.2 (by omega)).mono ?_
  rintro x w2 ⟨v2, rfl, ho2, hb2⟩
  have hD1 := decR_any ho2.rd (by omega)
  obtain ⟨a2, d2, rfl⟩ := ho2.shape
  have HD2 : Hid (∀ W, Rd W (.slice ba b.length bc) b → Calls Try.prog 30 #[.slice ba b.length bc] W fun x w' => ∃ sv ev pv, x = .returned (.tuple #[.agg #[.int .u64 (((rdc b).getD noRg).1.toNat : Int), sv, ev, .int .u64 (((rdc b).getD noRg).2.2.2.1.toNat : Int), .int .u64 (((rdc b).getD noRg).2.2.2.2.1.toNat : Int), pv], .int .i64 (if (rdc b).isSome then 0 else 12)]) ∧ Rd w' sv ((rdc b).getD noRg).2.1 ∧ Rd w' ev ((rdc b).getD noRg).2.2.1 ∧ RdPe w' pv ((rdc b).getD noRg).2.2.2.2.2 ∧ Below W.heap.size W w') := fun W h => rdecR_any h (by omega)
  clear ho2
  generalize (rdc b).getD noRg = R at *
  generalize (if (rdc b).isSome then (0 : Int) else 12) = er at *
  obtain ⟨xi, xs, xe, xc, xv, xp⟩ := R
  simp only [] at hD1 HD2
  go_wp2_with fail
  refine hD1.mono ?_
  clear hD1
  rintro x w3 ⟨vx1, vx2, vx3, rfl, h1, h2, h3, hb3⟩
  have hB3 := hb2.trans (hb3.mono hb2.size)
  have HX : Hid (Rd w3 vx1 xs ∧ Rd w3 vx2 xe ∧ RdPe w3 vx3 xp) := ⟨h1, h2, h3⟩
  obtain ⟨x1, y1, rfl⟩ := h1.shp
  obtain ⟨x2, y2, rfl⟩ := h2.shp
  obtain ⟨x3, y3, rfl, _⟩ := h3.shape
  clear h1 h2 h3
  have hal4 := g_al w3 (.cells #[.int .u64 (xi.toNat : Int), .slice x1 xs.length y1, .slice x2 xe.length y2, .int .u64 (xc.toNat : Int), .int .u64 (xv.toNat : Int), .slice x3 xp.length y3] 28)
  have hk4 : (w3.alloc (.cells #[.int .u64 (xi.toNat : Int), .slice x1 xs.length y1, .slice x2 xe.length y2, .int .u64 (xc.toNat : Int), .int .u64 (xv.toNat : Int), .slice x3 xp.length y3] 28)).heap[w3.heap.size]? = some (.cells #[.int .u64 (xi.toNat : Int), .slice x1 xs.length y1, .slice x2 xe.length y2, .int .u64 (xc.toNat : Int), .int .u64 (xv.toNat : Int), .slice x3 xp.length y3] 28 (0, 0)) := heap_alloc_new w3 _
  have hB4 := hB3.trans (hal4.mono hB3.size)
  go_wp2_with fail
  generalize (w3.alloc (.cells #[.int .u64 (xi.toNat : Int), .slice x1 xs.length y1, .slice x2 xe.length y2, .int .u64 (xc.toNat : Int), .int .u64 (xv.toNat : Int), .slice x3 xp.length y3] 28)) = w4 at *
  refine (HD2.out _ (HRA.out _ hB4).2.2.2).mono ?_
  clear HD2
  rintro x w5 ⟨vx4, vx5, vx6, rfl, h4, h5, h6, hb5⟩
  have hB5 := hB4.trans (hb5.mono hB4.size)
  have HY : Hid (Rd w5 vx4 xs ∧ Rd w5 vx5 xe ∧ RdPe w5 vx6 xp) := ⟨h4, h5, h6⟩
  obtain ⟨x4, y4, rfl⟩ := h4.shp
  obtain ⟨x5, y5, rfl⟩ := h5.shp
  obtain ⟨x6, y6, rfl, _⟩ := h6.shape
  clear h4 h5 h6
  have hal6 := g_al w5 (.cells #[.int .u64 (xi.toNat : Int), .slice x4 xs.length y4, .slice x5 xe.length y5, .int .u64 (xc.toNat : Int), .int .u64 (xv.toNat : Int), .slice x6 xp.length y6] 28)
  have hk6 : (w5.alloc (.cells #[.int .u64 (xi.toNat : Int), .slice x4 xs.length y4, .slice x5 xe.length y5, .int .u64 (xc.toNat : Int), .int .u64 (xv.toNat : Int), .slice x6 xp.length y6] 28)).heap[w5.heap.size]? = some (.cells #[.int .u64 (xi.toNat : Int), .slice x4 xs.length y4, .slice x5 xe.length y5, .int .u64 (xc.toNat : Int), .int .u64 (xv.toNat : Int), .slice x6 xp.length y6] 28 (0, 0)) := heap_alloc_new w5 _
  have hB6 := hB5.trans (hal6.mono hB5.size)
  have hb46 := hb5.trans (hal6.mono hb5.size)
  have hk46 := (hb46.block _ (lt_of_some hk4)).trans hk4
  have HR6 : Hid (Rd (w5.alloc (.cells #[.int .u64 (xi.toNat : Int), .slice x4 xs.length y4, .slice x5 xe.length y5, .int .u64 (xc.toNat : Int), .int .u64 (xv.toNat : Int), .slice x6 xp.length y6] 28)) (.slice x1 xs.length y1) xs ∧ Rd (w5.alloc (.cells #[.int .u64 (xi.toNat : Int), .slice x4 xs.length y4, .slice x5 xe.length y5, .int .u64 (xc.toNat : Int), .int .u64 (xv.toNat : Int), .slice x6 xp.length y6] 28)) (.slice x2 xe.length y2) xe ∧ RdPe (w5.alloc (.cells #[.int .u64 (xi.toNat : Int), .slice x4 xs.length y4, .slice x5 xe.length y5, .int .u64 (xc.toNat : Int), .int .u64 (xv.toNat : Int), .slice x6 xp.length y6] 28)) (.slice x3 xp.length y3) xp ∧ Rd (w5.alloc (.cells #[.int .u64 (xi.toNat : Int), .slice x4 xs.length y4, .slice x5 xe.length y5, .int .u64 (xc.toNat : Int), .int .u64 (xv.toNat : Int), .slice x6 xp.length y6] 28)) (.slice x4 xs.length y4) xs ∧ Rd (w5.alloc (.cells #[.int .u64 (xi.toNat : Int), .slice x4 xs.length y4, .slice x5 xe.length y5, .int .u64 (xc.toNat : Int), .int .u64 (xv.toNat : Int), .slice x6 xp.length y6] 28)) (.slice x5 xe.length y5) xe ∧ RdPe (w5.alloc (.cells #[.int .u64 (xi.toNat : Int), .slice x4 xs.length y4, .slice x5 xe.length y5, .int .u64 (xc.toNat : Int), .int .u64 (xv.toNat : Int), .slice x6 xp.length y6] 28)) (.slice x6 xp.length y6) xp) := by
    have q : Below w3.heap.size w3 (w5.alloc (.cells #[.int .u64 (xi.toNat : Int), .slice x4 xs.length y4, .slice x5 xe.length y5, .int .u64 (xc.toNat : Int), .int .u64 (xv.toNat : Int), .slice x6 xp.length y6] 28)) := hal4.trans (hb46.mono hal4.size)
    exact ⟨HX.out.1.below q (Nat.le_refl _), HX.out.2.1.below q (Nat.le_refl _), HX.out.2.2.below q (Nat.le_refl _), HY.out.1.below hal6 (Nat.le_refl _), HY.out.2.1.below hal6 (Nat.le_refl _), HY.out.2.2.below hal6 (Nat.le_refl _)⟩
  clear HX HY
  go_wp2_with fail
  generalize (w5.alloc (.cells #[.int .u64 (xi.toNat : Int), .slice x4 xs.length y4, .slice x5 xe.length y5, .int .u64 (xc.toNat : Int), .int .u64 (xv.toNat : Int), .slice x6 xp.length y6] 28)) = w6 at *
  refine (lnum_any er w6).mono ?_
  rintro x w7 ⟨rfl, hw7⟩
  subst hw7
  obtain ⟨c0, c1, c2, c3, c4, c5, _⟩ := cells6 hk46
  obtain ⟨d0, d1, d2', d3, d4, d5, _⟩ := cells6 hk6
  have herr : (er != er) = false := by simp
  go_wp2_with fail
  refine (sameRegion_any HR6.out.1 HR6.out.2.1 HR6.out.2.2.1 HR6.out.2.2.2.1 HR6.out.2.2.2.2.1 HR6.out.2.2.2.2.2).mono ?_
  rintro x w8 ⟨rfl, hb8⟩
  have hB8 := hB6.trans (hb8.mono hB6.size)
  simp only [and_self, decide_true]
  clear c0 c1 c2 c3 c4 c5 d0 d1 d2' d3 d4 d5 hk46 hk6 hk4 HR6 hb46 hal6 hal4
  go_wp2_with fail
  go_loopw [9] (fun i wr => ∃ k : Nat, k ≤ ps.length ∧ i = .int .i64 k ∧ Hid (∀ p ∈ ps.take k, okPe p) ∧ Below W1.heap.size W1 wr) (fun i _ => ps.length - (intOf i).toNat)
  case atStart => exact ⟨0, Nat.zero_le _, rfl, (fun p hp => by simp at hp), hB8⟩
  case round =>
    obtain ⟨k, hk, rfl, HA, hb⟩ := hrel
    obtain ⟨_, _, _, _, _, c5, _⟩ := cells6 (HK.out wr hb)
    by_cases hlt : k < ps.length
    · have hpe := HRS.out.2.2.1.below (hW1.trans (hb.mono hW1.size)) (Nat.le_refl _)
      obtain ⟨ao', c', e1, _, _, _, h4⟩ := hpe
      simp only [Value.slice.injEq, true_and] at e1
      obtain ⟨rfl, rfl⟩ := e1
      obtain ⟨a, rfl, q0, q1, q2⟩ := h4 k _ (List.getElem?_eq_getElem hlt)
      have HT : Hid (∀ p ∈ ps.take (k + 1), p ∈ ps.take k ∨ p = ps[k]) := fun p hp => by
        rw [List.take_succ_eq_append_getElem hlt] at hp
        rcases List.mem_append.1 hp with q | q
        · exact .inl q
        · exact .inr (List.mem_singleton.1 q)
      clear h4 q0 q2
      generalize ps[k] = p at *
      obtain ⟨p0, p1, p2⟩ := p
      simp only [] at q1
      have hkl : (k : Int) < (ps.length : Int) := by omega
      by_cases h0 : p1 < 0
      · go_wp2_with fail
        go_ret
        exact ⟨rfl, hW1.trans (hb.mono hW1.size)⟩
      · by_cases h1 : 2147483648 ≤ p1
        · have h0' : 0 ≤ p1 := by omega
          go_wp2_with fail
          go_ret
          exact ⟨rfl, hW1.trans (hb.mono hW1.size)⟩
        · have h0' : 0 ≤ p1 := by omega
          have h1' : p1 < 2147483648 := by omega
          go_wp2_with fail
          refine ⟨⟨k + 1, by omega, by go_num, fun p hp => ?_, hb⟩, by simp [intOf]; omega⟩
          rcases HT.out p hp with q | rfl
          · exact HA.out p q
          · exact ⟨h0', h1'⟩
    · obtain rfl : k = ps.length := by omega
      have HOK : Hid (∀ p ∈ ps, okPe p) := fun p hp => HA.out p (by rw [List.take_of_length_le (Nat.le_refl _)]; exact hp)
      have HDB : Hid (rdc (rnc (id, s, e, cf, vr, ps)) = some (id, s, e, cf, vr, ps)) := rdc_back _ (by simp only []; omega) (by simp only []; omega) (by simp only []; omega) HOK.out
      have hel : (rnc (id, s, e, cf, vr, ps)).length ≤ 100000000 := by have := rnc_len2 (id, s, e, cf, vr, ps); simp only [] at this; omega
      have HE1 : Hid (∀ W, Below W1.heap.size W1 W → Calls Try.prog 10 #[.agg #[.int .u64 (id.toNat : Int), .slice sa s.length sc, .slice ea e.length ec, .int .u64 (cf.toNat : Int), .int .u64 (vr.toNat : Int), .slice pa ps.length pk]] W fun e1 w' => ∃ v', e1 = .returned v' ∧ Ow W.heap.size w' v' (rnc (id, s, e, cf, vr, ps)) ∧ Below W.heap.size W w') := fun W hW => encR_any (HRA.out W hW).1 (HRA.out W hW).2.1 (HRA.out W hW).2.2.1 HOK.out (by omega) (by omega) (by omega)
      have HE2 : Hid (∀ W, Below W1.heap.size W1 W → Calls Try.prog 31 #[.agg #[.int .u64 (id.toNat : Int), .slice sa s.length sc, .slice ea e.length ec, .int .u64 (cf.toNat : Int), .int .u64 (vr.toNat : Int), .slice pa ps.length pk]] W fun e1 w' => ∃ v', e1 = .returned v' ∧ Ow W.heap.size w' v' (rnc (id, s, e, cf, vr, ps)) ∧ Below W.heap.size W w') := fun W hW => rencR_any (HRA.out W hW).1 (HRA.out W hW).2.1 (HRA.out W hW).2.2.1 HOK.out (by omega) (by omega) (by omega)
      generalize rnc (id, s, e, cf, vr, ps) = ra at *
      clear HA c5
      obtain ⟨wA, hwA⟩ : ∃ wA, wA = wr := ⟨wr, rfl⟩
      subst hwA
      obtain ⟨c0, c1, c2, c3, c4, c5, _⟩ := cells6 (HK.out wA hb)
      go_wp2_with fail
      refine (HE1.out wA hb).mono ?_
      rintro x w9 ⟨v9, rfl, ho9, hb9⟩
      have hB9 := hb.trans (hb9.mono hb.size)
      have HO9 : Hid (∀ W, Below w9.heap.size w9 W → Rd W v9 ra) := fun W hW => (ho9.below hW (Nat.le_refl _)).rd
      have hD3 := decR_any ho9.rd (by omega)
      rw [HDB.out] at hD3
      simp only [Option.getD_some, Option.isSome_some] at hD3
      obtain ⟨a9, d9, rfl⟩ := ho9.shape
      clear ho9 c0 c1 c2 c3 c4 c5
      go_wp2_with fail
      refine hD3.mono ?_
      clear hD3
      rintro x w10 ⟨z1, z2, z3, rfl, h7, h8, h9, hb10⟩
      have HZ : Hid (Rd w10 z1 s ∧ Rd w10 z2 e ∧ RdPe w10 z3 ps) := ⟨h7, h8, h9⟩
      obtain ⟨g7, f7, rfl⟩ := h7.shp
      obtain ⟨g8, f8, rfl⟩ := h8.shp
      obtain ⟨g9, f9, rfl, _⟩ := h9.shape
      clear h7 h8 h9
      have hal := g_al w10 (.cells #[.int .u64 (id.toNat : Int), .slice g7 s.length f7, .slice g8 e.length f8, .int .u64 (cf.toNat : Int), .int .u64 (vr.toNat : Int), .slice g9 ps.length f9] 28)
      have hk11 : (w10.alloc (.cells #[.int .u64 (id.toNat : Int), .slice g7 s.length f7, .slice g8 e.length f8, .int .u64 (cf.toNat : Int), .int .u64 (vr.toNat : Int), .slice g9 ps.length f9] 28)).heap[w10.heap.size]? = some (.cells #[.int .u64 (id.toNat : Int), .slice g7 s.length f7, .slice g8 e.length f8, .int .u64 (cf.toNat : Int), .int .u64 (vr.toNat : Int), .slice g9 ps.length f9] 28 (0, 0)) := heap_alloc_new w10 _
      have hb911 := hb10.trans (hal.mono hb10.size)
      have hB11 := hB9.trans (hb911.mono hB9.size)
      have HZ11 : Hid (Rd (w10.alloc (.cells #[.int .u64 (id.toNat : Int), .slice g7 s.length f7, .slice g8 e.length f8, .int .u64 (cf.toNat : Int), .int .u64 (vr.toNat : Int), .slice g9 ps.length f9] 28)) (.slice g7 s.length f7) s ∧ Rd (w10.alloc (.cells #[.int .u64 (id.toNat : Int), .slice g7 s.length f7, .slice g8 e.length f8, .int .u64 (cf.toNat : Int), .int .u64 (vr.toNat : Int), .slice g9 ps.length f9] 28)) (.slice g8 e.length f8) e ∧ RdPe (w10.alloc (.cells #[.int .u64 (id.toNat : Int), .slice g7 s.length f7, .slice g8 e.length f8, .int .u64 (cf.toNat : Int), .int .u64 (vr.toNat : Int), .slice g9 ps.length f9] 28)) (.slice g9 ps.length f9) ps) := ⟨HZ.out.1.below hal (Nat.le_refl _), HZ.out.2.1.below hal (Nat.le_refl _), HZ.out.2.2.below hal (Nat.le_refl _)⟩
      obtain ⟨c0, c1, c2, c3, c4, c5, _⟩ := cells6 (HK.out _ hB11)
      go_wp2_with fail
      generalize (w10.alloc (.cells #[.int .u64 (id.toNat : Int), .slice g7 s.length f7, .slice g8 e.length f8, .int .u64 (cf.toNat : Int), .int .u64 (vr.toNat : Int), .slice g9 ps.length f9] 28)) = w11 at *
      refine (HE2.out w11 hB11).mono ?_
      rintro x w12 ⟨v12, rfl, ho12, hb12⟩
      have hb912 := hb911.trans (hb12.mono hb911.size)
      have hsm := same_any (HO9.out w12 hb912) ho12.rd
      simp only [decide_true] at hsm
      obtain ⟨a12, d12, rfl⟩ := ho12.shape
      clear ho12 c0 c1 c2 c3 c4 c5
      go_wp2_with fail
      refine hsm.mono ?_
      clear hsm
      rintro x w13 ⟨rfl, n13, hw13⟩
      have hb1213 : Below w12.heap.size w12 w13 := by rw [hw13]; exact Below.dN w12 n13
      clear hw13
      have hb1113 := hb12.trans (hb1213.mono hb12.size)
      have hB13 := hB11.trans (hb1113.mono hB11.size)
      have hk13 := (hb1113.block _ (lt_of_some hk11)).trans hk11
      obtain ⟨c0, c1, c2, c3, c4, c5, _⟩ := cells6 (HK.out _ hB13)
      obtain ⟨d0, d1, d2', d3, d4, d5, _⟩ := cells6 hk13
      go_wp2_with fail
      have hra := HRA.out _ hB13
      refine (sameRegion_any (HZ11.out.1.below hb1113 (Nat.le_refl _)) (HZ11.out.2.1.below hb1113 (Nat.le_refl _)) (HZ11.out.2.2.below hb1113 (Nat.le_refl _)) hra.1 hra.2.1 hra.2.2.1).mono ?_
      rintro x w14 ⟨rfl, hb14⟩
      go_wp2_with fail
      go_ret
      have hbz := hB13.trans (hb14.mono hB13.size)
      exact ⟨by simp, hW1.trans (hbz.mono hW1.size)⟩
end Go.Proofs.Ytnenfflkldpbgaa
