/- Merge, of two regions whose peers sit on the same stores (tools/genmerge10b.py). -/
import Derived.Test.YtlfdcnojbbigbaaG49
import Derived.Test.YtlfdcnojbbigbaaG28
namespace Go.Proofs.Ytlfdcnojbbigbaa
open Go.RowKit
set_option linter.unusedVariables false
set_option maxRecDepth 100000

/-- What Merge leaves. -/
def MgP (w w' : World) (x : Ending) (ce : Int) (id : UInt64) (cf : Int) (M : Nat) (S E : List UInt8) (ps : List Pe) : Prop :=
  (ce ≠ 0 ∧ x = .returned (.tuple #[.agg #[.int .u64 0, .slice none 0 0, .slice none 0 0, .int .u64 0, .int .u64 0, .slice none 0 0], .int .i64 ce]) ∧ Below w.heap.size w w') ∨
  (ce = 0 ∧ ∃ sv' ev' pv', x = .returned (.tuple #[.agg #[.int .u64 (id.toNat : Int), sv', ev', .int .u64 cf, .int .u64 (M : Int), pv'], .int .i64 0]) ∧ OwR w.heap.size w' sv' ev' pv' S E ps ∧ Below w.heap.size w w')
set_option maxHeartbeats 4000000 in
theorem merge_any {id vr id' vr' : UInt64} {cf cf' : Int} {sv ev pv tv fv qv : Value} {s e t f : List UInt8} {ps qs : List Pe} {w : World} (hs : Rd w sv s) (he : Rd w ev e) (hp : RdPe w pv ps) (ht : Rd w tv t) (hf : Rd w fv f) (hq : RdPe w qv qs) (hse : seF ps = seF qs) (hri : (seF ps).Pairwise (fun a b => a.1 < b.1)) (hne : ps ≠ []) (hl : ps.length ≤ 1099511627775) (hsl : s.length ≤ 140737488355328) (hel : e.length ≤ 140737488355328) (htl : t.length ≤ 140737488355328) (hfl : f.length ≤ 140737488355328) :
    Calls Try.prog 49 #[.agg #[.int .u64 (id.toNat : Int), sv, ev, .int .u64 cf, .int .u64 (vr.toNat : Int), pv], .agg #[.int .u64 (id'.toNat : Int), tv, fv, .int .u64 cf', .int .u64 (vr'.toNat : Int), qv]] w fun x w' => MgP w w' x (cmgE id id' vr vr' s e t f ps qs) id cf (max vr.toNat vr'.toNat + 1) (if flw t e then s else t) (if flw t e then f else e) ps := by
  have HRS : Hid (Rd w sv s ∧ Rd w ev e ∧ RdPe w pv ps ∧ Rd w tv t ∧ Rd w fv f ∧ RdPe w qv qs) := ⟨hs, he, hp, ht, hf, hq⟩
  obtain ⟨sa, sc, rfl⟩ := hs.shp
  obtain ⟨ea, ec, rfl⟩ := he.shp
  obtain ⟨ta, tc, rfl⟩ := ht.shp
  obtain ⟨fa, fc, rfl⟩ := hf.shp
  obtain ⟨pa, pk, rfl, hp1, hp2⟩ := hp.shape
  obtain ⟨qa, qk, rfl, hq1, hq2⟩ := hq.shape
  clear hs he ht hf hp hq
  have HLN : Hid (s.length ≤ 140737488355328 ∧ e.length ≤ 140737488355328 ∧ t.length ≤ 140737488355328 ∧ f.length ≤ 140737488355328 ∧ ps.length ≤ 1099511627775) := ⟨hsl, hel, htl, hfl, hl⟩
  have hb0 : Below w.heap.size w (((w.alloc (.cells #[.int .u64 (id.toNat : Int), .slice sa s.length sc, .slice ea e.length ec, .int .u64 cf, .int .u64 (vr.toNat : Int), .slice pa ps.length pk] 34)).alloc (.cells #[.int .u64 (id'.toNat : Int), .slice ta t.length tc, .slice fa f.length fc, .int .u64 cf', .int .u64 (vr'.toNat : Int), .slice qa qs.length qk] 34)).alloc (.cells #[.int .u64 0, .slice none 0 0, .slice none 0 0, .int .u64 0, .int .u64 0, .slice none 0 0] 34)) := ((g_al w _).alloc (by simp) _).alloc (by simp; omega) _
  have hl0 : (((w.alloc (.cells #[.int .u64 (id.toNat : Int), .slice sa s.length sc, .slice ea e.length ec, .int .u64 cf, .int .u64 (vr.toNat : Int), .slice pa ps.length pk] 34)).alloc (.cells #[.int .u64 (id'.toNat : Int), .slice ta t.length tc, .slice fa f.length fc, .int .u64 cf', .int .u64 (vr'.toNat : Int), .slice qa qs.length qk] 34)).alloc (.cells #[.int .u64 0, .slice none 0 0, .slice none 0 0, .int .u64 0, .int .u64 0, .slice none 0 0] 34)).heap[w.heap.size]? = some (.cells #[.int .u64 (id.toNat : Int), .slice sa s.length sc, .slice ea e.length ec, .int .u64 cf, .int .u64 (vr.toNat : Int), .slice pa ps.length pk] 34 (0, 0)) := (Below.heap_alloc _ _ _ (by simp; omega)).trans ((Below.heap_alloc _ _ _ (by simp)).trans (heap_alloc_new w _))
  have hh0 : (((w.alloc (.cells #[.int .u64 (id.toNat : Int), .slice sa s.length sc, .slice ea e.length ec, .int .u64 cf, .int .u64 (vr.toNat : Int), .slice pa ps.length pk] 34)).alloc (.cells #[.int .u64 (id'.toNat : Int), .slice ta t.length tc, .slice fa f.length fc, .int .u64 cf', .int .u64 (vr'.toNat : Int), .slice qa qs.length qk] 34)).alloc (.cells #[.int .u64 0, .slice none 0 0, .slice none 0 0, .int .u64 0, .int .u64 0, .slice none 0 0] 34)).heap[w.heap.size + 1]? = some (.cells #[.int .u64 (id'.toNat : Int), .slice ta t.length tc, .slice fa f.length fc, .int .u64 cf', .int .u64 (vr'.toNat : Int), .slice qa qs.length qk] 34 (0, 0)) := (Below.heap_alloc _ _ _ (by simp)).trans (by have := heap_alloc_new (w.alloc (.cells #[.int .u64 (id.toNat : Int), .slice sa s.length sc, .slice ea e.length ec, .int .u64 cf, .int .u64 (vr.toNat : Int), .slice pa ps.length pk] 34)) (.cells #[.int .u64 (id'.toNat : Int), .slice ta t.length tc, .slice fa f.length fc, .int .u64 cf', .int .u64 (vr'.toNat : Int), .slice qa qs.length qk] 34); rw [World.size_alloc] at this; exact this)
  have hz0 : (((w.alloc (.cells #[.int .u64 (id.toNat : Int), .slice sa s.length sc, .slice ea e.length ec, .int .u64 cf, .int .u64 (vr.toNat : Int), .slice pa ps.length pk] 34)).alloc (.cells #[.int .u64 (id'.toNat : Int), .slice ta t.length tc, .slice fa f.length fc, .int .u64 cf', .int .u64 (vr'.toNat : Int), .slice qa qs.length qk] 34)).alloc (.cells #[.int .u64 0, .slice none 0 0, .slice none 0 0, .int .u64 0, .int .u64 0, .slice none 0 0] 34)).heap[w.heap.size + 1 + 1]? = some (.cells #[.int .u64 0, .slice none 0 0, .slice none 0 0, .int .u64 0, .int .u64 0, .slice none 0 0] 34 (0, 0)) := by
    have := heap_alloc_new ((w.alloc (.cells #[.int .u64 (id.toNat : Int), .slice sa s.length sc, .slice ea e.length ec, .int .u64 cf, .int .u64 (vr.toNat : Int), .slice pa ps.length pk] 34)).alloc (.cells #[.int .u64 (id'.toNat : Int), .slice ta t.length tc, .slice fa f.length fc, .int .u64 cf', .int .u64 (vr'.toNat : Int), .slice qa qs.length qk] 34)) (.cells #[.int .u64 0, .slice none 0 0, .slice none 0 0, .int .u64 0, .int .u64 0, .slice none 0 0] 34)
    rw [World.size_alloc, World.size_alloc] at this
    exact this
  have HRD0 : Hid (∀ W, Below w.heap.size w W → Rd W (.slice sa s.length sc) s ∧ Rd W (.slice ea e.length ec) e ∧ RdPe W (.slice pa ps.length pk) ps ∧ Rd W (.slice ta t.length tc) t ∧ Rd W (.slice fa f.length fc) f ∧ RdPe W (.slice qa qs.length qk) qs) := fun W hb => by
    obtain ⟨q1, q2, q3, q4, q5, q6⟩ := HRS.out
    exact ⟨q1.below hb (Nat.le_refl _), q2.below hb (Nat.le_refl _), q3.below hb (Nat.le_refl _), q4.below hb (Nat.le_refl _), q5.below hb (Nat.le_refl _), q6.below hb (Nat.le_refl _)⟩
  have HCM : Hid (∀ W, Below w.heap.size w W → Calls Try.prog 64 #[.agg #[.int .u64 (id.toNat : Int), .slice sa s.length sc, .slice ea e.length ec, .int .u64 cf, .int .u64 (vr.toNat : Int), .slice pa ps.length pk], .agg #[.int .u64 (id'.toNat : Int), .slice ta t.length tc, .slice fa f.length fc, .int .u64 cf', .int .u64 (vr'.toNat : Int), .slice qa qs.length qk]] W fun x w' => x = .returned (.int .i64 (cmgE id id' vr vr' s e t f ps qs)) ∧ Below W.heap.size W w') := fun W hb => checkMerge_any (HRD0.out W hb).1 (HRD0.out W hb).2.1 (HRD0.out W hb).2.2.1 (HRD0.out W hb).2.2.2.1 (HRD0.out W hb).2.2.2.2.1 (HRD0.out W hb).2.2.2.2.2 hse hri hne hl
  have HFO : Hid (∀ W, Below w.heap.size w W → Calls Try.prog 65 #[.agg #[.int .u64 (id'.toNat : Int), .slice ta t.length tc, .slice fa f.length fc, .int .u64 cf', .int .u64 (vr'.toNat : Int), .slice qa qs.length qk], .agg #[.int .u64 (id.toNat : Int), .slice sa s.length sc, .slice ea e.length ec, .int .u64 cf, .int .u64 (vr.toNat : Int), .slice pa ps.length pk]] W fun x w' => x = .returned (.bool (flw t e)) ∧ Below W.heap.size W w') := fun W hb => follows_any (HRD0.out W hb).2.2.2.1 (HRD0.out W hb).2.2.2.2.1 (HRD0.out W hb).1 (HRD0.out W hb).2.1
  have HZR : Hid (cmgE id id' vr vr' s e t f ps qs = 0 → vr.toNat ≠ 18446744073709551615 ∧ vr'.toNat ≠ 18446744073709551615) := fun q => by
    unfold cmgE at q
    split at q
    · rename_i h; exact absurd q h
    · split at q
      · rename_i h; exact absurd q h
      · split at q
        · simp at q
        · split at q
          · simp at q
          · split at q
            · simp at q
            · rename_i h; exact ⟨fun z => h (.inl z), fun z => h (.inr z)⟩
  have hv1 := vr.toNat_lt
  have hv2 := vr'.toNat_lt
  clear hse hri hne hl hsl hel htl hfl
  generalize cmgE id id' vr vr' s e t f ps qs = ce at *
  generalize hfo : flw t e = fo at *
  clear hfo
  obtain ⟨a0, a1, a2, a3, a4, a5, _⟩ := cells6 hl0
  obtain ⟨b0, b1, b2, b3, b4, b5, _⟩ := cells6 hh0
  go_enter Try.func49, Try.ntmps49
  go_wp2_with fail
  generalize (((w.alloc (.cells #[.int .u64 (id.toNat : Int), .slice sa s.length sc, .slice ea e.length ec, .int .u64 cf, .int .u64 (vr.toNat : Int), .slice pa ps.length pk] 34)).alloc (.cells #[.int .u64 (id'.toNat : Int), .slice ta t.length tc, .slice fa f.length fc, .int .u64 cf', .int .u64 (vr'.toNat : Int), .slice qa qs.length qk] 34)).alloc (.cells #[.int .u64 0, .slice none 0 0, .slice none 0 0, .int .u64 0, .int .u64 0, .slice none 0 0] 34)) = W0 at *
  clear a0 a1 a2 a3 a4 a5 b0 b1 b2 b3 b4 b5
  refine (HCM.out W0 hb0).mono ?_
  rintro x w1 ⟨rfl, hb1⟩
  have hB1 := hb0.trans (hb1.mono hb0.size)
  have hl1 := (hb1.block _ (lt_of_some hl0)).trans hl0
  have hh1 := (hb1.block _ (lt_of_some hh0)).trans hh0
  have hz1 := (hb1.block _ (lt_of_some hz0)).trans hz0
  clear hl0 hh0 hz0
  by_cases hce : ce ≠ 0
  · have g1 : (ce != 0) = true := by simpa using hce
    obtain ⟨z0, z1, z2, z3, z4, z5, zz⟩ := cells6 hz1
    have zz0 := zz 0
    have zz1 := zz 1
    have zz2 := zz 2
    have zz3 := zz 3
    have zz4 := zz 4
    have zz5 := zz 5
    clear zz
    have HZ : Hid _ := And.intro (cells6 (set6_block hz1 (.int .u64 0) (.slice none 0 0) (.slice none 0 0) (.int .u64 0) (.int .u64 0) (.slice none 0 0))) (set6_chg w1 (w.heap.size + 1 + 1) (.int .u64 0) (.slice none 0 0) (.slice none 0 0) (.int .u64 0) (.int .u64 0) (.slice none 0 0))
    have HCE : Hid _ := hce
    clear hce
    cases fo with
    | true =>
        go_wp2_with fail
        obtain ⟨⟨k0, k1, k2, k3, k4, k5, _⟩, hch⟩ := HZ.out
        generalize ((((((w1.setCell ⟨w.heap.size + 1 + 1, 0, none⟩ (.int .u64 0)).setCell ⟨w.heap.size + 1 + 1, 1, none⟩ (.slice none 0 0)).setCell ⟨w.heap.size + 1 + 1, 2, none⟩ (.slice none 0 0)).setCell ⟨w.heap.size + 1 + 1, 3, none⟩ (.int .u64 0)).setCell ⟨w.heap.size + 1 + 1, 4, none⟩ (.int .u64 0)).setCell ⟨w.heap.size + 1 + 1, 5, none⟩ (.slice none 0 0)) = wz at *
        refine bodyPost_ret (v := .tuple #[.agg #[.int .u64 0, .slice none 0 0, .slice none 0 0, .int .u64 0, .int .u64 0, .slice none 0 0], .int .i64 ce]) (by simp [results, Try.results49, go_sem, k0, k1, k2, k3, k4, k5]; try rfl) rfl ?_
        exact Or.inl ⟨HCE.out, rfl, hB1.trans (hch.below (fun b q => by omega) hB1.size)⟩
    | false =>
        go_wp2_with fail
        obtain ⟨⟨k0, k1, k2, k3, k4, k5, _⟩, hch⟩ := HZ.out
        generalize ((((((w1.setCell ⟨w.heap.size + 1 + 1, 0, none⟩ (.int .u64 0)).setCell ⟨w.heap.size + 1 + 1, 1, none⟩ (.slice none 0 0)).setCell ⟨w.heap.size + 1 + 1, 2, none⟩ (.slice none 0 0)).setCell ⟨w.heap.size + 1 + 1, 3, none⟩ (.int .u64 0)).setCell ⟨w.heap.size + 1 + 1, 4, none⟩ (.int .u64 0)).setCell ⟨w.heap.size + 1 + 1, 5, none⟩ (.slice none 0 0)) = wz at *
        refine bodyPost_ret (v := .tuple #[.agg #[.int .u64 0, .slice none 0 0, .slice none 0 0, .int .u64 0, .int .u64 0, .slice none 0 0], .int .i64 ce]) (by simp [results, Try.results49, go_sem, k0, k1, k2, k3, k4, k5]; try rfl) rfl ?_
        exact Or.inl ⟨HCE.out, rfl, hB1.trans (hch.below (fun b q => by omega) hB1.size)⟩
  · obtain rfl : ce = 0 := Decidable.not_not.1 hce
    obtain ⟨hm1, hm2⟩ := HZR.out rfl
    obtain ⟨a0, a1, a2, a3, a4, a5, _⟩ := cells6 hl1
    obtain ⟨b0, b1, b2, b3, b4, b5, _⟩ := cells6 hh1
    go_wp2_with fail
    refine (HFO.out w1 hB1).mono ?_
    rintro x w2 ⟨rfl, hb2⟩
    have hB2 := hB1.trans (hb2.mono hB1.size)
    have hl2 := (hb2.block _ (lt_of_some hl1)).trans hl1
    have hh2 := (hb2.block _ (lt_of_some hh1)).trans hh1
    have hz2 := (hb2.block _ (lt_of_some hz1)).trans hz1
    clear a0 a1 a2 a3 a4 a5 b0 b1 b2 b3 b4 b5 hl1 hh1 hz1
    obtain ⟨M, hM⟩ : ∃ M : Nat, M = max vr.toNat vr'.toNat + 1 := ⟨_, rfl⟩
    have HM : Hid _ := hM
    have hMl : M < 18446744073709551616 := by omega
    have hwr2 : IntKind.u64.wrap (M : Int) = (M : Int) := by rw [IntKind.wrap_u64]; omega
    by_cases hv : vr.toNat < vr'.toNat
    · have hv' : (vr.toNat : Int) < (vr'.toNat : Int) := by omega
      have hx : max (vr.toNat : Int) (vr'.toNat : Int) = (vr'.toNat : Int) := by omega
      have hmx : (vr'.toNat : Int) + 1 = (M : Int) := by omega
      have hwr : IntKind.u64.wrap ((vr'.toNat : Int) + 1) = (M : Int) := by rw [hmx]; exact hwr2
      clear hM hmx hv
      cases fo with
      | true =>
        have ch3 := put1_chg w2 w.heap.size 2 (.slice fa f.length fc)
        have hl3 : (w2.setCell ⟨w.heap.size, 2, none⟩ (.slice fa f.length fc)).heap[w.heap.size]? = some (.cells #[.int .u64 (id.toNat : Int), .slice sa s.length sc, .slice fa f.length fc, .int .u64 cf, .int .u64 (vr.toNat : Int), .slice pa ps.length pk] 34 (0, 0)) := put1_block hl2 _
        have hh3 := (ch3.block (w.heap.size + 1) (lt_of_some hh2) (by omega)).trans hh2
        have hz3 := (ch3.block (w.heap.size + 1 + 1) (lt_of_some hz2) (by omega)).trans hz2
        have hB3 := hB2.trans (ch3.below (fun b q => by omega) hB2.size)
        obtain ⟨a0, a1, a2, a3, a4, a5, az⟩ := cells6 hl2
        obtain ⟨b0, b1, b2, b3, b4, b5, _⟩ := cells6 hh2
        have azi := az 2
        have az4 := az 4
        clear az ch3
        go_upto_region 7 with fail
        generalize (w2.setCell ⟨w.heap.size, 2, none⟩ (.slice fa f.length fc)) = w3 at *
        clear a0 a1 a2 a3 a4 a5 b0 b1 b2 b3 b4 b5 azi az4 hl2 hh2 hz2
        obtain ⟨a0, a1, a2, a3, a4, a5, az⟩ := cells6 hl3
        obtain ⟨b0, b1, b2, b3, b4, b5, _⟩ := cells6 hh3
        have az4 := az 4
        clear az
        have ch4 := put1_chg w3 w.heap.size 4 (.int .u64 (M : Int))
        have hl4 : (w3.setCell ⟨w.heap.size, 4, none⟩ (.int .u64 (M : Int))).heap[w.heap.size]? = some (.cells #[.int .u64 (id.toNat : Int), .slice sa s.length sc, .slice fa f.length fc, .int .u64 cf, .int .u64 (M : Int), .slice pa ps.length pk] 34 (0, 0)) := put1_block hl3 _
        have hz4 := (ch4.block (w.heap.size + 1 + 1) (lt_of_some hz3) (by omega)).trans hz3
        have hB4 := hB3.trans (ch4.below (fun b q => by omega) hB3.size)
        clear ch4
        obtain ⟨c0, c1, c2, c3, c4, c5, _⟩ := cells6 hl4
        go_wp2_with fail
        generalize (w3.setCell ⟨w.heap.size, 4, none⟩ (.int .u64 (M : Int))) = w4 at *
        have hrd := HRD0.out w4 hB4
        have hln := HLN.out
        refine (clone_rg hrd.1 hrd.2.2.2.2.1 hrd.2.2.1 hln.1 hln.2.2.2.1 (by omega)).mono ?_
        clear a0 a1 a2 a3 a4 a5 b0 b1 b2 b3 b4 b5 az4 c0 c1 c2 c3 c4 c5 hrd hl3 hh3 hz3
        rintro x w5 ⟨sv', ev', pv', rfl, ow, hb5⟩
        have hz5 := (hb5.block _ (lt_of_some hz4)).trans hz4
        have hB5 := hB4.trans (hb5.mono hB4.size)
        have hs4 := lt_of_some hz4
        obtain ⟨g1, d1, rfl⟩ := ow.s.rd.shp
        obtain ⟨g2, d2, rfl⟩ := ow.e.rd.shp
        obtain ⟨g3, d3, rfl, _⟩ := ow.p.rd.shape
        obtain ⟨z0, z1, z2, z3, z4, z5, zz⟩ := cells6 hz5
        have zz0 := zz 0
        have zz1 := zz 1
        have zz2 := zz 2
        have zz3 := zz 3
        have zz4 := zz 4
        have zz5 := zz 5
        clear zz
        have HZ : Hid _ := And.intro (cells6 (set6_block hz5 (.int .u64 (id.toNat : Int)) (.slice g1 s.length d1) (.slice g2 f.length d2) (.int .u64 cf) (.int .u64 (M : Int)) (.slice g3 ps.length d3))) (set6_chg w5 (w.heap.size + 1 + 1) (.int .u64 (id.toNat : Int)) (.slice g1 s.length d1) (.slice g2 f.length d2) (.int .u64 cf) (.int .u64 (M : Int)) (.slice g3 ps.length d3))
        have HOW : Hid (OwR w4.heap.size w5 (.slice g1 s.length d1) (.slice g2 f.length d2) (.slice g3 ps.length d3) s f ps) := ow
        clear ow hz4 hz5
        go_wp2_with fail
        obtain ⟨⟨k0, k1, k2, k3, k4, k5, _⟩, hch⟩ := HZ.out
        generalize ((((((w5.setCell ⟨w.heap.size + 1 + 1, 0, none⟩ (.int .u64 (id.toNat : Int))).setCell ⟨w.heap.size + 1 + 1, 1, none⟩ (.slice g1 s.length d1)).setCell ⟨w.heap.size + 1 + 1, 2, none⟩ (.slice g2 f.length d2)).setCell ⟨w.heap.size + 1 + 1, 3, none⟩ (.int .u64 cf)).setCell ⟨w.heap.size + 1 + 1, 4, none⟩ (.int .u64 (M : Int))).setCell ⟨w.heap.size + 1 + 1, 5, none⟩ (.slice g3 ps.length d3)) = wz at *
        refine bodyPost_ret (v := .tuple #[.agg #[.int .u64 (id.toNat : Int), .slice g1 s.length d1, .slice g2 f.length d2, .int .u64 cf, .int .u64 (M : Int), .slice g3 ps.length d3], .int .i64 0]) (by simp [results, Try.results49, go_sem, k0, k1, k2, k3, k4, k5]; try rfl) rfl ?_
        refine Or.inr ⟨rfl, _, _, _, by rw [← HM.out], ?_, hB5.trans (hch.below (fun b q => by omega) hB5.size)⟩
        exact (HOW.out.keptC hch (fun b q1 q2 => by omega)).mono (by omega)
      | false =>
        have ch3 := put1_chg w2 w.heap.size 1 (.slice ta t.length tc)
        have hl3 : (w2.setCell ⟨w.heap.size, 1, none⟩ (.slice ta t.length tc)).heap[w.heap.size]? = some (.cells #[.int .u64 (id.toNat : Int), .slice ta t.length tc, .slice ea e.length ec, .int .u64 cf, .int .u64 (vr.toNat : Int), .slice pa ps.length pk] 34 (0, 0)) := put1_block hl2 _
        have hh3 := (ch3.block (w.heap.size + 1) (lt_of_some hh2) (by omega)).trans hh2
        have hz3 := (ch3.block (w.heap.size + 1 + 1) (lt_of_some hz2) (by omega)).trans hz2
        have hB3 := hB2.trans (ch3.below (fun b q => by omega) hB2.size)
        obtain ⟨a0, a1, a2, a3, a4, a5, az⟩ := cells6 hl2
        obtain ⟨b0, b1, b2, b3, b4, b5, _⟩ := cells6 hh2
        have azi := az 1
        have az4 := az 4
        clear az ch3
        go_upto_region 7 with fail
        generalize (w2.setCell ⟨w.heap.size, 1, none⟩ (.slice ta t.length tc)) = w3 at *
        clear a0 a1 a2 a3 a4 a5 b0 b1 b2 b3 b4 b5 azi az4 hl2 hh2 hz2
        obtain ⟨a0, a1, a2, a3, a4, a5, az⟩ := cells6 hl3
        obtain ⟨b0, b1, b2, b3, b4, b5, _⟩ := cells6 hh3
        have az4 := az 4
        clear az
        have ch4 := put1_chg w3 w.heap.size 4 (.int .u64 (M : Int))
        have hl4 : (w3.setCell ⟨w.heap.size, 4, none⟩ (.int .u64 (M : Int))).heap[w.heap.size]? = some (.cells #[.int .u64 (id.toNat : Int), .slice ta t.length tc, .slice ea e.length ec, .int .u64 cf, .int .u64 (M : Int), .slice pa ps.length pk] 34 (0, 0)) := put1_block hl3 _
        have hz4 := (ch4.block (w.heap.size + 1 + 1) (lt_of_some hz3) (by omega)).trans hz3
        have hB4 := hB3.trans (ch4.below (fun b q => by omega) hB3.size)
        clear ch4
        obtain ⟨c0, c1, c2, c3, c4, c5, _⟩ := cells6 hl4
        go_wp2_with fail
        generalize (w3.setCell ⟨w.heap.size, 4, none⟩ (.int .u64 (M : Int))) = w4 at *
        have hrd := HRD0.out w4 hB4
        have hln := HLN.out
        refine (clone_rg hrd.2.2.2.1 hrd.2.1 hrd.2.2.1 hln.2.2.1 hln.2.1 (by omega)).mono ?_
        clear a0 a1 a2 a3 a4 a5 b0 b1 b2 b3 b4 b5 az4 c0 c1 c2 c3 c4 c5 hrd hl3 hh3 hz3
        rintro x w5 ⟨sv', ev', pv', rfl, ow, hb5⟩
        have hz5 := (hb5.block _ (lt_of_some hz4)).trans hz4
        have hB5 := hB4.trans (hb5.mono hB4.size)
        have hs4 := lt_of_some hz4
        obtain ⟨g1, d1, rfl⟩ := ow.s.rd.shp
        obtain ⟨g2, d2, rfl⟩ := ow.e.rd.shp
        obtain ⟨g3, d3, rfl, _⟩ := ow.p.rd.shape
        obtain ⟨z0, z1, z2, z3, z4, z5, zz⟩ := cells6 hz5
        have zz0 := zz 0
        have zz1 := zz 1
        have zz2 := zz 2
        have zz3 := zz 3
        have zz4 := zz 4
        have zz5 := zz 5
        clear zz
        have HZ : Hid _ := And.intro (cells6 (set6_block hz5 (.int .u64 (id.toNat : Int)) (.slice g1 t.length d1) (.slice g2 e.length d2) (.int .u64 cf) (.int .u64 (M : Int)) (.slice g3 ps.length d3))) (set6_chg w5 (w.heap.size + 1 + 1) (.int .u64 (id.toNat : Int)) (.slice g1 t.length d1) (.slice g2 e.length d2) (.int .u64 cf) (.int .u64 (M : Int)) (.slice g3 ps.length d3))
        have HOW : Hid (OwR w4.heap.size w5 (.slice g1 t.length d1) (.slice g2 e.length d2) (.slice g3 ps.length d3) t e ps) := ow
        clear ow hz4 hz5
        go_wp2_with fail
        obtain ⟨⟨k0, k1, k2, k3, k4, k5, _⟩, hch⟩ := HZ.out
        generalize ((((((w5.setCell ⟨w.heap.size + 1 + 1, 0, none⟩ (.int .u64 (id.toNat : Int))).setCell ⟨w.heap.size + 1 + 1, 1, none⟩ (.slice g1 t.length d1)).setCell ⟨w.heap.size + 1 + 1, 2, none⟩ (.slice g2 e.length d2)).setCell ⟨w.heap.size + 1 + 1, 3, none⟩ (.int .u64 cf)).setCell ⟨w.heap.size + 1 + 1, 4, none⟩ (.int .u64 (M : Int))).setCell ⟨w.heap.size + 1 + 1, 5, none⟩ (.slice g3 ps.length d3)) = wz at *
        refine bodyPost_ret (v := .tuple #[.agg #[.int .u64 (id.toNat : Int), .slice g1 t.length d1, .slice g2 e.length d2, .int .u64 cf, .int .u64 (M : Int), .slice g3 ps.length d3], .int .i64 0]) (by simp [results, Try.results49, go_sem, k0, k1, k2, k3, k4, k5]; try rfl) rfl ?_
        refine Or.inr ⟨rfl, _, _, _, by rw [← HM.out], ?_, hB5.trans (hch.below (fun b q => by omega) hB5.size)⟩
        exact (HOW.out.keptC hch (fun b q1 q2 => by omega)).mono (by omega)
    · have hv' : ¬ (vr.toNat : Int) < (vr'.toNat : Int) := by omega
      have hv'' : (vr'.toNat : Int) ≤ (vr.toNat : Int) := by omega
      have hx : max (vr.toNat : Int) (vr'.toNat : Int) = (vr.toNat : Int) := by omega
      have hmx : (vr.toNat : Int) + 1 = (M : Int) := by omega
      have hwr : IntKind.u64.wrap ((vr.toNat : Int) + 1) = (M : Int) := by rw [hmx]; exact hwr2
      clear hM hmx hv
      cases fo with
      | true =>
        have ch3 := put1_chg w2 w.heap.size 2 (.slice fa f.length fc)
        have hl3 : (w2.setCell ⟨w.heap.size, 2, none⟩ (.slice fa f.length fc)).heap[w.heap.size]? = some (.cells #[.int .u64 (id.toNat : Int), .slice sa s.length sc, .slice fa f.length fc, .int .u64 cf, .int .u64 (vr.toNat : Int), .slice pa ps.length pk] 34 (0, 0)) := put1_block hl2 _
        have hh3 := (ch3.block (w.heap.size + 1) (lt_of_some hh2) (by omega)).trans hh2
        have hz3 := (ch3.block (w.heap.size + 1 + 1) (lt_of_some hz2) (by omega)).trans hz2
        have hB3 := hB2.trans (ch3.below (fun b q => by omega) hB2.size)
        obtain ⟨a0, a1, a2, a3, a4, a5, az⟩ := cells6 hl2
        obtain ⟨b0, b1, b2, b3, b4, b5, _⟩ := cells6 hh2
        have azi := az 2
        have az4 := az 4
        clear az ch3
        go_upto_region 7 with fail
        generalize (w2.setCell ⟨w.heap.size, 2, none⟩ (.slice fa f.length fc)) = w3 at *
        clear a0 a1 a2 a3 a4 a5 b0 b1 b2 b3 b4 b5 azi az4 hl2 hh2 hz2
        obtain ⟨a0, a1, a2, a3, a4, a5, az⟩ := cells6 hl3
        obtain ⟨b0, b1, b2, b3, b4, b5, _⟩ := cells6 hh3
        have az4 := az 4
        clear az
        have ch4 := put1_chg w3 w.heap.size 4 (.int .u64 (M : Int))
        have hl4 : (w3.setCell ⟨w.heap.size, 4, none⟩ (.int .u64 (M : Int))).heap[w.heap.size]? = some (.cells #[.int .u64 (id.toNat : Int), .slice sa s.length sc, .slice fa f.length fc, .int .u64 cf, .int .u64 (M : Int), .slice pa ps.length pk] 34 (0, 0)) := put1_block hl3 _
        have hz4 := (ch4.block (w.heap.size + 1 + 1) (lt_of_some hz3) (by omega)).trans hz3
        have hB4 := hB3.trans (ch4.below (fun b q => by omega) hB3.size)
        clear ch4
        obtain ⟨c0, c1, c2, c3, c4, c5, _⟩ := cells6 hl4
        go_wp2_with fail
        generalize (w3.setCell ⟨w.heap.size, 4, none⟩ (.int .u64 (M : Int))) = w4 at *
        have hrd := HRD0.out w4 hB4
        have hln := HLN.out
        refine (clone_rg hrd.1 hrd.2.2.2.2.1 hrd.2.2.1 hln.1 hln.2.2.2.1 (by omega)).mono ?_
        clear a0 a1 a2 a3 a4 a5 b0 b1 b2 b3 b4 b5 az4 c0 c1 c2 c3 c4 c5 hrd hl3 hh3 hz3
        rintro x w5 ⟨sv', ev', pv', rfl, ow, hb5⟩
        have hz5 := (hb5.block _ (lt_of_some hz4)).trans hz4
        have hB5 := hB4.trans (hb5.mono hB4.size)
        have hs4 := lt_of_some hz4
        obtain ⟨g1, d1, rfl⟩ := ow.s.rd.shp
        obtain ⟨g2, d2, rfl⟩ := ow.e.rd.shp
        obtain ⟨g3, d3, rfl, _⟩ := ow.p.rd.shape
        obtain ⟨z0, z1, z2, z3, z4, z5, zz⟩ := cells6 hz5
        have zz0 := zz 0
        have zz1 := zz 1
        have zz2 := zz 2
        have zz3 := zz 3
        have zz4 := zz 4
        have zz5 := zz 5
        clear zz
        have HZ : Hid _ := And.intro (cells6 (set6_block hz5 (.int .u64 (id.toNat : Int)) (.slice g1 s.length d1) (.slice g2 f.length d2) (.int .u64 cf) (.int .u64 (M : Int)) (.slice g3 ps.length d3))) (set6_chg w5 (w.heap.size + 1 + 1) (.int .u64 (id.toNat : Int)) (.slice g1 s.length d1) (.slice g2 f.length d2) (.int .u64 cf) (.int .u64 (M : Int)) (.slice g3 ps.length d3))
        have HOW : Hid (OwR w4.heap.size w5 (.slice g1 s.length d1) (.slice g2 f.length d2) (.slice g3 ps.length d3) s f ps) := ow
        clear ow hz4 hz5
        go_wp2_with fail
        obtain ⟨⟨k0, k1, k2, k3, k4, k5, _⟩, hch⟩ := HZ.out
        generalize ((((((w5.setCell ⟨w.heap.size + 1 + 1, 0, none⟩ (.int .u64 (id.toNat : Int))).setCell ⟨w.heap.size + 1 + 1, 1, none⟩ (.slice g1 s.length d1)).setCell ⟨w.heap.size + 1 + 1, 2, none⟩ (.slice g2 f.length d2)).setCell ⟨w.heap.size + 1 + 1, 3, none⟩ (.int .u64 cf)).setCell ⟨w.heap.size + 1 + 1, 4, none⟩ (.int .u64 (M : Int))).setCell ⟨w.heap.size + 1 + 1, 5, none⟩ (.slice g3 ps.length d3)) = wz at *
        refine bodyPost_ret (v := .tuple #[.agg #[.int .u64 (id.toNat : Int), .slice g1 s.length d1, .slice g2 f.length d2, .int .u64 cf, .int .u64 (M : Int), .slice g3 ps.length d3], .int .i64 0]) (by simp [results, Try.results49, go_sem, k0, k1, k2, k3, k4, k5]; try rfl) rfl ?_
        refine Or.inr ⟨rfl, _, _, _, by rw [← HM.out], ?_, hB5.trans (hch.below (fun b q => by omega) hB5.size)⟩
        exact (HOW.out.keptC hch (fun b q1 q2 => by omega)).mono (by omega)
      | false =>
        have ch3 := put1_chg w2 w.heap.size 1 (.slice ta t.length tc)
        have hl3 : (w2.setCell ⟨w.heap.size, 1, none⟩ (.slice ta t.length tc)).heap[w.heap.size]? = some (.cells #[.int .u64 (id.toNat : Int), .slice ta t.length tc, .slice ea e.length ec, .int .u64 cf, .int .u64 (vr.toNat : Int), .slice pa ps.length pk] 34 (0, 0)) := put1_block hl2 _
        have hh3 := (ch3.block (w.heap.size + 1) (lt_of_some hh2) (by omega)).trans hh2
        have hz3 := (ch3.block (w.heap.size + 1 + 1) (lt_of_some hz2) (by omega)).trans hz2
        have hB3 := hB2.trans (ch3.below (fun b q => by omega) hB2.size)
        obtain ⟨a0, a1, a2, a3, a4, a5, az⟩ := cells6 hl2
        obtain ⟨b0, b1, b2, b3, b4, b5, _⟩ := cells6 hh2
        have azi := az 1
        have az4 := az 4
        clear az ch3
        go_upto_region 7 with fail
        generalize (w2.setCell ⟨w.heap.size, 1, none⟩ (.slice ta t.length tc)) = w3 at *
        clear a0 a1 a2 a3 a4 a5 b0 b1 b2 b3 b4 b5 azi az4 hl2 hh2 hz2
        obtain ⟨a0, a1, a2, a3, a4, a5, az⟩ := cells6 hl3
        obtain ⟨b0, b1, b2, b3, b4, b5, _⟩ := cells6 hh3
        have az4 := az 4
        clear az
        have ch4 := put1_chg w3 w.heap.size 4 (.int .u64 (M : Int))
        have hl4 : (w3.setCell ⟨w.heap.size, 4, none⟩ (.int .u64 (M : Int))).heap[w.heap.size]? = some (.cells #[.int .u64 (id.toNat : Int), .slice ta t.length tc, .slice ea e.length ec, .int .u64 cf, .int .u64 (M : Int), .slice pa ps.length pk] 34 (0, 0)) := put1_block hl3 _
        have hz4 := (ch4.block (w.heap.size + 1 + 1) (lt_of_some hz3) (by omega)).trans hz3
        have hB4 := hB3.trans (ch4.below (fun b q => by omega) hB3.size)
        clear ch4
        obtain ⟨c0, c1, c2, c3, c4, c5, _⟩ := cells6 hl4
        go_wp2_with fail
        generalize (w3.setCell ⟨w.heap.size, 4, none⟩ (.int .u64 (M : Int))) = w4 at *
        have hrd := HRD0.out w4 hB4
        have hln := HLN.out
        refine (clone_rg hrd.2.2.2.1 hrd.2.1 hrd.2.2.1 hln.2.2.1 hln.2.1 (by omega)).mono ?_
        clear a0 a1 a2 a3 a4 a5 b0 b1 b2 b3 b4 b5 az4 c0 c1 c2 c3 c4 c5 hrd hl3 hh3 hz3
        rintro x w5 ⟨sv', ev', pv', rfl, ow, hb5⟩
        have hz5 := (hb5.block _ (lt_of_some hz4)).trans hz4
        have hB5 := hB4.trans (hb5.mono hB4.size)
        have hs4 := lt_of_some hz4
        obtain ⟨g1, d1, rfl⟩ := ow.s.rd.shp
        obtain ⟨g2, d2, rfl⟩ := ow.e.rd.shp
        obtain ⟨g3, d3, rfl, _⟩ := ow.p.rd.shape
        obtain ⟨z0, z1, z2, z3, z4, z5, zz⟩ := cells6 hz5
        have zz0 := zz 0
        have zz1 := zz 1
        have zz2 := zz 2
        have zz3 := zz 3
        have zz4 := zz 4
        have zz5 := zz 5
        clear zz
        have HZ : Hid _ := And.intro (cells6 (set6_block hz5 (.int .u64 (id.toNat : Int)) (.slice g1 t.length d1) (.slice g2 e.length d2) (.int .u64 cf) (.int .u64 (M : Int)) (.slice g3 ps.length d3))) (set6_chg w5 (w.heap.size + 1 + 1) (.int .u64 (id.toNat : Int)) (.slice g1 t.length d1) (.slice g2 e.length d2) (.int .u64 cf) (.int .u64 (M : Int)) (.slice g3 ps.length d3))
        have HOW : Hid (OwR w4.heap.size w5 (.slice g1 t.length d1) (.slice g2 e.length d2) (.slice g3 ps.length d3) t e ps) := ow
        clear ow hz4 hz5
        go_wp2_with fail
        obtain ⟨⟨k0, k1, k2, k3, k4, k5, _⟩, hch⟩ := HZ.out
        generalize ((((((w5.setCell ⟨w.heap.size + 1 + 1, 0, none⟩ (.int .u64 (id.toNat : Int))).setCell ⟨w.heap.size + 1 + 1, 1, none⟩ (.slice g1 t.length d1)).setCell ⟨w.heap.size + 1 + 1, 2, none⟩ (.slice g2 e.length d2)).setCell ⟨w.heap.size + 1 + 1, 3, none⟩ (.int .u64 cf)).setCell ⟨w.heap.size + 1 + 1, 4, none⟩ (.int .u64 (M : Int))).setCell ⟨w.heap.size + 1 + 1, 5, none⟩ (.slice g3 ps.length d3)) = wz at *
        refine bodyPost_ret (v := .tuple #[.agg #[.int .u64 (id.toNat : Int), .slice g1 t.length d1, .slice g2 e.length d2, .int .u64 cf, .int .u64 (M : Int), .slice g3 ps.length d3], .int .i64 0]) (by simp [results, Try.results49, go_sem, k0, k1, k2, k3, k4, k5]; try rfl) rfl ?_
        refine Or.inr ⟨rfl, _, _, _, by rw [← HM.out], ?_, hB5.trans (hch.below (fun b q => by omega) hB5.size)⟩
        exact (HOW.out.keptC hch (fun b q1 q2 => by omega)).mono (by omega)
end Go.Proofs.Ytlfdcnojbbigbaa
