/- PdMerges where the region is split. -/
import Derived.Test.YtlfdcnojbbigbaaG42
import Derived.Test.YtlfdcnojbbigbaaG45
import Derived.Deep.RegionHeld3
import Derived.Deep.CutRange
namespace Go.Proofs.Ytlfdcnojbbigbaa
open Go.RowKit Go.Maps
set_option linter.unusedVariables false
set_option linter.unusedSimpArgs false
set_option maxRecDepth 100000

set_option maxHeartbeats 4000000 in
theorem pdMerges_ok {kv mv : Value} {key : List UInt8} {nm : Nat} {mf : Nat → Bool} (n : UInt64) (first : Bool) {w : World} (HM : ∀ (c : PC) (w : World), key.length ≠ 0 → key.length ≤ 64 → RdC w (rcO c) [] key [Pe1] → RdC w (rcR c) key [] [Pe8] → c.oid = 1 → c.rid = 7 → c.ovr = 2 → c.rvr = 2 → Merges c w) (hk : Rd w kv key) (hm : RdB w mv nm mf) (hbad : ¬ (key.length = 0 ∨ 64 < key.length)) :
    Calls Try.prog 3 #[.int .u64 (n.toNat : Int), kv, .bool first, mv] w fun e w' => e = .returned (.bool true) ∧ Below w.heap.size w w' := by
  have haw := pdawake_any w
  have hnew := fun W => pnew_any 1 (by omega) (by omega) W
  obtain ⟨mo, mc, rfl, hm1, hm2, hm3⟩ := hm
  obtain ⟨m, hmm, hml⟩ := pm_n n
  obtain ⟨N, hN⟩ : ∃ N, 1 + m = N := ⟨_, rfl⟩
  have gN : (1 : Int) + (m : Int) = (N : Int) := by omega
  have hN1 : 1 ≤ N ∧ N ≤ 1125899906842624 := by omega
  have hkl := hk.len
  unfold maxLen at hkl
  obtain ⟨ka, kc, rfl⟩ := hk.shp
  go_enter Try.func3, Try.ntmps3
  go_wp2_with fail
  refine haw.mono ?_
  rintro e w1 ⟨rfl, hb1⟩
  go_wp2_with fail
  refine (hnew _).mono ?_
  rintro e w2 ⟨rfl, hd2, hp0, hp1, hp2, hb2⟩
  have hbs := hb1.size
  have hB2 : Below w.heap.size w w2 := hb1.trans (hb2.mono hbs)
  obtain ⟨p, hp⟩ : ∃ p, w1.heap.size + 3 = p := ⟨_, rfl⟩
  rw [hp] at hd2 ⊢
  have hmm0 := Mm.made w2 _ hp1
  have hgs0 := Gs.made w2 _ hp2
  have hpl := hd2.lt
  go_upto_region 6 with fail
  obtain ⟨hx0, hx1, hB3⟩ := two_new w2 (.cells #[.int .u64 1, .int .i64 1, .bool false] 31) (.cells #[.int .u64 1, .slice none 0 0, .slice none 0 0, .int .u64 1, .int .u64 1, .slice (some ⟨w2.heap.size, 0, none⟩) 1 1] 34)
  have hpe := (rdpe_m1 w2 w2.heap.size rfl 31).below ((Below.refl _ _).alloc (Nat.le_refl _) (.cells #[.int .u64 1, .slice none 0 0, .slice none 0 0, .int .u64 1, .int .u64 1, .slice (some ⟨w2.heap.size, 0, none⟩) 1 1] 34)) (Nat.le_refl _)
  generalize World.alloc (World.alloc w2 _) _ = W3 at *
  obtain ⟨z0, z1, z2, z3, z4, z5, _⟩ := cells6 hx1
  have hs3 := hB3.size
  have hpe4 := hpe.below ((Below.refl _ W3).alloc (Nat.le_refl _) (.cells #[.int .u64 8] 22)) (Nat.le_refl _)
  have hB4 : Below w.heap.size w (W3.alloc (.cells #[.int .u64 8] 22)) := (hB2.trans (hB3.mono hB2.size)).alloc (by have := hB2.size; omega) _
  have hk4 := hk.below hB4 (Nat.le_refl _)
  have hru := ru_m1 W3 W3.heap.size rfl 22
  have hmm4 := (hmm0.below hB3 (Nat.le_refl _)).below ((Below.refl _ W3).alloc (Nat.le_refl _) (.cells #[.int .u64 8] 22)) (Nat.le_refl _)
  have hgs4 := (hgs0.below hB3 (Nat.le_refl _)).below ((Below.refl _ W3).alloc (Nat.le_refl _) (.cells #[.int .u64 8] 22)) (Nat.le_refl _)
  have hd4 := (hd2.belowN hB3 (Nat.le_refl _)).belowN ((Below.refl _ W3).alloc (Nat.le_refl _) (.cells #[.int .u64 8] 22)) (Nat.le_refl _)
  have hs4 : (W3.alloc (.cells #[.int .u64 8] 22)).heap.size = W3.heap.size + 1 := by simp
  clear hmm0 hgs0 hd2 hpe hx0 hx1 hB3 hp0 hp1 hp2 hnew haw
  have hk0 : key.length ≠ 0 := fun q => hbad (.inl q)
  have hk64 : key.length ≤ 64 := by omega
  have hsp := pm_split_ok hpe4 hk4 hru hk0 hk64
  have HK0 : Hid _ := hk0
  clear hpe4 hk4 hru hbad hk0
  have hB2s := hB2.size
  go_wp2_with fail
  refine hsp.mono ?_
  rintro x w4 ⟨sa, sc, ea, ec, pa, pc, ta, tc, fa, fc, qa, qc, rfl, oa, ob, hb4⟩
  have hmm5 := hmm4.below hb4 (Nat.le_refl _)
  have hgs5 := hgs4.below hb4 (Nat.le_refl _)
  have hd5 := hd4.belowN hb4 (Nat.le_refl _)
  have hB5 : Below w.heap.size w w4 := hB4.trans (hb4.mono hB4.size)
  have hs5 := hb4.size
  clear hsp hmm4 hgs4 hd4 hB4 hb4 z0 z1 z2 z3 z4 z5
  go_upto_region 9 with fail
  obtain ⟨hya, hyb, hB6⟩ := two_new w4 (.cells #[.int .u64 1, .slice sa 0 sc, .slice ea key.length ec, .int .u64 1, .int .u64 2, .slice pa 1 pc] 34) (.cells #[.int .u64 7, .slice ta key.length tc, .slice fa 0 fc, .int .u64 1, .int .u64 2, .slice qa 1 qc] 34)
  have hs6 : (World.alloc (World.alloc w4 (.cells #[.int .u64 1, .slice sa 0 sc, .slice ea key.length ec, .int .u64 1, .int .u64 2, .slice pa 1 pc] 34)) (.cells #[.int .u64 7, .slice ta key.length tc, .slice fa 0 fc, .int .u64 1, .int .u64 2, .slice qa 1 qc] 34)).heap.size = w4.heap.size + 2 := by simp
  generalize World.alloc (World.alloc w4 _) _ = W6 at *
  obtain ⟨y0, y1, y2, y3, y4, y5, _⟩ := cells6 hya
  obtain ⟨z0, z1, z2, z3, z4, z5, _⟩ := cells6 hyb
  go_upto_region 10 with fail
  clear y0 y1 y2 y3 y4 y5 z0 z1 z2 z3 z4 z5
  obtain ⟨c, hc⟩ : ∃ c : PC, c = ⟨9, N, 0, 0, 0, 7, (ta, key.length, tc), (fa, 0, fc), 1, 2, (qa, 1, qc), 1, (sa, 0, sc), (ea, key.length, ec), 1, 2, (pa, 1, pc), false⟩ := ⟨_, rfl⟩
  have hb7 := (Below.refl W6.heap.size W6).alloc (Nat.le_refl _) (.cells (pcA c) 40)
  have hob : W6.alloc (.cells #[.int .i64 9, .int .u64 (N : Int), .int .u64 0, .int .u64 0, .int .i64 0, .int .u64 7, .slice ta key.length tc, .slice fa 0 fc, .int .u64 1, .int .u64 2, .slice qa 1 qc, .int .u64 1, .slice sa 0 sc, .slice ea key.length ec, .int .u64 1, .int .u64 2, .slice pa 1 pc, .bool false] 40) = W6.alloc (.cells (pcA c) 40) := by rw [hc]; rfl
  have hB := hB6.size
  have hI : MI (W3.heap.size + 1) p W6.heap.size w4.heap.size (w4.heap.size + 1) ⟨1 - 1, 0, 0, 0, w1.heap.size, (none, 0, 0), (none, 0, 0), w1.heap.size + 1, w1.heap.size + 2⟩ c 0 0 0 (fun _ => none) (fun _ => false) key w (W6.alloc (.cells (pcA c) 40)) := by
    rw [hs4] at oa ob
    have eO : rcO c = ⟨1, (sa, 0, sc), (ea, key.length, ec), 1, 2, (pa, 1, pc)⟩ := by rw [hc]; rfl
    have eR : rcR c = ⟨7, (ta, key.length, tc), (fa, 0, fc), 1, 2, (qa, 1, qc)⟩ := by rw [hc]; rfl
    refine MI.mk ((hd5.belowN hB6 (Nat.le_refl _)).belowN hb7 (Nat.le_refl _)) ((hmm5.below hB6 (Nat.le_refl _)).below hb7 (Nat.le_refl _)) ((hgs5.below hB6 (Nat.le_refl _)).below hb7 (Nat.le_refl _)) (heap_new W6 _) ?_ ?_ ?_ ?_ (hB5.trans ((hB6.trans (hb7.mono hB)).mono hB5.size)) ?_
    · rw [eO]; exact OwR.below (OwR.below oa hB6 (Nat.le_refl _)) hb7 (Nat.le_refl _)
    · rw [eR]; exact OwR.below (OwR.below ob hB6 (Nat.le_refl _)) hb7 (Nat.le_refl _)
    · rw [eO]; exact (hb7.block _ (by omega)).trans hya
    · rw [eR]; exact (hb7.block _ (by omega)).trans hyb
    · show w.heap.size ≤ w1.heap.size + 1 ∧ w1.heap.size + 1 < W3.heap.size + 1 ∧ w.heap.size ≤ w1.heap.size + 2 ∧ w1.heap.size + 2 < W3.heap.size + 1 ∧ _ ∧ _ ∧ _ ∧ _ ∧ w1.heap.size + 1 ≠ w1.heap.size + 2 ∧ p ≠ w1.heap.size + 1 ∧ p ≠ w1.heap.size + 2
      omega
  have HC : Hid (CF c N) := by rw [hc]; exact ⟨rfl, rfl, rfl, rfl, rfl, rfl, rfl, rfl⟩
  rw [hob]
  rw [hs6] at hI
  have hq : w4.heap.size ≠ w4.heap.size + 2 ∧ w4.heap.size + 1 ≠ w4.heap.size + 2 := by omega
  have HM2 : Hid (HMs key) := fun c w q1 q2 q3 q4 q5 q6 => HM c w HK0.out hk64 q1 q2 q3 q4 q5 q6
  have HMR : Hid (∀ i, i < nm → ∃ a, mo = some a ∧ w.cell? (a.add i) = some (.bool (mf i))) := hm3
  clear hob hc hs6 hb7 hya hyb hB6 hB hs5 hmm5 hgs5 hd5 hB5 oa ob hm3 HM hs3 hB2s hs4 hpl hB2 hb2 hbs hb1
  generalize World.alloc W6 _ = W7 at *
  generalize w1.heap.size + 1 = gm1 at *
  generalize w1.heap.size + 2 = gm2 at *
  generalize w4.heap.size + 2 = o at *
  generalize w4.heap.size + 1 = q2 at *
  generalize w4.heap.size = q1 at *
  generalize W3.heap.size + 1 = B at *
  obtain ⟨M, hM⟩ : ∃ M, N + 1 = M := ⟨_, rfl⟩
  have gM : (N : Int) + 1 = (M : Int) := by omega
  have hM1 : 1 ≤ M ∧ M ≤ 1125899906842625 ∧ M ≠ N := by omega
  clear hM
  obtain ⟨a0, a1, a2, a3, a4, a5, a6, a7, a8, a9, a10, a11, a12, a13, a14, a15, a16, a17⟩ := hI.cm.all
  have hdo := mi_open HM2.out hk64 hI HC.out ⟨hN1.1, by omega⟩ rfl rfl rfl (by decide) (by decide) (by decide)
  go_cut [15] from 27 to 173 (fun v wx => ∃ x8 s t, v = .pointer (some ⟨x8, 0, none⟩) ∧ Rz x8 0 0 1 wx ∧ x8 ≠ o ∧ B ≤ x8 ∧ MI B p o q1 q2 ⟨1 - 1, 0, 0, 0, w1.heap.size, (none, 0, 0), (none, 0, 0), gm1, gm2⟩ c 1 2 2 (mPut (fun _ => none) N (.agg (mgA N s t 1))) (gPut (gPut (fun _ => false) 7) 1) key w wx ∧ MJ B o ⟨1 - 1, 0, 0, 0, w1.heap.size, (none, 0, 0), (none, 0, 0), gm1, gm2⟩ s t key wx)
  case first =>
    as_aux_lemma =>
    go_wp2_with fail
    refine hdo.mono ?_
    rintro e w8 ⟨rfl, s, t, hI1, hJ1, hc8⟩
    have hol := hI1.cm.lt
    clear hdo a0 a1 a2 a3 a4 a5 a6 a7 a8 a9 a10 a11 a12 a13 a14 a15 a16 a17 hI
    simp only [prA]
    go_wp2_with fail
    go_meet
    exact ⟨_, s, t, rfl, heap_new w8 _, by omega, hI1.bl2, hI1.alloc _, hJ1.alloc _⟩
  case rest =>
  obtain ⟨x8, s, t, rfl, hz8, hxo, hx8, hI1, hJ1⟩ := hcut
  clear hdo a0 a1 a2 a3 a4 a5 a6 a7 a8 a9 a10 a11 a12 a13 a14 a15 a16 a17 hI
  have hf1 := hI1.cm.froz 1
  have hc1 : World.cell? _ ⟨o, 1, none⟩ = some (.int .u64 (c.n : Int)) := hI1.cm.at_ rfl
  have hol := hI1.cm.lt
  have hI2 := hI1.setN M hq.1 hq.2
  have hJ2 := hJ1.setN hI1.cm (.int .u64 (M : Int))
  have hz2 := hz8.next (chg_p o 1 (.int .u64 (M : Int)) _) hxo
  clear hI1 hJ1 hz8
  go_upto_region 12 with fail
  clear hc1 hf1
  generalize World.setCell _ ⟨o, 1, none⟩ _ = W9 at *
  obtain ⟨a0, a1, a2, a3, a4, a5, a6, a7, a8, a9, a10, a11, a12, a13, a14, a15, a16, a17⟩ := hI2.cm.all
  have hdo := mi_known HM2.out hk64 hI2 HC.out.setN ⟨hM1.1, hM1.2.1⟩ (id := 0) (s' := ⟨0, (none, 0, 0), (none, 0, 0), 0, 0, (none, 0, 0)⟩) (t' := ⟨0, (none, 0, 0), (none, 0, 0), 0, 0, (none, 0, 0)⟩) (st := 0) (by unfold mPut; rw [if_neg hM1.2.2]; exact zeroM_eq) (.inr rfl) hJ2
  go_cut [16] from 27 to 173 (fun v wx => ∃ x9, v = .pointer (some ⟨x9, 0, none⟩) ∧ Rz x9 161 0 0 wx ∧ Rz x8 0 0 1 wx ∧ x9 ≠ o ∧ B ≤ x9 ∧ MI B p o q1 q2 ⟨1 - 1, 0, 0, 0, w1.heap.size, (none, 0, 0), (none, 0, 0), gm1, gm2⟩ { c with n := M } 1 2 2 (mPut (fun _ => none) N (.agg (mgA N s t 1))) (gPut (gPut (fun _ => false) 7) 1) key w wx ∧ MJ B o ⟨1 - 1, 0, 0, 0, w1.heap.size, (none, 0, 0), (none, 0, 0), gm1, gm2⟩ s t key wx)
  case first =>
    as_aux_lemma =>
    go_wp2_with fail
    refine hdo.mono ?_
    rintro e w9 ⟨rfl, hI3, hJ3, hc9⟩
    have hol := hI3.cm.lt
    clear hdo a0 a1 a2 a3 a4 a5 a6 a7 a8 a9 a10 a11 a12 a13 a14 a15 a16 a17 hI2
    simp only [prA]
    go_wp2_with fail
    go_meet
    exact ⟨_, rfl, heap_new w9 _, (hz2.nextD hc9 hx8 ⟨hI3.ord.2.1, hI3.ord.2.2.2.1⟩).next (Chg.alloc (Chg.refl (fun _ => False) _) _) (fun q => q), by omega, hI3.bl2, hI3.alloc _, hJ3.alloc _⟩
  case rest =>
  obtain ⟨x9, rfl, hz9, hz8, hx9o, hx9, hI3, hJ3⟩ := hcut
  clear hdo a0 a1 a2 a3 a4 a5 a6 a7 a8 a9 a10 a11 a12 a13 a14 a15 a16 a17 hI2 hJ2
  have hmg := mi_merge hI3 hJ3 (N := N) (by omega) (st := 1) (by unfold mPut; rw [if_pos rfl]) hk64
  go_upto_region 13 with fail
  go_wp2_with fail
  refine hmg.mono ?_
  rintro e wA ⟨sa', sc', ea', ec', pa', pc', ta', tc', fa', fc', qa', qc', rfl, ⟨hs1, hs2, hs3⟩, ⟨ht1, ht2, ht3⟩, hI4, hJ4, hcA⟩
  have hz9a := hz9.nextD hcA hx9 ⟨hI4.ord.2.1, hI4.ord.2.2.2.1⟩
  have hz8a := hz8.nextD hcA hx8 ⟨hI4.ord.2.1, hI4.ord.2.2.2.1⟩
  clear hmg hz9 hz8 hI3 hJ3 hcA
  go_upto_region 14 with fail
  obtain ⟨hgs, hgd, hbn⟩ := two_new wA (.cells #[.int .u64 7, .slice sa' key.length sc', .slice ea' 0 ec', .int .u64 1, .int .u64 2, .slice pa' 1 pc'] 34) (.cells #[.int .u64 1, .slice ta' 0 tc', .slice fa' key.length fc', .int .u64 1, .int .u64 2, .slice qa' 1 qc'] 34)
  have hI5 := hI4.below hbn
  have hJ5 := hJ4.below hbn
  have hz9b := hz9a.next (Chg.of_below hbn) (fun q => by have := hz9a.lt; omega)
  have hz8b := hz8a.next (Chg.of_below hbn) (fun q => by have := hz8a.lt; omega)
  have hs1' := hs1.below hbn (Nat.le_refl _)
  have hs2' := hs2.below hbn (Nat.le_refl _)
  have hs3' := hs3.below hbn (Nat.le_refl _)
  have ht1' := ht1.below hbn (Nat.le_refl _)
  have ht2' := ht2.below hbn (Nat.le_refl _)
  have ht3' := ht3.below hbn (Nat.le_refl _)
  clear hI4 hJ4 hz9a hz8a hs1 hs2 hs3 ht1 ht2 ht3 hbn
  generalize World.alloc (World.alloc wA _) _ = WB at *
  generalize wA.heap.size + 1 = gd at *
  generalize wA.heap.size = gs at *
  obtain ⟨b1, d1, b2, d2, b3, d3, b4, d4, b5, d5, b6, d6, ⟨hqb, rb1, rb2, rb3⟩, ⟨hqa, ra1, ra2, ra3⟩⟩ := hI5.blocks HC.out.setN
  have HF1 : Hid _ := same7 hs1' hs2' hs3' rb1 rb2 rb3
  have HF2 : Hid _ := same1 ht1' ht2' ht3' ra1 ra2 ra3
  have HK : Hid (∀ W, Below WB.heap.size WB W → W.cell? ⟨x8, 0, none⟩ = some (.int .i64 0) ∧ W.cell? ⟨x8, 2, none⟩ = some (.int .i64 1) ∧ W.cell? ⟨x9, 0, none⟩ = some (.int .i64 161) ∧ W.cell? ⟨gs, 0, none⟩ = some (.int .u64 7) ∧ W.cell? ⟨gs, 1, none⟩ = some (.slice sa' key.length sc') ∧ W.cell? ⟨gs, 2, none⟩ = some (.slice ea' 0 ec') ∧ W.cell? ⟨gs, 3, none⟩ = some (.int .u64 1) ∧ W.cell? ⟨gs, 4, none⟩ = some (.int .u64 2) ∧ W.cell? ⟨gs, 5, none⟩ = some (.slice pa' 1 pc') ∧ W.cell? ⟨gd, 0, none⟩ = some (.int .u64 1) ∧ W.cell? ⟨gd, 1, none⟩ = some (.slice ta' 0 tc') ∧ W.cell? ⟨gd, 2, none⟩ = some (.slice fa' key.length fc') ∧ W.cell? ⟨gd, 3, none⟩ = some (.int .u64 1) ∧ W.cell? ⟨gd, 4, none⟩ = some (.int .u64 2) ∧ W.cell? ⟨gd, 5, none⟩ = some (.slice qa' 1 qc') ∧ W.cell? ⟨q2, 0, none⟩ = some (.int .u64 7) ∧ W.cell? ⟨q2, 1, none⟩ = some (.slice b1 key.length d1) ∧ W.cell? ⟨q2, 2, none⟩ = some (.slice b2 0 d2) ∧ W.cell? ⟨q2, 3, none⟩ = some (.int .u64 1) ∧ W.cell? ⟨q2, 4, none⟩ = some (.int .u64 2) ∧ W.cell? ⟨q2, 5, none⟩ = some (.slice b3 1 d3) ∧ W.cell? ⟨q1, 0, none⟩ = some (.int .u64 1) ∧ W.cell? ⟨q1, 1, none⟩ = some (.slice b4 0 d4) ∧ W.cell? ⟨q1, 2, none⟩ = some (.slice b5 key.length d5) ∧ W.cell? ⟨q1, 3, none⟩ = some (.int .u64 1) ∧ W.cell? ⟨q1, 4, none⟩ = some (.int .u64 2) ∧ W.cell? ⟨q1, 5, none⟩ = some (.slice b6 1 d6)) := fun W hW => by
    have e1 := hz8b.next (Chg.of_below hW) (fun q => by have := hz8b.lt; omega)
    have e2 := hz9b.next (Chg.of_below hW) (fun q => by have := hz9b.lt; omega)
    obtain ⟨m0, _, m2⟩ := e1.cells
    obtain ⟨n0, _, _⟩ := e2.cells
    have hlt : ∀ {b ob}, WB.heap[b]? = some ob → W.heap[b]? = some ob := fun {b ob} q => (hW.block b (Array.getElem?_eq_some_iff.1 q).1).trans q
    obtain ⟨s0, s1, s2, s3, s4, s5, _⟩ := cells6 (hlt hgs)
    obtain ⟨t0, t1, t2, t3, t4, t5, _⟩ := cells6 (hlt hgd)
    obtain ⟨y0, y1, y2, y3, y4, y5, _⟩ := cells6 (hlt hqb)
    obtain ⟨z0, z1, z2, z3, z4, z5, _⟩ := cells6 (hlt hqa)
    exact ⟨m0, m2, n0, s0, s1, s2, s3, s4, s5, t0, t1, t2, t3, t4, t5, y0, y1, y2, y3, y4, y5, z0, z1, z2, z3, z4, z5⟩
  have hbd : Below WB.heap.size WB WB.drew := (Below.refl _ _).drew
  have hI6 : Hid _ := fun W (hW : Below WB.heap.size WB W) => And.intro (hI5.below hW) (hJ5.below hW)
  clear hI5 hJ5 hz9b hz8b hs1' hs2' hs3' ht1' ht2' ht3' hqb rb1 rb2 rb3 hqa ra1 ra2 ra3 hgs hgd
  go_cut [101] from 27 to 173 (fun v wx => v = .bool false ∧ Below WB.heap.size WB wx)
  case first =>
    as_aux_lemma =>
    obtain ⟨v0, v1, v2, v3, v4, v5, v6, v7, v8, v9, v10, v11, v12, v13, v14, v15, v16, v17, v18, v19, v20, v21, v22, v23, v24, v25, v26⟩ := HK.out WB (Below.refl _ _)
    go_wp2_with fail
    refine (HF1.out _ (Below.refl _ _)).mono ?_
    rintro e wy ⟨rfl, hbk1⟩
    clear v0 v1 v2 v3 v4 v5 v6 v7 v8 v9 v10 v11 v12 v13 v14 v15 v16 v17 v18 v19 v20 v21 v22 v23 v24 v25 v26
    obtain ⟨y0, y1, y2, y3, y4, y5, y6, y7, y8, y9, y10, y11, y12, y13, y14, y15, y16, y17, y18, y19, y20, y21, y22, y23, y24, y25, y26⟩ := HK.out wy hbk1
    go_wp2_with fail
    refine (HF2.out _ hbk1).mono ?_
    rintro e wz ⟨rfl, hbk2⟩
    go_wp2_with fail
    go_meet
    exact ⟨rfl, hbk2⟩
  case rest =>
  obtain ⟨rfl, hbk⟩ := hcut
  obtain ⟨hI5, hJ5⟩ := hI6.out _ hbk
  clear hI6 HF1 HF2 HK hbd hbk
  obtain ⟨S, hS⟩ : ∃ S : Int, (if first then 2 else 3) = S := ⟨_, rfl⟩
  have HS : Hid _ := hS
  go_upto_if 102 with fail
  go_cut [20] from 27 to 173 (fun v wx => v = .int .i64 S ∧ wx = wc)
  case first =>
    as_aux_lemma =>
    cases first with
    | true =>
      have hS2 : S = 2 := HS.out.symm
      subst hS2
      go_wp2_with fail
      go_meet
      exact ⟨rfl, rfl⟩
    | false =>
      have hS2 : S = 3 := HS.out.symm
      subst hS2
      go_wp2_with fail
      go_meet
      exact ⟨rfl, rfl⟩
  case rest =>
  obtain ⟨rfl, rfl⟩ := hcut
  have hdo := mi_decide first hI5 hJ5 (N := N) (by omega) (by unfold mPut; rw [if_pos rfl]) rfl rfl (by decide)
  rw [hS] at hdo
  clear hS
  obtain ⟨F2, hF2⟩ : ∃ F2, mPut (mPut (fun _ => none) N (.agg (mgA N s t 1))) N (.agg (mgA N s t S)) = F2 := ⟨_, rfl⟩
  obtain ⟨g2, hg2⟩ : ∃ g2, gDel (gDel (gPut (gPut (fun _ => false) 7) 1) 7) 1 = g2 := ⟨_, rfl⟩
  have HF2 : Hid (F2 N = some (.agg (mgA N s t S)) ∧ F2 M = none ∧ g2 7 = false ∧ g2 1 = false) := by
    rw [← hF2, ← hg2]
    refine ⟨by unfold mPut; rw [if_pos rfl], by unfold mPut; rw [if_neg hM1.2.2, if_neg hM1.2.2], rfl, rfl⟩
  rw [hF2, hg2] at hdo
  clear hF2 hg2
  have hfld : ∀ W (a : Int) (b : Int) (c : Int), (Instr.field 42 (.agg #[.int .i64 a, .int .u64 b, .int .i64 c]) 2).run Try.prog W = .ok (.int .i64 c) W := fun _ _ _ _ => by kernel_rfl
  go_upto_region 19 with fail
  go_cut [110] from 27 to 173 (fun v wx => v = .bool false ∧ MI B p o q1 q2 ⟨1 - 1, 0, 0, 0, w1.heap.size, (none, 0, 0), (none, 0, 0), gm1, gm2⟩ { c with n := M } 2 2 0 F2 g2 key w wx ∧ MJ B o ⟨1 - 1, 0, 0, 0, w1.heap.size, (none, 0, 0), (none, 0, 0), gm1, gm2⟩ s t key wx)
  case first =>
    as_aux_lemma =>
    go_wp2_with fail
    refine hdo.mono ?_
    rintro e w9 ⟨rfl, hI3, hJ3, hc9⟩
    simp only [prA]
    go_wp2_with fail
    go_meet
    exact ⟨by simp, hI3, hJ3⟩
  case rest =>
  obtain ⟨rfl, hI6, hJ6⟩ := hcut
  clear hdo hI5 hJ5
  go_wp2_with fail
  go_loopw [21, 22] (fun i _ wr => ∃ j : Nat, j ≤ nm ∧ j ≤ 20 ∧ i = .int .i64 j ∧ MI B p o q1 q2 ⟨1 - 1, 0, 0, 0, w1.heap.size, (none, 0, 0), (none, 0, 0), gm1, gm2⟩ { c with n := M } 2 2 0 F2 g2 key w wr ∧ MJ B o ⟨1 - 1, 0, 0, 0, w1.heap.size, (none, 0, 0), (none, 0, 0), gm1, gm2⟩ s t key wr) (fun i _ _ => 20 - (intOf i).toNat)
  case atStart => exact ⟨0, Nat.zero_le _, by omega, rfl, hI6, hJ6⟩
  case round =>
    obtain ⟨j, hj, hj20, rfl, hI7, hJ7⟩ := hrel
    clear hI6 hJ6
    go_upto_region 22 with fail
    go_cut [118] from 111 to 137 (fun s wx => s = .bool (decide (j < nm ∧ j < 20)) ∧ wx = wr)
    case first =>
      as_aux_lemma =>
      by_cases q1 : j < nm
      · have g1 : (j : Int) < (nm : Int) := by omega
        by_cases q2 : j < 20
        · have g2 : (j : Int) < 20 := by omega
          go_wp2_with fail
          go_meet
          exact ⟨by simp [q1, q2], rfl⟩
        · have g2 : decide ((j : Int) < 20) = false := decide_eq_false (by omega)
          go_wp2_with fail
          go_meet
          exact ⟨by simp [q1, q2], rfl⟩
      · have g1 : decide ((j : Int) < (nm : Int)) = false := decide_eq_false (by omega)
        go_wp2_with fail
        go_meet
        exact ⟨by simp [q1], rfl⟩
    case rest =>
    obtain ⟨rfl, rfl⟩ := hcut
    by_cases hlt : j < nm ∧ j < 20
    · rw [decide_eq_true hlt]
      as_aux_lemma =>
      obtain ⟨a, ea, hc0⟩ := HMR.out j hlt.1
      have hc1 : wc.cell? (a.add j) = some (.bool (mf j)) := by rw [hI7.bl.cell (World.block_lt_of_cell? w _ hc0)]; exact hc0
      subst ea
      have hki : (j : Int) < (nm : Int) := by omega
      have hdo := mi_decided first (mf j) hI7 hJ7 (N := N) (by omega) (by rw [HS.out]; exact HF2.out.1)
      rw [HS.out] at hdo
      clear hc0 hI7 hJ7
      generalize mf j = bj at *
      go_wp2_with fail
      refine hdo.mono ?_
      rintro e w9 ⟨rfl, hI8, hJ8, -⟩
      simp only [prA]
      clear hdo hc1
      have hsz := hI8.bl.size
      go_wp2_with fail
      exact ⟨⟨j + 1, by omega, by omega, by go_num, hI8.alloc _, hJ8.alloc _⟩, by simp [intOf]; omega⟩
    · rw [decide_eq_false hlt]
      have hf1 := hI7.cm.froz 1
      have hc1 : World.cell? _ ⟨o, 1, none⟩ = some (.int .u64 (M : Int)) := hI7.cm.at_ rfl
      have hol := hI7.cm.lt
      have hI8 := hI7.setN N hq.1 hq.2
      have hJ8 := hJ7.setN hI7.cm (.int .u64 (N : Int))
      clear hI7 hJ7 hlt
      go_upto_region 28 with fail
      clear hc1 hf1
      generalize World.setCell _ ⟨o, 1, none⟩ _ = W9 at *
      obtain ⟨a0, a1, a2, a3, a4, a5, a6, a7, a8, a9, a10, a11, a12, a13, a14, a15, a16, a17⟩ := hI8.cm.all
      have hdo := mi_known HM2.out hk64 hI8 HC.out.setN.setN ⟨hN1.1, by omega⟩ (id := N) (s' := s) (t' := t) (st := S) (by rw [HF2.out.1]; rfl) (.inl (by rw [HF2.out.1]; rfl)) hJ8
      go_cut [23] from 103 to 173 (fun v wx => ∃ xa, v = .pointer (some ⟨xa, 0, none⟩) ∧ Rz xa 161 0 0 wx ∧ xa ≠ o ∧ B ≤ xa ∧ MI B p o q1 q2 ⟨1 - 1, 0, 0, 0, w1.heap.size, (none, 0, 0), (none, 0, 0), gm1, gm2⟩ { c with n := N } 2 2 0 F2 g2 key w wx ∧ MJ B o ⟨1 - 1, 0, 0, 0, w1.heap.size, (none, 0, 0), (none, 0, 0), gm1, gm2⟩ s t key wx)
      case first =>
        as_aux_lemma =>
        go_wp2_with fail
        refine hdo.mono ?_
        rintro e w9 ⟨rfl, hI3, hJ3, hc9⟩
        have hol := hI3.cm.lt
        clear hdo a0 a1 a2 a3 a4 a5 a6 a7 a8 a9 a10 a11 a12 a13 a14 a15 a16 a17 hI8
        simp only [prA]
        go_wp2_with fail
        go_meet
        exact ⟨_, rfl, heap_new w9 _, by omega, hI3.bl2, hI3.alloc _, hJ3.alloc _⟩
      case rest =>
      obtain ⟨xa, rfl, hza, hxao, hxa, hI7, hJ7⟩ := hcut
      clear hdo a0 a1 a2 a3 a4 a5 a6 a7 a8 a9 a10 a11 a12 a13 a14 a15 a16 a17 hI8 hJ8
      have hf1 := hI7.cm.froz 1
      have hc1 : World.cell? _ ⟨o, 1, none⟩ = some (.int .u64 (N : Int)) := hI7.cm.at_ rfl
      have hI8 := hI7.setN M hq.1 hq.2
      have hJ8 := hJ7.setN hI7.cm (.int .u64 (M : Int))
      have hzb := hza.next (chg_p o 1 (.int .u64 (M : Int)) _) hxao
      clear hI7 hJ7 hza
      go_upto_region 30 with fail
      clear hc1 hf1
      generalize World.setCell _ ⟨o, 1, none⟩ _ = W10 at *
      obtain ⟨a0, a1, a2, a3, a4, a5, a6, a7, a8, a9, a10, a11, a12, a13, a14, a15, a16, a17⟩ := hI8.cm.all
      have hdo := mi_open HM2.out hk64 hI8 HC.out.setN.setN.setN ⟨hM1.1, hM1.2.1⟩ HF2.out.2.1 HF2.out.2.2.1 HF2.out.2.2.2 (by decide) (by decide) (by decide)
      go_cut [24] from 103 to 173 (fun v wx => ∃ xb s' t', v = .pointer (some ⟨xb, 0, none⟩) ∧ Rz xb 0 0 1 wx ∧ Rz xa 161 0 0 wx ∧ B ≤ xb ∧ MI B p o q1 q2 ⟨1 - 1, 0, 0, 0, w1.heap.size, (none, 0, 0), (none, 0, 0), gm1, gm2⟩ { c with n := M } 3 4 2 (mPut F2 M (.agg (mgA M s' t' 1))) (gPut (gPut g2 7) 1) key w wx ∧ MJ B o ⟨1 - 1, 0, 0, 0, w1.heap.size, (none, 0, 0), (none, 0, 0), gm1, gm2⟩ s t key wx)
      case first =>
        as_aux_lemma =>
        go_wp2_with fail
        refine hdo.mono ?_
        rintro e w9 ⟨rfl, s', t', hI3, hJ3, hc9⟩
        have hJ4 := hJ8.step hc9
        have hzc := hzb.nextD hc9 hxa ⟨hI3.ord.2.1, hI3.ord.2.2.2.1⟩
        clear hdo a0 a1 a2 a3 a4 a5 a6 a7 a8 a9 a10 a11 a12 a13 a14 a15 a16 a17 hI8
        simp only [prA]
        go_wp2_with fail
        go_meet
        exact ⟨_, s', t', rfl, heap_new w9 _, hzc.next (Chg.alloc (Chg.refl (fun _ => False) _) _) (fun q => q), hI3.bl2, hI3.alloc _, hJ4.alloc _⟩
      case rest =>
      obtain ⟨xb, s', t', rfl, hzb2, hza2, hxb, hI9, hJ9⟩ := hcut
      clear hdo a0 a1 a2 a3 a4 a5 a6 a7 a8 a9 a10 a11 a12 a13 a14 a15 a16 a17 hI8 hJ8 hzb
      have hmg := mi_merge hI9 hJ9 (N := N) (by omega) (st := S) (by unfold mPut; rw [if_neg (fun q => hM1.2.2 q.symm)]; exact HF2.out.1) hk64
      go_upto_region 31 with fail
      go_wp2_with fail
      refine hmg.mono ?_
      rintro e wA ⟨sa', sc', ea', ec', pa', pc', ta', tc', fa', fc', qa', qc', rfl, -, -, hI4, hJ4, hcA⟩
      have hzaA := hza2.nextD hcA hxa ⟨hI4.ord.2.1, hI4.ord.2.2.2.1⟩
      have hzbA := hzb2.nextD hcA hxb ⟨hI4.ord.2.1, hI4.ord.2.2.2.1⟩
      obtain ⟨m0, m1, m2⟩ := hzaA.cells
      obtain ⟨m3, m4, m5⟩ := hzbA.cells
      have hfin := hI4.bl
      clear hmg hza2 hzb2 hI9 hJ9 hcA hI4 hJ4 hzaA hzbA
      go_wp2_with fail
      go_ret
      exact ⟨by simp, hfin⟩
end Go.Proofs.Ytlfdcnojbbigbaa
