/- The document's Decode of a region (tools/genrdec10.py). -/
import Derived.Test.YtnenfflkldpbgaaG7
import Derived.Test.YtnenfflkldpbgaaG5
import Derived.Deep.CutRange
namespace Go.Proofs.Ytnenfflkldpbgaa
open Go.RowKit
set_option linter.unusedVariables false
set_option maxRecDepth 100000

theorem psdc_at (fs : List (List UInt8)) (j : Nat) (hj : j < fs.length) : psdc (fs.drop j) = (pdc fs[j]).bind fun p => (psdc (fs.drop (j + 1))).map (p :: ·) := by
  rw [List.drop_eq_getElem_cons hj, psdc]
theorem rg_app (id cf vr : UInt64) (s e : List UInt8) (acc : List Pe) (p : Pe) (X : Option (List Pe)) : (X.map (p :: ·)).map (fun l => ((id, s, e, cf, vr, acc ++ l) : Rg)) = X.map (fun l => (id, s, e, cf, vr, (acc ++ [p]) ++ l)) := by
  cases X <;> simp
/-- A row of the call's own that has elements. -/
theorem Ows.at {B : Nat} {w : World} {v : Value} {ls : List (List UInt8)} {us : List Value} (h : Ows B w v ls us) (hl : 0 < ls.length) : ∃ g cap, v = .slice (some ⟨g, 0, none⟩) ls.length cap ∧ ls.length ≤ cap ∧ cap ≤ 9223372036854775807 ∧ ∀ j u, us[j]? = some u → w.cell? ⟨g, j, none⟩ = some u := by
  have hrow := h.row
  have hul := h.len
  rcases hrow.2 with ⟨hv, h0⟩ | ⟨g, cap, cur, hv, hg, hh, hn, hcap, hsz, htake⟩
  · omega
  · refine ⟨g, cap, by rw [hv, hul], by omega, by unfold maxLen at hcap; omega, fun j u hj => ?_⟩
    subst hv
    rw [hrow.cellAt j (by have := (List.getElem?_eq_some_iff.1 hj).1; omega)]
    exact hj

set_option maxHeartbeats 8000000 in
theorem rdecR_any {v : Value} {l : List UInt8} {w : World} (hr : Rd w v l) (hl : l.length ≤ 1099511627776) :
    Calls Try.prog 30 #[v] w fun x w' => ∃ sv ev pv, x = .returned (.tuple #[.agg #[.int .u64 (((rdc l).getD noRg).1.toNat : Int), sv, ev, .int .u64 (((rdc l).getD noRg).2.2.2.1.toNat : Int), .int .u64 (((rdc l).getD noRg).2.2.2.2.1.toNat : Int), pv], .int .i64 (if (rdc l).isSome then 0 else 12)]) ∧ Rd w' sv ((rdc l).getD noRg).2.1 ∧ Rd w' ev ((rdc l).getD noRg).2.2.1 ∧ RdPe w' pv ((rdc l).getD noRg).2.2.2.2.2 ∧ Below w.heap.size w w' := by
  have htr := rtakerow_any (hr.alloc (.cells #[.int .u64 0, .slice none 0 0, .slice none 0 0, .int .u64 0, .int .u64 0, .slice none 0 0] 28)) hl
  have hb0 : Below w.heap.size w (w.alloc (.cells #[.int .u64 0, .slice none 0 0, .slice none 0 0, .int .u64 0, .int .u64 0, .slice none 0 0] 28)) := u_al w _
  have hk0 : (w.alloc (.cells #[.int .u64 0, .slice none 0 0, .slice none 0 0, .int .u64 0, .int .u64 0, .slice none 0 0] 28)).heap[w.heap.size]? = some (.cells #[.int .u64 0, .slice none 0 0, .slice none 0 0, .int .u64 0, .int .u64 0, .slice none 0 0] 28 (0, 0)) := heap_alloc_new w _
  have hlen := tr_len l
  have hmem := tr_mem l
  unfold rdc
  generalize M.tr l = T at *
  obtain ⟨fs, er⟩ := T
  simp only [] at *
  have HD : Hid (∀ W, Below (w.alloc (.cells #[.int .u64 0, .slice none 0 0, .slice none 0 0, .int .u64 0, .int .u64 0, .slice none 0 0] 28)).heap.size (w.alloc (.cells #[.int .u64 0, .slice none 0 0, .slice none 0 0, .int .u64 0, .int .u64 0, .slice none 0 0] 28)) W → W.heap[w.heap.size]? = some (.cells #[.int .u64 0, .slice none 0 0, .slice none 0 0, .int .u64 0, .int .u64 0, .slice none 0 0] 28 (0, 0))) := fun W hW => (hW.block _ (lt_of_some hk0)).trans hk0
  have HB0 : Hid _ := hb0
  have HBAD : Hid (∀ W, Below (w.alloc (.cells #[.int .u64 0, .slice none 0 0, .slice none 0 0, .int .u64 0, .int .u64 0, .slice none 0 0] 28)).heap.size (w.alloc (.cells #[.int .u64 0, .slice none 0 0, .slice none 0 0, .int .u64 0, .int .u64 0, .slice none 0 0] 28)) W → (((((((W.setCell ⟨w.heap.size, 0, none⟩ (.int .u64 0)).setCell ⟨w.heap.size, 1, none⟩ (.slice none 0 0)).setCell ⟨w.heap.size, 2, none⟩ (.slice none 0 0)).setCell ⟨w.heap.size, 3, none⟩ (.int .u64 0)).setCell ⟨w.heap.size, 4, none⟩ (.int .u64 0)).setCell ⟨w.heap.size, 5, none⟩ (.slice none 0 0)).cell? ⟨w.heap.size, 0, none⟩ = some (.int .u64 0) ∧ ((((((W.setCell ⟨w.heap.size, 0, none⟩ (.int .u64 0)).setCell ⟨w.heap.size, 1, none⟩ (.slice none 0 0)).setCell ⟨w.heap.size, 2, none⟩ (.slice none 0 0)).setCell ⟨w.heap.size, 3, none⟩ (.int .u64 0)).setCell ⟨w.heap.size, 4, none⟩ (.int .u64 0)).setCell ⟨w.heap.size, 5, none⟩ (.slice none 0 0)).cell? ⟨w.heap.size, 1, none⟩ = some (.slice none 0 0) ∧ ((((((W.setCell ⟨w.heap.size, 0, none⟩ (.int .u64 0)).setCell ⟨w.heap.size, 1, none⟩ (.slice none 0 0)).setCell ⟨w.heap.size, 2, none⟩ (.slice none 0 0)).setCell ⟨w.heap.size, 3, none⟩ (.int .u64 0)).setCell ⟨w.heap.size, 4, none⟩ (.int .u64 0)).setCell ⟨w.heap.size, 5, none⟩ (.slice none 0 0)).cell? ⟨w.heap.size, 2, none⟩ = some (.slice none 0 0) ∧ ((((((W.setCell ⟨w.heap.size, 0, none⟩ (.int .u64 0)).setCell ⟨w.heap.size, 1, none⟩ (.slice none 0 0)).setCell ⟨w.heap.size, 2, none⟩ (.slice none 0 0)).setCell ⟨w.heap.size, 3, none⟩ (.int .u64 0)).setCell ⟨w.heap.size, 4, none⟩ (.int .u64 0)).setCell ⟨w.heap.size, 5, none⟩ (.slice none 0 0)).cell? ⟨w.heap.size, 3, none⟩ = some (.int .u64 0) ∧ ((((((W.setCell ⟨w.heap.size, 0, none⟩ (.int .u64 0)).setCell ⟨w.heap.size, 1, none⟩ (.slice none 0 0)).setCell ⟨w.heap.size, 2, none⟩ (.slice none 0 0)).setCell ⟨w.heap.size, 3, none⟩ (.int .u64 0)).setCell ⟨w.heap.size, 4, none⟩ (.int .u64 0)).setCell ⟨w.heap.size, 5, none⟩ (.slice none 0 0)).cell? ⟨w.heap.size, 4, none⟩ = some (.int .u64 0) ∧ ((((((W.setCell ⟨w.heap.size, 0, none⟩ (.int .u64 0)).setCell ⟨w.heap.size, 1, none⟩ (.slice none 0 0)).setCell ⟨w.heap.size, 2, none⟩ (.slice none 0 0)).setCell ⟨w.heap.size, 3, none⟩ (.int .u64 0)).setCell ⟨w.heap.size, 4, none⟩ (.int .u64 0)).setCell ⟨w.heap.size, 5, none⟩ (.slice none 0 0)).cell? ⟨w.heap.size, 5, none⟩ = some (.slice none 0 0)) ∧ Below w.heap.size w ((((((W.setCell ⟨w.heap.size, 0, none⟩ (.int .u64 0)).setCell ⟨w.heap.size, 1, none⟩ (.slice none 0 0)).setCell ⟨w.heap.size, 2, none⟩ (.slice none 0 0)).setCell ⟨w.heap.size, 3, none⟩ (.int .u64 0)).setCell ⟨w.heap.size, 4, none⟩ (.int .u64 0)).setCell ⟨w.heap.size, 5, none⟩ (.slice none 0 0))) := fun W hW => by
    have hk := HD.out W hW
    obtain ⟨k0, k1, k2, k3, k4, k5, _⟩ := cells6 (set6_block hk (.int .u64 0) (.slice none 0 0) (.slice none 0 0) (.int .u64 0) (.int .u64 0) (.slice none 0 0))
    have hB : Below w.heap.size w W := HB0.out.trans (hW.mono HB0.out.size)
    exact ⟨⟨k0, k1, k2, k3, k4, k5⟩, hB.trans ((set6_chg W w.heap.size _ _ _ _ _ _).below (fun b q => by omega) hB.size)⟩
  clear hb0 hk0
  by_cases her : er = 0
  · subst her
    rw [if_pos rfl]
    by_cases hf5 : fs.length < 5
    · have hR : rd5 fs = none := by
        match fs, hf5 with
        | [], _ => rfl
        | [_], _ => rfl
        | [_, _], _ => rfl
        | [_, _, _], _ => rfl
        | [_, _, _, _], _ => rfl
      rw [hR]
      simp only [Option.getD_none, Option.isSome_none]
      have g5 : ((fs.length : Nat) : Int) < 5 := by omega
      clear hR hf5
      go_enter Try.func30, Try.ntmps30
      go_wp2_with fail
      refine htr.mono ?_
      rintro x w2 ⟨v1, us, rfl, hos, hb1⟩
      obtain ⟨ao, c, rfl, h1, h2, h4⟩ := hos.rds
      clear h4 hos h1
      obtain ⟨z0, z1, z2, z3, z4, z5, zz⟩ := cells6 (HD.out w2 hb1)
      have zz0 := zz 0
      have zz1 := zz 1
      have zz2 := zz 2
      have zz3 := zz 3
      have zz4 := zz 4
      have zz5 := zz 5
      clear zz
      have HBZ : Hid _ := HBAD.out w2 hb1
      go_wp2_with fail
      obtain ⟨⟨k0, k1, k2, k3, k4, k5⟩, hbz⟩ := HBZ.out
      generalize ((((((w2.setCell ⟨w.heap.size, 0, none⟩ (.int .u64 0)).setCell ⟨w.heap.size, 1, none⟩ (.slice none 0 0)).setCell ⟨w.heap.size, 2, none⟩ (.slice none 0 0)).setCell ⟨w.heap.size, 3, none⟩ (.int .u64 0)).setCell ⟨w.heap.size, 4, none⟩ (.int .u64 0)).setCell ⟨w.heap.size, 5, none⟩ (.slice none 0 0)) = wz at *
      (try simp only [Exit.inBlock, Exit.then])
      refine bodyPost_ret (v := .tuple #[.agg #[.int .u64 0, .slice none 0 0, .slice none 0 0, .int .u64 0, .int .u64 0, .slice none 0 0], .int .i64 12]) (by simp [results, Try.results30, go_sem, k0, k1, k2, k3, k4, k5]; try rfl) rfl ?_
      exact ⟨_, _, _, rfl, Rd.nil _, Rd.nil _, RdPe.nil _, hbz⟩
    · obtain ⟨f0, s, e, f3, f4, r, rfl⟩ : ∃ f0 s e f3 f4 r, fs = f0 :: s :: e :: f3 :: f4 :: r := by
        match fs, hf5 with
        | f0 :: s :: e :: f3 :: f4 :: r, _ => exact ⟨f0, s, e, f3, f4, r, rfl⟩
        | [], h => exact absurd (by simp) h
        | [_], h => exact absurd (by simp) h
        | [_, _], h => exact absurd (by simp) h
        | [_, _, _], h => exact absurd (by simp) h
        | [_, _, _, _], h => exact absurd (by simp) h
      clear hf5
      have hn : (f0 :: s :: e :: f3 :: f4 :: r).length = r.length + 5 := by simp
      have HNB : Hid (r.length + 5 ≤ 1099511627776) := by simp at hlen; show _ ≤ _; omega
      have hm0 := hmem f0 (by simp)
      have hm3 := hmem f3 (by simp)
      have hm4 := hmem f4 (by simp)
      have hmr : Hid (∀ f ∈ (f0 :: s :: e :: f3 :: f4 :: r), f.length ≤ 1099511627776) := fun f hf => by have := hmem f hf; omega
      have hN1 : Hid (∀ W u, Rd W u f0 → Calls Try.prog 55 #[u] W fun e w' => e = .returned (.tuple #[.int .u64 (nv f0 : Int), .bool (nb f0)]) ∧ Below W.heap.size W w') := fun W u h => rnum_any h (by omega)
      have hN3 : Hid (∀ W u, Rd W u f3 → Calls Try.prog 55 #[u] W fun e w' => e = .returned (.tuple #[.int .u64 (nv f3 : Int), .bool (nb f3)]) ∧ Below W.heap.size W w') := fun W u h => rnum_any h (by omega)
      have hN4 : Hid (∀ W u, Rd W u f4 → Calls Try.prog 55 #[u] W fun e w' => e = .returned (.tuple #[.int .u64 (nv f4 : Int), .bool (nb f4)]) ∧ Below W.heap.size W w') := fun W u h => rnum_any h (by omega)
      rw [show rd5 (f0 :: s :: e :: f3 :: f4 :: r) = (M.nF [f0, f3, f4]).bind (rg3 s e (psdc r)) from rfl, nF3]
      have hX : psdc r = psdc ((f0 :: s :: e :: f3 :: f4 :: r).drop 5) := rfl
      rw [hX]
      have t0 := nv_lt f0
      have t3 := nv_lt f3
      have t4 := nv_lt f4
      have e0 : (UInt64.ofNat (nv f0)).toNat = nv f0 := by rw [UInt64.toNat_ofNat']; omega
      have e3 : (UInt64.ofNat (nv f3)).toNat = nv f3 := by rw [UInt64.toNat_ofNat']; omega
      have e4 : (UInt64.ofNat (nv f4)).toNat = nv f4 := by rw [UInt64.toNat_ofNat']; omega
      have HE : Hid _ := And.intro e0 (And.intro e3 e4)
      clear hm0 hm3 hm4 hmem hlen hX e0 e3 e4 t0 t3 t4
      obtain ⟨fs, hfs⟩ : ∃ fs, fs = f0 :: s :: e :: f3 :: f4 :: r := ⟨_, rfl⟩
      rw [← hfs] at hmr htr hn ⊢
      have HFS : Hid (fs = f0 :: s :: e :: f3 :: f4 :: r) := hfs
      clear hfs
      generalize UInt64.ofNat (nv f0) = id at *
      generalize UInt64.ofNat (nv f3) = cf at *
      generalize UInt64.ofNat (nv f4) = vr at *
      generalize nb f0 = bx at *
      generalize nb f3 = by' at *
      generalize nb f4 = bz at *
      generalize hres : Option.bind (if (bx && (by' && bz)) = true then some [id, cf, vr] else none) (rg3 s e (psdc (fs.drop 5))) = res
      have HG : Hid ((bx && (by' && bz)) = true → res = (psdc (fs.drop 5)).map (fun l => (id, s, e, cf, vr, l))) := fun q => by rw [← hres, if_pos q]; rfl
      have HNG : Hid ((bx && (by' && bz)) = false → res = none) := fun q => by rw [← hres, q]; rfl
      clear hres
      go_enter Try.func30, Try.ntmps30
      go_wp2_with fail
      refine htr.mono ?_
      clear htr
      rintro x w1 ⟨v1, us, rfl, hos, hb1⟩
      obtain ⟨g, cap, rfl, hcap, hcap2, hcells⟩ := hos.at (by omega)
      have hul := hos.len
      have hel : ∀ j u f, us[j]? = some u → fs[j]? = some f → Ow (w.alloc (.cells #[.int .u64 0, .slice none 0 0, .slice none 0 0, .int .u64 0, .int .u64 0, .slice none 0 0] 28)).heap.size w1 u f := fun j u f => hos.el j u f
      have HEL : Hid _ := hel
      have HCE : Hid _ := hcells
      have hul5 : us.length = r.length + 5 := by omega
      obtain ⟨u0, u1, u2, u3, u4, ur, rfl⟩ : ∃ u0 u1 u2 u3 u4 ur, us = u0 :: u1 :: u2 :: u3 :: u4 :: ur := by
        match us, hul5 with
        | u0 :: u1 :: u2 :: u3 :: u4 :: ur, _ => exact ⟨u0, u1, u2, u3, u4, ur, rfl⟩
      have HUL : Hid (ur.length = r.length) := by simp at hul5; exact hul5
      have r0 := (hel 0 u0 f0 rfl (by rw [HFS.out]; rfl)).rd
      have o1 := hel 1 u1 s rfl (by rw [HFS.out]; rfl)
      have o2 := hel 2 u2 e rfl (by rw [HFS.out]; rfl)
      have r3 := (hel 3 u3 f3 rfl (by rw [HFS.out]; rfl)).rd
      have r4 := (hel 4 u4 f4 rfl (by rw [HFS.out]; rfl)).rd
      have q0 : w1.cell? ⟨g, 0, none⟩ = some u0 := hcells 0 _ rfl
      have q1 : w1.cell? ⟨g, 1, none⟩ = some u1 := hcells 1 _ rfl
      have q2 : w1.cell? ⟨g, 2, none⟩ = some u2 := hcells 2 _ rfl
      have q3 : w1.cell? ⟨g, 3, none⟩ = some u3 := hcells 3 _ rfl
      have q4 : w1.cell? ⟨g, 4, none⟩ = some u4 := hcells 4 _ rfl
      obtain ⟨b0, c0, rfl⟩ := r0.shp
      obtain ⟨b1, c1, rfl⟩ := o1.rd.shp
      obtain ⟨b2, c2, rfl⟩ := o2.rd.shp
      obtain ⟨b3, c3, rfl⟩ := r3.shp
      obtain ⟨b4, c4, rfl⟩ := r4.shp
      have HR12 : Hid (Ow (w.alloc (.cells #[.int .u64 0, .slice none 0 0, .slice none 0 0, .int .u64 0, .int .u64 0, .slice none 0 0] 28)).heap.size w1 (.slice b1 s.length c1) s ∧ Ow (w.alloc (.cells #[.int .u64 0, .slice none 0 0, .slice none 0 0, .int .u64 0, .int .u64 0, .slice none 0 0] 28)).heap.size w1 (.slice b2 e.length c2) e) := ⟨o1, o2⟩
      have HRR : Hid (Rd w1 (.slice b0 f0.length c0) f0 ∧ Rd w1 (.slice b3 f3.length c3) f3 ∧ Rd w1 (.slice b4 f4.length c4) f4) := ⟨r0, r3, r4⟩
      have kp : ∀ W, Below w1.heap.size w1 W → ∀ x u, w1.cell? x = some u → W.cell? x = some u := fun W hW x u q => by rw [hW.cell (World.block_lt_of_cell? w1 _ q)]; exact q
      have HKP : Hid _ := kp
      have HQ : Hid (∀ W, Below w1.heap.size w1 W → W.cell? ⟨g, 1, none⟩ = some (.slice b1 s.length c1) ∧ W.cell? ⟨g, 2, none⟩ = some (.slice b2 e.length c2) ∧ W.cell? ⟨g, 3, none⟩ = some (.slice b3 f3.length c3) ∧ W.cell? ⟨g, 4, none⟩ = some (.slice b4 f4.length c4)) := fun W hW => ⟨kp W hW _ _ q1, kp W hW _ _ q2, kp W hW _ _ q3, kp W hW _ _ q4⟩
      clear r0 o1 o2 r3 r4 kp hel hcells hos hul hul5
      have HN : Hid _ := hn
      generalize hnn : fs.length = n at *
      have HNN : Hid _ := hnn
      have gg : ¬ ((n : Int) < 5) := by omega
      have gd : decide ((n : Int) < 5) = false := decide_eq_false gg
      have i0 : (0 : Int) < (n : Int) := by omega
      have j0 : 0 < n := by omega
      have i1 : (1 : Int) < (n : Int) := by omega
      have i2 : (2 : Int) < (n : Int) := by omega
      have i3 : (3 : Int) < (n : Int) := by omega
      have i4 : (4 : Int) < (n : Int) := by omega
      clear hn hnn
      go_wp2_with fail
      refine (hN1.out _ _ HRR.out.1).mono ?_
      rintro x w2 ⟨rfl, hb2⟩
      obtain ⟨x1, x2, x3, x4⟩ := HQ.out w2 hb2
      go_wp2_with fail
      refine (hN3.out _ _ (HRR.out.2.1.below hb2 (Nat.le_refl _))).mono ?_
      rintro x w3 ⟨rfl, hb3'⟩
      have hb3 := hb2.trans (hb3'.mono hb2.size)
      clear x1 x2 x3 x4
      obtain ⟨x1, x2, x3, x4⟩ := HQ.out w3 hb3
      go_wp2_with fail
      refine (hN4.out _ _ (HRR.out.2.2.below hb3 (Nat.le_refl _))).mono ?_
      rintro x w4 ⟨rfl, hb4'⟩
      have hb4 := hb3.trans (hb4'.mono hb3.size)
      have hB4 := hb1.trans (hb4.mono hb1.size)
      clear x1 x2 x3 x4
      obtain ⟨x1, x2, x3, x4⟩ := HQ.out w4 hb4
      have al : ∀ (x : Addr) (u : Value), w4.cell? x = some u → ∀ o, (w4.alloc o).cell? x = some u := fun x u q o => by rw [(u_al w4 o).cell (World.block_lt_of_cell? w4 _ q)]; exact q
      have m1 := al _ _ x1
      have m2 := al _ _ x2
      clear al hN1 hN3 hN4 HRR q0 q1 q2 q3 q4 x3 x4 hb2 hb3' hb3 hb4'
      go_upto_region 7 with fail
      go_cut [12] from 23 to 151 (fun v wx => v = .pointer (some ⟨w4.heap.size, 0, none⟩) ∧ Below w4.heap.size w4 wx ∧ wx.heap[w4.heap.size]? = some (.cells #[.int .u64 (nv f0 : Int), .slice b1 s.length c1, .slice b2 e.length c2, .int .u64 (nv f3 : Int), .int .u64 (nv f4 : Int), .slice none 0 0] 28 (0, 0)) ∧ w4.heap.size + 1 ≤ wx.heap.size)
      case first =>
        go_region
        go_wp2_with fail
        go_meet
        exact ⟨rfl, (u_al w4 _).trans ((u_drew _).mono (by simp)), heap_alloc_new w4 _, by show _ ≤ (w4.alloc (.cells #[.int .u64 (nv f0 : Int), .slice b1 s.length c1, .slice b2 e.length c2, .int .u64 (nv f3 : Int), .int .u64 (nv f4 : Int), .slice none 0 0] 28)).heap.size; simp⟩
      case rest =>
        obtain ⟨rfl, hb5⟩ := hcut
        obtain ⟨w5, hw5⟩ : ∃ w5, w5 = wc := ⟨wc, rfl⟩
        subst hw5
        have HB5 : Hid (Below w4.heap.size w4 w5 ∧ w5.heap[w4.heap.size]? = some (.cells #[.int .u64 (nv f0 : Int), .slice b1 s.length c1, .slice b2 e.length c2, .int .u64 (nv f3 : Int), .int .u64 (nv f4 : Int), .slice none 0 0] 28 (0, 0)) ∧ w4.heap.size + 1 ≤ w5.heap.size) := hb5
        clear m1 m2 x1 x2 i0 j0 i1 i2 i3 i4 hb5 HQ
        go_upto_region 8 with fail
        go_cut [13] from 23 to 151 (fun v wx => v = .bool (bx && (by' && bz)) ∧ wx = w5)
        case first =>
          cases bx with
          | false =>
            go_wp2_with fail
            go_meet
            exact ⟨rfl, rfl⟩
          | true =>
            cases by' with
            | false =>
              go_wp2_with fail
              go_meet
              exact ⟨rfl, rfl⟩
            | true =>
              go_wp2_with fail
              go_meet
              exact ⟨rfl, rfl⟩
        case rest =>
          obtain ⟨rfl, hw⟩ := hcut
          subst hw
          obtain ⟨w6, hw6⟩ : ∃ w6, w6 = wc := ⟨wc, rfl⟩
          subst hw6
          generalize (bx && (by' && bz)) = gg0 at *
          go_wp2_with fail
          go_loopw [13, 14, 15, 16, 17, 18, 19, 20, 21, 22] (fun gv i _ _ _ _ _ _ _ _ wr => ∃ (j : Nat) (acc : List Pe) (pv : Value) (gb : Bool), 5 ≤ j ∧ j ≤ n ∧ i = .int .i64 j ∧ gv = .bool gb ∧ Hid (gb = true → res = (psdc (fs.drop j)).map (fun l => (id, s, e, cf, vr, acc ++ l))) ∧ Hid (gb = false → res = none) ∧ acc.length ≤ j ∧ OwPe (w4.heap.size + 1) wr pv acc ∧ wr.heap[w4.heap.size]? = some (.cells #[.int .u64 (nv f0 : Int), .slice b1 s.length c1, .slice b2 e.length c2, .int .u64 (nv f3 : Int), .int .u64 (nv f4 : Int), pv] 28 (0, 0)) ∧ Below w4.heap.size w4 wr) (fun _ i _ _ _ _ _ _ _ _ _ => n - (intOf i).toNat)
          case atStart => exact ⟨5, [], _, gg0, Nat.le_refl _, by omega, rfl, rfl, HG.out, HNG.out, Nat.zero_le _, OwPe.nil _ _, HB5.out.2.1, HB5.out.1⟩
          case round =>
            obtain ⟨j, acc, pv, gb, hj5, hjn, rfl, rfl, HA, HNA, hal, how, hkr, hb⟩ := hrel
            have hB := hb.size
            have hbA : Below (w.alloc (.cells #[.int .u64 0, .slice none 0 0, .slice none 0 0, .int .u64 0, .int .u64 0, .slice none 0 0] 28)).heap.size (w.alloc (.cells #[.int .u64 0, .slice none 0 0, .slice none 0 0, .int .u64 0, .int .u64 0, .slice none 0 0] 28)) wr := hB4.trans (hb.mono hB4.size)
            cases gb with
            | false =>
              obtain rfl := HNA.out rfl
              by_cases hlt : j < n
              · have hjl : (j : Int) < (n : Int) := by omega
                clear how hkr
                obtain ⟨z0, z1, z2, z3, z4, z5, zz⟩ := cells6 (HD.out wr hbA)
                have zz0 := zz 0
                have zz1 := zz 1
                have zz2 := zz 2
                have zz3 := zz 3
                have zz4 := zz 4
                have zz5 := zz 5
                clear zz
                have HBZ : Hid _ := HBAD.out wr hbA
                go_wp2_with fail
                obtain ⟨⟨k0, k1, k2, k3, k4, k5⟩, hbz⟩ := HBZ.out
                generalize ((((((wr.setCell ⟨w.heap.size, 0, none⟩ (.int .u64 0)).setCell ⟨w.heap.size, 1, none⟩ (.slice none 0 0)).setCell ⟨w.heap.size, 2, none⟩ (.slice none 0 0)).setCell ⟨w.heap.size, 3, none⟩ (.int .u64 0)).setCell ⟨w.heap.size, 4, none⟩ (.int .u64 0)).setCell ⟨w.heap.size, 5, none⟩ (.slice none 0 0)) = wz at *
                (try simp only [Exit.inBlock, Exit.then])
                refine bodyPost_ret (v := .tuple #[.agg #[.int .u64 0, .slice none 0 0, .slice none 0 0, .int .u64 0, .int .u64 0, .slice none 0 0], .int .i64 12]) (by simp [results, Try.results30, go_sem, k0, k1, k2, k3, k4, k5]; try rfl) rfl ?_
                exact ⟨_, _, _, rfl, Rd.nil _, Rd.nil _, RdPe.nil _, hbz⟩
              · have hjl : ¬ (j : Int) < (n : Int) := by omega
                clear how hkr
                obtain ⟨z0, z1, z2, z3, z4, z5, zz⟩ := cells6 (HD.out wr hbA)
                have zz0 := zz 0
                have zz1 := zz 1
                have zz2 := zz 2
                have zz3 := zz 3
                have zz4 := zz 4
                have zz5 := zz 5
                clear zz
                have HBZ : Hid _ := HBAD.out wr hbA
                go_wp2_with fail
                obtain ⟨⟨k0, k1, k2, k3, k4, k5⟩, hbz⟩ := HBZ.out
                generalize ((((((wr.setCell ⟨w.heap.size, 0, none⟩ (.int .u64 0)).setCell ⟨w.heap.size, 1, none⟩ (.slice none 0 0)).setCell ⟨w.heap.size, 2, none⟩ (.slice none 0 0)).setCell ⟨w.heap.size, 3, none⟩ (.int .u64 0)).setCell ⟨w.heap.size, 4, none⟩ (.int .u64 0)).setCell ⟨w.heap.size, 5, none⟩ (.slice none 0 0)) = wz at *
                (try simp only [Exit.inBlock, Exit.then])
                refine bodyPost_ret (v := .tuple #[.agg #[.int .u64 0, .slice none 0 0, .slice none 0 0, .int .u64 0, .int .u64 0, .slice none 0 0], .int .i64 12]) (by simp [results, Try.results30, go_sem, k0, k1, k2, k3, k4, k5]; try rfl) rfl ?_
                exact ⟨_, _, _, rfl, Rd.nil _, Rd.nil _, RdPe.nil _, hbz⟩
            | true =>
              by_cases hlt : j < n
              · have hjl : (j : Int) < (n : Int) := by omega
                have hlf : j < fs.length := by have := HNN.out; omega
                have hf : fs[j]? = some fs[j] := List.getElem?_eq_getElem hlf
                obtain ⟨u, hu⟩ : ∃ u, (.slice b0 f0.length c0 :: .slice b1 s.length c1 :: .slice b2 e.length c2 :: .slice b3 f3.length c3 :: .slice b4 f4.length c4 :: ur)[j]? = some u := ⟨_, List.getElem?_eq_getElem (by have := HN.out; have := HUL.out; simp; omega)⟩
                have hbw1 : Below w1.heap.size w1 wr := hb4.trans (hb.mono hb4.size)
                have hc : wr.cell? ⟨g, j, none⟩ = some u := HKP.out wr hbw1 _ _ (HCE.out j u hu)
                have hru : Rd wr u fs[j] := (HEL.out j u _ hu hf).rd.below hbw1 (Nat.le_refl _)
                have hfl := hmr.out fs[j] (List.getElem_mem hlf)
                have HR1 : Hid (res = ((pdc fs[j]).bind fun p => (psdc (fs.drop (j + 1))).map (p :: ·)).map (fun l => (id, s, e, cf, vr, acc ++ l))) := by show _ = _; rw [HA.out rfl, psdc_at fs j hlf]
                have hc' : wr.cell? ((⟨g, 0, none⟩ : Addr).add j) = some u := by rw [Addr.add_lit, Nat.zero_add]; exact hc
                have htk := rtakerow_any hru hfl
                have hmg := tr_mem fs[j]
                obtain ⟨bu, cu, rfl⟩ := hru.shp
                clear hru hf HA HNA hu
                have HPT : Hid (pdc fs[j] = if (M.tr fs[j]).2 = 0 ∧ (M.tr fs[j]).1.length = 3 then (M.nF (M.tr fs[j]).1).bind p3 else none) := rfl
                have HP3 : Hid (∀ a b c, M.tr fs[j] = ([a, b, c], 0) → pdc fs[j] = if ok3 a b c then some (UInt64.ofNat (nv a), (nv b : Int), decide (nv c = 1)) else none) := fun a b c h => pdc3 _ a b c h
                generalize M.tr fs[j] = T at *
                obtain ⟨gs, er⟩ := T
                generalize pdc fs[j] = PD at *
                generalize fs[j].length = fl at *
                simp only [] at htk hmg HPT
                by_cases her : er = 0
                · subst her
                  by_cases hg3 : gs.length = 3
                  · obtain ⟨a, b, c, rfl⟩ : ∃ a b c, gs = [a, b, c] := by
                      match gs, hg3 with
                      | [a, b, c], _ => exact ⟨a, b, c, rfl⟩
                    have hPD := HP3.out a b c rfl
                    have HPD : Hid _ := hPD
                    have hla := hmg a (by simp)
                    have hlb := hmg b (by simp)
                    have hlc := hmg c (by simp)
                    clear hPD HP3 HPT hg3 hmg
                    go_wp2_with fail
                    refine htk.mono ?_
                    rintro x w7 ⟨v7, us7, rfl, hos7, hb7⟩
                    obtain ⟨g7, cap7, rfl, hc7, hc7', hce7⟩ := hos7.at (by simp)
                    obtain ⟨ua, ub, uc, rfl⟩ : ∃ x y z, us7 = [x, y, z] := by
                      have h := hos7.len
                      match us7, h with
                      | [x, y, z], _ => exact ⟨x, y, z, rfl⟩
                    have ra := (hos7.el 0 ua a rfl rfl).rd
                    have rb := (hos7.el 1 ub b rfl rfl).rd
                    have rc := (hos7.el 2 uc c rfl rfl).rd
                    have y0 : w7.cell? ⟨g7, 0, none⟩ = some ua := hce7 0 _ rfl
                    have y1 : w7.cell? ⟨g7, 1, none⟩ = some ub := hce7 1 _ rfl
                    have y2 : w7.cell? ⟨g7, 2, none⟩ = some uc := hce7 2 _ rfl
                    obtain ⟨ba, ca, rfl⟩ := ra.shp
                    obtain ⟨bb, cb, rfl⟩ := rb.shp
                    obtain ⟨bc, cc, rfl⟩ := rc.shp
                    have hNa := rnum_any ra (by omega)
                    have HNb : Hid (∀ W, Below w7.heap.size w7 W → Calls Try.prog 55 #[.slice bb b.length cb] W fun e w' => e = .returned (.tuple #[.int .u64 (nv b : Int), .bool (nb b)]) ∧ Below W.heap.size W w') := fun W hW => rnum_any (rb.below hW (Nat.le_refl _)) (by omega)
                    have HNc : Hid (∀ W, Below w7.heap.size w7 W → Calls Try.prog 55 #[.slice bc c.length cc] W fun e w' => e = .returned (.tuple #[.int .u64 (nv c : Int), .bool (nb c)]) ∧ Below W.heap.size W w') := fun W hW => rnum_any (rc.below hW (Nat.le_refl _)) (by omega)
                    have HY : Hid (∀ W, Below w7.heap.size w7 W → W.cell? ⟨g7, 1, none⟩ = some (.slice bb b.length cb) ∧ W.cell? ⟨g7, 2, none⟩ = some (.slice bc c.length cc)) := fun W hW => ⟨by rw [hW.cell (World.block_lt_of_cell? w7 _ y1)]; exact y1, by rw [hW.cell (World.block_lt_of_cell? w7 _ y2)]; exact y2⟩
                    clear ra rb rc hos7 hce7 htk
                    simp only [List.length_cons, List.length_nil, Nat.zero_add, Nat.reduceAdd] at *
                    go_wp2_with fail
                    refine hNa.mono ?_
                    clear hNa
                    rintro x w8 ⟨rfl, hb8⟩
                    obtain ⟨y1', y2'⟩ := HY.out w8 hb8
                    go_wp2_with fail
                    refine (HNb.out w8 hb8).mono ?_
                    rintro x w9 ⟨rfl, hb9'⟩
                    have hb9 := hb8.trans (hb9'.mono hb8.size)
                    clear y1' y2'
                    obtain ⟨y1', y2'⟩ := HY.out w9 hb9
                    go_wp2_with fail
                    refine (HNc.out w9 hb9).mono ?_
                    rintro x w10 ⟨rfl, hb10'⟩
                    have hb10 := hb9.trans (hb10'.mono hb9.size)
                    have hbr10 : Below wr.heap.size wr w10 := hb7.trans (hb10.mono hb7.size)
                    have hk10 := (hbr10.block _ (lt_of_some hkr)).trans hkr
                    have how10 := how.below hbr10 (Nat.le_refl _)
                    have hb410 : Below w4.heap.size w4 w10 := hb.trans (hbr10.mono hb.size)
                    have hsz10 : w4.heap.size + 1 ≤ w10.heap.size := by have := lt_of_some hk10; omega
                    have HOW : Hid (OwPe (w4.heap.size + 1) w10 pv acc) := how10
                    have HB10 : Hid (Below w4.heap.size w4 w10 ∧ w4.heap.size + 1 ≤ w10.heap.size ∧ w10.heap[w4.heap.size]? = some (.cells #[.int .u64 (nv f0 : Int), .slice b1 s.length c1, .slice b2 e.length c2, .int .u64 (nv f3 : Int), .int .u64 (nv f4 : Int), pv] 28 (0, 0))) := ⟨hb410, hsz10, hk10⟩
                    have HNA64 : Hid (nv a < 18446744073709551616) := nv_lt a
                    have HOK : Hid (ok3 a b c = (nb a && (nb b && (nb c && (decide (nv b < 2147483648) && decide (nv c ≤ 1)))))) := rfl
                    clear how how10 hkr hk10 hb410 y0 y1 y2 y1' y2' HY HNb HNc hc hc'
                    generalize nv a = na at *
                    generalize nv b = nbv at *
                    generalize nv c = ncv at *
                    generalize nb a = ta at *
                    generalize nb b = tb1 at *
                    generalize nb c = tc1 at *
                    generalize ok3 a b c = okb at *
                    go_upto_region 18 with fail
                    go_cut [13] from 75 to 146 (fun v wx => v = .bool okb ∧ wx = w10)
                    case first =>
                      cases ta with
                      | false =>
                        go_wp2_with fail
                        go_meet
                        exact ⟨by rw [HOK.out]; rfl, rfl⟩
                      | true =>
                        cases tb1 with
                        | false =>
                          go_wp2_with fail
                          go_meet
                          exact ⟨by rw [HOK.out]; rfl, rfl⟩
                        | true =>
                          cases tc1 with
                          | false =>
                            go_wp2_with fail
                            go_meet
                            exact ⟨by rw [HOK.out]; rfl, rfl⟩
                          | true =>
                            by_cases z1 : nbv < 2147483648
                            · have z1' : (nbv : Int) < 2147483648 := by omega
                              by_cases z2 : ncv ≤ 1
                              · have z2' : (ncv : Int) ≤ 1 := by omega
                                go_wp2_with fail
                                go_meet
                                exact ⟨by rw [HOK.out, decide_eq_true z1, decide_eq_true z2]; rfl, rfl⟩
                              · have z2' : ¬ (ncv : Int) ≤ 1 := by omega
                                go_wp2_with fail
                                go_meet
                                exact ⟨by rw [HOK.out, decide_eq_true z1, decide_eq_false z2]; rfl, rfl⟩
                            · have z1' : ¬ (nbv : Int) < 2147483648 := by omega
                              go_wp2_with fail
                              go_meet
                              exact ⟨by rw [HOK.out, decide_eq_false z1]; rfl, rfl⟩
                    case rest =>
                      obtain ⟨rfl, hw⟩ := hcut
                      subst hw
                      obtain ⟨wA, hwA⟩ : ∃ wA, wA = wc := ⟨wc, rfl⟩
                      subst hwA
                      obtain ⟨e0, e1, e2, e3, e4, e5, _⟩ := cells6 HB10.out.2.2
                      obtain ⟨pa5, pn5, pc5, hpv⟩ : ∃ a m c, pv = .slice a m c := by obtain ⟨a, c, q⟩ := HOW.out.shape; exact ⟨_, _, _, q⟩
                      subst hpv
                      obtain ⟨wv, hwv⟩ : ∃ wv : Int, wv = IntKind.i64.wrap (nbv : Int) := ⟨_, rfl⟩
                      have hwv' : IntKind.i64.wrap (nbv : Int) = wv := hwv.symm
                      have HWV : Hid (okb = true → wv = (nbv : Int)) := fun q => by
                        rw [HOK.out] at q
                        simp only [Bool.and_eq_true, decide_eq_true_eq] at q
                        rw [hwv]
                        exact wrap_small _ (by omega)
                      clear hwv
                      have hze : ((ncv : Int) == 1) = decide (ncv = 1) := by
                        by_cases q : ncv = 1
                        · rw [q]; rfl
                        · rw [decide_eq_false q]; exact beq_eq_false_iff_ne.2 (by omega)
                      obtain ⟨P0, rfl⟩ : ∃ P0 : UInt64, na = P0.toNat := ⟨UInt64.ofNat na, by rw [UInt64.toNat_ofNat']; have := HNA64.out; omega⟩
                      obtain ⟨tl, htl⟩ : ∃ tl : Bool, tl = decide (ncv = 1) := ⟨_, rfl⟩
                      rw [← htl] at hze
                      have HNX : Hid ((okb = true → res = (psdc (fs.drop (j + 1))).map (fun l => (id, s, e, cf, vr, (acc ++ [(P0, wv, tl)]) ++ l))) ∧ (okb = false → res = none)) := by
                        refine ⟨fun q => ?_, fun q => ?_⟩
                        · rw [HR1.out, HPD.out, if_pos q, Option.bind_some, UInt64.ofNat_toNat, ← HWV.out q, ← htl]
                          exact rg_app _ _ _ _ _ _ _ _
                        · rw [HR1.out, HPD.out, if_neg (by rw [q]; decide)]; rfl
                      clear htl HWV HPD HR1 HOK
                      go_wp2_with (first | (at_builtin; refine wpList_appPe rfl _ _ rfl (w4.heap.size + 1) _ acc rfl (HOW.out.below (u_al wA _) (Nat.le_refl _)) _ [(P0, wv, tl)] rfl (rdpe_one (heap_alloc_new wA _)) ?hx1 ?hx2 ?_; rotate_right; (intro v11 w11 ho11 hg11 hw11; have hb11 : Below (w4.heap.size + 1) (wA.alloc (.cells #[.int .u64 (P0.toNat : Int), .int .i64 wv, .bool tl] 31)) w11 := (Below.refl _ _).grown hg11 (by rw [World.size_alloc]; have := HB10.out.2.1; omega) (fun j e => (HOW.out.lt j e).1); have hk11 : w11.heap[w4.heap.size]? = _ := (hb11.block _ (by omega)).trans (((u_al wA (.cells #[.int .u64 (P0.toNat : Int), .int .i64 wv, .bool tl] 31)).block _ (lt_of_some HB10.out.2.2)).trans HB10.out.2.2); obtain ⟨a11, m11, d11, rfl⟩ : ∃ a m c, v11 = .slice a m c := (by obtain ⟨a, c, q⟩ := ho11.shape; exact ⟨a, _, c, q⟩); obtain ⟨o0, o1, o2, o3, o4, o5, oz⟩ := cells6 hk11; have oz5 := oz 5; clear oz)) | fail)
                      case hx1 => rw [World.size_alloc]; have := HB10.out.2.1; omega
                      case hx2 => have := HN.out; have := HNB.out; simp only [List.length_cons, List.length_nil]; omega
                      have ch12 := put1_chg w11 w4.heap.size 5 (.slice a11 m11 d11)
                      have hk12 : (w11.setCell ⟨w4.heap.size, 5, none⟩ (.slice a11 m11 d11)).heap[w4.heap.size]? = some (.cells #[.int .u64 (nv f0 : Int), .slice b1 s.length c1, .slice b2 e.length c2, .int .u64 (nv f3 : Int), .int .u64 (nv f4 : Int), .slice a11 m11 d11] 28 (0, 0)) := put1_block hk11 _
                      have ho12 : OwPe (w4.heap.size + 1) (w11.setCell ⟨w4.heap.size, 5, none⟩ (.slice a11 m11 d11)) (.slice a11 m11 d11) (acc ++ [(P0, wv, tl)]) := ho11.keptC ch12 (fun b q1 q2 => by have := (ho11.lt b q1).1; omega)
                      have hb411 : Below w4.heap.size w4 w11 := HB10.out.1.trans (((u_al wA _).mono HB10.out.1.size).trans (hb11.mono (Nat.le_succ _)))
                      have hb412 : Below w4.heap.size w4 (w11.setCell ⟨w4.heap.size, 5, none⟩ (.slice a11 m11 d11)) := hb411.trans (ch12.below (fun b q => by omega) hb411.size)
                      refine ⟨⟨j + 1, acc ++ [(P0, wv, tl)], _, okb, by omega, by omega, by go_num, rfl, HNX.out.1, HNX.out.2, by simp; omega, ho12, hk12, hb412⟩, by simp [intOf]; omega⟩
                  · have hn3 : (((gs.length : Nat) : Int) != 3) = true := by simp; omega
                    obtain rfl : res = none := by rw [HR1.out, HPT.out, if_neg (fun q => hg3 q.2)]; rfl
                    clear HP3 HPT hg3 hmg HR1 how hkr
                    go_wp2_with fail
                    refine htk.mono ?_
                    rintro x w7 ⟨v7, us7, rfl, hos7, hb7⟩
                    obtain ⟨ao7, c7, rfl, _⟩ := hos7.rds
                    clear hos7
                    have hbA7 := hbA.trans (hb7.mono hbA.size)
                    obtain ⟨z0, z1, z2, z3, z4, z5, zz⟩ := cells6 (HD.out w7 hbA7)
                    have zz0 := zz 0
                    have zz1 := zz 1
                    have zz2 := zz 2
                    have zz3 := zz 3
                    have zz4 := zz 4
                    have zz5 := zz 5
                    clear zz
                    have HBZ : Hid _ := HBAD.out w7 hbA7
                    go_wp2_with fail
                    obtain ⟨⟨k0, k1, k2, k3, k4, k5⟩, hbz⟩ := HBZ.out
                    generalize ((((((w7.setCell ⟨w.heap.size, 0, none⟩ (.int .u64 0)).setCell ⟨w.heap.size, 1, none⟩ (.slice none 0 0)).setCell ⟨w.heap.size, 2, none⟩ (.slice none 0 0)).setCell ⟨w.heap.size, 3, none⟩ (.int .u64 0)).setCell ⟨w.heap.size, 4, none⟩ (.int .u64 0)).setCell ⟨w.heap.size, 5, none⟩ (.slice none 0 0)) = wz at *
                    (try simp only [Exit.inBlock, Exit.then])
                    refine bodyPost_ret (v := .tuple #[.agg #[.int .u64 0, .slice none 0 0, .slice none 0 0, .int .u64 0, .int .u64 0, .slice none 0 0], .int .i64 12]) (by simp [results, Try.results30, go_sem, k0, k1, k2, k3, k4, k5]; try rfl) rfl ?_
                    exact ⟨_, _, _, rfl, Rd.nil _, Rd.nil _, RdPe.nil _, hbz⟩
                · have hne : (((er : Nat) : Int) != 0) = true := by simp; omega
                  obtain rfl : res = none := by rw [HR1.out, HPT.out, if_neg (fun q => her q.1)]; rfl
                  clear HP3 HPT hmg HR1 how hkr
                  go_wp2_with fail
                  refine htk.mono ?_
                  rintro x w7 ⟨v7, us7, rfl, hos7, hb7⟩
                  obtain ⟨ao7, c7, rfl, _⟩ := hos7.rds
                  clear hos7
                  have hbA7 := hbA.trans (hb7.mono hbA.size)
                  obtain ⟨z0, z1, z2, z3, z4, z5, zz⟩ := cells6 (HD.out w7 hbA7)
                  have zz0 := zz 0
                  have zz1 := zz 1
                  have zz2 := zz 2
                  have zz3 := zz 3
                  have zz4 := zz 4
                  have zz5 := zz 5
                  clear zz
                  have HBZ : Hid _ := HBAD.out w7 hbA7
                  go_wp2_with fail
                  obtain ⟨⟨k0, k1, k2, k3, k4, k5⟩, hbz⟩ := HBZ.out
                  generalize ((((((w7.setCell ⟨w.heap.size, 0, none⟩ (.int .u64 0)).setCell ⟨w.heap.size, 1, none⟩ (.slice none 0 0)).setCell ⟨w.heap.size, 2, none⟩ (.slice none 0 0)).setCell ⟨w.heap.size, 3, none⟩ (.int .u64 0)).setCell ⟨w.heap.size, 4, none⟩ (.int .u64 0)).setCell ⟨w.heap.size, 5, none⟩ (.slice none 0 0)) = wz at *
                  (try simp only [Exit.inBlock, Exit.then])
                  refine bodyPost_ret (v := .tuple #[.agg #[.int .u64 0, .slice none 0 0, .slice none 0 0, .int .u64 0, .int .u64 0, .slice none 0 0], .int .i64 12]) (by simp [results, Try.results30, go_sem, k0, k1, k2, k3, k4, k5]; try rfl) rfl ?_
                  exact ⟨_, _, _, rfl, Rd.nil _, Rd.nil _, RdPe.nil _, hbz⟩
              · have hjl : ¬ (j : Int) < (n : Int) := by omega
                have hX2 : res = some (id, s, e, cf, vr, acc) := by
                  rw [HA.out rfl, List.drop_of_length_le (by have := HNN.out; omega)]
                  simp [psdc]
                obtain ⟨E0, E3, E4⟩ := HE.out
                obtain rfl := hX2
                obtain ⟨pa5, pn5, pc5, hpv⟩ : ∃ a m c, pv = .slice a m c := by obtain ⟨a, c, q⟩ := how.shape; exact ⟨_, _, _, q⟩
                subst hpv
                obtain ⟨e0, e1, e2, e3, e4, e5, ez⟩ := cells6 hkr
                have hkD := HD.out wr hbA
                obtain ⟨z0, z1, z2, z3, z4, z5, zz⟩ := cells6 hkD
                have zz0 := zz 0
                have zz1 := zz 1
                have zz2 := zz 2
                have zz3 := zz 3
                have zz4 := zz 4
                have zz5 := zz 5
                have HZ : Hid _ := And.intro (cells6 (set6_block hkD (.int .u64 (nv f0 : Int)) (.slice b1 s.length c1) (.slice b2 e.length c2) (.int .u64 (nv f3 : Int)) (.int .u64 (nv f4 : Int)) (.slice pa5 pn5 pc5))) (set6_chg wr w.heap.size (.int .u64 (nv f0 : Int)) (.slice b1 s.length c1) (.slice b2 e.length c2) (.int .u64 (nv f3 : Int)) (.int .u64 (nv f4 : Int)) (.slice pa5 pn5 pc5))
                have HOW : Hid (OwPe (w4.heap.size + 1) wr (.slice pa5 pn5 pc5) acc) := how
                have HBB : Hid _ := And.intro hb hbA
                have HEE : Hid _ := And.intro E0 (And.intro E3 E4)
                have HS0 : Hid ((w.alloc (.cells #[.int .u64 0, .slice none 0 0, .slice none 0 0, .int .u64 0, .int .u64 0, .slice none 0 0] 28)).heap.size = w.heap.size + 1) := by show _ = _; simp
                clear zz ez hkD how hkr hal HA HNA E0 E3 E4 HE
                go_wp2_with fail
                obtain ⟨⟨k0, k1, k2, k3, k4, k5, _⟩, hch⟩ := HZ.out
                obtain ⟨hb, hbA⟩ := HBB.out
                generalize ((((((wr.setCell ⟨w.heap.size, 0, none⟩ (.int .u64 (nv f0 : Int))).setCell ⟨w.heap.size, 1, none⟩ (.slice b1 s.length c1)).setCell ⟨w.heap.size, 2, none⟩ (.slice b2 e.length c2)).setCell ⟨w.heap.size, 3, none⟩ (.int .u64 (nv f3 : Int))).setCell ⟨w.heap.size, 4, none⟩ (.int .u64 (nv f4 : Int))).setCell ⟨w.heap.size, 5, none⟩ (.slice pa5 pn5 pc5)) = wz at *
                (try simp only [Exit.inBlock, Exit.then])
                refine bodyPost_ret (v := .tuple #[.agg #[.int .u64 (nv f0 : Int), .slice b1 s.length c1, .slice b2 e.length c2, .int .u64 (nv f3 : Int), .int .u64 (nv f4 : Int), .slice pa5 pn5 pc5], .int .i64 0]) (by simp [results, Try.results30, go_sem, k0, k1, k2, k3, k4, k5]; try rfl) rfl ?_
                have hS0 := HS0.out
                have hB1 := hb1.size
                have hB4s := hb4.size
                have hbw : Below w1.heap.size w1 wr := hb4.trans (hb.mono hb4.size)
                have o1 := (HR12.out.1.below hbw (Nat.le_refl _)).keptC hch (fun b q1 q2 => by have := ((HR12.out.1.lt0 b q1).1); omega)
                have o2 := (HR12.out.2.below hbw (Nat.le_refl _)).keptC hch (fun b q1 q2 => by have := ((HR12.out.2.lt0 b q1).1); omega)
                have o3 := HOW.out.keptC hch (fun b q1 q2 => by have := (HOW.out.lt b q1).1; omega)
                have hBw : Below w.heap.size w wr := HB0.out.trans (hbA.mono HB0.out.size)
                obtain ⟨E0, E3, E4⟩ := HEE.out
                refine ⟨_, _, _, ?_, o1.rd, o2.rd, o3.rd, hBw.trans (hch.below (fun b q => by omega) hBw.size)⟩
                simp only [E0, E3, E4]
  · have hne : (((er : Nat) : Int) != 0) = true := by simp; omega
    rw [if_neg her]
    simp only [Option.getD_none, Option.isSome_none]
    go_enter Try.func30, Try.ntmps30
    go_wp2_with fail
    refine htr.mono ?_
    rintro x w2 ⟨v1, us, rfl, hos, hb1⟩
    obtain ⟨z0, z1, z2, z3, z4, z5, zz⟩ := cells6 (HD.out w2 hb1)
    have zz0 := zz 0
    have zz1 := zz 1
    have zz2 := zz 2
    have zz3 := zz 3
    have zz4 := zz 4
    have zz5 := zz 5
    clear zz
    have HBZ : Hid _ := HBAD.out w2 hb1
    go_wp2_with fail
    obtain ⟨⟨k0, k1, k2, k3, k4, k5⟩, hbz⟩ := HBZ.out
    generalize ((((((w2.setCell ⟨w.heap.size, 0, none⟩ (.int .u64 0)).setCell ⟨w.heap.size, 1, none⟩ (.slice none 0 0)).setCell ⟨w.heap.size, 2, none⟩ (.slice none 0 0)).setCell ⟨w.heap.size, 3, none⟩ (.int .u64 0)).setCell ⟨w.heap.size, 4, none⟩ (.int .u64 0)).setCell ⟨w.heap.size, 5, none⟩ (.slice none 0 0)) = wz at *
    (try simp only [Exit.inBlock, Exit.then])
    refine bodyPost_ret (v := .tuple #[.agg #[.int .u64 0, .slice none 0 0, .slice none 0 0, .int .u64 0, .int .u64 0, .slice none 0 0], .int .i64 12]) (by simp [results, Try.results30, go_sem, k0, k1, k2, k3, k4, k5]; try rfl) rfl ?_
    exact ⟨_, _, _, rfl, Rd.nil _, Rd.nil _, RdPe.nil _, hbz⟩
end Go.Proofs.Ytnenfflkldpbgaa
