/- Decode: any bytes read as a region, or refused (tools/gendec10.py). -/
import Derived.Test.YtnenfflkldpbgaaG5
import Derived.Test.YtnenfflkldpbgaaG6
import Derived.Test.YtnenfflkldpbgaaG4
import Derived.Deep.CutRange
namespace Go.Proofs.Ytnenfflkldpbgaa
open Go.RowKit
set_option linter.unusedVariables false
set_option maxRecDepth 100000

theorem psdc_none (fs : List (List UInt8)) (k : Nat) (acc : List Pe) (f : List UInt8) (hf : fs[k]? = some f) (h : psdc fs = (psdc (fs.drop k)).map (acc ++ ·)) (hn : pdc f = none) : psdc fs = none := by
  obtain ⟨hk, e⟩ := List.getElem?_eq_some_iff.1 hf
  rw [h, List.drop_eq_getElem_cons hk, psdc, e, hn]; rfl
theorem psdc_step (fs : List (List UInt8)) (k : Nat) (acc : List Pe) (f : List UInt8) (p : Pe) (hf : fs[k]? = some f) (h : psdc fs = (psdc (fs.drop k)).map (acc ++ ·)) (hn : pdc f = some p) : psdc fs = (psdc (fs.drop (k + 1))).map ((acc ++ [p]) ++ ·) := by
  obtain ⟨hk, e⟩ := List.getElem?_eq_some_iff.1 hf
  rw [h, List.drop_eq_getElem_cons hk, psdc, e, hn]
  cases psdc (fs.drop (k + 1)) <;> simp
theorem rds_five {w : World} {g cap : Nat} {fs : List (List UInt8)} (h : Rds w (.slice (some ⟨g, 0, none⟩) fs.length cap) fs) (j : Nat) (hj : j ≤ fs.length) : Rds w (.slice (some ⟨g, j, none⟩) (fs.length - j) (cap - j)) (fs.drop j) := by
  obtain ⟨ao, c, e, h1, h2, h4⟩ := h
  simp only [Value.slice.injEq] at e
  obtain ⟨rfl, -, rfl⟩ := e
  refine ⟨some ⟨g, j, none⟩, cap - j, by rw [List.length_drop], by rw [List.length_drop]; omega, by omega, fun i hi => ?_⟩
  rw [List.length_drop] at hi
  obtain ⟨a, u, ea, hc, hr⟩ := h4 (j + i) (by omega)
  obtain rfl := Option.some.inj ea
  refine ⟨_, u, rfl, ?_, by rw [List.getElem_drop]; exact hr⟩
  rw [Addr.add_lit] at hc ⊢
  rw [Nat.zero_add] at hc
  exact hc

set_option maxHeartbeats 8000000 in
theorem decR_any {v : Value} {l : List UInt8} {w : World} (hr : Rd w v l) (hl : l.length ≤ 1099511627776) :
    Calls Try.prog 13 #[v] w fun x w' => ∃ sv ev pv, x = .returned (.tuple #[.agg #[.int .u64 (((rdc l).getD noRg).1.toNat : Int), sv, ev, .int .u64 (((rdc l).getD noRg).2.2.2.1.toNat : Int), .int .u64 (((rdc l).getD noRg).2.2.2.2.1.toNat : Int), pv], .int .i64 (if (rdc l).isSome then 0 else 12)]) ∧ Rd w' sv ((rdc l).getD noRg).2.1 ∧ Rd w' ev ((rdc l).getD noRg).2.2.1 ∧ RdPe w' pv ((rdc l).getD noRg).2.2.2.2.2 ∧ Below w.heap.size w w' := by
  have htr := takerow_any (hr.alloc (.cells #[.int .u64 0, .slice none 0 0, .slice none 0 0, .int .u64 0, .int .u64 0, .slice none 0 0] 28)) hl
  have hb0 : Below w.heap.size w (w.alloc (.cells #[.int .u64 0, .slice none 0 0, .slice none 0 0, .int .u64 0, .int .u64 0, .slice none 0 0] 28)) := u_al w _
  have hk0 : (w.alloc (.cells #[.int .u64 0, .slice none 0 0, .slice none 0 0, .int .u64 0, .int .u64 0, .slice none 0 0] 28)).heap[w.heap.size]? = some (.cells #[.int .u64 0, .slice none 0 0, .slice none 0 0, .int .u64 0, .int .u64 0, .slice none 0 0] 28 (0, 0)) := heap_alloc_new w _
  have hlen := tr_len l
  have hmem := tr_mem l
  unfold rdc
  generalize M.tr l = T at *
  obtain ⟨fs, er⟩ := T
  simp only [] at *
  have HD : Hid (∀ W, Below (w.alloc (.cells #[.int .u64 0, .slice none 0 0, .slice none 0 0, .int .u64 0, .int .u64 0, .slice none 0 0] 28)).heap.size (w.alloc (.cells #[.int .u64 0, .slice none 0 0, .slice none 0 0, .int .u64 0, .int .u64 0, .slice none 0 0] 28)) W → W.heap[w.heap.size]? = some (.cells #[.int .u64 0, .slice none 0 0, .slice none 0 0, .int .u64 0, .int .u64 0, .slice none 0 0] 28 (0, 0))) := fun W hW => (hW.block _ (lt_of_some hk0)).trans hk0
  have HB0 : Hid _ := hb0
  have HBAD : Hid (∀ W, Below (w.alloc (.cells #[.int .u64 0, .slice none 0 0, .slice none 0 0, .int .u64 0, .int .u64 0, .slice none 0 0] 28)).heap.size (w.alloc (.cells #[.int .u64 0, .slice none 0 0, .slice none 0 0, .int .u64 0, .int .u64 0, .slice none 0 0] 28)) W → (((((((W.setCell ⟨w.heap.size, 0, none⟩ (.int .u64 0)).setCell ⟨w.heap.size, 1, none⟩ (.slice none 0 0)).setCell ⟨w.heap.size, 2, none⟩ (.slice none 0 0)).setCell ⟨w.heap.size, 3, none⟩ (.int .u64 0)).setCell ⟨w.heap.size, 4, none⟩ (.int .u64 0)).setCell ⟨w.heap.size, 5, none⟩ (.slice none 0 0)).cell? ⟨w.heap.size, 0, none⟩ = some (.int .u64 0) ∧ ((((((W.setCell ⟨w.heap.size, 0, none⟩ (.int .u64 0)).setCell ⟨w.heap.size, 1, none⟩ (.slice none 0 0)).setCell ⟨w.heap.size, 2, none⟩ (.slice none 0 0)).setCell ⟨w.heap.size, 3, none⟩ (.int .u64 0)).setCell ⟨w.heap.size, 4, none⟩ (.int .u64 0)).setCell ⟨w.heap.size, 5, none⟩ (.slice none 0 0)).cell? ⟨w.heap.size, 1, none⟩ = some (.slice none 0 0) ∧ ((((((W.setCell ⟨w.heap.size, 0, none⟩ (.int .u64 0)).setCell ⟨w.heap.size, 1, none⟩ (.slice none 0 0)).setCell ⟨w.heap.size, 2, none⟩ (.slice none 0 0)).setCell ⟨w.heap.size, 3, none⟩ (.int .u64 0)).setCell ⟨w.heap.size, 4, none⟩ (.int .u64 0)).setCell ⟨w.heap.size, 5, none⟩ (.slice none 0 0)).cell? ⟨w.heap.size, 2, none⟩ = some (.slice none 0 0) ∧ ((((((W.setCell ⟨w.heap.size, 0, none⟩ (.int .u64 0)).setCell ⟨w.heap.size, 1, none⟩ (.slice none 0 0)).setCell ⟨w.heap.size, 2, none⟩ (.slice none 0 0)).setCell ⟨w.heap.size, 3, none⟩ (.int .u64 0)).setCell ⟨w.heap.size, 4, none⟩ (.int .u64 0)).setCell ⟨w.heap.size, 5, none⟩ (.slice none 0 0)).cell? ⟨w.heap.size, 3, none⟩ = some (.int .u64 0) ∧ ((((((W.setCell ⟨w.heap.size, 0, none⟩ (.int .u64 0)).setCell ⟨w.heap.size, 1, none⟩ (.slice none 0 0)).setCell ⟨w.heap.size, 2, none⟩ (.slice none 0 0)).setCell ⟨w.heap.size, 3, none⟩ (.int .u64 0)).setCell ⟨w.heap.size, 4, none⟩ (.int .u64 0)).setCell ⟨w.heap.size, 5, none⟩ (.slice none 0 0)).cell? ⟨w.heap.size, 4, none⟩ = some (.int .u64 0) ∧ ((((((W.setCell ⟨w.heap.size, 0, none⟩ (.int .u64 0)).setCell ⟨w.heap.size, 1, none⟩ (.slice none 0 0)).setCell ⟨w.heap.size, 2, none⟩ (.slice none 0 0)).setCell ⟨w.heap.size, 3, none⟩ (.int .u64 0)).setCell ⟨w.heap.size, 4, none⟩ (.int .u64 0)).setCell ⟨w.heap.size, 5, none⟩ (.slice none 0 0)).cell? ⟨w.heap.size, 5, none⟩ = some (.slice none 0 0)) ∧ Below w.heap.size w ((((((W.setCell ⟨w.heap.size, 0, none⟩ (.int .u64 0)).setCell ⟨w.heap.size, 1, none⟩ (.slice none 0 0)).setCell ⟨w.heap.size, 2, none⟩ (.slice none 0 0)).setCell ⟨w.heap.size, 3, none⟩ (.int .u64 0)).setCell ⟨w.heap.size, 4, none⟩ (.int .u64 0)).setCell ⟨w.heap.size, 5, none⟩ (.slice none 0 0))) := fun W hW => by
    have hk := HD.out W hW
    obtain ⟨k0, k1, k2, k3, k4, k5, _⟩ := cells6 (set6_block hk (.int .u64 0) (.slice none 0 0) (.slice none 0 0) (.int .u64 0) (.int .u64 0) (.slice none 0 0))
    have hB : Below w.heap.size w W := HB0.out.trans (hW.mono HB0.out.size)
    exact ⟨⟨k0, k1, k2, k3, k4, k5⟩, hB.trans ((set6_chg W w.heap.size _ _ _ _ _ _).below (fun b q => by omega) hB.size)⟩
  clear hb0 hk0
  by_cases her : er = 0
  · subst her
    rw [if_pos rfl]
    by_cases hf5 : fs.length < 5
    · have hR : rd5 fs = none := by
        match fs, hf5 with
        | [], _ => rfl
        | [_], _ => rfl
        | [_, _], _ => rfl
        | [_, _, _], _ => rfl
        | [_, _, _, _], _ => rfl
      rw [hR]
      simp only [Option.getD_none, Option.isSome_none]
      have g5 : ((fs.length : Nat) : Int) < 5 := by omega
      clear hR hf5
      go_enter Try.func13, Try.ntmps13
      go_wp2_with fail
      refine htr.mono ?_
      rintro x w2 ⟨v1, us, rfl, hos, hb1⟩
      obtain ⟨ao, c, rfl, h1, h2, h4⟩ := hos.rds
      clear h4 hos h1
      obtain ⟨z0, z1, z2, z3, z4, z5, zz⟩ := cells6 (HD.out w2 hb1)
      have zz0 := zz 0
      have zz1 := zz 1
      have zz2 := zz 2
      have zz3 := zz 3
      have zz4 := zz 4
      have zz5 := zz 5
      clear zz
      have HBZ : Hid _ := HBAD.out w2 hb1
      go_wp2_with fail
      obtain ⟨⟨k0, k1, k2, k3, k4, k5⟩, hbz⟩ := HBZ.out
      generalize ((((((w2.setCell ⟨w.heap.size, 0, none⟩ (.int .u64 0)).setCell ⟨w.heap.size, 1, none⟩ (.slice none 0 0)).setCell ⟨w.heap.size, 2, none⟩ (.slice none 0 0)).setCell ⟨w.heap.size, 3, none⟩ (.int .u64 0)).setCell ⟨w.heap.size, 4, none⟩ (.int .u64 0)).setCell ⟨w.heap.size, 5, none⟩ (.slice none 0 0)) = wz at *
      (try simp only [Exit.inBlock, Exit.then])
      refine bodyPost_ret (v := .tuple #[.agg #[.int .u64 0, .slice none 0 0, .slice none 0 0, .int .u64 0, .int .u64 0, .slice none 0 0], .int .i64 12]) (by simp [results, Try.results13, go_sem, k0, k1, k2, k3, k4, k5]; try rfl) rfl ?_
      exact ⟨_, _, _, rfl, Rd.nil _, Rd.nil _, RdPe.nil _, hbz⟩
    · obtain ⟨f0, s, e, f3, f4, r, rfl⟩ : ∃ f0 s e f3 f4 r, fs = f0 :: s :: e :: f3 :: f4 :: r := by
        match fs, hf5 with
        | f0 :: s :: e :: f3 :: f4 :: r, _ => exact ⟨f0, s, e, f3, f4, r, rfl⟩
        | [], h => exact absurd (by simp) h
        | [_], h => exact absurd (by simp) h
        | [_, _], h => exact absurd (by simp) h
        | [_, _, _], h => exact absurd (by simp) h
        | [_, _, _, _], h => exact absurd (by simp) h
      clear hf5
      have hlr : r.length + 5 ≤ 1099511627776 := by simp at hlen; omega
      have hmr : Hid (∀ f ∈ r, f.length ≤ 1099511627776) := fun f hf => by have := hmem f (by simp [hf]); omega
      have hm0 := hmem f0 (by simp)
      have hm3 := hmem f3 (by simp)
      have hm4 := hmem f4 (by simp)
      rw [show rd5 (f0 :: s :: e :: f3 :: f4 :: r) = (M.nF [f0, f3, f4]).bind (rg3 s e (psdc r)) from rfl]
      have HTN : Hid (∀ W2 u, Rds W2 u [f0, f3, f4] → Calls Try.prog 43 #[u] W2 fun e w' => ∃ v' : Value, e = .returned (.tuple #[v', .bool (M.nF [f0, f3, f4]).isSome]) ∧ Ou W2.heap.size w' v' ((M.nF [f0, f3, f4]).getD []) ∧ Below W2.heap.size W2 w') := fun W2 u h => taken_any h (fun f hf => by
        simp only [List.mem_cons, List.not_mem_nil, or_false] at hf
        rcases hf with rfl | rfl | rfl <;> omega) (by simp)
      have hn3 := nF_len [f0, f3, f4]
      clear hm0 hm3 hm4 hmem hlen
      generalize M.nF [f0, f3, f4] = N at *
      have hrl : ((f0 :: s :: e :: f3 :: f4 :: r).length : Nat) = r.length + 5 := by simp
      generalize hX : psdc r = X
      have HX : Hid (psdc r = X) := hX
      clear hX
      generalize hres : N.bind (rg3 s e X) = res
      have HRES : Hid (res = N.bind (rg3 s e X)) := hres.symm
      clear hres
      have main : ∀ w1 g cap (us : List Value), Ows (w.alloc (.cells #[.int .u64 0, .slice none 0 0, .slice none 0 0, .int .u64 0, .int .u64 0, .slice none 0 0] 28)).heap.size w1 (.slice (some ⟨g, 0, none⟩) (r.length + 5) cap) (f0 :: s :: e :: f3 :: f4 :: r) us → True := fun _ _ _ _ _ => trivial
      clear main
      go_enter Try.func13, Try.ntmps13
      go_wp2_with fail
      refine htr.mono ?_
      rintro x w1 ⟨v1, us, rfl, hos, hb1⟩
      have hrds := hos.rds
      have hul := hos.len
      obtain ⟨n, hn⟩ : ∃ n, n = r.length + 5 := ⟨_, rfl⟩
      obtain ⟨g, cap, hv1, hcap, hcap2, hcells⟩ : ∃ g cap, v1 = .slice (some ⟨g, 0, none⟩) n cap ∧ n ≤ cap ∧ cap ≤ maxLen ∧ ∀ j, j < us.length → w1.cell? ⟨g, j, none⟩ = us[j]? := by
        have hrow := hos.row
        rcases hrow.2 with ⟨hv, h0⟩ | ⟨g, cap, cur, hv, hg, hh, hn', hcap, hsz, htake⟩
        · rw [hul] at h0; simp at h0
        · refine ⟨g, cap, by rw [hv, hul, hrl, hn], by rw [hul, hrl] at hn'; omega, hcap, fun j hj => ?_⟩
          subst hv
          exact hrow.cellAt j (by omega)
      subst hv1
      obtain ⟨u0, u1, u2, u3, u4, ur, rfl⟩ : ∃ u0 u1 u2 u3 u4 ur, us = u0 :: u1 :: u2 :: u3 :: u4 :: ur := by
        rw [hrl] at hul
        match us, hul with
        | u0 :: u1 :: u2 :: u3 :: u4 :: ur, _ => exact ⟨u0, u1, u2, u3, u4, ur, rfl⟩
      have r0 := (hos.el 0 u0 f0 rfl rfl).rd
      have o1 := hos.el 1 u1 s rfl rfl
      have o2 := hos.el 2 u2 e rfl rfl
      have r1 := o1.rd
      have r2 := o2.rd
      have r3 := (hos.el 3 u3 f3 rfl rfl).rd
      have r4 := (hos.el 4 u4 f4 rfl rfl).rd
      have q0 : w1.cell? ⟨g, 0, none⟩ = some u0 := hcells 0 (by simp)
      have q1 : w1.cell? ⟨g, 1, none⟩ = some u1 := hcells 1 (by simp)
      have q2 : w1.cell? ⟨g, 2, none⟩ = some u2 := hcells 2 (by simp)
      have q3 : w1.cell? ⟨g, 3, none⟩ = some u3 := hcells 3 (by simp)
      have q4 : w1.cell? ⟨g, 4, none⟩ = some u4 := hcells 4 (by simp)
      have hrd5 : Hid (Rds w1 (.slice (some ⟨g, 5, none⟩) r.length (cap - 5)) r) := by
        have := rds_five (w := w1) (g := g) (cap := cap) (fs := f0 :: s :: e :: f3 :: f4 :: r) (by rw [hrl, ← hn]; exact hrds) 5 (by rw [hrl]; omega)
        rw [hrl, Nat.add_sub_cancel] at this
        exact this
      clear hrds hcells hos hul
      obtain ⟨b0, c0, rfl⟩ := r0.shp
      obtain ⟨b1, c1, rfl⟩ := r1.shp
      obtain ⟨b2, c2, rfl⟩ := r2.shp
      obtain ⟨b3, c3, rfl⟩ := r3.shp
      obtain ⟨b4, c4, rfl⟩ := r4.shp
      have HR12 : Hid (Ow (w.alloc (.cells #[.int .u64 0, .slice none 0 0, .slice none 0 0, .int .u64 0, .int .u64 0, .slice none 0 0] 28)).heap.size w1 (.slice b1 s.length c1) s ∧ Ow (w.alloc (.cells #[.int .u64 0, .slice none 0 0, .slice none 0 0, .int .u64 0, .int .u64 0, .slice none 0 0] 28)).heap.size w1 (.slice b2 e.length c2) e) := ⟨o1, o2⟩
      have HKQ : Hid (∀ W, Below w1.heap.size w1 W → W.cell? ⟨g, 0, none⟩ = some (.slice b0 f0.length c0) ∧ W.cell? ⟨g, 1, none⟩ = some (.slice b1 s.length c1) ∧ W.cell? ⟨g, 2, none⟩ = some (.slice b2 e.length c2) ∧ W.cell? ⟨g, 3, none⟩ = some (.slice b3 f3.length c3) ∧ W.cell? ⟨g, 4, none⟩ = some (.slice b4 f4.length c4)) := fun W hW => by
        have k : ∀ x u, w1.cell? x = some u → W.cell? x = some u := fun x u q => by rw [hW.cell (World.block_lt_of_cell? w1 _ q)]; exact q
        exact ⟨k _ _ q0, k _ _ q1, k _ _ q2, k _ _ q3, k _ _ q4⟩
      have HR3 : Hid (Rds ((w1.alloc (.cells #[.slice b0 f0.length c0, .slice b3 f3.length c3, .slice b4 f4.length c4] 23)).drew) (.slice (some ⟨w1.heap.size, 0, none⟩) 3 3) [f0, f3, f4]) := (rds3 r0 r3 r4 23 _ rfl).below (u_drew _) (Nat.le_refl _)
      have HBT : Hid (Below w1.heap.size w1 ((w1.alloc (.cells #[.slice b0 f0.length c0, .slice b3 f3.length c3, .slice b4 f4.length c4] 23)).drew)) := (u_al w1 _).trans ((u_drew _).mono (by simp))
      clear r0 r1 r2 r3 r4 o1 o2
      unfold maxLen at hcap2
      have HN : Hid _ := hn
      have gg : ¬ ((n : Int) < 5) := by omega
      have gd : decide ((n : Int) < 5) = false := decide_eq_false gg
      have i0 : (0 : Int) < (n : Int) := by omega
      have j0 : 0 < n := by omega
      have i1 : (1 : Int) < (n : Int) := by omega
      have i2 : (2 : Int) < (n : Int) := by omega
      have i3 : (3 : Int) < (n : Int) := by omega
      have i4 : (4 : Int) < (n : Int) := by omega
      clear hn hrl
      go_wp2_with fail
      go_region_held3 (fun W => W.cell? ⟨g, 0, none⟩ = some (.slice b0 f0.length c0) ∧ W.cell? ⟨g, 1, none⟩ = some (.slice b1 s.length c1) ∧ W.cell? ⟨g, 2, none⟩ = some (.slice b2 e.length c2) ∧ W.cell? ⟨g, 3, none⟩ = some (.slice b3 f3.length c3) ∧ W.cell? ⟨g, 4, none⟩ = some (.slice b4 f4.length c4)) (go_keep) (first
        | (go_at_call 43; refine (HTN.out _ _ HR3.out).mono ?_; rintro x w2 ⟨v2, rfl, ho2, hb2'⟩; have hb2 : Below w1.heap.size w1 w2 := HBT.out.trans (hb2'.mono HBT.out.size); obtain ⟨a2, d2, rfl⟩ := ho2.shape; obtain ⟨q0', q1', q2', q3', q4'⟩ := HKQ.out w2 hb2)
        | fail)
      have hB2 := hb1.trans (hb2.mono hb1.size)
      cases N with
      | none =>
        obtain rfl : res = none := HRES.out
        simp only [Option.isSome_none, Option.getD_none, List.length_nil] at *
        obtain ⟨z0, z1, z2, z3, z4, z5, zz⟩ := cells6 (HD.out w2 hB2)
        have zz0 := zz 0
        have zz1 := zz 1
        have zz2 := zz 2
        have zz3 := zz 3
        have zz4 := zz 4
        have zz5 := zz 5
        clear zz
        have HBZ : Hid _ := HBAD.out w2 hB2
        go_wp2_with fail
        obtain ⟨⟨k0, k1, k2, k3, k4, k5⟩, hbz⟩ := HBZ.out
        generalize ((((((w2.setCell ⟨w.heap.size, 0, none⟩ (.int .u64 0)).setCell ⟨w.heap.size, 1, none⟩ (.slice none 0 0)).setCell ⟨w.heap.size, 2, none⟩ (.slice none 0 0)).setCell ⟨w.heap.size, 3, none⟩ (.int .u64 0)).setCell ⟨w.heap.size, 4, none⟩ (.int .u64 0)).setCell ⟨w.heap.size, 5, none⟩ (.slice none 0 0)) = wz at *
        (try simp only [Exit.inBlock, Exit.then])
        refine bodyPost_ret (v := .tuple #[.agg #[.int .u64 0, .slice none 0 0, .slice none 0 0, .int .u64 0, .int .u64 0, .slice none 0 0], .int .i64 12]) (by simp [results, Try.results13, go_sem, k0, k1, k2, k3, k4, k5]; try rfl) rfl ?_
        exact ⟨_, _, _, rfl, Rd.nil _, Rd.nil _, RdPe.nil _, hbz⟩
      | some ns =>
        have hns := hn3 ns rfl
        obtain ⟨id, cf, vr, rfl⟩ : ∃ x y z, ns = [x, y, z] := by
          match ns, hns with
          | [x, y, z], _ => exact ⟨x, y, z, rfl⟩
        clear hns hn3
        simp only [Option.isSome_some, Option.getD_some] at *
        have hresX : res = X.map fun ps => (id, s, e, cf, vr, ps) := HRES.out
        have HRX : Hid _ := hresX
        clear hresX HRES
        obtain ⟨ad, d2', en, y1, y2, y3, y4⟩ := ho2.ru
        simp only [Value.slice.injEq] at en
        obtain ⟨rfl, -, rfl⟩ := en
        obtain ⟨aa, rfl, n0⟩ := y4 0 (by simp)
        obtain ⟨_, e1, n1⟩ := y4 1 (by simp)
        obtain rfl := Option.some.inj e1
        obtain ⟨_, e2, n2⟩ := y4 2 (by simp)
        obtain rfl := Option.some.inj e2
        clear e1 e2 y4 y3 ho2
        simp only [List.getElem_cons_zero, List.getElem_cons_succ, List.length_cons, List.length_nil, Nat.zero_add, Nat.reduceAdd] at n0 n1 n2 y1 y2
        unfold maxLen at y2
        have n0' : w2.cell? aa = some (.int .u64 (id.toNat : Int)) := n0
        have n1' : w2.cell? ⟨aa.block, aa.off + 1, none⟩ = some (.int .u64 (cf.toNat : Int)) := n1
        have n2' : w2.cell? ⟨aa.block, aa.off + 2, none⟩ = some (.int .u64 (vr.toNat : Int)) := n2
        clear n0 n1 n2
        have al : ∀ (x : Addr) (u : Value), w2.cell? x = some u → ∀ o, (w2.alloc o).cell? x = some u := fun x u q o => by rw [(u_al w2 o).cell (World.block_lt_of_cell? w2 _ q)]; exact q
        have m0 := al _ _ n0'
        have m1 := al _ _ n1'
        have m2 := al _ _ n2'
        have m3 := al _ _ q1'
        have m4 := al _ _ q2'
        clear al
        simp only [List.length_cons, List.length_nil, Nat.zero_add, Nat.reduceAdd]
        go_upto_region 7 with fail
        go_cut [8] from 13 to 83 (fun v wx => v = .pointer (some ⟨w2.heap.size, 0, none⟩) ∧ Below w2.heap.size w2 wx ∧ wx.heap[w2.heap.size]? = some (.cells #[.int .u64 (id.toNat : Int), .slice b1 s.length c1, .slice b2 e.length c2, .int .u64 (cf.toNat : Int), .int .u64 (vr.toNat : Int), .slice none 0 0] 28 (0, 0)) ∧ w2.heap.size + 1 ≤ wx.heap.size)
        case first =>
          go_region
          go_wp2_with fail
          go_meet
          exact ⟨rfl, (u_al w2 _).trans ((u_drew _).mono (by simp)), heap_alloc_new w2 _, by show _ ≤ (w2.alloc (.cells #[.int .u64 (id.toNat : Int), .slice b1 s.length c1, .slice b2 e.length c2, .int .u64 (cf.toNat : Int), .int .u64 (vr.toNat : Int), .slice none 0 0] 28)).heap.size; simp⟩
        case rest =>
          obtain ⟨rfl, hb3⟩ := hcut
          obtain ⟨w3, hw3⟩ : ∃ w3, w3 = wc := ⟨wc, rfl⟩
          subst hw3
          have HB3 : Hid _ := hb3
          have fin : Hid (∀ acc, X = some acc → res = some (id, s, e, cf, vr, acc)) := fun acc h => by rw [HRX.out, h]; rfl
          have finN : Hid (X = none → res = none) := fun h => by rw [HRX.out, h]; rfl
          have HRD5 : Hid (∀ W, Below w2.heap.size w2 W → Rds W (.slice (some ⟨g, 5, none⟩) r.length (cap - 5)) r) := fun W hW => hrd5.out.below (hb2.trans (hW.mono hb2.size)) (Nat.le_refl _)
          have g5 : (5 : Int) ≤ (n : Int) := by omega
          have g5' : 5 ≤ n := by omega
          clear m0 m1 m2 m3 m4 n0' n1' n2' q0' q1' q2' q3' q4' q0 q1 q2 q3 q4 i0 i1 i2 i3 i4 j0 hb3 HTN HR3 HBT HKQ HRX hrd5
          go_upto_region 8 with fail
          go_cut [61, 62, 63] from 13 to 83 (fun a b c wx => ∃ ao cc, a = .slice ao r.length cc ∧ b = .int .i64 (r.length : Int) ∧ c = .int .i64 0 ∧ (0 < r.length → ao = some ⟨g, 5, none⟩ ∧ cc = cap - 5) ∧ wx = w3)
          case first =>
            by_cases hc5 : cap = 5
            · subst hc5
              go_wp2_with fail
              go_meet
              have hn := HN.out
              have h0 : r.length = 0 := by omega
              exact ⟨some ⟨g, 0, none⟩, 0, by rw [h0], by rw [h0]; rfl, rfl, fun q => absurd q (by omega), rfl⟩
            · have hc6 : ¬ (cap : Int) - 5 = 0 := by omega
              go_wp2_with fail
              go_meet
              have hn := HN.out
              have hn2 : n - 5 = r.length := by omega
              refine ⟨_, _, ?_, ?_, rfl, fun q => ⟨rfl, rfl⟩, rfl⟩
              · rw [hn2]
              · first | rw [hn2] | (congr 1; omega)
          case rest =>
            obtain ⟨ao, cc, rfl, rfl, rfl, hao, hw⟩ := hcut
            subst hw
            obtain ⟨w4, hw4⟩ : ∃ w4, w4 = wc := ⟨wc, rfl⟩
            subst hw4
            go_wp2_with fail
            go_loopw [10, 11, 12, 63] (fun _ _ _ i wr => ∃ (k : Nat) (acc : List Pe) (pv : Value), k ≤ r.length ∧ i = .int .i64 k ∧ Hid (X = (psdc (r.drop k)).map (acc ++ ·)) ∧ acc.length = k ∧ OwPe (w2.heap.size + 1) wr pv acc ∧ wr.heap[w2.heap.size]? = some (.cells #[.int .u64 (id.toNat : Int), .slice b1 s.length c1, .slice b2 e.length c2, .int .u64 (cf.toNat : Int), .int .u64 (vr.toNat : Int), pv] 28 (0, 0)) ∧ Below w2.heap.size w2 wr) (fun _ _ _ i _ => r.length - (intOf i).toNat)
            case atStart => exact ⟨0, [], _, Nat.zero_le _, rfl, by show X = _; rw [← HX.out]; simp, rfl, OwPe.nil _ _, HB3.out.2.1, HB3.out.1⟩
            case round =>
              obtain ⟨k, acc, pv, hk, rfl, HA, hal, how, hkr, hb⟩ := hrel
              have hB := hb.size
              have hbA : Below (w.alloc (.cells #[.int .u64 0, .slice none 0 0, .slice none 0 0, .int .u64 0, .int .u64 0, .slice none 0 0] 28)).heap.size (w.alloc (.cells #[.int .u64 0, .slice none 0 0, .slice none 0 0, .int .u64 0, .int .u64 0, .slice none 0 0] 28)) wr := hB2.trans (hb.mono hB2.size)
              by_cases hlt : k < r.length
              · obtain ⟨rfl, rfl⟩ := hao (by omega)
                obtain ⟨ao', c', e0, _, _, h4⟩ := HRD5.out wr hb
                simp only [Value.slice.injEq] at e0
                obtain ⟨rfl, -, -⟩ := e0
                obtain ⟨a, u, ea, hc, hru⟩ := h4 k hlt
                obtain rfl := Option.some.inj ea
                clear h4 ea
                have hf : r[k]? = some r[k] := List.getElem?_eq_getElem hlt
                have hfl := hmr.out r[k] (List.getElem_mem hlt)
                have HN1 : Hid (pdc r[k] = none → X = none) := fun q => by rw [← HX.out]; exact psdc_none r k acc _ hf (HX.out.trans HA.out) q
                have HN2 : Hid (∀ p, pdc r[k] = some p → X = (psdc (r.drop (k + 1))).map ((acc ++ [p]) ++ ·)) := fun p q => by rw [← HX.out]; exact psdc_step r k acc _ p hf (HX.out.trans HA.out) q
                have hdp := decp_any hru hfl
                have hc' : wr.cell? ⟨g, 5 + k, none⟩ = some u := by rw [Addr.add_lit] at hc; exact hc
                have hkl : (k : Int) < (r.length : Int) := by omega
                obtain ⟨bu, cu, rfl⟩ := hru.shp
                clear hru hf HA
                generalize r[k] = f at *
                generalize f.length = fl at *
                cases hpd : pdc f with
                | none =>
                  obtain rfl := finN.out (HN1.out hpd)
                  rw [hpd] at hdp
                  simp only [Option.getD_none, Option.isSome_none] at hdp
                  clear hpd HN1 HN2
                  go_wp2_with fail
                  refine hdp.mono ?_
                  rintro x w5 ⟨rfl, hb5⟩
                  simp only [peV, noPe, UInt64.toNat_zero, Int.ofNat_zero]
                  have hb6 : Below (w.alloc (.cells #[.int .u64 0, .slice none 0 0, .slice none 0 0, .int .u64 0, .int .u64 0, .slice none 0 0] 28)).heap.size (w.alloc (.cells #[.int .u64 0, .slice none 0 0, .slice none 0 0, .int .u64 0, .int .u64 0, .slice none 0 0] 28)) (w5.alloc (.cells #[.int .u64 0, .int .i64 0, .bool false] 31)) := hbA.trans ((hb5.trans ((u_al w5 _).mono hb5.size)).mono hbA.size)
                  obtain ⟨z0, z1, z2, z3, z4, z5, zz⟩ := cells6 (HD.out (w5.alloc (.cells #[.int .u64 0, .int .i64 0, .bool false] 31)) hb6)
                  have zz0 := zz 0
                  have zz1 := zz 1
                  have zz2 := zz 2
                  have zz3 := zz 3
                  have zz4 := zz 4
                  have zz5 := zz 5
                  clear zz
                  have HBZ : Hid _ := HBAD.out (w5.alloc (.cells #[.int .u64 0, .int .i64 0, .bool false] 31)) hb6
                  go_wp2_with fail
                  obtain ⟨⟨k0, k1, k2, k3, k4, k5⟩, hbz⟩ := HBZ.out
                  generalize (((((((w5.alloc (.cells #[.int .u64 0, .int .i64 0, .bool false] 31)).setCell ⟨w.heap.size, 0, none⟩ (.int .u64 0)).setCell ⟨w.heap.size, 1, none⟩ (.slice none 0 0)).setCell ⟨w.heap.size, 2, none⟩ (.slice none 0 0)).setCell ⟨w.heap.size, 3, none⟩ (.int .u64 0)).setCell ⟨w.heap.size, 4, none⟩ (.int .u64 0)).setCell ⟨w.heap.size, 5, none⟩ (.slice none 0 0)) = wz at *
                  (try simp only [Exit.inBlock, Exit.then])
                  refine bodyPost_ret (v := .tuple #[.agg #[.int .u64 0, .slice none 0 0, .slice none 0 0, .int .u64 0, .int .u64 0, .slice none 0 0], .int .i64 12]) (by simp [results, Try.results13, go_sem, k0, k1, k2, k3, k4, k5]; try rfl) rfl ?_
                  exact ⟨_, _, _, rfl, Rd.nil _, Rd.nil _, RdPe.nil _, hbz⟩
                | some p =>
                  have HY : Hid _ := HN2.out p hpd
                  rw [hpd] at hdp
                  simp only [Option.getD_some, Option.isSome_some] at hdp
                  clear hpd HN1 HN2
                  obtain ⟨p0, p1, p2⟩ := p
                  go_wp2_with fail
                  refine hdp.mono ?_
                  rintro x w5 ⟨rfl, hb5⟩
                  simp only [peV]
                  have hbA5 : Below wr.heap.size wr (w5.alloc (.cells #[.int .u64 (p0.toNat : Int), .int .i64 p1, .bool p2] 31)) := hb5.trans ((u_al w5 _).mono hb5.size)
                  have hkA := (hbA5.block _ (lt_of_some hkr)).trans hkr
                  have hpA : (w5.alloc (.cells #[.int .u64 (p0.toNat : Int), .int .i64 p1, .bool p2] 31)).heap[w5.heap.size]? = _ := heap_alloc_new w5 _
                  have howA := how.below hbA5 (Nat.le_refl _)
                  have hb2A : Below w2.heap.size w2 (w5.alloc (.cells #[.int .u64 (p0.toNat : Int), .int .i64 p1, .bool p2] 31)) := hb.trans (hbA5.mono hb.size)
                  have hszA : w2.heap.size + 1 ≤ (w5.alloc (.cells #[.int .u64 (p0.toNat : Int), .int .i64 p1, .bool p2] 31)).heap.size := by have := lt_of_some hkA; omega
                  obtain ⟨e0, e1, e2, e3, e4, e5, ez⟩ := cells6 hkA
                  obtain ⟨f0', f1', f2', _⟩ := cells3 hpA
                  obtain ⟨pa5, pc5, hpv⟩ := how.shape
                  rw [hal] at hpv
                  subst hpv
                  have HAL : Hid (acc.length = k) := hal
                  clear hal
                  clear ez hpA
                  go_upto_region 14 with fail
                  generalize (w5.alloc (.cells #[.int .u64 (p0.toNat : Int), .int .i64 p1, .bool p2] 31)) = wA at *
                  have HOW : Hid (OwPe (w2.heap.size + 1) wA (.slice pa5 k pc5) acc) := howA
                  have HB2A : Hid _ := And.intro hb2A (And.intro hszA hkA)
                  clear how howA hkr hb2A hkA hb5 hbA5
                  go_wp2_with (first | (at_builtin; refine wpList_appPe rfl _ _ rfl (w2.heap.size + 1) _ acc rfl (HOW.out.below (u_al wA _) (Nat.le_refl _)) _ [(p0, p1, p2)] rfl (rdpe_one (heap_alloc_new wA _)) ?hx1 ?hx2 ?_; rotate_right; (intro v7 w7 ho7 hg7 hw7; have hb7 : Below (w2.heap.size + 1) (wA.alloc (.cells #[.int .u64 (p0.toNat : Int), .int .i64 p1, .bool p2] 31)) w7 := (Below.refl _ _).grown hg7 (by rw [World.size_alloc]; have := HB2A.out.2.1; omega) (fun j e => (HOW.out.lt j e).1); have hk7 : w7.heap[w2.heap.size]? = _ := (hb7.block _ (by omega)).trans (((u_al wA (.cells #[.int .u64 (p0.toNat : Int), .int .i64 p1, .bool p2] 31)).block _ (lt_of_some HB2A.out.2.2)).trans HB2A.out.2.2); obtain ⟨a7, m7, d7, rfl⟩ : ∃ a m c, v7 = .slice a m c := (by obtain ⟨a, c, q⟩ := ho7.shape; exact ⟨a, _, c, q⟩); obtain ⟨y0, y1, y2, y3, y4, y5, yz⟩ := cells6 hk7; have yz5 := yz 5; clear yz)) | fail)
                  case hx1 => rw [World.size_alloc]; have := HB2A.out.2.1; omega
                  case hx2 => have := HAL.out; simp only [List.length_cons, List.length_nil]; omega
                  have ch8 := put1_chg w7 w2.heap.size 5 (.slice a7 m7 d7)
                  have hk8 : (w7.setCell ⟨w2.heap.size, 5, none⟩ (.slice a7 m7 d7)).heap[w2.heap.size]? = some (.cells #[.int .u64 (id.toNat : Int), .slice b1 s.length c1, .slice b2 e.length c2, .int .u64 (cf.toNat : Int), .int .u64 (vr.toNat : Int), .slice a7 m7 d7] 28 (0, 0)) := put1_block hk7 _
                  have ho8 : OwPe (w2.heap.size + 1) (w7.setCell ⟨w2.heap.size, 5, none⟩ (.slice a7 m7 d7)) (.slice a7 m7 d7) (acc ++ [(p0, p1, p2)]) := ho7.keptC ch8 (fun b q1 q2 => by have := (ho7.lt b q1).1; omega)
                  have hb27 : Below w2.heap.size w2 w7 := HB2A.out.1.trans (((u_al wA _).mono HB2A.out.1.size).trans (hb7.mono (Nat.le_succ _)))
                  have hb28 : Below w2.heap.size w2 (w7.setCell ⟨w2.heap.size, 5, none⟩ (.slice a7 m7 d7)) := hb27.trans (ch8.below (fun b q => by omega) hb27.size)
                  refine ⟨⟨k + 1, acc ++ [(p0, p1, p2)], _, by omega, by go_num, HY.out, by have := HAL.out; simp; omega, ho8, hk8, hb28⟩, by simp [intOf]; omega⟩
              · obtain rfl : k = r.length := by omega
                have hX2 : X = some acc := by rw [HA.out]; simp [psdc]
                obtain rfl := fin.out acc hX2
                obtain ⟨pa5, pc5, hpv⟩ := how.shape
                subst hpv
                obtain ⟨e0, e1, e2, e3, e4, e5, ez⟩ := cells6 hkr
                have hkD := HD.out wr hbA
                obtain ⟨z0, z1, z2, z3, z4, z5, zz⟩ := cells6 hkD
                have zz0 := zz 0
                have zz1 := zz 1
                have zz2 := zz 2
                have zz3 := zz 3
                have zz4 := zz 4
                have zz5 := zz 5
                have hchD := set6_chg wr w.heap.size (.int .u64 (id.toNat : Int)) (.slice b1 s.length c1) (.slice b2 e.length c2) (.int .u64 (cf.toNat : Int)) (.int .u64 (vr.toNat : Int)) (.slice pa5 acc.length pc5)
                have HZ : Hid _ := And.intro (cells6 (set6_block hkD (.int .u64 (id.toNat : Int)) (.slice b1 s.length c1) (.slice b2 e.length c2) (.int .u64 (cf.toNat : Int)) (.int .u64 (vr.toNat : Int)) (.slice pa5 acc.length pc5))) hchD
                have HOW : Hid _ := And.intro how (And.intro hb hbA)
                have hsz0 : (w.alloc (.cells #[.int .u64 0, .slice none 0 0, .slice none 0 0, .int .u64 0, .int .u64 0, .slice none 0 0] 28)).heap.size = w.heap.size + 1 := by simp
                have HS0 : Hid _ := hsz0
                clear zz ez hkD hchD how hkr hsz0 hal
                go_wp2_with fail
                obtain ⟨⟨k0, k1, k2, k3, k4, k5, _⟩, hch⟩ := HZ.out
                obtain ⟨how, hb, hbA⟩ := HOW.out
                generalize ((((((wr.setCell ⟨w.heap.size, 0, none⟩ (.int .u64 (id.toNat : Int))).setCell ⟨w.heap.size, 1, none⟩ (.slice b1 s.length c1)).setCell ⟨w.heap.size, 2, none⟩ (.slice b2 e.length c2)).setCell ⟨w.heap.size, 3, none⟩ (.int .u64 (cf.toNat : Int))).setCell ⟨w.heap.size, 4, none⟩ (.int .u64 (vr.toNat : Int))).setCell ⟨w.heap.size, 5, none⟩ (.slice pa5 acc.length pc5)) = wz at *
                refine bodyPost_ret (v := .tuple #[.agg #[.int .u64 (id.toNat : Int), .slice b1 s.length c1, .slice b2 e.length c2, .int .u64 (cf.toNat : Int), .int .u64 (vr.toNat : Int), .slice pa5 acc.length pc5], .int .i64 0]) (by simp [results, Try.results13, go_sem, k0, k1, k2, k3, k4, k5]; try rfl) rfl ?_
                have hS0 := HS0.out
                have hB1 := hb1.size
                have hB2s := hb2.size
                have hbw : Below w1.heap.size w1 wr := hb2.trans (hb.mono hb2.size)
                have o1 := (HR12.out.1.below hbw (Nat.le_refl _)).keptC hch (fun b q1 q2 => by have := ((HR12.out.1.lt0 b q1).1); omega)
                have o2 := (HR12.out.2.below hbw (Nat.le_refl _)).keptC hch (fun b q1 q2 => by have := ((HR12.out.2.lt0 b q1).1); omega)
                have o3 := how.keptC hch (fun b q1 q2 => by have := (how.lt b q1).1; omega)
                have hBw : Below w.heap.size w wr := HB0.out.trans (hbA.mono HB0.out.size)
                exact ⟨_, _, _, rfl, o1.rd, o2.rd, o3.rd, hBw.trans (hch.below (fun b q => by omega) hBw.size)⟩
  · have hne : (((er : Nat) : Int) != 0) = true := by simp; omega
    rw [if_neg her]
    simp only [Option.getD_none, Option.isSome_none]
    go_enter Try.func13, Try.ntmps13
    go_wp2_with fail
    refine htr.mono ?_
    rintro x w2 ⟨v1, us, rfl, hos, hb1⟩
    obtain ⟨z0, z1, z2, z3, z4, z5, zz⟩ := cells6 (HD.out w2 hb1)
    have zz0 := zz 0
    have zz1 := zz 1
    have zz2 := zz 2
    have zz3 := zz 3
    have zz4 := zz 4
    have zz5 := zz 5
    clear zz
    have HBZ : Hid _ := HBAD.out w2 hb1
    go_wp2_with fail
    obtain ⟨⟨k0, k1, k2, k3, k4, k5⟩, hbz⟩ := HBZ.out
    generalize ((((((w2.setCell ⟨w.heap.size, 0, none⟩ (.int .u64 0)).setCell ⟨w.heap.size, 1, none⟩ (.slice none 0 0)).setCell ⟨w.heap.size, 2, none⟩ (.slice none 0 0)).setCell ⟨w.heap.size, 3, none⟩ (.int .u64 0)).setCell ⟨w.heap.size, 4, none⟩ (.int .u64 0)).setCell ⟨w.heap.size, 5, none⟩ (.slice none 0 0)) = wz at *
    (try simp only [Exit.inBlock, Exit.then])
    refine bodyPost_ret (v := .tuple #[.agg #[.int .u64 0, .slice none 0 0, .slice none 0 0, .int .u64 0, .int .u64 0, .slice none 0 0], .int .i64 12]) (by simp [results, Try.results13, go_sem, k0, k1, k2, k3, k4, k5]; try rfl) rfl ?_
    exact ⟨_, _, _, rfl, Rd.nil _, Rd.nil _, RdPe.nil _, hbz⟩
end Go.Proofs.Ytnenfflkldpbgaa
