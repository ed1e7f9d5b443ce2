/- What Decode answers of any bytes. -/
import Derived.Test.YtgienommkifbnaaG4
import Derived.Test.YtgienommkifbnaaG2
import Derived.Test.YtgienommkifbnaaG3
import Derived.Test.YtgienommkifbnaaG1
namespace Go.Proofs.Ytgienommkifbnaa
open Go.RowKit
set_option linter.unusedVariables false
set_option maxRecDepth 100000

theorem Ru.keptC {T : Nat → Prop} {w w' : World} {v : Value} {l : List UInt64} (h : Ru w v l) (hc : Chg T w w') (hT : ∀ b, v.ownBlock = some b → ¬ T b) : Ru w' v l := by
  obtain ⟨ao, c, rfl, h1, h2, h3, h4⟩ := h
  refine ⟨ao, c, rfl, h1, h2, h3, fun i hi => ?_⟩
  obtain ⟨a, rfl, hcl⟩ := h4 i hi
  have hlt := World.block_lt_of_cell? w _ hcl
  rw [add_block] at hlt
  refine ⟨a, rfl, ?_⟩
  rw [World.cell?_of_block (w := w) (by rw [add_block]; exact hc.block a.block hlt (hT a.block rfl))]
  exact hcl
theorem at3 {w : World} {g : Nat} {x y z : Value} {t : TypeId} (h : w.heap[g]? = some (.cells #[x, y, z] t (0, 0))) : w.cell? ⟨g, 0, none⟩ = some x ∧ w.cell? ⟨g, 1, none⟩ = some y ∧ w.cell? ⟨g, 2, none⟩ = some z ∧ ∀ i, w.frozen? ⟨g, i, none⟩ = false :=
  ⟨by rw [cell_of_row _ _ _ _ _ _ h]; rfl, by rw [cell_of_row _ _ _ _ _ _ h]; rfl, by rw [cell_of_row _ _ _ _ _ _ h]; rfl, fun i => frozen_of_row _ _ _ _ _ h⟩
theorem put3 {w : World} {g : Nat} {u0 u1 u2 : Value} {t : TypeId} (h : w.heap[g]? = some (.cells #[u0, u1, u2] t (0, 0))) (v0 v1 v2 : Value) : (((w.setCell ⟨g, 0, none⟩ v0).setCell ⟨g, 1, none⟩ v1).setCell ⟨g, 2, none⟩ v2).heap[g]? = some (.cells #[v0, v1, v2] t (0, 0)) := by
  have h0 := heap_setCell_same w g 0 _ _ v0 h
  have h1 := heap_setCell_same _ g 1 _ _ v1 h0
  have h2 := heap_setCell_same _ g 2 _ _ v2 h1
  rw [h2]
  rfl
theorem put3_chg (w : World) (g : Nat) (v0 v1 v2 : Value) : Chg (fun b => b = g) w (((w.setCell ⟨g, 0, none⟩ v0).setCell ⟨g, 1, none⟩ v1).setCell ⟨g, 2, none⟩ v2) :=
  (((Chg.refl (fun b => b = g) w).put g 0 v0 rfl).put g 1 v1 rfl).put g 2 v2 rfl

/-- What is written into the block of the result: three values. -/
theorem out3 {w w1 : World} {g : Nat} {x y z : Value} {t : TypeId} {c : Cn} (hg : w1.heap[g]? = some (.cells #[.slice none 0 0, .slice none 0 0, .slice none 0 0] t (0, 0))) (hw : w.heap.size ≤ g) (hb : Below w.heap.size w w1) (hr : Rc w1 x y z c) (hx : ∀ v ∈ [x, y, z], ∀ b, v.ownBlock = some b → b ≠ g) (W : World) (hW : W = ((w1.setCell ⟨g, 0, none⟩ x).setCell ⟨g, 1, none⟩ y).setCell ⟨g, 2, none⟩ z) :
    (W.cell? ⟨g, 0, none⟩ = some x ∧ W.cell? ⟨g, 1, none⟩ = some y ∧ W.cell? ⟨g, 2, none⟩ = some z) ∧ Rc W x y z c ∧ Below w.heap.size w W := by
  subst hW
  obtain ⟨k0, k1, k2, _⟩ := at3 (put3 hg x y z)
  have hch := put3_chg w1 g x y z
  refine ⟨⟨k0, k1, k2⟩, ⟨hr.1.keptC hch (fun b e q => hx x (by simp) b e q), hr.2.1.keptC hch (fun b e q => hx y (by simp) b e q), hr.2.2.keptC hch (fun b e q => hx z (by simp) b e q)⟩, hb.trans (hch.below (fun b q => by omega) hb.size)⟩

/-- The array of lists while it is filled. -/
structure Fil3 (B g : Nat) (fs : List (List UInt8)) (k : Nat) (xs : Array Value) (w : World) : Prop where
  sz : xs.size = 3
  blk : w.heap[g]? = some (.cells xs 65 (0, 0))
  el : ∀ j f, j < k → fs[j]? = some f → ∃ l x, M.dn f = some l ∧ xs[j]? = some x ∧ Ru w x l ∧ ∀ b, x.ownBlock = some b → B ≤ b ∧ b ≠ g
theorem Fil3.below {B g C : Nat} {fs : List (List UInt8)} {k : Nat} {xs : Array Value} {w w' : World} (h : Fil3 B g fs k xs w) (hb : Below C w w') (hC : w.heap.size ≤ C) : Fil3 B g fs k xs w' :=
  ⟨h.sz, by rw [hb.block g (by have := (Array.getElem?_eq_some_iff.1 h.blk).1; omega)]; exact h.blk, fun j f hj hf => by
    obtain ⟨l, x, q1, q2, q3, q4⟩ := h.el j f hj hf
    exact ⟨l, x, q1, q2, q3.below hb hC, q4⟩⟩
theorem Fil3.put {B g : Nat} {fs : List (List UInt8)} {k : Nat} {xs : Array Value} {w : World} (h : Fil3 B g fs k xs w) (hk : k < 3) {f : List UInt8} (hf : fs[k]? = some f) {l : List UInt64} (hd : M.dn f = some l) {x : Value} (hx : Ru w x l) (hb : ∀ b, x.ownBlock = some b → B ≤ b ∧ b ≠ g) : Fil3 B g fs (k + 1) (xs.setIfInBounds k x) (w.setCell ⟨g, k, none⟩ x) := by
  have hch : Chg (fun b => b = g) w (w.setCell ⟨g, k, none⟩ x) := (Chg.refl _ w).put g k x rfl
  refine ⟨by rw [Array.size_setIfInBounds]; exact h.sz, heap_setCell_same _ _ _ _ _ _ h.blk, fun j f' hj hf' => ?_⟩
  by_cases hjk : j = k
  · subst hjk
    rw [hf] at hf'
    obtain rfl := Option.some.inj hf'
    exact ⟨l, x, hd, by have := h.sz; simp [show j < xs.size by omega], hx.keptC hch (fun b e q => (hb b e).2 q), hb⟩
  · obtain ⟨l', x', q1, q2, q3, q4⟩ := h.el j f' (by omega) hf'
    exact ⟨l', x', q1, by rw [Array.getElem?_setIfInBounds, if_neg (by omega)]; exact q2, q3.keptC hch (fun b e q => (q4 b e).2 q), q4⟩
theorem d3_none (fs : List (List UInt8)) (k : Nat) (f : List UInt8) (hl : fs.length = 3) (hf : fs[k]? = some f) (hd : M.dn f = none) : M.d3 fs = none := by
  match fs, hl with
  | [a, b, c], _ =>
    match k with
    | 0 => simp at hf; subst hf; simp [M.d3, hd]
    | 1 => simp at hf; subst hf; simp only [M.d3, hd]; split <;> simp_all
    | 2 => simp at hf; subst hf; simp only [M.d3, hd]; split <;> simp_all
    | k + 3 => simp at hf
theorem Fil3.done {B g : Nat} {fs : List (List UInt8)} {xs : Array Value} {w : World} (h : Fil3 B g fs 3 xs w) (hl : fs.length = 3) : ∃ x y z c, xs = #[x, y, z] ∧ M.d3 fs = some c ∧ Rc w x y z c ∧ ∀ v ∈ [x, y, z], ∀ b, v.ownBlock = some b → B ≤ b ∧ b ≠ g := by
  have hs := h.sz
  match fs, hl with
  | [a, b, c], _ =>
    obtain ⟨l0, x0, a0, b0, c0, d0⟩ := h.el 0 a (by omega) rfl
    obtain ⟨l1, x1, a1, b1, c1, d1⟩ := h.el 1 b (by omega) rfl
    obtain ⟨l2, x2, a2, b2, c2, d2⟩ := h.el 2 c (by omega) rfl
    refine ⟨x0, x1, x2, (l0, l1, l2), ?_, by simp [M.d3, a0, a1, a2], ⟨c0, c1, c2⟩, ?_⟩
    · obtain ⟨xs⟩ := xs
      match xs, hs with
      | [p, q, r], _ => simp at b0 b1 b2; subst b0; subst b1; subst b2; rfl
    · intro v hv
      simp only [List.mem_cons, List.not_mem_nil, or_false] at hv
      rcases hv with rfl | rfl | rfl
      · exact d0
      · exact d1
      · exact d2

set_option maxHeartbeats 2000000 in
theorem decode_any {v : Value} {l : List UInt8} {w : World} (hr : Rd w v l) (hl : l.length ≤ 1099511627776) :
    Calls Try.prog 13 #[v] w fun e w' => ∃ x y z : Value, e = .returned (.tuple #[.agg #[x, y, z], .int .i64 (if (M.dc l).isSome then 0 else 12)]) ∧ Rc w' x y z ((M.dc l).getD ([], [], [])) ∧ Below w.heap.size w w' := by
  have htr := takerow_any (hr.alloc (.cells #[.slice none 0 0, .slice none 0 0, .slice none 0 0] 24)) hl
  have hb0 := u_al w (.cells #[.slice none 0 0, .slice none 0 0, .slice none 0 0] 24)
  have hR0 := heap_alloc_new w (.cells #[.slice none 0 0, .slice none 0 0, .slice none 0 0] 24)
  have hz0 : (w.alloc (.cells #[.slice none 0 0, .slice none 0 0, .slice none 0 0] 24)).heap.size = w.heap.size + 1 := by simp
  have hmem := tr_mem l
  unfold M.dc
  generalize M.tr l = T at *
  obtain ⟨fs, er⟩ := T
  simp only [] at *
  -- what ends in an error
  have bad : ∀ (w1 : World), Below (w.heap.size + 1) (w.alloc (.cells #[.slice none 0 0, .slice none 0 0, .slice none 0 0] 24)) w1 → ∀ W, W = ((w1.setCell ⟨w.heap.size, 0, none⟩ (.slice none 0 0)).setCell ⟨w.heap.size, 1, none⟩ (.slice none 0 0)).setCell ⟨w.heap.size, 2, none⟩ (.slice none 0 0) → (W.cell? ⟨w.heap.size, 0, none⟩ = some (.slice none 0 0) ∧ W.cell? ⟨w.heap.size, 1, none⟩ = some (.slice none 0 0) ∧ W.cell? ⟨w.heap.size, 2, none⟩ = some (.slice none 0 0)) ∧ Rc W (.slice none 0 0) (.slice none 0 0) (.slice none 0 0) ([], [], []) ∧ Below w.heap.size w W := fun w1 h1 W hW =>
    out3 (by rw [h1.block _ (by omega)]; exact hR0) (Nat.le_refl _) (hb0.trans (h1.mono (by omega))) (Rc.nil _) (fun v hv b e => by simp at hv; subst hv; cases e) W hW
  have HBAD : Hid _ := bad
  have HR0 : Hid _ := hR0
  clear bad hR0
  have kz : ∀ W, Below (w.heap.size + 1) (w.alloc (.cells #[.slice none 0 0, .slice none 0 0, .slice none 0 0] 24)) W → W.heap[w.heap.size]? = some (.cells #[.slice none 0 0, .slice none 0 0, .slice none 0 0] 24 (0, 0)) := fun W hW => by rw [hW.block _ (by omega)]; exact HR0.out
  have HKZ : Hid _ := kz
  clear kz
  by_cases her : er = 0 ∧ fs.length = 3
  · obtain ⟨rfl, hfl⟩ := her
    rw [if_pos rfl]
    generalize hR : M.d3 fs = R
    have HR : Hid _ := hR
    clear hR
    go_enter Try.func13, Try.ntmps13
    go_wp2_with fail
    refine htr.mono ?_
    rintro e w1 ⟨v1, us, rfl, hos, hb1⟩
    clear htr
    rw [hz0] at hb1
    have hrds := hos.rds
    obtain ⟨ao, c, rfl, h1, h2, h4⟩ := hos.rds
    unfold maxLen at h2
    have h3 : fs.length = 3 := hfl
    have HFL : Hid _ := hfl
    have hlx : Fil3 (w.heap.size + 1) w1.heap.size fs 0 #[.slice none 0 0, .slice none 0 0, .slice none 0 0] (w1.alloc (.cells #[.slice none 0 0, .slice none 0 0, .slice none 0 0] 65)) := ⟨rfl, heap_alloc_new _ _, fun j f hj => by omega⟩
    have hb2 : Below (w.heap.size + 1) (w.alloc (.cells #[.slice none 0 0, .slice none 0 0, .slice none 0 0] 24)) (w1.alloc (.cells #[.slice none 0 0, .slice none 0 0, .slice none 0 0] 65)) := hb1.alloc (by have := hb1.size; omega) _
    have hs1 := hb1.size
    have HRK : Hid (∀ W, Below w1.heap.size w1 W → Rds W (.slice ao 3 c) fs) := fun W hW => by have := hrds.below hW (Nat.le_refl _); rw [HFL.out] at this; exact this
    have hbw := u_al w1 (.cells #[.slice none 0 0, .slice none 0 0, .slice none 0 0] 65)
    rw [hfl] at h1 ⊢
    clear hrds h4 hos
    go_wp2_with fail
    generalize (w1.alloc (.cells #[.slice none 0 0, .slice none 0 0, .slice none 0 0] 65)) = w2 at *
    go_loopw [5, 7, 8, 24] (fun _ _ _ i wr => ∃ (k : Nat) (xs : Array Value), k ≤ 3 ∧ i = .int .i64 k ∧ Fil3 (w.heap.size + 1) w1.heap.size fs k xs wr ∧ Below (w.heap.size + 1) (w.alloc (.cells #[.slice none 0 0, .slice none 0 0, .slice none 0 0] 24)) wr ∧ Below w1.heap.size w1 wr) (fun _ _ _ i _ => 3 - (intOf i).toNat)
    case atStart => exact ⟨0, _, Nat.zero_le _, rfl, hlx, hb2, hbw⟩
    case round =>
      obtain ⟨k, xs, hk, rfl, hfx, hb, hB2⟩ := hrel
      have hrd := HRK.out wr hB2
      clear hlx hb2 hbw
      have hB := hb.size
      rw [hz0] at hB
      by_cases hlt : k < 3
      · have HRD : Hid _ := hrd
        obtain ⟨ao', c', e0, _, _, h4⟩ := hrd
        obtain ⟨a, u, ea, hc, hru⟩ := h4 k (by rw [HFL.out]; exact hlt)
        simp only [Value.slice.injEq] at e0
        obtain ⟨rfl, -, rfl⟩ := e0
        subst ea
        clear h4
        have hf : fs[k]? = some (fs[k]'(by rw [HFL.out]; exact hlt)) := List.getElem?_eq_getElem _
        have hfl2 := hmem _ (List.getElem_mem (l := fs) (n := k) (by rw [HFL.out]; exact hlt))
        generalize fs[k]'(by rw [HFL.out]; exact hlt) = f at *
        have htn := takenums_any hru (by omega)
        have HN : Hid (M.dn f = none → R = none) := fun hd => by rw [← HR.out]; exact d3_none fs k f HFL.out hf hd
        have hgl : w1.heap.size < wr.heap.size := (Array.getElem?_eq_some_iff.1 hfx.blk).1
        have HF : Hid _ := hf
        clear hf hmem h3
        obtain ⟨au, cu, rfl, u1, u2, hx1, hx2⟩ := hru
        clear hx1 hx2
        cases hd : M.dn f with
        | none =>
          obtain rfl := HN.out hd
          rw [hd] at htn
          clear hd
          go_wp2_with fail
          refine htn.mono ?_
          rintro e w3 ⟨v3, e3, rfl, he3, ho3, hb3⟩
          have he3' : e3 ≠ 0 := fun q => by simpa using he3.1 q
          have hne : (((e3 : Nat) : Int) != 0) = true := by simp; omega
          obtain ⟨a3, c3, rfl⟩ : ∃ a c, v3 = .slice a 0 c := ho3.shape
          have hfx3 := hfx.below hb3 (Nat.le_refl _)
          have hbl := hfx3.blk
          have hsz := hfx3.sz
          have hck : w3.cell? ⟨w1.heap.size, k, none⟩ = some (xs[k]'(by omega)) := by rw [cell_of_row _ _ _ _ _ _ hbl]; simp [show k < xs.size by omega]
          have hfk : w3.frozen? ⟨w1.heap.size, k, none⟩ = false := frozen_of_row _ _ _ _ _ hbl
          have hb3' : Below (w.heap.size + 1) (w.alloc (.cells #[.slice none 0 0, .slice none 0 0, .slice none 0 0] 24)) (w3.setCell ⟨w1.heap.size, k, none⟩ (.slice a3 0 c3)) := (hb.trans (hb3.mono (by omega))).trans (((Chg.refl (fun b => b = w1.heap.size) w3).put w1.heap.size k _ rfl).below (fun b q => by omega) (by have := hb3.size; omega))
          have HB3 : Hid _ := hb3'
          clear hb3'
          obtain ⟨t0, t1, t2, tz⟩ := at3 (HKZ.out _ HB3.out)
          have tz0 := tz 0
          have tz1 := tz 1
          have tz2 := tz 2
          clear tz
          go_wp2_with fail
          obtain ⟨⟨k0, k1, k2⟩, hrc, hbz⟩ := HBAD.out _ HB3.out _ rfl
          generalize hWZ : ((((w3.setCell ⟨w1.heap.size, k, none⟩ (.slice a3 0 c3)).setCell ⟨w.heap.size, 0, none⟩ (.slice none 0 0)).setCell ⟨w.heap.size, 1, none⟩ (.slice none 0 0)).setCell ⟨w.heap.size, 2, none⟩ (.slice none 0 0)) = wz at *
          (try simp only [Exit.inBlock, Exit.then])
          refine bodyPost_ret (v := .tuple #[.agg #[.slice none 0 0, .slice none 0 0, .slice none 0 0], .int .i64 12]) (by simp [results, Try.results13, go_sem, k0, k1, k2]; try rfl) rfl ?_
          exact ⟨_, _, _, rfl, hrc, hbz⟩
        | some ln =>
          rw [hd] at htn
          have HD : Hid _ := hd
          clear hd
          go_wp2_with fail
          refine htn.mono ?_
          rintro e w3 ⟨v3, e3, rfl, he3, ho3, hb3⟩
          have he3' : e3 = 0 := he3.2 (by simp)
          subst he3'
          clear he3
          have ho3' : Ou wr.heap.size w3 v3 ln := ho3
          clear ho3
          have hbv : ∀ b, v3.ownBlock = some b → w.heap.size + 1 ≤ b ∧ b ≠ w1.heap.size := fun b e => by have := (ho3'.lt b e).1; omega
          have hfx3 := hfx.below hb3 (Nat.le_refl _)
          have hbl := hfx3.blk
          have hsz := hfx3.sz
          have HP : Hid _ := hfx3.put hlt HF.out HD.out ho3'.ru hbv
          have hck : w3.cell? ⟨w1.heap.size, k, none⟩ = some (xs[k]'(by omega)) := by rw [cell_of_row _ _ _ _ _ _ hbl]; simp [show k < xs.size by omega]
          have hfk : w3.frozen? ⟨w1.heap.size, k, none⟩ = false := frozen_of_row _ _ _ _ _ hbl
          have hch : Chg (fun b => b = w1.heap.size) w3 (w3.setCell ⟨w1.heap.size, k, none⟩ v3) := (Chg.refl _ w3).put w1.heap.size k _ rfl
          have HB3 : Hid _ := (hb.trans (hb3.mono (by omega))).trans (hch.below (fun b q => by omega) (by have := hb3.size; omega))
          have HBW : Hid _ := (hB2.trans ((hb3.mono hB2.size).trans (hch.below (fun b q => by omega) (by have := hb3.size; omega))))
          obtain ⟨a3, c3, rfl⟩ := ho3'.shape
          clear hch hfx3 hbv
          go_wp2_with fail
          exact ⟨⟨k + 1, _, by omega, by go_num, HP.out, HB3.out, HBW.out⟩, by simp [intOf]; omega⟩
      · obtain rfl : k = 3 := by omega
        obtain ⟨x, y, z, cc, rfl, hd3, hrc, hbb⟩ := hfx.done HFL.out
        have hR : R = some cc := by rw [← HR.out]; exact hd3
        subst hR
        obtain ⟨q0, q1, q2, qz⟩ := at3 hfx.blk
        obtain ⟨t0, t1, t2, tz⟩ := at3 (HKZ.out _ hb)
        have tz0 := tz 0
        have tz1 := tz 1
        have tz2 := tz 2
        have HO : Hid _ := out3 (HKZ.out _ hb) (Nat.le_refl _) (hb0.trans (hb.mono (Nat.le_succ _))) hrc (fun v hv b e => by have := (hbb v hv b e).1; omega)
        obtain ⟨ax, cx, rfl⟩ := hrc.1.shape
        obtain ⟨ay, cy, rfl⟩ := hrc.2.1.shape
        obtain ⟨az, cz, rfl⟩ := hrc.2.2.shape
        clear qz tz hd3 hbb
        go_wp2_with fail
        obtain ⟨⟨k0, k1, k2⟩, hrc2, hbz⟩ := HO.out _ rfl
        generalize (((wr.setCell ⟨w.heap.size, 0, none⟩ (.slice ax cc.1.length cx)).setCell ⟨w.heap.size, 1, none⟩ (.slice ay cc.2.1.length cy)).setCell ⟨w.heap.size, 2, none⟩ (.slice az cc.2.2.length cz)) = wz at *
        (try simp only [Exit.inBlock, Exit.then])
        refine bodyPost_ret (v := .tuple #[.agg #[.slice ax cc.1.length cx, .slice ay cc.2.1.length cy, .slice az cc.2.2.length cz], .int .i64 0]) (by simp [results, Try.results13, go_sem, k0, k1, k2]; try rfl) rfl ?_
        exact ⟨_, _, _, rfl, hrc2, hbz⟩
  · have hR : (if er = 0 then M.d3 fs else none) = none := by
      by_cases h0 : er = 0
      · rw [if_pos h0]
        match fs with
        | [] => rfl
        | [_] => rfl
        | [_, _] => rfl
        | [_, _, _] => exact absurd ⟨h0, rfl⟩ her
        | _ :: _ :: _ :: _ :: _ => rfl
      · rw [if_neg h0]
    rw [hR]
    clear hR
    have tail : ∀ (w1 : World), Below (w.heap.size + 1) (w.alloc (.cells #[.slice none 0 0, .slice none 0 0, .slice none 0 0] 24)) w1 → Below (w.heap.size + 1) (w.alloc (.cells #[.slice none 0 0, .slice none 0 0, .slice none 0 0] 24)) (w1.alloc (.cells #[.slice none 0 0, .slice none 0 0, .slice none 0 0] 65)) := fun w1 h1 => h1.alloc (by have := h1.size; omega) _
    by_cases h0 : er = 0
    · subst h0
      have hn3 : (((fs.length : Nat) : Int) != 3) = true := by
        have : fs.length ≠ 3 := fun q => her ⟨rfl, q⟩
        simp; omega
      clear her hmem
      go_enter Try.func13, Try.ntmps13
      go_wp2_with fail
      refine htr.mono ?_
      rintro e w1 ⟨v1, us, rfl, hos, hb1⟩
      rw [hz0] at hb1
      have hb2 := tail w1 hb1
      obtain ⟨ao, c, rfl, _⟩ := hos.rds
      obtain ⟨t0, t1, t2, tz⟩ := at3 (HKZ.out _ hb2)
      have tz0 := tz 0
      have tz1 := tz 1
      have tz2 := tz 2
      clear tz
      go_wp2_with fail
      obtain ⟨⟨k0, k1, k2⟩, hrc, hbz⟩ := HBAD.out _ hb2 _ rfl
      generalize ((((w1.alloc (.cells #[.slice none 0 0, .slice none 0 0, .slice none 0 0] 65)).setCell ⟨w.heap.size, 0, none⟩ (.slice none 0 0)).setCell ⟨w.heap.size, 1, none⟩ (.slice none 0 0)).setCell ⟨w.heap.size, 2, none⟩ (.slice none 0 0)) = wz at *
      refine bodyPost_ret (v := .tuple #[.agg #[.slice none 0 0, .slice none 0 0, .slice none 0 0], .int .i64 12]) (by simp [results, Try.results13, go_sem, k0, k1, k2]; try rfl) rfl ?_
      exact ⟨_, _, _, rfl, hrc, hbz⟩
    · have hne : (((er : Nat) : Int) != 0) = true := by simp; omega
      clear her hmem
      go_enter Try.func13, Try.ntmps13
      go_wp2_with fail
      refine htr.mono ?_
      rintro e w1 ⟨v1, us, rfl, hos, hb1⟩
      rw [hz0] at hb1
      have hb2 := tail w1 hb1
      obtain ⟨t0, t1, t2, tz⟩ := at3 (HKZ.out _ hb2)
      have tz0 := tz 0
      have tz1 := tz 1
      have tz2 := tz 2
      clear tz
      go_wp2_with fail
      obtain ⟨⟨k0, k1, k2⟩, hrc, hbz⟩ := HBAD.out _ hb2 _ rfl
      generalize ((((w1.alloc (.cells #[.slice none 0 0, .slice none 0 0, .slice none 0 0] 65)).setCell ⟨w.heap.size, 0, none⟩ (.slice none 0 0)).setCell ⟨w.heap.size, 1, none⟩ (.slice none 0 0)).setCell ⟨w.heap.size, 2, none⟩ (.slice none 0 0)) = wz at *
      refine bodyPost_ret (v := .tuple #[.agg #[.slice none 0 0, .slice none 0 0, .slice none 0 0], .int .i64 12]) (by simp [results, Try.results13, go_sem, k0, k1, k2]; try rfl) rfl ?_
      exact ⟨_, _, _, rfl, hrc, hbz⟩
end Go.Proofs.Ytgienommkifbnaa

/- What Enter answers of any configuration and any changes. -/
namespace Go.Proofs.Ytgienommkifbnaa
open Go.RowKit Go.Maps
set_option linter.unusedVariables false
set_option maxRecDepth 100000

/-- A change: its kind, its peer. -/
abbrev Cg := Int × UInt64
structure CgAt (w : World) (a : Addr) (q : Cg) : Prop where
  c0 : w.cell? a = some (.int .i64 q.1)
  c1 : w.cell? ⟨a.block, a.off + 1, none⟩ = some (.int .u64 (q.2.toNat : Int))
/-- The slice value v reads as these changes. -/
def RdX (w : World) (v : Value) (qs : List Cg) : Prop :=
  ∃ ao c, v = .slice ao qs.length c ∧ qs.length ≤ c ∧ c ≤ maxLen ∧ (∀ q ∈ qs, -9223372036854775808 ≤ q.1 ∧ q.1 ≤ 9223372036854775807) ∧ ∀ (i : Nat) q, qs[i]? = some q → ∃ a, ao = some a ∧ CgAt w (a.add (i * 2)) q
theorem RdX.below {B : Nat} {w w' : World} {v : Value} {qs : List Cg} (h : RdX w v qs) (hb : Below B w w') (hB : w.heap.size ≤ B) : RdX w' v qs := by
  obtain ⟨ao, c, h0, h1, h2, h3, h4⟩ := h
  refine ⟨ao, c, h0, h1, h2, h3, fun i q hq => ?_⟩
  obtain ⟨a, e, hc⟩ := h4 i q hq
  have l0 := World.block_lt_of_cell? w _ hc.c0
  have l1 := World.block_lt_of_cell? w _ hc.c1
  exact ⟨a, e, by rw [hb.cell (by omega)]; exact hc.c0, by rw [hb.cell (by omega)]; exact hc.c1⟩

/-- The changes one after the other. -/
def foldS (S : UInt64 → Nat) : List Cg → Option (UInt64 → Nat)
  | [] => some S
  | q :: r => (chg1 S q.1 q.2).bind fun S' => foldS S' r
theorem chg1_le {S S' : UInt64 → Nat} {k : Int} {p : UInt64} (h : chg1 S k p = some S') (hs : ∀ x, S x ≤ 2) : ∀ x, S' x ≤ 2 := by
  intro x
  unfold chg1 at h
  have hu : ∀ s, s ≤ 2 → upd S p s x ≤ 2 := fun s hs2 => by unfold upd; split; exact hs2; exact hs x
  split at h
  · cases h
  · split at h
    · cases h; exact hu 1 (by omega)
    · split at h
      · split at h
        · cases h
        · cases h; exact hu 2 (by omega)
      · split at h
        · cases h; exact hu 0 (by omega)
        · cases h
/-- The rising list of all that have such a seat. -/
def IsL (S : UInt64 → Nat) (s : Nat) (l : List UInt64) : Prop := Ris l ∧ ∀ x, x ∈ l ↔ S x = s
def none3 : Cn := ([], [], [])
def nxt (V V' L' : List UInt64) : Cn := (V', if V' = V then [] else V, L')
/-- What Enter comes to. -/
def EntR (c : Cn) (qs : List Cg) (res : Cn) (er : Nat) : Prop :=
  (chk c = false ∧ res = none3 ∧ er = 70) ∨ (chk c = true ∧ 0 < c.2.1.length ∧ res = none3 ∧ er = 71) ∨
  (chk c = true ∧ c.2.1 = [] ∧ foldS (seatF c.1 c.2.2) qs = none ∧ res = none3 ∧ er = 70) ∨
  (chk c = true ∧ c.2.1 = [] ∧ ∃ S V' L', foldS (seatF c.1 c.2.2) qs = some S ∧ IsL S 1 V' ∧ IsL S 2 L' ∧ ((chk (nxt c.1 V' L') = false ∧ res = none3 ∧ er = 70) ∨ (chk (nxt c.1 V' L') = true ∧ res = nxt c.1 V' L' ∧ er = 0)))
def Oc (B : Nat) (w : World) (x y z : Value) (c : Cn) : Prop := Ou B w x c.1 ∧ Ou B w y c.2.1 ∧ Ou B w z c.2.2
theorem Oc.rc {B : Nat} {w : World} {x y z : Value} {c : Cn} (h : Oc B w x y z c) : Rc w x y z c := ⟨h.1.ru, h.2.1.ru, h.2.2.ru⟩
theorem Oc.nil (B : Nat) (w : World) : Oc B w (.slice none 0 0) (.slice none 0 0) (.slice none 0 0) none3 := ⟨Ou.nil _ _, Ou.nil _ _, Ou.nil _ _⟩
theorem Ou.keptC {B : Nat} {T : Nat → Prop} {w w' : World} {v : Value} {l : List UInt64} (h : Ou B w v l) (hc : Chg T w w') (hT : ∀ b, v.ownBlock = some b → ¬ T b) : Ou B w' v l := ownsRow_keptC h hc hT
theorem Oc.keptC {B : Nat} {T : Nat → Prop} {w w' : World} {x y z : Value} {c : Cn} (h : Oc B w x y z c) (hc : Chg T w w') (hT : ∀ b, B ≤ b → ¬ T b) : Oc B w' x y z c :=
  ⟨h.1.keptC hc (fun b e => hT b (h.1.lt b e).1), h.2.1.keptC hc (fun b e => hT b (h.2.1.lt b e).1), h.2.2.keptC hc (fun b e => hT b (h.2.2.lt b e).1)⟩
theorem Oc.mono {B B' : Nat} {w : World} {x y z : Value} {c : Cn} (h : Oc B w x y z c) (hB : B' ≤ B) : Oc B' w x y z c := ⟨h.1.mono hB, h.2.1.mono hB, h.2.2.mono hB⟩

/-- The result is written into its block. -/
theorem outO {w w1 : World} {g s0 : Nat} {u v0 t0 x y z : Value} {t : TypeId} {c : Cn} (hg : w1.heap[g]? = some (.cells #[u, v0, t0] t (0, 0))) (hw : w.heap.size ≤ g) (hgs : g < s0) (hb : Below w.heap.size w w1) (hr : Oc s0 w1 x y z c) (W : World) (hW : W = ((w1.setCell ⟨g, 0, none⟩ x).setCell ⟨g, 1, none⟩ y).setCell ⟨g, 2, none⟩ z) :
    (W.cell? ⟨g, 0, none⟩ = some x ∧ W.cell? ⟨g, 1, none⟩ = some y ∧ W.cell? ⟨g, 2, none⟩ = some z) ∧ Oc w.heap.size W x y z c ∧ Below w.heap.size w W := by
  subst hW
  obtain ⟨k0, k1, k2, _⟩ := at3 (put3 hg x y z)
  have hch := put3_chg w1 g x y z
  exact ⟨⟨k0, k1, k2⟩, (hr.keptC hch (fun b h q => by omega)).mono (by omega), hb.trans (hch.below (fun b q => by omega) hb.size)⟩

theorem foldS_snoc (S S' : UInt64 → Nat) (qs : List Cg) (k : Nat) (q : Cg) (hq : qs[k]? = some q) (h : foldS S (qs.take k) = some S') : foldS S (qs.take (k + 1)) = chg1 S' q.1 q.2 := by
  have e : qs.take (k + 1) = qs.take k ++ [q] := by
    obtain ⟨hk, e⟩ := List.getElem?_eq_some_iff.1 hq
    rw [List.take_succ_eq_append_getElem hk, e]
  have app : ∀ (a b : List Cg) (T : UInt64 → Nat), foldS T (a ++ b) = (foldS T a).bind fun T' => foldS T' b := by
    intro a b
    induction a with
    | nil => intro T; rfl
    | cons x r ih =>
      intro T
      simp only [List.cons_append, foldS]
      cases chg1 T x.1 x.2 with
      | none => rfl
      | some T' => exact ih T'
  rw [e, app, h]
  show ((chg1 S' q.1 q.2).bind fun T => foldS T []) = _
  cases chg1 S' q.1 q.2 <;> rfl
theorem foldS_none (S S' : UInt64 → Nat) (qs : List Cg) (k : Nat) (q : Cg) (hq : qs[k]? = some q) (h : foldS S (qs.take k) = some S') (hn : chg1 S' q.1 q.2 = none) : foldS S qs = none := by
  have app : ∀ (a b : List Cg) (T : UInt64 → Nat), foldS T (a ++ b) = (foldS T a).bind fun T' => foldS T' b := by
    intro a b
    induction a with
    | nil => intro T; rfl
    | cons x r ih =>
      intro T
      simp only [List.cons_append, foldS]
      cases chg1 T x.1 x.2 with
      | none => rfl
      | some T' => exact ih T'
  have h1 := foldS_snoc S S' qs k q hq h
  rw [hn] at h1
  rw [← List.take_append_drop (k + 1) qs, app, h1]
  rfl
theorem seatF_le (V L : List UInt64) : ∀ x, seatF V L x ≤ 2 := fun x => by unfold seatF; split; omega; split <;> omega
end Go.Proofs.Ytgienommkifbnaa

/- How a configuration, a list of numbers, a list of changes that came in is read. -/
namespace Go.Proofs.Ytgienommkifbnaa
open Go.ChangeShapes Go.WideShapes Go.ChangeAt Go.RowKit
set_option linter.unusedVariables false
set_option maxRecDepth 100000

theorem u64_ofNat (z : Int) (h : 0 ≤ z ∧ z ≤ 18446744073709551615) : ((UInt64.ofNat z.toNat).toNat : Int) = z := by
  rw [UInt64.toNat_ofNat']; omega
/-- One list of numbers among the cells that came in. -/
theorem open_nums_cs {H : Type} {enc : TypeId × Value → H} {W : World} {fuel : Nat} {cs : List Value} {x : DataW H × List MemPlace} (hf : DataW.trod enc Try.prog W 0 (fun _ => true) true fuel 22 cs = some x) :
    ∃ u l, cs = [u] ∧ Ru W u l ∧ l.length + 1 ≤ Rows.uptoBulk x.1 := by
  rcases open_ints Try.underlying22 Try.underlying35 (by kernel_rfl) hf with ⟨hcs, hx⟩ | ⟨a, len, cap, zs, hcs, _, hl, hm, hz, hd, hcell, hwz⟩
  · subst hx
    exact ⟨_, [], hcs, Ru.nil _, by simp [Rows.uptoBulk]⟩
  · have hz' : zs.length = cap := by simpa using hz
    have hlen : ((zs.take len).map (fun z => UInt64.ofNat z.toNat)).length = len := by simp; omega
    refine ⟨_, (zs.take len).map (fun z => UInt64.ofNat z.toNat), hcs, Ru.mk hlen.symm (by omega) hm (fun i hi => ?_), ?_⟩
    · have hi' : i < zs.length := by omega
      rw [hcell i hi']
      have hw := hwz (zs[i]) (List.getElem_mem hi')
      have hx : 0 ≤ zs[i] ∧ zs[i] ≤ 18446744073709551615 := by simpa [Lit.wf, IntKind.min, IntKind.max, IntKind.signed, IntKind.bits] using hw
      have e : zs.getD i 0 = zs[i] := by simp [hi']
      rw [e]
      simp only [List.getElem_map, List.getElem_take]
      rw [u64_ofNat _ hx]
    · rw [hlen, hd]
      have := bulk_ge (H := H) (lits .u64 (zs.take len))
      simp only [Rows.uptoBulk]
      simp only [lits, List.length_map, List.length_take] at this
      simp only [lits]
      omega
/-- A list of numbers that came in. -/
theorem open_nums {H : Type} {enc : TypeId × Value → H} {W : World} {a0 : Option Addr} {len cap : Nat} {d : DataW H} {p : List MemPlace} (h : DataW.Trod enc Try.prog W 0 (fun _ => true) true 22 (.slice a0 len cap) d p) :
    ∃ l : List UInt64, Ru W (.slice a0 len cap) l ∧ l.length + 1 ≤ Rows.uptoBulk d := by
  obtain ⟨fuel, hf⟩ := h
  obtain ⟨u, l, e, hq, hb⟩ := open_nums_cs hf
  simp [Value.cells] at e
  subst e
  exact ⟨l, hq, hb⟩
/-- A configuration that came in. -/
theorem open_conf {H : Type} {enc : TypeId × Value → H} {W : World} {xs : Array Value} {d : DataW H} {p : List MemPlace} (h : DataW.Trod enc Try.prog W 0 (fun _ => true) true 24 (.agg xs) d p) :
    ∃ (x y z : Value) (c : Cn), xs = #[x, y, z] ∧ Rc W x y z c ∧ c.1.length + c.2.1.length + c.2.2.length + 3 ≤ Rows.uptoBulk d := by
  obtain ⟨fuel, ht⟩ := h
  obtain ⟨ys, n, _, hx, hl, hxl, hfs⟩ := DataW.trod_struct Try.underlying24 ht
  have k22 : Try.prog.cellsOf 22 = 1 := by kernel_rfl
  have hcz : Try.prog.cellsOf 24 = 3 := by kernel_rfl
  rw [hcz] at hl
  have hd : d = .agg (ys.map (·.1)) := congrArg Prod.fst hx
  clear hx
  obtain ⟨xs⟩ := xs
  have hc : (Value.agg ⟨xs⟩).cells.toList = xs := rfl
  rw [hc] at hl hfs
  obtain ⟨v0, v1, v2, rfl⟩ : ∃ a b c, xs = [a, b, c] := by
    match xs, hl with
    | [a, b, c], _ => exact ⟨a, b, c, rfl⟩
  obtain ⟨y0, y1, y2, rfl⟩ : ∃ a b c, ys = [a, b, c] := by
    have hxl' : ys.length = 3 := hxl
    match ys, hxl' with
    | [a, b, c], _ => exact ⟨a, b, c, rfl⟩
  have f0 : DataW.trod enc Try.prog W 0 (fun _ => true) true n 22 (List.take (Try.prog.cellsOf 22) (List.drop 0 [v0, v1, v2])) = some y0 := hfs 0 _ rfl
  have f1 : DataW.trod enc Try.prog W 0 (fun _ => true) true n 22 (List.take (Try.prog.cellsOf 22) (List.drop 1 [v0, v1, v2])) = some y1 := hfs 1 _ rfl
  have f2 : DataW.trod enc Try.prog W 0 (fun _ => true) true n 22 (List.take (Try.prog.cellsOf 22) (List.drop 2 [v0, v1, v2])) = some y2 := hfs 2 _ rfl
  rw [k22] at f0 f1 f2
  obtain ⟨u0, l0, e0, r0, b0⟩ := open_nums_cs f0
  obtain ⟨u1, l1, e1, r1, b1⟩ := open_nums_cs f1
  obtain ⟨u2, l2, e2, r2, b2⟩ := open_nums_cs f2
  have q0 : v0 = u0 := by simpa using e0
  have q1 : v1 = u1 := by simpa using e1
  have q2 : v2 = u2 := by simpa using e2
  subst q0; subst q1; subst q2
  refine ⟨v0, v1, v2, (l0, l1, l2), rfl, ⟨r0, r1, r2⟩, ?_⟩
  rw [hd]
  simp only [List.map_cons, List.map_nil, Rows.uptoBulk, Rows.uptoBulkAll]
  omega
end Go.Proofs.Ytgienommkifbnaa

/- The walk of Enter. -/
namespace Go.Proofs.Ytgienommkifbnaa
open Go.RowKit Go.Maps
set_option linter.unusedVariables false
set_option maxRecDepth 100000

theorem St.chg {m n : Nat} {S : UInt64 → Nat} {w w' : World} {T : Nat → Prop} (h : St m n S w) (hc : Chg T w w') (hT : ¬ T m) : St m n S w' := by
  obtain ⟨D, ⟨es, clock, hbk, r⟩, h2⟩ := h.own
  exact ⟨⟨D, ⟨es, clock, by rw [hc.block m (Array.getElem?_eq_some_iff.1 hbk).1 hT]; exact hbk, r⟩, h2⟩⟩
theorem St.lt {m n : Nat} {S : UInt64 → Nat} {w : World} (h : St m n S w) : m < w.heap.size := by
  obtain ⟨D, hown, _⟩ := h.own; exact hown.lt

set_option maxHeartbeats 8000000 in
theorem enter_any {N : Nat} (hSo : SortsTo N) {x y z v : Value} {c : Cn} {qs : List Cg} {w : World} (hr : Rc w x y z c) (hx : RdX w v qs) (hl : c.1.length + c.2.1.length + c.2.2.length ≤ N ∨ 27 ≤ N) (hn : c.1.length + c.2.2.length + qs.length ≤ N) (hN : N ≤ 1099511627776)
    (hq : 27 ≤ N ∨ ∀ S V' L', foldS (seatF c.1 c.2.2) qs = some S → IsL S 1 V' → IsL S 2 L' → V'.length + c.1.length + L'.length ≤ N) :
    Calls Try.prog 27 #[.agg #[x, y, z], v] w fun e w' => ∃ (x' y' z' : Value) (res : Cn) (er : Nat), e = .returned (.tuple #[.agg #[x', y', z'], .int .i64 er]) ∧ Oc w.heap.size w' x' y' z' res ∧ EntR c qs res er ∧ Below w.heap.size w w' := by
  obtain ⟨V, O, L⟩ := c
  obtain ⟨ax, cx, rfl⟩ := hr.1.shape
  obtain ⟨ay, cy, rfl⟩ := hr.2.1.shape
  obtain ⟨az, cz, rfl⟩ := hr.2.2.shape
  simp only [] at hl hn hq
  have hB0 : Below w.heap.size w ((w.alloc (.cells #[.slice ax V.length cx, .slice ay O.length cy, .slice az L.length cz] 24)).alloc (.cells #[.slice none 0 0, .slice none 0 0, .slice none 0 0] 24)) := (u_al w _).alloc (by simp) _
  have hz0 : ((w.alloc (.cells #[.slice ax V.length cx, .slice ay O.length cy, .slice az L.length cz] 24)).alloc (.cells #[.slice none 0 0, .slice none 0 0, .slice none 0 0] 24)).heap.size = w.heap.size + 2 := by simp
  have hbx : ((w.alloc (.cells #[.slice ax V.length cx, .slice ay O.length cy, .slice az L.length cz] 24)).alloc (.cells #[.slice none 0 0, .slice none 0 0, .slice none 0 0] 24)).heap[w.heap.size]? = some (.cells #[.slice ax V.length cx, .slice ay O.length cy, .slice az L.length cz] 24 (0, 0)) := by
    rw [Below.heap_alloc _ _ _ (by simp)]; exact heap_alloc_new w _
  have hrs : ((w.alloc (.cells #[.slice ax V.length cx, .slice ay O.length cy, .slice az L.length cz] 24)).alloc (.cells #[.slice none 0 0, .slice none 0 0, .slice none 0 0] 24)).heap[w.heap.size + 1]? = some (.cells #[.slice none 0 0, .slice none 0 0, .slice none 0 0] 24 (0, 0)) := by
    have := heap_alloc_new (w.alloc (.cells #[.slice ax V.length cx, .slice ay O.length cy, .slice az L.length cz] 24)) (.cells #[.slice none 0 0, .slice none 0 0, .slice none 0 0] 24)
    rw [World.size_alloc] at this
    exact this
  go_enter Try.func27, Try.ntmps27
  go_wp2_with fail
  generalize ((w.alloc (.cells #[.slice ax V.length cx, .slice ay O.length cy, .slice az L.length cz] 24)).alloc (.cells #[.slice none 0 0, .slice none 0 0, .slice none 0 0] 24)) = W0 at *
  have HKB : Hid (∀ W, Below W0.heap.size W0 W → Below w.heap.size w W) := fun W hW => hB0.trans (hW.mono hB0.size)
  have HKC : Hid (∀ W, Below W0.heap.size W0 W → W.cell? ⟨w.heap.size, 0, none⟩ = some (.slice ax V.length cx) ∧ W.cell? ⟨w.heap.size, 1, none⟩ = some (.slice ay O.length cy) ∧ W.cell? ⟨w.heap.size, 2, none⟩ = some (.slice az L.length cz)) := fun W hW => by
    obtain ⟨q0, q1, q2, _⟩ := at3 ((hW.block _ (by omega)).trans hbx)
    exact ⟨q0, q1, q2⟩
  have HKR : Hid (∀ W, Below W0.heap.size W0 W → W.heap[w.heap.size + 1]? = some (.cells #[.slice none 0 0, .slice none 0 0, .slice none 0 0] 24 (0, 0))) := fun W hW => (hW.block _ (by omega)).trans hrs
  have HRC : Hid (∀ W, Below W0.heap.size W0 W → Rc W (.slice ax V.length cx) (.slice ay O.length cy) (.slice az L.length cz) (V, O, L)) := fun W hW => hr.below (HKB.out W hW) (Nat.le_refl _)
  have HRX : Hid (∀ W, Below W0.heap.size W0 W → RdX W v qs) := fun W hW => hx.below (HKB.out W hW) (Nat.le_refl _)
  have HOUT : Hid (∀ (W : World) (x' y' z' : Value) (res : Cn), Below W0.heap.size W0 W → Oc W0.heap.size W x' y' z' res → ∀ W', W' = ((W.setCell ⟨w.heap.size + 1, 0, none⟩ x').setCell ⟨w.heap.size + 1, 1, none⟩ y').setCell ⟨w.heap.size + 1, 2, none⟩ z' → (W'.cell? ⟨w.heap.size + 1, 0, none⟩ = some x' ∧ W'.cell? ⟨w.heap.size + 1, 1, none⟩ = some y' ∧ W'.cell? ⟨w.heap.size + 1, 2, none⟩ = some z') ∧ Oc w.heap.size W' x' y' z' res ∧ Below w.heap.size w W') := fun W x' y' z' res hW ho => outO (HKR.out W hW) (Nat.le_succ _) (by omega) (HKB.out W hW) ho
  clear hbx hrs hr hx hB0
  obtain ⟨c0, c1, c2⟩ := HKC.out W0 (Below.refl _ _)
  have hck := check_any hSo (HRC.out W0 (Below.refl _ _)) hl hN
  cases hchk : chk (V, O, L) with
  | false =>
    rw [hchk] at hck
    have HE : Hid (EntR (V, O, L) qs none3 70) := .inl ⟨hchk, rfl, rfl⟩
    go_wp2_with fail
    refine hck.mono ?_
    rintro e w1 ⟨rfl, hb1⟩
    obtain ⟨t0, t1, t2, tz⟩ := at3 (HKR.out w1 hb1)
    have tz0 := tz 0
    have tz1 := tz 1
    have tz2 := tz 2
    clear tz
    go_wp2_with fail
    obtain ⟨⟨k0, k1, k2⟩, hoc, hbz⟩ := HOUT.out w1 _ _ _ none3 hb1 (Oc.nil _ _) _ rfl
    generalize (((w1.setCell ⟨w.heap.size + 1, 0, none⟩ (.slice none 0 0)).setCell ⟨w.heap.size + 1, 1, none⟩ (.slice none 0 0)).setCell ⟨w.heap.size + 1, 2, none⟩ (.slice none 0 0)) = wz at *
    refine bodyPost_ret (v := .tuple #[.agg #[.slice none 0 0, .slice none 0 0, .slice none 0 0], .int .i64 70]) (by simp [results, Try.results27, go_sem, k0, k1, k2]; try rfl) rfl ?_
    exact ⟨_, _, _, none3, 70, rfl, hoc, HE.out, hbz⟩
  | true =>
    rw [hchk] at hck
    go_wp2_with fail
    refine hck.mono ?_
    rintro e w1 ⟨rfl, hb1⟩
    clear hck
    obtain ⟨d0, d1, d2⟩ := HKC.out w1 hb1
    have hjo := ujoint_any (HRC.out w1 hb1)
    simp only [] at hjo
    by_cases hO : 0 < O.length
    · rw [decide_eq_true hO] at hjo
      have HE : Hid (EntR (V, O, L) qs none3 71) := .inr (.inl ⟨hchk, hO, rfl, rfl⟩)
      go_wp2_with fail
      refine hjo.mono ?_
      rintro e w2 ⟨rfl, hb2'⟩
      have hb2 : Below W0.heap.size W0 w2 := hb1.trans (hb2'.mono hb1.size)
      obtain ⟨t0, t1, t2, tz⟩ := at3 (HKR.out w2 hb2)
      have tz0 := tz 0
      have tz1 := tz 1
      have tz2 := tz 2
      clear tz
      go_wp2_with fail
      obtain ⟨⟨k0, k1, k2⟩, hoc, hbz⟩ := HOUT.out w2 _ _ _ none3 hb2 (Oc.nil _ _) _ rfl
      generalize (((w2.setCell ⟨w.heap.size + 1, 0, none⟩ (.slice none 0 0)).setCell ⟨w.heap.size + 1, 1, none⟩ (.slice none 0 0)).setCell ⟨w.heap.size + 1, 2, none⟩ (.slice none 0 0)) = wz at *
      refine bodyPost_ret (v := .tuple #[.agg #[.slice none 0 0, .slice none 0 0, .slice none 0 0], .int .i64 71]) (by simp [results, Try.results27, go_sem, k0, k1, k2]; try rfl) rfl ?_
      exact ⟨_, _, _, none3, 71, rfl, hoc, HE.out, hbz⟩
    · rw [decide_eq_false hO] at hjo
      have HO : Hid (O = []) := List.length_eq_zero_iff.1 (by omega)
      have HCK : Hid _ := hchk
      clear hchk hO
      go_wp2_with fail
      refine hjo.mono ?_
      rintro e w2 ⟨rfl, hb2'⟩
      have hb2 : Below W0.heap.size W0 w2 := hb1.trans (hb2'.mono hb1.size)
      clear hjo d0 d1 d2 hb2' hb1
      obtain ⟨d0, d1, d2⟩ := HKC.out w2 hb2
      have hse := seats_any (HRC.out w2 hb2) (by simp only []; omega)
      simp only [] at hse
      go_wp2_with fail
      refine hse.mono ?_
      rintro e w3 ⟨m, rfl, hm, hSt, hb3'⟩
      have hb3 : Below W0.heap.size W0 w3 := hb2.trans (hb3'.mono hb2.size)
      have hms : W0.heap.size ≤ m := Nat.le_trans hb2.size hm
      clear hse d0 d1 d2 hb3' hb2 hm
      obtain ⟨aq, cq, rfl, q1, q2, q3, _⟩ := HRX.out w3 hb3
      unfold maxLen at q2
      go_wp2_with fail
      go_loopw [8, 9, 22] (fun _ _ i wr => ∃ (k : Nat) (S : UInt64 → Nat), k ≤ qs.length ∧ i = .int .i64 k ∧ Hid (foldS (seatF V L) (qs.take k) = some S) ∧ Hid (∀ x, S x ≤ 2) ∧ St m (V.length + L.length + k) S wr ∧ Below W0.heap.size W0 wr) (fun _ _ i _ => qs.length - (intOf i).toNat)
      case atStart => exact ⟨0, _, Nat.zero_le _, rfl, by show _ = _; rw [List.take_zero]; rfl, seatF_le V L, hSt, hb3⟩
      case round =>
        obtain ⟨k, S, hk, rfl, HF, HS2, hSt, hb⟩ := hrel
        clear hb3
        have hbs := hb.size
        by_cases hlt : k < qs.length
        · obtain ⟨⟨kd, p⟩, hqk⟩ : ∃ q, qs[k]? = some q := ⟨_, List.getElem?_eq_getElem hlt⟩
          have hkd := q3 _ (List.mem_of_getElem? hqk)
          obtain ⟨ao', c', e0, _, _, _, h4⟩ := HRX.out wr hb
          obtain ⟨a, ea, hcg⟩ := h4 k _ hqk
          simp only [Value.slice.injEq] at e0
          obtain ⟨rfl, -, rfl⟩ := e0
          subst ea
          have g0 := hcg.c0
          have g1 := hcg.c1
          simp only [] at g0 g1 hkd
          clear h4 hcg q3
          have hcga : ∀ W, Chg (fun b => b = m) W W → True := fun _ _ => trivial
          clear hcga
          have HN : Hid (∀ S', chg1 S kd p = some S' → foldS (seatF V L) (qs.take (k + 1)) = some S') := fun S' e => by rw [foldS_snoc _ S qs k _ hqk HF.out]; exact e
          have HNN : Hid (chg1 S kd p = none → foldS (seatF V L) qs = none) := fun e => foldS_none _ S qs k _ hqk HF.out e
          have hmw := hSt.lt
          have hcall := fun (W : World) (hW : Below wr.heap.size wr W) => change_any (hSt.below hW (Nat.le_refl _)) (Nat.lt_of_lt_of_le hmw hW.size) kd p (by omega) HS2.out hkd
          have HSt : Hid _ := hSt
          clear hqk HF hSt
          have hca := hcall _ (u_al wr (.cells #[.int .i64 kd, .int .u64 (p.toNat : Int)] 59))
          have hbA : Below W0.heap.size W0 (wr.alloc (.cells #[.int .i64 kd, .int .u64 (p.toNat : Int)] 59)) := hb.alloc hbs _
          clear hcall
          cases hch : chg1 S kd p with
          | none =>
            have HE : Hid (EntR (V, O, L) qs none3 70) := .inr (.inr (.inl ⟨HCK.out, HO.out, HNN.out hch, rfl, rfl⟩))
            rw [hch] at hca
            clear hch HN HNN
            go_wp2_with fail
            refine hca.mono ?_
            rintro e w4 ⟨rfl, _, hc4⟩
            have hb4 : Below W0.heap.size W0 w4 := hbA.trans (hc4.below (fun b q => by omega) hbA.size)
            obtain ⟨t0, t1, t2, tz⟩ := at3 (HKR.out w4 hb4)
            have tz0 := tz 0
            have tz1 := tz 1
            have tz2 := tz 2
            clear tz
            go_wp2_with fail
            obtain ⟨⟨k0, k1, k2⟩, hoc, hbz⟩ := HOUT.out w4 _ _ _ none3 hb4 (Oc.nil _ _) _ rfl
            generalize (((w4.setCell ⟨w.heap.size + 1, 0, none⟩ (.slice none 0 0)).setCell ⟨w.heap.size + 1, 1, none⟩ (.slice none 0 0)).setCell ⟨w.heap.size + 1, 2, none⟩ (.slice none 0 0)) = wz at *
            (try simp only [Exit.inBlock, Exit.then])
            refine bodyPost_ret (v := .tuple #[.agg #[.slice none 0 0, .slice none 0 0, .slice none 0 0], .int .i64 70]) (by simp [results, Try.results27, go_sem, k0, k1, k2]; try rfl) rfl ?_
            exact ⟨_, _, _, none3, 70, rfl, hoc, HE.out, hbz⟩
          | some S' =>
            have HF2 : Hid _ := HN.out S' hch
            have HS3 : Hid _ := chg1_le hch HS2.out
            rw [hch] at hca
            clear hch HN HNN
            go_wp2_with fail
            refine hca.mono ?_
            rintro e w4 ⟨rfl, hSt4, hc4⟩
            have hb4 : Below W0.heap.size W0 w4 := hbA.trans (hc4.below (fun b q => by omega) hbA.size)
            go_wp2_with fail
            exact ⟨⟨k + 1, S', by omega, by go_num, HF2, HS3, hSt4, hb4⟩, by simp [intOf]; omega⟩
        · obtain rfl : k = qs.length := by omega
          have HF2 : Hid (foldS (seatF V L) qs = some S) := by have := HF.out; rw [List.take_length] at this; exact this
          clear HF q3
          have hmw := hSt.lt
          have hof1 := of_any hSo hSt hmw 1 (by omega) (by omega) hn hN
          go_wp2_with fail
          refine hof1.mono ?_
          rintro e w4 ⟨v4, V', rfl, ho4, hr4, hm4, hl4, hb4'⟩
          have hb4 : Below W0.heap.size W0 w4 := hb.trans (hb4'.mono hbs)
          have hSt4 := hSt.below hb4' (Nat.le_refl _)
          have hof2 := of_any hSo hSt4 hSt4.lt 2 (by omega) (by omega) hn hN
          clear hof1
          go_wp2_with fail
          refine hof2.mono ?_
          rintro e w5 ⟨v5, L', rfl, ho5, hr5, hm5, hl5, hb5'⟩
          have hb5 : Below W0.heap.size W0 w5 := hb4.trans (hb5'.mono hb4.size)
          have ho4b := (ho4.below hb5' (Nat.le_refl _)).mono hbs
          have ho5b := ho5.mono hb4.size
          have HIL : Hid (IsL S 1 V' ∧ IsL S 2 L') := ⟨⟨hr4, hm4⟩, ⟨hr5, hm5⟩⟩
          have hq2 : V'.length + V.length + L'.length ≤ N ∨ 27 ≤ N := by
            rcases hq with hq | hq
            · exact .inr hq
            · exact .inl (hq S V' L' HF2.out HIL.out.1 HIL.out.2)
          clear hof2 hr4 hm4 hr5 hm5 hSt hSt4 ho4 ho5 hb4' hb5' hq
          obtain ⟨a4, c4, rfl⟩ := ho4b.shape
          obtain ⟨a5, c5, rfl⟩ := ho5b.shape
          have hb6 : Below W0.heap.size W0 (w5.alloc (.cells #[.slice a4 V'.length c4, .slice none 0 0, .slice a5 L'.length c5] 24)) := hb5.alloc hb5.size _
          have hnb := heap_alloc_new w5 (.cells #[.slice a4 V'.length c4, .slice none 0 0, .slice a5 L'.length c5] 24)
          have hz6 : (w5.alloc (.cells #[.slice a4 V'.length c4, .slice none 0 0, .slice a5 L'.length c5] 24)).heap.size = w5.heap.size + 1 := by simp
          have hoc6 : Ou W0.heap.size (w5.alloc (.cells #[.slice a4 V'.length c4, .slice none 0 0, .slice a5 L'.length c5] 24)) (.slice a4 V'.length c4) V' ∧ Ou W0.heap.size (w5.alloc (.cells #[.slice a4 V'.length c4, .slice none 0 0, .slice a5 L'.length c5] 24)) (.slice a5 L'.length c5) L' := ⟨ho4b.alloc _, ho5b.alloc _⟩
          have HNB : Hid (∀ b, (Value.slice a4 V'.length c4).ownBlock = some b ∨ (Value.slice a5 L'.length c5).ownBlock = some b → b < w5.heap.size) := fun b e => by
            rcases e with e | e
            · exact (ho4b.lt b e).2
            · exact (ho5b.lt b e).2
          obtain ⟨d0, d1, d2⟩ := HKC.out _ hb6
          go_wp2_with fail
          generalize (w5.alloc (.cells #[.slice a4 V'.length c4, .slice none 0 0, .slice a5 L'.length c5] 24)) = w6 at *
          have heq := uequal_any hoc6.1.ru (HRC.out w6 hb6).1
          refine heq.mono ?_
          rintro e w7 ⟨rfl, n7, rfl⟩
          have hb7 : Below W0.heap.size W0 (w6.drewN n7) := Below.drN hb6 n7
          have hnb7 : (w6.drewN n7).heap[w5.heap.size]? = some (.cells #[.slice a4 V'.length c4, .slice none 0 0, .slice a5 L'.length c5] 24 (0, 0)) := hnb
          have hoc7 : Ou W0.heap.size (w6.drewN n7) (.slice a4 V'.length c4) V' ∧ Ou W0.heap.size (w6.drewN n7) (.slice a5 L'.length c5) L' := ⟨hoc6.1.below (Below.dN w6 n7) (Nat.le_refl _), hoc6.2.below (Below.dN w6 n7) (Nat.le_refl _)⟩
          have hz7 : (w6.drewN n7).heap.size = w5.heap.size + 1 := hz6
          clear heq hb6 hnb hoc6 d0 d1 d2 hz6
          -- the last of it: next is laid; Check(next)
          have tail : ∀ (W : World) (y' : Value) (Y : List UInt64), Below W0.heap.size W0 W → W.heap[w5.heap.size]? = some (.cells #[.slice a4 V'.length c4, y', .slice a5 L'.length c5] 24 (0, 0)) → Oc W0.heap.size W (.slice a4 V'.length c4) y' (.slice a5 L'.length c5) (V', Y, L') → Y = (if V' = V then [] else V) → Y.length ≤ V.length →
              (Calls Try.prog 18 #[.agg #[.slice a4 V'.length c4, y', .slice a5 L'.length c5]] W fun e w' => e = .returned (.int .i64 (if chk (nxt V V' L') then 0 else 70)) ∧ Below W0.heap.size W0 w' ∧ w'.heap[w5.heap.size]? = some (.cells #[.slice a4 V'.length c4, y', .slice a5 L'.length c5] 24 (0, 0)) ∧ Oc W0.heap.size w' (.slice a4 V'.length c4) y' (.slice a5 L'.length c5) (nxt V V' L')) := fun W y' Y hW hnb hoc hY hYl => by
            have e : (V', Y, L') = nxt V V' L' := by unfold nxt; rw [hY]
            refine (check_any hSo hoc.rc (by simp only []; omega) hN).mono ?_
            rintro e' w' ⟨rfl, hb'⟩
            rw [e]
            refine ⟨rfl, hW.trans (hb'.mono hW.size), by rw [hb'.block _ (Array.getElem?_eq_some_iff.1 hnb).1]; exact hnb, ?_⟩
            rw [← e]
            exact ⟨hoc.1.below hb' (Nat.le_refl _), hoc.2.1.below hb' (Nat.le_refl _), hoc.2.2.below hb' (Nat.le_refl _)⟩
          have HTAIL : Hid _ := tail
          clear tail
          have HENT : Hid (∀ (res : Cn) (er : Nat), ((chk (nxt V V' L') = false ∧ res = none3 ∧ er = 70) ∨ (chk (nxt V V' L') = true ∧ res = nxt V V' L' ∧ er = 0)) → EntR (V, O, L) qs res er) := fun res er h => .inr (.inr (.inr ⟨HCK.out, HO.out, S, V', L', HF2.out, HIL.out.1, HIL.out.2, h⟩))
          generalize w6.drewN n7 = w7 at *
          by_cases hVV : V' = V
          · have hd : decide (V' = V) = true := decide_eq_true hVV
            rw [hd]
            have hck := HTAIL.out w7 (.slice none 0 0) [] hb7 hnb7 ⟨hoc7.1, Ou.nil _ _, hoc7.2⟩ (by rw [if_pos hVV]) (by simp)
            obtain ⟨n0, n1, n2, _⟩ := at3 hnb7
            have HVV : Hid _ := hVV
            clear hVV hd
            go_wp2_with fail
            refine hck.mono ?_
            rintro e wA ⟨rfl, hbA, hnA, hoA⟩
            obtain ⟨p0, p1, p2, _⟩ := at3 hnA
            obtain ⟨t0, t1, t2, tz⟩ := at3 (HKR.out wA hbA)
            have tz0 := tz 0
            have tz1 := tz 1
            have tz2 := tz 2
            clear tz
            cases hcn : chk (nxt V V' L') with
            | false =>
              have HE : Hid (EntR (V, O, L) qs none3 70) := HENT.out none3 70 (.inl ⟨hcn, rfl, rfl⟩)
              clear hcn
              go_wp2_with fail
              obtain ⟨⟨k0, k1, k2⟩, hoc, hbz⟩ := HOUT.out wA _ _ _ none3 hbA (Oc.nil _ _) _ rfl
              generalize (((wA.setCell ⟨w.heap.size + 1, 0, none⟩ (.slice none 0 0)).setCell ⟨w.heap.size + 1, 1, none⟩ (.slice none 0 0)).setCell ⟨w.heap.size + 1, 2, none⟩ (.slice none 0 0)) = wz at *
              (try simp only [Exit.inBlock, Exit.then])
              refine bodyPost_ret (v := .tuple #[.agg #[.slice none 0 0, .slice none 0 0, .slice none 0 0], .int .i64 70]) (by simp [results, Try.results27, go_sem, k0, k1, k2]; try rfl) rfl ?_
              exact ⟨_, _, _, none3, 70, rfl, hoc, HE.out, hbz⟩
            | true =>
              have HE : Hid (EntR (V, O, L) qs (nxt V V' L') 0) := HENT.out (nxt V V' L') 0 (.inr ⟨hcn, rfl, rfl⟩)
              clear hcn
              go_wp2_with fail
              obtain ⟨⟨k0, k1, k2⟩, hoc, hbz⟩ := HOUT.out wA _ _ _ (nxt V V' L') hbA hoA _ rfl
              generalize (((wA.setCell ⟨w.heap.size + 1, 0, none⟩ (.slice a4 V'.length c4)).setCell ⟨w.heap.size + 1, 1, none⟩ (.slice none 0 0)).setCell ⟨w.heap.size + 1, 2, none⟩ (.slice a5 L'.length c5)) = wz at *
              (try simp only [Exit.inBlock, Exit.then])
              refine bodyPost_ret (v := .tuple #[.agg #[.slice a4 V'.length c4, .slice none 0 0, .slice a5 L'.length c5], .int .i64 0]) (by simp [results, Try.results27, go_sem, k0, k1, k2]; try rfl) rfl ?_
              exact ⟨_, _, _, nxt V V' L', 0, rfl, hoc, HE.out, hbz⟩
          · have hd : decide (V' = V) = false := decide_eq_false hVV
            rw [hd]
            obtain ⟨d0, d1, d2⟩ := HKC.out w7 hb7
            have hcn := uclone_any (HRC.out w7 hb7).1 (by simp only []; omega)
            simp only [] at hcn
            obtain ⟨n0, n1, n2, nz⟩ := at3 hnb7
            have HVV : Hid _ := hVV
            clear hVV hd
            go_wp2_with fail
            refine hcn.mono ?_
            rintro e w8 ⟨v8, rfl, ho8, hb8⟩
            obtain ⟨a8, c8, rfl⟩ := ho8.shape
            have hnb8 : w8.heap[w5.heap.size]? = some (.cells #[.slice a4 V'.length c4, .slice none 0 0, .slice a5 L'.length c5] 24 (0, 0)) := by rw [hb8.block _ (by omega)]; exact hnb7
            have hnb9 : (w8.setCell ⟨w5.heap.size, 1, none⟩ (.slice a8 V.length c8)).heap[w5.heap.size]? = some (.cells #[.slice a4 V'.length c4, .slice a8 V.length c8, .slice a5 L'.length c5] 24 (0, 0)) := by
              have := heap_setCell_same w8 w5.heap.size 1 _ _ (.slice a8 V.length c8) hnb8
              rw [this]; rfl
            have hch9 : Chg (fun b => b = w5.heap.size) w8 (w8.setCell ⟨w5.heap.size, 1, none⟩ (.slice a8 V.length c8)) := (Chg.refl _ w8).put _ 1 _ rfl
            have hs7 := hb7.size
            have hs8 := hb8.size
            have hb9 : Below W0.heap.size W0 (w8.setCell ⟨w5.heap.size, 1, none⟩ (.slice a8 V.length c8)) := (hb7.trans (hb8.mono hs7)).trans (hch9.below (fun b q => by subst q; exact hb5.size) (by omega))
            have hoc9 : Oc W0.heap.size (w8.setCell ⟨w5.heap.size, 1, none⟩ (.slice a8 V.length c8)) (.slice a4 V'.length c4) (.slice a8 V.length c8) (.slice a5 L'.length c5) (V', V, L') := ⟨(hoc7.1.below hb8 (Nat.le_refl _)).keptC hch9 (fun b e q => by have := HNB.out b (.inl e); omega), (ho8.keptC hch9 (fun b e q => by have := (ho8.lt b e).1; omega)).mono hs7, (hoc7.2.below hb8 (Nat.le_refl _)).keptC hch9 (fun b e q => by have := HNB.out b (.inr e); omega)⟩
            obtain ⟨m0, m1, m2, mz⟩ := at3 hnb8
            have mz1 := mz 1
            have hck := HTAIL.out _ (.slice a8 V.length c8) V hb9 hnb9 hoc9 (by rw [if_neg HVV.out]) (Nat.le_refl _)
            obtain ⟨n0, n1, n2, _⟩ := at3 hnb9
            have HB9 : Hid _ := hb9
            clear hb9 hoc9 hnb9 mz nz hch9 d0 d1 d2
            go_wp2_with fail
            refine hck.mono ?_
            rintro e wA ⟨rfl, hbA, hnA, hoA⟩
            obtain ⟨p0, p1, p2, _⟩ := at3 hnA
            obtain ⟨t0, t1, t2, tz⟩ := at3 (HKR.out wA hbA)
            have tz0 := tz 0
            have tz1 := tz 1
            have tz2 := tz 2
            clear tz
            cases hcn : chk (nxt V V' L') with
            | false =>
              have HE : Hid (EntR (V, O, L) qs none3 70) := HENT.out none3 70 (.inl ⟨hcn, rfl, rfl⟩)
              clear hcn
              go_wp2_with fail
              obtain ⟨⟨k0, k1, k2⟩, hoc, hbz⟩ := HOUT.out wA _ _ _ none3 hbA (Oc.nil _ _) _ rfl
              generalize (((wA.setCell ⟨w.heap.size + 1, 0, none⟩ (.slice none 0 0)).setCell ⟨w.heap.size + 1, 1, none⟩ (.slice none 0 0)).setCell ⟨w.heap.size + 1, 2, none⟩ (.slice none 0 0)) = wz at *
              (try simp only [Exit.inBlock, Exit.then])
              refine bodyPost_ret (v := .tuple #[.agg #[.slice none 0 0, .slice none 0 0, .slice none 0 0], .int .i64 70]) (by simp [results, Try.results27, go_sem, k0, k1, k2]; try rfl) rfl ?_
              exact ⟨_, _, _, none3, 70, rfl, hoc, HE.out, hbz⟩
            | true =>
              have HE : Hid (EntR (V, O, L) qs (nxt V V' L') 0) := HENT.out (nxt V V' L') 0 (.inr ⟨hcn, rfl, rfl⟩)
              clear hcn
              go_wp2_with fail
              obtain ⟨⟨k0, k1, k2⟩, hoc, hbz⟩ := HOUT.out wA _ _ _ (nxt V V' L') hbA hoA _ rfl
              generalize (((wA.setCell ⟨w.heap.size + 1, 0, none⟩ (.slice a4 V'.length c4)).setCell ⟨w.heap.size + 1, 1, none⟩ (.slice a8 V.length c8)).setCell ⟨w.heap.size + 1, 2, none⟩ (.slice a5 L'.length c5)) = wz at *
              (try simp only [Exit.inBlock, Exit.then])
              refine bodyPost_ret (v := .tuple #[.agg #[.slice a4 V'.length c4, .slice a8 V.length c8, .slice a5 L'.length c5], .int .i64 0]) (by simp [results, Try.results27, go_sem, k0, k1, k2]; try rfl) rfl ?_
              exact ⟨_, _, _, nxt V V' L', 0, rfl, hoc, HE.out, hbz⟩
end Go.Proofs.Ytgienommkifbnaa

/- What awake answers: true. -/
namespace Go.Proofs.Ytgienommkifbnaa
open Go.RowKit Go.Maps
set_option linter.unusedVariables false
set_option maxRecDepth 100000

theorem isL_eq {S : UInt64 → Nat} {s : Nat} {a b : List UInt64} (ha : IsL S s a) (hb : IsL S s b) : a = b := ha.1.ext hb.1 (fun x => by rw [ha.2, hb.2])

def aw0 : Cn := ([1, 2, 3], [], [])
def awq : List Cg := [(1, 4), (3, 1)]
theorem aw_fold : foldS (seatF [1, 2, 3] []) awq = some (upd (upd (seatF [1, 2, 3] []) 4 1) 1 0) := by
  simp [foldS, awq, chg1]
theorem aw_V : IsL (upd (upd (seatF [1, 2, 3] []) 4 1) 1 0) 1 [2, 3, 4] := by
  refine ⟨by simp [Ris], fun x => ?_⟩
  unfold upd seatF
  by_cases h1 : x = 1
  · subst h1; simp
  · by_cases h4 : x = 4
    · subst h4; simp
    · simp only [h1, h4, if_false, List.not_mem_nil, List.mem_cons, or_false, false_or]
      by_cases h2 : x = 2
      · simp [h2]
      · by_cases h3 : x = 3
        · simp [h3]
        · simp [h2, h3]
theorem aw_L : IsL (upd (upd (seatF [1, 2, 3] []) 4 1) 1 0) 2 [] := by
  refine ⟨by simp [Ris], fun x => ?_⟩
  unfold upd seatF
  simp only [List.not_mem_nil, if_false, false_iff]
  split
  · omega
  · split
    · omega
    · split <;> omega
theorem mems_le (c : Cn) : (mems c).length ≤ c.1.length + (c.2.1.length + c.2.2.length) := by
  have h := cmK_len (srtd (c.1 ++ (c.2.1 ++ c.2.2))) (srtd (c.1 ++ (c.2.1 ++ c.2.2))).length
  have e : (srtd (c.1 ++ (c.2.1 ++ c.2.2))).length = c.1.length + (c.2.1.length + c.2.2.length) := by simp [srtd]
  unfold mems
  omega
theorem chk_of (c : Cn) (h1 : ok1 c.1 = true) (h2 : ok1 c.2.1 = true) (h3 : ok1 c.2.2 = true) (h4 : c.1 ≠ []) (h5 : c.2.2.any (vt c) = false) (h6 : c.1.length + (c.2.1.length + c.2.2.length) ≤ 9) : chk c = true := by
  have := mems_le c
  unfold chk
  simp only [h1, h2, h3, h5, Bool.true_and, Bool.not_false]
  simp [h4]
  omega
theorem aw_chk0 : chk aw0 = true := chk_of _ (by decide) (by decide) (by decide) (by simp [aw0]) (by decide) (by decide)
theorem aw_chk1 : chk (nxt [1, 2, 3] [2, 3, 4] []) = true := chk_of _ (by decide) (by decide) (by decide) (by simp [nxt]) (by decide) (by decide)
theorem aw_ent {res : Cn} {er : Nat} (h : EntR aw0 awq res er) : res = ([2, 3, 4], [1, 2, 3], []) ∧ er = 0 := by
  rcases h with ⟨h, _⟩ | ⟨_, h, _⟩ | ⟨_, _, h, _⟩ | ⟨_, _, S, V', L', hf, hV, hL, h⟩
  · rw [aw_chk0] at h; cases h
  · simp [aw0] at h
  · have := aw_fold; simp only [aw0] at h; rw [h] at this; cases this
  · have e := aw_fold
    simp only [aw0] at hf
    rw [hf] at e
    obtain rfl := Option.some.inj e
    obtain rfl := isL_eq hV aw_V
    obtain rfl := isL_eq hL aw_L
    have hc : chk (nxt aw0.1 [2, 3, 4] []) = true := aw_chk1
    rcases h with ⟨h, _⟩ | ⟨_, rfl, rfl⟩
    · rw [hc] at h; cases h
    · exact ⟨by simp [nxt, aw0], rfl⟩

theorem ru_lit3 (w : World) (p q r : UInt64) (x y z : Int) (hx : x = (p.toNat : Int)) (hy : y = (q.toNat : Int)) (hz : z = (r.toNat : Int)) (g : Nat) (hg : g = w.heap.size) : Ru (w.alloc (.cells #[.int .u64 x, .int .u64 y, .int .u64 z] 35)) (.slice (some ⟨g, 0, none⟩) 3 3) [p, q, r] := by
  subst hx; subst hy; subst hz
  exact (Ou.made 0 w [p, q, r] 3 rfl (Nat.zero_le _) (by simp [maxLen]) #[.int .u64 (p.toNat : Int), .int .u64 (q.toNat : Int), .int .u64 (r.toNat : Int)] rfl g hg).ru
theorem rdx_lit2 (w : World) (p q : Cg) (hp : -9223372036854775808 ≤ p.1 ∧ p.1 ≤ 9223372036854775807) (hq : -9223372036854775808 ≤ q.1 ∧ q.1 ≤ 9223372036854775807) (t : TypeId) (g : Nat) (hg : g = w.heap.size) : RdX (w.alloc (.cells #[.int .i64 p.1, .int .u64 (p.2.toNat : Int), .int .i64 q.1, .int .u64 (q.2.toNat : Int)] t)) (.slice (some ⟨g, 0, none⟩) 2 2) [p, q] := by
  subst hg
  have hc : ∀ j u, #[Value.int .i64 p.1, .int .u64 (p.2.toNat : Int), .int .i64 q.1, .int .u64 (q.2.toNat : Int)][j]? = some u → (w.alloc (.cells #[.int .i64 p.1, .int .u64 (p.2.toNat : Int), .int .i64 q.1, .int .u64 (q.2.toNat : Int)] t)).cell? ⟨w.heap.size, j, none⟩ = some u := fun j u e => by
    rw [World.cell?_alloc_at _ _ _ _ rfl]; exact e
  refine ⟨some ⟨w.heap.size, 0, none⟩, 2, rfl, by simp, by simp [maxLen], fun r hr => ?_, fun i r hi => ?_⟩
  · simp only [List.mem_cons, List.not_mem_nil, or_false] at hr
    rcases hr with rfl | rfl
    · exact hp
    · exact hq
  · match i with
    | 0 => simp at hi; subst hi; exact ⟨_, rfl, hc 0 _ rfl, hc 1 _ rfl⟩
    | 1 => simp at hi; subst hi; exact ⟨_, rfl, hc 2 _ rfl, hc 3 _ rfl⟩
    | i + 2 => simp at hi

set_option maxHeartbeats 2000000 in
theorem awake_any (w : World) : Calls Try.prog 9 #[] w fun e w' => e = .returned (.bool true) ∧ Below w.heap.size w w' := by
  have h1 := ru_lit3 w 1 2 3 1 2 3 rfl rfl rfl w.heap.size rfl
  have h2 := rdx_lit2 (w.alloc (.cells #[.int .u64 1, .int .u64 2, .int .u64 3] 35)) (1, 4) (3, 1) (by decide) (by decide) 59 (w.heap.size + 1) (by simp)
  have hb0 : Below w.heap.size w ((w.alloc (.cells #[.int .u64 1, .int .u64 2, .int .u64 3] 35)).alloc (.cells #[.int .i64 1, .int .u64 4, .int .i64 3, .int .u64 1] 59)) := (u_al w _).alloc (by simp) _
  have hen := enter_any (N := 12) (usort_small len_ok) (c := aw0) (qs := awq) ⟨h1.alloc (.cells #[.int .i64 1, .int .u64 4, .int .i64 3, .int .u64 1] 59), Ru.nil _, Ru.nil _⟩ h2 (by decide) (by decide) (by decide) (.inr fun S V' L' hf hV hL => by
    have e := aw_fold
    simp only [aw0] at hf
    rw [hf] at e
    obtain rfl := Option.some.inj e
    obtain rfl := isL_eq hV aw_V
    obtain rfl := isL_eq hL aw_L
    decide)
  go_enter Try.func9, Try.ntmps9
  go_wp2_with fail
  refine hen.mono ?_
  rintro e w1 ⟨x', y', z', res, er, rfl, hoc, hent, hb1'⟩
  obtain ⟨rfl, rfl⟩ := aw_ent hent
  have hb1 : Below w.heap.size w w1 := hb0.trans (hb1'.mono hb0.size)
  obtain ⟨k1, k2, k3⟩ := hoc.rc
  simp only [] at k1 k2 k3
  obtain ⟨ax, cx, rfl⟩ := k1.shape
  obtain ⟨ay, cy, rfl⟩ := k2.shape
  obtain ⟨az, cz, rfl⟩ := k3.shape
  clear hen hent hoc hb1' h1 h2 hb0
  simp only [List.length_cons, List.length_nil, Nat.zero_add, Nat.reduceAdd] at k1 k2 k3 ⊢
  have hA := u_al w1 (.cells #[.slice ax 3 cx, .slice ay 3 cy, .slice az 0 cz] 24)
  have hKC : ∀ W, Below (w1.heap.size + 1) (w1.alloc (.cells #[.slice ax 3 cx, .slice ay 3 cy, .slice az 0 cz] 24)) W → W.cell? ⟨w1.heap.size, 0, none⟩ = some (.slice ax 3 cx) ∧ W.cell? ⟨w1.heap.size, 1, none⟩ = some (.slice ay 3 cy) ∧ W.cell? ⟨w1.heap.size, 2, none⟩ = some (.slice az 0 cz) := fun W hW => box3 hW rfl
  have HKC : Hid _ := hKC
  clear hKC
  have hz : (w1.alloc (.cells #[.slice ax 3 cx, .slice ay 3 cy, .slice az 0 cz] 24)).heap.size = w1.heap.size + 1 := by simp
  go_wp2_with fail
  generalize (w1.alloc (.cells #[.slice ax 3 cx, .slice ay 3 cy, .slice az 0 cz] 24)) = W0 at *
  have hW0 : Below w.heap.size w W0 := hb1.trans (hA.mono hb1.size)
  have hs1 := hA.size
  have l1 := ru_lit3 W0 2 3 4 2 3 4 rfl rfl rfl (w1.heap.size + 1) hz.symm
  have q1 := sameU_any ((k1.below hA (Nat.le_refl _)).alloc (.cells #[.int .u64 2, .int .u64 3, .int .u64 4] 35)) l1
  rw [show decide (([2, 3, 4] : List UInt64) = [2, 3, 4]) = true from decide_eq_true rfl] at q1
  refine q1.mono ?_
  rintro e w2 ⟨rfl, n2, rfl⟩
  have hb2 : Below (w1.heap.size + 1) W0 ((W0.alloc (.cells #[.int .u64 2, .int .u64 3, .int .u64 4] 35)).drewN n2) := Below.drN ((Below.refl _ _).alloc (by omega) _) n2
  have hz2 : ((W0.alloc (.cells #[.int .u64 2, .int .u64 3, .int .u64 4] 35)).drewN n2).heap.size = w1.heap.size + 2 := by
    show (W0.alloc (.cells #[.int .u64 2, .int .u64 3, .int .u64 4] 35)).heap.size = _
    rw [World.size_alloc, hz]
  obtain ⟨d0, d1, d2⟩ := HKC.out _ hb2
  clear q1 l1
  go_wp2_with fail
  generalize hW2 : (W0.alloc (.cells #[.int .u64 2, .int .u64 3, .int .u64 4] 35)).drewN n2 = W2 at *
  have hA2 : Below w1.heap.size w1 W2 := hA.trans (hb2.mono (Nat.le_succ _))
  have l2 := ru_lit3 W2 1 2 3 1 2 3 rfl rfl rfl (w1.heap.size + 1 + 1) (by omega)
  have q2 := sameU_any ((k2.below hA2 (Nat.le_refl _)).alloc (.cells #[.int .u64 1, .int .u64 2, .int .u64 3] 35)) l2
  rw [show decide (([1, 2, 3] : List UInt64) = [1, 2, 3]) = true from decide_eq_true rfl] at q2
  refine q2.mono ?_
  rintro e w3 ⟨rfl, n3, rfl⟩
  have hb3 : Below (w1.heap.size + 1) W0 ((W2.alloc (.cells #[.int .u64 1, .int .u64 2, .int .u64 3] 35)).drewN n3) := Below.drN (hb2.alloc (by omega) _) n3
  obtain ⟨e0, e1, e2⟩ := HKC.out _ hb3
  clear q2 l2 d0 d1 d2
  have hA3 : Below w1.heap.size w1 ((W2.alloc (.cells #[.int .u64 1, .int .u64 2, .int .u64 3] 35)).drewN n3) := hA.trans (hb3.mono (Nat.le_succ _))
  have hj := ujoint_any (c := ([2, 3, 4], [1, 2, 3], [])) ⟨k1.below hA3 (Nat.le_refl _), k2.below hA3 (Nat.le_refl _), k3.below hA3 (Nat.le_refl _)⟩
  have hB3 : Below w.heap.size w ((W2.alloc (.cells #[.int .u64 1, .int .u64 2, .int .u64 3] 35)).drewN n3) := hb1.trans (hA3.mono hb1.size)
  go_wp2_with fail
  refine hj.mono ?_
  rintro e w4 ⟨rfl, hb4⟩
  go_wp2_with fail
  go_ret
  exact ⟨rfl, hB3.trans (hb4.mono hB3.size)⟩
end Go.Proofs.Ytgienommkifbnaa

/- What the document's Decode answers of any bytes. -/
namespace Go.Proofs.Ytgienommkifbnaa
open Go.RowKit
set_option linter.unusedVariables false
set_option maxRecDepth 100000

theorem d3_parts (f0 f1 f2 : List UInt8) : M.d3 [f0, f1, f2] = (M.dn f0).bind fun a => (M.dn f1).bind fun b => (M.dn f2).map fun c => (a, b, c) := by
  cases h0 : M.dn f0 <;> cases h1 : M.dn f1 <;> cases h2 : M.dn f2 <;> simp [M.d3, h0, h1, h2]

theorem Ows.trio {B : Nat} {w : World} {v : Value} {k l m : List UInt8} {us : List Value} (h : Ows B w v [k, l, m] us) : ∃ g c x y z, v = .slice (some ⟨g, 0, none⟩) 3 c ∧ 3 ≤ c ∧ c ≤ maxLen ∧ w.cell? ⟨g, 0, none⟩ = some x ∧ w.cell? ⟨g, 1, none⟩ = some y ∧ w.cell? ⟨g, 2, none⟩ = some z ∧ Rd w x k ∧ Rd w y l ∧ Rd w z m := by
  have hl : us.length = 3 := h.len
  match us, hl with
  | [x, y, z], _ =>
    have hrow := h.row
    rcases hrow.2 with ⟨hv, h0⟩ | ⟨g, cap, cur, hv, hg, hh, hn, hcap, hsz, htake⟩
    · simp at h0
    · subst hv
      refine ⟨g, cap, x, y, z, rfl, hn, hcap, ?_, ?_, ?_, (h.el 0 x k rfl rfl).rd, (h.el 1 y l rfl rfl).rd, (h.el 2 z m rfl rfl).rd⟩
      · rw [hrow.cellAt 0 (by simp)]; rfl
      · rw [hrow.cellAt 1 (by simp)]; rfl
      · rw [hrow.cellAt 2 (by simp)]; rfl

set_option maxHeartbeats 2000000 in
theorem rdecode_any {v : Value} {l : List UInt8} {w : World} (hr : Rd w v l) (hl : l.length ≤ 1099511627776) :
    Calls Try.prog 37 #[v] w fun e w' => ∃ x y z : Value, e = .returned (.tuple #[.agg #[x, y, z], .int .i64 (if (M.dc l).isSome then 0 else 12)]) ∧ Rc w' x y z ((M.dc l).getD ([], [], [])) ∧ Below w.heap.size w w' := by
  have htr := rtakerow_any (hr.alloc (.cells #[.slice none 0 0, .slice none 0 0, .slice none 0 0] 24)) hl
  have hb0 := u_al w (.cells #[.slice none 0 0, .slice none 0 0, .slice none 0 0] 24)
  have hR0 := heap_alloc_new w (.cells #[.slice none 0 0, .slice none 0 0, .slice none 0 0] 24)
  have hz0 : (w.alloc (.cells #[.slice none 0 0, .slice none 0 0, .slice none 0 0] 24)).heap.size = w.heap.size + 1 := by simp
  have hmem := tr_mem l
  unfold M.dc
  generalize M.tr l = T at *
  obtain ⟨fs, er⟩ := T
  simp only [] at *
  have bad : ∀ (w1 : World), Below (w.heap.size + 1) (w.alloc (.cells #[.slice none 0 0, .slice none 0 0, .slice none 0 0] 24)) w1 → ∀ W, W = ((w1.setCell ⟨w.heap.size, 0, none⟩ (.slice none 0 0)).setCell ⟨w.heap.size, 1, none⟩ (.slice none 0 0)).setCell ⟨w.heap.size, 2, none⟩ (.slice none 0 0) → (W.cell? ⟨w.heap.size, 0, none⟩ = some (.slice none 0 0) ∧ W.cell? ⟨w.heap.size, 1, none⟩ = some (.slice none 0 0) ∧ W.cell? ⟨w.heap.size, 2, none⟩ = some (.slice none 0 0)) ∧ Rc W (.slice none 0 0) (.slice none 0 0) (.slice none 0 0) ([], [], []) ∧ Below w.heap.size w W := fun w1 h1 W hW =>
    out3 (by rw [h1.block _ (by omega)]; exact hR0) (Nat.le_refl _) (hb0.trans (h1.mono (by omega))) (Rc.nil _) (fun v hv b e => by simp at hv; subst hv; cases e) W hW
  have HBAD : Hid _ := bad
  have HR0 : Hid _ := hR0
  clear bad hR0
  have kz : ∀ W, Below (w.heap.size + 1) (w.alloc (.cells #[.slice none 0 0, .slice none 0 0, .slice none 0 0] 24)) W → W.heap[w.heap.size]? = some (.cells #[.slice none 0 0, .slice none 0 0, .slice none 0 0] 24 (0, 0)) := fun W hW => by rw [hW.block _ (by omega)]; exact HR0.out
  have HKZ : Hid _ := kz
  clear kz
  by_cases her : er = 0 ∧ fs.length = 3
  · obtain ⟨rfl, hfl⟩ := her
    rw [if_pos rfl]
    obtain ⟨f0, f1, f2, rfl⟩ : ∃ a b c, fs = [a, b, c] := by
      match fs, hfl with
      | [a, b, c], _ => exact ⟨a, b, c, rfl⟩
    have m0 := hmem f0 (by simp)
    have m1 := hmem f1 (by simp)
    have m2 := hmem f2 (by simp)
    clear hmem hfl
    rw [d3_parts]
    have r0 : ∀ (W : World) (u : Value), Rd W u f0 → _ := fun W u h => rread_any h (by omega)
    have r1 : ∀ (W : World) (u : Value), Rd W u f1 → _ := fun W u h => rread_any h (by omega)
    have r2 : ∀ (W : World) (u : Value), Rd W u f2 → _ := fun W u h => rread_any h (by omega)
    generalize M.dn f0 = D0 at *
    generalize M.dn f1 = D1 at *
    generalize M.dn f2 = D2 at *
    generalize hR : (D0.bind fun a => D1.bind fun b => D2.map fun c => (a, b, c)) = R
    have HR : Hid _ := hR
    clear hR
    go_enter Try.func37, Try.ntmps37
    go_wp2_with fail
    refine htr.mono ?_
    rintro e w1 ⟨v1, us, rfl, hos, hb1⟩
    clear htr
    rw [hz0] at hb1
    have hs1 := hb1.size
    rw [hz0] at hs1
    obtain ⟨g, c, u0, u1, u2, rfl, h1, h2, c0, c1, c2, g0, g1, g2⟩ := hos.trio
    unfold maxLen at h2
    clear hos
    obtain ⟨b0, d0, e0⟩ : ∃ b d, u0 = .slice b f0.length d := by obtain ⟨b, d, e, _⟩ := g0; exact ⟨_, _, e⟩
    obtain ⟨b1, d1, e1⟩ : ∃ b d, u1 = .slice b f1.length d := by obtain ⟨b, d, e, _⟩ := g1; exact ⟨_, _, e⟩
    obtain ⟨b2, d2, e2⟩ : ∃ b d, u2 = .slice b f2.length d := by obtain ⟨b, d, e, _⟩ := g2; exact ⟨_, _, e⟩
    subst e0; subst e1; subst e2
    have k1 : ∀ W, Below w1.heap.size w1 W → W.cell? ⟨g, 1, none⟩ = some (.slice b1 f1.length d1) := fun W hW => by rw [hW.cell (World.block_lt_of_cell? w1 _ c1)]; exact c1
    have k2 : ∀ W, Below w1.heap.size w1 W → W.cell? ⟨g, 2, none⟩ = some (.slice b2 f2.length d2) := fun W hW => by rw [hW.cell (World.block_lt_of_cell? w1 _ c2)]; exact c2
    have HK : Hid _ := And.intro k1 k2
    have HG : Hid _ := And.intro g1 g2
    have q0 := r0 w1 _ g0
    clear k1 k2 c1 c2 g1 g2 g0 r0
    go_wp2_with fail
    refine q0.mono ?_
    rintro e w2 ⟨v2, rfl, ho2, hb2⟩
    have c1 := HK.out.1 w2 hb2
    have q1 := r1 w2 _ (HG.out.1.below hb2 (Nat.le_refl _))
    clear r1 q0
    go_wp2_with fail
    refine q1.mono ?_
    rintro e w3 ⟨v3, rfl, ho3, hb3⟩
    have hb13 : Below w1.heap.size w1 w3 := hb2.trans (hb3.mono hb2.size)
    have c2 := HK.out.2 w3 hb13
    have q2 := r2 w3 _ (HG.out.2.below hb13 (Nat.le_refl _))
    clear r2 q1 c1
    go_wp2_with fail
    refine q2.mono ?_
    rintro e w4 ⟨v4, rfl, ho4, hb4⟩
    have hb14 : Below w1.heap.size w1 w4 := hb13.trans (hb4.mono hb13.size)
    have hb04 : Below (w.heap.size + 1) (w.alloc (.cells #[.slice none 0 0, .slice none 0 0, .slice none 0 0] 24)) w4 := hb1.trans (hb14.mono hs1)
    obtain ⟨t0, t1, t2, tz⟩ := at3 (HKZ.out _ hb04)
    have tz0 := tz 0
    have tz1 := tz 1
    have tz2 := tz 2
    have s2 := hb2.size
    have s3 := hb3.size
    clear tz q2 c2
    have hrc : Rc w4 v2 v3 v4 (D0.getD [], D1.getD [], D2.getD []) := ⟨(ho2.below (hb3.trans (hb4.mono hb3.size)) (Nat.le_refl _)).ru, (ho3.below hb4 (Nat.le_refl _)).ru, ho4.ru⟩
    have HO : Hid _ := out3 (HKZ.out _ hb04) (Nat.le_refl _) (hb0.trans (hb04.mono (Nat.le_succ _))) hrc (fun v hv b e => by
      simp only [List.mem_cons, List.not_mem_nil, or_false] at hv
      rcases hv with rfl | rfl | rfl
      · have := (ho2.lt b e).1; omega
      · have := (ho3.lt b e).1; omega
      · have := (ho4.lt b e).1; omega)
    obtain ⟨x2, y2, rfl⟩ := ho2.shape
    obtain ⟨x3, y3, rfl⟩ := ho3.shape
    obtain ⟨x4, y4, rfl⟩ := ho4.shape
    clear hrc ho2 ho3 ho4
    cases D0 with
    | none =>
      obtain rfl : none = R := HR.out
      go_wp2_with fail
      obtain ⟨⟨k0, k1, k2⟩, hrc, hbz⟩ := HBAD.out _ hb04 _ rfl
      generalize (((w4.setCell ⟨w.heap.size, 0, none⟩ (.slice none 0 0)).setCell ⟨w.heap.size, 1, none⟩ (.slice none 0 0)).setCell ⟨w.heap.size, 2, none⟩ (.slice none 0 0)) = wz at *
      refine bodyPost_ret (v := .tuple #[.agg #[.slice none 0 0, .slice none 0 0, .slice none 0 0], .int .i64 12]) (by simp [results, Try.results37, go_sem, k0, k1, k2]; try rfl) rfl ?_
      exact ⟨_, _, _, rfl, hrc, hbz⟩
    | some la =>
      cases D1 with
      | none =>
        obtain rfl : none = R := HR.out
        go_wp2_with fail
        obtain ⟨⟨k0, k1, k2⟩, hrc, hbz⟩ := HBAD.out _ hb04 _ rfl
        generalize (((w4.setCell ⟨w.heap.size, 0, none⟩ (.slice none 0 0)).setCell ⟨w.heap.size, 1, none⟩ (.slice none 0 0)).setCell ⟨w.heap.size, 2, none⟩ (.slice none 0 0)) = wz at *
        refine bodyPost_ret (v := .tuple #[.agg #[.slice none 0 0, .slice none 0 0, .slice none 0 0], .int .i64 12]) (by simp [results, Try.results37, go_sem, k0, k1, k2]; try rfl) rfl ?_
        exact ⟨_, _, _, rfl, hrc, hbz⟩
      | some lb =>
        cases D2 with
        | none =>
          obtain rfl : none = R := HR.out
          go_wp2_with fail
          obtain ⟨⟨k0, k1, k2⟩, hrc, hbz⟩ := HBAD.out _ hb04 _ rfl
          generalize (((w4.setCell ⟨w.heap.size, 0, none⟩ (.slice none 0 0)).setCell ⟨w.heap.size, 1, none⟩ (.slice none 0 0)).setCell ⟨w.heap.size, 2, none⟩ (.slice none 0 0)) = wz at *
          refine bodyPost_ret (v := .tuple #[.agg #[.slice none 0 0, .slice none 0 0, .slice none 0 0], .int .i64 12]) (by simp [results, Try.results37, go_sem, k0, k1, k2]; try rfl) rfl ?_
          exact ⟨_, _, _, rfl, hrc, hbz⟩
        | some lc =>
          obtain rfl : some (la, lb, lc) = R := HR.out
          go_wp2_with fail
          obtain ⟨⟨k0, k1, k2⟩, hrc, hbz⟩ := HO.out _ rfl
          simp only [Option.getD_some] at k0 k1 k2 hrc hbz ⊢
          generalize (((w4.setCell ⟨w.heap.size, 0, none⟩ (.slice x2 la.length y2)).setCell ⟨w.heap.size, 1, none⟩ (.slice x3 lb.length y3)).setCell ⟨w.heap.size, 2, none⟩ (.slice x4 lc.length y4)) = wz at *
          refine bodyPost_ret (v := .tuple #[.agg #[.slice x2 la.length y2, .slice x3 lb.length y3, .slice x4 lc.length y4], .int .i64 0]) (by simp [results, Try.results37, go_sem, k0, k1, k2]; try rfl) rfl ?_
          exact ⟨_, _, _, rfl, hrc, hbz⟩
  · have hR : (if er = 0 then M.d3 fs else none) = none := by
      by_cases h0 : er = 0
      · rw [if_pos h0]
        match fs with
        | [] => rfl
        | [_] => rfl
        | [_, _] => rfl
        | [_, _, _] => exact absurd ⟨h0, rfl⟩ her
        | _ :: _ :: _ :: _ :: _ => rfl
      · rw [if_neg h0]
    rw [hR]
    clear hR
    by_cases h0 : er = 0
    · subst h0
      have hn3 : (((fs.length : Nat) : Int) != 3) = true := by
        have : fs.length ≠ 3 := fun q => her ⟨rfl, q⟩
        simp; omega
      clear her hmem
      go_enter Try.func37, Try.ntmps37
      go_wp2_with fail
      refine htr.mono ?_
      rintro e w1 ⟨v1, us, rfl, hos, hb1⟩
      rw [hz0] at hb1
      obtain ⟨ao, c, rfl, _⟩ := hos.rds
      obtain ⟨t0, t1, t2, tz⟩ := at3 (HKZ.out _ hb1)
      have tz0 := tz 0
      have tz1 := tz 1
      have tz2 := tz 2
      clear tz
      go_wp2_with fail
      obtain ⟨⟨k0, k1, k2⟩, hrc, hbz⟩ := HBAD.out _ hb1 _ rfl
      generalize (((w1.setCell ⟨w.heap.size, 0, none⟩ (.slice none 0 0)).setCell ⟨w.heap.size, 1, none⟩ (.slice none 0 0)).setCell ⟨w.heap.size, 2, none⟩ (.slice none 0 0)) = wz at *
      refine bodyPost_ret (v := .tuple #[.agg #[.slice none 0 0, .slice none 0 0, .slice none 0 0], .int .i64 12]) (by simp [results, Try.results37, go_sem, k0, k1, k2]; try rfl) rfl ?_
      exact ⟨_, _, _, rfl, hrc, hbz⟩
    · have hne : (((er : Nat) : Int) != 0) = true := by simp; omega
      clear her hmem
      go_enter Try.func37, Try.ntmps37
      go_wp2_with fail
      refine htr.mono ?_
      rintro e w1 ⟨v1, us, rfl, hos, hb1⟩
      rw [hz0] at hb1
      obtain ⟨t0, t1, t2, tz⟩ := at3 (HKZ.out _ hb1)
      have tz0 := tz 0
      have tz1 := tz 1
      have tz2 := tz 2
      clear tz
      go_wp2_with fail
      obtain ⟨⟨k0, k1, k2⟩, hrc, hbz⟩ := HBAD.out _ hb1 _ rfl
      generalize (((w1.setCell ⟨w.heap.size, 0, none⟩ (.slice none 0 0)).setCell ⟨w.heap.size, 1, none⟩ (.slice none 0 0)).setCell ⟨w.heap.size, 2, none⟩ (.slice none 0 0)) = wz at *
      refine bodyPost_ret (v := .tuple #[.agg #[.slice none 0 0, .slice none 0 0, .slice none 0 0], .int .i64 12]) (by simp [results, Try.results37, go_sem, k0, k1, k2]; try rfl) rfl ?_
      exact ⟨_, _, _, rfl, hrc, hbz⟩
end Go.Proofs.Ytgienommkifbnaa

/- The walk of ConfTexts: for any configuration and any bytes it answers true; nothing that came in has turned. -/
namespace Go.Proofs.Ytgienommkifbnaa
open Go.RowKit
set_option linter.unusedVariables false
set_option maxRecDepth 100000

set_option maxHeartbeats 8000000 in
theorem confTexts_any {x y z v : Value} {c : Cn} {l : List UInt8} {w : World} (hc : Rc w x y z c) (hlc : c.1.length + c.2.1.length + c.2.2.length ≤ 1048576) (hr : Rd w v l) (hl : l.length ≤ 1048576) :
    Calls Try.prog 7 #[.agg #[x, y, z], v] w fun e w' => e = .returned (.bool true) ∧ Below w.heap.size w w' := by
  have hdb := M.dc_back c (by omega) (by omega) (by omega)
  have hel := M.enc_len c
  obtain ⟨ax, cx, rfl⟩ := hc.1.shape
  obtain ⟨ay, cy, rfl⟩ := hc.2.1.shape
  obtain ⟨az, cz, rfl⟩ := hc.2.2.shape
  have hB0 : Below w.heap.size w (w.alloc (.cells #[.slice ax c.1.length cx, .slice ay c.2.1.length cy, .slice az c.2.2.length cz] 24)) := u_al w _
  have hz0 : (w.alloc (.cells #[.slice ax c.1.length cx, .slice ay c.2.1.length cy, .slice az c.2.2.length cz] 24)).heap.size = w.heap.size + 1 := by simp
  have hba := heap_alloc_new w (.cells #[.slice ax c.1.length cx, .slice ay c.2.1.length cy, .slice az c.2.2.length cz] 24)
  go_enter Try.func7, Try.ntmps7
  go_wp2_with fail
  generalize (w.alloc (.cells #[.slice ax c.1.length cx, .slice ay c.2.1.length cy, .slice az c.2.2.length cz] 24)) = W0 at *
  have HKA : Hid (∀ W, Below W0.heap.size W0 W → W.cell? ⟨w.heap.size, 0, none⟩ = some (.slice ax c.1.length cx) ∧ W.cell? ⟨w.heap.size, 1, none⟩ = some (.slice ay c.2.1.length cy) ∧ W.cell? ⟨w.heap.size, 2, none⟩ = some (.slice az c.2.2.length cz)) := fun W hW => by
    obtain ⟨q0, q1, q2, _⟩ := at3 ((hW.block _ (by omega)).trans hba)
    exact ⟨q0, q1, q2⟩
  have HW : Hid (∀ W, Below W0.heap.size W0 W → Below w.heap.size w W) := fun W hW => hB0.trans (hW.mono hB0.size)
  have HRA : Hid (∀ W, Below W0.heap.size W0 W → Rc W (.slice ax c.1.length cx) (.slice ay c.2.1.length cy) (.slice az c.2.2.length cz) c) := fun W hW => hc.below (HW.out W hW) (Nat.le_refl _)
  have HRL : Hid (∀ W, Below W0.heap.size W0 W → Rd W v l) := fun W hW => hr.below (HW.out W hW) (Nat.le_refl _)
  have HDB : Hid _ := hdb
  clear hba hc hr hB0 hdb
  refine (awake_any W0).mono ?_
  rintro e w1 ⟨rfl, hb1⟩
  go_wp2_with fail
  refine (lcopy_any (HRL.out w1 hb1) (by omega)).mono ?_
  rintro e w2 ⟨v2, rfl, ho2, hb2'⟩
  have hb2 : Below W0.heap.size W0 w2 := hb1.trans (hb2'.mono hb1.size)
  obtain ⟨a2, e2, rfl⟩ := ho2.shape
  go_wp2_with fail
  refine (decode_any ho2.rd (by omega)).mono ?_
  rintro e w3 ⟨x3, y3, z3, rfl, hrc3, hb3'⟩
  have hb3 : Below W0.heap.size W0 w3 := hb2.trans (hb3'.mono hb2.size)
  obtain ⟨g1, f1, rfl⟩ := hrc3.1.shape
  obtain ⟨g2, f2, rfl⟩ := hrc3.2.1.shape
  obtain ⟨g3, f3, rfl⟩ := hrc3.2.2.shape
  clear ho2 hb2' hb3'
  have hRD : ∀ W, Below W0.heap.size W0 W → Calls Try.prog 37 #[v] W fun e w' => ∃ x y z : Value, e = .returned (.tuple #[.agg #[x, y, z], .int .i64 (if (M.dc l).isSome then 0 else 12)]) ∧ Rc w' x y z ((M.dc l).getD ([], [], [])) ∧ Below W.heap.size W w' := fun W hW => rdecode_any (HRL.out W hW) (by omega)
  generalize M.dc l = D at *
  generalize hEr : (if D.isSome = true then (0 : Int) else 12) = er at *
  generalize hDc : D.getD ([], [], []) = dd at *
  have hB3 := hb3.alloc hb3.size (.cells #[.slice g1 dd.1.length f1, .slice g2 dd.2.1.length f2, .slice g3 dd.2.2.length f3] 24)
  go_wp2_with fail
  have HXR : Hid _ := hrc3.below (u_al w3 (.cells #[.slice g1 dd.1.length f1, .slice g2 dd.2.1.length f2, .slice g3 dd.2.2.length f3] 24)) (Nat.le_refl _)
  have HXB : Hid _ := heap_alloc_new w3 (.cells #[.slice g1 dd.1.length f1, .slice g2 dd.2.1.length f2, .slice g3 dd.2.2.length f3] 24)
  have hz3 : (w3.alloc (.cells #[.slice g1 dd.1.length f1, .slice g2 dd.2.1.length f2, .slice g3 dd.2.2.length f3] 24)).heap.size = w3.heap.size + 1 := by simp
  generalize (w3.alloc (.cells #[.slice g1 dd.1.length f1, .slice g2 dd.2.1.length f2, .slice g3 dd.2.2.length f3] 24)) = w4 at *
  refine (hRD w4 hB3).mono ?_
  rintro e w5 ⟨x5, y5, z5, rfl, hrc5, hb45⟩
  have hb5 : Below W0.heap.size W0 w5 := hB3.trans (hb45.mono hB3.size)
  obtain ⟨p1, r1, rfl⟩ := hrc5.1.shape
  obtain ⟨p2, r2, rfl⟩ := hrc5.2.1.shape
  obtain ⟨p3, r3, rfl⟩ := hrc5.2.2.shape
  clear hRD hrc3 hb3
  have hB5 := hb5.alloc hb5.size (.cells #[.slice p1 dd.1.length r1, .slice p2 dd.2.1.length r2, .slice p3 dd.2.2.length r3] 24)
  have hb46 : Below w4.heap.size w4 (w5.alloc (.cells #[.slice p1 dd.1.length r1, .slice p2 dd.2.1.length r2, .slice p3 dd.2.2.length r3] 24)) := hb45.alloc hb45.size _
  obtain ⟨c0, c1, c2⟩ := HKA.out w5 hb5
  have hlt5 : w.heap.size < w5.heap.size := by have := hb5.size; omega
  have hne5 : ¬ w.heap.size = w5.heap.size := by omega
  go_wp2_with fail
  have HYR : Hid _ := hrc5.below (u_al w5 (.cells #[.slice p1 dd.1.length r1, .slice p2 dd.2.1.length r2, .slice p3 dd.2.2.length r3] 24)) (Nat.le_refl _)
  have HYB : Hid _ := heap_alloc_new w5 (.cells #[.slice p1 dd.1.length r1, .slice p2 dd.2.1.length r2, .slice p3 dd.2.2.length r3] 24)
  have hz5 : (w5.alloc (.cells #[.slice p1 dd.1.length r1, .slice p2 dd.2.1.length r2, .slice p3 dd.2.2.length r3] 24)).heap.size = w5.heap.size + 1 := by simp
  generalize (w5.alloc (.cells #[.slice p1 dd.1.length r1, .slice p2 dd.2.1.length r2, .slice p3 dd.2.2.length r3] 24)) = w6 at *
  refine (encode_any (HRA.out w6 hB5) (by omega)).mono ?_
  rintro e w7 ⟨v7, rfl, ho7, hb67⟩
  have hb7 : Below W0.heap.size W0 w7 := hB5.trans (hb67.mono hB5.size)
  obtain ⟨a7, e7, rfl⟩ := ho7.shape
  clear hrc5 c0 c1 c2
  go_wp2_with fail
  have hD8 := decode_any ho7.rd (by omega)
  rw [HDB.out] at hD8
  refine hD8.mono ?_
  rintro e w8 ⟨x8, y8, z8, rfl, hrc8, hb78⟩
  have hrc8' : Rc w8 x8 y8 z8 c := hrc8
  have hb8 : Below W0.heap.size W0 w8 := hb7.trans (hb78.mono hb7.size)
  obtain ⟨t1, o1, rfl⟩ := hrc8'.1.shape
  obtain ⟨t2, o2, rfl⟩ := hrc8'.2.1.shape
  obtain ⟨t3, o3, rfl⟩ := hrc8'.2.2.shape
  clear hD8 hrc8
  have hB8 := hb8.alloc hb8.size (.cells #[.slice t1 c.1.length o1, .slice t2 c.2.1.length o2, .slice t3 c.2.2.length o3] 24)
  have hb69 : Below w6.heap.size w6 (w8.alloc (.cells #[.slice t1 c.1.length o1, .slice t2 c.2.1.length o2, .slice t3 c.2.2.length o3] 24)) := (hb67.trans (hb78.mono hb67.size)).alloc (Nat.le_trans hb67.size hb78.size) _
  go_wp2_with fail
  have HZR : Hid _ := hrc8'.below (u_al w8 (.cells #[.slice t1 c.1.length o1, .slice t2 c.2.1.length o2, .slice t3 c.2.2.length o3] 24)) (Nat.le_refl _)
  have HZB : Hid _ := heap_alloc_new w8 (.cells #[.slice t1 c.1.length o1, .slice t2 c.2.1.length o2, .slice t3 c.2.2.length o3] 24)
  have HWR : Hid _ := ho7.below (hb78.trans ((Below.refl w7.heap.size w8).alloc hb78.size (.cells #[.slice t1 c.1.length o1, .slice t2 c.2.1.length o2, .slice t3 c.2.2.length o3] 24))) (Nat.le_refl _)
  have hz8 : (w8.alloc (.cells #[.slice t1 c.1.length o1, .slice t2 c.2.1.length o2, .slice t3 c.2.2.length o3] 24)).heap.size = w8.heap.size + 1 := by simp
  have hs56 := hb46.size
  generalize (w8.alloc (.cells #[.slice t1 c.1.length o1, .slice t2 c.2.1.length o2, .slice t3 c.2.2.length o3] 24)) = w9 at *
  have hb49 : Below w4.heap.size w4 w9 := hb46.trans (hb69.mono hs56)
  have HC : Hid (∀ W, Below w9.heap.size w9 W → ((W.cell? ⟨w3.heap.size, 0, none⟩ = some (.slice g1 dd.1.length f1) ∧ W.cell? ⟨w3.heap.size, 1, none⟩ = some (.slice g2 dd.2.1.length f2) ∧ W.cell? ⟨w3.heap.size, 2, none⟩ = some (.slice g3 dd.2.2.length f3)) ∧ (W.cell? ⟨w5.heap.size, 0, none⟩ = some (.slice p1 dd.1.length r1) ∧ W.cell? ⟨w5.heap.size, 1, none⟩ = some (.slice p2 dd.2.1.length r2) ∧ W.cell? ⟨w5.heap.size, 2, none⟩ = some (.slice p3 dd.2.2.length r3)) ∧ (W.cell? ⟨w8.heap.size, 0, none⟩ = some (.slice t1 c.1.length o1) ∧ W.cell? ⟨w8.heap.size, 1, none⟩ = some (.slice t2 c.2.1.length o2) ∧ W.cell? ⟨w8.heap.size, 2, none⟩ = some (.slice t3 c.2.2.length o3)) ∧ W.cell? ⟨w.heap.size, 0, none⟩ = some (.slice ax c.1.length cx) ∧ W.cell? ⟨w.heap.size, 1, none⟩ = some (.slice ay c.2.1.length cy) ∧ W.cell? ⟨w.heap.size, 2, none⟩ = some (.slice az c.2.2.length cz))) := fun W hW => by
    have b4 : Below w4.heap.size w4 W := hb49.trans (hW.mono hb49.size)
    have b6 : Below w6.heap.size w6 W := hb69.trans (hW.mono hb69.size)
    obtain ⟨m0, m1, m2, _⟩ := at3 ((b4.block w3.heap.size (by omega)).trans HXB.out)
    obtain ⟨m3, m4, m5, _⟩ := at3 ((b6.block w5.heap.size (by omega)).trans HYB.out)
    obtain ⟨m6, m7, m8, _⟩ := at3 ((hW.block w8.heap.size (by omega)).trans HZB.out)
    exact ⟨⟨m0, m1, m2⟩, ⟨m3, m4, m5⟩, ⟨m6, m7, m8⟩, HKA.out W (hB8.trans (hW.mono hB8.size))⟩
  clear ho7 hrc8' hb78
  have hee : (er == er) = true := by simp
  obtain ⟨⟨m0, m1, m2⟩, ⟨m3, m4, m5⟩, _, _⟩ := HC.out w9 (Below.refl _ _)
  refine (lnum_any er w9).mono ?_
  rintro e w10 ⟨rfl, rfl⟩
  have hS1 := sameconf_any (Rc.below HXR.out hb49 (Nat.le_refl _)) (Rc.below HYR.out hb69 (Nat.le_refl _))
  rw [show decide (dd = dd) = true from decide_eq_true rfl] at hS1
  go_wp2_with fail
  refine hS1.mono ?_
  rintro e w11 ⟨rfl, hb11⟩
  obtain ⟨_, _, _, n0, n1, n2⟩ := HC.out w11 hb11
  clear m0 m1 m2 m3 m4 m5 hS1
  have hB11 : Below W0.heap.size W0 w11 := hB8.trans (hb11.mono hB8.size)
  go_wp2_with fail
  refine (rencode_any (HRA.out w11 hB11) (by omega)).mono ?_
  rintro e w12 ⟨v12, rfl, ho12, hb12⟩
  obtain ⟨a12, e12, rfl⟩ := ho12.shape
  have hb912 : Below _ _ w12 := hb11.trans (hb12.mono hb11.size)
  have hS2 := same_any (Ow.below HWR.out hb912 (Nat.le_refl _)).rd ho12.rd
  rw [show decide (M.enc c = M.enc c) = true from decide_eq_true rfl] at hS2
  clear n0 n1 n2
  go_wp2_with fail
  refine hS2.mono ?_
  rintro e w13 ⟨rfl, n13, rfl⟩
  have hb913 : Below _ _ (w12.drewN n13) := Below.drN hb912 n13
  obtain ⟨_, _, ⟨i0, i1, i2⟩, j0, j1, j2⟩ := HC.out _ hb913
  have hB13 : Below W0.heap.size W0 (w12.drewN n13) := hB8.trans (hb913.mono hB8.size)
  have hS3 := sameconf_any (Rc.below HZR.out hb913 (Nat.le_refl _)) (HRA.out _ hB13)
  rw [show decide (c = c) = true from decide_eq_true rfl] at hS3
  go_wp2_with fail
  refine hS3.mono ?_
  rintro e w14 ⟨rfl, hb14⟩
  go_wp2_with fail
  go_ret
  have hBw := HW.out _ hB13
  exact ⟨rfl, hBw.trans (hb14.mono hBw.size)⟩
end Go.Proofs.Ytgienommkifbnaa
