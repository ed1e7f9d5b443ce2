/- One call, held against the document's. -/
import Derived.Test.YtipnghaphfgalaaG50
namespace Go.Proofs.Ytipnghaphfgalaa
open Go.RowKit
set_option linter.unusedVariables false
set_option maxRecDepth 100000

def Fin (B x y : Nat) (w w' : World) : Prop := ∃ v' u' E', PR B x y v' u' E' w' ∧ Below B w w'
/-- A boxed step lies where no graph lies. -/
def Bx (g : Nat) (d : Int) (p q : UInt64) (w : World) : Prop := w.cell? ⟨g, 0, none⟩ = some (.int .i64 d) ∧ w.cell? ⟨g, 1, none⟩ = some (.int .u64 (p.toNat : Int)) ∧ w.cell? ⟨g, 2, none⟩ = some (.int .u64 (q.toNat : Int))
theorem Bx.keptC {S : Nat → Prop} {g : Nat} {d : Int} {p q : UInt64} {w w' : World} (h : Bx g d p q w) (hc : Chg S w w') (hg : ¬ S g) : Bx g d p q w' := by
  have k : ∀ o u, w.cell? ⟨g, o, none⟩ = some u → w'.cell? ⟨g, o, none⟩ = some u := fun o u e => by
    rw [World.cell?_of_block (w := w) (hc.block g (World.block_lt_of_cell? _ _ e) hg)]; exact e
  exact ⟨k _ _ h.1, k _ _ h.2.1, k _ _ h.2.2⟩
section
variable {B x y : Nat} {v u : Value} {E : List Ed} {w : World}
theorem ostop_any (h : PR B x y v u E w) (p q : UInt64) (g : Nat) (d : Int) (hx : Bx g d p q w) (hg1 : ¬ GS x v g) :
    Calls Try.prog 12 #[.pointer (some ⟨x, 0, none⟩), .int .u64 (p.toNat : Int), .int .u64 (q.toNat : Int)] w fun r w1 => r = .returned (.bool (W.is E (p, q))) ∧ Bx g d p q w1 ∧ RGr B y u E w1 ∧ Hid (∀ u2 w2, RGr B y u2 (stE E p q) w2 → Chg (fun b => b = y) w1 w2 → (∀ g, u2.ownBlock = some g → w1.heap.size ≤ g) → Fin B x y w w2) := by
  refine (stop_any h.g p q).mono ?_
  rintro r w1 ⟨v1, rfl, k1, k2, k3⟩
  refine ⟨rfl, hx.keptC k2 hg1, h.left k2, fun u2 w2 q1 q2 q3 => ?_⟩
  obtain ⟨z1, z2⟩ := h.both k1 k2 (.inl k3) q1 q2 (.inr q3)
  exact ⟨_, _, _, z1, z2⟩
theorem odone_any (h : PR B x y v u E w) (p q : UInt64) (g : Nat) (d : Int) (hx : Bx g d p q w) (hg1 : ¬ GS x v g) :
    Calls Try.prog 11 #[.pointer (some ⟨x, 0, none⟩), .int .u64 (p.toNat : Int)] w fun r w1 => r = .returned (.int .i64 ((E.length : Int) - ((dnE E p).length : Int))) ∧ Bx g d p q w1 ∧ RGr B y u E w1 ∧ Hid (∀ u2 w2, RGr B y u2 (dnE E p) w2 → Chg (fun b => b = y) w1 w2 → (∀ g, u2.ownBlock = some g → w1.heap.size ≤ g) → Fin B x y w w2) := by
  refine (gdone_any h.g p).mono ?_
  rintro r w1 ⟨v1, rfl, k1, k2, k3⟩
  refine ⟨rfl, hx.keptC k2 hg1, h.left k2, fun u2 w2 q1 q2 q3 => ?_⟩
  obtain ⟨z1, z2⟩ := h.both k1 k2 (.inl k3) q1 q2 (.inr q3)
  exact ⟨_, _, _, z1, z2⟩
end
theorem Fin.down {B x y : Nat} {w0 w w' : World} (h : Fin B x y w w') (hb : Below B w0 w) : Fin B x y w0 w' := by
  obtain ⟨v, u, E, h1, h2⟩ := h
  exact ⟨v, u, E, h1, hb.trans h2⟩
set_option maxHeartbeats 4000000 in
theorem one_any {B x y : Nat} {v u : Value} {E : List Ed} {w : World} (h : PR B x y v u E w) (d : Int) (p q : UInt64) :
    Calls Try.prog 13 #[.pointer (some ⟨x, 0, none⟩), .pointer (some ⟨y, 0, none⟩), .agg #[.int .i64 d, .int .u64 (p.toNat : Int), .int .u64 (q.toNat : Int)]] w fun r w' => r = .returned (.bool true) ∧ Fin B x y w w' := by
  have hbA := w_al w (.cells #[.int .i64 d, .int .u64 (p.toNat : Int), .int .u64 (q.toNat : Int)] 42)
  have hnw := heap_alloc_new w (.cells #[.int .i64 d, .int .u64 (p.toNat : Int), .int .u64 (q.toNat : Int)] 42)
  have h0 := h.below hbA (Nat.le_refl _)
  have hx0 : Bx w.heap.size d p q (w.alloc (.cells #[.int .i64 d, .int .u64 (p.toNat : Int), .int .u64 (q.toNat : Int)] 42)) := box3P hnw
  have hgs : ¬ GS x v w.heap.size := fun z => by
    rcases z with z | z
    · have := h.g.xlt; omega
    · have := (h.g.row.lt _ z).2; omega
  have hgy : ¬ w.heap.size = y := fun z => by have := h.r.xlt; omega
  have hB0 : Below B w (w.alloc (.cells #[.int .i64 d, .int .u64 (p.toNat : Int), .int .u64 (q.toNat : Int)] 42)) := hbA.mono (by have := h.g.lo; have := h.g.xlt; omega)
  have hris := h.g.ris
  have hEl := h.g.len
  go_enter Try.func13, Try.ntmps13
  go_upto_region 1 with fail
  generalize hW0 : w.alloc (.cells #[.int .i64 d, .int .u64 (p.toNat : Int), .int .u64 (q.toNat : Int)] 42) = W0 at *
  clear hW0 hnw hbA h
  obtain ⟨b0, b1, b2⟩ := id hx0
  by_cases hd0 : d = 0
  · subst hd0
    have hw1 := wait_any h0.g p q
    have HY : Hid (x < W0.heap.size ∧ y < W0.heap.size ∧ (∀ b, u.ownBlock = some b → b < W0.heap.size)) := ⟨h0.g.xlt, h0.r.xlt, fun b e => (h0.r.row.lt b e).2⟩
    have HP0 : Hid (PR B x y v u E W0 ∧ Bx w.heap.size 0 p q W0) := ⟨h0, hx0⟩
    clear h0 hx0
    go_wp2_with fail
    refine hw1.mono ?_
    rintro r w1 ⟨vr, v1, ro, rfl, hbf, hou, hzz, hg1, hc1, hv1, hvv⟩
    obtain ⟨k0, k1, k2⟩ := HP0.out.2.keptC hc1 hgs
    have hw2 := rwait_any (HP0.out.1.left hc1) hris hEl p q
    obtain ⟨m1, m2, m3⟩ := hou.shape
    have HO : Hid (Ou W0.heap.size w1 (.slice m1 (ro.getD []).length m2) (ro.getD [])) := by show Ou _ _ _ _; rw [← m3]; exact hou
    have HV : Hid (∀ b, (Value.slice m1 (ro.getD []).length m2).ownBlock = some b → v1.ownBlock ≠ some b) := by show ∀ b, _ → _; rw [← m3]; exact hvv
    have HL : Hid ((ro.getD []).length ≤ 4097) := by
      show _ ≤ _
      cases ro with
      | none => simp
      | some z => exact (hzz z rfl).2
    have HB : Hid (∀ u2 ro2 w2, W.Bfs E p [[q]] [q] ro2 → RGr B y u2 (wtE E p q ro2) w2 → Chg (fun b => b = y) w1 w2 → (u2 = u ∨ ∀ g, u2.ownBlock = some g → w1.heap.size ≤ g) → ro2 = ro ∧ PR B x y v1 u2 (wtE E p q ro) w2 ∧ Below B W0 w2) := fun u2 ro2 w2 z1 z2 z3 z4 => by
      obtain rfl := W.Bfs.det hbf z1
      exact ⟨rfl, HP0.out.1.both hg1 hc1 hv1 z2 z3 z4⟩
    have HS1 : Hid (W0.heap.size ≤ w1.heap.size) := hc1.size
    subst m3
    clear hw1 hbf hou hzz hg1 hc1 hv1 hvv b0 b1 b2
    generalize hln : (ro.getD []).length = ln at *
    have HLN : Hid ((ro.getD []).length = ln) := hln
    clear hln
    go_wp2_with fail
    refine hw2.mono ?_
    rintro r w2 ⟨vr2, u2, ro2, rfl, hbf2, hru2, -, hr2, hc2, hu2⟩
    obtain ⟨rfl, hP2, hB2⟩ := HB.out u2 ro2 w2 hbf2 hr2 hc2 hu2
    have hou2 : Ou W0.heap.size w2 (.slice m1 ln m2) (ro2.getD []) := HO.out.keptC hc2 (fun b e z => by have := (HO.out.lt b e).1; have := HY.out.2.1; omega)
    have hsm := sameU_any hou2.ru hru2
    rw [decide_eq_true rfl] at hsm
    obtain ⟨n1, n2, n3⟩ := hru2.shape
    subst n3
    have hnum := fun m => lnum_any (wtN E p q ro2) (w2.drewN m)
    have HEND : Hid (∀ g w3, m1 = some ⟨g, 0, none⟩ → Chg (fun b => b = g) w2 w3 → Fin B x y w w3) := fun g w3 e hc => by
      subst e
      have hgl := HO.out.lt g rfl
      have hhv := HV.out g rfl
      have hy := HY.out
      have hs1 := HS1.out
      have hPn := hP2.keptC hc (fun z => by omega) (fun z => by omega) (fun b e1 z => by subst z; exact hhv e1) (fun b e1 z => by
        subst z
        rcases hu2 with z1 | z1
        · rw [z1] at e1; have := hy.2.2 _ e1; omega
        · have := z1 _ e1; omega)
      refine ⟨_, _, _, hPn, hB0.trans (hB2.trans ?_)⟩
      have hlo := HP0.out.1.g.lo
      refine ⟨hc.os, hc.tape, hc.output, hc.size, fun b hb => ?_⟩
      have := hB2.size
      exact hc.block b (by omega) (fun z => by omega)
    have HEND0 : Hid (Fin B x y w w2) := ⟨_, _, _, hP2, hB0.trans hB2⟩
    generalize wtN E p q ro2 = NN at *
    have HOU : Hid (Ou W0.heap.size w2 (.slice m1 ln m2) (ro2.getD [])) := hou2
    clear hw2 hru2 hr2 hc2 hu2 hP2 hB2 hou2 hbf2 k0 k1 k2
    go_wp2_with fail
    refine hsm.mono ?_
    rintro r w3 ⟨rfl, m5, rfl⟩
    clear hsm
    go_wp2_with fail
    refine (hnum _).mono ?_
    rintro r w4 ⟨rfl, rfl⟩
    clear hnum
    have hl5 : ln ≤ 4097 := HL.out
    rcases HOU.out.2 with ⟨z1, z2⟩ | ⟨g, cap, cur, z1, z2, z3, z4, z5, z6, z7⟩
    · simp only [Value.slice.injEq] at z1
      obtain ⟨rfl, rfl, rfl⟩ := z1
      have HE5 : Hid (Fin B x y w (w2.drewN m5)) := by
        obtain ⟨v', u', E', q1, q2⟩ := HEND0.out
        have hlo := q1.g.lo
        have hxl := q1.g.xlt
        exact ⟨v', u', E', q1.below (Below.dN w2 m5) (Nat.le_refl _), q2.trans ((Below.dN w2 m5).mono (by omega))⟩
      clear HEND HEND0 HOU HO HV HB z2
      generalize w2.drewN m5 = W5 at *
      go_wp2_with fail
      go_loopw [12] (fun i wr => i = .int .i64 0 ∧ wr = W5) (fun _ _ => 0)
      case atStart => exact ⟨rfl, rfl⟩
      case round =>
        obtain ⟨rfl, rfl⟩ := hrel
        go_wp2_with fail
        go_ret
        exact ⟨rfl, HE5.out⟩
    · simp only [Value.slice.injEq] at z1
      obtain ⟨rfl, z8, rfl⟩ := z1
      have hcz : (w2.drewN m5).heap[g]? = some (.cells cur 23 (0, 0)) := by
        rw [(Below.dN w2 m5).block g (Array.getElem?_eq_some_iff.1 z3).1]; exact z3
      have hlc : ln ≤ m2 := by omega
      have HE5 : Hid (∀ w3, Chg (fun b => b = g) (w2.drewN m5) w3 → Fin B x y w w3) := fun w3 hc => HEND.out g w3 rfl ((Chg.of_below (Below.dN w2 m5)).mono (fun b z1 z2 => by omega) |>.trans (hc.mono (fun b _ z => .inl z)))
      have hsz0 : cur.size = m2 := by simpa using z6
      clear HEND HEND0 HOU HO HV HB z3 z2 z8
      generalize w2.drewN m5 = W5 at *
      go_wp2_with fail
      go_loopw [12] (fun i wr => ∃ k : Nat, k ≤ ln ∧ i = .int .i64 k ∧ (∃ arr : Array Value, wr.heap[g]? = some (.cells arr 23 (0, 0)) ∧ arr.size = m2) ∧ Chg (fun b => b = g) W5 wr) (fun i _ => ln - (intOf i).toNat)
      case atStart => exact ⟨0, Nat.zero_le _, rfl, ⟨cur, hcz, hsz0⟩, Chg.refl _ _⟩
      case round =>
        obtain ⟨k, hk, rfl, ⟨arr, ha1, ha2⟩, hch⟩ := hrel
        clear hcz hsz0
        by_cases hlt : k < ln
        · have hki : (k : Int) < (ln : Int) := by omega
          have hcell : wr.cell? ⟨g, k, none⟩ = some arr[k] := by rw [cell_of_row _ _ _ _ _ _ ha1, Array.getElem?_eq_getElem (by omega)]
          have hfz : wr.frozen? ⟨g, k, none⟩ = false := frozen_of_row _ _ _ _ _ ha1
          have HN : Hid ((∃ arr : Array Value, (wr.setCell ⟨g, k, none⟩ (.int .u64 0)).heap[g]? = some (.cells arr 23 (0, 0)) ∧ arr.size = m2) ∧ Chg (fun b => b = g) W5 (wr.setCell ⟨g, k, none⟩ (.int .u64 0))) := by
            refine ⟨⟨arr.set! k (.int .u64 0), by rw [heap_setCell_same _ _ k _ _ _ ha1]; try rfl, by simp [ha2]⟩, hch.put g _ _ rfl⟩
          clear ha1 hch
          go_wp2_with fail
          exact ⟨⟨k + 1, by omega, by go_num, HN.out.1, HN.out.2⟩, by simp [intOf]; omega⟩
        · have HF : Hid _ := HE5.out wr hch
          clear ha1 hch
          go_wp2_with fail
          go_ret
          exact ⟨rfl, HF.out⟩
  · have hd0b : (d == 0) = false := by rw [beq_eq_false_iff_ne]; exact hd0
    by_cases hd1 : d = 1
    · subst hd1
      have hst := fun m => ostop_any (h0.below (Below.dN W0 m) (Nat.le_refl _)) p q w.heap.size 1 (hx0.keptC (Chg.of_below (Below.dN W0 m)) (fun z => by have := World.block_lt_of_cell? _ _ b0; simp at this; omega)) hgs
      have hT := stop_same hris p q
      have HFD : Hid (∀ m w2, Fin B x y (W0.drewN m) w2 → Fin B x y w w2) := fun m w2 z => z.down (hB0.trans ((Below.dN W0 m).mono (by have := h0.g.lo; have := h0.g.xlt; omega)))
      simp only [hT] at hst
      have hrs := fun (w1 : World) (hr : RGr B y u E w1) => rstop_any hr hEl p q
      generalize decide ((stE E p q).length < E.length) = T at *
      have HGY : Hid (∀ w1 w2, Bx w.heap.size 1 p q w1 → Chg (fun b => b = y) w1 w2 → Bx w.heap.size 1 p q w2) := fun w1 w2 z1 z2 => z1.keptC z2 hgy
      clear h0 hx0 hT
      go_wp2_with fail
      go_region_held3 (fun w' => w'.cell? ⟨w.heap.size, 1, none⟩ = some (.int .u64 (p.toNat : Int)) ∧ w'.cell? ⟨w.heap.size, 2, none⟩ = some (.int .u64 (q.toNat : Int))) (go_keep) (first
        | (have hq := hr1; go_at_call 28; refine (hrs _ hr1).mono ?_; rintro r w2 ⟨u2, rfl, hr2, hc2, hu2⟩; have HE : Hid _ := hf1.out u2 w2 hr2 hc2 hu2; obtain ⟨j0, j1, j2⟩ := HGY.out _ _ hx1 hc2)
        | (go_at_call 12; refine (hst _).mono ?_; rintro r w1 ⟨rfl, hx1, hr1, hf1⟩; obtain ⟨k0, k1, k2⟩ := id hx1)
        | fail)
      go_wp2_with fail
      go_ret
      exact ⟨rfl, HFD.out _ _ HE.out⟩
    · have hd1b : (d == 1) = false := by rw [beq_eq_false_iff_ne]; exact hd1
      by_cases hd2 : d = 2
      · subst hd2
        have hst := fun m => odone_any (h0.below (Below.dN W0 m) (Nat.le_refl _)) p q w.heap.size 2 (hx0.keptC (Chg.of_below (Below.dN W0 m)) (fun z => by have := World.block_lt_of_cell? _ _ b0; simp at this; omega)) hgs
        have HFD : Hid (∀ m w2, Fin B x y (W0.drewN m) w2 → Fin B x y w w2) := fun m w2 z => z.down (hB0.trans ((Below.dN W0 m).mono (by have := h0.g.lo; have := h0.g.xlt; omega)))
        have hrs := fun (w1 : World) (hr : RGr B y u E w1) => rdone_any hr hEl p
        generalize (E.length : Int) - ((dnE E p).length : Int) = T at *
        have HGY : Hid (∀ w1 w2, Bx w.heap.size 2 p q w1 → Chg (fun b => b = y) w1 w2 → Bx w.heap.size 2 p q w2) := fun w1 w2 z1 z2 => z1.keptC z2 hgy
        clear h0 hx0
        go_wp2_with fail
        go_region_held3 (fun w' => w'.cell? ⟨w.heap.size, 1, none⟩ = some (.int .u64 (p.toNat : Int)) ∧ w'.cell? ⟨w.heap.size, 2, none⟩ = some (.int .u64 (q.toNat : Int))) (go_keep) (first
          | (have hq := hr1; go_at_call 29; refine (hrs _ hr1).mono ?_; rintro r w2 ⟨u2, rfl, hr2, hc2, hu2⟩; have HE : Hid _ := hf1.out u2 w2 hr2 hc2 hu2; obtain ⟨j0, j1, j2⟩ := HGY.out _ _ hx1 hc2)
          | (go_at_call 11; refine (hst _).mono ?_; rintro r w1 ⟨rfl, hx1, hr1, hf1⟩; obtain ⟨k0, k1, k2⟩ := id hx1)
          | fail)
        go_wp2_with fail
        go_ret
        exact ⟨rfl, HFD.out _ _ HE.out⟩
      · have hd2b : (d == 2) = false := by rw [beq_eq_false_iff_ne]; exact hd2
        have HPP : Hid (∀ w1 : World, Below W0.heap.size W0 w1 → PR B x y v u E w1 ∧ Bx w.heap.size d p q w1 ∧ Fin B x y w w1) := fun w1 hb => by
          have k1 := h0.below hb (Nat.le_refl _)
          refine ⟨k1, hx0.keptC (Chg.of_below hb) (fun z => by have := World.block_lt_of_cell? _ _ b0; simp at this; omega), _, _, _, k1, hB0.trans (hb.mono (by have := h0.g.lo; have := h0.g.xlt; omega))⟩
        have hw1 := fun m => way_any (h0.g.below (Below.dN W0 m) (Nat.le_refl _)) p q
        have hw2 := fun (w1 : World) (hb : Below W0.heap.size W0 w1) => rway_any (HPP.out w1 hb).1.r hEl p q
        clear h0 hx0 hd0 hd1 hd2
        go_wp2_with fail
        go_region_held3 (fun w' => w'.cell? ⟨w.heap.size, 1, none⟩ = some (.int .u64 (p.toNat : Int)) ∧ w'.cell? ⟨w.heap.size, 2, none⟩ = some (.int .u64 (q.toNat : Int))) (go_keep) (first
          | (have hq := hru2; go_at_call 19; refine (sameU_any hru1 hru2).mono ?_; rw [decide_eq_true HRO.out]; rintro r w3 ⟨rfl, m3, rfl⟩; obtain ⟨-, ⟨i0, i1, i2⟩, HE⟩ := HPP.out (w2.drewN m3) (hB2.trans ((Below.dN w2 m3).mono hB2.size)); have HE' : Hid _ := HE; clear HE)
          | (have hq := hou1; go_at_call 30; refine (hw2 _ hB1).mono ?_; rintro r w2 ⟨vr2, ro2, rfl, hbf2, hru2, -, -, hb2⟩; have hB2 : Below W0.heap.size W0 w2 := hB1.trans (hb2.mono hB1.size); obtain ⟨-, ⟨j0, j1, j2⟩, -⟩ := HPP.out w2 hB2; have HRO : Hid (ro1.getD [] = ro2.getD []) := (by show _ = _; rw [W.Bfs.det hbf1 hbf2]); have hru1 := hou1.ru.below hb2 (Nat.le_refl _); obtain ⟨y1, y2, y3⟩ := hru2.shape; obtain ⟨y4, y5, y6⟩ := hru1.shape; subst y3; (try subst y6); clear hbf1 hbf2)
          | (go_at_call 17; refine (hw1 _).mono ?_; rintro r w1 ⟨vr1, ro1, rfl, hbf1, hou1, -, -, hb1⟩; have hB1 : Below W0.heap.size W0 w1 := Below.tr (Below.dN W0 _) hb1; obtain ⟨-, ⟨k0, k1, k2⟩, -⟩ := HPP.out w1 hB1; obtain ⟨x1, x2, x3⟩ := hou1.shape; subst x3)
          | fail)
        go_wp2_with fail
        go_ret
        exact ⟨rfl, HE'.out⟩
end Go.Proofs.Ytipnghaphfgalaa
