/- look: what the two nets tell of the messages under way is the same, twice, in memory of its own. -/
import Derived.Test.YtpieehbikmmifaaG3
import Derived.Test.YtpieehbikmmifaaG2
import Derived.Test.YtpieehbikmmifaaG1
import Derived.Deep.RegionHeld3
namespace Go.Proofs.Ytpieehbikmmifaa
open Go.RowKit
set_option linter.unusedVariables false
set_option maxRecDepth 100000

/-- A list of messages of the call's own, that is being written over. -/
structure Over (B : Nat) (v : Value) (D : List Value) (w : World) : Prop where
  row : ∃ xs, w.ownsRow B 46 4 v D.length xs ∧ ∀ i d, D[i]? = some d → xs[i * 4 + 3]? = some d
  data : ∀ d ∈ D, (∃ l, Ow B w d l) ∧ ∀ b, d.ownBlock = some b → v.ownBlock ≠ some b
section
variable {B g : Nat} {v : Value} {D : List Value} {w w' : World}
theorem Over.of {Q : List (Pk × Value)} (h : Told B v Q Q.length w) : Over B v (Q.map (·.2)) w := by
  refine ⟨⟨pkCs Q, by rw [List.length_map]; exact h.row, fun i d e => ?_⟩, fun d hd => ?_⟩
  · rw [List.getElem?_map] at e
    obtain ⟨q, hq, rfl⟩ := Option.map_eq_some_iff.1 e
    exact (pkCs_at Q i q hq).2.2.2
  · obtain ⟨q, hq, rfl⟩ := List.mem_map.1 hd
    obtain ⟨i, hi, rfl⟩ := List.getElem_of_mem hq
    obtain ⟨h1, h2⟩ := h.data i Q[i] (List.getElem?_eq_getElem hi) hi
    exact ⟨⟨_, h1⟩, h2⟩
theorem Over.keptC {T : Nat → Prop} (h : Over B v D w) (hc : Chg T w w') (hv : ∀ b, B ≤ b → ¬ T b) : Over B v D w' := by
  obtain ⟨⟨xs, h1, h2⟩, h3⟩ := h
  refine ⟨⟨xs, ownsRow_keptC h1 hc (fun b e => hv b (World.ownsRow.lt h1 b e).1), h2⟩, fun d hd => ⟨?_, (h3 d hd).2⟩⟩
  obtain ⟨l, hl⟩ := (h3 d hd).1
  exact ⟨l, hl.keptC hc (fun b e => hv b (World.ownsRow.lt hl b e).1)⟩
theorem Over.setID (h : Over B v D w) (hv : v.ownBlock = some g) (i : Nat) (u : Value) : Over B v D (w.setCell ⟨g, i * 4, none⟩ u) := by
  obtain ⟨⟨xs, h1, h2⟩, h3⟩ := h
  have hc : Chg (fun b => b = g) w (w.setCell ⟨g, i * 4, none⟩ u) := (Chg.refl (fun b => b = g) w).put g _ _ rfl
  refine ⟨⟨xs.set (i * 4) u, rowP_set h1 hv _ _, fun k d e => ?_⟩, fun d hd => ⟨?_, (h3 d hd).2⟩⟩
  · rw [List.getElem?_set_ne (by omega)]; exact h2 k d e
  · obtain ⟨l, hl⟩ := (h3 d hd).1
    exact ⟨l, hl.keptC hc (fun b e q => (h3 d hd).2 b e (by rw [q]; exact hv))⟩
theorem Over.setData (h : Over B v D w) {d : Value} (hd : d ∈ D) (hg : d.ownBlock = some g) (j : Nat) : Over B v D (w.setCell ⟨g, j, none⟩ (.int .u8 102)) := by
  obtain ⟨⟨xs, h1, h2⟩, h3⟩ := h
  have hc : Chg (fun b => b = g) w (w.setCell ⟨g, j, none⟩ (.int .u8 102)) := (Chg.refl (fun b => b = g) w).put g _ _ rfl
  refine ⟨⟨xs, ownsRow_keptC h1 hc (fun b e q => (h3 d hd).2 g hg (by rw [← q]; exact e)), h2⟩, fun d' hd' => ⟨?_, (h3 d' hd').2⟩⟩
  obtain ⟨l, hl⟩ := (h3 d' hd').1
  by_cases e : d'.ownBlock = some g
  · refine ⟨l.set j 102, ?_⟩
    have := rowP_set hl e j (.int .u8 102)
    unfold Ow
    rw [List.length_set]
    have e2 : (cel l).set j (.int .u8 102) = cel (l.set j 102) := by simp [cel, List.map_set]
    rw [← e2]
    exact this
  · exact ⟨l, hl.keptC hc (fun b e2 q => e (by rw [e2, q]))⟩
/-- How the row reads: its block, and the k-th message's bytes. -/
theorem Over.at (h : Over B v D w) (k : Nat) (hk : k < D.length) : ∃ g c, v = .slice (some ⟨g, 0, none⟩) D.length c ∧ D.length ≤ c ∧ c ≤ maxLen ∧ B ≤ g ∧ (∃ u, w.cell? ⟨g, k * 4, none⟩ = some u) ∧ w.cell? ⟨g, k * 4 + 3, none⟩ = some D[k] ∧ w.frozen? ⟨g, k * 4, none⟩ = false := by
  obtain ⟨⟨xs, h1, h2⟩, h3⟩ := h
  have hx : xs.length = D.length * 4 := h1.1
  obtain ⟨a, c, e, q1, q2, _, q4⟩ := row_reads h1
  obtain ⟨g, rfl, c3⟩ := q4 _ _ (h2 k D[k] (List.getElem?_eq_getElem hk))
  obtain ⟨g', eg, c0⟩ := q4 (k * 4) xs[k * 4] (List.getElem?_eq_getElem (by omega))
  simp only [Option.some.injEq, Addr.mk.injEq, and_true] at eg
  subst eg
  refine ⟨g, c, e, q1, q2, (World.ownsRow.lt h1 g (by rw [e]; rfl)).1, ⟨_, c0⟩, c3, ?_⟩
  rcases h1.2 with ⟨q, q0⟩ | ⟨g', cap, cur, q, hB, hg, _⟩
  · rw [q] at e; cases e
  · rw [q] at e
    simp only [Value.slice.injEq, Option.some.injEq, Addr.mk.injEq, and_true, true_and] at e
    rw [← e.1]
    exact frozen_of_row _ _ _ _ _ hg
theorem ow_at {l : List UInt8} (h : Ow B w v l) (j : Nat) (hj : j < l.length) : ∃ g c, v = .slice (some ⟨g, 0, none⟩) l.length c ∧ B ≤ g ∧ (∃ u, w.cell? ⟨g, j, none⟩ = some u) ∧ w.frozen? ⟨g, j, none⟩ = false := by
  have hx : (cel l).length = l.length := by simp [cel]
  obtain ⟨a, c, e, q1, q2, _, q4⟩ := row_reads h
  obtain ⟨g, rfl, c0⟩ := q4 j (cel l)[j] (List.getElem?_eq_getElem (by omega))
  refine ⟨g, c, e, (World.ownsRow.lt h g (by rw [e]; rfl)).1, ⟨_, c0⟩, ?_⟩
  rcases h.2 with ⟨q, q0⟩ | ⟨g', cap, cur, q, hB, hg, _⟩
  · rw [q] at e; cases e
  · rw [q] at e
    simp only [Value.slice.injEq, Option.some.injEq, Addr.mk.injEq, and_true, true_and] at e
    rw [← e.1]
    exact frozen_of_row _ _ _ _ _ hg
end

/-- What is told, and what the document's net holds, read the same. -/
theorem alike_of {B B' y A nx : Nat} {S : Nat → Prop} {lv ov v : Value} {Q Q' : List (Pk × Value)} {O : List Of} {w : World} (hT : Told B v Q Q.length w) (hR : RnI B' y A nx lv ov Q' O S w) (e : Q.map (·.1) = Q'.map (·.1)) : Alike w v lv Q.length := by
  have hlen : Q.length = Q'.length := by have := congrArg List.length e; simpa using this
  obtain ⟨aa, ca, ea, a1, a2, _, a4⟩ := row_reads hT.row
  obtain ⟨ab, cb, eb, b1, b2, _, b4⟩ := hR.shape
  rw [← hlen] at eb b1
  refine ⟨aa, ca, ab, cb, ea, eb, a1, a2, b1, b2, fun k hk => ?_⟩
  have hq : Q[k]? = some Q[k] := List.getElem?_eq_getElem hk
  have hq' : Q'[k]? = some Q'[k] := List.getElem?_eq_getElem (by omega)
  have e1 : Q[k].1 = Q'[k].1 := by
    have := congrArg (fun l => l[k]?) e
    simp only [List.getElem?_map, hq, hq', Option.map_some, Option.some.injEq] at this
    exact this
  obtain ⟨h, rfl, h0, h1, h2, h3⟩ := b4 k _ hq'
  obtain ⟨x0, x1, x2, x3⟩ := pkCs_at Q k _ hq
  obtain ⟨g, rfl, g0⟩ := a4 _ _ x0
  have kk : ∀ j u, (pkCs Q)[j]? = some u → w.cell? ⟨g, j, none⟩ = some u := fun j u q => by
    obtain ⟨g', eg, g1⟩ := a4 j u q
    simp only [Option.some.injEq, Addr.mk.injEq, and_true] at eg
    rw [eg]; exact g1
  refine ⟨g, h, rfl, rfl, (Q[k].1.1 : Int), (Q[k].1.2.1 : Int), (Q[k].1.2.2.1 : Int), Q[k].2, Q'[k].2, Q[k].1.2.2.2, g0, kk _ _ x1, kk _ _ x2, kk _ _ x3, by rw [e1]; exact h0, by rw [e1]; exact h1, by rw [e1]; exact h2, h3, ((hT.data k _ hq hk).1).rd, ?_⟩
  rw [e1]
  exact hR.data _ (List.mem_of_getElem? hq')

section
variable {B x y A N : Nat} {T : Nat → Prop} {w : World}
set_option maxHeartbeats 2000000 in
theorem nlook_any (h : Np B x y A N T w) : Calls Try.prog 12 #[.pointer (some ⟨x, 0, none⟩), .pointer (some ⟨y, 0, none⟩)] w fun e w' => e = .returned (.bool true) ∧ Below w.heap.size w w' := by
  go_enter Try.func12, Try.ntmps12
  go_wp2_with fail
  go_loopw [5] (fun i wr => ∃ k : Nat, k ≤ 2 ∧ i = .int .i64 k ∧ Below w.heap.size w wr) (fun i _ => 2 - (intOf i).toNat)
  case atStart => exact ⟨0, by omega, rfl, Below.refl _ _⟩
  case round =>
    obtain ⟨k, hk, rfl, hb⟩ := hrel
    by_cases hlt : k < 2
    · obtain ⟨last, n, Sx, Sy, M, C, O, hI⟩ := h.below hb
      have hinv := hI.inv
      go_wp2_with fail
      refine (pending_any hI.nt hinv.len (fun p hp => Nat.le_trans (hinv.small p hp) (by omega))).mono ?_
      rintro e w1 ⟨v1, rfl, Q1, hQ1, hT1, hb1⟩
      obtain ⟨lv, ov, Q2, hQ2, hR⟩ := hI.rn.below hb1
      have hal := alike_of hT1 hR (hQ1.trans hQ2.symm)
      obtain ⟨c0, c1, c2, c3, cz⟩ := hR.cells
      have hOv := Over.of hT1
      have hDl : (Q1.map (·.2)).length = Q1.length := by simp
      have hQl : Q1.length ≤ 256 := by have := hinv.len; rw [← hQ1, List.length_map] at this; exact this
      have hs1 := hb.size
      have hB1 : Below w.heap.size w w1 := hb.trans (hb1.mono hs1)
      go_wp2_with fail
      refine (samePackets_any hal).mono ?_
      rintro e w2 ⟨rfl, m2, rfl⟩
      have hO2 := hOv.keptC (T := fun _ => False) (w' := w1.drewN m2) ((Chg.of_below (below_drewN (Below.refl w1.heap.size w1) m2)).mono (fun b hb q => absurd hb (Nat.not_lt.2 q))) (fun _ _ q => q)
      have hB2 : Below w.heap.size w (w1.drewN m2) := hB1.trans ((below_drewN (Below.refl w1.heap.size w1) m2).mono hB1.size)
      generalize w1.drewN m2 = w2 at *
      generalize Q1.map (·.2) = D at *
      obtain ⟨ap, cp, _, _, rfl, _, d1, d2, _, _, _⟩ := hal
      clear hT1 hR hOv hQ1 hQ2 hI c0 c1 c2 c3 cz hb1 hB1
      generalize Q1.length = n0 at *
      subst hDl
      unfold maxLen at d2
      have hBw : w.heap.size ≤ wr.heap.size := hs1
      generalize hBB : wr.heap.size = B1 at *
      clear hBB
      go_wp2_with fail
      go_loopw [7] (fun i wi => ∃ k2 : Nat, k2 ≤ D.length ∧ i = .int .i64 k2 ∧ Over B1 (.slice ap D.length cp) D wi ∧ Below w.heap.size w wi) (fun i _ => D.length - (intOf i).toNat)
      case atStart => exact ⟨0, by omega, rfl, hO2, hB2⟩
      case round =>
        obtain ⟨k2, hk2, rfl, hOv, hbi⟩ := hrel
        clear hO2 hB2
        by_cases hlt2 : k2 < D.length
        · obtain ⟨g, c, e, _, _, hBg, ⟨u0, x0⟩, x3, z0⟩ := hOv.at k2 hlt2
          simp only [Value.slice.injEq, true_and] at e
          obtain ⟨rfl, rfl⟩ := e
          have hmem : D[k2] ∈ D := List.getElem_mem hlt2
          have hat : ∀ {WJ : World}, Over B1 (.slice (some ⟨g, 0, none⟩) D.length cp) D WJ → WJ.cell? ⟨g, k2 * 4 + 3, none⟩ = some D[k2] := fun hj => by
            obtain ⟨g', c', e', _, _, _, _, y3, _⟩ := hj.at k2 hlt2
            simp only [Value.slice.injEq, true_and, Option.some.injEq, Addr.mk.injEq, and_true] at e'
            rw [e'.1]; exact y3
          obtain ⟨⟨l, hl⟩, _⟩ := hOv.data D[k2] hmem
          obtain ⟨ad, cd, ed, l1, l2, _, _⟩ := row_reads hl
          unfold maxLen at l2
          generalize D[k2] = d at *
          subst ed
          clear hl
          have hO3 := hOv.setID (g := g) rfl k2 (.int .i64 (-1))
          have hc3 : Chg (fun b => b = g) wr (wr.setCell ⟨g, k2 * 4, none⟩ (.int .i64 (-1))) := (Chg.refl (fun b => b = g) wr).put g _ _ rfl
          have hB3 : Below w.heap.size w (wr.setCell ⟨g, k2 * 4, none⟩ (.int .i64 (-1))) := hbi.trans (hc3.below (fun b q => by omega) hbi.size)
          have hk4 : (k2 : Int) < (D.length : Int) := by omega
          have HA : Hid _ := And.intro hmem @hat
          clear hat hmem
          go_wp2_with fail
          generalize wr.setCell ⟨g, k2 * 4, none⟩ (.int .i64 (-1)) = w3 at *
          clear x0 x3 z0 hc3 hOv hbi
          go_loopw [8] (fun j WJ => ∃ j0 : Nat, j0 ≤ l.length ∧ j = .int .i64 j0 ∧ Over B1 (.slice (some ⟨g, 0, none⟩) D.length cp) D WJ ∧ Below w.heap.size w WJ) (fun j _ => l.length - (intOf j).toNat)
          case atStart => exact ⟨0, by omega, rfl, hO3, hB3⟩
          case round =>
            obtain ⟨j0, hj0, rfl, hOj, hbj⟩ := hrel
            clear hO3 hB3
            have x3 := HA.out.2 hOj
            by_cases hlt3 : j0 < l.length
            · obtain ⟨⟨l', hl'⟩, _⟩ := hOj.data _ HA.out.1
              obtain ⟨_, _, e', _, _, _, _⟩ := row_reads hl'
              simp only [Value.slice.injEq] at e'
              obtain ⟨gd, cd', e2, hBd, ⟨u1, y0⟩, yz⟩ := ow_at hl' j0 (by omega)
              simp only [Value.slice.injEq] at e2
              obtain ⟨rfl, _, rfl⟩ := e2
              have hO4 := hOj.setData HA.out.1 (g := gd) rfl j0
              have hc4 : Chg (fun b => b = gd) wr (wr.setCell ⟨gd, j0, none⟩ (.int .u8 102)) := (Chg.refl (fun b => b = gd) wr).put gd _ _ rfl
              have hB4 : Below w.heap.size w (wr.setCell ⟨gd, j0, none⟩ (.int .u8 102)) := hbj.trans (hc4.below (fun b q => by omega) hbj.size)
              have hj4 : (j0 : Int) < (l.length : Int) := by omega
              clear hl' e' hc4
              go_wp2_with fail
              exact ⟨⟨j0 + 1, by omega, by go_num, hO4, hB4⟩, by simp [intOf]; omega⟩
            · obtain rfl : j0 = l.length := by omega
              go_wp2_with fail
              exact ⟨⟨k2 + 1, by omega, by go_num, hOj, hbj⟩, by simp [intOf]; omega⟩
        · obtain rfl : k2 = D.length := by omega
          go_wp2_with fail
          exact ⟨⟨k + 1, by omega, by go_num, hbi⟩, by simp [intOf]; omega⟩
    · obtain rfl : k = 2 := by omega
      go_wp2_with fail
      go_ret
      exact ⟨rfl, hb⟩
end
end Go.Proofs.Ytpieehbikmmifaa

/- one: a step of both nets, and what they answer is the same: what all cases share. -/
namespace Go.Proofs.Ytpieehbikmmifaa
open Go.RowKit
set_option linter.unusedVariables false
set_option maxRecDepth 100000

/-- What a step is handed, and what is known of it. -/
structure NFit (B : Nat) (s : NV) (w : World) : Prop where
  rd : ∀ W, Below B w W → Rd W (.slice s.ad s.data.length s.cd) s.data
  la : I64 s.a
  lb : I64 s.b
  ld : s.data.length ≤ 1048576
theorem NFit.next {B : Nat} {s : NV} {w w' : World} (h : NFit B s w) (hb : Below B w w') : NFit B s w' := ⟨fun W hW => h.rd W (hb.trans hW), h.la, h.lb, h.ld⟩
/-- A step's cells. -/
def nvA (s : NV) : Array Value := #[.int .i64 s.act, .int .i64 s.a, .int .i64 s.b, .slice s.ad s.data.length s.cd]
theorem nnum_any (e : Int) (w : World) : Calls Try.prog 10 #[.int .i64 e] w fun r w' => r = .returned (.int .i64 e) ∧ w' = w := by
  go_enter Try.func10, Try.ntmps10
  go_wp2
  go_ret
  exact ⟨rfl, rfl⟩
theorem nchg_dN (T : Nat → Prop) (w : World) (q : Nat) : Chg T w (w.drewN q) := ⟨rfl, rfl, rfl, Nat.le_refl _, fun _ _ _ => rfl⟩
theorem nbel_dN (w : World) (q : Nat) : Below w.heap.size w (w.drewN q) := below_drewN (Below.refl _ _) q
end Go.Proofs.Ytpieehbikmmifaa

/- one: a step of both nets, and what they answer is the same: Cut. -/
namespace Go.Proofs.Ytpieehbikmmifaa
open Go.RowKit
set_option linter.unusedVariables false
set_option maxRecDepth 100000

section
variable {B x y A N : Nat} {T : Nat → Prop} {w : World} {s : NV}

set_option maxHeartbeats 2000000 in
theorem none_cut (h : Np B x y A N T w) (hN : N ≤ 1048575000) (hx : NFit B s w) (ha : s.act = 4) :
    Calls Try.prog 11 #[.pointer (some ⟨x, 0, none⟩), .pointer (some ⟨y, 0, none⟩), .agg (nvA s)] w fun e w' => e = .returned (.bool true) ∧ Chg T w w' ∧ Np B x y A (N + 1) (Tn T w w') w' := by
  have hTF : ¬ T w.heap.size := fun q => by have := (h.lt _ q).2; omega
  have hFl : w.heap.size < (w.alloc (.cells (nvA s) 35)).heap.size := by simp
  have hal : Below w.heap.size w (w.alloc (.cells (nvA s) 35)) := Below.al w _
  have hPb := h.below hal
  have hxb := hx.next (hal.mono h.leB)
  have z0 : (w.alloc (.cells (nvA s) 35)).cell? ⟨w.heap.size, 0, none⟩ = some (.int .i64 s.act) := by rw [box_at]; rfl
  have z1 : (w.alloc (.cells (nvA s) 35)).cell? ⟨w.heap.size, 1, none⟩ = some (.int .i64 s.a) := by rw [box_at]; rfl
  have z2 : (w.alloc (.cells (nvA s) 35)).cell? ⟨w.heap.size, 2, none⟩ = some (.int .i64 s.b) := by rw [box_at]; rfl
  have z3 : (w.alloc (.cells (nvA s) 35)).cell? ⟨w.heap.size, 3, none⟩ = some (.slice s.ad s.data.length s.cd) := by rw [box_at]; rfl
  obtain ⟨act, a, b, data, ad, cd⟩ := s
  obtain ⟨xrd, la, lb, ld⟩ := hxb
  simp only [] at *
  subst ha
  unfold nvA at *
  simp only [] at *
  generalize hwb : w.alloc (.cells #[.int .i64 4, .int .i64 a, .int .i64 b, .slice ad data.length cd] 35) = wb at *
  have hF : Hid _ := And.intro h hal
  clear h hal hx
  go_enter Try.func11, Try.ntmps11
  go_wp2_with fail
  generalize hF0 : w.heap.size = F at *
  clear hwb
  go_region_held3 (fun w' => w'.cell? ⟨F, 1, none⟩ = some (.int .i64 a) ∧ w'.cell? ⟨F, 2, none⟩ = some (.int .i64 b)) (go_keep) (first
    | (go_at_call 18; refine (hC2 _ hb3).mono ?_; rintro e w5 ⟨t5, rfl, hb5, hn5⟩; have hb35 := Below.tr hb3 hb5; have s1 := (hb35.cell hF2).trans v1; have s2 := (hb35.cell hF2).trans v2)
    | (go_at_call 32; refine (hn5 _ (Below.refl _ _)).mono ?_; rintro e w6 ⟨rfl, rfl⟩)
    | (go_at_call 20; refine (cut_pair (hPb.below (nbel_dN wb _)) (by omega) a b la lb).mono ?_; rintro e w1 ⟨e1, rfl, hc1, hnext⟩; replace hc1 := (nchg_dN T wb _).trans (hc1.mono (fun b _ q => .inl q)); have y1 := box_cell (i := 1) hc1 hTF hFl z1; have y2 := box_cell (i := 2) hc1 hTF hFl z2)
    | (go_at_call 10; refine (nnum_any _ _).mono ?_; rintro e w9 ⟨rfl, rfl⟩)
    | (go_at_call 31; refine (hnext _ (Below.refl _ _)).mono ?_; rintro e w2 ⟨rfl, hc2, hP2⟩; have hc20 := (nchg_dN T wb _).trans (hc2.mono (fun b _ q => .inl q)); have v1 := box_cell (i := 1) hc20 hTF hFl z1; have v2 := box_cell (i := 2) hc20 hTF hFl z2; have hF2 := Nat.lt_of_lt_of_le hFl hc20.size; have hC1 := isCut_pair hP2 a b la lb; have hC2 := fun W (hb : Below w2.heap.size w2 W) => isCut_pair (hP2.below hb) b a lb la)
    | (go_at_call 18; refine hC1.mono ?_; rintro e w3 ⟨t3, rfl, hb3, hn3⟩; have u1 := (hb3.cell hF2).trans v1; have u2 := (hb3.cell hF2).trans v2)
    | (go_at_call 32; refine (hn3 _ (Below.refl _ _)).mono ?_; rintro e w4 ⟨rfl, rfl⟩)
    | fail)
  go_wp2_with fail
  go_ret
  exact ⟨by simp, hF.out.1.after (hF.out.1.fin (by rw [hF0]; exact hF.out.2.trans ((nbel_dN wb _).mono (Nat.le_of_lt hFl))) hc2 hP2) hb35⟩
end
end Go.Proofs.Ytpieehbikmmifaa

/- one: a step of both nets, and what they answer is the same: Drop. -/
namespace Go.Proofs.Ytpieehbikmmifaa
open Go.RowKit
set_option linter.unusedVariables false
set_option maxRecDepth 100000

section
variable {B x y A N : Nat} {T : Nat → Prop} {w : World} {s : NV}

set_option maxHeartbeats 2000000 in
theorem none_drop (h : Np B x y A N T w) (hN : N ≤ 1048575000) (hx : NFit B s w) (ha : s.act = 2) :
    Calls Try.prog 11 #[.pointer (some ⟨x, 0, none⟩), .pointer (some ⟨y, 0, none⟩), .agg (nvA s)] w fun e w' => e = .returned (.bool true) ∧ Chg T w w' ∧ Np B x y A (N + 1) (Tn T w w') w' := by
  have hTF : ¬ T w.heap.size := fun q => by have := (h.lt _ q).2; omega
  have hFl : w.heap.size < (w.alloc (.cells (nvA s) 35)).heap.size := by simp
  have hal : Below w.heap.size w (w.alloc (.cells (nvA s) 35)) := Below.al w _
  have hPb := h.below hal
  have hxb := hx.next (hal.mono h.leB)
  have z0 : (w.alloc (.cells (nvA s) 35)).cell? ⟨w.heap.size, 0, none⟩ = some (.int .i64 s.act) := by rw [box_at]; rfl
  have z1 : (w.alloc (.cells (nvA s) 35)).cell? ⟨w.heap.size, 1, none⟩ = some (.int .i64 s.a) := by rw [box_at]; rfl
  have z2 : (w.alloc (.cells (nvA s) 35)).cell? ⟨w.heap.size, 2, none⟩ = some (.int .i64 s.b) := by rw [box_at]; rfl
  have z3 : (w.alloc (.cells (nvA s) 35)).cell? ⟨w.heap.size, 3, none⟩ = some (.slice s.ad s.data.length s.cd) := by rw [box_at]; rfl
  obtain ⟨act, a, b, data, ad, cd⟩ := s
  obtain ⟨xrd, la, lb, ld⟩ := hxb
  simp only [] at *
  subst ha
  unfold nvA at *
  simp only [] at *
  generalize hwb : w.alloc (.cells #[.int .i64 2, .int .i64 a, .int .i64 b, .slice ad data.length cd] 35) = wb at *
  have hF : Hid _ := And.intro h hal
  clear h hal hx
  go_enter Try.func11, Try.ntmps11
  go_wp2_with fail
  generalize hF0 : w.heap.size = F at *
  clear hwb
  go_region_held3 (fun w' => w'.cell? ⟨F, 1, none⟩ = some (.int .i64 a)) (go_keep) (first
    | (go_at_call 19; refine (drop_pair (hPb.below (nbel_dN wb _)) a).mono ?_; rintro e w1 ⟨e1, rfl, hc1, hnext⟩; replace hc1 := (nchg_dN T wb _).trans (hc1.mono (fun b _ q => .inl q)); have y1 := box_cell (i := 1) hc1 hTF hFl z1)
    | (go_at_call 10; refine (nnum_any _ _).mono ?_; rintro e w9 ⟨rfl, rfl⟩)
    | (go_at_call 29; refine (hnext _ (Below.refl _ _)).mono ?_; rintro e w2 ⟨rfl, hc2, hP2⟩; have hc20 := (nchg_dN T wb _).trans (hc2.mono (fun b _ q => .inl q)); have v1 := box_cell (i := 1) hc20 hTF hFl z1)
    | fail)
  go_wp2_with fail
  go_ret
  exact ⟨by simp, hF.out.1.fin (by rw [hF0]; exact hF.out.2.trans ((nbel_dN wb _).mono (Nat.le_of_lt hFl))) hc2 hP2⟩
end
end Go.Proofs.Ytpieehbikmmifaa

/- one: a step of both nets, and what they answer is the same: Join. -/
namespace Go.Proofs.Ytpieehbikmmifaa
open Go.RowKit
set_option linter.unusedVariables false
set_option maxRecDepth 100000

section
variable {B x y A N : Nat} {T : Nat → Prop} {w : World} {s : NV}

set_option maxHeartbeats 2000000 in
theorem none_join (h : Np B x y A N T w) (hN : N ≤ 1048575000) (hx : NFit B s w) (ha : s.act = 5) :
    Calls Try.prog 11 #[.pointer (some ⟨x, 0, none⟩), .pointer (some ⟨y, 0, none⟩), .agg (nvA s)] w fun e w' => e = .returned (.bool true) ∧ Chg T w w' ∧ Np B x y A (N + 1) (Tn T w w') w' := by
  have hTF : ¬ T w.heap.size := fun q => by have := (h.lt _ q).2; omega
  have hFl : w.heap.size < (w.alloc (.cells (nvA s) 35)).heap.size := by simp
  have hal : Below w.heap.size w (w.alloc (.cells (nvA s) 35)) := Below.al w _
  have hPb := h.below hal
  have hxb := hx.next (hal.mono h.leB)
  have z0 : (w.alloc (.cells (nvA s) 35)).cell? ⟨w.heap.size, 0, none⟩ = some (.int .i64 s.act) := by rw [box_at]; rfl
  have z1 : (w.alloc (.cells (nvA s) 35)).cell? ⟨w.heap.size, 1, none⟩ = some (.int .i64 s.a) := by rw [box_at]; rfl
  have z2 : (w.alloc (.cells (nvA s) 35)).cell? ⟨w.heap.size, 2, none⟩ = some (.int .i64 s.b) := by rw [box_at]; rfl
  have z3 : (w.alloc (.cells (nvA s) 35)).cell? ⟨w.heap.size, 3, none⟩ = some (.slice s.ad s.data.length s.cd) := by rw [box_at]; rfl
  obtain ⟨act, a, b, data, ad, cd⟩ := s
  obtain ⟨xrd, la, lb, ld⟩ := hxb
  simp only [] at *
  subst ha
  unfold nvA at *
  simp only [] at *
  generalize hwb : w.alloc (.cells #[.int .i64 5, .int .i64 a, .int .i64 b, .slice ad data.length cd] 35) = wb at *
  have hF : Hid _ := And.intro h hal
  clear h hal hx
  go_enter Try.func11, Try.ntmps11
  go_wp2_with fail
  generalize hF0 : w.heap.size = F at *
  clear hwb
  go_region_held3 (fun w' => w'.cell? ⟨F, 1, none⟩ = some (.int .i64 a) ∧ w'.cell? ⟨F, 2, none⟩ = some (.int .i64 b)) (go_keep) (first
    | (go_at_call 21; refine (join_pair (hPb.below (nbel_dN wb _)) (by omega) a b la lb).mono ?_; rintro e w1 ⟨e1, rfl, hc1, hnext⟩; replace hc1 := (nchg_dN T wb _).trans (hc1.mono (fun b _ q => .inl q)); have y1 := box_cell (i := 1) hc1 hTF hFl z1; have y2 := box_cell (i := 2) hc1 hTF hFl z2)
    | (go_at_call 10; refine (nnum_any _ _).mono ?_; rintro e w9 ⟨rfl, rfl⟩)
    | (go_at_call 33; refine (hnext _ (Below.refl _ _)).mono ?_; rintro e w2 ⟨rfl, hc2, hP2⟩; have hc20 := (nchg_dN T wb _).trans (hc2.mono (fun b _ q => .inl q)); have v1 := box_cell (i := 1) hc20 hTF hFl z1; have v2 := box_cell (i := 2) hc20 hTF hFl z2; have hF2 := Nat.lt_of_lt_of_le hFl hc20.size; have hC1 := isCut_pair hP2 a b la lb; have hC2 := fun W (hb : Below w2.heap.size w2 W) => isCut_pair (hP2.below hb) b a lb la)
    | (go_at_call 18; refine hC1.mono ?_; rintro e w3 ⟨t3, rfl, hb3, hn3⟩; have u1 := (hb3.cell hF2).trans v1; have u2 := (hb3.cell hF2).trans v2)
    | (go_at_call 32; refine (hn3 _ (Below.refl _ _)).mono ?_; rintro e w4 ⟨rfl, rfl⟩)
    | fail)
  go_wp2_with fail
  go_ret
  exact ⟨by simp, hF.out.1.after (hF.out.1.fin (by rw [hF0]; exact hF.out.2.trans ((nbel_dN wb _).mono (Nat.le_of_lt hFl))) hc2 hP2) hb3⟩
end
end Go.Proofs.Ytpieehbikmmifaa

/- one: a step of both nets, and what they answer is the same: Heal. -/
namespace Go.Proofs.Ytpieehbikmmifaa
open Go.RowKit
set_option linter.unusedVariables false
set_option maxRecDepth 100000

section
variable {B x y A N : Nat} {T : Nat → Prop} {w : World} {s : NV}

set_option maxHeartbeats 2000000 in
theorem none_heal (h : Np B x y A N T w) (hN : N ≤ 1048575000) (hx : NFit B s w) (ha : s.act = 6) :
    Calls Try.prog 11 #[.pointer (some ⟨x, 0, none⟩), .pointer (some ⟨y, 0, none⟩), .agg (nvA s)] w fun e w' => e = .returned (.bool true) ∧ Chg T w w' ∧ Np B x y A (N + 1) (Tn T w w') w' := by
  have hTF : ¬ T w.heap.size := fun q => by have := (h.lt _ q).2; omega
  have hFl : w.heap.size < (w.alloc (.cells (nvA s) 35)).heap.size := by simp
  have hal : Below w.heap.size w (w.alloc (.cells (nvA s) 35)) := Below.al w _
  have hPb := h.below hal
  have hxb := hx.next (hal.mono h.leB)
  have z0 : (w.alloc (.cells (nvA s) 35)).cell? ⟨w.heap.size, 0, none⟩ = some (.int .i64 s.act) := by rw [box_at]; rfl
  have z1 : (w.alloc (.cells (nvA s) 35)).cell? ⟨w.heap.size, 1, none⟩ = some (.int .i64 s.a) := by rw [box_at]; rfl
  have z2 : (w.alloc (.cells (nvA s) 35)).cell? ⟨w.heap.size, 2, none⟩ = some (.int .i64 s.b) := by rw [box_at]; rfl
  have z3 : (w.alloc (.cells (nvA s) 35)).cell? ⟨w.heap.size, 3, none⟩ = some (.slice s.ad s.data.length s.cd) := by rw [box_at]; rfl
  obtain ⟨act, a, b, data, ad, cd⟩ := s
  obtain ⟨xrd, la, lb, ld⟩ := hxb
  simp only [] at *
  subst ha
  unfold nvA at *
  simp only [] at *
  generalize hwb : w.alloc (.cells #[.int .i64 6, .int .i64 a, .int .i64 b, .slice ad data.length cd] 35) = wb at *
  have hF : Hid _ := And.intro h hal
  clear h hal hx
  go_enter Try.func11, Try.ntmps11
  go_wp2_with fail
  generalize hF0 : w.heap.size = F at *
  clear hwb
  refine (heal_pair hPb).mono ?_
  rintro e w1 ⟨⟨v1, rfl⟩, hc1, ⟨u1, y3⟩, yz, hc2, hP2⟩
  go_wp2_with fail
  refine (nlook_any hP2).mono ?_
  rintro e w3 ⟨rfl, hb3⟩
  go_wp2_with fail
  go_ret
  exact ⟨rfl, hF.out.1.after (hF.out.1.fin (by rw [hF0]; exact hF.out.2) hc2 hP2) hb3⟩

set_option maxHeartbeats 2000000 in
theorem none_look (h : Np B x y A N T w) (hN : N ≤ 1048575000) (hx : NFit B s w) (ha : ∀ k : Int, 0 ≤ k ∧ k ≤ 6 → s.act ≠ k) :
    Calls Try.prog 11 #[.pointer (some ⟨x, 0, none⟩), .pointer (some ⟨y, 0, none⟩), .agg (nvA s)] w fun e w' => e = .returned (.bool true) ∧ Chg T w w' ∧ Np B x y A (N + 1) (Tn T w w') w' := by
  have hTF : ¬ T w.heap.size := fun q => by have := (h.lt _ q).2; omega
  have hFl : w.heap.size < (w.alloc (.cells (nvA s) 35)).heap.size := by simp
  have hal : Below w.heap.size w (w.alloc (.cells (nvA s) 35)) := Below.al w _
  have hPb := h.below hal
  have hxb := hx.next (hal.mono h.leB)
  have z0 : (w.alloc (.cells (nvA s) 35)).cell? ⟨w.heap.size, 0, none⟩ = some (.int .i64 s.act) := by rw [box_at]; rfl
  have z1 : (w.alloc (.cells (nvA s) 35)).cell? ⟨w.heap.size, 1, none⟩ = some (.int .i64 s.a) := by rw [box_at]; rfl
  have z2 : (w.alloc (.cells (nvA s) 35)).cell? ⟨w.heap.size, 2, none⟩ = some (.int .i64 s.b) := by rw [box_at]; rfl
  have z3 : (w.alloc (.cells (nvA s) 35)).cell? ⟨w.heap.size, 3, none⟩ = some (.slice s.ad s.data.length s.cd) := by rw [box_at]; rfl
  obtain ⟨act, a, b, data, ad, cd⟩ := s
  obtain ⟨xrd, la, lb, ld⟩ := hxb
  simp only [] at *
  unfold nvA at *
  simp only [] at *
  generalize hwb : w.alloc (.cells #[.int .i64 act, .int .i64 a, .int .i64 b, .slice ad data.length cd] 35) = wb at *
  have hF : Hid _ := And.intro h hal
  clear h hal hx
  have e0 : (act == 0) = false := by rw [beq_eq_false_iff_ne]; exact ha 0 (by omega)
  have e1 : (act == 1) = false := by rw [beq_eq_false_iff_ne]; exact ha 1 (by omega)
  have e2 : (act == 2) = false := by rw [beq_eq_false_iff_ne]; exact ha 2 (by omega)
  have e3 : (act == 3) = false := by rw [beq_eq_false_iff_ne]; exact ha 3 (by omega)
  have e4 : (act == 4) = false := by rw [beq_eq_false_iff_ne]; exact ha 4 (by omega)
  have e5 : (act == 5) = false := by rw [beq_eq_false_iff_ne]; exact ha 5 (by omega)
  have e6 : (act == 6) = false := by rw [beq_eq_false_iff_ne]; exact ha 6 (by omega)
  clear ha
  go_enter Try.func11, Try.ntmps11
  go_wp2_with fail
  generalize hF0 : w.heap.size = F at *
  clear hwb
  refine (nlook_any hPb).mono ?_
  rintro e w3 ⟨rfl, hb3⟩
  go_wp2_with fail
  go_ret
  exact ⟨rfl, hF.out.1.finB (by omega) (by rw [hF0]; exact hF.out.2.trans (hb3.mono (Nat.le_of_lt hFl)))⟩
end
end Go.Proofs.Ytpieehbikmmifaa

/- one: a step of both nets, and what they answer is the same: Deliver. -/
namespace Go.Proofs.Ytpieehbikmmifaa
open Go.RowKit
set_option linter.unusedVariables false
set_option maxRecDepth 100000

section
variable {B x y A N : Nat} {T : Nat → Prop} {w : World} {s : NV}
theorem alike_one (w : World) (i f t : Int) {va vb : Value} {l : List UInt8} (hra : Rd w va l) (hrb : Rd w vb l) (ty : TypeId) : Alike ((w.alloc (.cells #[.int .i64 i, .int .i64 f, .int .i64 t, va] ty)).alloc (.cells #[.int .i64 i, .int .i64 f, .int .i64 t, vb] ty)) (.slice (some ⟨w.heap.size, 0, none⟩) 1 1) (.slice (some ⟨w.heap.size + 1, 0, none⟩) 1 1) 1 := by
  have h1 := (Below.heap_alloc (w.alloc (.cells #[.int .i64 i, .int .i64 f, .int .i64 t, va] ty)) (.cells #[.int .i64 i, .int .i64 f, .int .i64 t, vb] ty) w.heap.size (by simp)).trans (block_new w _)
  have h2 := block_new (w.alloc (.cells #[.int .i64 i, .int .i64 f, .int .i64 t, va] ty)) (.cells #[.int .i64 i, .int .i64 f, .int .i64 t, vb] ty)
  rw [show (w.alloc (.cells #[.int .i64 i, .int .i64 f, .int .i64 t, va] ty)).heap.size = w.heap.size + 1 by simp] at h2
  obtain ⟨p0, p1, p2, p3⟩ := cells4 h1
  obtain ⟨q0, q1, q2, q3⟩ := cells4 h2
  refine ⟨_, 1, _, 1, rfl, rfl, by omega, by simp [maxLen], by omega, by simp [maxLen], fun k hk => ?_⟩
  obtain rfl : k = 0 := by omega
  exact ⟨_, _, rfl, rfl, i, f, t, va, vb, l, p0, p1, p2, p3, q0, q1, q2, q3, (hra.alloc _).alloc _, (hrb.alloc _).alloc _⟩

set_option maxHeartbeats 600000 in
theorem none_deliver (h : Np B x y A N T w) (hN : N ≤ 1048575000) (hx : NFit B s w) (ha : s.act = 1) :
    Calls Try.prog 11 #[.pointer (some ⟨x, 0, none⟩), .pointer (some ⟨y, 0, none⟩), .agg (nvA s)] w fun e w' => e = .returned (.bool true) ∧ Chg T w w' ∧ Np B x y A (N + 1) (Tn T w w') w' := by
  have hTF : ¬ T w.heap.size := fun q => by have := (h.lt _ q).2; omega
  have hFl : w.heap.size < (w.alloc (.cells (nvA s) 35)).heap.size := by simp
  have hal : Below w.heap.size w (w.alloc (.cells (nvA s) 35)) := Below.al w _
  have hPb := h.below hal
  have hxb := hx.next (hal.mono h.leB)
  have z0 : (w.alloc (.cells (nvA s) 35)).cell? ⟨w.heap.size, 0, none⟩ = some (.int .i64 s.act) := by rw [box_at]; rfl
  have z1 : (w.alloc (.cells (nvA s) 35)).cell? ⟨w.heap.size, 1, none⟩ = some (.int .i64 s.a) := by rw [box_at]; rfl
  have z2 : (w.alloc (.cells (nvA s) 35)).cell? ⟨w.heap.size, 2, none⟩ = some (.int .i64 s.b) := by rw [box_at]; rfl
  have z3 : (w.alloc (.cells (nvA s) 35)).cell? ⟨w.heap.size, 3, none⟩ = some (.slice s.ad s.data.length s.cd) := by rw [box_at]; rfl
  obtain ⟨act, a, b, data, ad, cd⟩ := s
  obtain ⟨xrd, la, lb, ld⟩ := hxb
  simp only [] at *
  subst ha
  unfold nvA at *
  simp only [] at *
  generalize hwb : w.alloc (.cells #[.int .i64 1, .int .i64 a, .int .i64 b, .slice ad data.length cd] 35) = wb at *
  have hF : Hid _ := And.intro h hal
  clear h hal hx
  go_enter Try.func11, Try.ntmps11
  go_wp2_with fail
  generalize hF0 : w.heap.size = F at *
  clear hwb
  refine (deliver_pair hPb a).mono ?_
  rintro e w1 ⟨i1, f1, t1, e1, va, l, rfl, hc1, ⟨ga, na, ca, rfl⟩, hnext⟩
  have y1 := box_cell (i := 1) hc1 hTF hFl z1
  have hF1 : F < w1.heap.size := Nat.lt_of_lt_of_le hFl hc1.size
  have hFn1 : F ≠ w1.heap.size := by omega
  have hb2 := Below.al w1 (.cells #[.int .i64 i1, .int .i64 f1, .int .i64 t1, .slice ga na ca] 46)
  have hV := block_new w1 (.cells #[.int .i64 i1, .int .i64 f1, .int .i64 t1, .slice ga na ca] 46)
  have hz2 : (w1.alloc (.cells #[.int .i64 i1, .int .i64 f1, .int .i64 t1, .slice ga na ca] 46)).heap.size = w1.heap.size + 1 := by simp
  go_wp2_with fail
  refine (hnext _ hb2).mono ?_
  rintro e w3 ⟨vb, rfl, hra, hrb, hc13, hc3, hP3⟩
  have hTV : ¬ T w1.heap.size := fun q => by have := (hPb.lt _ q).2; have := hc1.size; omega
  have hV3 := (hc13.block w1.heap.size (by omega) hTV).trans hV
  clear hV
  have hs13 := hc13.size
  have hVn : w1.heap.size < w3.heap.size := by omega
  have hVn2 : w1.heap.size ≠ w3.heap.size := by omega
  have hrb' := hrb
  obtain ⟨gb, cb, rfl, _⟩ := hrb'
  go_wp2_with fail
  refine (nnum_any _ _).mono ?_
  rintro e w9 ⟨rfl, rfl⟩
  have hb4 := Below.al w3 (.cells #[.int .i64 i1, .int .i64 f1, .int .i64 t1, .slice gb l.length cb] 46)
  have hV4 := (hb4.block _ hVn).trans hV3
  have hU4 := block_new w3 (.cells #[.int .i64 i1, .int .i64 f1, .int .i64 t1, .slice gb l.length cb] 46)
  have hra4 := hra.below hb4 (Nat.le_refl _)
  have hrb4 := hrb.below hb4 (Nat.le_refl _)
  have hz4 : (w3.alloc (.cells #[.int .i64 i1, .int .i64 f1, .int .i64 t1, .slice gb l.length cb] 46)).heap.size = w3.heap.size + 1 := by simp
  generalize w3.alloc (.cells #[.int .i64 i1, .int .i64 f1, .int .i64 t1, .slice gb l.length cb] 46) = w4 at *
  obtain ⟨p0, p1, p2, p3⟩ := cells4 hV4
  obtain ⟨q0, q1, q2, q3⟩ := cells4 hU4
  have hn1 : w1.heap.size ≠ w4.heap.size := by omega
  have hn2 : w3.heap.size ≠ w4.heap.size := by omega
  have hU5 := (Below.heap_alloc w4 (.cells #[.int .i64 i1, .int .i64 f1, .int .i64 t1, .slice ga na ca] 46) w3.heap.size (by omega)).trans hU4
  obtain ⟨m0, m1, m2, m3⟩ := cells4 hU5
  have HA : Hid _ := alike_one w4 i1 f1 t1 hra4 hrb4 46
  have HE : Hid _ := And.intro (hF.out.1.after (hF.out.1.fin (by rw [hF0]; exact hF.out.2) hc3 hP3) hb4) hz4
  clear hz4 hs13 hra4 hrb4 hV4 hU4 hU5 hb4 hV3 hc3 hP3 hc13 hra hrb hVn hVn2 hTV hnext y1 hF1 hFn1 hb2 hz2 z0 z1 z2 z3 hPb hTF xrd hc1
  generalize w1.heap.size = V at *
  generalize w3.heap.size = U at *
  go_wp2_with fail
  refine (samePackets_any HA.out).mono ?_
  rintro e w5 ⟨rfl, m5, rfl⟩
  go_wp2_with fail
  go_ret
  exact ⟨rfl, hF.out.1.after HE.out.1 (below_drewN (((Below.refl w4.heap.size w4).alloc (Nat.le_refl _) _).alloc (by simp) _) _)⟩
end
end Go.Proofs.Ytpieehbikmmifaa

/- one: a step of both nets, and what they answer is the same: Send. -/
namespace Go.Proofs.Ytpieehbikmmifaa
open Go.RowKit
set_option linter.unusedVariables false
set_option maxRecDepth 100000

section
variable {B x y A N : Nat} {T : Nat → Prop} {w : World} {s : NV}

theorem nLst_chg {b g : Nat} {l : List UInt8} {w w' : World} {T : Nat → Prop} (h : Lst b g l w) (hc : Chg T w w') (hb : ¬ T b) (hg : ¬ T g) : Lst b g l w' := by
  have h1 := h.blk.lt
  have h2 := h.lt
  refine ⟨h.lt, ?_, ?_, ?_⟩
  · unfold Blk; rw [hc.block g h1 hg]; exact h.blk
  · rw [World.cell?_of_block (hc.block b (by omega) hb)]; exact h.c0
  · rw [World.cell?_of_block (hc.block b (by omega) hb)]; exact h.c1
theorem nlend_step {b : Nat} {v x0 y0 : Value} {l : List UInt8} {W : World} (h : Np B x y A N T W) (hTb : ¬ T b) (hBb : B ≤ b) (hr : RdB B W v l) (hl : l.length ≤ 1048576) (hx : W.cell? ⟨b, 0, none⟩ = some x0) (hy : W.cell? ⟨b, 1, none⟩ = some y0) (fx : W.frozen? ⟨b, 0, none⟩ = false) (fy : W.frozen? ⟨b, 1, none⟩ = false) :
    Calls Try.prog 24 #[.pointer (some ⟨b, 0, none⟩), v] W fun e w1 => ∃ p, e = .returned p ∧ Rd w1 p l ∧ Lst b W.heap.size l w1 ∧ Chg (fun x => x = b) W w1 ∧ Np B x y A N T w1 ∧ W.heap.size < w1.heap.size := by
  have hbW := World.block_lt_of_cell? W _ hx
  refine (lend_any hr (by omega) hBb hx hy fx fy).mono ?_
  rintro e w1 ⟨rfl, hbl, d0, d1, _, _, hg⟩
  have hc : Chg (fun x => x = b) W w1 := Chg.of_grown hg (fun c e _ => (Option.some.inj e).symm)
  have hTg : ¬ T W.heap.size := fun q => by have := (h.lt _ q).2; omega
  have hrd := hbl.rd 8 l.length (l.length + 8) (by rw [lent_length]; omega) (by omega) (by unfold maxLen; omega)
  rw [lent_mid] at hrd
  exact ⟨_, rfl, hrd, ⟨hbW, hbl, d0, d1⟩, hc, h.next hc (fun c q e => hTb (by rw [← e]; exact q)), hbl.lt⟩
theorem Np.fin2 (h : Np B x y A N T w) {N' g : Nat} {w1 w3 w4 : World} (hb : Below w.heap.size w w1) (hc : Chg T w1 w3) (hP : Np B x y A N' (Tn T w1 w3) w3) (hg : Chg (fun b => b = g) w3 w4) (h1 : w.heap.size ≤ g) (h2 : g < w1.heap.size) : Chg T w w4 ∧ Np B x y A N' (Tn T w w4) w4 := by
  have z1 := hb.size
  have z2 := hc.size
  have z3 := hg.size
  have hB := h.leB
  have hTg : ¬ T g := fun q => by have := (h.lt _ q).2; omega
  have hP4 := hP.next hg (fun b q e => by
    subst e
    rcases q with q | q
    · exact hTg q
    · omega)
  refine ⟨(((Chg.of_below hb).mono (fun b hb q => by omega)).trans (hc.mono (fun b _ q => .inl q))).trans (hg.mono (fun b _ q => .inr (by omega))), hP4.wider (fun b q => ?_) (fun b q => ?_)⟩
  · rcases q with q | q
    · exact .inl q
    · exact .inr ⟨by omega, by omega⟩
  · rcases q with q | q
    · exact ⟨(h.lt b q).1, by have := (h.lt b q).2; omega⟩
    · exact ⟨by omega, q.2⟩

set_option maxHeartbeats 2000000 in
theorem none_send (h : Np B x y A N T w) (hN : N ≤ 1048575000) (hx : NFit B s w) (ha : s.act = 0) :
    Calls Try.prog 11 #[.pointer (some ⟨x, 0, none⟩), .pointer (some ⟨y, 0, none⟩), .agg (nvA s)] w fun e w' => e = .returned (.bool true) ∧ Chg T w w' ∧ Np B x y A (N + 1) (Tn T w w') w' := by
  have hTF : ¬ T w.heap.size := fun q => by have := (h.lt _ q).2; omega
  have hFl : w.heap.size < (w.alloc (.cells (nvA s) 35)).heap.size := by simp
  have hal : Below w.heap.size w (w.alloc (.cells (nvA s) 35)) := Below.al w _
  have hPb := h.below hal
  have hxb := hx.next (hal.mono h.leB)
  have z0 : (w.alloc (.cells (nvA s) 35)).cell? ⟨w.heap.size, 0, none⟩ = some (.int .i64 s.act) := by rw [box_at]; rfl
  have z1 : (w.alloc (.cells (nvA s) 35)).cell? ⟨w.heap.size, 1, none⟩ = some (.int .i64 s.a) := by rw [box_at]; rfl
  have z2 : (w.alloc (.cells (nvA s) 35)).cell? ⟨w.heap.size, 2, none⟩ = some (.int .i64 s.b) := by rw [box_at]; rfl
  have z3 : (w.alloc (.cells (nvA s) 35)).cell? ⟨w.heap.size, 3, none⟩ = some (.slice s.ad s.data.length s.cd) := by rw [box_at]; rfl
  obtain ⟨act, a, b, data, ad, cd⟩ := s
  obtain ⟨xrd, la, lb, ld⟩ := hxb
  simp only [] at *
  subst ha
  unfold nvA at *
  simp only [] at *
  generalize hwb : w.alloc (.cells #[.int .i64 0, .int .i64 a, .int .i64 b, .slice ad data.length cd] 35) = wb at *
  have hF : Hid _ := And.intro h hal
  clear h hal hx
  go_enter Try.func11, Try.ntmps11
  go_wp2_with fail
  generalize hF0 : w.heap.size = F at *
  clear hwb
  have hBw : B ≤ F := by have := hF.out.1.leB; omega
  have hTH : ¬ T wb.heap.size := fun q => by have := (hPb.lt _ q).2; omega
  have a0 : (wb.alloc (.cells #[.slice none 0 0, .int .i64 0] 65)).cell? ⟨wb.heap.size, 0, none⟩ = some (.slice none 0 0) := by rw [box_at]; rfl
  have a1 : (wb.alloc (.cells #[.slice none 0 0, .int .i64 0] 65)).cell? ⟨wb.heap.size, 1, none⟩ = some (.int .i64 0) := by rw [box_at]; rfl
  have af0 : (wb.alloc (.cells #[.slice none 0 0, .int .i64 0] 65)).frozen? ⟨wb.heap.size, 0, none⟩ = false := World.frozen?_alloc_at _ _ _ _ rfl
  have af1 : (wb.alloc (.cells #[.slice none 0 0, .int .i64 0] 65)).frozen? ⟨wb.heap.size, 1, none⟩ = false := World.frozen?_alloc_at _ _ _ _ rfl
  have hal2 : Below wb.heap.size wb (wb.alloc (.cells #[.slice none 0 0, .int .i64 0] 65)) := Below.al wb _
  have y1 : (wb.alloc (.cells #[.slice none 0 0, .int .i64 0] 65)).cell? ⟨F, 1, none⟩ = some (.int .i64 a) := by rw [hal2.cell hFl]; exact z1
  have y2 : (wb.alloc (.cells #[.slice none 0 0, .int .i64 0] 65)).cell? ⟨F, 2, none⟩ = some (.int .i64 b) := by rw [hal2.cell hFl]; exact z2
  have y3 : (wb.alloc (.cells #[.slice none 0 0, .int .i64 0] 65)).cell? ⟨F, 3, none⟩ = some (.slice ad data.length cd) := by rw [hal2.cell hFl]; exact z3
  have hPl := hPb.below hal2
  have hal3 := hal2.mono (show B ≤ wb.heap.size by omega)
  have hHl : wb.heap.size < (wb.alloc (.cells #[.slice none 0 0, .int .i64 0] 65)).heap.size := by simp
  generalize wb.alloc (.cells #[.slice none 0 0, .int .i64 0] 65) = wl at *
  generalize hHe : wb.heap.size = H at *
  have hFH : ¬ F = H := by omega
  have hBH : B ≤ H := by omega
  go_region_held3 (fun w' => w'.cell? ⟨F, 1, none⟩ = some (.int .i64 a) ∧ w'.cell? ⟨F, 2, none⟩ = some (.int .i64 b) ∧ w'.cell? ⟨F, 3, none⟩ = some (.slice ad data.length cd)) (go_keep) (first
    | (go_at_call 24; refine (nlend_step (hPl.below (nbel_dN wl _)) hTH hBH (fun W hW => xrd W (hal3.trans (((nbel_dN wl _).mono (by omega)).trans hW))) ld a0 a1 af0 af1).mono ?_; rintro e w1 ⟨p1, rfl, hp1, hl1, hc1, hP1, hs1⟩; have u1 := box_cell (i := 1) hc1 hFH (Nat.lt_trans hFl hHl) y1; have u2 := box_cell (i := 2) hc1 hFH (Nat.lt_trans hFl hHl) y2; have u3 := box_cell (i := 3) hc1 hFH (Nat.lt_trans hFl hHl) y3; have hB1 : Below B wb w1 := hal3.trans (((nbel_dN wl _).mono (by omega)).trans (hc1.below (fun b q => by omega) (by show B ≤ wl.heap.size; omega))))
    | (go_at_call 14; refine (send_pair hP1 (by omega) a b hp1 (fun W hW => xrd W (hB1.trans hW)) ld).mono ?_; rintro e w2 ⟨i1, e1, rfl, hc2, hnext⟩; have hs1' : wl.heap.size < w1.heap.size := hs1; have t1 := box_cell (i := 1) hc2 hTF (by omega) u1; have t2 := box_cell (i := 2) hc2 hTF (by omega) u2; have t3 := box_cell (i := 3) hc2 hTF (by omega) u3)
    | fail)
  go_wp2_with fail
  refine (hnext _ (Below.refl _ _)).mono ?_
  rintro e w3 ⟨rfl, hc3, hP3⟩
  have s3 := box_cell (i := 3) hc3 hTF (by omega) u3
  have hl3 := nLst_chg hl1 hc3 hTH (fun q => by have := (hPl.lt _ q).2; have e : (wl.drewN 1).heap.size = wl.heap.size := rfl; omega)
  have hB3 := hB1.trans (hP1.chg hc3)
  go_wp2_with fail
  refine (nnum_any _ _).mono ?_
  rintro e w9 ⟨rfl, rfl⟩
  go_wp2_with fail
  refine (back_new (B := B) hl3 (fun W hW => xrd W (hB3.trans hW)) (by omega) hBH).mono ?_
  rintro e w4 ⟨rfl, hg4, hb4⟩
  have hc4 : Chg (fun b => b = wl.heap.size) w9 w4 := Chg.of_grown hg4 (fun c e _ => (Option.some.inj e).symm)
  go_wp2_with fail
  go_ret
  have hbw1 : Below F w w1 := hF.out.2.trans ((hal2.mono (by omega)).trans (((nbel_dN wl _).mono (by omega)).trans (hc1.below (fun b q => by omega) (by show F ≤ wl.heap.size; omega))))
  exact ⟨by simp, hF.out.1.fin2 (by rw [hF0]; exact hbw1) hc3 hP3 hc4 (by omega) hs1'⟩
end
end Go.Proofs.Ytpieehbikmmifaa

/- one: a step of both nets, and what they answer is the same: Copy. -/
namespace Go.Proofs.Ytpieehbikmmifaa
open Go.RowKit
set_option linter.unusedVariables false
set_option maxRecDepth 100000

section
variable {B x y A N : Nat} {T : Nat → Prop} {w : World} {s : NV}

set_option maxHeartbeats 2000000 in
theorem none_copy (h : Np B x y A N T w) (hN : N ≤ 1048575000) (hx : NFit B s w) (ha : s.act = 3) :
    Calls Try.prog 11 #[.pointer (some ⟨x, 0, none⟩), .pointer (some ⟨y, 0, none⟩), .agg (nvA s)] w fun e w' => e = .returned (.bool true) ∧ Chg T w w' ∧ Np B x y A (N + 1) (Tn T w w') w' := by
  have hTF : ¬ T w.heap.size := fun q => by have := (h.lt _ q).2; omega
  have hFl : w.heap.size < (w.alloc (.cells (nvA s) 35)).heap.size := by simp
  have hal : Below w.heap.size w (w.alloc (.cells (nvA s) 35)) := Below.al w _
  have hPb := h.below hal
  have hxb := hx.next (hal.mono h.leB)
  have z0 : (w.alloc (.cells (nvA s) 35)).cell? ⟨w.heap.size, 0, none⟩ = some (.int .i64 s.act) := by rw [box_at]; rfl
  have z1 : (w.alloc (.cells (nvA s) 35)).cell? ⟨w.heap.size, 1, none⟩ = some (.int .i64 s.a) := by rw [box_at]; rfl
  have z2 : (w.alloc (.cells (nvA s) 35)).cell? ⟨w.heap.size, 2, none⟩ = some (.int .i64 s.b) := by rw [box_at]; rfl
  have z3 : (w.alloc (.cells (nvA s) 35)).cell? ⟨w.heap.size, 3, none⟩ = some (.slice s.ad s.data.length s.cd) := by rw [box_at]; rfl
  obtain ⟨act, a, b, data, ad, cd⟩ := s
  obtain ⟨xrd, la, lb, ld⟩ := hxb
  simp only [] at *
  subst ha
  unfold nvA at *
  simp only [] at *
  generalize hwb : w.alloc (.cells #[.int .i64 3, .int .i64 a, .int .i64 b, .slice ad data.length cd] 35) = wb at *
  have hF : Hid _ := And.intro h hal
  clear h hal hx
  go_enter Try.func11, Try.ntmps11
  go_wp2_with fail
  generalize hF0 : w.heap.size = F at *
  clear hwb
  refine (copy_pair hPb (by omega) a).mono ?_
  rintro e w1 ⟨i1, e1, rfl, hc1, hnext⟩
  have y1 := box_cell (i := 1) hc1 hTF hFl z1
  go_wp2_with fail
  refine (hnext _ (Below.refl _ _)).mono ?_
  rintro e w2 ⟨rfl, hc2, hP2⟩
  go_wp2_with fail
  refine (nnum_any _ _).mono ?_
  rintro e w3 ⟨rfl, rfl⟩
  go_wp2_with fail
  go_ret
  exact ⟨by simp, hF.out.1.fin (by rw [hF0]; exact hF.out.2) hc2 hP2⟩
end
end Go.Proofs.Ytpieehbikmmifaa

/- one, for every step; two new nets side by side. -/
namespace Go.Proofs.Ytpieehbikmmifaa
open Go.RowKit
set_option linter.unusedVariables false
set_option maxRecDepth 100000

section
variable {B x y A N : Nat} {T : Nat → Prop} {w : World} {s : NV}
theorem none_any (h : Np B x y A N T w) (hN : N ≤ 1048575000) (hx : NFit B s w) :
    Calls Try.prog 11 #[.pointer (some ⟨x, 0, none⟩), .pointer (some ⟨y, 0, none⟩), .agg (nvA s)] w fun e w' => e = .returned (.bool true) ∧ Chg T w w' ∧ Np B x y A (N + 1) (Tn T w w') w' := by
  by_cases e0 : s.act = 0
  · exact none_send h hN hx e0
  by_cases e1 : s.act = 1
  · exact none_deliver h hN hx e1
  by_cases e2 : s.act = 2
  · exact none_drop h hN hx e2
  by_cases e3 : s.act = 3
  · exact none_copy h hN hx e3
  by_cases e4 : s.act = 4
  · exact none_cut h hN hx e4
  by_cases e5 : s.act = 5
  · exact none_join h hN hx e5
  by_cases e6 : s.act = 6
  · exact none_heal h hN hx e6
  exact none_look h hN hx (fun k hk e => by omega)
theorem Nt.low {B' last n : Nat} {S : Nat → Prop} {M : List Pk} {C : Ct} (h : Nt B' x A last n S M C w) (hB : B ≤ B') : Nt B x A last n S M C w := by
  obtain ⟨uv, P, m, D, e, h⟩ := h
  exact ⟨uv, P, m, D, e, h.cell, nrow_low h.row hB, h.data, h.map, h.cut, h.sx, h.sm, h.xm, h.sf, h.sd, fun b hb => ⟨Nat.le_trans hB (h.lo b hb).1, (h.lo b hb).2⟩⟩
theorem Rn.low {B' nx : Nat} {S : Nat → Prop} {M : List Pk} {O : List Of} (h : Rn B' y A nx S M O w) (hB : B ≤ B') : Rn B y A nx S M O w := by
  obtain ⟨lv, ov, Q, e, h⟩ := h
  exact ⟨lv, ov, Q, e, h.cell, nrow_low h.row hB, h.data, nrow_low h.off hB, h.sy, h.sl, h.so, h.sd, fun b hb => ⟨Nat.le_trans hB (h.lo b hb).1, (h.lo b hb).2⟩⟩
theorem Np.make {Sx Sy : Nat → Prop} (hx : Nt B x A 0 0 Sx [] noC w) (hy : Rn B y A 1 Sy [] [] w) (ha : A ≤ 64) (hap : ∀ b, Sx b → ¬ Sy b) (t1 : ∀ b, Sx b ∨ Sy b → T b) (t2 : ∀ b, T b → B ≤ b ∧ b < w.heap.size) : Np B x y A 0 T w :=
  ⟨0, 0, Sx, Sy, [], noC, [], hx, hy, InvM.nil A 0, Co.nil, List.Pairwise.nil, ha, Nat.le_refl _, Nat.le_refl _, Nat.le_refl _, hap, t1, t2⟩
end
theorem NFit.of {B : Nat} {w0 wr : World} {a : Addr} {s : NV} (h : NStepAt w0 a s) (hs : s.data.length ≤ 1048576) (hB : w0.heap.size ≤ B) (hb : Below B w0 wr) : NFit B s wr :=
  ⟨fun W hW => h.rd.below (hb.trans hW) hB, h.la, h.lb, hs⟩
end Go.Proofs.Ytpieehbikmmifaa

/- Proved here: NetPlays answers true for every number and every list of steps, where what is read is of bulk at most 1048576: every row of calls answers as the document's net does, and leaves the same messages under way. -/
namespace Go.Proofs.Ytpieehbikmmifaa
open Go.ChangeShapes Go.WideShapes Go.ChangeAt Go.RowKit
set_option linter.unusedVariables false
set_option maxRecDepth 100000

set_option maxHeartbeats 4000000 in
theorem nplays_walk (ac : Int) {v : Value} {xs : List NV} {w : World} (hS : NSteps w v xs) (hl : xs.length ≤ 1048576) (hd : ∀ x ∈ xs, x.data.length ≤ 1048576) :
    Calls Try.prog 3 #[.int .i64 ac, v] w fun e w' => e = .returned (.bool true) ∧ Below w.heap.size w w' := by
  obtain ⟨ao, c, rfl, h1, h2, h4⟩ := hS
  unfold maxLen at h2
  by_cases hac : 1 ≤ ac ∧ ac ≤ 64
  · obtain ⟨A, rfl⟩ : ∃ A : Nat, ac = (A : Int) := ⟨ac.toNat, by omega⟩
    go_enter Try.func3, Try.ntmps3
    go_wp2_with fail
    refine (nawake_any _).mono ?_
    rintro e w0 ⟨rfl, hb0⟩
    have hB0 : w.heap.size ≤ w0.heap.size := hb0.size
    go_wp2_with fail
    refine (netNew_ok A (by omega) (by omega) w0).mono ?_
    rintro e w1 ⟨x, rfl, hN1, hb1⟩
    go_wp2_with fail
    refine (rnetNew_ok A (by omega) (by omega) w1).mono ?_
    rintro e w2 ⟨rfl, hR2, hb2, hz2⟩
    have hz1 := hb1.size
    have hP0 : Np w0.heap.size x w1.heap.size A 0 (fun b => w0.heap.size ≤ b ∧ b < w2.heap.size) w2 := Np.make (hN1.below hb2) (hR2.low hz1) (by omega) (fun b q1 q2 => by have := (hN1.lt b q1).2; omega) (fun b q => by
      rcases q with q | q
      · have := hN1.lt b q; omega
      · omega) (fun b q => q)
    have hbP : Below w0.heap.size w0 w2 := hb1.trans (hb2.mono hz1)
    clear hN1 hR2 hb1 hb2 hz2 hz1
    generalize w1.heap.size = y at *
    go_wp2_with fail
    refine (nnum_any _ _).mono ?_
    rintro e w9 ⟨rfl, rfl⟩
    go_wp2_with fail
    go_loopw [9] (fun i wr => ∃ (k : Nat) (T : Nat → Prop), k ≤ xs.length ∧ i = .int .i64 k ∧ Np w0.heap.size x y A k T wr ∧ Below w0.heap.size w0 wr) (fun i _ => xs.length - (intOf i).toNat)
    case atStart => exact ⟨0, _, by omega, rfl, hP0, hbP⟩
    case round =>
      obtain ⟨k, T, hk, rfl, hPr, hb⟩ := hrel
      by_cases hlt : k < xs.length
      · obtain ⟨a, rfl, hst⟩ := h4 k hlt
        have hdk := hd xs[k] (List.getElem_mem hlt)
        have hst0 := hst.below hb0
        have hstr := hst0.below hb
        have hone := none_any (N := k) hPr (by omega) (NFit.of hst0 hdk (Nat.le_refl _) hb)
        generalize xs[k] = s at *
        obtain ⟨g0, g1, g2, g3, _, _, _⟩ := hstr
        obtain ⟨act, sa, sb, data, ad, cd⟩ := s
        unfold nvA at hone
        simp only [] at *
        clear h4 hst hst0
        replace g0 : wr.cell? (a.add (k * 4)) = some (.int .i64 act) := g0
        replace g1 : wr.cell? ⟨(a.add (k * 4)).block, (a.add (k * 4)).off + 1, none⟩ = some (.int .i64 sa) := g1
        replace g2 : wr.cell? ⟨(a.add (k * 4)).block, (a.add (k * 4)).off + 2, none⟩ = some (.int .i64 sb) := g2
        replace g3 : wr.cell? ⟨(a.add (k * 4)).block, (a.add (k * 4)).off + 3, none⟩ = some (.slice ad data.length cd) := g3
        go_wp2_with fail
        refine hone.mono ?_
        rintro e w3 ⟨rfl, hc3, hP3⟩
        go_wp2_with fail
        exact ⟨⟨k + 1, _, by omega, by go_num, hP3, hb.trans (hPr.chg hc3)⟩, by simp [intOf]; omega⟩
      · obtain rfl : k = xs.length := by omega
        have hle := hPr.leB
        go_wp2_with fail
        refine (nlook_any hPr).mono ?_
        rintro e w3 ⟨rfl, hb3⟩
        go_wp2_with fail
        go_ret
        exact ⟨rfl, Below.tr hb0 (hb.trans (hb3.mono hle))⟩
  · go_enter Try.func3, Try.ntmps3
    go_wp2_with fail
    refine (nawake_any _).mono ?_
    rintro e w0 ⟨rfl, hb0⟩
    go_wp2_with fail
    refine (netNew_no ac hac w0).mono ?_
    rintro e w1 ⟨rfl, rfl⟩
    go_wp2_with fail
    refine (rnetNew_no ac hac w1).mono ?_
    rintro e w2 ⟨rfl, rfl⟩
    go_wp2_with fail
    refine (nnum_any _ _).mono ?_
    rintro e w9 ⟨rfl, rfl⟩
    go_wp2_with fail
    go_ret
    exact ⟨rfl, hb0⟩
end Go.Proofs.Ytpieehbikmmifaa
