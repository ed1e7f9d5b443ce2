/- one: a step of both disks, and what they answer is the same: Write. -/
import Derived.Test.YtkgpgfpclcibmaaG6
import Derived.Test.YtkgpgfpclcibmaaG4
import Derived.Deep.RegionHeld3
import Derived.Test.YtkgpgfpclcibmaaG3
namespace Go.Proofs.Ytkgpgfpclcibmaa
open Go.RowKit
set_option linter.unusedVariables false
set_option maxRecDepth 100000

section
variable {B d r N : Nat} {T : Nat → Prop} {w : World} {x : SV2}

theorem Lst.chg {b g : Nat} {l : List UInt8} {w w' : World} {T : Nat → Prop} (h : Lst b g l w) (hc : Chg T w w') (hb : ¬ T b) (hg : ¬ T g) : Lst b g l w' := by
  have h1 := h.blk.lt
  have h2 := h.lt
  refine ⟨h.lt, ?_, ?_, ?_⟩
  · unfold Blk; rw [hc.block g h1 hg]; exact h.blk
  · rw [World.cell?_of_block (hc.block b (by omega) hb)]; exact h.c0
  · rw [World.cell?_of_block (hc.block b (by omega) hb)]; exact h.c1
theorem lend_step {b : Nat} {v x0 y0 : Value} {l : List UInt8} {W : World} (h : Pr B d r N T W) (hTb : ¬ T b) (hBb : B ≤ b) (hr : RdB B W v l) (hl : l.length ≤ 1048576) (hx : W.cell? ⟨b, 0, none⟩ = some x0) (hy : W.cell? ⟨b, 1, none⟩ = some y0) (fx : W.frozen? ⟨b, 0, none⟩ = false) (fy : W.frozen? ⟨b, 1, none⟩ = false) :
    Calls Try.prog 36 #[.pointer (some ⟨b, 0, none⟩), v] W fun e w1 => ∃ p, e = .returned p ∧ (∀ W', Chg T w1 W' → Rd W' p l) ∧ Lst b W.heap.size l w1 ∧ Chg (fun x => x = b) W w1 ∧ Pr B d r N T w1 ∧ W.heap.size < w1.heap.size := by
  have hbW := World.block_lt_of_cell? W _ hx
  refine (lend_any hr (by omega) hBb hx hy fx fy).mono ?_
  rintro e w1 ⟨rfl, hbl, d0, d1, _, _, hg⟩
  have hc : Chg (fun x => x = b) W w1 := Chg.of_grown hg (fun c e _ => (Option.some.inj e).symm)
  have hTg : ¬ T W.heap.size := fun q => by have := (h.lt _ q).2; omega
  refine ⟨_, rfl, fun W' hW' => ?_, ⟨hbW, hbl, d0, d1⟩, hc, h.next hc (fun c q e => hTb (by rw [← e]; exact q)), hbl.lt⟩
  have hrd := hbl.rd 8 l.length (l.length + 8) (by rw [lent_length]; omega) (by omega) (by unfold maxLen; omega)
  rw [lent_mid] at hrd
  exact hrd.keptC hW' (fun c e q => hTg (by have e : W.heap.size = c := Option.some.inj e; rw [e]; exact q))
theorem Pr.fin2 (h : Pr B d r N T w) {N' g : Nat} {w1 w3 w4 : World} (hb : Below w.heap.size w w1) (hc : Chg T w1 w3) (hP : Pr B d r N' (Tn T w1 w3) w3) (hg : Chg (fun b => b = g) w3 w4) (h1 : w.heap.size ≤ g) (h2 : g < w1.heap.size) : Chg T w w4 ∧ Pr B d r N' (Tn T w w4) w4 := by
  have z1 := hb.size
  have z2 := hc.size
  have z3 := hg.size
  have hB := h.leB
  have hTg : ¬ T g := fun q => by have := (h.lt _ q).2; omega
  have hP4 := hP.next hg (fun b q e => by
    subst e
    rcases q with q | q
    · exact hTg q
    · omega)
  refine ⟨(((Chg.of_below hb).mono (fun b hb q => by omega)).trans (hc.mono (fun b _ q => .inl q))).trans (hg.mono (fun b _ q => .inr (by omega))), hP4.wider (fun b q => ?_) (fun b q => ?_)⟩
  · rcases q with q | q
    · exact .inl q
    · exact .inr ⟨by omega, by omega⟩
  · rcases q with q | q
    · exact ⟨(h.lt b q).1, by have := (h.lt b q).2; omega⟩
    · exact ⟨by omega, q.2⟩

set_option maxHeartbeats 2000000 in
theorem one_write (h : Pr B d r N T w) (hN : N ≤ 1099511626000) (hx : Fit B x w) (ha : x.act = 0) :
    Calls Try.prog 12 #[.pointer (some ⟨d, 0, none⟩), .pointer (some ⟨r, 0, none⟩), .agg (svA x)] w fun e w' => e = .returned (.bool true) ∧ Chg T w w' ∧ Pr B d r (N + 1) (Tn T w w') w' := by
  have hTF : ¬ T w.heap.size := fun q => by have := (h.lt _ q).2; omega
  have hFl : w.heap.size < (w.alloc (.cells (svA x) 32)).heap.size := by simp
  have hal : Below w.heap.size w (w.alloc (.cells (svA x) 32)) := Below.al w _
  have hPb := h.below hal
  have hxb := hx.next (hal.mono h.leB)
  have z0 : (w.alloc (.cells (svA x) 32)).cell? ⟨w.heap.size, 0, none⟩ = some (.int .i64 x.act) := by rw [box_at]; rfl
  have z2 : (w.alloc (.cells (svA x) 32)).cell? ⟨w.heap.size, 2, none⟩ = some (.string x.nm) := by rw [box_at]; rfl
  have z4 : (w.alloc (.cells (svA x) 32)).cell? ⟨w.heap.size, 4, none⟩ = some (.slice x.ad x.data.length x.cd) := by rw [box_at]; rfl
  obtain ⟨act, num, nm, tn, data, ad, cd, keep, ak, ck⟩ := x
  obtain ⟨xrd, xri, l2, l3, ln, lk, ld, lq, kn⟩ := hxb
  simp only [] at *
  subst ha
  unfold svA at *
  simp only [] at *
  generalize hwb : w.alloc (.cells #[.int .i64 0, .int .i64 num, .string nm, .string tn, .slice ad data.length cd, .slice ak keep.length ck] 32) = wb at *
  have hF : Hid _ := And.intro h hal
  clear h hal hx
  go_enter Try.func12, Try.ntmps12
  go_wp2_with fail
  generalize hF0 : w.heap.size = F at *
  clear hwb
  have hBw : B ≤ F := by have := hF.out.1.leB; omega
  have hTH : ¬ T wb.heap.size := fun q => by have := (hPb.lt _ q).2; omega
  have a0 : (wb.alloc (.cells #[.slice none 0 0, .int .i64 0] 84)).cell? ⟨wb.heap.size, 0, none⟩ = some (.slice none 0 0) := by rw [box_at]; rfl
  have a1 : (wb.alloc (.cells #[.slice none 0 0, .int .i64 0] 84)).cell? ⟨wb.heap.size, 1, none⟩ = some (.int .i64 0) := by rw [box_at]; rfl
  have af0 : (wb.alloc (.cells #[.slice none 0 0, .int .i64 0] 84)).frozen? ⟨wb.heap.size, 0, none⟩ = false := World.frozen?_alloc_at _ _ _ _ rfl
  have af1 : (wb.alloc (.cells #[.slice none 0 0, .int .i64 0] 84)).frozen? ⟨wb.heap.size, 1, none⟩ = false := World.frozen?_alloc_at _ _ _ _ rfl
  have hal2 : Below wb.heap.size wb (wb.alloc (.cells #[.slice none 0 0, .int .i64 0] 84)) := Below.al wb _
  have y2 : (wb.alloc (.cells #[.slice none 0 0, .int .i64 0] 84)).cell? ⟨F, 2, none⟩ = some (.string nm) := by rw [hal2.cell hFl]; exact z2
  have y4 : (wb.alloc (.cells #[.slice none 0 0, .int .i64 0] 84)).cell? ⟨F, 4, none⟩ = some (.slice ad data.length cd) := by rw [hal2.cell hFl]; exact z4
  have hPl := hPb.below hal2
  have hal3 := hal2.mono (show B ≤ wb.heap.size by omega)
  have hHl : wb.heap.size < (wb.alloc (.cells #[.slice none 0 0, .int .i64 0] 84)).heap.size := by simp
  generalize wb.alloc (.cells #[.slice none 0 0, .int .i64 0] 84) = wl at *
  generalize hHe : wb.heap.size = H at *
  have hFH : ¬ F = H := by omega
  have hBH : B ≤ H := by omega
  go_region_held3 (fun w' => w'.cell? ⟨F, 2, none⟩ = some (.string nm) ∧ w'.cell? ⟨F, 4, none⟩ = some (.slice ad data.length cd)) (go_keep) (first
    | (go_at_call 36; refine (lend_step (hPl.below (Below.dN wl _)) hTH hBH (fun W hW => xrd W (hal3.trans ((Below.drN (Below.refl B wl) _).trans hW))) ld a0 a1 af0 af1).mono ?_; rintro e w1 ⟨p1, rfl, hp1, hl1, hc1, hP1, hs1⟩; have u2 := box_cell (i := 2) hc1 hFH (Nat.lt_trans hFl hHl) y2; have u4 := box_cell (i := 4) hc1 hFH (Nat.lt_trans hFl hHl) y4; have hB1 : Below B wb w1 := hal3.trans ((Below.drN (Below.refl B wl) _).trans (hc1.below (fun b q => by omega) (by show B ≤ wl.heap.size; omega))))
    | (go_at_call 31; refine (write_pair hP1 hN nm l2 hp1 (fun W hW => xrd W (hB1.trans hW)) (Nat.le_trans ld (by omega))).mono ?_; rintro e w2 ⟨e1, rfl, hc2, hnext⟩; have hs1' : wl.heap.size < w1.heap.size := hs1; have t2 := box_cell (i := 2) hc2 hTF (by omega) u2; have t4 := box_cell (i := 4) hc2 hTF (by omega) u4)
    | fail)
  go_wp2_with fail
  go_region_held3 (fun w' => w'.cell? ⟨F, 2, none⟩ = some (.string nm) ∧ w'.cell? ⟨F, 4, none⟩ = some (.slice ad data.length cd)) (go_keep) (first
    | (go_at_call 17; refine (numD_any _ _).mono ?_; rintro e w9 ⟨rfl, rfl⟩)
    | (go_at_call 37; refine (hnext _ (Below.dN w2 _)).mono ?_; rintro e w3 ⟨rfl, hc3, hP3⟩; have s2 := box_cell (i := 2) hc3 hTF (by omega) u2; have s4 := box_cell (i := 4) hc3 hTF (by omega) u4; have hl3 := hl1.chg hc3 hTH (fun q => by have := (hPl.lt _ q).2; have e : (wl.drewN 1).heap.size = wl.heap.size := rfl; omega); have hB3 := hB1.trans (hP1.chg hc3))
    | (go_at_call 38; refine (back_new (B := B) hl3 (fun W hW => xrd W (hB3.trans hW)) (by omega) hBH).mono ?_; rintro e w4 ⟨rfl, hg4, hb4⟩; have hc4 : Chg (fun b => b = wl.heap.size) w3 w4 := Chg.of_grown hg4 (fun c e _ => (Option.some.inj e).symm); have r2 := box_cell (i := 2) hc4 (by omega) (by have := hc3.size; omega) s2; have r4 := box_cell (i := 4) hc4 (by omega) (by have := hc3.size; omega) s4)
    | fail)
  go_wp2_with fail
  go_ret
  have hbw1 : Below F w w1 := hF.out.2.trans ((hal2.mono (by omega)).trans ((Below.drN (Below.refl F wl) _).trans (hc1.below (fun b q => by omega) (by show F ≤ wl.heap.size; omega))))
  exact ⟨rfl, hF.out.1.fin2 (by rw [hF0]; exact hbw1) hc3 hP3 hc4 (by omega) hs1'⟩
end
end Go.Proofs.Ytkgpgfpclcibmaa

/- one, for every step; two new disks side by side. -/
namespace Go.Proofs.Ytkgpgfpclcibmaa
open Go.RowKit
set_option linter.unusedVariables false
set_option maxRecDepth 100000

section
variable {B d r N : Nat} {T : Nat → Prop} {w : World} {x : SV2}
theorem one_any (h : Pr B d r N T w) (hN : N ≤ 1099511626000) (hx : Fit B x w) :
    Calls Try.prog 12 #[.pointer (some ⟨d, 0, none⟩), .pointer (some ⟨r, 0, none⟩), .agg (svA x)] w fun e w' => e = .returned (.bool true) ∧ Chg T w w' ∧ Pr B d r (N + 1) (Tn T w w') w' := by
  by_cases e0 : x.act = 0
  · exact one_write h hN hx e0
  by_cases e1 : x.act = 1
  · exact one_sync h hN hx e1
  by_cases e2 : x.act = 2
  · exact one_read h hN hx e2
  by_cases e3 : x.act = 3
  · exact one_remove h hN hx e3
  by_cases e4 : x.act = 4
  · exact one_rename h hN hx e4
  by_cases e5 : x.act = 5
  · exact one_arm h hN hx e5
  by_cases e6 : x.act = 6
  · exact one_crash h hN hx e6
  exact one_look h hN hx (fun k hk e => by omega)

theorem Dk.low {B' n sz : Nat} {own : Nat → Option Role} {st : St} {may : Value} {left : Int} (h : Dk B' d n own st sz may left w) (hB : B ≤ B') : Dk B d n own st sz may left w := by
  obtain ⟨m, D, fb, fv, h⟩ := h
  exact ⟨m, D, fb, fv, h.cell, h.map, h.has, h.hasnt, fun nm f e => ⟨(h.file nm f e).1, (h.file nm f e).2.1.mono hB, (h.file nm f e).2.2⟩, h.od, h.om, h.ofl, h.ov, fun b hb => ⟨Nat.le_trans hB (h.lo b hb).1, (h.lo b hb).2⟩⟩

theorem rnew_any (w : World) : Calls Try.prog 11 #[] w fun e w' => e = .returned (.pointer (some ⟨w.heap.size, 0, none⟩)) ∧ Rf w.heap.size w.heap.size (fun b => b = w.heap.size) [] (-1) false w' ∧ Below w.heap.size w w' ∧ w'.heap.size = w.heap.size + 1 := by
  go_enter Try.func11, Try.ntmps11
  go_wp2_with fail
  go_ret
  refine ⟨rfl, ⟨.slice none 0 0, [], rfl, alloc_block _ _, World.ownsRow_nil _ _ _ _, (fun x hx => by cases hx), rfl, (fun b hb => by cases hb), (fun x hx => by cases hx), (fun hb => by cases hb), fun b hb => ⟨Nat.le_of_eq hb.symm, by rw [hb]; simp⟩⟩, Below.al w _, by simp⟩
theorem Rf.low {B' : Nat} {S : Nat → Prop} {L : List Fl} {lf : Int} {dd : Bool} (h : Rf B' r S L lf dd w) (hB : B ≤ B') : Rf B r S L lf dd w := by
  obtain ⟨fv, P, e, h⟩ := h
  exact ⟨fv, P, e, h.cell, ownsRow_low h.row hB, h.data, h.sr, h.sf, h.sd, h.rf, fun b hb => ⟨Nat.le_trans hB (h.lo b hb).1, (h.lo b hb).2⟩⟩
theorem Pr.make {own : Nat → Option Role} {S : Nat → Prop} {left : Int} (hd : Dk B d 0 own (fun _ => none) 0 (alive d) left w) (hr : Rf B r S [] (-1) false w) (hap : ∀ b, own b ≠ none → ¬ S b) (t1 : ∀ b, own b ≠ none ∨ S b → T b) (t2 : ∀ b, T b → B ≤ b ∧ b < w.heap.size) : Pr B d r 0 T w :=
  ⟨0, own, S, [], alive d, left, -1, false, hd, hr, List.Pairwise.nil, by simp [sumL], Nat.le_refl _, Nat.le_refl _, .inl ⟨rfl, rfl, rfl⟩, hap, t1, t2⟩
end

/-- What is known of a step's bounds. -/
def Small (x : SV2) : Prop := x.data.length ≤ 1048576 ∧ x.keep.length ≤ 1048576
theorem Fit.of {B : Nat} {w0 wr : World} {a : Addr} {x : SV2} (h : StepAt2 w0 a x) (hs : Small x) (hB : w0.heap.size ≤ B) (hb : Below B w0 wr) : Fit B x wr :=
  ⟨fun W hW => h.rd.below (hb.trans hW) hB, fun W hW => h.ri.below ((hb.trans hW).mono hB), h.l2, h.l3, h.ln, h.lk, hs.1, hs.2, h.kn⟩
end Go.Proofs.Ytkgpgfpclcibmaa

/- Proved here: DiskTwo answers true for every two lists of steps, where what is read is of bulk at most 1048576: two disks that are used in turn have nothing in common. -/
namespace Go.Proofs.Ytkgpgfpclcibmaa
open Go.ChangeShapes Go.WideShapes Go.ChangeAt Go.RowKit
set_option linter.unusedVariables false
set_option maxRecDepth 100000

theorem pair_other {B d r e v N N' : Nat} {T1 T2 : Nat → Prop} {wr w1 : World} (h1 : Pr B d r N T1 wr) (h2 : Pr B e v N T2 wr) (hT : ∀ b, T1 b → ¬ T2 b) (hc : Chg T1 wr w1) (hP : Pr B d r N' (Tn T1 wr w1) w1) : Pr B e v N T2 w1 ∧ ∀ b, Tn T1 wr w1 b → ¬ T2 b := by
  refine ⟨h2.next hc (fun b q q1 => hT b q1 q), fun b q q2 => ?_⟩
  rcases q with q | q
  · exact hT b q q2
  · have := (h2.lt b q2).2; omega

set_option maxHeartbeats 4000000 in
theorem two_walk {va vb : Value} {xs ys : List SV2} {w : World} (hS : Steps2 w va xs) (hS2 : Steps2 w vb ys) (hl : xs.length ≤ 1048576) (hl2 : ys.length ≤ 1048576) (hd : ∀ x ∈ xs, Small x) (hdb : ∀ x ∈ ys, Small x) :
    Calls Try.prog 4 #[va, vb] w fun e w' => e = .returned (.bool true) ∧ Below w.heap.size w w' := by
  obtain ⟨ao, c, rfl, h1, h2, h4⟩ := hS
  obtain ⟨bo, cb, rfl, j1, j2, j4⟩ := hS2
  unfold maxLen at h2 j2
  go_enter Try.func4, Try.ntmps4
  go_wp2_with fail
  refine (awake_any _).mono ?_
  rintro e w0 ⟨rfl, hb0⟩
  have hB0 : w.heap.size ≤ w0.heap.size := hb0.size
  go_wp2_with fail
  refine (new_any w0).mono ?_
  rintro e w1 ⟨d, own1, rfl, hd1, hb1⟩
  go_wp2_with fail
  refine (new_any w1).mono ?_
  rintro e w2 ⟨d2, own2, rfl, hd2, hb2⟩
  go_wp2_with fail
  refine (rnew_any w2).mono ?_
  rintro e w3 ⟨rfl, hr3, hb3, hz3⟩
  go_wp2_with fail
  refine (rnew_any w3).mono ?_
  rintro e w4 ⟨rfl, hr4, hb4, hz4⟩
  have z1 := hb1.size
  have z2 := hb2.size
  have z3 := hb3.size
  have hP1 : Pr w0.heap.size d w2.heap.size 0 (fun b => (w0.heap.size ≤ b ∧ b < w1.heap.size) ∨ b = w2.heap.size) w4 := Pr.make (((hd1.below hb2).below hb3).below hb4) ((hr3.low (by omega)).below hb4) (fun b q1 q2 => by have := (hd1.lt b q1).2; omega) (fun b q => by
    rcases q with q | q
    · have := hd1.lt b q; omega
    · omega) (fun b q => by omega)
  have hP2 : Pr w0.heap.size d2 w3.heap.size 0 (fun b => (w1.heap.size ≤ b ∧ b < w2.heap.size) ∨ b = w3.heap.size) w4 := Pr.make (((hd2.low z1).below hb3).below hb4) (hr4.low (by omega)) (fun b q1 q2 => by have := (hd2.lt b q1).2; omega) (fun b q => by
    rcases q with q | q
    · have := hd2.lt b q; omega
    · omega) (fun b q => by omega)
  have hbP : Below w0.heap.size w0 w4 := hb1.trans ((hb2.mono z1).trans ((hb3.mono (by omega)).trans (hb4.mono (by omega))))
  have hTT : ∀ b, ((w0.heap.size ≤ b ∧ b < w1.heap.size) ∨ b = w2.heap.size) → ¬ ((w1.heap.size ≤ b ∧ b < w2.heap.size) ∨ b = w3.heap.size) := fun b q q2 => by omega
  clear hd1 hr3 hb1 hb2 hb3 hb4 hz3 hz4 hd2 hr4
  have H0 : Hid _ := And.intro hP1 (And.intro hP2 (And.intro hTT hbP))
  clear hP1 hP2 hTT hbP z1 z2 z3
  generalize hq2 : w2.heap.size = r at *
  generalize hq3 : w3.heap.size = r2 at *
  go_wp2_with fail
  go_loopw [9] (fun i wr => ∃ (k : Nat) (T1 T2 : Nat → Prop), k ≤ max xs.length ys.length ∧ i = .int .i64 k ∧ Pr w0.heap.size d r k T1 wr ∧ Pr w0.heap.size d2 r2 k T2 wr ∧ (∀ b, T1 b → ¬ T2 b) ∧ Below w0.heap.size w0 wr) (fun i _ => max xs.length ys.length - (intOf i).toNat)
  case atStart => exact ⟨0, _, _, by omega, rfl, H0.out.1, H0.out.2.1, H0.out.2.2.1, H0.out.2.2.2⟩
  case round =>
    obtain ⟨k, T1, T2, hk, rfl, hPr, hPs, hT, hb⟩ := hrel
    have hkk : k ≤ 1048576 := by omega
    by_cases hx : k < xs.length
    · obtain ⟨a, rfl, hst⟩ := h4 k hx
      have hdk := hd xs[k] (List.getElem_mem hx)
      have hst0 := hst.below hb0
      have hstr := hst0.below hb
      have hone := one_any (N := k) hPr (by omega) (Fit.of hst0 hdk (Nat.le_refl _) hb)
      generalize xs[k] = x at *
      obtain ⟨g0, g1, g2, g3, g4, g5, _, _, _, _, _, _, _⟩ := hstr
      obtain ⟨act, num, nm, tn, data, ad, cd, keep, ak, ck⟩ := x
      unfold svA at hone
      simp only [] at *
      clear h4 hst hst0
      replace g0 : wr.cell? (a.add (k * 6)) = some (.int .i64 act) := g0
      replace g1 : wr.cell? ⟨(a.add (k * 6)).block, (a.add (k * 6)).off + 1, none⟩ = some (.int .i64 num) := g1
      replace g2 : wr.cell? ⟨(a.add (k * 6)).block, (a.add (k * 6)).off + 2, none⟩ = some (.string nm) := g2
      replace g3 : wr.cell? ⟨(a.add (k * 6)).block, (a.add (k * 6)).off + 3, none⟩ = some (.string tn) := g3
      replace g4 : wr.cell? ⟨(a.add (k * 6)).block, (a.add (k * 6)).off + 4, none⟩ = some (.slice ad data.length cd) := g4
      replace g5 : wr.cell? ⟨(a.add (k * 6)).block, (a.add (k * 6)).off + 5, none⟩ = some (.slice ak keep.length ck) := g5
      by_cases hy : k < ys.length
      · obtain ⟨a2, rfl, hst2⟩ := j4 k hy
        have hdk2 := hdb ys[k] (List.getElem_mem hy)
        have hstw := hst2.below hb0
        generalize ys[k] = y at *
        obtain ⟨act2, num2, nm2, tn2, data2, ad2, cd2, keep2, ak2, ck2⟩ := y
        have hone2 := fun (W : World) (hP : Pr w0.heap.size d2 r2 k T2 W) (hbW : Below w0.heap.size w0 W) => one_any (N := k) hP (by omega) (Fit.of hstw hdk2 (Nat.le_refl _) hbW)
        have hcell := fun (W : World) (hbW : Below w0.heap.size w0 W) => hstw.below hbW
        unfold svA at hone2
        simp only [] at hone2 hcell
        clear j4 hst2 hstw hdk2
        have HH : Hid _ := And.intro hone2 hcell
        clear hone2 hcell
        go_wp2_with fail
        refine hone.mono ?_
        rintro e w5 ⟨rfl, hc5, hP5⟩
        obtain ⟨hQ5, hT5⟩ := pair_other hPr hPs hT hc5 hP5
        have hb5 := hb.trans (hPr.chg hc5)
        obtain ⟨m0, m1, m2, m3, m4, m5, _, _, _, _, _, _, _⟩ := HH.out.2 w5 hb5
        simp only [] at m0 m1 m2 m3 m4 m5
        replace m0 : w5.cell? (a2.add (k * 6)) = some (.int .i64 act2) := m0
        replace m1 : w5.cell? ⟨(a2.add (k * 6)).block, (a2.add (k * 6)).off + 1, none⟩ = some (.int .i64 num2) := m1
        replace m2 : w5.cell? ⟨(a2.add (k * 6)).block, (a2.add (k * 6)).off + 2, none⟩ = some (.string nm2) := m2
        replace m3 : w5.cell? ⟨(a2.add (k * 6)).block, (a2.add (k * 6)).off + 3, none⟩ = some (.string tn2) := m3
        replace m4 : w5.cell? ⟨(a2.add (k * 6)).block, (a2.add (k * 6)).off + 4, none⟩ = some (.slice ad2 data2.length cd2) := m4
        replace m5 : w5.cell? ⟨(a2.add (k * 6)).block, (a2.add (k * 6)).off + 5, none⟩ = some (.slice ak2 keep2.length ck2) := m5
        have hone2 := HH.out.1 w5 hQ5 hb5
        clear hone g0 g1 g2 g3 g4 g5 HH
        go_wp2_with fail
        refine hone2.mono ?_
        rintro e w6 ⟨rfl, hc6, hP6⟩
        obtain ⟨hQ6, hT6⟩ := pair_other (hQ5.more (Nat.le_succ k)) hP5 (fun b q q2 => hT5 b q2 q) hc6 hP6
        go_wp2_with fail
        exact ⟨⟨k + 1, _, _, by omega, by go_num, hQ6, hP6, fun b q q2 => hT6 b q2 q, hb5.trans (hQ5.chg hc6)⟩, by simp [intOf]; omega⟩
      · go_wp2_with fail
        refine hone.mono ?_
        rintro e w5 ⟨rfl, hc5, hP5⟩
        obtain ⟨hQ5, hT5⟩ := pair_other hPr hPs hT hc5 hP5
        clear hone g0 g1 g2 g3 g4 g5
        go_wp2_with fail
        exact ⟨⟨k + 1, _, _, by omega, by go_num, hP5, hQ5.more (Nat.le_succ k), hT5, hb.trans (hPr.chg hc5)⟩, by simp [intOf]; omega⟩
    · by_cases hy : k < ys.length
      · obtain ⟨a2, rfl, hst2⟩ := j4 k hy
        have hdk2 := hdb ys[k] (List.getElem_mem hy)
        have hstw := hst2.below hb0
        generalize ys[k] = y at *
        obtain ⟨act2, num2, nm2, tn2, data2, ad2, cd2, keep2, ak2, ck2⟩ := y
        have hone2 := fun (W : World) (hP : Pr w0.heap.size d2 r2 k T2 W) (hbW : Below w0.heap.size w0 W) => one_any (N := k) hP (by omega) (Fit.of hstw hdk2 (Nat.le_refl _) hbW)
        have hcell := fun (W : World) (hbW : Below w0.heap.size w0 W) => hstw.below hbW
        unfold svA at hone2
        simp only [] at hone2 hcell
        clear j4 hst2 hstw hdk2
        have HH : Hid _ := And.intro hone2 hcell
        clear hone2 hcell
        obtain ⟨m0, m1, m2, m3, m4, m5, _, _, _, _, _, _, _⟩ := HH.out.2 wr hb
        simp only [] at m0 m1 m2 m3 m4 m5
        replace m0 : wr.cell? (a2.add (k * 6)) = some (.int .i64 act2) := m0
        replace m1 : wr.cell? ⟨(a2.add (k * 6)).block, (a2.add (k * 6)).off + 1, none⟩ = some (.int .i64 num2) := m1
        replace m2 : wr.cell? ⟨(a2.add (k * 6)).block, (a2.add (k * 6)).off + 2, none⟩ = some (.string nm2) := m2
        replace m3 : wr.cell? ⟨(a2.add (k * 6)).block, (a2.add (k * 6)).off + 3, none⟩ = some (.string tn2) := m3
        replace m4 : wr.cell? ⟨(a2.add (k * 6)).block, (a2.add (k * 6)).off + 4, none⟩ = some (.slice ad2 data2.length cd2) := m4
        replace m5 : wr.cell? ⟨(a2.add (k * 6)).block, (a2.add (k * 6)).off + 5, none⟩ = some (.slice ak2 keep2.length ck2) := m5
        have hone2 := HH.out.1 wr hPs hb
        clear HH
        go_wp2_with fail
        refine hone2.mono ?_
        rintro e w6 ⟨rfl, hc6, hP6⟩
        obtain ⟨hQ6, hT6⟩ := pair_other hPs hPr (fun b q q2 => hT b q2 q) hc6 hP6
        go_wp2_with fail
        exact ⟨⟨k + 1, _, _, by omega, by go_num, hQ6.more (Nat.le_succ k), hP6, fun b q q2 => hT6 b q2 q, hb.trans (hPs.chg hc6)⟩, by simp [intOf]; omega⟩
      · have hle := hPr.leB
        obtain ⟨n, own, S, L, may, left, lf, dd, hI⟩ := hPr
        obtain ⟨n', own', S', L', may', left', lf', dd', hJ⟩ := hPs
        go_wp2_with fail
        refine (look_any hI (by omega)).mono ?_
        rintro e w5 ⟨rfl, hb5⟩
        have hJ5 := hJ.below hb5
        go_wp2_with fail
        refine (look_any hJ5 (by omega)).mono ?_
        rintro e w6 ⟨rfl, hb6⟩
        go_wp2_with fail
        go_ret
        exact ⟨rfl, Below.tr hb0 (hb.trans ((Below.tr hb5 hb6).mono hle))⟩
end Go.Proofs.Ytkgpgfpclcibmaa
