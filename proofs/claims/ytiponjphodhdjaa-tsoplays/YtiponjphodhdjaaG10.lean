/- The statement TsoPlays, walked. -/
import Derived.Test.YtiponjphodhdjaaG9
import Derived.Test.YtiponjphodhdjaaG7
import Derived.Test.YtiponjphodhdjaaG8
namespace Go.Proofs.Ytiponjphodhdjaa
open Go.RowKit
set_option linter.unusedVariables false
set_option maxRecDepth 100000

theorem box2 {W : World} {u0 u1 : Value} {t : TypeId} {g : Nat} (h : W.heap[g]? = some (.cells #[u0, u1] t (0, 0))) : W.cell? ⟨g, 0, none⟩ = some u0 ∧ W.cell? ⟨g, 1, none⟩ = some u1 :=
  ⟨by rw [cell_of_row _ _ _ _ _ _ h]; rfl, by rw [cell_of_row _ _ _ _ _ _ h]; rfl⟩
/-- Both oracles, side by side, and a step's own block. -/
structure TwoO (w : World) (x c y l m : Nat) (wr : World) : Prop where
  o : Orc x c l m wr
  d : Ord y l m wr
  b : Below w.heap.size w wr
theorem TwoO.alloc {w wr : World} {x c y l m : Nat} (h : TwoO w x c y l m wr) (u : Obj) : TwoO w x c y l m (wr.alloc u) := by
  have hc : Chg (fun _ => False) wr (wr.alloc u) := (Chg.refl _ wr).alloc u
  exact ⟨h.o.next hc id id, h.d.next hc id, h.b.alloc h.b.size u⟩
theorem TwoO.drewN {w wr : World} {x c y l m : Nat} (h : TwoO w x c y l m wr) (n : Nat) : TwoO w x c y l m (wr.drewN n) := ⟨h.o.drewN n, h.d.drewN n, below_drewN h.b n⟩
/-- The step's cells stand while an oracle turns. -/
theorem step_kept {g x : Nat} {W W' : World} {u0 u1 : Value} (h : W.heap[g]? = some (.cells #[u0, u1] 30 (0, 0))) (hc : Chg (fun b => b = x) W W') (hx : g ≠ x) : W'.heap[g]? = some (.cells #[u0, u1] 30 (0, 0)) := by
  rw [hc.block g (Array.getElem?_eq_some_iff.1 h).1 hx]; exact h

set_option maxHeartbeats 4000000 in
theorem plays_walk {v0 : Value} {w : World} {N : Nat} (n : Nat) (hn : n ≤ 18446744073709551615) (hL : Tsps w v0 N) (hN : N ≤ 8796093021952) :
    Calls Try.prog 3 #[.int .u64 (n : Int), v0] w fun r w' => r = .returned (.bool true) ∧ Below w.heap.size w w' := by
  obtain ⟨a0, cp, rfl, hL1, hL2, hL4⟩ := hL
  have HL : Hid (∀ i, i < N → ∃ d p ad, a0 = some ad ∧ TsAt w (ad.add (i * 2)) d p) := hL4
  clear hL4 hL1 hL2
  obtain ⟨b, hb60, hble⟩ := mask60 n hn
  have haw := tsawake_any w
  go_enter Try.func3, Try.ntmps3
  go_wp2_with fail
  refine haw.mono ?_
  rintro r wa ⟨rfl, hba⟩
  have hnew := tnew_any b (by omega) wa
  clear haw
  go_wp2_with fail
  refine hnew.mono ?_
  rintro r wb ⟨x, c, rfl, ho0, hx0, hc0, hbb⟩
  have hsz : w.heap.size ≤ wa.heap.size := hba.size
  have hx : w.heap.size ≤ x := by omega
  have hB : Below w.heap.size w wb := Below.tr hba hbb
  have hnew2 := rtnew_any b (by omega) wb
  clear hnew hbb hba hx0 hc0
  go_wp2_with fail
  refine hnew2.mono ?_
  rintro r wc ⟨y, rfl, hd0, hy0, hbc⟩
  have hsz2 : w.heap.size ≤ wb.heap.size := hB.size
  have hy : w.heap.size ≤ y := by omega
  have hT0 : TwoO w x c y b b wc := ⟨ho0.next (Chg.of_below hbc) (by have := ho0.lt; omega) (by have := ho0.lt; omega), hd0, Below.tr hB hbc⟩
  have hxy := (hT0.o.ned hT0.d).1
  have hcy := (hT0.o.ned hT0.d).2
  clear hnew2 hbc hB ho0 hd0 hy0 hsz hsz2
  go_wp2_with fail
  go_loopw [7, 8, 9, 10, 11, 12, 13, 14, 15, 16, 17] (fun i _ _ _ _ _ _ _ _ _ _ wr => ∃ k l m : Nat, k ≤ N ∧ i = .int .i64 k ∧ TwoO w x c y l m wr ∧ m ≤ 1152921504606846975 + k * 4000) (fun i _ _ _ _ _ _ _ _ _ _ _ => N - (intOf i).toNat)
  case atStart => exact ⟨0, b, b, Nat.zero_le _, rfl, hT0, by omega⟩
  case round =>
    obtain ⟨k, l, m, hk, rfl, hT, hm⟩ := hrel
    clear hT0
    by_cases hlt : k < N
    · have q1 : (k : Int) < (N : Int) := by omega
      obtain ⟨d, p, ad, rfl, hst⟩ := HL.out k hlt
      obtain ⟨y0, y1, hp⟩ := hst.below hT.b (Nat.le_refl _)
      have hwr : IntKind.i64.wrap ((k : Int) + 1) = ((k + 1 : Nat) : Int) := by rw [IntKind.wrap_i64]; omega
      have hnw := heap_alloc_new wr (.cells #[.int .i64 d, .int .i64 p] 30)
      have hT1 := hT.alloc (.cells #[.int .i64 d, .int .i64 p] 30)
      obtain ⟨x0, x1⟩ := box2 hnw
      have hxl : wr.heap.size ≠ x := by have := hT.o.lt; omega
      have hyl : wr.heap.size ≠ y := by have := hT.d.lt; omega
      clear hst hT
      by_cases hd0 : d = 0
      · subst hd0
        have htk := take_any hT1.o p
        go_wp2_with fail
        refine htk.mono ?_
        rintro r w1 ⟨rfl, ho1, hc1⟩
        have hn1 := step_kept hnw hc1 hxl
        have hdd1 := hT1.d.next hc1 (fun e => hxy e.symm)
        have hb1 := chg_bel hT1.b hc1 hx (Nat.le_refl _)
        obtain ⟨z0, z1⟩ := box2 hn1
        have hrt := rtake_any hdd1 p
        clear x0 x1 y0 y1 hnw htk hc1 hT1
        go_wp2_with fail
        refine hrt.mono ?_
        rintro r w2 ⟨rfl, hd2, hc2⟩
        have hT2 : TwoO w x c y (tkL l m p) m w2 := ⟨ho1.next hc2 hxy hcy, hd2, chg_bel hb1 hc2 hy (Nat.le_refl _)⟩
        have hnum := tnum_any (tkN l m p) w2
        obtain ⟨r0, r1, rz⟩ := hd2.cells
        clear z0 z1 hn1 hrt hc2 ho1 hdd1 hb1 hd2
        go_wp2_with fail
        refine hnum.mono ?_
        rintro r w3 ⟨rfl, rfl⟩
        go_wp2_with fail
        go_quiet (first | (go_at_call 16; refine Calls.quiet_of_same (v := .int .u64 (tkL l m p : Int)) (last_any (hT2.o.drewN _))) | (go_at_call 17; refine Calls.quiet_of_same (v := .int .u64 (m : Int)) (limit_any (hT2.o.drewN _))) | fail)
        go_wp2_with fail
        exact ⟨⟨k + 1, tkL l m p, m, by omega, by go_num, hT2.drewN _, by omega⟩, by simp [intOf]; omega⟩
      · by_cases hd1 : d = 1
        · subst hd1
          have htk := wantc_any hT1.o p
          go_wp2_with fail
          refine htk.mono ?_
          rintro r w1 ⟨rfl, ho1, hc1⟩
          have hn1 := step_kept hnw hc1 hxl
          have hdd1 := hT1.d.next hc1 (fun e => hxy e.symm)
          have hb1 := chg_bel hT1.b hc1 hx (Nat.le_refl _)
          obtain ⟨z0, z1⟩ := box2 hn1
          have hrt := rwant_any hdd1 p
          clear x0 x1 y0 y1 hnw htk hc1 hT1
          go_wp2_with fail
          refine hrt.mono ?_
          rintro r w2 ⟨rfl, hd2, hc2⟩
          have hT2 : TwoO w x c y l m w2 := ⟨ho1.next hc2 hxy hcy, hd2, chg_bel hb1 hc2 hy (Nat.le_refl _)⟩
          obtain ⟨r0, r1, rz⟩ := hd2.cells
          clear z0 z1 hn1 hrt hc2 ho1 hdd1 hb1 hd2
          go_wp2_with fail
          go_quiet (first | (go_at_call 16; refine Calls.quiet_of_same (v := .int .u64 (l : Int)) (last_any (hT2.o.drewN _))) | (go_at_call 17; refine Calls.quiet_of_same (v := .int .u64 (m : Int)) (limit_any (hT2.o.drewN _))) | fail)
          go_wp2_with fail
          exact ⟨⟨k + 1, l, m, by omega, by go_num, hT2.drewN _, by omega⟩, by simp [intOf]; omega⟩
        · have hd0b : (d == 0) = false := by rw [beq_eq_false_iff_ne]; exact hd0
          have hd1b : (d == 1) = false := by rw [beq_eq_false_iff_ne]; exact hd1
          by_cases hd2 : d = 2
          · subst hd2
            clear hd0 hd1 hd0b hd1b
            obtain ⟨s0, s1, sz⟩ := hT1.d.cells
            by_cases hpp : 0 ≤ p ∧ p < 4000
            · obtain ⟨j, rfl⟩ := Int.eq_ofNat_of_zero_le hpp.1
              obtain ⟨a, ha, hal⟩ := mask60i (j : Int)
              have g1 : (j : Int) ≥ 0 := by omega
              have g2 : (j : Int) < 4000 := by omega
              go_wp2_with fail
              go_quiet (fail)
              go_wp2_with fail
              have hT3 := hT1.drewN nq
              have hgr := grant_any hT3.o (m + j) (by omega)
              rw [show ((m + j : Nat) : Int) = (m : Int) + (j : Int) from by omega] at hgr
              refine hgr.mono ?_
              rintro r w1 ⟨rfl, ho1, hc1⟩
              have hdd1 := hT3.d.next hc1 (fun e => hxy e.symm)
              have hb1 := chg_bel hT3.b hc1 hx (Nat.le_refl _)
              have hrt := rgrant_any hdd1 (m + j) (by omega)
              rw [show ((m + j : Nat) : Int) = (m : Int) + (j : Int) from by omega] at hrt
              clear x0 x1 y0 y1 hnw hgr hc1 s0 s1 sz
              go_wp2_with fail
              refine hrt.mono ?_
              rintro r w2 ⟨rfl, hd2, hc2⟩
              have hT2 : TwoO w x c y l (max m (m + j)) w2 := ⟨ho1.next hc2 hxy hcy, hd2, chg_bel hb1 hc2 hy (Nat.le_refl _)⟩
              obtain ⟨r0, r1, rz⟩ := hd2.cells
              clear hrt hc2 ho1 hdd1 hb1 hd2
              go_wp2_with fail
              go_quiet (first | (go_at_call 16; refine Calls.quiet_of_same (v := .int .u64 (l : Int)) (last_any (hT2.o.drewN _))) | (go_at_call 17; refine Calls.quiet_of_same (v := .int .u64 ((max m (m + j) : Nat) : Int)) (limit_any (hT2.o.drewN _))) | fail)
              go_wp2_with fail
              exact ⟨⟨k + 1, l, max m (m + j), by omega, by go_num, hT2.drewN _, by omega⟩, by simp [intOf]; omega⟩
            · by_cases hp0 : 0 ≤ p
              · obtain ⟨a, ha, hal⟩ := mask60i p
                have g1 : p ≥ 0 := hp0
                have g2 : decide (p < 4000) = false := decide_eq_false (by omega)
                have wp : IntKind.u64.wrap p = p := by rw [IntKind.wrap_u64]; omega
                go_wp2_with fail
                have hgr := grant_any hT1.o (a) (by omega)
                refine hgr.mono ?_
                rintro r w1 ⟨rfl, ho1, hc1⟩
                have hdd1 := hT1.d.next hc1 (fun e => hxy e.symm)
                have hb1 := chg_bel hT1.b hc1 hx (Nat.le_refl _)
                have hrt := rgrant_any hdd1 (a) (by omega)
                clear x0 x1 y0 y1 hnw hgr hc1 s0 s1 sz
                go_wp2_with fail
                refine hrt.mono ?_
                rintro r w2 ⟨rfl, hd2, hc2⟩
                have hT2 : TwoO w x c y l (max m (a)) w2 := ⟨ho1.next hc2 hxy hcy, hd2, chg_bel hb1 hc2 hy (Nat.le_refl _)⟩
                obtain ⟨r0, r1, rz⟩ := hd2.cells
                clear hrt hc2 ho1 hdd1 hb1 hd2
                go_wp2_with fail
                go_quiet (first | (go_at_call 16; refine Calls.quiet_of_same (v := .int .u64 (l : Int)) (last_any (hT2.o.drewN _))) | (go_at_call 17; refine Calls.quiet_of_same (v := .int .u64 ((max m (a) : Nat) : Int)) (limit_any (hT2.o.drewN _))) | fail)
                go_wp2_with fail
                exact ⟨⟨k + 1, l, max m (a), by omega, by go_num, hT2.drewN _, by omega⟩, by simp [intOf]; omega⟩
              · obtain ⟨a, ha, hal⟩ := mask60i (IntKind.u64.wrap p)
                have g1 : decide (0 ≤ p) = false := decide_eq_false (by omega)
                go_wp2_with fail
                have hgr := grant_any hT1.o (a) (by omega)
                refine hgr.mono ?_
                rintro r w1 ⟨rfl, ho1, hc1⟩
                have hdd1 := hT1.d.next hc1 (fun e => hxy e.symm)
                have hb1 := chg_bel hT1.b hc1 hx (Nat.le_refl _)
                have hrt := rgrant_any hdd1 (a) (by omega)
                clear x0 x1 y0 y1 hnw hgr hc1 s0 s1 sz
                go_wp2_with fail
                refine hrt.mono ?_
                rintro r w2 ⟨rfl, hd2, hc2⟩
                have hT2 : TwoO w x c y l (max m (a)) w2 := ⟨ho1.next hc2 hxy hcy, hd2, chg_bel hb1 hc2 hy (Nat.le_refl _)⟩
                obtain ⟨r0, r1, rz⟩ := hd2.cells
                clear hrt hc2 ho1 hdd1 hb1 hd2
                go_wp2_with fail
                go_quiet (first | (go_at_call 16; refine Calls.quiet_of_same (v := .int .u64 (l : Int)) (last_any (hT2.o.drewN _))) | (go_at_call 17; refine Calls.quiet_of_same (v := .int .u64 ((max m (a) : Nat) : Int)) (limit_any (hT2.o.drewN _))) | fail)
                go_wp2_with fail
                exact ⟨⟨k + 1, l, max m (a), by omega, by go_num, hT2.drewN _, by omega⟩, by simp [intOf]; omega⟩
          · have hd2b : (d == 2) = false := by rw [beq_eq_false_iff_ne]; exact hd2
            obtain ⟨r0, r1, rz⟩ := hT1.d.cells
            clear hd0 hd1 hd2
            have hT2 := hT1
            go_wp2_with fail
            go_quiet (first | (go_at_call 16; refine Calls.quiet_of_same (v := .int .u64 (l : Int)) (last_any (hT2.o.drewN _))) | (go_at_call 17; refine Calls.quiet_of_same (v := .int .u64 (m : Int)) (limit_any (hT2.o.drewN _))) | fail)
            go_wp2_with fail
            exact ⟨⟨k + 1, l, m, by omega, by go_num, hT2.drewN _, by omega⟩, by simp [intOf]; omega⟩
    · go_wp2_with fail
      go_ret
      exact ⟨rfl, hT.b⟩
end Go.Proofs.Ytiponjphodhdjaa
