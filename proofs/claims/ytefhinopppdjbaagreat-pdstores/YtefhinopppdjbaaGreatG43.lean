/- pdqsort and slices.Sort at uint64, of any length. -/
import Derived.Test.YtefhinopppdjbaaGreatG34
import Derived.Test.YtefhinopppdjbaaGreatG40
import Derived.Test.YtefhinopppdjbaaGreatG41
import Derived.Test.YtefhinopppdjbaaGreatG35
import Derived.Test.YtefhinopppdjbaaGreatG42
import Derived.Sort.LotD3
namespace Go.Proofs.YtefhinopppdjbaaGreat
open Go.RowKit Go.Sort
set_option linter.unusedVariables false
set_option maxRecDepth 100000

/-- What pdqsort comes to from a to b: a sorted permutation there. -/
def PdqOk (n : Nat) : Prop := ∀ (B g c : Nat) (d : Array UInt64) (w : World) (a b limit : Nat), Rw B g c d w → a ≤ b → b ≤ d.size → d.size ≤ 1152921504606846976 → limit ≤ 64 → b - a ≤ n → Go.Sort.Below ltU a b d →
  Calls Tryz.prog 27 #[.slice (some ⟨g, 0, none⟩) d.size c, .int .i64 a, .int .i64 b, .int .i64 limit] w fun e w' => e = .returned (.tuple #[]) ∧ (∃ d', Rw B g c d' w' ∧ PermIn a b d d' ∧ SortedIn ltU a b d') ∧ Chg (fun x => x = g) w w'

theorem permIn_size {a b : Nat} {d d' : Array UInt64} (h : PermIn a b d d') : d'.size = d.size := h.1

def IsB (v : Value) : Prop := ∃ b : Bool, v = .bool b
theorem isB (b : Bool) : IsB (.bool b) := ⟨b, rfl⟩
/-- What is left to do at a state of pdqsort's loop: a sorted permutation there is one of the whole. -/
def Goes (a b : Nat) (d : Array UInt64) (lo hi : Nat) (dk : Array UInt64) : Prop := ∀ R, PermIn lo hi dk R → SortedIn ltU lo hi R → PermIn a b d R ∧ SortedIn ltU a b R
theorem Goes.perm {a b : Nat} {d : Array UInt64} {lo hi : Nat} {dk d1 : Array UInt64} (h : Goes a b d lo hi dk) (hp : PermIn lo hi dk d1) : Goes a b d lo hi d1 := fun R h1 h2 => h R (permIn_trans _ _ _ lo hi hp h1) h2

set_option maxHeartbeats 16000000 in
theorem pdq_step (n : Nat) (hIH : PdqOk n) : PdqOk (n + 1) := by
  intro B g c d w a b limit h hab hbs hsz hlm hn hBl
  obtain ⟨z1, z2, z3, z4⟩ := h.sz
  have HIH : Hid _ := hIH
  have HBL : Hid _ := hBl
  clear hIH hBl
  go_enter Tryz.func27, Tryz.ntmps27
  go_wp2_with fail
  go_loopw [1, 2, 3, 8, 9, 10, 11, 12, 13, 14, 15, 16, 17, 18] (fun va vb vl v8 v9 _ _ _ _ _ _ _ _ _ wr => ∃ (lo hi lm : Nat) (dk : Array UInt64), va = .int .i64 lo ∧ vb = .int .i64 hi ∧ vl = .int .i64 lm ∧ IsB v8 ∧ IsB v9 ∧ lo ≤ hi ∧ hi ≤ d.size ∧ hi - lo ≤ n + 1 ∧ lm ≤ 64 ∧ Hid (dk.size = d.size) ∧ Rw B g c dk wr ∧ Hid (Go.Sort.Below ltU lo hi dk) ∧ Hid (Goes a b d lo hi dk) ∧ Chg (fun x => x = g) w wr) (fun va vb _ _ _ _ _ _ _ _ _ _ _ _ _ => (intOf vb).toNat - (intOf va).toNat)
  case atStart => exact ⟨a, b, limit, d, rfl, rfl, rfl, isB _, isB _, hab, hbs, hn, hlm, rfl, h, HBL, fun R h1 h2 => ⟨h1, h2⟩, Chg.refl _ _⟩
  case round =>
    obtain ⟨lo, hi, lm, dk, rfl, rfl, rfl, ⟨wb, rfl⟩, ⟨wp, rfl⟩, hlh, hhs, hln, hlm2, HZ, hk, HB, HG, hch⟩ := hrel
    clear h HBL
    obtain ⟨ln, hln2⟩ : ∃ x, x = hi - lo := ⟨_, rfl⟩
    have e1 : (hi : Int) - (lo : Int) = (ln : Int) := by omega
    by_cases h12 : ln ≤ 12
    · have h12i : (ln : Int) ≤ 12 := by omega
      have hin := uins_any hk lo hi (by rw [HZ.out]; exact hhs) hlh (by rw [HZ.out]; omega)
      rw [HZ.out] at hin
      clear hln2
      go_wp2_with fail
      refine hin.mono ?_
      rintro e w1 ⟨rfl, hw1, hc1⟩
      go_wp2_with fail
      (try simp only [Exit.inBlock, Exit.then])
      refine bodyPost_ret (results_none rfl _ _ _) rfl ?_
      obtain ⟨hP, hS⟩ := insertionSort_holds (lt := ltU) swo_ltU dk lo hi hlh (by rw [HZ.out]; exact hhs)
      exact ⟨rfl, ⟨_, hw1, HG.out _ hP hS⟩, hch.trans (hc1.mono (fun b _ q => .inl q))⟩
    · have h12i : ¬ (ln : Int) ≤ 12 := by omega
      by_cases hl0 : lm = 0
      · subst hl0
        have hhp := uheap_any hk lo hi (by rw [HZ.out]; exact hhs) (by omega) (by rw [HZ.out]; exact hsz)
        rw [HZ.out] at hhp
        clear hln2
        go_wp2_with fail
        refine hhp.mono ?_
        rintro e w1 ⟨rfl, hw1, hc1⟩
        go_wp2_with fail
        (try simp only [Exit.inBlock, Exit.then])
        refine bodyPost_ret (results_none rfl _ _ _) rfl ?_
        obtain ⟨hP, hS⟩ := heapSort_holds (lt := ltU) swo_ltU dk lo hi hlh (by rw [HZ.out]; exact hhs)
        exact ⟨rfl, ⟨_, hw1, HG.out _ hP hS⟩, hch.trans (hc1.mono (fun b _ q => .inl q))⟩
      · have hl0i : ((lm : Int) == 0) = false := by simp; omega
        have h13 : lo + 13 ≤ hi := by omega
        have HLN : Hid _ := hln2
        clear hln2
        have hbk := ubreak_any hk lo hi (by rw [HZ.out]; exact hhs) h13 (by rw [HZ.out]; exact hsz)
        rw [HZ.out] at hbk
        go_upto_if 35 with fail
        go_cut [3] from 19 to 133 (fun s wx => ∃ (l2 : Nat) (d1 : Array UInt64), s = .int .i64 l2 ∧ l2 ≤ 64 ∧ Hid (d1.size = d.size) ∧ Rw B g c d1 wx ∧ Hid (PermIn lo hi dk d1) ∧ Chg (fun x => x = g) w wx)
        case first =>
          cases wb with
          | true =>
            go_wp2_with fail
            go_meet
            exact ⟨lm, dk, rfl, hlm2, HZ, hk, permIn_refl _ _ _, hch⟩
          | false =>
            have el : (lm : Int) - 1 = ((lm - 1 : Nat) : Int) := by omega
            have elw : IntKind.i64.wrap ((lm : Int) - 1) = ((lm - 1 : Nat) : Int) := by rw [IntKind.wrap_i64]; omega
            go_wp2_with fail
            refine hbk.mono ?_
            rintro e w1 ⟨rfl, ⟨d1, hw1, hp1⟩, hc1⟩
            go_wp2_with fail
            go_meet
            exact ⟨lm - 1, d1, by first | rfl | go_num, by omega, by show _ = _; rw [hp1.1]; exact HZ.out, hw1, hp1, hch.trans (hc1.mono (fun b _ q => .inl q))⟩
        case rest =>
        obtain ⟨l2, d1, rfl, hl2, HZ1, hk1, HP1, hch1⟩ := hcut
        clear hk hch hbk
        have hpv := upivot_any hk1 lo hi (by rw [HZ1.out]; exact hhs) h13 (by rw [HZ1.out]; exact hsz)
        rw [HZ1.out] at hpv
        go_wp2_with fail
        refine hpv.mono ?_
        rintro e w2 ⟨⟨pv, hnt, rfl, pv1, pv2, hh2, hk2⟩, hb2⟩
        have hch2 : Chg (fun x => x = g) w w2 := hch1.trans ((Chg.of_below hb2).mono (fun b h1 h2 => .inr (by have := hch1.size; omega)))
        clear hpv hk1 hch1 hb2
        have hrv := urev_any hk2 lo hi (by rw [HZ1.out]; exact hhs) (by omega) (by rw [HZ1.out]; exact hsz)
        rw [HZ1.out] at hrv
        go_upto_if 50 with fail
        go_cut [11, 12] from 19 to 133 (fun s t wx => ∃ (p3 hn3 : Nat) (d2 : Array UInt64), s = .int .i64 p3 ∧ t = .int .i64 hn3 ∧ lo ≤ p3 ∧ p3 < hi ∧ hn3 ≤ 2 ∧ Hid (d2.size = d.size) ∧ Rw B g c d2 wx ∧ Hid (PermIn lo hi dk d2) ∧ Chg (fun x => x = g) w wx)
        case first =>
          by_cases h2 : hnt = 2
          · have h2i : ((hnt : Int) == 2) = true := by simp [h2]
            obtain ⟨p3, hp3⟩ : ∃ x, x = (hi - 1) - (pv - lo) := ⟨_, rfl⟩
            obtain ⟨h1, hh1⟩ : ∃ x, x = hi - 1 := ⟨_, rfl⟩
            obtain ⟨q1, hq1⟩ : ∃ x, x = pv - lo := ⟨_, rfl⟩
            have ea : (hi : Int) - 1 = (h1 : Int) := by omega
            have eb : (pv : Int) - (lo : Int) = (q1 : Int) := by omega
            have ec : (h1 : Int) - (q1 : Int) = (p3 : Int) := by omega
            have hpb : lo ≤ p3 ∧ p3 < hi := by omega
            clear hp3 hh1 hq1
            go_wp2_with fail
            refine hrv.mono ?_
            rintro e w3 ⟨rfl, hw3, hc3⟩
            have hpr := reverseRange_holds d1 lo hi hlh (by rw [HZ1.out]; exact hhs)
            go_wp2_with fail
            go_meet
            exact ⟨p3, 1, _, by first | rfl | go_num, rfl, hpb.1, hpb.2, by omega, by show _ = _; rw [hpr.1]; exact HZ1.out, hw3, permIn_trans _ _ _ lo hi HP1.out hpr, hch2.trans (hc3.mono (fun b _ q => .inl q))⟩
          · have h2i : ((hnt : Int) == 2) = false := by simp; omega
            go_wp2_with fail
            go_meet
            exact ⟨pv, hnt, d1, rfl, rfl, pv1, pv2, hh2, HZ1, hk2, HP1, hch2⟩
        case rest =>
        obtain ⟨p3, hn3, d2, rfl, rfl, p31, p32, hn32, HZ2, hk3, HP2, hch3⟩ := hcut
        clear hk2 hch2 hrv HZ1 HP1
        have hpi := upartial_any hk3 lo hi (by rw [HZ2.out]; exact hhs) (by omega) (by rw [HZ2.out]; exact hsz)
        rw [HZ2.out] at hpi
        have hpih := partialInsertionSort_holds (lt := ltU) swo_ltU d2 lo hi (by omega) (by rw [HZ2.out]; exact hhs) (Go.Sort.Below.perm HB.out (by rw [HZ.out]; exact hhs) HP2.out)
        have HPI : Hid _ := hpih
        clear hpih
        go_upto_region 15 with fail
        go_cut [68] from 19 to 133 (fun s wx => IsB s ∧ Rw B g c d2 wx ∧ Chg (fun x => x = g) w wx)
        case first =>
          cases wb with
          | false =>
            go_wp2_with fail
            go_meet
            exact ⟨isB _, hk3, hch3⟩
          | true =>
            cases wp with
            | false =>
              go_wp2_with fail
              go_meet
              exact ⟨isB _, hk3, hch3⟩
            | true =>
              go_wp2_with fail
              all_goals (go_meet; exact ⟨isB _, hk3, hch3⟩)
        case rest =>
        obtain ⟨⟨t68, rfl⟩, hk4, hch4⟩ := hcut
        have hpi2 := upartial_any hk4 lo hi (by rw [HZ2.out]; exact hhs) (by omega) (by rw [HZ2.out]; exact hsz)
        rw [HZ2.out] at hpi2
        clear hk3 hch3 hpi
        go_upto_if 68 with fail
        go_cut [68] from 19 to 133 (fun s wx => ∃ (d3 : Array UInt64), IsB s ∧ Hid (d3.size = d.size) ∧ Rw B g c d3 wx ∧ Hid (PermIn lo hi dk d3) ∧ Chg (fun x => x = g) w wx)
        case first =>
          cases t68 with
          | false =>
            go_wp2_with fail
            go_meet
            exact ⟨d2, isB _, HZ2, hk4, HP2, hch4⟩
          | true =>
            cases hr : (partialInsertionSort ltU d2 lo hi).2 with
            | true =>
              rw [hr] at hpi2
              have HFN : Hid _ := HG.out _ (permIn_trans _ _ _ lo hi HP2.out HPI.out.1) (HPI.out.2 hr)
              clear hr
              go_wp2_with fail
              refine hpi2.mono ?_
              rintro e w5 ⟨rfl, hw5, hc5⟩
              go_wp2_with fail
              (try simp only [Exit.inBlock, Exit.then])
              refine bodyPost_ret (results_none rfl _ _ _) rfl ?_
              exact ⟨rfl, ⟨_, hw5, HFN.out⟩, hch4.trans (hc5.mono (fun b _ q => .inl q))⟩
            | false =>
              rw [hr] at hpi2
              clear hr
              go_wp2_with fail
              refine hpi2.mono ?_
              rintro e w5 ⟨rfl, hw5, hc5⟩
              go_wp2_with fail
              go_meet
              exact ⟨_, isB _, by show _ = _; rw [HPI.out.1.1]; exact HZ2.out, hw5, permIn_trans _ _ _ lo hi HP2.out HPI.out.1, hch4.trans (hc5.mono (fun b _ q => .inl q))⟩
        case rest =>
        obtain ⟨d3, ⟨t69, rfl⟩, HZ3, hk5, HP3, hch5⟩ := hcut
        clear hk4 hch4 hpi2 HPI HP2 HZ2
        have s1 : IntKind.i64.wrap ((lo : Int) - 1) = ((lo - 1 : Nat) : Int) ∨ lo = 0 := by
          by_cases h0 : lo = 0
          · exact .inr h0
          · left; rw [IntKind.wrap_i64]; omega
        go_upto_region 17 with fail
        go_cut [87] from 19 to 133 (fun s wx => s = .bool (decide (0 < lo) && !ltU d3[lo - 1]! d3[p3]!) ∧ Rw B g c d3 wx ∧ Chg (fun x => x = g) w wx)
        case first =>
          by_cases h0 : 0 < lo
          · have hd1 : decide ((lo : Int) > 0) = true := by simp; omega
            have hd2 : decide (0 < lo) = true := by simp; omega
            have hd3 : decide ((0 : Int) < (lo : Int)) = true := by simp; omega
            have s1' : IntKind.i64.wrap ((lo : Int) - 1) = ((lo - 1 : Nat) : Int) := by rw [IntKind.wrap_i64]; omega
            have s2 : (lo : Int) - 1 = ((lo - 1 : Nat) : Int) := by omega
            have cL := hk5.cell (lo - 1) (by rw [HZ3.out]; omega)
            have cP := hk5.cell p3 (by rw [HZ3.out]; omega)
            have lL : ((lo - 1 : Nat) : Int) < (d.size : Int) := by omega
            have lP : (p3 : Int) < (d.size : Int) := by omega
            clear s1
            generalize hwc : wc = wq at *
            clear hwc wc
            cases hq : ltU d3[lo - 1]! d3[p3]! with
            | true =>
              have hl := less_q wq _ _ true hq
              have HQ : Hid _ := hq
              clear hq
              go_quiet (first | (go_at_call 57; exact hl _) | fail)
              go_wp2_with fail
              go_meet
              exact ⟨by rw [hd2, HQ.out]; rfl, hk5.drewN _, hch5.dq _⟩
            | false =>
              have hl := less_q wq _ _ false hq
              have HQ : Hid _ := hq
              clear hq
              go_quiet (first | (go_at_call 57; exact hl _) | fail)
              go_wp2_with fail
              go_meet
              exact ⟨by rw [hd2, HQ.out]; rfl, hk5.drewN _, hch5.dq _⟩
          · have hd1 : decide ((lo : Int) > 0) = false := by simp; omega
            have hd2 : decide (0 < lo) = false := by simp; omega
            have hd3 : decide ((0 : Int) < (lo : Int)) = false := by simp; omega
            clear s1
            go_quiet (fail)
            go_wp2_with fail
            go_meet
            exact ⟨by rw [hd2]; rfl, hk5.drewN _, hch5.dq _⟩
        case rest =>
        obtain ⟨rfl, hk6, hch6⟩ := hcut
        clear hk5 hch5 s1
        have HB3 : Hid (Go.Sort.Below ltU lo hi d3) := Go.Sort.Below.perm HB.out (by rw [HZ.out]; exact hhs) HP3.out
        have HG3 : Hid (Goes a b d lo hi d3) := HG.out.perm HP3.out
        clear HB HG HP3
        cases hT : (decide (0 < lo) && !ltU d3[lo - 1]! d3[p3]!) with
        | true =>
          have h0 : 0 < lo := by simp only [Bool.and_eq_true, decide_eq_true_eq] at hT; exact hT.1
          have hnl : ltU d3[lo - 1]! d3[p3]! = false := by simp only [Bool.and_eq_true, Bool.not_eq_true'] at hT; exact hT.2
          have hpe := uparteq_any hk6 lo hi p3 (by rw [HZ3.out]; exact hhs) p31 p32 (by rw [HZ3.out]; exact hsz)
          rw [HZ3.out] at hpe
          have HNL : Hid _ := hnl
          clear hT hnl
          go_wp2_with fail
          refine hpe.mono ?_
          rintro e w7 ⟨mid, d4, rfl, hx, hw7, hc7⟩
          obtain ⟨m1, m2, hz4, hB4, hG4⟩ := round_eq swo_ltU (partitionEqual_holds ltU) h0 p31 p32 (by rw [HZ3.out]; exact hhs) HB3.out HNL.out hx
          have HZ4 : Hid (d4.size = d.size) := by show _ = _; rw [hz4]; exact HZ3.out
          have HB4 : Hid (Go.Sort.Below ltU mid hi d4) := hB4
          have HG4 : Hid (Goes a b d mid hi d4) := fun R h1 h2 => HG3.out R (hG4 R h1 h2).1 (hG4 R h1 h2).2
          clear hz4 hB4 hG4 hx
          go_wp2_with fail
          exact ⟨⟨mid, hi, l2, d4, rfl, rfl, rfl, isB _, isB _, by omega, by omega, by omega, hl2, HZ4, hw7, HB4, HG4, hch6.trans (hc7.mono (fun b _ q => .inl q))⟩, by simp [intOf]; omega⟩
        | false =>
          have hpp := upart_any hk6 lo hi p3 (by rw [HZ3.out]; exact hhs) p31 p32 (by rw [HZ3.out]; exact hsz)
          rw [HZ3.out] at hpp
          clear hT
          go_wp2_with fail
          refine hpp.mono ?_
          rintro e w7 ⟨mid, ap, d4, rfl, hx, hw7, hc7⟩
          obtain ⟨m1, m2, hz4, hBa, hBr, hL, hR⟩ := round_part swo_ltU (partition_holds ltU) p31 p32 (by rw [HZ3.out]; exact hhs) HB3.out hx
          have HZ4 : Hid (d4.size = d.size) := by show _ = _; rw [hz4]; exact HZ3.out
          have HBa : Hid (Go.Sort.Below ltU lo mid d4) := hBa
          have HBr : Hid (Go.Sort.Below ltU (mid + 1) hi d4) := hBr
          have HL : Hid _ := hL
          have HR : Hid _ := hR
          have hch7 := hch6.trans (hc7.mono (fun b _ q => .inl q))
          have hl3 := HIH.out B g c d4 w7 lo mid l2 hw7 m1 (by rw [HZ4.out]; omega) (by rw [HZ4.out]; exact hsz) hl2 (by omega) HBa.out
          rw [HZ4.out] at hl3
          obtain ⟨mp, hmp⟩ : ∃ x, x = mid + 1 := ⟨_, rfl⟩
          have hr3 := HIH.out B g c d4 w7 mp hi l2 hw7 (by omega) (by rw [HZ4.out]; omega) (by rw [HZ4.out]; exact hsz) hl2 (by omega) (by rw [hmp]; exact HBr.out)
          rw [HZ4.out] at hr3
          have HMP : Hid _ := hmp
          obtain ⟨x1, hx1⟩ : ∃ x, x = mid - lo := ⟨_, rfl⟩
          obtain ⟨x2, hx2⟩ : ∃ x, x = hi - mid := ⟨_, rfl⟩
          have ea : (mid : Int) - (lo : Int) = (x1 : Int) := by omega
          have eb : (hi : Int) - (mid : Int) = (x2 : Int) := by omega
          have em : (mid : Int) + 1 = (mp : Int) := by omega
          have hmph : mp ≤ hi := by omega
          have hmpl : lo < mp := by omega
          have hmin : hi - mp ≤ n + 1 := by omega
          have hmin2 : mid - lo ≤ n + 1 := by omega
          clear hz4 hBa hBr hL hR hx hpp hx1 hx2 hmp
          by_cases hlt : x1 < x2
          · have hlti : (x1 : Int) < (x2 : Int) := by omega
            clear hr3
            go_wp2_with fail
            refine hl3.mono ?_
            rintro e w8 ⟨rfl, ⟨d5, hw8, hp5, hs5⟩, hc8⟩
            have hl5 := HL.out d5 hp5 hs5
            have HB5 : Hid (Go.Sort.Below ltU mp hi d5) := by show Go.Sort.Below _ _ _ _; rw [HMP.out]; exact hl5.1
            have HG5 : Hid (Goes a b d mp hi d5) := fun R h1 h2 => by
              rw [HMP.out] at h1 h2
              exact HG3.out R (hl5.2 R h1 h2).1 (hl5.2 R h1 h2).2
            have HZ5 : Hid (d5.size = d.size) := by show _ = _; rw [hp5.1]; exact HZ4.out
            clear hl5 hp5 hs5
            go_wp2_with fail
            exact ⟨⟨mp, hi, l2, d5, by first | rfl | go_num, rfl, rfl, isB _, isB _, hmph, hhs, hmin, hl2, HZ5, hw8, HB5, HG5, hch7.trans (hc8.mono (fun b _ q => .inl q))⟩, by simp [intOf]; omega⟩
          · have hlti : ¬ (x1 : Int) < (x2 : Int) := by omega
            clear hl3
            go_wp2_with fail
            refine hr3.mono ?_
            rintro e w8 ⟨rfl, ⟨d5, hw8, hp5, hs5⟩, hc8⟩
            rw [HMP.out] at hp5 hs5
            have hl5 := HR.out d5 hp5 hs5
            have HB5 : Hid (Go.Sort.Below ltU lo mid d5) := hl5.1
            have HG5 : Hid (Goes a b d lo mid d5) := fun R h1 h2 => HG3.out R (hl5.2 R h1 h2).1 (hl5.2 R h1 h2).2
            have HZ5 : Hid (d5.size = d.size) := by show _ = _; rw [hp5.1]; exact HZ4.out
            clear hl5 hp5 hs5
            go_wp2_with fail
            exact ⟨⟨lo, mid, l2, d5, rfl, by first | rfl | go_num, rfl, isB _, isB _, m1, by omega, hmin2, hl2, HZ5, hw8, HB5, HG5, hch7.trans (hc8.mono (fun b _ q => .inl q))⟩, by simp [intOf]; omega⟩

theorem pdq_zero : PdqOk 0 := by
  intro B g c d w a b limit h hab hbs hsz hlm hn hBl
  have hin := uins_any h a b hbs hab (by omega)
  obtain ⟨ln, hln⟩ : ∃ x, x = b - a := ⟨_, rfl⟩
  have e1 : (b : Int) - (a : Int) = (ln : Int) := by omega
  have h12i : (ln : Int) ≤ 12 := by omega
  obtain ⟨hP, hS⟩ := insertionSort_holds (lt := ltU) swo_ltU d a b hab hbs
  clear hln
  go_enter Tryz.func27, Tryz.ntmps27
  go_wp2_with fail
  refine wp_loop_rounds 1 ?_
  rw [rounds_succ]
  go_wp2_with fail
  refine hin.mono ?_
  rintro e w1 ⟨rfl, hr, hc⟩
  go_wp2_with fail
  refine bodyPost_ret (v := .tuple #[]) (by simp [results, Tryz.results27, go_sem]; try rfl) rfl ?_
  exact ⟨rfl, ⟨_, hr, hP, hS⟩, hc⟩
theorem pdq_ok : ∀ n, PdqOk n
  | 0 => pdq_zero
  | n + 1 => pdq_step n (pdq_ok n)

theorem usort_any : SortsTo 1099511627776 := by
  intro B w v l ho hl
  rcases ho.blk with ⟨rfl, rfl⟩ | ⟨g, c, rfl, h1, h2, h3, h4, _⟩
  · go_enter Tryz.func14, Tryz.ntmps14
    go_wp2_with fail
    refine (len_ok 0 w (by omega)).mono ?_
    rintro e w1 ⟨r, hr, rfl, rfl⟩
    go_wp2_with fail
    refine (pdq_nil r _).mono ?_
    rintro e w2 ⟨rfl, rfl⟩
    go_wp2_with fail
    go_end0
    exact ⟨rfl, ⟨[], Ou.nil _ _, .refl _, .nil⟩, Chg.refl _ _⟩
  · have hRw : Rw B g c l.toArray w := by unfold Rw; simpa using ho
    have hsz : l.toArray.size = l.length := by simp
    have hp := fun (r : Nat) (hr : r ≤ 64) => pdq_ok l.length B g c l.toArray w 0 l.toArray.size r hRw (Nat.zero_le _) (Nat.le_refl _) (by rw [hsz]; omega) hr (by rw [hsz]; omega) (.inl rfl)
    rw [hsz] at hp
    unfold maxLen at h2
    go_enter Tryz.func14, Tryz.ntmps14
    go_wp2_with fail
    refine (len_ok l.length w (by omega)).mono ?_
    rintro e w1 ⟨r, hr, rfl, rfl⟩
    go_wp2_with fail
    refine (hp r hr).mono ?_
    rintro e w2 ⟨rfl, ⟨d', hw2, hP, hS⟩, hc2⟩
    go_wp2_with fail
    go_end0
    rw [← hsz] at hP hS
    obtain ⟨q1, q2, q3⟩ := sorted_of hP hS
    refine ⟨rfl, ⟨_, ?_, by simpa using q2, q3⟩, hc2.mono (fun b _ q => by subst q; rfl)⟩
    unfold Rw at hw2
    rw [q1, hsz] at hw2
    exact hw2
end Go.Proofs.YtefhinopppdjbaaGreat
