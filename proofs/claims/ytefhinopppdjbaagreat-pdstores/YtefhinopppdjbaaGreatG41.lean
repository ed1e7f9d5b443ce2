/- partialInsertionSort at uint64. -/
import Derived.Test.YtefhinopppdjbaaGreatG39
namespace Go.Proofs.YtefhinopppdjbaaGreat
open Go.RowKit Go.Sort
set_option linter.unusedVariables false
set_option maxRecDepth 100000

theorem sd_go (j : Nat) (d : Array UInt64) (hj : 0 < j) (h : ltU d[j]! d[j - 1]! = true) : shiftDown ltU j d = shiftDown ltU (j - 1) (swp d j (j - 1)) := by
  obtain ⟨k, rfl⟩ : ∃ k, j = k + 1 := ⟨j - 1, by omega⟩
  rw [Nat.add_sub_cancel] at *
  rw [shiftDown, h]; rfl
theorem sd_stop (j : Nat) (d : Array UInt64) (h : j = 0 ∨ ltU d[j]! d[j - 1]! = false) : shiftDown ltU j d = d := by
  cases j with
  | zero => rw [shiftDown]
  | succ k =>
    rcases h with h | h
    · cases h
    · rw [Nat.add_sub_cancel] at h
      rw [shiftDown, h]; rfl

set_option maxHeartbeats 16000000 in
theorem upartial_any {B g c : Nat} {d : Array UInt64} {w : World} (h : Rw B g c d w) (a b : Nat) (hb : b ≤ d.size) (ha : a < b) (hsz : d.size ≤ 1152921504606846976) :
    Calls Tryz.prog 56 #[.slice (some ⟨g, 0, none⟩) d.size c, .int .i64 a, .int .i64 b] w fun e w' => e = .returned (.bool (partialInsertionSort ltU d a b).2) ∧ Rw B g c (partialInsertionSort ltU d a b).1 w' ∧ Chg (fun x => x = g) w w' := by
  obtain ⟨z1, z2, z3, z4⟩ := h.sz
  unfold partialInsertionSort
  generalize hRP : partialIns ltU a b 5 (a + 1) d = RP
  have HRP : Hid _ := hRP
  clear hRP
  go_enter Tryz.func56, Tryz.ntmps56
  go_wp2_with fail
  go_loopw [7, 8, 9, 10] (fun vi vs _ _ wr => ∃ (st io : Nat) (dk : Array UInt64), vs = .int .i64 st ∧ st ≤ 5 ∧ vi = .int .i64 io ∧ a < io ∧ io ≤ b ∧ Hid (dk.size = d.size) ∧ Rw B g c dk wr ∧ Hid (partialIns ltU a b (5 - st) io dk = RP) ∧ Chg (fun x => x = g) w wr) (fun _ vs _ _ _ => 6 - (intOf vs).toNat)
  case atStart => exact ⟨0, a + 1, d, rfl, by omega, by go_num, by omega, by omega, rfl, h, HRP, Chg.refl _ _⟩
  case round =>
    obtain ⟨st, io, dk, rfl, hst, rfl, hai0, hib0, HZ, hk, HP, hch⟩ := hrel
    clear h HRP
    by_cases hs5 : st < 5
    · go_wp2_with fail
      generalize hWO : wr = wO at *
      clear hWO wr
      go_loopw [7] (fun vi wr => ∃ i : Nat, vi = .int .i64 i ∧ a < i ∧ i ≤ b ∧ Hid (scanSorted ltU dk b i = scanSorted ltU dk b io) ∧ Rw B g c dk wr ∧ Chg (fun x => x = g) w wr) (fun vi _ => b + 1 - (intOf vi).toNat)
      case atStart => exact ⟨io, rfl, by omega, by omega, rfl, hk, hch⟩
      case round =>
        obtain ⟨i, rfl, hai, hib, HI, hki, hci⟩ := hrel
        clear hk hch
        have s1 : IntKind.i64.wrap ((i : Int) - 1) = ((i - 1 : Nat) : Int) := by rw [IntKind.wrap_i64]; omega
        have s2 : (i : Int) - 1 = ((i - 1 : Nat) : Int) := by omega
        go_upto_region 5 with fail
        go_cut [32] from 17 to 34 (fun s wx => s = .bool (decide (i < b) && !ltU dk[i]! dk[i - 1]!) ∧ Rw B g c dk wx ∧ Chg (fun x => x = g) w wx)
        case first =>
          by_cases hij : i < b
          · have hd1 : decide ((i : Int) < (b : Int)) = true := by simp; omega
            have hd2 : decide (i < b) = true := by simp; omega
            have c1 := hki.cell i (by rw [HZ.out]; omega)
            have c2 := hki.cell (i - 1) (by rw [HZ.out]; omega)
            have l1 : (i : Int) < (d.size : Int) := by omega
            have l2 : ((i - 1 : Nat) : Int) < (d.size : Int) := by omega
            cases hq : ltU dk[i]! dk[i - 1]! with
            | true =>
              have hl := less_q wr _ _ true hq
              have HQ : Hid _ := hq
              clear hq
              go_quiet (first | (go_at_call 57; exact hl _) | fail)
              go_wp2_with fail
              go_meet
              exact ⟨by rw [hd2, HQ.out]; rfl, hki.drewN _, hci.dq _⟩
            | false =>
              have hl := less_q wr _ _ false hq
              have HQ : Hid _ := hq
              clear hq
              go_quiet (first | (go_at_call 57; exact hl _) | fail)
              go_wp2_with fail
              go_meet
              exact ⟨by rw [hd2, HQ.out]; rfl, hki.drewN _, hci.dq _⟩
          · have hd1 : decide ((i : Int) < (b : Int)) = false := by simp; omega
            have hd2 : decide (i < b) = false := by simp; omega
            go_quiet (fail)
            go_wp2_with fail
            go_meet
            exact ⟨by rw [hd2]; rfl, hki.drewN _, hci.dq _⟩
        case rest =>
        obtain ⟨rfl, hkc, hcc⟩ := hcut
        clear hki hci
        cases hT : (decide (i < b) && !ltU dk[i]! dk[i - 1]!) with
        | true =>
          have hij : i < b := by simp only [Bool.and_eq_true, decide_eq_true_eq] at hT; exact hT.1
          have HI2 : Hid (scanSorted ltU dk b (i + 1) = scanSorted ltU dk b io) := by have := HI.out; rw [scanSorted, if_pos hT] at this; exact this
          clear hT HI s1 s2
          go_wp2_with fail
          exact ⟨⟨i + 1, by go_num, by omega, by omega, HI2, hkc, hcc⟩, by simp [intOf]; omega⟩
        | false =>
          have HI2 : Hid (scanSorted ltU dk b io = i) := by have := HI.out; rw [scanSorted, if_neg (by rw [hT]; decide)] at this; exact this.symm
          clear hT HI
          have HPS : Hid ((if i = b then (dk, true) else if b - a < 50 then (dk, false) else partialIns ltU a b (4 - st) i (if b - i ≥ 2 then shiftUp ltU b (i + 1) (if i - a ≥ 2 then shiftDown ltU (i - 1) (swp dk i (i - 1)) else swp dk i (i - 1)) else (if i - a ≥ 2 then shiftDown ltU (i - 1) (swp dk i (i - 1)) else swp dk i (i - 1)))) = RP) := by
            have := HP.out
            rw [show 5 - st = (4 - st) + 1 by omega, partialIns_succ, HI2.out] at this
            exact this
          clear HI2 HP
          by_cases hib2 : i = b
          · have heq : ((i : Int) == (b : Int)) = true := by simp [hib2]
            have HR2 : Hid (RP = (dk, true)) := by have := HPS.out; rw [if_pos hib2] at this; exact this.symm
            obtain rfl := HR2.out
            clear hib2 HPS
            go_wp2_with fail
            go_ret
            exact ⟨rfl, hkc, hcc⟩
          · have heq : ((i : Int) == (b : Int)) = false := by simp; omega
            by_cases h50 : b - a < 50
            · have h5i : (b : Int) - (a : Int) < 50 := by omega
              have HR2 : Hid (RP = (dk, false)) := by have := HPS.out; rw [if_neg hib2, if_pos h50] at this; exact this.symm
              obtain rfl := HR2.out
              clear HPS
              go_wp2_with fail
              go_ret
              exact ⟨rfl, hkc, hcc⟩
            · have h5i : ¬ ((b : Int) - (a : Int) < 50) := by omega
              have HST : Hid (partialIns ltU a b (4 - st) i (if b - i ≥ 2 then shiftUp ltU b (i + 1) (if i - a ≥ 2 then shiftDown ltU (i - 1) (swp dk i (i - 1)) else swp dk i (i - 1)) else (if i - a ≥ 2 then shiftDown ltU (i - 1) (swp dk i (i - 1)) else swp dk i (i - 1))) = RP) := by
                have := HPS.out
                rw [if_neg hib2, if_neg h50] at this
                exact this
              clear HPS
              have hilt : i < b := by omega
              have c1 := hkc.cell i (by rw [HZ.out]; omega)
              have c2 := hkc.cell (i - 1) (by rw [HZ.out]; omega)
              have f1 := hkc.froz i
              have f2 := hkc.froz (i - 1)
              have l1 : (i : Int) < (d.size : Int) := by omega
              have l2 : ((i - 1 : Nat) : Int) < (d.size : Int) := by omega
              have hn1 : ¬ i = i - 1 := by omega
              have hn2 : ¬ i - 1 = i := by omega
              have HSI : Hid (∀ n, Rw B g c (swp dk i (i - 1)) (((wc.drewN n).setCell ⟨g, i, none⟩ (.int .u64 ((dk[i - 1]!).toNat : Int))).setCell ⟨g, i - 1, none⟩ (.int .u64 ((dk[i]!).toNat : Int)))) := fun n => (hkc.drewN n).swp i (i - 1)
              have HCI : Hid (∀ n, Chg (fun x => x = g) w (((wc.drewN n).setCell ⟨g, i, none⟩ (.int .u64 ((dk[i - 1]!).toNat : Int))).setCell ⟨g, i - 1, none⟩ (.int .u64 ((dk[i]!).toNat : Int)))) := fun n => chg_swp hcc n _ _ _ _
              have HZS : Hid ((swp dk i (i - 1)).size = d.size) := by show _ = _; rw [swp_size]; exact HZ.out
              generalize dk[i]! = Xi at *
              generalize dk[i - 1]! = Xj at *
              clear hkc hcc
              by_cases hd2 : 2 ≤ i - a
              · have hd3 : (i : Int) - (a : Int) ≥ 2 := by omega
                obtain ⟨RD, hRD⟩ : ∃ R, shiftDown ltU (i - 1) (swp dk i (i - 1)) = R := ⟨_, rfl⟩
                have HRD : Hid _ := hRD
                have HRDeq : Hid _ := hRD
                clear hRD
                go_wp2_with fail
                go_region
                go_wp2_with fail
                go_loopw [9] (fun vj wr => ∃ (j : Nat) (dn : Array UInt64), vj = .int .i64 j ∧ j < b ∧ Hid (dn.size = d.size) ∧ Rw B g c dn wr ∧ Hid (shiftDown ltU j dn = RD) ∧ Chg (fun x => x = g) w wr) (fun vj _ => (intOf vj).toNat)
                case atStart => exact ⟨i - 1, swp dk i (i - 1), by first | rfl | go_num, by omega, HZS, HSI.out 1, HRD, HCI.out 1⟩
                case round =>
                  obtain ⟨j, dn, rfl, hjb, HZd, hd, HDn, hcd⟩ := hrel
                  clear HSI HCI HRD
                  by_cases hj1 : 1 ≤ j
                  · have c1 := hd.cell j (by rw [HZd.out]; omega)
                    have c2 := hd.cell (j - 1) (by rw [HZd.out]; omega)
                    have f1 := hd.froz j
                    have f2 := hd.froz (j - 1)
                    have s1 : IntKind.i64.wrap ((j : Int) - 1) = ((j - 1 : Nat) : Int) := by rw [IntKind.wrap_i64]; omega
                    have s2 : (j : Int) - 1 = ((j - 1 : Nat) : Int) := by omega
                    have l1 : (j : Int) < (d.size : Int) := by omega
                    have l2 : ((j - 1 : Nat) : Int) < (d.size : Int) := by omega
                    have l3 : (j : Int) ≥ 1 := by omega
                    have HSd : Hid (∀ n, Rw B g c (swp dn j (j - 1)) (((wr.drewN n).setCell ⟨g, j, none⟩ (.int .u64 ((dn[j - 1]!).toNat : Int))).setCell ⟨g, j - 1, none⟩ (.int .u64 ((dn[j]!).toNat : Int)))) := fun n => (hd.drewN n).swp j (j - 1)
                    have hnj : ¬ j = j - 1 := by omega
                    have hnj2 : ¬ j - 1 = j := by omega
                    cases hqd : ltU dn[j]! dn[j - 1]! with
                    | true =>
                      have HD2 : Hid (shiftDown ltU (j - 1) (swp dn j (j - 1)) = RD) := by rw [← sd_go j dn (by omega) hqd]; exact HDn
                      have hl := less_q wr _ _ true hqd
                      have HZ2 : Hid ((swp dn j (j - 1)).size = d.size) := by show _ = _; rw [swp_size]; exact HZd.out
                      clear HDn hqd
                      generalize dn[j]! = Ux at *
                      generalize dn[j - 1]! = Uy at *
                      go_wp2_with fail
                      go_quiet (first | (go_at_call 57; exact hl _) | fail)
                      go_wp2_with fail
                      go_region
                      go_wp2_with fail
                      exact ⟨⟨j - 1, swp dn j (j - 1), by first | rfl | go_num, by omega, HZ2, HSd.out _, HD2, chg_swp hcd _ _ _ _ _⟩, by simp [intOf]; omega⟩
                    | false =>
                      have HD2 : Hid (RD = dn) := by show _ = _; rw [← HDn.out]; exact sd_stop j dn (.inr hqd)
                      have hl := less_q wr _ _ false hqd
                      clear HDn hqd HSd
                      generalize dn[j]! = Ux at *
                      generalize dn[j - 1]! = Uy at *
                      obtain rfl := HD2.out
                      go_wp2_with fail
                      go_quiet (first | (go_at_call 57; exact hl _) | fail)
                      have hdq := hd.drewN nq
                      have hcq := hcd.dq nq
                      clear hd hcd c1 c2 f1 f2 hl
                      generalize wr.drewN nq = wq at *
                      have HREST : Hid (partialIns ltU a b (4 - st) i (if b - i ≥ 2 then shiftUp ltU b (i + 1) RD else RD) = RP) := by
                        have := HST.out
                        rw [if_pos (show i - a ≥ 2 by omega), HRDeq.out] at this
                        exact this
                      by_cases hu2 : 2 ≤ b - i
                      · have hu3 : (b : Int) - (i : Int) ≥ 2 := by omega
                        have hu4 : ¬ ((b : Int) - (i : Int) < 2) := by omega
                        obtain ⟨RU, hRU⟩ : ∃ R, shiftUp ltU b (i + 1) RD = R := ⟨_, rfl⟩
                        have HRU : Hid _ := hRU
                        have HRUeq : Hid _ := hRU
                        clear hRU
                        go_wp2_with fail
                        go_loopw [10] (fun vj wr => ∃ (j : Nat) (du : Array UInt64), vj = .int .i64 j ∧ a < j ∧ j ≤ b ∧ Hid (du.size = d.size) ∧ Rw B g c du wr ∧ Hid (shiftUp ltU b j du = RU) ∧ Chg (fun x => x = g) w wr) (fun vj _ => b + 1 - (intOf vj).toNat)
                        case atStart => exact ⟨i + 1, RD, by go_num, by omega, by omega, HZd, hdq, HRU, hcq⟩
                        case round =>
                          obtain ⟨j, du, rfl, haj, hjb, HZu, hu, HU, hcu⟩ := hrel
                          clear hdq HRU hcq
                          by_cases hjl : j < b
                          · have c1 := hu.cell j (by rw [HZu.out]; omega)
                            have c2 := hu.cell (j - 1) (by rw [HZu.out]; omega)
                            have f1 := hu.froz j
                            have f2 := hu.froz (j - 1)
                            have s1 : IntKind.i64.wrap ((j : Int) - 1) = ((j - 1 : Nat) : Int) := by rw [IntKind.wrap_i64]; omega
                            have s2 : (j : Int) - 1 = ((j - 1 : Nat) : Int) := by omega
                            have l1 : (j : Int) < (d.size : Int) := by omega
                            have l2 : ((j - 1 : Nat) : Int) < (d.size : Int) := by omega
                            have HSu : Hid (∀ n, Rw B g c (swp du j (j - 1)) (((wr.drewN n).setCell ⟨g, j, none⟩ (.int .u64 ((du[j - 1]!).toNat : Int))).setCell ⟨g, j - 1, none⟩ (.int .u64 ((du[j]!).toNat : Int)))) := fun n => (hu.drewN n).swp j (j - 1)
                            have hnj : ¬ j = j - 1 := by omega
                            have hnj2 : ¬ j - 1 = j := by omega
                            cases hqu : ltU du[j]! du[j - 1]! with
                            | true =>
                              have HU2 : Hid (shiftUp ltU b (j + 1) (swp du j (j - 1)) = RU) := by have := HU.out; rw [shiftUp, if_pos hjl, hqu] at this; exact this
                              have hl := less_q wr _ _ true hqu
                              have HZ2 : Hid ((swp du j (j - 1)).size = d.size) := by show _ = _; rw [swp_size]; exact HZu.out
                              clear HU hqu
                              generalize du[j]! = Ux at *
                              generalize du[j - 1]! = Uy at *
                              go_wp2_with fail
                              go_quiet (first | (go_at_call 57; exact hl _) | fail)
                              go_wp2_with fail
                              go_region
                              go_wp2_with fail
                              exact ⟨⟨j + 1, swp du j (j - 1), by go_num, by omega, by omega, HZ2, HSu.out _, HU2, chg_swp hcu _ _ _ _ _⟩, by simp [intOf]; omega⟩
                            | false =>
                              have HU2 : Hid (RU = du) := by have := HU.out; rw [shiftUp, if_pos hjl, hqu] at this; exact this.symm
                              have hl := less_q wr _ _ false hqu
                              clear HU hqu HSu
                              generalize du[j]! = Ux at *
                              generalize du[j - 1]! = Uy at *
                              go_wp2_with fail
                              go_quiet (first | (go_at_call 57; exact hl _) | fail)
                              go_wp2_with fail
                              have HRF : Hid (partialIns ltU a b (4 - st) i du = RP) := by have := HREST.out; rw [if_pos (show b - i ≥ 2 by omega), HRUeq.out, HU2.out] at this; exact this
                              exact ⟨⟨st + 1, i, du, by go_num, by omega, rfl, by omega, by omega, HZu, (hu.drewN _), by show partialIns ltU a b (5 - (st + 1)) i du = RP; rw [show 5 - (st + 1) = 4 - st by omega]; exact HRF.out, (hcu.dq _)⟩, by simp [intOf]; omega⟩
                          · have HU2 : Hid (RU = du) := by have := HU.out; rw [shiftUp, if_neg hjl] at this; exact this.symm
                            clear HU
                            go_wp2_with fail
                            have HRF : Hid (partialIns ltU a b (4 - st) i du = RP) := by have := HREST.out; rw [if_pos (show b - i ≥ 2 by omega), HRUeq.out, HU2.out] at this; exact this
                            exact ⟨⟨st + 1, i, du, by go_num, by omega, rfl, by omega, by omega, HZu, hu, by show partialIns ltU a b (5 - (st + 1)) i du = RP; rw [show 5 - (st + 1) = 4 - st by omega]; exact HRF.out, hcu⟩, by simp [intOf]; omega⟩
                      · have hu3 : ¬ ((b : Int) - (i : Int) ≥ 2) := by omega
                        have HRF : Hid (partialIns ltU a b (4 - st) i RD = RP) := by have := HREST.out; rw [if_neg (show ¬ b - i ≥ 2 by omega)] at this; exact this
                        go_wp2_with fail
                        exact ⟨⟨st + 1, i, RD, by go_num, by omega, rfl, by omega, by omega, HZd, hdq, by show partialIns ltU a b (5 - (st + 1)) i RD = RP; rw [show 5 - (st + 1) = 4 - st by omega]; exact HRF.out, hcq⟩, by simp [intOf]; omega⟩
                  · obtain rfl : j = 0 := by omega
                    have HD2 : Hid (RD = dn) := by show _ = _; rw [← HDn.out]; exact sd_stop 0 dn (.inl rfl)
                    obtain rfl := HD2.out
                    clear HDn
                    have hdq := hd
                    have hcq := hcd
                    clear hd hcd
                    generalize hWq : wr = wq at *
                    clear hWq wr
                    have HREST : Hid (partialIns ltU a b (4 - st) i (if b - i ≥ 2 then shiftUp ltU b (i + 1) RD else RD) = RP) := by
                      have := HST.out
                      rw [if_pos (show i - a ≥ 2 by omega), HRDeq.out] at this
                      exact this
                    by_cases hu2 : 2 ≤ b - i
                    · have hu3 : (b : Int) - (i : Int) ≥ 2 := by omega
                      have hu4 : ¬ ((b : Int) - (i : Int) < 2) := by omega
                      obtain ⟨RU, hRU⟩ : ∃ R, shiftUp ltU b (i + 1) RD = R := ⟨_, rfl⟩
                      have HRU : Hid _ := hRU
                      have HRUeq : Hid _ := hRU
                      clear hRU
                      go_wp2_with fail
                      go_loopw [10] (fun vj wr => ∃ (j : Nat) (du : Array UInt64), vj = .int .i64 j ∧ a < j ∧ j ≤ b ∧ Hid (du.size = d.size) ∧ Rw B g c du wr ∧ Hid (shiftUp ltU b j du = RU) ∧ Chg (fun x => x = g) w wr) (fun vj _ => b + 1 - (intOf vj).toNat)
                      case atStart => exact ⟨i + 1, RD, by go_num, by omega, by omega, HZd, hdq, HRU, hcq⟩
                      case round =>
                        obtain ⟨j, du, rfl, haj, hjb, HZu, hu, HU, hcu⟩ := hrel
                        clear hdq HRU hcq
                        by_cases hjl : j < b
                        · have c1 := hu.cell j (by rw [HZu.out]; omega)
                          have c2 := hu.cell (j - 1) (by rw [HZu.out]; omega)
                          have f1 := hu.froz j
                          have f2 := hu.froz (j - 1)
                          have s1 : IntKind.i64.wrap ((j : Int) - 1) = ((j - 1 : Nat) : Int) := by rw [IntKind.wrap_i64]; omega
                          have s2 : (j : Int) - 1 = ((j - 1 : Nat) : Int) := by omega
                          have l1 : (j : Int) < (d.size : Int) := by omega
                          have l2 : ((j - 1 : Nat) : Int) < (d.size : Int) := by omega
                          have HSu : Hid (∀ n, Rw B g c (swp du j (j - 1)) (((wr.drewN n).setCell ⟨g, j, none⟩ (.int .u64 ((du[j - 1]!).toNat : Int))).setCell ⟨g, j - 1, none⟩ (.int .u64 ((du[j]!).toNat : Int)))) := fun n => (hu.drewN n).swp j (j - 1)
                          have hnj : ¬ j = j - 1 := by omega
                          have hnj2 : ¬ j - 1 = j := by omega
                          cases hqu : ltU du[j]! du[j - 1]! with
                          | true =>
                            have HU2 : Hid (shiftUp ltU b (j + 1) (swp du j (j - 1)) = RU) := by have := HU.out; rw [shiftUp, if_pos hjl, hqu] at this; exact this
                            have hl := less_q wr _ _ true hqu
                            have HZ2 : Hid ((swp du j (j - 1)).size = d.size) := by show _ = _; rw [swp_size]; exact HZu.out
                            clear HU hqu
                            generalize du[j]! = Ux at *
                            generalize du[j - 1]! = Uy at *
                            go_wp2_with fail
                            go_quiet (first | (go_at_call 57; exact hl _) | fail)
                            go_wp2_with fail
                            go_region
                            go_wp2_with fail
                            exact ⟨⟨j + 1, swp du j (j - 1), by go_num, by omega, by omega, HZ2, HSu.out _, HU2, chg_swp hcu _ _ _ _ _⟩, by simp [intOf]; omega⟩
                          | false =>
                            have HU2 : Hid (RU = du) := by have := HU.out; rw [shiftUp, if_pos hjl, hqu] at this; exact this.symm
                            have hl := less_q wr _ _ false hqu
                            clear HU hqu HSu
                            generalize du[j]! = Ux at *
                            generalize du[j - 1]! = Uy at *
                            go_wp2_with fail
                            go_quiet (first | (go_at_call 57; exact hl _) | fail)
                            go_wp2_with fail
                            have HRF : Hid (partialIns ltU a b (4 - st) i du = RP) := by have := HREST.out; rw [if_pos (show b - i ≥ 2 by omega), HRUeq.out, HU2.out] at this; exact this
                            exact ⟨⟨st + 1, i, du, by go_num, by omega, rfl, by omega, by omega, HZu, (hu.drewN _), by show partialIns ltU a b (5 - (st + 1)) i du = RP; rw [show 5 - (st + 1) = 4 - st by omega]; exact HRF.out, (hcu.dq _)⟩, by simp [intOf]; omega⟩
                        · have HU2 : Hid (RU = du) := by have := HU.out; rw [shiftUp, if_neg hjl] at this; exact this.symm
                          clear HU
                          go_wp2_with fail
                          have HRF : Hid (partialIns ltU a b (4 - st) i du = RP) := by have := HREST.out; rw [if_pos (show b - i ≥ 2 by omega), HRUeq.out, HU2.out] at this; exact this
                          exact ⟨⟨st + 1, i, du, by go_num, by omega, rfl, by omega, by omega, HZu, hu, by show partialIns ltU a b (5 - (st + 1)) i du = RP; rw [show 5 - (st + 1) = 4 - st by omega]; exact HRF.out, hcu⟩, by simp [intOf]; omega⟩
                    · have hu3 : ¬ ((b : Int) - (i : Int) ≥ 2) := by omega
                      have HRF : Hid (partialIns ltU a b (4 - st) i RD = RP) := by have := HREST.out; rw [if_neg (show ¬ b - i ≥ 2 by omega)] at this; exact this
                      go_wp2_with fail
                      exact ⟨⟨st + 1, i, RD, by go_num, by omega, rfl, by omega, by omega, HZd, hdq, by show partialIns ltU a b (5 - (st + 1)) i RD = RP; rw [show 5 - (st + 1) = 4 - st by omega]; exact HRF.out, hcq⟩, by simp [intOf]; omega⟩
              · have hd3 : ¬ ((i : Int) - (a : Int) ≥ 2) := by omega
                go_wp2_with fail
                go_region
                have HREST : Hid (partialIns ltU a b (4 - st) i (if b - i ≥ 2 then shiftUp ltU b (i + 1) (swp dk i (i - 1)) else (swp dk i (i - 1))) = RP) := by
                  have := HST.out
                  rw [if_neg (show ¬ i - a ≥ 2 by omega)] at this
                  exact this
                have hkS := HSI.out 1
                have hcS := HCI.out 1
                clear HSI HCI
                by_cases hu2 : 2 ≤ b - i
                · have hu3 : (b : Int) - (i : Int) ≥ 2 := by omega
                  have hu4 : ¬ ((b : Int) - (i : Int) < 2) := by omega
                  obtain ⟨RU, hRU⟩ : ∃ R, shiftUp ltU b (i + 1) (swp dk i (i - 1)) = R := ⟨_, rfl⟩
                  have HRU : Hid _ := hRU
                  have HRUeq : Hid _ := hRU
                  clear hRU
                  go_wp2_with fail
                  go_loopw [10] (fun vj wr => ∃ (j : Nat) (du : Array UInt64), vj = .int .i64 j ∧ a < j ∧ j ≤ b ∧ Hid (du.size = d.size) ∧ Rw B g c du wr ∧ Hid (shiftUp ltU b j du = RU) ∧ Chg (fun x => x = g) w wr) (fun vj _ => b + 1 - (intOf vj).toNat)
                  case atStart => exact ⟨i + 1, (swp dk i (i - 1)), by go_num, by omega, by omega, HZS, hkS, HRU, hcS⟩
                  case round =>
                    obtain ⟨j, du, rfl, haj, hjb, HZu, hu, HU, hcu⟩ := hrel
                    clear hkS HRU hcS
                    by_cases hjl : j < b
                    · have c1 := hu.cell j (by rw [HZu.out]; omega)
                      have c2 := hu.cell (j - 1) (by rw [HZu.out]; omega)
                      have f1 := hu.froz j
                      have f2 := hu.froz (j - 1)
                      have s1 : IntKind.i64.wrap ((j : Int) - 1) = ((j - 1 : Nat) : Int) := by rw [IntKind.wrap_i64]; omega
                      have s2 : (j : Int) - 1 = ((j - 1 : Nat) : Int) := by omega
                      have l1 : (j : Int) < (d.size : Int) := by omega
                      have l2 : ((j - 1 : Nat) : Int) < (d.size : Int) := by omega
                      have HSu : Hid (∀ n, Rw B g c (swp du j (j - 1)) (((wr.drewN n).setCell ⟨g, j, none⟩ (.int .u64 ((du[j - 1]!).toNat : Int))).setCell ⟨g, j - 1, none⟩ (.int .u64 ((du[j]!).toNat : Int)))) := fun n => (hu.drewN n).swp j (j - 1)
                      have hnj : ¬ j = j - 1 := by omega
                      have hnj2 : ¬ j - 1 = j := by omega
                      cases hqu : ltU du[j]! du[j - 1]! with
                      | true =>
                        have HU2 : Hid (shiftUp ltU b (j + 1) (swp du j (j - 1)) = RU) := by have := HU.out; rw [shiftUp, if_pos hjl, hqu] at this; exact this
                        have hl := less_q wr _ _ true hqu
                        have HZ2 : Hid ((swp du j (j - 1)).size = d.size) := by show _ = _; rw [swp_size]; exact HZu.out
                        clear HU hqu
                        generalize du[j]! = Ux at *
                        generalize du[j - 1]! = Uy at *
                        go_wp2_with fail
                        go_quiet (first | (go_at_call 57; exact hl _) | fail)
                        go_wp2_with fail
                        go_region
                        go_wp2_with fail
                        exact ⟨⟨j + 1, swp du j (j - 1), by go_num, by omega, by omega, HZ2, HSu.out _, HU2, chg_swp hcu _ _ _ _ _⟩, by simp [intOf]; omega⟩
                      | false =>
                        have HU2 : Hid (RU = du) := by have := HU.out; rw [shiftUp, if_pos hjl, hqu] at this; exact this.symm
                        have hl := less_q wr _ _ false hqu
                        clear HU hqu HSu
                        generalize du[j]! = Ux at *
                        generalize du[j - 1]! = Uy at *
                        go_wp2_with fail
                        go_quiet (first | (go_at_call 57; exact hl _) | fail)
                        go_wp2_with fail
                        have HRF : Hid (partialIns ltU a b (4 - st) i du = RP) := by have := HREST.out; rw [if_pos (show b - i ≥ 2 by omega), HRUeq.out, HU2.out] at this; exact this
                        exact ⟨⟨st + 1, i, du, by go_num, by omega, rfl, by omega, by omega, HZu, (hu.drewN _), by show partialIns ltU a b (5 - (st + 1)) i du = RP; rw [show 5 - (st + 1) = 4 - st by omega]; exact HRF.out, (hcu.dq _)⟩, by simp [intOf]; omega⟩
                    · have HU2 : Hid (RU = du) := by have := HU.out; rw [shiftUp, if_neg hjl] at this; exact this.symm
                      clear HU
                      go_wp2_with fail
                      have HRF : Hid (partialIns ltU a b (4 - st) i du = RP) := by have := HREST.out; rw [if_pos (show b - i ≥ 2 by omega), HRUeq.out, HU2.out] at this; exact this
                      exact ⟨⟨st + 1, i, du, by go_num, by omega, rfl, by omega, by omega, HZu, hu, by show partialIns ltU a b (5 - (st + 1)) i du = RP; rw [show 5 - (st + 1) = 4 - st by omega]; exact HRF.out, hcu⟩, by simp [intOf]; omega⟩
                · exfalso; omega
    · obtain rfl : st = 5 := by omega
      have HR2 : Hid (RP = (dk, false)) := by have := HP.out; rw [Nat.sub_self, partialIns] at this; exact this.symm
      obtain rfl := HR2.out
      clear HP
      go_wp2_with fail
      go_ret
      exact ⟨rfl, hk, hch⟩
end Go.Proofs.YtefhinopppdjbaaGreat
