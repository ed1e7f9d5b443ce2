/- partitionEqual at uint64. -/
import Derived.Test.YtefhinopppdjbaaGreatG39
namespace Go.Proofs.YtefhinopppdjbaaGreat
open Go.RowKit Go.Sort
set_option linter.unusedVariables false
set_option maxRecDepth 100000

set_option maxHeartbeats 8000000 in
theorem uparteq_any {B g c : Nat} {d : Array UInt64} {w : World} (h : Rw B g c d w) (a b pivot : Nat) (hb : b ≤ d.size) (hp1 : a ≤ pivot) (hp2 : pivot < b) (hsz : d.size ≤ 1152921504606846976) :
    Calls Tryz.prog 58 #[.slice (some ⟨g, 0, none⟩) d.size c, .int .i64 a, .int .i64 b, .int .i64 pivot] w fun e w' => ∃ (mid : Nat) (d' : Array UInt64), e = .returned (.int .i64 mid) ∧ partitionEqual ltU d a b pivot = (mid, d') ∧ Rw B g c d' w' ∧ Chg (fun x => x = g) w w' := by
  obtain ⟨z1, z2, z3, z4⟩ := h.sz
  have ca := h.cell a (by omega)
  have cp := h.cell pivot (by omega)
  have fa := h.froz a
  have fp := h.froz pivot
  have la : (a : Int) < (d.size : Int) := by omega
  have lp : (pivot : Int) < (d.size : Int) := by omega
  have hsw : ∀ n, Rw B g c (swp d a pivot) (((w.drewN n).setCell ⟨g, a, none⟩ (.int .u64 ((d[pivot]!).toNat : Int))).setCell ⟨g, pivot, none⟩ (.int .u64 ((d[a]!).toNat : Int))) := fun n => (h.drewN n).swp a pivot
  have hcw : ∀ n, Chg (fun x => x = g) w (((w.drewN n).setCell ⟨g, a, none⟩ (.int .u64 ((d[pivot]!).toNat : Int))).setCell ⟨g, pivot, none⟩ (.int .u64 ((d[a]!).toNat : Int))) := fun n => chg_swp (Chg.refl _ _) n _ _ _ _
  have HSW : Hid _ := And.intro hsw hcw
  obtain ⟨⟨us, hus⟩, fus⟩ := h.then a pivot d[pivot]! (by omega)
  obtain ⟨d1, hd1⟩ : ∃ x, x = swp d a pivot := ⟨_, rfl⟩
  have HD1 : Hid _ := hd1
  have HZ1 : Hid (d1.size = d.size) := by show _ = _; rw [hd1, swp_size]
  clear hsw hcw h hd1
  obtain ⟨b1, hb1⟩ : ∃ x, x = b - 1 := ⟨_, rfl⟩
  have e1 : (b : Int) - 1 = (b1 : Int) := by omega
  have hb1' : a ≤ b1 ∧ b1 < b := by omega
  have HB1 : Hid _ := hb1
  clear hb1
  generalize d[a]! = Xa at *
  generalize d[pivot]! = Xp at *
  go_enter Tryz.func58, Tryz.ntmps58
  go_wp2_with fail
  go_region
  go_wp2_with fail
  have HK0 : Hid (Rw B g c d1 (((w.drewN 1).setCell ⟨g, a, none⟩ (.int .u64 (Xp.toNat : Int))).setCell ⟨g, pivot, none⟩ (.int .u64 (Xa.toNat : Int)))) := by have := HSW.out.1 1; rw [← HD1.out] at this; exact this
  have HC0 : Hid (Chg (fun x => x = g) w (((w.drewN 1).setCell ⟨g, a, none⟩ (.int .u64 (Xp.toNat : Int))).setCell ⟨g, pivot, none⟩ (.int .u64 (Xa.toNat : Int)))) := HSW.out.2 1
  obtain ⟨A, hA⟩ : ∃ A, d1[a]! = A := ⟨_, rfl⟩
  have HA0 : Hid _ := hA
  clear hA
  obtain ⟨RP, hRP⟩ : ∃ R, partEqLoop ltU a (a + 1) b1 d1 = R := ⟨_, rfl⟩
  have HRP : Hid _ := hRP
  have HPART : Hid (partitionEqual ltU d a b pivot = RP) := by
    show _ = _
    unfold partitionEqual
    rw [← HD1.out, ← HB1.out, hRP]
  clear hRP
  go_loopw [9, 10] (fun vi vj wr => ∃ (io jo : Nat) (dk : Array UInt64), vi = .int .i64 io ∧ vj = .int .i64 jo ∧ a < io ∧ io ≤ jo + 2 ∧ a ≤ jo ∧ jo < b ∧ Hid (dk.size = d.size) ∧ Hid (dk[a]! = A) ∧ Rw B g c dk wr ∧ Hid (partEqLoop ltU a io jo dk = RP) ∧ Chg (fun x => x = g) w wr) (fun vi vj _ => (intOf vj).toNat + 3 - (intOf vi).toNat)
  case atStart => exact ⟨a + 1, b1, d1, by go_num, by first | rfl | go_num, by omega, by omega, by omega, by omega, HZ1, HA0, HK0.out, HRP, HC0.out⟩
  case round =>
    obtain ⟨io, jo, dk, rfl, rfl, hai, hij, haj, hjb, HZ, HA, hk, HP, hch⟩ := hrel
    clear HK0 HC0 HRP
    generalize hWO : wr = wO at *
    clear hWO wr
    go_wp2_with fail
    go_loopw [9] (fun vi wr => ∃ i : Nat, vi = .int .i64 i ∧ a < i ∧ i ≤ jo + 2 ∧ Hid (scanUp (fun x => !ltU dk[a]! x) dk jo i = scanUp (fun x => !ltU dk[a]! x) dk jo io) ∧ Rw B g c dk wr ∧ Chg (fun x => x = g) w wr) (fun vi _ => jo + 2 - (intOf vi).toNat)
    case atStart => exact ⟨io, by first | rfl | go_num, by omega, by omega, rfl, hk, hch⟩
    case round =>
      obtain ⟨i, rfl, hai, hib, HI, hk, hch⟩ := hrel
      skip
      have ca := hk.cell a (by rw [HZ.out]; omega)
      have hdA : dk[a]! = A := HA.out
      rw [hdA] at ca
      go_upto_region 3 with fail
      go_cut [43] from 29 to 45 (fun s wx => s = .bool (decide (i ≤ jo) && (!ltU A dk[i]!)) ∧ Rw B g c dk wx ∧ Chg (fun x => x = g) w wx)
      case first =>
        by_cases hij : i ≤ jo
        · have hd1 : decide ((i : Int) ≤ (jo : Int)) = true := by simp; omega
          have hd2 : decide (i ≤ jo) = true := by simp; omega
          have cx := hk.cell i (by rw [HZ.out]; omega)
          have lx : (i : Int) < (d.size : Int) := by omega
          clear hdA
          cases hq : ltU A dk[i]! with
          | true =>
            have hl := less_q wr A dk[i]! true hq
            have HQ : Hid _ := hq
            clear hq
            go_quiet (first | (go_at_call 57; exact hl _) | fail)
            go_wp2_with fail
            go_meet
            exact ⟨by rw [hd2, HQ.out]; rfl, hk.drewN _, hch.dq _⟩
          | false =>
            have hl := less_q wr A dk[i]! false hq
            have HQ : Hid _ := hq
            clear hq
            go_quiet (first | (go_at_call 57; exact hl _) | fail)
            go_wp2_with fail
            go_meet
            exact ⟨by rw [hd2, HQ.out]; rfl, hk.drewN _, hch.dq _⟩
        · have hd1 : decide ((i : Int) ≤ (jo : Int)) = false := by simp; omega
          have hd2 : decide (i ≤ jo) = false := by simp; omega
          go_quiet (fail)
          go_wp2_with fail
          go_meet
          exact ⟨by rw [hd2]; rfl, hk.drewN _, hch.dq _⟩
      case rest =>
      obtain ⟨rfl, hkc, hcc⟩ := hcut
      clear hk hch ca hdA
      cases hT : (decide (i ≤ jo) && (!ltU A dk[i]!)) with
      | true =>
        have HI2 : Hid (scanUp (fun x => !ltU dk[a]! x) dk jo (i + 1) = scanUp (fun x => !ltU dk[a]! x) dk jo io) := by have := HI.out; rw [up_step (fun x => !ltU dk[a]! x) dk jo i (by rw [show dk[a]! = A from HA.out]; exact hT)] at this; exact this
        have hij : i ≤ jo := by simp only [Bool.and_eq_true, decide_eq_true_eq] at hT; exact hT.1
        clear hT HI
        go_wp2_with fail
        exact ⟨⟨i + 1, by go_num, by omega, by omega, HI2, hkc, hcc⟩, by simp [intOf]; omega⟩
      | false =>
        have HI2 : Hid (scanUp (fun x => !ltU dk[a]! x) dk jo io = i) := by have := HI.out; rw [up_stop (fun x => !ltU dk[a]! x) dk jo i (by rw [show dk[a]! = A from HA.out]; exact hT)] at this; exact this.symm
        clear hT HI
        go_wp2_with fail
        generalize hWc : wc = wd at *
        clear hWc wc
        go_loopw [10] (fun vj wr => ∃ j : Nat, vj = .int .i64 j ∧ a ≤ j ∧ j < b ∧ i ≤ j + 2 ∧ Hid (scanDown (fun x => ltU dk[a]! x) dk i j = scanDown (fun x => ltU dk[a]! x) dk i jo) ∧ Rw B g c dk wr ∧ Chg (fun x => x = g) w wr) (fun vj _ => (intOf vj).toNat)
        case atStart => exact ⟨jo, by first | rfl | go_num, by omega, by omega, by omega, rfl, hkc, hcc⟩
        case round =>
          obtain ⟨j, rfl, haj, hjb, hIj, HJ, hk, hch⟩ := hrel
          clear hkc hcc
          have ca := hk.cell a (by rw [HZ.out]; omega)
          have hdA : dk[a]! = A := HA.out
          rw [hdA] at ca
          go_upto_region 5 with fail
          go_cut [59] from 46 to 61 (fun s wx => s = .bool (decide (i ≤ j) && (ltU A dk[j]!)) ∧ Rw B g c dk wx ∧ Chg (fun x => x = g) w wx)
          case first =>
            by_cases hij : i ≤ j
            · have hd1 : decide ((i : Int) ≤ (j : Int)) = true := by simp; omega
              have hd2 : decide (i ≤ j) = true := by simp; omega
              have cx := hk.cell j (by rw [HZ.out]; omega)
              have lx : (j : Int) < (d.size : Int) := by omega
              clear hdA
              cases hq : ltU A dk[j]! with
              | true =>
                have hl := less_q wr A dk[j]! true hq
                have HQ : Hid _ := hq
                clear hq
                go_quiet (first | (go_at_call 57; exact hl _) | fail)
                go_wp2_with fail
                go_meet
                exact ⟨by rw [hd2, HQ.out]; rfl, hk.drewN _, hch.dq _⟩
              | false =>
                have hl := less_q wr A dk[j]! false hq
                have HQ : Hid _ := hq
                clear hq
                go_quiet (first | (go_at_call 57; exact hl _) | fail)
                go_wp2_with fail
                go_meet
                exact ⟨by rw [hd2, HQ.out]; rfl, hk.drewN _, hch.dq _⟩
            · have hd1 : decide ((i : Int) ≤ (j : Int)) = false := by simp; omega
              have hd2 : decide (i ≤ j) = false := by simp; omega
              go_quiet (fail)
              go_wp2_with fail
              go_meet
              exact ⟨by rw [hd2]; rfl, hk.drewN _, hch.dq _⟩
          case rest =>
          obtain ⟨rfl, hkc, hcc⟩ := hcut
          clear hk hch ca hdA
          cases hT : (decide (i ≤ j) && (ltU A dk[j]!)) with
          | true =>
            have hij : i ≤ j := by simp only [Bool.and_eq_true, decide_eq_true_eq] at hT; exact hT.1
            have HJ2 : Hid (scanDown (fun x => ltU dk[a]! x) dk i (j - 1) = scanDown (fun x => ltU dk[a]! x) dk i jo) := by have := HJ.out; rw [down_step (fun x => ltU dk[a]! x) dk i j (by omega) (by rw [show dk[a]! = A from HA.out]; exact hT)] at this; exact this
            have ej : (j : Int) - 1 = ((j - 1 : Nat) : Int) := by omega
            have ejw : IntKind.i64.wrap ((j : Int) - 1) = ((j - 1 : Nat) : Int) := by rw [IntKind.wrap_i64]; omega
            clear hT HJ
            go_wp2_with fail
            exact ⟨⟨j - 1, by first | rfl | go_num, by omega, by omega, by omega, HJ2, hkc, hcc⟩, by simp [intOf]; omega⟩
          | false =>
            have HJ2 : Hid (scanDown (fun x => ltU dk[a]! x) dk i jo = j) := by have := HJ.out; rw [down_stop (fun x => ltU dk[a]! x) dk i j (by rw [show dk[a]! = A from HA.out]; exact hT)] at this; exact this.symm
            clear hT HJ
            by_cases hgt : j < i
            · have hgi : (i : Int) > (j : Int) := by omega
              have HR1 : Hid (partitionEqual ltU d a b pivot = (i, dk)) := by
                have := HP.out
                rw [partEqLoop_eq] at this
                rw [HI2.out] at this
                rw [HJ2.out, if_pos hgt] at this
                show _ = _
                rw [HPART.out]
                exact this.symm
              clear HP HI2 HJ2
              go_wp2_with fail
              go_ret
              exact ⟨_, _, rfl, HR1.out, hkc, hcc⟩
            · have hgi : ¬ (i : Int) > (j : Int) := by omega
              have HP2 : Hid (partEqLoop ltU a (i + 1) (j - 1) (swp dk i j) = RP) := by
                have := HP.out
                rw [partEqLoop_eq] at this
                rw [HI2.out] at this
                rw [HJ2.out, if_neg hgt] at this
                exact this
              have cI := hkc.cell i (by rw [HZ.out]; omega)
              have cJ := hkc.cell j (by rw [HZ.out]; omega)
              have fI := hkc.froz i
              have fJ := hkc.froz j
              have lI : (i : Int) < (d.size : Int) := by omega
              have lJ : (j : Int) < (d.size : Int) := by omega
              have HSF : Hid (∀ n, Rw B g c (swp dk i j) (((wc.drewN n).setCell ⟨g, i, none⟩ (.int .u64 ((dk[j]!).toNat : Int))).setCell ⟨g, j, none⟩ (.int .u64 ((dk[i]!).toNat : Int)))) := fun n => (hkc.drewN n).swp i j
              have HCF : Hid (∀ n, Chg (fun x => x = g) w (((wc.drewN n).setCell ⟨g, i, none⟩ (.int .u64 ((dk[j]!).toNat : Int))).setCell ⟨g, j, none⟩ (.int .u64 ((dk[i]!).toNat : Int)))) := fun n => chg_swp hcc n _ _ _ _
              obtain ⟨⟨uf, huf⟩, fuf⟩ := hkc.then i j (dk[j]!) (by rw [HZ.out]; omega)
              have HA2 : Hid ((swp dk i j)[a]! = A) := by show _ = _; rw [swp_other _ _ _ _ (by omega) (by omega)]; exact HA.out
              have HZ2 : Hid ((swp dk i j).size = d.size) := by show _ = _; rw [swp_size]; exact HZ.out
              have ej : (j : Int) - 1 = ((j - 1 : Nat) : Int) := by omega
              have ejw : IntKind.i64.wrap ((j : Int) - 1) = ((j - 1 : Nat) : Int) := by rw [IntKind.wrap_i64]; omega
              generalize dk[j]! = Sj at *
              generalize dk[i]! = Si at *
              clear hkc hcc
              have hi2 : io ≤ i := by have := scanUp_ge (fun x => !ltU dk[a]! x) dk jo io; rw [HI2.out] at this; exact this
              have hj2 : j ≤ jo := by have := scanDown_le (fun x => ltU dk[a]! x) dk i jo; rw [HJ2.out] at this; exact this
              clear HP HI2 HJ2
              go_wp2_with fail
              go_region
              go_wp2_with fail
              exact ⟨⟨i + 1, j - 1, swp dk i j, by go_num, by first | rfl | go_num, by omega, by omega, by omega, by omega, HZ2, HA2, HSF.out _, HP2, HCF.out _⟩, by simp [intOf]; omega⟩
end Go.Proofs.YtefhinopppdjbaaGreat
