/- partition at uint64. -/
import Derived.Test.YtefhinopppdjbaaGreatG33
import Derived.Sort.LotC
import Derived.Deep.CutRange
namespace Go.Proofs.YtefhinopppdjbaaGreat
open Go.RowKit Go.Sort
set_option linter.unusedVariables false
set_option maxRecDepth 100000

theorem up_step (p : UInt64 → Bool) (d : Array UInt64) (j i : Nat) (h : (decide (i ≤ j) && p d[i]!) = true) : scanUp p d j i = scanUp p d j (i + 1) := by
  rw [scanUp, if_pos h]
theorem up_stop (p : UInt64 → Bool) (d : Array UInt64) (j i : Nat) (h : (decide (i ≤ j) && p d[i]!) = false) : scanUp p d j i = i := by
  rw [scanUp, if_neg (by rw [h]; decide)]
theorem down_step (p : UInt64 → Bool) (d : Array UInt64) (i j : Nat) (hj : 0 < j) (h : (decide (i ≤ j) && p d[j]!) = true) : scanDown p d i j = scanDown p d i (j - 1) := by
  obtain ⟨k, rfl⟩ : ∃ k, j = k + 1 := ⟨j - 1, by omega⟩
  rw [scanDown, if_pos h, Nat.add_sub_cancel]
theorem down_stop (p : UInt64 → Bool) (d : Array UInt64) (i j : Nat) (h : (decide (i ≤ j) && p d[j]!) = false) : scanDown p d i j = j := by
  cases j with
  | zero => rw [scanDown]
  | succ k => rw [scanDown, if_neg (by rw [h]; decide)]

/-- Behind the first store of a swap the other cell is there still. -/
theorem Rw.then {B g c : Nat} {d : Array UInt64} {w : World} (h : Rw B g c d w) (i j : Nat) (x : UInt64) (hj : j < d.size) : (∃ u, (w.setCell ⟨g, i, none⟩ (.int .u64 (x.toNat : Int))).cell? ⟨g, j, none⟩ = some u) ∧ (w.setCell ⟨g, i, none⟩ (.int .u64 (x.toNat : Int))).frozen? ⟨g, j, none⟩ = false := by
  have h1 := Ou.put h (g := g) rfl i x
  have h2 : Rw B g c (d.setIfInBounds i x) (w.setCell ⟨g, i, none⟩ (.int .u64 (x.toNat : Int))) := by
    unfold Rw
    rw [Array.size_setIfInBounds, Array.toList_setIfInBounds]
    exact h1
  exact ⟨⟨_, h2.cell j (by rw [Array.size_setIfInBounds]; exact hj)⟩, h2.froz j⟩

set_option maxHeartbeats 8000000 in
theorem upart_any {B g c : Nat} {d : Array UInt64} {w : World} (h : Rw B g c d w) (a b pivot : Nat) (hb : b ≤ d.size) (hp1 : a ≤ pivot) (hp2 : pivot < b) (hsz : d.size ≤ 1152921504606846976) :
    Calls Tryz.prog 59 #[.slice (some ⟨g, 0, none⟩) d.size c, .int .i64 a, .int .i64 b, .int .i64 pivot] w fun e w' => ∃ (mid : Nat) (ap : Bool) (d' : Array UInt64), e = .returned (.tuple #[.int .i64 mid, .bool ap]) ∧ partition ltU d a b pivot = (mid, ap, d') ∧ Rw B g c d' w' ∧ Chg (fun x => x = g) w w' := by
  obtain ⟨z1, z2, z3, z4⟩ := h.sz
  have ca := h.cell a (by omega)
  have cp := h.cell pivot (by omega)
  have fa := h.froz a
  have fp := h.froz pivot
  have la : (a : Int) < (d.size : Int) := by omega
  have lp : (pivot : Int) < (d.size : Int) := by omega
  have hsw : ∀ n, Rw B g c (swp d a pivot) (((w.drewN n).setCell ⟨g, a, none⟩ (.int .u64 ((d[pivot]!).toNat : Int))).setCell ⟨g, pivot, none⟩ (.int .u64 ((d[a]!).toNat : Int))) := fun n => (h.drewN n).swp a pivot
  have hcw : ∀ n, Chg (fun x => x = g) w (((w.drewN n).setCell ⟨g, a, none⟩ (.int .u64 ((d[pivot]!).toNat : Int))).setCell ⟨g, pivot, none⟩ (.int .u64 ((d[a]!).toNat : Int))) := fun n => chg_swp (Chg.refl _ _) n _ _ _ _
  have HSW : Hid _ := And.intro hsw hcw
  obtain ⟨⟨us, hus⟩, fus⟩ := h.then a pivot d[pivot]! (by omega)
  obtain ⟨d1, hd1⟩ : ∃ x, x = swp d a pivot := ⟨_, rfl⟩
  have HD1 : Hid _ := hd1
  have HZ1 : Hid (d1.size = d.size) := by show _ = _; rw [hd1, swp_size]
  clear hsw hcw h hd1
  obtain ⟨b1, hb1⟩ : ∃ x, x = b - 1 := ⟨_, rfl⟩
  have e1 : (b : Int) - 1 = (b1 : Int) := by omega
  have hb1' : a ≤ b1 ∧ b1 < b := by omega
  have HB1 : Hid _ := hb1
  clear hb1
  generalize d[a]! = Xa at *
  generalize d[pivot]! = Xp at *
  go_enter Tryz.func59, Tryz.ntmps59
  go_wp2_with fail
  go_region
  go_wp2_with fail
  have HK0 : Hid (Rw B g c d1 (((w.drewN 1).setCell ⟨g, a, none⟩ (.int .u64 (Xp.toNat : Int))).setCell ⟨g, pivot, none⟩ (.int .u64 (Xa.toNat : Int)))) := by have := HSW.out.1 1; rw [← HD1.out] at this; exact this
  have HC0 : Hid (Chg (fun x => x = g) w (((w.drewN 1).setCell ⟨g, a, none⟩ (.int .u64 (Xp.toNat : Int))).setCell ⟨g, pivot, none⟩ (.int .u64 (Xa.toNat : Int)))) := HSW.out.2 1
  have HZ := HZ1
  obtain ⟨A, hA⟩ : ∃ A, d1[a]! = A := ⟨_, rfl⟩
  have HA : Hid _ := hA
  clear hA
  go_loopw [10] (fun vi wr => ∃ i : Nat, vi = .int .i64 i ∧ a < i ∧ i ≤ b1 + 2 ∧ Hid (scanUp (fun x => ltU x d1[a]!) d1 b1 i = scanUp (fun x => ltU x d1[a]!) d1 b1 (a + 1)) ∧ Rw B g c d1 wr ∧ Chg (fun x => x = g) w wr) (fun vi _ => b1 + 2 - (intOf vi).toNat)
  case atStart => exact ⟨(a + 1), by go_num, by omega, by omega, rfl, HK0.out, HC0.out⟩
  case round =>
    obtain ⟨i, rfl, hai, hib, HI, hk, hch⟩ := hrel
    clear HK0 HC0
    have ca := hk.cell a (by rw [HZ.out]; omega)
    have hdA : d1[a]! = A := HA.out
    rw [hdA] at ca
    go_upto_region 3 with fail
    go_cut [43] from 30 to 45 (fun s wx => s = .bool (decide (i ≤ b1) && ltU d1[i]! A) ∧ Rw B g c d1 wx ∧ Chg (fun x => x = g) w wx)
    case first =>
      by_cases hij : i ≤ b1
      · have hd1 : decide ((i : Int) ≤ (b1 : Int)) = true := by simp; omega
        have hd2 : decide (i ≤ b1) = true := by simp; omega
        have cx := hk.cell i (by rw [HZ.out]; omega)
        have lx : (i : Int) < (d.size : Int) := by omega
        clear hdA
        cases hq : ltU d1[i]! A with
        | true =>
          have hl := less_q wr d1[i]! A true hq
          have HQ : Hid _ := hq
          clear hq
          go_quiet (first | (go_at_call 57; exact hl _) | fail)
          go_wp2_with fail
          go_meet
          exact ⟨by rw [hd2, HQ.out]; rfl, hk.drewN _, hch.dq _⟩
        | false =>
          have hl := less_q wr d1[i]! A false hq
          have HQ : Hid _ := hq
          clear hq
          go_quiet (first | (go_at_call 57; exact hl _) | fail)
          go_wp2_with fail
          go_meet
          exact ⟨by rw [hd2, HQ.out]; rfl, hk.drewN _, hch.dq _⟩
      · have hd1 : decide ((i : Int) ≤ (b1 : Int)) = false := by simp; omega
        have hd2 : decide (i ≤ b1) = false := by simp; omega
        go_quiet (fail)
        go_wp2_with fail
        go_meet
        exact ⟨by rw [hd2]; rfl, hk.drewN _, hch.dq _⟩
    case rest =>
    obtain ⟨rfl, hkc, hcc⟩ := hcut
    clear hk hch ca hdA
    cases hT : (decide (i ≤ b1) && ltU d1[i]! A) with
    | true =>
      have HI2 : Hid (scanUp (fun x => ltU x d1[a]!) d1 b1 (i + 1) = scanUp (fun x => ltU x d1[a]!) d1 b1 (a + 1)) := by have := HI.out; rw [up_step (fun x => ltU x d1[a]!) d1 b1 i (by rw [show d1[a]! = A from HA.out]; exact hT)] at this; exact this
      have hij : i ≤ b1 := by simp only [Bool.and_eq_true, decide_eq_true_eq] at hT; exact hT.1
      clear hT HI
      go_wp2_with fail
      exact ⟨⟨i + 1, by go_num, by omega, by omega, HI2, hkc, hcc⟩, by simp [intOf]; omega⟩
    | false =>
      have HI2 : Hid (scanUp (fun x => ltU x d1[a]!) d1 b1 (a + 1) = i) := by have := HI.out; rw [up_stop (fun x => ltU x d1[a]!) d1 b1 i (by rw [show d1[a]! = A from HA.out]; exact hT)] at this; exact this.symm
      clear hT HI
      go_wp2_with fail
      generalize hWc : wc = wd at *
      clear hWc wc
      go_loopw [11] (fun vj wr => ∃ j : Nat, vj = .int .i64 j ∧ a ≤ j ∧ j < b ∧ i ≤ j + 2 ∧ Hid (scanDown (fun x => !ltU x d1[a]!) d1 i j = scanDown (fun x => !ltU x d1[a]!) d1 i b1) ∧ Rw B g c d1 wr ∧ Chg (fun x => x = g) w wr) (fun vj _ => (intOf vj).toNat)
      case atStart => exact ⟨b1, by first | rfl | go_num, by omega, by omega, by omega, rfl, hkc, hcc⟩
      case round =>
        obtain ⟨j, rfl, haj, hjb, hIj, HJ, hk, hch⟩ := hrel
        clear hkc hcc
        have ca := hk.cell a (by rw [HZ.out]; omega)
        have hdA : d1[a]! = A := HA.out
        rw [hdA] at ca
        go_upto_region 5 with fail
        go_cut [60] from 46 to 62 (fun s wx => s = .bool (decide (i ≤ j) && (!ltU d1[j]! A)) ∧ Rw B g c d1 wx ∧ Chg (fun x => x = g) w wx)
        case first =>
          by_cases hij : i ≤ j
          · have hd1 : decide ((i : Int) ≤ (j : Int)) = true := by simp; omega
            have hd2 : decide (i ≤ j) = true := by simp; omega
            have cx := hk.cell j (by rw [HZ.out]; omega)
            have lx : (j : Int) < (d.size : Int) := by omega
            clear hdA
            cases hq : ltU d1[j]! A with
            | true =>
              have hl := less_q wr d1[j]! A true hq
              have HQ : Hid _ := hq
              clear hq
              go_quiet (first | (go_at_call 57; exact hl _) | fail)
              go_wp2_with fail
              go_meet
              exact ⟨by rw [hd2, HQ.out]; rfl, hk.drewN _, hch.dq _⟩
            | false =>
              have hl := less_q wr d1[j]! A false hq
              have HQ : Hid _ := hq
              clear hq
              go_quiet (first | (go_at_call 57; exact hl _) | fail)
              go_wp2_with fail
              go_meet
              exact ⟨by rw [hd2, HQ.out]; rfl, hk.drewN _, hch.dq _⟩
          · have hd1 : decide ((i : Int) ≤ (j : Int)) = false := by simp; omega
            have hd2 : decide (i ≤ j) = false := by simp; omega
            go_quiet (fail)
            go_wp2_with fail
            go_meet
            exact ⟨by rw [hd2]; rfl, hk.drewN _, hch.dq _⟩
        case rest =>
        obtain ⟨rfl, hkc, hcc⟩ := hcut
        clear hk hch ca hdA
        cases hT : (decide (i ≤ j) && (!ltU d1[j]! A)) with
        | true =>
          have hij : i ≤ j := by simp only [Bool.and_eq_true, decide_eq_true_eq] at hT; exact hT.1
          have HJ2 : Hid (scanDown (fun x => !ltU x d1[a]!) d1 i (j - 1) = scanDown (fun x => !ltU x d1[a]!) d1 i b1) := by have := HJ.out; rw [down_step (fun x => !ltU x d1[a]!) d1 i j (by omega) (by rw [show d1[a]! = A from HA.out]; exact hT)] at this; exact this
          have ej : (j : Int) - 1 = ((j - 1 : Nat) : Int) := by omega
          have ejw : IntKind.i64.wrap ((j : Int) - 1) = ((j - 1 : Nat) : Int) := by rw [IntKind.wrap_i64]; omega
          clear hT HJ
          go_wp2_with fail
          exact ⟨⟨j - 1, by first | rfl | go_num, by omega, by omega, by omega, HJ2, hkc, hcc⟩, by simp [intOf]; omega⟩
        | false =>
          have HJ2 : Hid (scanDown (fun x => !ltU x d1[a]!) d1 i b1 = j) := by have := HJ.out; rw [down_stop (fun x => !ltU x d1[a]!) d1 i j (by rw [show d1[a]! = A from HA.out]; exact hT)] at this; exact this.symm
          clear hT HJ
          by_cases hgt : j < i
          · have hgi : (i : Int) > (j : Int) := by omega
            have HFIN : Hid (partition ltU d a b pivot = (j, true, swp d1 j a)) := by
              show _ = _
              unfold partition
              simp only []
              rw [← HD1.out, ← HB1.out, HI2.out, HJ2.out, if_pos hgt]
            have cA := hkc.cell a (by rw [HZ.out]; omega)
            have cJ := hkc.cell j (by rw [HZ.out]; omega)
            have fA := hkc.froz a
            have fJ := hkc.froz j
            have lJ : (j : Int) < (d.size : Int) := by omega
            have HSF : Hid (∀ n, Rw B g c (swp d1 j a) (((wc.drewN n).setCell ⟨g, j, none⟩ (.int .u64 ((d1[a]!).toNat : Int))).setCell ⟨g, a, none⟩ (.int .u64 ((d1[j]!).toNat : Int)))) := fun n => (hkc.drewN n).swp j a
            have HCF : Hid (∀ n, Chg (fun x => x = g) w (((wc.drewN n).setCell ⟨g, j, none⟩ (.int .u64 ((d1[a]!).toNat : Int))).setCell ⟨g, a, none⟩ (.int .u64 ((d1[j]!).toNat : Int)))) := fun n => chg_swp hcc n _ _ _ _
            obtain ⟨⟨uf, huf⟩, fuf⟩ := hkc.then j a (d1[a]!) (by rw [HZ.out]; omega)
            generalize d1[a]! = Sa at *
            generalize d1[j]! = Sj at *
            clear hkc hcc
            clear HI2 HJ2
            go_wp2_with fail
            go_region
            go_wp2_with fail
            go_ret2
            exact ⟨_, _, _, rfl, HFIN.out, HSF.out _, HCF.out _⟩
          · have hgi : ¬ (i : Int) > (j : Int) := by omega
            obtain ⟨RP, hRP⟩ : ∃ R, partLoop ltU a (i + 1) (j - 1) (swp d1 i j) = R := ⟨_, rfl⟩
            have HRP : Hid _ := hRP
            have HPART : Hid (partition ltU d a b pivot = (RP.1, false, swp RP.2 RP.1 a)) := by
              show _ = _
              unfold partition
              simp only []
              rw [← HD1.out, ← HB1.out, HI2.out, HJ2.out, if_neg hgt, hRP]
            clear hRP
            have cI := hkc.cell i (by rw [HZ.out]; omega)
            have cJ := hkc.cell j (by rw [HZ.out]; omega)
            have fI := hkc.froz i
            have fJ := hkc.froz j
            have lI : (i : Int) < (d.size : Int) := by omega
            have lJ : (j : Int) < (d.size : Int) := by omega
            have HSF : Hid (∀ n, Rw B g c (swp d1 i j) (((wc.drewN n).setCell ⟨g, i, none⟩ (.int .u64 ((d1[j]!).toNat : Int))).setCell ⟨g, j, none⟩ (.int .u64 ((d1[i]!).toNat : Int)))) := fun n => (hkc.drewN n).swp i j
            have HCF : Hid (∀ n, Chg (fun x => x = g) w (((wc.drewN n).setCell ⟨g, i, none⟩ (.int .u64 ((d1[j]!).toNat : Int))).setCell ⟨g, j, none⟩ (.int .u64 ((d1[i]!).toNat : Int)))) := fun n => chg_swp hcc n _ _ _ _
            obtain ⟨⟨uf, huf⟩, fuf⟩ := hkc.then i j (d1[j]!) (by rw [HZ.out]; omega)
            have HA2 : Hid ((swp d1 i j)[a]! = A) := by show _ = _; rw [swp_other _ _ _ _ (by omega) (by omega)]; exact HA.out
            have HZ2 : Hid ((swp d1 i j).size = d.size) := by show _ = _; rw [swp_size]; exact HZ.out
            have ej : (j : Int) - 1 = ((j - 1 : Nat) : Int) := by omega
            have ejw : IntKind.i64.wrap ((j : Int) - 1) = ((j - 1 : Nat) : Int) := by rw [IntKind.wrap_i64]; omega
            generalize d1[j]! = Sj at *
            generalize d1[i]! = Si at *
            clear hkc hcc
            clear HI2 HJ2
            go_wp2_with fail
            go_region
            go_wp2_with fail
            go_loopw [10, 11] (fun vi vj wr => ∃ (io jo : Nat) (dk : Array UInt64), vi = .int .i64 io ∧ vj = .int .i64 jo ∧ a < io ∧ io ≤ jo + 2 ∧ a ≤ jo ∧ jo < b ∧ Hid (dk.size = d.size) ∧ Hid (dk[a]! = A) ∧ Rw B g c dk wr ∧ Hid (partLoop ltU a io jo dk = RP) ∧ Chg (fun x => x = g) w wr) (fun vi vj _ => (intOf vj).toNat + 3 - (intOf vi).toNat)
            case atStart => exact ⟨i + 1, j - 1, swp d1 i j, by go_num, by first | rfl | go_num, by omega, by omega, by omega, by omega, HZ2, HA2, HSF.out 1, HRP, HCF.out 1⟩
            case round =>
              obtain ⟨io, jo, dk, rfl, rfl, hai, hij, haj, hjb, HZ, HA, hk, HP, hch⟩ := hrel
              clear HSF HCF HRP HZ2 HA2
              generalize hWO : wr = wO at *
              clear hWO wr
              go_wp2_with fail
              go_loopw [10] (fun vi wr => ∃ i : Nat, vi = .int .i64 i ∧ a < i ∧ i ≤ jo + 2 ∧ Hid (scanUp (fun x => ltU x dk[a]!) dk jo i = scanUp (fun x => ltU x dk[a]!) dk jo io) ∧ Rw B g c dk wr ∧ Chg (fun x => x = g) w wr) (fun vi _ => jo + 2 - (intOf vi).toNat)
              case atStart => exact ⟨io, by first | rfl | go_num, by omega, by omega, rfl, hk, hch⟩
              case round =>
                obtain ⟨i, rfl, hai, hib, HI, hk, hch⟩ := hrel
                skip
                have ca := hk.cell a (by rw [HZ.out]; omega)
                have hdA : dk[a]! = A := HA.out
                rw [hdA] at ca
                go_upto_region 13 with fail
                go_cut [112] from 99 to 114 (fun s wx => s = .bool (decide (i ≤ jo) && ltU dk[i]! A) ∧ Rw B g c dk wx ∧ Chg (fun x => x = g) w wx)
                case first =>
                  by_cases hij : i ≤ jo
                  · have hd1 : decide ((i : Int) ≤ (jo : Int)) = true := by simp; omega
                    have hd2 : decide (i ≤ jo) = true := by simp; omega
                    have cx := hk.cell i (by rw [HZ.out]; omega)
                    have lx : (i : Int) < (d.size : Int) := by omega
                    clear hdA
                    cases hq : ltU dk[i]! A with
                    | true =>
                      have hl := less_q wr dk[i]! A true hq
                      have HQ : Hid _ := hq
                      clear hq
                      go_quiet (first | (go_at_call 57; exact hl _) | fail)
                      go_wp2_with fail
                      go_meet
                      exact ⟨by rw [hd2, HQ.out]; rfl, hk.drewN _, hch.dq _⟩
                    | false =>
                      have hl := less_q wr dk[i]! A false hq
                      have HQ : Hid _ := hq
                      clear hq
                      go_quiet (first | (go_at_call 57; exact hl _) | fail)
                      go_wp2_with fail
                      go_meet
                      exact ⟨by rw [hd2, HQ.out]; rfl, hk.drewN _, hch.dq _⟩
                  · have hd1 : decide ((i : Int) ≤ (jo : Int)) = false := by simp; omega
                    have hd2 : decide (i ≤ jo) = false := by simp; omega
                    go_quiet (fail)
                    go_wp2_with fail
                    go_meet
                    exact ⟨by rw [hd2]; rfl, hk.drewN _, hch.dq _⟩
                case rest =>
                obtain ⟨rfl, hkc, hcc⟩ := hcut
                clear hk hch ca hdA
                cases hT : (decide (i ≤ jo) && ltU dk[i]! A) with
                | true =>
                  have HI2 : Hid (scanUp (fun x => ltU x dk[a]!) dk jo (i + 1) = scanUp (fun x => ltU x dk[a]!) dk jo io) := by have := HI.out; rw [up_step (fun x => ltU x dk[a]!) dk jo i (by rw [show dk[a]! = A from HA.out]; exact hT)] at this; exact this
                  have hij : i ≤ jo := by simp only [Bool.and_eq_true, decide_eq_true_eq] at hT; exact hT.1
                  clear hT HI
                  go_wp2_with fail
                  exact ⟨⟨i + 1, by go_num, by omega, by omega, HI2, hkc, hcc⟩, by simp [intOf]; omega⟩
                | false =>
                  have HI2 : Hid (scanUp (fun x => ltU x dk[a]!) dk jo io = i) := by have := HI.out; rw [up_stop (fun x => ltU x dk[a]!) dk jo i (by rw [show dk[a]! = A from HA.out]; exact hT)] at this; exact this.symm
                  clear hT HI
                  go_wp2_with fail
                  generalize hWc : wc = wd at *
                  clear hWc wc
                  go_loopw [11] (fun vj wr => ∃ j : Nat, vj = .int .i64 j ∧ a ≤ j ∧ j < b ∧ i ≤ j + 2 ∧ Hid (scanDown (fun x => !ltU x dk[a]!) dk i j = scanDown (fun x => !ltU x dk[a]!) dk i jo) ∧ Rw B g c dk wr ∧ Chg (fun x => x = g) w wr) (fun vj _ => (intOf vj).toNat)
                  case atStart => exact ⟨jo, by first | rfl | go_num, by omega, by omega, by omega, rfl, hkc, hcc⟩
                  case round =>
                    obtain ⟨j, rfl, haj, hjb, hIj, HJ, hk, hch⟩ := hrel
                    clear hkc hcc
                    have ca := hk.cell a (by rw [HZ.out]; omega)
                    have hdA : dk[a]! = A := HA.out
                    rw [hdA] at ca
                    go_upto_region 15 with fail
                    go_cut [129] from 115 to 131 (fun s wx => s = .bool (decide (i ≤ j) && (!ltU dk[j]! A)) ∧ Rw B g c dk wx ∧ Chg (fun x => x = g) w wx)
                    case first =>
                      by_cases hij : i ≤ j
                      · have hd1 : decide ((i : Int) ≤ (j : Int)) = true := by simp; omega
                        have hd2 : decide (i ≤ j) = true := by simp; omega
                        have cx := hk.cell j (by rw [HZ.out]; omega)
                        have lx : (j : Int) < (d.size : Int) := by omega
                        clear hdA
                        cases hq : ltU dk[j]! A with
                        | true =>
                          have hl := less_q wr dk[j]! A true hq
                          have HQ : Hid _ := hq
                          clear hq
                          go_quiet (first | (go_at_call 57; exact hl _) | fail)
                          go_wp2_with fail
                          go_meet
                          exact ⟨by rw [hd2, HQ.out]; rfl, hk.drewN _, hch.dq _⟩
                        | false =>
                          have hl := less_q wr dk[j]! A false hq
                          have HQ : Hid _ := hq
                          clear hq
                          go_quiet (first | (go_at_call 57; exact hl _) | fail)
                          go_wp2_with fail
                          go_meet
                          exact ⟨by rw [hd2, HQ.out]; rfl, hk.drewN _, hch.dq _⟩
                      · have hd1 : decide ((i : Int) ≤ (j : Int)) = false := by simp; omega
                        have hd2 : decide (i ≤ j) = false := by simp; omega
                        go_quiet (fail)
                        go_wp2_with fail
                        go_meet
                        exact ⟨by rw [hd2]; rfl, hk.drewN _, hch.dq _⟩
                    case rest =>
                    obtain ⟨rfl, hkc, hcc⟩ := hcut
                    clear hk hch ca hdA
                    cases hT : (decide (i ≤ j) && (!ltU dk[j]! A)) with
                    | true =>
                      have hij : i ≤ j := by simp only [Bool.and_eq_true, decide_eq_true_eq] at hT; exact hT.1
                      have HJ2 : Hid (scanDown (fun x => !ltU x dk[a]!) dk i (j - 1) = scanDown (fun x => !ltU x dk[a]!) dk i jo) := by have := HJ.out; rw [down_step (fun x => !ltU x dk[a]!) dk i j (by omega) (by rw [show dk[a]! = A from HA.out]; exact hT)] at this; exact this
                      have ej : (j : Int) - 1 = ((j - 1 : Nat) : Int) := by omega
                      have ejw : IntKind.i64.wrap ((j : Int) - 1) = ((j - 1 : Nat) : Int) := by rw [IntKind.wrap_i64]; omega
                      clear hT HJ
                      go_wp2_with fail
                      exact ⟨⟨j - 1, by first | rfl | go_num, by omega, by omega, by omega, HJ2, hkc, hcc⟩, by simp [intOf]; omega⟩
                    | false =>
                      have HJ2 : Hid (scanDown (fun x => !ltU x dk[a]!) dk i jo = j) := by have := HJ.out; rw [down_stop (fun x => !ltU x dk[a]!) dk i j (by rw [show dk[a]! = A from HA.out]; exact hT)] at this; exact this.symm
                      clear hT HJ
                      by_cases hgt : j < i
                      · have hgi : (i : Int) > (j : Int) := by omega
                        have HR1 : Hid (RP = (j, dk)) := by
                          have := HP.out
                          rw [partLoop_eq] at this
                          rw [HI2.out] at this
                          rw [HJ2.out, if_pos hgt] at this
                          exact this.symm
                        have HFIN : Hid (partition ltU d a b pivot = (j, false, swp dk j a)) := by
                          show _ = _
                          rw [HPART.out, HR1.out]
                        have cA := hkc.cell a (by rw [HZ.out]; omega)
                        have cJ := hkc.cell j (by rw [HZ.out]; omega)
                        have fA := hkc.froz a
                        have fJ := hkc.froz j
                        have lJ : (j : Int) < (d.size : Int) := by omega
                        have HSF : Hid (∀ n, Rw B g c (swp dk j a) (((wc.drewN n).setCell ⟨g, j, none⟩ (.int .u64 ((dk[a]!).toNat : Int))).setCell ⟨g, a, none⟩ (.int .u64 ((dk[j]!).toNat : Int)))) := fun n => (hkc.drewN n).swp j a
                        have HCF : Hid (∀ n, Chg (fun x => x = g) w (((wc.drewN n).setCell ⟨g, j, none⟩ (.int .u64 ((dk[a]!).toNat : Int))).setCell ⟨g, a, none⟩ (.int .u64 ((dk[j]!).toNat : Int)))) := fun n => chg_swp hcc n _ _ _ _
                        obtain ⟨⟨uf, huf⟩, fuf⟩ := hkc.then j a (dk[a]!) (by rw [HZ.out]; omega)
                        generalize dk[a]! = Sa at *
                        generalize dk[j]! = Sj at *
                        clear hkc hcc
                        clear HP HI2 HJ2
                        go_wp2_with fail
                        go_region
                        go_wp2_with fail
                        go_ret2
                        exact ⟨_, _, _, rfl, HFIN.out, HSF.out _, HCF.out _⟩
                      · have hgi : ¬ (i : Int) > (j : Int) := by omega
                        have HP2 : Hid (partLoop ltU a (i + 1) (j - 1) (swp dk i j) = RP) := by
                          have := HP.out
                          rw [partLoop_eq] at this
                          rw [HI2.out] at this
                          rw [HJ2.out, if_neg hgt] at this
                          exact this
                        have cI := hkc.cell i (by rw [HZ.out]; omega)
                        have cJ := hkc.cell j (by rw [HZ.out]; omega)
                        have fI := hkc.froz i
                        have fJ := hkc.froz j
                        have lI : (i : Int) < (d.size : Int) := by omega
                        have lJ : (j : Int) < (d.size : Int) := by omega
                        have HSF : Hid (∀ n, Rw B g c (swp dk i j) (((wc.drewN n).setCell ⟨g, i, none⟩ (.int .u64 ((dk[j]!).toNat : Int))).setCell ⟨g, j, none⟩ (.int .u64 ((dk[i]!).toNat : Int)))) := fun n => (hkc.drewN n).swp i j
                        have HCF : Hid (∀ n, Chg (fun x => x = g) w (((wc.drewN n).setCell ⟨g, i, none⟩ (.int .u64 ((dk[j]!).toNat : Int))).setCell ⟨g, j, none⟩ (.int .u64 ((dk[i]!).toNat : Int)))) := fun n => chg_swp hcc n _ _ _ _
                        obtain ⟨⟨uf, huf⟩, fuf⟩ := hkc.then i j (dk[j]!) (by rw [HZ.out]; omega)
                        have HA2 : Hid ((swp dk i j)[a]! = A) := by show _ = _; rw [swp_other _ _ _ _ (by omega) (by omega)]; exact HA.out
                        have HZ2 : Hid ((swp dk i j).size = d.size) := by show _ = _; rw [swp_size]; exact HZ.out
                        have ej : (j : Int) - 1 = ((j - 1 : Nat) : Int) := by omega
                        have ejw : IntKind.i64.wrap ((j : Int) - 1) = ((j - 1 : Nat) : Int) := by rw [IntKind.wrap_i64]; omega
                        generalize dk[j]! = Sj at *
                        generalize dk[i]! = Si at *
                        clear hkc hcc
                        have hi2 : io ≤ i := by have := scanUp_ge (fun x => ltU x dk[a]!) dk jo io; rw [HI2.out] at this; exact this
                        have hj2 : j ≤ jo := by have := scanDown_le (fun x => !ltU x dk[a]!) dk i jo; rw [HJ2.out] at this; exact this
                        clear HP HI2 HJ2
                        go_wp2_with fail
                        go_region
                        go_wp2_with fail
                        exact ⟨⟨i + 1, j - 1, swp dk i j, by go_num, by first | rfl | go_num, by omega, by omega, by omega, by omega, HZ2, HA2, HSF.out _, HP2, HCF.out _⟩, by simp [intOf]; omega⟩
end Go.Proofs.YtefhinopppdjbaaGreat
