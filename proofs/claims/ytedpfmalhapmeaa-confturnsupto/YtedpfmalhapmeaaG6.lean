/- partition at uint64. -/
import Derived.Test.YtedpfmalhapmeaaG3
import Derived.Sort.LotC
import Derived.Deep.CutRange
import Derived.Test.YtedpfmalhapmeaaG2
import Derived.Laws.Bits64
import Derived.Sort.LotD3
import Derived.Test.YtedpfmalhapmeaaG5
import Derived.Test.YtedpfmalhapmeaaG4
import Derived.Deep.RegionHeld3
namespace Go.Proofs.Ytedpfmalhapmeaa
open Go.RowKit Go.Sort
set_option linter.unusedVariables false
set_option maxRecDepth 100000

theorem up_step (p : UInt64 → Bool) (d : Array UInt64) (j i : Nat) (h : (decide (i ≤ j) && p d[i]!) = true) : scanUp p d j i = scanUp p d j (i + 1) := by
  rw [scanUp, if_pos h]
theorem up_stop (p : UInt64 → Bool) (d : Array UInt64) (j i : Nat) (h : (decide (i ≤ j) && p d[i]!) = false) : scanUp p d j i = i := by
  rw [scanUp, if_neg (by rw [h]; decide)]
theorem down_step (p : UInt64 → Bool) (d : Array UInt64) (i j : Nat) (hj : 0 < j) (h : (decide (i ≤ j) && p d[j]!) = true) : scanDown p d i j = scanDown p d i (j - 1) := by
  obtain ⟨k, rfl⟩ : ∃ k, j = k + 1 := ⟨j - 1, by omega⟩
  rw [scanDown, if_pos h, Nat.add_sub_cancel]
theorem down_stop (p : UInt64 → Bool) (d : Array UInt64) (i j : Nat) (h : (decide (i ≤ j) && p d[j]!) = false) : scanDown p d i j = j := by
  cases j with
  | zero => rw [scanDown]
  | succ k => rw [scanDown, if_neg (by rw [h]; decide)]

/-- Behind the first store of a swap the other cell is there still. -/
theorem Rw.then {B g c : Nat} {d : Array UInt64} {w : World} (h : Rw B g c d w) (i j : Nat) (x : UInt64) (hj : j < d.size) : (∃ u, (w.setCell ⟨g, i, none⟩ (.int .u64 (x.toNat : Int))).cell? ⟨g, j, none⟩ = some u) ∧ (w.setCell ⟨g, i, none⟩ (.int .u64 (x.toNat : Int))).frozen? ⟨g, j, none⟩ = false := by
  have h1 := Ou.put h (g := g) rfl i x
  have h2 : Rw B g c (d.setIfInBounds i x) (w.setCell ⟨g, i, none⟩ (.int .u64 (x.toNat : Int))) := by
    unfold Rw
    rw [Array.size_setIfInBounds, Array.toList_setIfInBounds]
    exact h1
  exact ⟨⟨_, h2.cell j (by rw [Array.size_setIfInBounds]; exact hj)⟩, h2.froz j⟩

set_option maxHeartbeats 8000000 in
theorem upart_any {B g c : Nat} {d : Array UInt64} {w : World} (h : Rw B g c d w) (a b pivot : Nat) (hb : b ≤ d.size) (hp1 : a ≤ pivot) (hp2 : pivot < b) (hsz : d.size ≤ 1152921504606846976) :
    Calls Try.prog 67 #[.slice (some ⟨g, 0, none⟩) d.size c, .int .i64 a, .int .i64 b, .int .i64 pivot] w fun e w' => ∃ (mid : Nat) (ap : Bool) (d' : Array UInt64), e = .returned (.tuple #[.int .i64 mid, .bool ap]) ∧ partition ltU d a b pivot = (mid, ap, d') ∧ Rw B g c d' w' ∧ Chg (fun x => x = g) w w' := by
  obtain ⟨z1, z2, z3, z4⟩ := h.sz
  have ca := h.cell a (by omega)
  have cp := h.cell pivot (by omega)
  have fa := h.froz a
  have fp := h.froz pivot
  have la : (a : Int) < (d.size : Int) := by omega
  have lp : (pivot : Int) < (d.size : Int) := by omega
  have hsw : ∀ n, Rw B g c (swp d a pivot) (((w.drewN n).setCell ⟨g, a, none⟩ (.int .u64 ((d[pivot]!).toNat : Int))).setCell ⟨g, pivot, none⟩ (.int .u64 ((d[a]!).toNat : Int))) := fun n => (h.drewN n).swp a pivot
  have hcw : ∀ n, Chg (fun x => x = g) w (((w.drewN n).setCell ⟨g, a, none⟩ (.int .u64 ((d[pivot]!).toNat : Int))).setCell ⟨g, pivot, none⟩ (.int .u64 ((d[a]!).toNat : Int))) := fun n => chg_swp (Chg.refl _ _) n _ _ _ _
  have HSW : Hid _ := And.intro hsw hcw
  obtain ⟨⟨us, hus⟩, fus⟩ := h.then a pivot d[pivot]! (by omega)
  obtain ⟨d1, hd1⟩ : ∃ x, x = swp d a pivot := ⟨_, rfl⟩
  have HD1 : Hid _ := hd1
  have HZ1 : Hid (d1.size = d.size) := by show _ = _; rw [hd1, swp_size]
  clear hsw hcw h hd1
  obtain ⟨b1, hb1⟩ : ∃ x, x = b - 1 := ⟨_, rfl⟩
  have e1 : (b : Int) - 1 = (b1 : Int) := by omega
  have hb1' : a ≤ b1 ∧ b1 < b := by omega
  have HB1 : Hid _ := hb1
  clear hb1
  generalize d[a]! = Xa at *
  generalize d[pivot]! = Xp at *
  go_enter Try.func67, Try.ntmps67
  go_wp2_with fail
  go_region
  go_wp2_with fail
  have HK0 : Hid (Rw B g c d1 (((w.drewN 1).setCell ⟨g, a, none⟩ (.int .u64 (Xp.toNat : Int))).setCell ⟨g, pivot, none⟩ (.int .u64 (Xa.toNat : Int)))) := by have := HSW.out.1 1; rw [← HD1.out] at this; exact this
  have HC0 : Hid (Chg (fun x => x = g) w (((w.drewN 1).setCell ⟨g, a, none⟩ (.int .u64 (Xp.toNat : Int))).setCell ⟨g, pivot, none⟩ (.int .u64 (Xa.toNat : Int)))) := HSW.out.2 1
  have HZ := HZ1
  obtain ⟨A, hA⟩ : ∃ A, d1[a]! = A := ⟨_, rfl⟩
  have HA : Hid _ := hA
  clear hA
  go_loopw [10] (fun vi wr => ∃ i : Nat, vi = .int .i64 i ∧ a < i ∧ i ≤ b1 + 2 ∧ Hid (scanUp (fun x => ltU x d1[a]!) d1 b1 i = scanUp (fun x => ltU x d1[a]!) d1 b1 (a + 1)) ∧ Rw B g c d1 wr ∧ Chg (fun x => x = g) w wr) (fun vi _ => b1 + 2 - (intOf vi).toNat)
  case atStart => exact ⟨(a + 1), by go_num, by omega, by omega, rfl, HK0.out, HC0.out⟩
  case round =>
    obtain ⟨i, rfl, hai, hib, HI, hk, hch⟩ := hrel
    clear HK0 HC0
    have ca := hk.cell a (by rw [HZ.out]; omega)
    have hdA : d1[a]! = A := HA.out
    rw [hdA] at ca
    go_upto_region 3 with fail
    go_cut [43] from 30 to 45 (fun s wx => s = .bool (decide (i ≤ b1) && ltU d1[i]! A) ∧ Rw B g c d1 wx ∧ Chg (fun x => x = g) w wx)
    case first =>
      by_cases hij : i ≤ b1
      · have hd1 : decide ((i : Int) ≤ (b1 : Int)) = true := by simp; omega
        have hd2 : decide (i ≤ b1) = true := by simp; omega
        have cx := hk.cell i (by rw [HZ.out]; omega)
        have lx : (i : Int) < (d.size : Int) := by omega
        clear hdA
        cases hq : ltU d1[i]! A with
        | true =>
          have hl := less_q wr d1[i]! A true hq
          have HQ : Hid _ := hq
          clear hq
          go_quiet (first | (go_at_call 65; exact hl _) | fail)
          go_wp2_with fail
          go_meet
          exact ⟨by rw [hd2, HQ.out]; rfl, hk.drewN _, hch.dq _⟩
        | false =>
          have hl := less_q wr d1[i]! A false hq
          have HQ : Hid _ := hq
          clear hq
          go_quiet (first | (go_at_call 65; exact hl _) | fail)
          go_wp2_with fail
          go_meet
          exact ⟨by rw [hd2, HQ.out]; rfl, hk.drewN _, hch.dq _⟩
      · have hd1 : decide ((i : Int) ≤ (b1 : Int)) = false := by simp; omega
        have hd2 : decide (i ≤ b1) = false := by simp; omega
        go_quiet (fail)
        go_wp2_with fail
        go_meet
        exact ⟨by rw [hd2]; rfl, hk.drewN _, hch.dq _⟩
    case rest =>
    obtain ⟨rfl, hkc, hcc⟩ := hcut
    clear hk hch ca hdA
    cases hT : (decide (i ≤ b1) && ltU d1[i]! A) with
    | true =>
      have HI2 : Hid (scanUp (fun x => ltU x d1[a]!) d1 b1 (i + 1) = scanUp (fun x => ltU x d1[a]!) d1 b1 (a + 1)) := by have := HI.out; rw [up_step (fun x => ltU x d1[a]!) d1 b1 i (by rw [show d1[a]! = A from HA.out]; exact hT)] at this; exact this
      have hij : i ≤ b1 := by simp only [Bool.and_eq_true, decide_eq_true_eq] at hT; exact hT.1
      clear hT HI
      go_wp2_with fail
      exact ⟨⟨i + 1, by go_num, by omega, by omega, HI2, hkc, hcc⟩, by simp [intOf]; omega⟩
    | false =>
      have HI2 : Hid (scanUp (fun x => ltU x d1[a]!) d1 b1 (a + 1) = i) := by have := HI.out; rw [up_stop (fun x => ltU x d1[a]!) d1 b1 i (by rw [show d1[a]! = A from HA.out]; exact hT)] at this; exact this.symm
      clear hT HI
      go_wp2_with fail
      generalize hWc : wc = wd at *
      clear hWc wc
      go_loopw [11] (fun vj wr => ∃ j : Nat, vj = .int .i64 j ∧ a ≤ j ∧ j < b ∧ i ≤ j + 2 ∧ Hid (scanDown (fun x => !ltU x d1[a]!) d1 i j = scanDown (fun x => !ltU x d1[a]!) d1 i b1) ∧ Rw B g c d1 wr ∧ Chg (fun x => x = g) w wr) (fun vj _ => (intOf vj).toNat)
      case atStart => exact ⟨b1, by first | rfl | go_num, by omega, by omega, by omega, rfl, hkc, hcc⟩
      case round =>
        obtain ⟨j, rfl, haj, hjb, hIj, HJ, hk, hch⟩ := hrel
        clear hkc hcc
        have ca := hk.cell a (by rw [HZ.out]; omega)
        have hdA : d1[a]! = A := HA.out
        rw [hdA] at ca
        go_upto_region 5 with fail
        go_cut [60] from 46 to 62 (fun s wx => s = .bool (decide (i ≤ j) && (!ltU d1[j]! A)) ∧ Rw B g c d1 wx ∧ Chg (fun x => x = g) w wx)
        case first =>
          by_cases hij : i ≤ j
          · have hd1 : decide ((i : Int) ≤ (j : Int)) = true := by simp; omega
            have hd2 : decide (i ≤ j) = true := by simp; omega
            have cx := hk.cell j (by rw [HZ.out]; omega)
            have lx : (j : Int) < (d.size : Int) := by omega
            clear hdA
            cases hq : ltU d1[j]! A with
            | true =>
              have hl := less_q wr d1[j]! A true hq
              have HQ : Hid _ := hq
              clear hq
              go_quiet (first | (go_at_call 65; exact hl _) | fail)
              go_wp2_with fail
              go_meet
              exact ⟨by rw [hd2, HQ.out]; rfl, hk.drewN _, hch.dq _⟩
            | false =>
              have hl := less_q wr d1[j]! A false hq
              have HQ : Hid _ := hq
              clear hq
              go_quiet (first | (go_at_call 65; exact hl _) | fail)
              go_wp2_with fail
              go_meet
              exact ⟨by rw [hd2, HQ.out]; rfl, hk.drewN _, hch.dq _⟩
          · have hd1 : decide ((i : Int) ≤ (j : Int)) = false := by simp; omega
            have hd2 : decide (i ≤ j) = false := by simp; omega
            go_quiet (fail)
            go_wp2_with fail
            go_meet
            exact ⟨by rw [hd2]; rfl, hk.drewN _, hch.dq _⟩
        case rest =>
        obtain ⟨rfl, hkc, hcc⟩ := hcut
        clear hk hch ca hdA
        cases hT : (decide (i ≤ j) && (!ltU d1[j]! A)) with
        | true =>
          have hij : i ≤ j := by simp only [Bool.and_eq_true, decide_eq_true_eq] at hT; exact hT.1
          have HJ2 : Hid (scanDown (fun x => !ltU x d1[a]!) d1 i (j - 1) = scanDown (fun x => !ltU x d1[a]!) d1 i b1) := by have := HJ.out; rw [down_step (fun x => !ltU x d1[a]!) d1 i j (by omega) (by rw [show d1[a]! = A from HA.out]; exact hT)] at this; exact this
          have ej : (j : Int) - 1 = ((j - 1 : Nat) : Int) := by omega
          have ejw : IntKind.i64.wrap ((j : Int) - 1) = ((j - 1 : Nat) : Int) := by rw [IntKind.wrap_i64]; omega
          clear hT HJ
          go_wp2_with fail
          exact ⟨⟨j - 1, by first | rfl | go_num, by omega, by omega, by omega, HJ2, hkc, hcc⟩, by simp [intOf]; omega⟩
        | false =>
          have HJ2 : Hid (scanDown (fun x => !ltU x d1[a]!) d1 i b1 = j) := by have := HJ.out; rw [down_stop (fun x => !ltU x d1[a]!) d1 i j (by rw [show d1[a]! = A from HA.out]; exact hT)] at this; exact this.symm
          clear hT HJ
          by_cases hgt : j < i
          · have hgi : (i : Int) > (j : Int) := by omega
            have HFIN : Hid (partition ltU d a b pivot = (j, true, swp d1 j a)) := by
              show _ = _
              unfold partition
              simp only []
              rw [← HD1.out, ← HB1.out, HI2.out, HJ2.out, if_pos hgt]
            have cA := hkc.cell a (by rw [HZ.out]; omega)
            have cJ := hkc.cell j (by rw [HZ.out]; omega)
            have fA := hkc.froz a
            have fJ := hkc.froz j
            have lJ : (j : Int) < (d.size : Int) := by omega
            have HSF : Hid (∀ n, Rw B g c (swp d1 j a) (((wc.drewN n).setCell ⟨g, j, none⟩ (.int .u64 ((d1[a]!).toNat : Int))).setCell ⟨g, a, none⟩ (.int .u64 ((d1[j]!).toNat : Int)))) := fun n => (hkc.drewN n).swp j a
            have HCF : Hid (∀ n, Chg (fun x => x = g) w (((wc.drewN n).setCell ⟨g, j, none⟩ (.int .u64 ((d1[a]!).toNat : Int))).setCell ⟨g, a, none⟩ (.int .u64 ((d1[j]!).toNat : Int)))) := fun n => chg_swp hcc n _ _ _ _
            obtain ⟨⟨uf, huf⟩, fuf⟩ := hkc.then j a (d1[a]!) (by rw [HZ.out]; omega)
            generalize d1[a]! = Sa at *
            generalize d1[j]! = Sj at *
            clear hkc hcc
            clear HI2 HJ2
            go_wp2_with fail
            go_region
            go_wp2_with fail
            go_ret2
            exact ⟨_, _, _, rfl, HFIN.out, HSF.out _, HCF.out _⟩
          · have hgi : ¬ (i : Int) > (j : Int) := by omega
            obtain ⟨RP, hRP⟩ : ∃ R, partLoop ltU a (i + 1) (j - 1) (swp d1 i j) = R := ⟨_, rfl⟩
            have HRP : Hid _ := hRP
            have HPART : Hid (partition ltU d a b pivot = (RP.1, false, swp RP.2 RP.1 a)) := by
              show _ = _
              unfold partition
              simp only []
              rw [← HD1.out, ← HB1.out, HI2.out, HJ2.out, if_neg hgt, hRP]
            clear hRP
            have cI := hkc.cell i (by rw [HZ.out]; omega)
            have cJ := hkc.cell j (by rw [HZ.out]; omega)
            have fI := hkc.froz i
            have fJ := hkc.froz j
            have lI : (i : Int) < (d.size : Int) := by omega
            have lJ : (j : Int) < (d.size : Int) := by omega
            have HSF : Hid (∀ n, Rw B g c (swp d1 i j) (((wc.drewN n).setCell ⟨g, i, none⟩ (.int .u64 ((d1[j]!).toNat : Int))).setCell ⟨g, j, none⟩ (.int .u64 ((d1[i]!).toNat : Int)))) := fun n => (hkc.drewN n).swp i j
            have HCF : Hid (∀ n, Chg (fun x => x = g) w (((wc.drewN n).setCell ⟨g, i, none⟩ (.int .u64 ((d1[j]!).toNat : Int))).setCell ⟨g, j, none⟩ (.int .u64 ((d1[i]!).toNat : Int)))) := fun n => chg_swp hcc n _ _ _ _
            obtain ⟨⟨uf, huf⟩, fuf⟩ := hkc.then i j (d1[j]!) (by rw [HZ.out]; omega)
            have HA2 : Hid ((swp d1 i j)[a]! = A) := by show _ = _; rw [swp_other _ _ _ _ (by omega) (by omega)]; exact HA.out
            have HZ2 : Hid ((swp d1 i j).size = d.size) := by show _ = _; rw [swp_size]; exact HZ.out
            have ej : (j : Int) - 1 = ((j - 1 : Nat) : Int) := by omega
            have ejw : IntKind.i64.wrap ((j : Int) - 1) = ((j - 1 : Nat) : Int) := by rw [IntKind.wrap_i64]; omega
            generalize d1[j]! = Sj at *
            generalize d1[i]! = Si at *
            clear hkc hcc
            clear HI2 HJ2
            go_wp2_with fail
            go_region
            go_wp2_with fail
            go_loopw [10, 11] (fun vi vj wr => ∃ (io jo : Nat) (dk : Array UInt64), vi = .int .i64 io ∧ vj = .int .i64 jo ∧ a < io ∧ io ≤ jo + 2 ∧ a ≤ jo ∧ jo < b ∧ Hid (dk.size = d.size) ∧ Hid (dk[a]! = A) ∧ Rw B g c dk wr ∧ Hid (partLoop ltU a io jo dk = RP) ∧ Chg (fun x => x = g) w wr) (fun vi vj _ => (intOf vj).toNat + 3 - (intOf vi).toNat)
            case atStart => exact ⟨i + 1, j - 1, swp d1 i j, by go_num, by first | rfl | go_num, by omega, by omega, by omega, by omega, HZ2, HA2, HSF.out 1, HRP, HCF.out 1⟩
            case round =>
              obtain ⟨io, jo, dk, rfl, rfl, hai, hij, haj, hjb, HZ, HA, hk, HP, hch⟩ := hrel
              clear HSF HCF HRP HZ2 HA2
              generalize hWO : wr = wO at *
              clear hWO wr
              go_wp2_with fail
              go_loopw [10] (fun vi wr => ∃ i : Nat, vi = .int .i64 i ∧ a < i ∧ i ≤ jo + 2 ∧ Hid (scanUp (fun x => ltU x dk[a]!) dk jo i = scanUp (fun x => ltU x dk[a]!) dk jo io) ∧ Rw B g c dk wr ∧ Chg (fun x => x = g) w wr) (fun vi _ => jo + 2 - (intOf vi).toNat)
              case atStart => exact ⟨io, by first | rfl | go_num, by omega, by omega, rfl, hk, hch⟩
              case round =>
                obtain ⟨i, rfl, hai, hib, HI, hk, hch⟩ := hrel
                skip
                have ca := hk.cell a (by rw [HZ.out]; omega)
                have hdA : dk[a]! = A := HA.out
                rw [hdA] at ca
                go_upto_region 13 with fail
                go_cut [112] from 99 to 114 (fun s wx => s = .bool (decide (i ≤ jo) && ltU dk[i]! A) ∧ Rw B g c dk wx ∧ Chg (fun x => x = g) w wx)
                case first =>
                  by_cases hij : i ≤ jo
                  · have hd1 : decide ((i : Int) ≤ (jo : Int)) = true := by simp; omega
                    have hd2 : decide (i ≤ jo) = true := by simp; omega
                    have cx := hk.cell i (by rw [HZ.out]; omega)
                    have lx : (i : Int) < (d.size : Int) := by omega
                    clear hdA
                    cases hq : ltU dk[i]! A with
                    | true =>
                      have hl := less_q wr dk[i]! A true hq
                      have HQ : Hid _ := hq
                      clear hq
                      go_quiet (first | (go_at_call 65; exact hl _) | fail)
                      go_wp2_with fail
                      go_meet
                      exact ⟨by rw [hd2, HQ.out]; rfl, hk.drewN _, hch.dq _⟩
                    | false =>
                      have hl := less_q wr dk[i]! A false hq
                      have HQ : Hid _ := hq
                      clear hq
                      go_quiet (first | (go_at_call 65; exact hl _) | fail)
                      go_wp2_with fail
                      go_meet
                      exact ⟨by rw [hd2, HQ.out]; rfl, hk.drewN _, hch.dq _⟩
                  · have hd1 : decide ((i : Int) ≤ (jo : Int)) = false := by simp; omega
                    have hd2 : decide (i ≤ jo) = false := by simp; omega
                    go_quiet (fail)
                    go_wp2_with fail
                    go_meet
                    exact ⟨by rw [hd2]; rfl, hk.drewN _, hch.dq _⟩
                case rest =>
                obtain ⟨rfl, hkc, hcc⟩ := hcut
                clear hk hch ca hdA
                cases hT : (decide (i ≤ jo) && ltU dk[i]! A) with
                | true =>
                  have HI2 : Hid (scanUp (fun x => ltU x dk[a]!) dk jo (i + 1) = scanUp (fun x => ltU x dk[a]!) dk jo io) := by have := HI.out; rw [up_step (fun x => ltU x dk[a]!) dk jo i (by rw [show dk[a]! = A from HA.out]; exact hT)] at this; exact this
                  have hij : i ≤ jo := by simp only [Bool.and_eq_true, decide_eq_true_eq] at hT; exact hT.1
                  clear hT HI
                  go_wp2_with fail
                  exact ⟨⟨i + 1, by go_num, by omega, by omega, HI2, hkc, hcc⟩, by simp [intOf]; omega⟩
                | false =>
                  have HI2 : Hid (scanUp (fun x => ltU x dk[a]!) dk jo io = i) := by have := HI.out; rw [up_stop (fun x => ltU x dk[a]!) dk jo i (by rw [show dk[a]! = A from HA.out]; exact hT)] at this; exact this.symm
                  clear hT HI
                  go_wp2_with fail
                  generalize hWc : wc = wd at *
                  clear hWc wc
                  go_loopw [11] (fun vj wr => ∃ j : Nat, vj = .int .i64 j ∧ a ≤ j ∧ j < b ∧ i ≤ j + 2 ∧ Hid (scanDown (fun x => !ltU x dk[a]!) dk i j = scanDown (fun x => !ltU x dk[a]!) dk i jo) ∧ Rw B g c dk wr ∧ Chg (fun x => x = g) w wr) (fun vj _ => (intOf vj).toNat)
                  case atStart => exact ⟨jo, by first | rfl | go_num, by omega, by omega, by omega, rfl, hkc, hcc⟩
                  case round =>
                    obtain ⟨j, rfl, haj, hjb, hIj, HJ, hk, hch⟩ := hrel
                    clear hkc hcc
                    have ca := hk.cell a (by rw [HZ.out]; omega)
                    have hdA : dk[a]! = A := HA.out
                    rw [hdA] at ca
                    go_upto_region 15 with fail
                    go_cut [129] from 115 to 131 (fun s wx => s = .bool (decide (i ≤ j) && (!ltU dk[j]! A)) ∧ Rw B g c dk wx ∧ Chg (fun x => x = g) w wx)
                    case first =>
                      by_cases hij : i ≤ j
                      · have hd1 : decide ((i : Int) ≤ (j : Int)) = true := by simp; omega
                        have hd2 : decide (i ≤ j) = true := by simp; omega
                        have cx := hk.cell j (by rw [HZ.out]; omega)
                        have lx : (j : Int) < (d.size : Int) := by omega
                        clear hdA
                        cases hq : ltU dk[j]! A with
                        | true =>
                          have hl := less_q wr dk[j]! A true hq
                          have HQ : Hid _ := hq
                          clear hq
                          go_quiet (first | (go_at_call 65; exact hl _) | fail)
                          go_wp2_with fail
                          go_meet
                          exact ⟨by rw [hd2, HQ.out]; rfl, hk.drewN _, hch.dq _⟩
                        | false =>
                          have hl := less_q wr dk[j]! A false hq
                          have HQ : Hid _ := hq
                          clear hq
                          go_quiet (first | (go_at_call 65; exact hl _) | fail)
                          go_wp2_with fail
                          go_meet
                          exact ⟨by rw [hd2, HQ.out]; rfl, hk.drewN _, hch.dq _⟩
                      · have hd1 : decide ((i : Int) ≤ (j : Int)) = false := by simp; omega
                        have hd2 : decide (i ≤ j) = false := by simp; omega
                        go_quiet (fail)
                        go_wp2_with fail
                        go_meet
                        exact ⟨by rw [hd2]; rfl, hk.drewN _, hch.dq _⟩
                    case rest =>
                    obtain ⟨rfl, hkc, hcc⟩ := hcut
                    clear hk hch ca hdA
                    cases hT : (decide (i ≤ j) && (!ltU dk[j]! A)) with
                    | true =>
                      have hij : i ≤ j := by simp only [Bool.and_eq_true, decide_eq_true_eq] at hT; exact hT.1
                      have HJ2 : Hid (scanDown (fun x => !ltU x dk[a]!) dk i (j - 1) = scanDown (fun x => !ltU x dk[a]!) dk i jo) := by have := HJ.out; rw [down_step (fun x => !ltU x dk[a]!) dk i j (by omega) (by rw [show dk[a]! = A from HA.out]; exact hT)] at this; exact this
                      have ej : (j : Int) - 1 = ((j - 1 : Nat) : Int) := by omega
                      have ejw : IntKind.i64.wrap ((j : Int) - 1) = ((j - 1 : Nat) : Int) := by rw [IntKind.wrap_i64]; omega
                      clear hT HJ
                      go_wp2_with fail
                      exact ⟨⟨j - 1, by first | rfl | go_num, by omega, by omega, by omega, HJ2, hkc, hcc⟩, by simp [intOf]; omega⟩
                    | false =>
                      have HJ2 : Hid (scanDown (fun x => !ltU x dk[a]!) dk i jo = j) := by have := HJ.out; rw [down_stop (fun x => !ltU x dk[a]!) dk i j (by rw [show dk[a]! = A from HA.out]; exact hT)] at this; exact this.symm
                      clear hT HJ
                      by_cases hgt : j < i
                      · have hgi : (i : Int) > (j : Int) := by omega
                        have HR1 : Hid (RP = (j, dk)) := by
                          have := HP.out
                          rw [partLoop_eq] at this
                          rw [HI2.out] at this
                          rw [HJ2.out, if_pos hgt] at this
                          exact this.symm
                        have HFIN : Hid (partition ltU d a b pivot = (j, false, swp dk j a)) := by
                          show _ = _
                          rw [HPART.out, HR1.out]
                        have cA := hkc.cell a (by rw [HZ.out]; omega)
                        have cJ := hkc.cell j (by rw [HZ.out]; omega)
                        have fA := hkc.froz a
                        have fJ := hkc.froz j
                        have lJ : (j : Int) < (d.size : Int) := by omega
                        have HSF : Hid (∀ n, Rw B g c (swp dk j a) (((wc.drewN n).setCell ⟨g, j, none⟩ (.int .u64 ((dk[a]!).toNat : Int))).setCell ⟨g, a, none⟩ (.int .u64 ((dk[j]!).toNat : Int)))) := fun n => (hkc.drewN n).swp j a
                        have HCF : Hid (∀ n, Chg (fun x => x = g) w (((wc.drewN n).setCell ⟨g, j, none⟩ (.int .u64 ((dk[a]!).toNat : Int))).setCell ⟨g, a, none⟩ (.int .u64 ((dk[j]!).toNat : Int)))) := fun n => chg_swp hcc n _ _ _ _
                        obtain ⟨⟨uf, huf⟩, fuf⟩ := hkc.then j a (dk[a]!) (by rw [HZ.out]; omega)
                        generalize dk[a]! = Sa at *
                        generalize dk[j]! = Sj at *
                        clear hkc hcc
                        clear HP HI2 HJ2
                        go_wp2_with fail
                        go_region
                        go_wp2_with fail
                        go_ret2
                        exact ⟨_, _, _, rfl, HFIN.out, HSF.out _, HCF.out _⟩
                      · have hgi : ¬ (i : Int) > (j : Int) := by omega
                        have HP2 : Hid (partLoop ltU a (i + 1) (j - 1) (swp dk i j) = RP) := by
                          have := HP.out
                          rw [partLoop_eq] at this
                          rw [HI2.out] at this
                          rw [HJ2.out, if_neg hgt] at this
                          exact this
                        have cI := hkc.cell i (by rw [HZ.out]; omega)
                        have cJ := hkc.cell j (by rw [HZ.out]; omega)
                        have fI := hkc.froz i
                        have fJ := hkc.froz j
                        have lI : (i : Int) < (d.size : Int) := by omega
                        have lJ : (j : Int) < (d.size : Int) := by omega
                        have HSF : Hid (∀ n, Rw B g c (swp dk i j) (((wc.drewN n).setCell ⟨g, i, none⟩ (.int .u64 ((dk[j]!).toNat : Int))).setCell ⟨g, j, none⟩ (.int .u64 ((dk[i]!).toNat : Int)))) := fun n => (hkc.drewN n).swp i j
                        have HCF : Hid (∀ n, Chg (fun x => x = g) w (((wc.drewN n).setCell ⟨g, i, none⟩ (.int .u64 ((dk[j]!).toNat : Int))).setCell ⟨g, j, none⟩ (.int .u64 ((dk[i]!).toNat : Int)))) := fun n => chg_swp hcc n _ _ _ _
                        obtain ⟨⟨uf, huf⟩, fuf⟩ := hkc.then i j (dk[j]!) (by rw [HZ.out]; omega)
                        have HA2 : Hid ((swp dk i j)[a]! = A) := by show _ = _; rw [swp_other _ _ _ _ (by omega) (by omega)]; exact HA.out
                        have HZ2 : Hid ((swp dk i j).size = d.size) := by show _ = _; rw [swp_size]; exact HZ.out
                        have ej : (j : Int) - 1 = ((j - 1 : Nat) : Int) := by omega
                        have ejw : IntKind.i64.wrap ((j : Int) - 1) = ((j - 1 : Nat) : Int) := by rw [IntKind.wrap_i64]; omega
                        generalize dk[j]! = Sj at *
                        generalize dk[i]! = Si at *
                        clear hkc hcc
                        have hi2 : io ≤ i := by have := scanUp_ge (fun x => ltU x dk[a]!) dk jo io; rw [HI2.out] at this; exact this
                        have hj2 : j ≤ jo := by have := scanDown_le (fun x => !ltU x dk[a]!) dk i jo; rw [HJ2.out] at this; exact this
                        clear HP HI2 HJ2
                        go_wp2_with fail
                        go_region
                        go_wp2_with fail
                        exact ⟨⟨i + 1, j - 1, swp dk i j, by go_num, by first | rfl | go_num, by omega, by omega, by omega, by omega, HZ2, HA2, HSF.out _, HP2, HCF.out _⟩, by simp [intOf]; omega⟩
end Go.Proofs.Ytedpfmalhapmeaa

/- partitionEqual at uint64. -/
namespace Go.Proofs.Ytedpfmalhapmeaa
open Go.RowKit Go.Sort
set_option linter.unusedVariables false
set_option maxRecDepth 100000

set_option maxHeartbeats 8000000 in
theorem uparteq_any {B g c : Nat} {d : Array UInt64} {w : World} (h : Rw B g c d w) (a b pivot : Nat) (hb : b ≤ d.size) (hp1 : a ≤ pivot) (hp2 : pivot < b) (hsz : d.size ≤ 1152921504606846976) :
    Calls Try.prog 66 #[.slice (some ⟨g, 0, none⟩) d.size c, .int .i64 a, .int .i64 b, .int .i64 pivot] w fun e w' => ∃ (mid : Nat) (d' : Array UInt64), e = .returned (.int .i64 mid) ∧ partitionEqual ltU d a b pivot = (mid, d') ∧ Rw B g c d' w' ∧ Chg (fun x => x = g) w w' := by
  obtain ⟨z1, z2, z3, z4⟩ := h.sz
  have ca := h.cell a (by omega)
  have cp := h.cell pivot (by omega)
  have fa := h.froz a
  have fp := h.froz pivot
  have la : (a : Int) < (d.size : Int) := by omega
  have lp : (pivot : Int) < (d.size : Int) := by omega
  have hsw : ∀ n, Rw B g c (swp d a pivot) (((w.drewN n).setCell ⟨g, a, none⟩ (.int .u64 ((d[pivot]!).toNat : Int))).setCell ⟨g, pivot, none⟩ (.int .u64 ((d[a]!).toNat : Int))) := fun n => (h.drewN n).swp a pivot
  have hcw : ∀ n, Chg (fun x => x = g) w (((w.drewN n).setCell ⟨g, a, none⟩ (.int .u64 ((d[pivot]!).toNat : Int))).setCell ⟨g, pivot, none⟩ (.int .u64 ((d[a]!).toNat : Int))) := fun n => chg_swp (Chg.refl _ _) n _ _ _ _
  have HSW : Hid _ := And.intro hsw hcw
  obtain ⟨⟨us, hus⟩, fus⟩ := h.then a pivot d[pivot]! (by omega)
  obtain ⟨d1, hd1⟩ : ∃ x, x = swp d a pivot := ⟨_, rfl⟩
  have HD1 : Hid _ := hd1
  have HZ1 : Hid (d1.size = d.size) := by show _ = _; rw [hd1, swp_size]
  clear hsw hcw h hd1
  obtain ⟨b1, hb1⟩ : ∃ x, x = b - 1 := ⟨_, rfl⟩
  have e1 : (b : Int) - 1 = (b1 : Int) := by omega
  have hb1' : a ≤ b1 ∧ b1 < b := by omega
  have HB1 : Hid _ := hb1
  clear hb1
  generalize d[a]! = Xa at *
  generalize d[pivot]! = Xp at *
  go_enter Try.func66, Try.ntmps66
  go_wp2_with fail
  go_region
  go_wp2_with fail
  have HK0 : Hid (Rw B g c d1 (((w.drewN 1).setCell ⟨g, a, none⟩ (.int .u64 (Xp.toNat : Int))).setCell ⟨g, pivot, none⟩ (.int .u64 (Xa.toNat : Int)))) := by have := HSW.out.1 1; rw [← HD1.out] at this; exact this
  have HC0 : Hid (Chg (fun x => x = g) w (((w.drewN 1).setCell ⟨g, a, none⟩ (.int .u64 (Xp.toNat : Int))).setCell ⟨g, pivot, none⟩ (.int .u64 (Xa.toNat : Int)))) := HSW.out.2 1
  obtain ⟨A, hA⟩ : ∃ A, d1[a]! = A := ⟨_, rfl⟩
  have HA0 : Hid _ := hA
  clear hA
  obtain ⟨RP, hRP⟩ : ∃ R, partEqLoop ltU a (a + 1) b1 d1 = R := ⟨_, rfl⟩
  have HRP : Hid _ := hRP
  have HPART : Hid (partitionEqual ltU d a b pivot = RP) := by
    show _ = _
    unfold partitionEqual
    rw [← HD1.out, ← HB1.out, hRP]
  clear hRP
  go_loopw [9, 10] (fun vi vj wr => ∃ (io jo : Nat) (dk : Array UInt64), vi = .int .i64 io ∧ vj = .int .i64 jo ∧ a < io ∧ io ≤ jo + 2 ∧ a ≤ jo ∧ jo < b ∧ Hid (dk.size = d.size) ∧ Hid (dk[a]! = A) ∧ Rw B g c dk wr ∧ Hid (partEqLoop ltU a io jo dk = RP) ∧ Chg (fun x => x = g) w wr) (fun vi vj _ => (intOf vj).toNat + 3 - (intOf vi).toNat)
  case atStart => exact ⟨a + 1, b1, d1, by go_num, by first | rfl | go_num, by omega, by omega, by omega, by omega, HZ1, HA0, HK0.out, HRP, HC0.out⟩
  case round =>
    obtain ⟨io, jo, dk, rfl, rfl, hai, hij, haj, hjb, HZ, HA, hk, HP, hch⟩ := hrel
    clear HK0 HC0 HRP
    generalize hWO : wr = wO at *
    clear hWO wr
    go_wp2_with fail
    go_loopw [9] (fun vi wr => ∃ i : Nat, vi = .int .i64 i ∧ a < i ∧ i ≤ jo + 2 ∧ Hid (scanUp (fun x => !ltU dk[a]! x) dk jo i = scanUp (fun x => !ltU dk[a]! x) dk jo io) ∧ Rw B g c dk wr ∧ Chg (fun x => x = g) w wr) (fun vi _ => jo + 2 - (intOf vi).toNat)
    case atStart => exact ⟨io, by first | rfl | go_num, by omega, by omega, rfl, hk, hch⟩
    case round =>
      obtain ⟨i, rfl, hai, hib, HI, hk, hch⟩ := hrel
      skip
      have ca := hk.cell a (by rw [HZ.out]; omega)
      have hdA : dk[a]! = A := HA.out
      rw [hdA] at ca
      go_upto_region 3 with fail
      go_cut [43] from 29 to 45 (fun s wx => s = .bool (decide (i ≤ jo) && (!ltU A dk[i]!)) ∧ Rw B g c dk wx ∧ Chg (fun x => x = g) w wx)
      case first =>
        by_cases hij : i ≤ jo
        · have hd1 : decide ((i : Int) ≤ (jo : Int)) = true := by simp; omega
          have hd2 : decide (i ≤ jo) = true := by simp; omega
          have cx := hk.cell i (by rw [HZ.out]; omega)
          have lx : (i : Int) < (d.size : Int) := by omega
          clear hdA
          cases hq : ltU A dk[i]! with
          | true =>
            have hl := less_q wr A dk[i]! true hq
            have HQ : Hid _ := hq
            clear hq
            go_quiet (first | (go_at_call 65; exact hl _) | fail)
            go_wp2_with fail
            go_meet
            exact ⟨by rw [hd2, HQ.out]; rfl, hk.drewN _, hch.dq _⟩
          | false =>
            have hl := less_q wr A dk[i]! false hq
            have HQ : Hid _ := hq
            clear hq
            go_quiet (first | (go_at_call 65; exact hl _) | fail)
            go_wp2_with fail
            go_meet
            exact ⟨by rw [hd2, HQ.out]; rfl, hk.drewN _, hch.dq _⟩
        · have hd1 : decide ((i : Int) ≤ (jo : Int)) = false := by simp; omega
          have hd2 : decide (i ≤ jo) = false := by simp; omega
          go_quiet (fail)
          go_wp2_with fail
          go_meet
          exact ⟨by rw [hd2]; rfl, hk.drewN _, hch.dq _⟩
      case rest =>
      obtain ⟨rfl, hkc, hcc⟩ := hcut
      clear hk hch ca hdA
      cases hT : (decide (i ≤ jo) && (!ltU A dk[i]!)) with
      | true =>
        have HI2 : Hid (scanUp (fun x => !ltU dk[a]! x) dk jo (i + 1) = scanUp (fun x => !ltU dk[a]! x) dk jo io) := by have := HI.out; rw [up_step (fun x => !ltU dk[a]! x) dk jo i (by rw [show dk[a]! = A from HA.out]; exact hT)] at this; exact this
        have hij : i ≤ jo := by simp only [Bool.and_eq_true, decide_eq_true_eq] at hT; exact hT.1
        clear hT HI
        go_wp2_with fail
        exact ⟨⟨i + 1, by go_num, by omega, by omega, HI2, hkc, hcc⟩, by simp [intOf]; omega⟩
      | false =>
        have HI2 : Hid (scanUp (fun x => !ltU dk[a]! x) dk jo io = i) := by have := HI.out; rw [up_stop (fun x => !ltU dk[a]! x) dk jo i (by rw [show dk[a]! = A from HA.out]; exact hT)] at this; exact this.symm
        clear hT HI
        go_wp2_with fail
        generalize hWc : wc = wd at *
        clear hWc wc
        go_loopw [10] (fun vj wr => ∃ j : Nat, vj = .int .i64 j ∧ a ≤ j ∧ j < b ∧ i ≤ j + 2 ∧ Hid (scanDown (fun x => ltU dk[a]! x) dk i j = scanDown (fun x => ltU dk[a]! x) dk i jo) ∧ Rw B g c dk wr ∧ Chg (fun x => x = g) w wr) (fun vj _ => (intOf vj).toNat)
        case atStart => exact ⟨jo, by first | rfl | go_num, by omega, by omega, by omega, rfl, hkc, hcc⟩
        case round =>
          obtain ⟨j, rfl, haj, hjb, hIj, HJ, hk, hch⟩ := hrel
          clear hkc hcc
          have ca := hk.cell a (by rw [HZ.out]; omega)
          have hdA : dk[a]! = A := HA.out
          rw [hdA] at ca
          go_upto_region 5 with fail
          go_cut [59] from 46 to 61 (fun s wx => s = .bool (decide (i ≤ j) && (ltU A dk[j]!)) ∧ Rw B g c dk wx ∧ Chg (fun x => x = g) w wx)
          case first =>
            by_cases hij : i ≤ j
            · have hd1 : decide ((i : Int) ≤ (j : Int)) = true := by simp; omega
              have hd2 : decide (i ≤ j) = true := by simp; omega
              have cx := hk.cell j (by rw [HZ.out]; omega)
              have lx : (j : Int) < (d.size : Int) := by omega
              clear hdA
              cases hq : ltU A dk[j]! with
              | true =>
                have hl := less_q wr A dk[j]! true hq
                have HQ : Hid _ := hq
                clear hq
                go_quiet (first | (go_at_call 65; exact hl _) | fail)
                go_wp2_with fail
                go_meet
                exact ⟨by rw [hd2, HQ.out]; rfl, hk.drewN _, hch.dq _⟩
              | false =>
                have hl := less_q wr A dk[j]! false hq
                have HQ : Hid _ := hq
                clear hq
                go_quiet (first | (go_at_call 65; exact hl _) | fail)
                go_wp2_with fail
                go_meet
                exact ⟨by rw [hd2, HQ.out]; rfl, hk.drewN _, hch.dq _⟩
            · have hd1 : decide ((i : Int) ≤ (j : Int)) = false := by simp; omega
              have hd2 : decide (i ≤ j) = false := by simp; omega
              go_quiet (fail)
              go_wp2_with fail
              go_meet
              exact ⟨by rw [hd2]; rfl, hk.drewN _, hch.dq _⟩
          case rest =>
          obtain ⟨rfl, hkc, hcc⟩ := hcut
          clear hk hch ca hdA
          cases hT : (decide (i ≤ j) && (ltU A dk[j]!)) with
          | true =>
            have hij : i ≤ j := by simp only [Bool.and_eq_true, decide_eq_true_eq] at hT; exact hT.1
            have HJ2 : Hid (scanDown (fun x => ltU dk[a]! x) dk i (j - 1) = scanDown (fun x => ltU dk[a]! x) dk i jo) := by have := HJ.out; rw [down_step (fun x => ltU dk[a]! x) dk i j (by omega) (by rw [show dk[a]! = A from HA.out]; exact hT)] at this; exact this
            have ej : (j : Int) - 1 = ((j - 1 : Nat) : Int) := by omega
            have ejw : IntKind.i64.wrap ((j : Int) - 1) = ((j - 1 : Nat) : Int) := by rw [IntKind.wrap_i64]; omega
            clear hT HJ
            go_wp2_with fail
            exact ⟨⟨j - 1, by first | rfl | go_num, by omega, by omega, by omega, HJ2, hkc, hcc⟩, by simp [intOf]; omega⟩
          | false =>
            have HJ2 : Hid (scanDown (fun x => ltU dk[a]! x) dk i jo = j) := by have := HJ.out; rw [down_stop (fun x => ltU dk[a]! x) dk i j (by rw [show dk[a]! = A from HA.out]; exact hT)] at this; exact this.symm
            clear hT HJ
            by_cases hgt : j < i
            · have hgi : (i : Int) > (j : Int) := by omega
              have HR1 : Hid (partitionEqual ltU d a b pivot = (i, dk)) := by
                have := HP.out
                rw [partEqLoop_eq] at this
                rw [HI2.out] at this
                rw [HJ2.out, if_pos hgt] at this
                show _ = _
                rw [HPART.out]
                exact this.symm
              clear HP HI2 HJ2
              go_wp2_with fail
              go_ret
              exact ⟨_, _, rfl, HR1.out, hkc, hcc⟩
            · have hgi : ¬ (i : Int) > (j : Int) := by omega
              have HP2 : Hid (partEqLoop ltU a (i + 1) (j - 1) (swp dk i j) = RP) := by
                have := HP.out
                rw [partEqLoop_eq] at this
                rw [HI2.out] at this
                rw [HJ2.out, if_neg hgt] at this
                exact this
              have cI := hkc.cell i (by rw [HZ.out]; omega)
              have cJ := hkc.cell j (by rw [HZ.out]; omega)
              have fI := hkc.froz i
              have fJ := hkc.froz j
              have lI : (i : Int) < (d.size : Int) := by omega
              have lJ : (j : Int) < (d.size : Int) := by omega
              have HSF : Hid (∀ n, Rw B g c (swp dk i j) (((wc.drewN n).setCell ⟨g, i, none⟩ (.int .u64 ((dk[j]!).toNat : Int))).setCell ⟨g, j, none⟩ (.int .u64 ((dk[i]!).toNat : Int)))) := fun n => (hkc.drewN n).swp i j
              have HCF : Hid (∀ n, Chg (fun x => x = g) w (((wc.drewN n).setCell ⟨g, i, none⟩ (.int .u64 ((dk[j]!).toNat : Int))).setCell ⟨g, j, none⟩ (.int .u64 ((dk[i]!).toNat : Int)))) := fun n => chg_swp hcc n _ _ _ _
              obtain ⟨⟨uf, huf⟩, fuf⟩ := hkc.then i j (dk[j]!) (by rw [HZ.out]; omega)
              have HA2 : Hid ((swp dk i j)[a]! = A) := by show _ = _; rw [swp_other _ _ _ _ (by omega) (by omega)]; exact HA.out
              have HZ2 : Hid ((swp dk i j).size = d.size) := by show _ = _; rw [swp_size]; exact HZ.out
              have ej : (j : Int) - 1 = ((j - 1 : Nat) : Int) := by omega
              have ejw : IntKind.i64.wrap ((j : Int) - 1) = ((j - 1 : Nat) : Int) := by rw [IntKind.wrap_i64]; omega
              generalize dk[j]! = Sj at *
              generalize dk[i]! = Si at *
              clear hkc hcc
              have hi2 : io ≤ i := by have := scanUp_ge (fun x => !ltU dk[a]! x) dk jo io; rw [HI2.out] at this; exact this
              have hj2 : j ≤ jo := by have := scanDown_le (fun x => ltU dk[a]! x) dk i jo; rw [HJ2.out] at this; exact this
              clear HP HI2 HJ2
              go_wp2_with fail
              go_region
              go_wp2_with fail
              exact ⟨⟨i + 1, j - 1, swp dk i j, by go_num, by first | rfl | go_num, by omega, by omega, by omega, by omega, HZ2, HA2, HSF.out _, HP2, HCF.out _⟩, by simp [intOf]; omega⟩
end Go.Proofs.Ytedpfmalhapmeaa

/- partialInsertionSort at uint64. -/
namespace Go.Proofs.Ytedpfmalhapmeaa
open Go.RowKit Go.Sort
set_option linter.unusedVariables false
set_option maxRecDepth 100000

theorem sd_go (j : Nat) (d : Array UInt64) (hj : 0 < j) (h : ltU d[j]! d[j - 1]! = true) : shiftDown ltU j d = shiftDown ltU (j - 1) (swp d j (j - 1)) := by
  obtain ⟨k, rfl⟩ : ∃ k, j = k + 1 := ⟨j - 1, by omega⟩
  rw [Nat.add_sub_cancel] at *
  rw [shiftDown, h]; rfl
theorem sd_stop (j : Nat) (d : Array UInt64) (h : j = 0 ∨ ltU d[j]! d[j - 1]! = false) : shiftDown ltU j d = d := by
  cases j with
  | zero => rw [shiftDown]
  | succ k =>
    rcases h with h | h
    · cases h
    · rw [Nat.add_sub_cancel] at h
      rw [shiftDown, h]; rfl

set_option maxHeartbeats 16000000 in
theorem upartial_any {B g c : Nat} {d : Array UInt64} {w : World} (h : Rw B g c d w) (a b : Nat) (hb : b ≤ d.size) (ha : a < b) (hsz : d.size ≤ 1152921504606846976) :
    Calls Try.prog 64 #[.slice (some ⟨g, 0, none⟩) d.size c, .int .i64 a, .int .i64 b] w fun e w' => e = .returned (.bool (partialInsertionSort ltU d a b).2) ∧ Rw B g c (partialInsertionSort ltU d a b).1 w' ∧ Chg (fun x => x = g) w w' := by
  obtain ⟨z1, z2, z3, z4⟩ := h.sz
  unfold partialInsertionSort
  generalize hRP : partialIns ltU a b 5 (a + 1) d = RP
  have HRP : Hid _ := hRP
  clear hRP
  go_enter Try.func64, Try.ntmps64
  go_wp2_with fail
  go_loopw [7, 8, 9, 10] (fun vi vs _ _ wr => ∃ (st io : Nat) (dk : Array UInt64), vs = .int .i64 st ∧ st ≤ 5 ∧ vi = .int .i64 io ∧ a < io ∧ io ≤ b ∧ Hid (dk.size = d.size) ∧ Rw B g c dk wr ∧ Hid (partialIns ltU a b (5 - st) io dk = RP) ∧ Chg (fun x => x = g) w wr) (fun _ vs _ _ _ => 6 - (intOf vs).toNat)
  case atStart => exact ⟨0, a + 1, d, rfl, by omega, by go_num, by omega, by omega, rfl, h, HRP, Chg.refl _ _⟩
  case round =>
    obtain ⟨st, io, dk, rfl, hst, rfl, hai0, hib0, HZ, hk, HP, hch⟩ := hrel
    clear h HRP
    by_cases hs5 : st < 5
    · go_wp2_with fail
      generalize hWO : wr = wO at *
      clear hWO wr
      go_loopw [7] (fun vi wr => ∃ i : Nat, vi = .int .i64 i ∧ a < i ∧ i ≤ b ∧ Hid (scanSorted ltU dk b i = scanSorted ltU dk b io) ∧ Rw B g c dk wr ∧ Chg (fun x => x = g) w wr) (fun vi _ => b + 1 - (intOf vi).toNat)
      case atStart => exact ⟨io, rfl, by omega, by omega, rfl, hk, hch⟩
      case round =>
        obtain ⟨i, rfl, hai, hib, HI, hki, hci⟩ := hrel
        clear hk hch
        have s1 : IntKind.i64.wrap ((i : Int) - 1) = ((i - 1 : Nat) : Int) := by rw [IntKind.wrap_i64]; omega
        have s2 : (i : Int) - 1 = ((i - 1 : Nat) : Int) := by omega
        go_upto_region 5 with fail
        go_cut [32] from 17 to 34 (fun s wx => s = .bool (decide (i < b) && !ltU dk[i]! dk[i - 1]!) ∧ Rw B g c dk wx ∧ Chg (fun x => x = g) w wx)
        case first =>
          by_cases hij : i < b
          · have hd1 : decide ((i : Int) < (b : Int)) = true := by simp; omega
            have hd2 : decide (i < b) = true := by simp; omega
            have c1 := hki.cell i (by rw [HZ.out]; omega)
            have c2 := hki.cell (i - 1) (by rw [HZ.out]; omega)
            have l1 : (i : Int) < (d.size : Int) := by omega
            have l2 : ((i - 1 : Nat) : Int) < (d.size : Int) := by omega
            cases hq : ltU dk[i]! dk[i - 1]! with
            | true =>
              have hl := less_q wr _ _ true hq
              have HQ : Hid _ := hq
              clear hq
              go_quiet (first | (go_at_call 65; exact hl _) | fail)
              go_wp2_with fail
              go_meet
              exact ⟨by rw [hd2, HQ.out]; rfl, hki.drewN _, hci.dq _⟩
            | false =>
              have hl := less_q wr _ _ false hq
              have HQ : Hid _ := hq
              clear hq
              go_quiet (first | (go_at_call 65; exact hl _) | fail)
              go_wp2_with fail
              go_meet
              exact ⟨by rw [hd2, HQ.out]; rfl, hki.drewN _, hci.dq _⟩
          · have hd1 : decide ((i : Int) < (b : Int)) = false := by simp; omega
            have hd2 : decide (i < b) = false := by simp; omega
            go_quiet (fail)
            go_wp2_with fail
            go_meet
            exact ⟨by rw [hd2]; rfl, hki.drewN _, hci.dq _⟩
        case rest =>
        obtain ⟨rfl, hkc, hcc⟩ := hcut
        clear hki hci
        cases hT : (decide (i < b) && !ltU dk[i]! dk[i - 1]!) with
        | true =>
          have hij : i < b := by simp only [Bool.and_eq_true, decide_eq_true_eq] at hT; exact hT.1
          have HI2 : Hid (scanSorted ltU dk b (i + 1) = scanSorted ltU dk b io) := by have := HI.out; rw [scanSorted, if_pos hT] at this; exact this
          clear hT HI s1 s2
          go_wp2_with fail
          exact ⟨⟨i + 1, by go_num, by omega, by omega, HI2, hkc, hcc⟩, by simp [intOf]; omega⟩
        | false =>
          have HI2 : Hid (scanSorted ltU dk b io = i) := by have := HI.out; rw [scanSorted, if_neg (by rw [hT]; decide)] at this; exact this.symm
          clear hT HI
          have HPS : Hid ((if i = b then (dk, true) else if b - a < 50 then (dk, false) else partialIns ltU a b (4 - st) i (if b - i ≥ 2 then shiftUp ltU b (i + 1) (if i - a ≥ 2 then shiftDown ltU (i - 1) (swp dk i (i - 1)) else swp dk i (i - 1)) else (if i - a ≥ 2 then shiftDown ltU (i - 1) (swp dk i (i - 1)) else swp dk i (i - 1)))) = RP) := by
            have := HP.out
            rw [show 5 - st = (4 - st) + 1 by omega, partialIns_succ, HI2.out] at this
            exact this
          clear HI2 HP
          by_cases hib2 : i = b
          · have heq : ((i : Int) == (b : Int)) = true := by simp [hib2]
            have HR2 : Hid (RP = (dk, true)) := by have := HPS.out; rw [if_pos hib2] at this; exact this.symm
            obtain rfl := HR2.out
            clear hib2 HPS
            go_wp2_with fail
            go_ret
            exact ⟨rfl, hkc, hcc⟩
          · have heq : ((i : Int) == (b : Int)) = false := by simp; omega
            by_cases h50 : b - a < 50
            · have h5i : (b : Int) - (a : Int) < 50 := by omega
              have HR2 : Hid (RP = (dk, false)) := by have := HPS.out; rw [if_neg hib2, if_pos h50] at this; exact this.symm
              obtain rfl := HR2.out
              clear HPS
              go_wp2_with fail
              go_ret
              exact ⟨rfl, hkc, hcc⟩
            · have h5i : ¬ ((b : Int) - (a : Int) < 50) := by omega
              have HST : Hid (partialIns ltU a b (4 - st) i (if b - i ≥ 2 then shiftUp ltU b (i + 1) (if i - a ≥ 2 then shiftDown ltU (i - 1) (swp dk i (i - 1)) else swp dk i (i - 1)) else (if i - a ≥ 2 then shiftDown ltU (i - 1) (swp dk i (i - 1)) else swp dk i (i - 1))) = RP) := by
                have := HPS.out
                rw [if_neg hib2, if_neg h50] at this
                exact this
              clear HPS
              have hilt : i < b := by omega
              have c1 := hkc.cell i (by rw [HZ.out]; omega)
              have c2 := hkc.cell (i - 1) (by rw [HZ.out]; omega)
              have f1 := hkc.froz i
              have f2 := hkc.froz (i - 1)
              have l1 : (i : Int) < (d.size : Int) := by omega
              have l2 : ((i - 1 : Nat) : Int) < (d.size : Int) := by omega
              have hn1 : ¬ i = i - 1 := by omega
              have hn2 : ¬ i - 1 = i := by omega
              have HSI : Hid (∀ n, Rw B g c (swp dk i (i - 1)) (((wc.drewN n).setCell ⟨g, i, none⟩ (.int .u64 ((dk[i - 1]!).toNat : Int))).setCell ⟨g, i - 1, none⟩ (.int .u64 ((dk[i]!).toNat : Int)))) := fun n => (hkc.drewN n).swp i (i - 1)
              have HCI : Hid (∀ n, Chg (fun x => x = g) w (((wc.drewN n).setCell ⟨g, i, none⟩ (.int .u64 ((dk[i - 1]!).toNat : Int))).setCell ⟨g, i - 1, none⟩ (.int .u64 ((dk[i]!).toNat : Int)))) := fun n => chg_swp hcc n _ _ _ _
              have HZS : Hid ((swp dk i (i - 1)).size = d.size) := by show _ = _; rw [swp_size]; exact HZ.out
              generalize dk[i]! = Xi at *
              generalize dk[i - 1]! = Xj at *
              clear hkc hcc
              by_cases hd2 : 2 ≤ i - a
              · have hd3 : (i : Int) - (a : Int) ≥ 2 := by omega
                obtain ⟨RD, hRD⟩ : ∃ R, shiftDown ltU (i - 1) (swp dk i (i - 1)) = R := ⟨_, rfl⟩
                have HRD : Hid _ := hRD
                have HRDeq : Hid _ := hRD
                clear hRD
                go_wp2_with fail
                go_region
                go_wp2_with fail
                go_loopw [9] (fun vj wr => ∃ (j : Nat) (dn : Array UInt64), vj = .int .i64 j ∧ j < b ∧ Hid (dn.size = d.size) ∧ Rw B g c dn wr ∧ Hid (shiftDown ltU j dn = RD) ∧ Chg (fun x => x = g) w wr) (fun vj _ => (intOf vj).toNat)
                case atStart => exact ⟨i - 1, swp dk i (i - 1), by first | rfl | go_num, by omega, HZS, HSI.out 1, HRD, HCI.out 1⟩
                case round =>
                  obtain ⟨j, dn, rfl, hjb, HZd, hd, HDn, hcd⟩ := hrel
                  clear HSI HCI HRD
                  by_cases hj1 : 1 ≤ j
                  · have c1 := hd.cell j (by rw [HZd.out]; omega)
                    have c2 := hd.cell (j - 1) (by rw [HZd.out]; omega)
                    have f1 := hd.froz j
                    have f2 := hd.froz (j - 1)
                    have s1 : IntKind.i64.wrap ((j : Int) - 1) = ((j - 1 : Nat) : Int) := by rw [IntKind.wrap_i64]; omega
                    have s2 : (j : Int) - 1 = ((j - 1 : Nat) : Int) := by omega
                    have l1 : (j : Int) < (d.size : Int) := by omega
                    have l2 : ((j - 1 : Nat) : Int) < (d.size : Int) := by omega
                    have l3 : (j : Int) ≥ 1 := by omega
                    have HSd : Hid (∀ n, Rw B g c (swp dn j (j - 1)) (((wr.drewN n).setCell ⟨g, j, none⟩ (.int .u64 ((dn[j - 1]!).toNat : Int))).setCell ⟨g, j - 1, none⟩ (.int .u64 ((dn[j]!).toNat : Int)))) := fun n => (hd.drewN n).swp j (j - 1)
                    have hnj : ¬ j = j - 1 := by omega
                    have hnj2 : ¬ j - 1 = j := by omega
                    cases hqd : ltU dn[j]! dn[j - 1]! with
                    | true =>
                      have HD2 : Hid (shiftDown ltU (j - 1) (swp dn j (j - 1)) = RD) := by rw [← sd_go j dn (by omega) hqd]; exact HDn
                      have hl := less_q wr _ _ true hqd
                      have HZ2 : Hid ((swp dn j (j - 1)).size = d.size) := by show _ = _; rw [swp_size]; exact HZd.out
                      clear HDn hqd
                      generalize dn[j]! = Ux at *
                      generalize dn[j - 1]! = Uy at *
                      go_wp2_with fail
                      go_quiet (first | (go_at_call 65; exact hl _) | fail)
                      go_wp2_with fail
                      go_region
                      go_wp2_with fail
                      exact ⟨⟨j - 1, swp dn j (j - 1), by first | rfl | go_num, by omega, HZ2, HSd.out _, HD2, chg_swp hcd _ _ _ _ _⟩, by simp [intOf]; omega⟩
                    | false =>
                      have HD2 : Hid (RD = dn) := by show _ = _; rw [← HDn.out]; exact sd_stop j dn (.inr hqd)
                      have hl := less_q wr _ _ false hqd
                      clear HDn hqd HSd
                      generalize dn[j]! = Ux at *
                      generalize dn[j - 1]! = Uy at *
                      obtain rfl := HD2.out
                      go_wp2_with fail
                      go_quiet (first | (go_at_call 65; exact hl _) | fail)
                      have hdq := hd.drewN nq
                      have hcq := hcd.dq nq
                      clear hd hcd c1 c2 f1 f2 hl
                      generalize wr.drewN nq = wq at *
                      have HREST : Hid (partialIns ltU a b (4 - st) i (if b - i ≥ 2 then shiftUp ltU b (i + 1) RD else RD) = RP) := by
                        have := HST.out
                        rw [if_pos (show i - a ≥ 2 by omega), HRDeq.out] at this
                        exact this
                      by_cases hu2 : 2 ≤ b - i
                      · have hu3 : (b : Int) - (i : Int) ≥ 2 := by omega
                        have hu4 : ¬ ((b : Int) - (i : Int) < 2) := by omega
                        obtain ⟨RU, hRU⟩ : ∃ R, shiftUp ltU b (i + 1) RD = R := ⟨_, rfl⟩
                        have HRU : Hid _ := hRU
                        have HRUeq : Hid _ := hRU
                        clear hRU
                        go_wp2_with fail
                        go_loopw [10] (fun vj wr => ∃ (j : Nat) (du : Array UInt64), vj = .int .i64 j ∧ a < j ∧ j ≤ b ∧ Hid (du.size = d.size) ∧ Rw B g c du wr ∧ Hid (shiftUp ltU b j du = RU) ∧ Chg (fun x => x = g) w wr) (fun vj _ => b + 1 - (intOf vj).toNat)
                        case atStart => exact ⟨i + 1, RD, by go_num, by omega, by omega, HZd, hdq, HRU, hcq⟩
                        case round =>
                          obtain ⟨j, du, rfl, haj, hjb, HZu, hu, HU, hcu⟩ := hrel
                          clear hdq HRU hcq
                          by_cases hjl : j < b
                          · have c1 := hu.cell j (by rw [HZu.out]; omega)
                            have c2 := hu.cell (j - 1) (by rw [HZu.out]; omega)
                            have f1 := hu.froz j
                            have f2 := hu.froz (j - 1)
                            have s1 : IntKind.i64.wrap ((j : Int) - 1) = ((j - 1 : Nat) : Int) := by rw [IntKind.wrap_i64]; omega
                            have s2 : (j : Int) - 1 = ((j - 1 : Nat) : Int) := by omega
                            have l1 : (j : Int) < (d.size : Int) := by omega
                            have l2 : ((j - 1 : Nat) : Int) < (d.size : Int) := by omega
                            have HSu : Hid (∀ n, Rw B g c (swp du j (j - 1)) (((wr.drewN n).setCell ⟨g, j, none⟩ (.int .u64 ((du[j - 1]!).toNat : Int))).setCell ⟨g, j - 1, none⟩ (.int .u64 ((du[j]!).toNat : Int)))) := fun n => (hu.drewN n).swp j (j - 1)
                            have hnj : ¬ j = j - 1 := by omega
                            have hnj2 : ¬ j - 1 = j := by omega
                            cases hqu : ltU du[j]! du[j - 1]! with
                            | true =>
                              have HU2 : Hid (shiftUp ltU b (j + 1) (swp du j (j - 1)) = RU) := by have := HU.out; rw [shiftUp, if_pos hjl, hqu] at this; exact this
                              have hl := less_q wr _ _ true hqu
                              have HZ2 : Hid ((swp du j (j - 1)).size = d.size) := by show _ = _; rw [swp_size]; exact HZu.out
                              clear HU hqu
                              generalize du[j]! = Ux at *
                              generalize du[j - 1]! = Uy at *
                              go_wp2_with fail
                              go_quiet (first | (go_at_call 65; exact hl _) | fail)
                              go_wp2_with fail
                              go_region
                              go_wp2_with fail
                              exact ⟨⟨j + 1, swp du j (j - 1), by go_num, by omega, by omega, HZ2, HSu.out _, HU2, chg_swp hcu _ _ _ _ _⟩, by simp [intOf]; omega⟩
                            | false =>
                              have HU2 : Hid (RU = du) := by have := HU.out; rw [shiftUp, if_pos hjl, hqu] at this; exact this.symm
                              have hl := less_q wr _ _ false hqu
                              clear HU hqu HSu
                              generalize du[j]! = Ux at *
                              generalize du[j - 1]! = Uy at *
                              go_wp2_with fail
                              go_quiet (first | (go_at_call 65; exact hl _) | fail)
                              go_wp2_with fail
                              have HRF : Hid (partialIns ltU a b (4 - st) i du = RP) := by have := HREST.out; rw [if_pos (show b - i ≥ 2 by omega), HRUeq.out, HU2.out] at this; exact this
                              exact ⟨⟨st + 1, i, du, by go_num, by omega, rfl, by omega, by omega, HZu, (hu.drewN _), by show partialIns ltU a b (5 - (st + 1)) i du = RP; rw [show 5 - (st + 1) = 4 - st by omega]; exact HRF.out, (hcu.dq _)⟩, by simp [intOf]; omega⟩
                          · have HU2 : Hid (RU = du) := by have := HU.out; rw [shiftUp, if_neg hjl] at this; exact this.symm
                            clear HU
                            go_wp2_with fail
                            have HRF : Hid (partialIns ltU a b (4 - st) i du = RP) := by have := HREST.out; rw [if_pos (show b - i ≥ 2 by omega), HRUeq.out, HU2.out] at this; exact this
                            exact ⟨⟨st + 1, i, du, by go_num, by omega, rfl, by omega, by omega, HZu, hu, by show partialIns ltU a b (5 - (st + 1)) i du = RP; rw [show 5 - (st + 1) = 4 - st by omega]; exact HRF.out, hcu⟩, by simp [intOf]; omega⟩
                      · have hu3 : ¬ ((b : Int) - (i : Int) ≥ 2) := by omega
                        have HRF : Hid (partialIns ltU a b (4 - st) i RD = RP) := by have := HREST.out; rw [if_neg (show ¬ b - i ≥ 2 by omega)] at this; exact this
                        go_wp2_with fail
                        exact ⟨⟨st + 1, i, RD, by go_num, by omega, rfl, by omega, by omega, HZd, hdq, by show partialIns ltU a b (5 - (st + 1)) i RD = RP; rw [show 5 - (st + 1) = 4 - st by omega]; exact HRF.out, hcq⟩, by simp [intOf]; omega⟩
                  · obtain rfl : j = 0 := by omega
                    have HD2 : Hid (RD = dn) := by show _ = _; rw [← HDn.out]; exact sd_stop 0 dn (.inl rfl)
                    obtain rfl := HD2.out
                    clear HDn
                    have hdq := hd
                    have hcq := hcd
                    clear hd hcd
                    generalize hWq : wr = wq at *
                    clear hWq wr
                    have HREST : Hid (partialIns ltU a b (4 - st) i (if b - i ≥ 2 then shiftUp ltU b (i + 1) RD else RD) = RP) := by
                      have := HST.out
                      rw [if_pos (show i - a ≥ 2 by omega), HRDeq.out] at this
                      exact this
                    by_cases hu2 : 2 ≤ b - i
                    · have hu3 : (b : Int) - (i : Int) ≥ 2 := by omega
                      have hu4 : ¬ ((b : Int) - (i : Int) < 2) := by omega
                      obtain ⟨RU, hRU⟩ : ∃ R, shiftUp ltU b (i + 1) RD = R := ⟨_, rfl⟩
                      have HRU : Hid _ := hRU
                      have HRUeq : Hid _ := hRU
                      clear hRU
                      go_wp2_with fail
                      go_loopw [10] (fun vj wr => ∃ (j : Nat) (du : Array UInt64), vj = .int .i64 j ∧ a < j ∧ j ≤ b ∧ Hid (du.size = d.size) ∧ Rw B g c du wr ∧ Hid (shiftUp ltU b j du = RU) ∧ Chg (fun x => x = g) w wr) (fun vj _ => b + 1 - (intOf vj).toNat)
                      case atStart => exact ⟨i + 1, RD, by go_num, by omega, by omega, HZd, hdq, HRU, hcq⟩
                      case round =>
                        obtain ⟨j, du, rfl, haj, hjb, HZu, hu, HU, hcu⟩ := hrel
                        clear hdq HRU hcq
                        by_cases hjl : j < b
                        · have c1 := hu.cell j (by rw [HZu.out]; omega)
                          have c2 := hu.cell (j - 1) (by rw [HZu.out]; omega)
                          have f1 := hu.froz j
                          have f2 := hu.froz (j - 1)
                          have s1 : IntKind.i64.wrap ((j : Int) - 1) = ((j - 1 : Nat) : Int) := by rw [IntKind.wrap_i64]; omega
                          have s2 : (j : Int) - 1 = ((j - 1 : Nat) : Int) := by omega
                          have l1 : (j : Int) < (d.size : Int) := by omega
                          have l2 : ((j - 1 : Nat) : Int) < (d.size : Int) := by omega
                          have HSu : Hid (∀ n, Rw B g c (swp du j (j - 1)) (((wr.drewN n).setCell ⟨g, j, none⟩ (.int .u64 ((du[j - 1]!).toNat : Int))).setCell ⟨g, j - 1, none⟩ (.int .u64 ((du[j]!).toNat : Int)))) := fun n => (hu.drewN n).swp j (j - 1)
                          have hnj : ¬ j = j - 1 := by omega
                          have hnj2 : ¬ j - 1 = j := by omega
                          cases hqu : ltU du[j]! du[j - 1]! with
                          | true =>
                            have HU2 : Hid (shiftUp ltU b (j + 1) (swp du j (j - 1)) = RU) := by have := HU.out; rw [shiftUp, if_pos hjl, hqu] at this; exact this
                            have hl := less_q wr _ _ true hqu
                            have HZ2 : Hid ((swp du j (j - 1)).size = d.size) := by show _ = _; rw [swp_size]; exact HZu.out
                            clear HU hqu
                            generalize du[j]! = Ux at *
                            generalize du[j - 1]! = Uy at *
                            go_wp2_with fail
                            go_quiet (first | (go_at_call 65; exact hl _) | fail)
                            go_wp2_with fail
                            go_region
                            go_wp2_with fail
                            exact ⟨⟨j + 1, swp du j (j - 1), by go_num, by omega, by omega, HZ2, HSu.out _, HU2, chg_swp hcu _ _ _ _ _⟩, by simp [intOf]; omega⟩
                          | false =>
                            have HU2 : Hid (RU = du) := by have := HU.out; rw [shiftUp, if_pos hjl, hqu] at this; exact this.symm
                            have hl := less_q wr _ _ false hqu
                            clear HU hqu HSu
                            generalize du[j]! = Ux at *
                            generalize du[j - 1]! = Uy at *
                            go_wp2_with fail
                            go_quiet (first | (go_at_call 65; exact hl _) | fail)
                            go_wp2_with fail
                            have HRF : Hid (partialIns ltU a b (4 - st) i du = RP) := by have := HREST.out; rw [if_pos (show b - i ≥ 2 by omega), HRUeq.out, HU2.out] at this; exact this
                            exact ⟨⟨st + 1, i, du, by go_num, by omega, rfl, by omega, by omega, HZu, (hu.drewN _), by show partialIns ltU a b (5 - (st + 1)) i du = RP; rw [show 5 - (st + 1) = 4 - st by omega]; exact HRF.out, (hcu.dq _)⟩, by simp [intOf]; omega⟩
                        · have HU2 : Hid (RU = du) := by have := HU.out; rw [shiftUp, if_neg hjl] at this; exact this.symm
                          clear HU
                          go_wp2_with fail
                          have HRF : Hid (partialIns ltU a b (4 - st) i du = RP) := by have := HREST.out; rw [if_pos (show b - i ≥ 2 by omega), HRUeq.out, HU2.out] at this; exact this
                          exact ⟨⟨st + 1, i, du, by go_num, by omega, rfl, by omega, by omega, HZu, hu, by show partialIns ltU a b (5 - (st + 1)) i du = RP; rw [show 5 - (st + 1) = 4 - st by omega]; exact HRF.out, hcu⟩, by simp [intOf]; omega⟩
                    · have hu3 : ¬ ((b : Int) - (i : Int) ≥ 2) := by omega
                      have HRF : Hid (partialIns ltU a b (4 - st) i RD = RP) := by have := HREST.out; rw [if_neg (show ¬ b - i ≥ 2 by omega)] at this; exact this
                      go_wp2_with fail
                      exact ⟨⟨st + 1, i, RD, by go_num, by omega, rfl, by omega, by omega, HZd, hdq, by show partialIns ltU a b (5 - (st + 1)) i RD = RP; rw [show 5 - (st + 1) = 4 - st by omega]; exact HRF.out, hcq⟩, by simp [intOf]; omega⟩
              · have hd3 : ¬ ((i : Int) - (a : Int) ≥ 2) := by omega
                go_wp2_with fail
                go_region
                have HREST : Hid (partialIns ltU a b (4 - st) i (if b - i ≥ 2 then shiftUp ltU b (i + 1) (swp dk i (i - 1)) else (swp dk i (i - 1))) = RP) := by
                  have := HST.out
                  rw [if_neg (show ¬ i - a ≥ 2 by omega)] at this
                  exact this
                have hkS := HSI.out 1
                have hcS := HCI.out 1
                clear HSI HCI
                by_cases hu2 : 2 ≤ b - i
                · have hu3 : (b : Int) - (i : Int) ≥ 2 := by omega
                  have hu4 : ¬ ((b : Int) - (i : Int) < 2) := by omega
                  obtain ⟨RU, hRU⟩ : ∃ R, shiftUp ltU b (i + 1) (swp dk i (i - 1)) = R := ⟨_, rfl⟩
                  have HRU : Hid _ := hRU
                  have HRUeq : Hid _ := hRU
                  clear hRU
                  go_wp2_with fail
                  go_loopw [10] (fun vj wr => ∃ (j : Nat) (du : Array UInt64), vj = .int .i64 j ∧ a < j ∧ j ≤ b ∧ Hid (du.size = d.size) ∧ Rw B g c du wr ∧ Hid (shiftUp ltU b j du = RU) ∧ Chg (fun x => x = g) w wr) (fun vj _ => b + 1 - (intOf vj).toNat)
                  case atStart => exact ⟨i + 1, (swp dk i (i - 1)), by go_num, by omega, by omega, HZS, hkS, HRU, hcS⟩
                  case round =>
                    obtain ⟨j, du, rfl, haj, hjb, HZu, hu, HU, hcu⟩ := hrel
                    clear hkS HRU hcS
                    by_cases hjl : j < b
                    · have c1 := hu.cell j (by rw [HZu.out]; omega)
                      have c2 := hu.cell (j - 1) (by rw [HZu.out]; omega)
                      have f1 := hu.froz j
                      have f2 := hu.froz (j - 1)
                      have s1 : IntKind.i64.wrap ((j : Int) - 1) = ((j - 1 : Nat) : Int) := by rw [IntKind.wrap_i64]; omega
                      have s2 : (j : Int) - 1 = ((j - 1 : Nat) : Int) := by omega
                      have l1 : (j : Int) < (d.size : Int) := by omega
                      have l2 : ((j - 1 : Nat) : Int) < (d.size : Int) := by omega
                      have HSu : Hid (∀ n, Rw B g c (swp du j (j - 1)) (((wr.drewN n).setCell ⟨g, j, none⟩ (.int .u64 ((du[j - 1]!).toNat : Int))).setCell ⟨g, j - 1, none⟩ (.int .u64 ((du[j]!).toNat : Int)))) := fun n => (hu.drewN n).swp j (j - 1)
                      have hnj : ¬ j = j - 1 := by omega
                      have hnj2 : ¬ j - 1 = j := by omega
                      cases hqu : ltU du[j]! du[j - 1]! with
                      | true =>
                        have HU2 : Hid (shiftUp ltU b (j + 1) (swp du j (j - 1)) = RU) := by have := HU.out; rw [shiftUp, if_pos hjl, hqu] at this; exact this
                        have hl := less_q wr _ _ true hqu
                        have HZ2 : Hid ((swp du j (j - 1)).size = d.size) := by show _ = _; rw [swp_size]; exact HZu.out
                        clear HU hqu
                        generalize du[j]! = Ux at *
                        generalize du[j - 1]! = Uy at *
                        go_wp2_with fail
                        go_quiet (first | (go_at_call 65; exact hl _) | fail)
                        go_wp2_with fail
                        go_region
                        go_wp2_with fail
                        exact ⟨⟨j + 1, swp du j (j - 1), by go_num, by omega, by omega, HZ2, HSu.out _, HU2, chg_swp hcu _ _ _ _ _⟩, by simp [intOf]; omega⟩
                      | false =>
                        have HU2 : Hid (RU = du) := by have := HU.out; rw [shiftUp, if_pos hjl, hqu] at this; exact this.symm
                        have hl := less_q wr _ _ false hqu
                        clear HU hqu HSu
                        generalize du[j]! = Ux at *
                        generalize du[j - 1]! = Uy at *
                        go_wp2_with fail
                        go_quiet (first | (go_at_call 65; exact hl _) | fail)
                        go_wp2_with fail
                        have HRF : Hid (partialIns ltU a b (4 - st) i du = RP) := by have := HREST.out; rw [if_pos (show b - i ≥ 2 by omega), HRUeq.out, HU2.out] at this; exact this
                        exact ⟨⟨st + 1, i, du, by go_num, by omega, rfl, by omega, by omega, HZu, (hu.drewN _), by show partialIns ltU a b (5 - (st + 1)) i du = RP; rw [show 5 - (st + 1) = 4 - st by omega]; exact HRF.out, (hcu.dq _)⟩, by simp [intOf]; omega⟩
                    · have HU2 : Hid (RU = du) := by have := HU.out; rw [shiftUp, if_neg hjl] at this; exact this.symm
                      clear HU
                      go_wp2_with fail
                      have HRF : Hid (partialIns ltU a b (4 - st) i du = RP) := by have := HREST.out; rw [if_pos (show b - i ≥ 2 by omega), HRUeq.out, HU2.out] at this; exact this
                      exact ⟨⟨st + 1, i, du, by go_num, by omega, rfl, by omega, by omega, HZu, hu, by show partialIns ltU a b (5 - (st + 1)) i du = RP; rw [show 5 - (st + 1) = 4 - st by omega]; exact HRF.out, hcu⟩, by simp [intOf]; omega⟩
                · exfalso; omega
    · obtain rfl : st = 5 := by omega
      have HR2 : Hid (RP = (dk, false)) := by have := HP.out; rw [Nat.sub_self, partialIns] at this; exact this.symm
      obtain rfl := HR2.out
      clear HP
      go_wp2_with fail
      go_ret
      exact ⟨rfl, hk, hch⟩
end Go.Proofs.Ytedpfmalhapmeaa

/- breakPatterns at uint64: a permutation within the range. -/
namespace Go.Proofs.Ytedpfmalhapmeaa
open Go.RowKit Go.Sort
set_option linter.unusedVariables false
set_option maxRecDepth 100000

set_option maxHeartbeats 2000000 in
theorem xnext_any {g : Nat} {w : World} (q : Nat) (hq : q < 18446744073709551616) (hc : w.heap[g]? = some (.cells #[.int .u64 (q : Int)] 93 (0, 0))) :
    Calls Try.prog 73 #[.pointer (some ⟨g, 0, none⟩)] w fun e w' => (∃ r : Nat, r < 18446744073709551616 ∧ e = .returned (.int .u64 r) ∧ w'.heap[g]? = some (.cells #[.int .u64 (r : Int)] 93 (0, 0))) ∧ Chg (fun b => b = g) w w' := by
  have x64 : ∀ x y : Nat, x < 18446744073709551616 → y < 18446744073709551616 → x ^^^ y < 18446744073709551616 := fun x y h1 h2 => Nat.xor_lt_two_pow (n := 64) (by omega) (by omega)
  obtain ⟨A, hA⟩ : ∃ A : Nat, A = q ^^^ (q * 8192 % 18446744073709551616) := ⟨_, rfl⟩
  have lA : A < 18446744073709551616 := by rw [hA]; exact x64 _ _ hq (by omega)
  obtain ⟨C, hC⟩ : ∃ C : Nat, C = A ^^^ (A / 128) := ⟨_, rfl⟩
  have lC : C < 18446744073709551616 := by rw [hC]; exact x64 _ _ lA (by omega)
  obtain ⟨E, hE⟩ : ∃ E : Nat, E = C ^^^ (C * 131072 % 18446744073709551616) := ⟨_, rfl⟩
  have lE : E < 18446744073709551616 := by rw [hE]; exact x64 _ _ lC (by omega)
  have e1 : bits .xor .u64 (q : Int) (IntKind.u64.wrap ((q : Int) * 8192)) = (A : Int) := by
    have e : ((q : Int) * 8192 % 18446744073709551616) = ((q * 8192 % 18446744073709551616 : Nat) : Int) := by omega
    rw [IntKind.wrap_u64, e, bits_xor_u64_nat _ _ hq (by omega), hA]
  have e2 : bits .xor .u64 (A : Int) ((A : Int) / 128) = (C : Int) := by
    have e : ((A : Int) / 128) = ((A / 128 : Nat) : Int) := by omega
    rw [e, bits_xor_u64_nat _ _ lA (by omega), hC]
  have e3 : bits .xor .u64 (C : Int) (IntKind.u64.wrap ((C : Int) * 131072)) = (E : Int) := by
    have e : ((C : Int) * 131072 % 18446744073709551616) = ((C * 131072 % 18446744073709551616 : Nat) : Int) := by omega
    rw [IntKind.wrap_u64, e, bits_xor_u64_nat _ _ lC (by omega), hE]
  clear hA hC hE x64
  have c0 : w.cell? ⟨g, 0, none⟩ = some (.int .u64 (q : Int)) := by rw [cell_of_row _ _ _ _ _ _ hc]; rfl
  have f0 : w.frozen? ⟨g, 0, none⟩ = false := frozen_of_row _ _ _ _ _ hc
  have stp : ∀ (W : World) (u v : Nat), W.heap[g]? = some (.cells #[.int .u64 (u : Int)] 93 (0, 0)) → Chg (fun b => b = g) w W → ∀ n, ((W.drewN n).setCell ⟨g, 0, none⟩ (.int .u64 (v : Int))).heap[g]? = some (.cells #[.int .u64 (v : Int)] 93 (0, 0)) ∧ Chg (fun b => b = g) w ((W.drewN n).setCell ⟨g, 0, none⟩ (.int .u64 (v : Int))) := fun W u v h1 h2 n => ⟨by rw [heap_setCell_same (W.drewN n) g 0 _ _ _ h1]; rfl, (h2.dq n).put g 0 _ rfl⟩
  have HST : Hid _ := stp
  clear stp
  go_enter Try.func73, Try.ntmps73
  go_wp2_with fail
  go_region
  go_wp2_with fail
  have hcP := hc
  have hgP := Chg.refl (fun b => b = g) w
  have hc1 : (w.setCell ⟨g, 0, none⟩ (.int .u64 (A : Int))).drew.heap[g]? = some (.cells #[.int .u64 (A : Int)] 93 (0, 0)) := (HST.out w q A hcP hgP 1).1
  have hg1 : Chg (fun b => b = g) w (w.setCell ⟨g, 0, none⟩ (.int .u64 (A : Int))).drew := (HST.out w q A hcP hgP 1).2
  clear hcP hgP
  generalize (w.setCell ⟨g, 0, none⟩ (.int .u64 (A : Int))).drew = W1 at *
  have hcP := hc1
  have hgP := hg1
  have k1 : W1.cell? ⟨g, 0, none⟩ = some (.int .u64 (A : Int)) := by rw [cell_of_row _ _ _ _ _ _ hcP]; rfl
  have f1 : W1.frozen? ⟨g, 0, none⟩ = false := frozen_of_row _ _ _ _ _ hcP
  go_region
  go_wp2_with fail
  have hc2 : (W1.setCell ⟨g, 0, none⟩ (.int .u64 (C : Int))).drew.heap[g]? = some (.cells #[.int .u64 (C : Int)] 93 (0, 0)) := (HST.out W1 A C hcP hgP 1).1
  have hg2 : Chg (fun b => b = g) w (W1.setCell ⟨g, 0, none⟩ (.int .u64 (C : Int))).drew := (HST.out W1 A C hcP hgP 1).2
  clear hcP hgP
  generalize (W1.setCell ⟨g, 0, none⟩ (.int .u64 (C : Int))).drew = W2 at *
  have hcP := hc2
  have hgP := hg2
  have k2 : W2.cell? ⟨g, 0, none⟩ = some (.int .u64 (C : Int)) := by rw [cell_of_row _ _ _ _ _ _ hcP]; rfl
  have f2 : W2.frozen? ⟨g, 0, none⟩ = false := frozen_of_row _ _ _ _ _ hcP
  go_region
  go_wp2_with fail
  have hc3 : (W2.setCell ⟨g, 0, none⟩ (.int .u64 (E : Int))).drew.heap[g]? = some (.cells #[.int .u64 (E : Int)] 93 (0, 0)) := (HST.out W2 C E hcP hgP 1).1
  have hg3 : Chg (fun b => b = g) w (W2.setCell ⟨g, 0, none⟩ (.int .u64 (E : Int))).drew := (HST.out W2 C E hcP hgP 1).2
  clear hcP hgP
  generalize (W2.setCell ⟨g, 0, none⟩ (.int .u64 (E : Int))).drew = W3 at *
  have hcP := hc3
  have hgP := hg3
  have k3 : W3.cell? ⟨g, 0, none⟩ = some (.int .u64 (E : Int)) := by rw [cell_of_row _ _ _ _ _ _ hcP]; rfl
  have f3 : W3.frozen? ⟨g, 0, none⟩ = false := frozen_of_row _ _ _ _ _ hcP
  go_wp2_with fail
  go_ret
  exact ⟨⟨E, lE, rfl, hcP⟩, hgP⟩

theorem pow_bitLen : ∀ f n : Nat, 0 < n → 2 ^ Lib.bitLenAux f n ≤ 2 * n
  | 0, n, h => by simp [Lib.bitLenAux]; omega
  | f + 1, n, h => by
    rw [Lib.bitLenAux, if_neg (by omega)]
    by_cases h2 : n / 2 = 0
    · have e : Lib.bitLenAux f 0 = 0 := by cases f <;> simp [Lib.bitLenAux]
      rw [h2, e]; omega
    · have := pow_bitLen f (n / 2) (by omega)
      rw [Nat.pow_add]; omega

set_option maxHeartbeats 1000000 in
theorem npow_any (n : Nat) (hn : n ≤ 1152921504606846976) (h0 : 0 < n) (w : World) : Calls Try.prog 72 #[.int .i64 n] w fun e w' => ∃ M : Nat, 0 < M ∧ M ≤ 2 * n ∧ e = .returned (.int .u64 M) ∧ w' = w := by
  have hl := Try.bits_Len (n : Int) w (by omega) (by omega)
  have hp := pow_bitLen 64 n h0
  obtain ⟨r, hr⟩ : ∃ r, r = Lib.bitLenAux 64 n := ⟨_, rfl⟩
  have er : Lib.bitLen (n : Int).toNat = r := by rw [hr]; rfl
  rw [er] at hl
  rw [← hr] at hp
  obtain ⟨M, hM⟩ : ∃ M, M = 2 ^ r := ⟨_, rfl⟩
  have hMp : 0 < M := by rw [hM]; exact Nat.pow_pos (by decide)
  rw [← hM] at hp
  have hr62 : r < 62 := by
    by_cases h : r < 62
    · exact h
    · have h1 : 2 ^ 62 ≤ 2 ^ r := Nat.pow_le_pow_right (by decide) (by omega)
      rw [← hM] at h1
      have : (2 : Nat) ^ 62 = 4611686018427387904 := by decide
      omega
  clear hr er
  go_enter Try.func72, Try.ntmps72
  go_wp2_with fail
  refine hl.mono ?_
  rintro e w1 ⟨rfl, rfl⟩
  have hsh : IntKind.u64.wrap (1 * 2 ^ r) = (M : Int) := by
    rw [IntKind.wrap_u64, hM]
    have h1 : (2 : Nat) ^ r ≤ 2 ^ 62 := Nat.pow_le_pow_right (by decide) (by omega)
    have e : ((2 ^ r : Nat) : Int) = (2 : Int) ^ r := by simp
    have : (2 : Nat) ^ 62 = 4611686018427387904 := by decide
    rw [Int.one_mul, ← e]; omega
  rw [Int.one_mul] at hsh
  go_wp2_with fail
  go_ret
  exact ⟨M, hMp, hp, by show Ending.returned (.int .u64 ((2 : Int) ^ r)) = _; rw [hM]; simp, rfl⟩

theorem and_u64 (x y : Nat) (hx : x < 18446744073709551616) (hy : y < 18446744073709551616) : bits .and .u64 (x : Int) (y : Int) = ((x &&& y : Nat) : Int) := by
  have hle : x &&& y ≤ y := Nat.and_le_right
  have h1 : (BitVec.ofInt 64 (x : Int)).toNat = x := by
    rw [BitVec.ofInt_natCast, BitVec.toNat_ofNat]; exact Nat.mod_eq_of_lt (by omega)
  have h2 : (BitVec.ofInt 64 (y : Int)).toNat = y := by
    rw [BitVec.ofInt_natCast, BitVec.toNat_ofNat]; exact Nat.mod_eq_of_lt (by omega)
  show IntKind.u64.wrap ((BitVec.ofInt 64 (x : Int) &&& BitVec.ofInt 64 (y : Int)).toNat : Int) = _
  rw [BitVec.toNat_and, h1, h2, IntKind.wrap_u64]
  omega

theorem chg_two {g s : Nat} {w W W' : World} (h : Chg (fun x => x = g) w W) (k : Chg (fun b => b = s) W W') (hs : w.heap.size ≤ s) : Chg (fun x => x = g) w W' := h.trans (k.mono (fun b _ q => .inr (by omega)))

set_option maxHeartbeats 8000000 in
theorem ubreak_any {B g c : Nat} {d : Array UInt64} {w : World} (h : Rw B g c d w) (a b : Nat) (hb : b ≤ d.size) (ha : a + 13 ≤ b) (hsz : d.size ≤ 1152921504606846976) :
    Calls Try.prog 61 #[.slice (some ⟨g, 0, none⟩) d.size c, .int .i64 a, .int .i64 b] w fun e w' => e = .returned (.tuple #[]) ∧ (∃ d', Rw B g c d' w' ∧ PermIn a b d d') ∧ Chg (fun x => x = g) w w' := by
  obtain ⟨z1, z2, z3, z4⟩ := h.sz
  obtain ⟨l, hl⟩ : ∃ k, k = b - a := ⟨_, rfl⟩
  obtain ⟨m, hm⟩ : ∃ k, k = l / 4 := ⟨_, rfl⟩
  obtain ⟨i0, hi0⟩ : ∃ k, k = a + m * 2 - 1 := ⟨_, rfl⟩
  obtain ⟨i1, hi1⟩ : ∃ k, k = a + m * 2 := ⟨_, rfl⟩
  have e1 : (b : Int) - (a : Int) = (l : Int) := by omega
  have e2 : (l : Int) / 4 = (m : Int) := by omega
  have e3 : (a : Int) + (m : Int) * 2 = (i1 : Int) := by omega
  have e4 : (i1 : Int) - 1 = (i0 : Int) := by omega
  have bi : a ≤ i0 ∧ i0 + 2 < b := by omega
  have b01 : i1 = i0 + 1 := by omega
  have hl8 : 8 ≤ l := by omega
  have hlb : a + l = b := by omega
  have hms : m ≤ d.size := by omega
  have hlz : l ≤ d.size := by omega
  have HB01 : Hid _ := b01
  have HLB : Hid _ := hlb
  clear hl hm hi0 hi1 b01 hlb
  have hb0 := heap_alloc_new w (.cells #[.int .u64 (l : Int)] 93)
  have hr0 : Rw B g c d (w.alloc (.cells #[.int .u64 (l : Int)] 93)) := Ou.alloc h _
  have hc0 : Chg (fun x => x = g) w (w.alloc (.cells #[.int .u64 (l : Int)] 93)) := (Chg.refl _ w).alloc _
  have hnp := npow_any l (by omega) (by omega) (w.alloc (.cells #[.int .u64 (l : Int)] 93))
  have hsg : w.heap.size ≠ g := by omega
  clear h
  go_enter Try.func61, Try.ntmps61
  go_wp2_with fail
  refine hnp.mono ?_
  rintro e w1 ⟨M, hM0, hM2, rfl, rfl⟩
  go_wp2_with fail
  generalize (w.alloc (.cells #[.int .u64 (l : Int)] 93)) = W0 at *
  go_loopw [9, 10] (fun vi _ wr => ∃ (t q : Nat) (dk : Array UInt64), t ≤ 3 ∧ vi = .int .i64 ((i0 + t : Nat) : Int) ∧ q < 18446744073709551616 ∧ Hid (dk.size = d.size) ∧ Rw B g c dk wr ∧ Hid (PermIn a b d dk) ∧ Hid (wr.heap[w.heap.size]? = some (.cells #[.int .u64 (q : Int)] 93 (0, 0))) ∧ Chg (fun x => x = g) w wr) (fun vi _ _ => i0 + 4 - (intOf vi).toNat)
  case atStart => exact ⟨0, l, d, by omega, by first | rfl | go_num, by omega, rfl, hr0, permIn_refl _ _ _, hb0, hc0⟩
  case round =>
    obtain ⟨t, q, dk, ht, rfl, hq, HZ, hk, HP, HC, hch⟩ := hrel
    clear hnp hb0 hr0 hc0
    obtain ⟨ix, hix⟩ : ∃ x, x = i0 + t := ⟨_, rfl⟩
    rw [← hix]
    by_cases htl : t < 3
    · have hle : (ix : Int) ≤ (i1 : Int) + 1 := by have := HB01.out; omega
      have bx : a ≤ ix ∧ ix < b := by omega
      have hnx := xnext_any q hq HC.out
      obtain ⟨m1, hm1⟩ : ∃ x, x = M - 1 := ⟨_, rfl⟩
      have em : (M : Int) - 1 = (m1 : Int) := by omega
      have emw : IntKind.u64.wrap ((M : Int) - 1) = (m1 : Int) := by rw [IntKind.wrap_u64]; omega
      have hm1l : m1 < 2 * l := by omega
      have HIX : Hid ((ix : Int) + 1 = ((i0 + (t + 1) : Nat) : Int)) := by show _ = _; omega
      clear hm1 hix
      go_wp2_with fail
      refine hnx.mono ?_
      rintro e w1 ⟨⟨R, hR, rfl, hc1⟩, hg1⟩
      have hk1 : Rw B g c dk w1 := ownsRow_keptC hk hg1 (fun b e q => hsg (by rw [← q]; exact (Option.some.inj e).symm ▸ rfl))
      have hch1 : Chg (fun x => x = g) w w1 := chg_two hch hg1 (Nat.le_refl _)
      obtain ⟨o, ho⟩ : ∃ o, o = R &&& m1 := ⟨_, rfl⟩
      have hoe : bits .and .u64 (R : Int) (m1 : Int) = (o : Int) := by rw [and_u64 R m1 hR (by omega), ho]
      have hol : o ≤ m1 := by rw [ho]; exact Nat.and_le_right
      have HC1 : Hid _ := hc1
      clear ho hk hch hnx hg1 hc1
      -- the place that is drawn
      have fin : ∀ p : Nat, p < l → ∀ n, Rw B g c (swp dk ix (a + p)) (((w1.drewN n).setCell ⟨g, ix, none⟩ (.int .u64 ((dk[a + p]!).toNat : Int))).setCell ⟨g, a + p, none⟩ (.int .u64 ((dk[ix]!).toNat : Int))) ∧ PermIn a b d (swp dk ix (a + p)) ∧ (swp dk ix (a + p)).size = d.size := fun p hp n => by
        have hlb := HLB.out
        refine ⟨(hk1.drewN n).swp ix (a + p), permIn_trans _ _ _ a b HP.out (swp_permIn dk a b ix (a + p) bx.1 bx.2 (by omega) (by omega) (by rw [HZ.out]; exact hb)), by rw [swp_size]; exact HZ.out⟩
      have HFIN : Hid _ := fin
      clear fin
      have hc2 : ∀ (p : Nat) (n : Nat) (X Y : Value), ((((w1.drewN n).setCell ⟨g, ix, none⟩ X).setCell ⟨g, a + p, none⟩ Y)).heap[w.heap.size]? = some (.cells #[.int .u64 (R : Int)] 93 (0, 0)) := fun p n X Y => by
        have hcg : Chg (fun x => x = g) w1 ((((w1.drewN n).setCell ⟨g, ix, none⟩ X).setCell ⟨g, a + p, none⟩ Y)) := chg_swp (Chg.refl _ _) n _ _ _ _
        rw [hcg.block _ (Array.getElem?_eq_some_iff.1 HC1.out).1 hsg]
        exact HC1.out
      have HC2 : Hid _ := hc2
      clear hc2
      have cI := hk1.cell ix (by rw [HZ.out]; omega)
      have fI := hk1.froz ix
      have lI : (ix : Int) < (d.size : Int) := by omega
      by_cases hol2 : l ≤ o
      · obtain ⟨p, hp⟩ : ∃ p, p = o - l := ⟨_, rfl⟩
        have eo : (o : Int) - (l : Int) = (p : Int) := by omega
        have hpl : p < l := by omega
        obtain ⟨ap, hap⟩ : ∃ x, x = a + p := ⟨_, rfl⟩
        have ea : (a : Int) + (p : Int) = (ap : Int) := by omega
        have hlb := HLB.out
        have cP := hk1.cell ap (by rw [HZ.out]; omega)
        have fP := hk1.froz ap
        have lP : (ap : Int) < (d.size : Int) := by omega
        obtain ⟨⟨uf, huf⟩, fuf⟩ := hk1.then ix ap dk[ap]! (by rw [HZ.out]; omega)
        have HF2 : Hid _ := HFIN.out p hpl
        have HCC : Hid _ := HC2.out p
        rw [← hap] at HF2 HCC
        have eix : (ix : Int) + 1 = ((i0 + (t + 1) : Nat) : Int) := HIX.out
        clear hp hap hlb eix
        generalize dk[ap]! = Yp at *
        generalize dk[ix]! = Xi at *
        go_wp2_with fail
        go_region
        go_wp2_with fail
        exact ⟨⟨t + 1, R, swp dk ix ap, by omega, by rw [← HIX.out], hR, (HF2.out 1).2.2, (HF2.out _).1, (HF2.out 1).2.1, HCC.out _ _ _, chg_swp hch1 _ _ _ _ _⟩, by simp [intOf]; omega⟩
      · have hpl : o < l := by omega
        obtain ⟨p, hp⟩ : ∃ p, p = o := ⟨_, rfl⟩
        subst hp
        obtain ⟨ap, hap⟩ : ∃ x, x = a + p := ⟨_, rfl⟩
        have ea : (a : Int) + (p : Int) = (ap : Int) := by omega
        have hlb := HLB.out
        have cP := hk1.cell ap (by rw [HZ.out]; omega)
        have fP := hk1.froz ap
        have lP : (ap : Int) < (d.size : Int) := by omega
        obtain ⟨⟨uf, huf⟩, fuf⟩ := hk1.then ix ap dk[ap]! (by rw [HZ.out]; omega)
        have HF2 : Hid _ := HFIN.out p hpl
        have HCC : Hid _ := HC2.out p
        rw [← hap] at HF2 HCC
        have eix : (ix : Int) + 1 = ((i0 + (t + 1) : Nat) : Int) := HIX.out
        clear hap hlb eix
        generalize dk[ap]! = Yp at *
        generalize dk[ix]! = Xi at *
        go_wp2_with fail
        go_region
        go_wp2_with fail
        exact ⟨⟨t + 1, R, swp dk ix ap, by omega, by rw [← HIX.out], hR, (HF2.out 1).2.2, (HF2.out _).1, (HF2.out 1).2.1, HCC.out _ _ _, chg_swp hch1 _ _ _ _ _⟩, by simp [intOf]; omega⟩
    · have hle : ¬ (ix : Int) ≤ (i1 : Int) + 1 := by have := HB01.out; omega
      clear hix
      go_wp2_with fail
      go_end0
      exact ⟨rfl, ⟨dk, hk, HP.out⟩, hch⟩
end Go.Proofs.Ytedpfmalhapmeaa

/- pdqsort and slices.Sort at uint64, of any length. -/
namespace Go.Proofs.Ytedpfmalhapmeaa
open Go.RowKit Go.Sort
set_option linter.unusedVariables false
set_option maxRecDepth 100000

/-- What pdqsort comes to from a to b: a sorted permutation there. -/
def PdqOk (n : Nat) : Prop := ∀ (B g c : Nat) (d : Array UInt64) (w : World) (a b limit : Nat), Rw B g c d w → a ≤ b → b ≤ d.size → d.size ≤ 1152921504606846976 → limit ≤ 64 → b - a ≤ n → Go.Sort.Below ltU a b d →
  Calls Try.prog 54 #[.slice (some ⟨g, 0, none⟩) d.size c, .int .i64 a, .int .i64 b, .int .i64 limit] w fun e w' => e = .returned (.tuple #[]) ∧ (∃ d', Rw B g c d' w' ∧ PermIn a b d d' ∧ SortedIn ltU a b d') ∧ Chg (fun x => x = g) w w'

theorem permIn_size {a b : Nat} {d d' : Array UInt64} (h : PermIn a b d d') : d'.size = d.size := h.1

def IsB (v : Value) : Prop := ∃ b : Bool, v = .bool b
theorem isB (b : Bool) : IsB (.bool b) := ⟨b, rfl⟩
/-- What is left to do at a state of pdqsort's loop: a sorted permutation there is one of the whole. -/
def Goes (a b : Nat) (d : Array UInt64) (lo hi : Nat) (dk : Array UInt64) : Prop := ∀ R, PermIn lo hi dk R → SortedIn ltU lo hi R → PermIn a b d R ∧ SortedIn ltU a b R
theorem Goes.perm {a b : Nat} {d : Array UInt64} {lo hi : Nat} {dk d1 : Array UInt64} (h : Goes a b d lo hi dk) (hp : PermIn lo hi dk d1) : Goes a b d lo hi d1 := fun R h1 h2 => h R (permIn_trans _ _ _ lo hi hp h1) h2

set_option maxHeartbeats 16000000 in
theorem pdq_step (n : Nat) (hIH : PdqOk n) : PdqOk (n + 1) := by
  intro B g c d w a b limit h hab hbs hsz hlm hn hBl
  obtain ⟨z1, z2, z3, z4⟩ := h.sz
  have HIH : Hid _ := hIH
  have HBL : Hid _ := hBl
  clear hIH hBl
  go_enter Try.func54, Try.ntmps54
  go_wp2_with fail
  go_loopw [1, 2, 3, 8, 9, 10, 11, 12, 13, 14, 15, 16, 17, 18] (fun va vb vl v8 v9 _ _ _ _ _ _ _ _ _ wr => ∃ (lo hi lm : Nat) (dk : Array UInt64), va = .int .i64 lo ∧ vb = .int .i64 hi ∧ vl = .int .i64 lm ∧ IsB v8 ∧ IsB v9 ∧ lo ≤ hi ∧ hi ≤ d.size ∧ hi - lo ≤ n + 1 ∧ lm ≤ 64 ∧ Hid (dk.size = d.size) ∧ Rw B g c dk wr ∧ Hid (Go.Sort.Below ltU lo hi dk) ∧ Hid (Goes a b d lo hi dk) ∧ Chg (fun x => x = g) w wr) (fun va vb _ _ _ _ _ _ _ _ _ _ _ _ _ => (intOf vb).toNat - (intOf va).toNat)
  case atStart => exact ⟨a, b, limit, d, rfl, rfl, rfl, isB _, isB _, hab, hbs, hn, hlm, rfl, h, HBL, fun R h1 h2 => ⟨h1, h2⟩, Chg.refl _ _⟩
  case round =>
    obtain ⟨lo, hi, lm, dk, rfl, rfl, rfl, ⟨wb, rfl⟩, ⟨wp, rfl⟩, hlh, hhs, hln, hlm2, HZ, hk, HB, HG, hch⟩ := hrel
    clear h HBL
    obtain ⟨ln, hln2⟩ : ∃ x, x = hi - lo := ⟨_, rfl⟩
    have e1 : (hi : Int) - (lo : Int) = (ln : Int) := by omega
    by_cases h12 : ln ≤ 12
    · have h12i : (ln : Int) ≤ 12 := by omega
      have hin := uins_any hk lo hi (by rw [HZ.out]; exact hhs) hlh (by rw [HZ.out]; omega)
      rw [HZ.out] at hin
      clear hln2
      go_wp2_with fail
      refine hin.mono ?_
      rintro e w1 ⟨rfl, hw1, hc1⟩
      go_wp2_with fail
      (try simp only [Exit.inBlock, Exit.then])
      refine bodyPost_ret (results_none rfl _ _ _) rfl ?_
      obtain ⟨hP, hS⟩ := insertionSort_holds (lt := ltU) swo_ltU dk lo hi hlh (by rw [HZ.out]; exact hhs)
      exact ⟨rfl, ⟨_, hw1, HG.out _ hP hS⟩, hch.trans (hc1.mono (fun b _ q => .inl q))⟩
    · have h12i : ¬ (ln : Int) ≤ 12 := by omega
      by_cases hl0 : lm = 0
      · subst hl0
        have hhp := uheap_any hk lo hi (by rw [HZ.out]; exact hhs) (by omega) (by rw [HZ.out]; exact hsz)
        rw [HZ.out] at hhp
        clear hln2
        go_wp2_with fail
        refine hhp.mono ?_
        rintro e w1 ⟨rfl, hw1, hc1⟩
        go_wp2_with fail
        (try simp only [Exit.inBlock, Exit.then])
        refine bodyPost_ret (results_none rfl _ _ _) rfl ?_
        obtain ⟨hP, hS⟩ := heapSort_holds (lt := ltU) swo_ltU dk lo hi hlh (by rw [HZ.out]; exact hhs)
        exact ⟨rfl, ⟨_, hw1, HG.out _ hP hS⟩, hch.trans (hc1.mono (fun b _ q => .inl q))⟩
      · have hl0i : ((lm : Int) == 0) = false := by simp; omega
        have h13 : lo + 13 ≤ hi := by omega
        have HLN : Hid _ := hln2
        clear hln2
        have hbk := ubreak_any hk lo hi (by rw [HZ.out]; exact hhs) h13 (by rw [HZ.out]; exact hsz)
        rw [HZ.out] at hbk
        go_upto_if 35 with fail
        go_cut [3] from 19 to 133 (fun s wx => ∃ (l2 : Nat) (d1 : Array UInt64), s = .int .i64 l2 ∧ l2 ≤ 64 ∧ Hid (d1.size = d.size) ∧ Rw B g c d1 wx ∧ Hid (PermIn lo hi dk d1) ∧ Chg (fun x => x = g) w wx)
        case first =>
          cases wb with
          | true =>
            go_wp2_with fail
            go_meet
            exact ⟨lm, dk, rfl, hlm2, HZ, hk, permIn_refl _ _ _, hch⟩
          | false =>
            have el : (lm : Int) - 1 = ((lm - 1 : Nat) : Int) := by omega
            have elw : IntKind.i64.wrap ((lm : Int) - 1) = ((lm - 1 : Nat) : Int) := by rw [IntKind.wrap_i64]; omega
            go_wp2_with fail
            refine hbk.mono ?_
            rintro e w1 ⟨rfl, ⟨d1, hw1, hp1⟩, hc1⟩
            go_wp2_with fail
            go_meet
            exact ⟨lm - 1, d1, by first | rfl | go_num, by omega, by show _ = _; rw [hp1.1]; exact HZ.out, hw1, hp1, hch.trans (hc1.mono (fun b _ q => .inl q))⟩
        case rest =>
        obtain ⟨l2, d1, rfl, hl2, HZ1, hk1, HP1, hch1⟩ := hcut
        clear hk hch hbk
        have hpv := upivot_any hk1 lo hi (by rw [HZ1.out]; exact hhs) h13 (by rw [HZ1.out]; exact hsz)
        rw [HZ1.out] at hpv
        go_wp2_with fail
        refine hpv.mono ?_
        rintro e w2 ⟨⟨pv, hnt, rfl, pv1, pv2, hh2, hk2⟩, hb2⟩
        have hch2 : Chg (fun x => x = g) w w2 := hch1.trans ((Chg.of_below hb2).mono (fun b h1 h2 => .inr (by have := hch1.size; omega)))
        clear hpv hk1 hch1 hb2
        have hrv := urev_any hk2 lo hi (by rw [HZ1.out]; exact hhs) (by omega) (by rw [HZ1.out]; exact hsz)
        rw [HZ1.out] at hrv
        go_upto_if 50 with fail
        go_cut [11, 12] from 19 to 133 (fun s t wx => ∃ (p3 hn3 : Nat) (d2 : Array UInt64), s = .int .i64 p3 ∧ t = .int .i64 hn3 ∧ lo ≤ p3 ∧ p3 < hi ∧ hn3 ≤ 2 ∧ Hid (d2.size = d.size) ∧ Rw B g c d2 wx ∧ Hid (PermIn lo hi dk d2) ∧ Chg (fun x => x = g) w wx)
        case first =>
          by_cases h2 : hnt = 2
          · have h2i : ((hnt : Int) == 2) = true := by simp [h2]
            obtain ⟨p3, hp3⟩ : ∃ x, x = (hi - 1) - (pv - lo) := ⟨_, rfl⟩
            obtain ⟨h1, hh1⟩ : ∃ x, x = hi - 1 := ⟨_, rfl⟩
            obtain ⟨q1, hq1⟩ : ∃ x, x = pv - lo := ⟨_, rfl⟩
            have ea : (hi : Int) - 1 = (h1 : Int) := by omega
            have eb : (pv : Int) - (lo : Int) = (q1 : Int) := by omega
            have ec : (h1 : Int) - (q1 : Int) = (p3 : Int) := by omega
            have hpb : lo ≤ p3 ∧ p3 < hi := by omega
            clear hp3 hh1 hq1
            go_wp2_with fail
            refine hrv.mono ?_
            rintro e w3 ⟨rfl, hw3, hc3⟩
            have hpr := reverseRange_holds d1 lo hi hlh (by rw [HZ1.out]; exact hhs)
            go_wp2_with fail
            go_meet
            exact ⟨p3, 1, _, by first | rfl | go_num, rfl, hpb.1, hpb.2, by omega, by show _ = _; rw [hpr.1]; exact HZ1.out, hw3, permIn_trans _ _ _ lo hi HP1.out hpr, hch2.trans (hc3.mono (fun b _ q => .inl q))⟩
          · have h2i : ((hnt : Int) == 2) = false := by simp; omega
            go_wp2_with fail
            go_meet
            exact ⟨pv, hnt, d1, rfl, rfl, pv1, pv2, hh2, HZ1, hk2, HP1, hch2⟩
        case rest =>
        obtain ⟨p3, hn3, d2, rfl, rfl, p31, p32, hn32, HZ2, hk3, HP2, hch3⟩ := hcut
        clear hk2 hch2 hrv HZ1 HP1
        have hpi := upartial_any hk3 lo hi (by rw [HZ2.out]; exact hhs) (by omega) (by rw [HZ2.out]; exact hsz)
        rw [HZ2.out] at hpi
        have hpih := partialInsertionSort_holds (lt := ltU) swo_ltU d2 lo hi (by omega) (by rw [HZ2.out]; exact hhs) (Go.Sort.Below.perm HB.out (by rw [HZ.out]; exact hhs) HP2.out)
        have HPI : Hid _ := hpih
        clear hpih
        go_upto_region 15 with fail
        go_cut [68] from 19 to 133 (fun s wx => IsB s ∧ Rw B g c d2 wx ∧ Chg (fun x => x = g) w wx)
        case first =>
          cases wb with
          | false =>
            go_wp2_with fail
            go_meet
            exact ⟨isB _, hk3, hch3⟩
          | true =>
            cases wp with
            | false =>
              go_wp2_with fail
              go_meet
              exact ⟨isB _, hk3, hch3⟩
            | true =>
              go_wp2_with fail
              all_goals (go_meet; exact ⟨isB _, hk3, hch3⟩)
        case rest =>
        obtain ⟨⟨t68, rfl⟩, hk4, hch4⟩ := hcut
        have hpi2 := upartial_any hk4 lo hi (by rw [HZ2.out]; exact hhs) (by omega) (by rw [HZ2.out]; exact hsz)
        rw [HZ2.out] at hpi2
        clear hk3 hch3 hpi
        go_upto_if 68 with fail
        go_cut [68] from 19 to 133 (fun s wx => ∃ (d3 : Array UInt64), IsB s ∧ Hid (d3.size = d.size) ∧ Rw B g c d3 wx ∧ Hid (PermIn lo hi dk d3) ∧ Chg (fun x => x = g) w wx)
        case first =>
          cases t68 with
          | false =>
            go_wp2_with fail
            go_meet
            exact ⟨d2, isB _, HZ2, hk4, HP2, hch4⟩
          | true =>
            cases hr : (partialInsertionSort ltU d2 lo hi).2 with
            | true =>
              rw [hr] at hpi2
              have HFN : Hid _ := HG.out _ (permIn_trans _ _ _ lo hi HP2.out HPI.out.1) (HPI.out.2 hr)
              clear hr
              go_wp2_with fail
              refine hpi2.mono ?_
              rintro e w5 ⟨rfl, hw5, hc5⟩
              go_wp2_with fail
              (try simp only [Exit.inBlock, Exit.then])
              refine bodyPost_ret (results_none rfl _ _ _) rfl ?_
              exact ⟨rfl, ⟨_, hw5, HFN.out⟩, hch4.trans (hc5.mono (fun b _ q => .inl q))⟩
            | false =>
              rw [hr] at hpi2
              clear hr
              go_wp2_with fail
              refine hpi2.mono ?_
              rintro e w5 ⟨rfl, hw5, hc5⟩
              go_wp2_with fail
              go_meet
              exact ⟨_, isB _, by show _ = _; rw [HPI.out.1.1]; exact HZ2.out, hw5, permIn_trans _ _ _ lo hi HP2.out HPI.out.1, hch4.trans (hc5.mono (fun b _ q => .inl q))⟩
        case rest =>
        obtain ⟨d3, ⟨t69, rfl⟩, HZ3, hk5, HP3, hch5⟩ := hcut
        clear hk4 hch4 hpi2 HPI HP2 HZ2
        have s1 : IntKind.i64.wrap ((lo : Int) - 1) = ((lo - 1 : Nat) : Int) ∨ lo = 0 := by
          by_cases h0 : lo = 0
          · exact .inr h0
          · left; rw [IntKind.wrap_i64]; omega
        go_upto_region 17 with fail
        go_cut [87] from 19 to 133 (fun s wx => s = .bool (decide (0 < lo) && !ltU d3[lo - 1]! d3[p3]!) ∧ Rw B g c d3 wx ∧ Chg (fun x => x = g) w wx)
        case first =>
          by_cases h0 : 0 < lo
          · have hd1 : decide ((lo : Int) > 0) = true := by simp; omega
            have hd2 : decide (0 < lo) = true := by simp; omega
            have hd3 : decide ((0 : Int) < (lo : Int)) = true := by simp; omega
            have s1' : IntKind.i64.wrap ((lo : Int) - 1) = ((lo - 1 : Nat) : Int) := by rw [IntKind.wrap_i64]; omega
            have s2 : (lo : Int) - 1 = ((lo - 1 : Nat) : Int) := by omega
            have cL := hk5.cell (lo - 1) (by rw [HZ3.out]; omega)
            have cP := hk5.cell p3 (by rw [HZ3.out]; omega)
            have lL : ((lo - 1 : Nat) : Int) < (d.size : Int) := by omega
            have lP : (p3 : Int) < (d.size : Int) := by omega
            clear s1
            generalize hwc : wc = wq at *
            clear hwc wc
            cases hq : ltU d3[lo - 1]! d3[p3]! with
            | true =>
              have hl := less_q wq _ _ true hq
              have HQ : Hid _ := hq
              clear hq
              go_quiet (first | (go_at_call 65; exact hl _) | fail)
              go_wp2_with fail
              go_meet
              exact ⟨by rw [hd2, HQ.out]; rfl, hk5.drewN _, hch5.dq _⟩
            | false =>
              have hl := less_q wq _ _ false hq
              have HQ : Hid _ := hq
              clear hq
              go_quiet (first | (go_at_call 65; exact hl _) | fail)
              go_wp2_with fail
              go_meet
              exact ⟨by rw [hd2, HQ.out]; rfl, hk5.drewN _, hch5.dq _⟩
          · have hd1 : decide ((lo : Int) > 0) = false := by simp; omega
            have hd2 : decide (0 < lo) = false := by simp; omega
            have hd3 : decide ((0 : Int) < (lo : Int)) = false := by simp; omega
            clear s1
            go_quiet (fail)
            go_wp2_with fail
            go_meet
            exact ⟨by rw [hd2]; rfl, hk5.drewN _, hch5.dq _⟩
        case rest =>
        obtain ⟨rfl, hk6, hch6⟩ := hcut
        clear hk5 hch5 s1
        have HB3 : Hid (Go.Sort.Below ltU lo hi d3) := Go.Sort.Below.perm HB.out (by rw [HZ.out]; exact hhs) HP3.out
        have HG3 : Hid (Goes a b d lo hi d3) := HG.out.perm HP3.out
        clear HB HG HP3
        cases hT : (decide (0 < lo) && !ltU d3[lo - 1]! d3[p3]!) with
        | true =>
          have h0 : 0 < lo := by simp only [Bool.and_eq_true, decide_eq_true_eq] at hT; exact hT.1
          have hnl : ltU d3[lo - 1]! d3[p3]! = false := by simp only [Bool.and_eq_true, Bool.not_eq_true'] at hT; exact hT.2
          have hpe := uparteq_any hk6 lo hi p3 (by rw [HZ3.out]; exact hhs) p31 p32 (by rw [HZ3.out]; exact hsz)
          rw [HZ3.out] at hpe
          have HNL : Hid _ := hnl
          clear hT hnl
          go_wp2_with fail
          refine hpe.mono ?_
          rintro e w7 ⟨mid, d4, rfl, hx, hw7, hc7⟩
          obtain ⟨m1, m2, hz4, hB4, hG4⟩ := round_eq swo_ltU (partitionEqual_holds ltU) h0 p31 p32 (by rw [HZ3.out]; exact hhs) HB3.out HNL.out hx
          have HZ4 : Hid (d4.size = d.size) := by show _ = _; rw [hz4]; exact HZ3.out
          have HB4 : Hid (Go.Sort.Below ltU mid hi d4) := hB4
          have HG4 : Hid (Goes a b d mid hi d4) := fun R h1 h2 => HG3.out R (hG4 R h1 h2).1 (hG4 R h1 h2).2
          clear hz4 hB4 hG4 hx
          go_wp2_with fail
          exact ⟨⟨mid, hi, l2, d4, rfl, rfl, rfl, isB _, isB _, by omega, by omega, by omega, hl2, HZ4, hw7, HB4, HG4, hch6.trans (hc7.mono (fun b _ q => .inl q))⟩, by simp [intOf]; omega⟩
        | false =>
          have hpp := upart_any hk6 lo hi p3 (by rw [HZ3.out]; exact hhs) p31 p32 (by rw [HZ3.out]; exact hsz)
          rw [HZ3.out] at hpp
          clear hT
          go_wp2_with fail
          refine hpp.mono ?_
          rintro e w7 ⟨mid, ap, d4, rfl, hx, hw7, hc7⟩
          obtain ⟨m1, m2, hz4, hBa, hBr, hL, hR⟩ := round_part swo_ltU (partition_holds ltU) p31 p32 (by rw [HZ3.out]; exact hhs) HB3.out hx
          have HZ4 : Hid (d4.size = d.size) := by show _ = _; rw [hz4]; exact HZ3.out
          have HBa : Hid (Go.Sort.Below ltU lo mid d4) := hBa
          have HBr : Hid (Go.Sort.Below ltU (mid + 1) hi d4) := hBr
          have HL : Hid _ := hL
          have HR : Hid _ := hR
          have hch7 := hch6.trans (hc7.mono (fun b _ q => .inl q))
          have hl3 := HIH.out B g c d4 w7 lo mid l2 hw7 m1 (by rw [HZ4.out]; omega) (by rw [HZ4.out]; exact hsz) hl2 (by omega) HBa.out
          rw [HZ4.out] at hl3
          obtain ⟨mp, hmp⟩ : ∃ x, x = mid + 1 := ⟨_, rfl⟩
          have hr3 := HIH.out B g c d4 w7 mp hi l2 hw7 (by omega) (by rw [HZ4.out]; omega) (by rw [HZ4.out]; exact hsz) hl2 (by omega) (by rw [hmp]; exact HBr.out)
          rw [HZ4.out] at hr3
          have HMP : Hid _ := hmp
          obtain ⟨x1, hx1⟩ : ∃ x, x = mid - lo := ⟨_, rfl⟩
          obtain ⟨x2, hx2⟩ : ∃ x, x = hi - mid := ⟨_, rfl⟩
          have ea : (mid : Int) - (lo : Int) = (x1 : Int) := by omega
          have eb : (hi : Int) - (mid : Int) = (x2 : Int) := by omega
          have em : (mid : Int) + 1 = (mp : Int) := by omega
          have hmph : mp ≤ hi := by omega
          have hmpl : lo < mp := by omega
          have hmin : hi - mp ≤ n + 1 := by omega
          have hmin2 : mid - lo ≤ n + 1 := by omega
          clear hz4 hBa hBr hL hR hx hpp hx1 hx2 hmp
          by_cases hlt : x1 < x2
          · have hlti : (x1 : Int) < (x2 : Int) := by omega
            clear hr3
            go_wp2_with fail
            refine hl3.mono ?_
            rintro e w8 ⟨rfl, ⟨d5, hw8, hp5, hs5⟩, hc8⟩
            have hl5 := HL.out d5 hp5 hs5
            have HB5 : Hid (Go.Sort.Below ltU mp hi d5) := by show Go.Sort.Below _ _ _ _; rw [HMP.out]; exact hl5.1
            have HG5 : Hid (Goes a b d mp hi d5) := fun R h1 h2 => by
              rw [HMP.out] at h1 h2
              exact HG3.out R (hl5.2 R h1 h2).1 (hl5.2 R h1 h2).2
            have HZ5 : Hid (d5.size = d.size) := by show _ = _; rw [hp5.1]; exact HZ4.out
            clear hl5 hp5 hs5
            go_wp2_with fail
            exact ⟨⟨mp, hi, l2, d5, by first | rfl | go_num, rfl, rfl, isB _, isB _, hmph, hhs, hmin, hl2, HZ5, hw8, HB5, HG5, hch7.trans (hc8.mono (fun b _ q => .inl q))⟩, by simp [intOf]; omega⟩
          · have hlti : ¬ (x1 : Int) < (x2 : Int) := by omega
            clear hl3
            go_wp2_with fail
            refine hr3.mono ?_
            rintro e w8 ⟨rfl, ⟨d5, hw8, hp5, hs5⟩, hc8⟩
            rw [HMP.out] at hp5 hs5
            have hl5 := HR.out d5 hp5 hs5
            have HB5 : Hid (Go.Sort.Below ltU lo mid d5) := hl5.1
            have HG5 : Hid (Goes a b d lo mid d5) := fun R h1 h2 => HG3.out R (hl5.2 R h1 h2).1 (hl5.2 R h1 h2).2
            have HZ5 : Hid (d5.size = d.size) := by show _ = _; rw [hp5.1]; exact HZ4.out
            clear hl5 hp5 hs5
            go_wp2_with fail
            exact ⟨⟨lo, mid, l2, d5, rfl, by first | rfl | go_num, rfl, isB _, isB _, m1, by omega, hmin2, hl2, HZ5, hw8, HB5, HG5, hch7.trans (hc8.mono (fun b _ q => .inl q))⟩, by simp [intOf]; omega⟩

theorem pdq_zero : PdqOk 0 := by
  intro B g c d w a b limit h hab hbs hsz hlm hn hBl
  have hin := uins_any h a b hbs hab (by omega)
  obtain ⟨ln, hln⟩ : ∃ x, x = b - a := ⟨_, rfl⟩
  have e1 : (b : Int) - (a : Int) = (ln : Int) := by omega
  have h12i : (ln : Int) ≤ 12 := by omega
  obtain ⟨hP, hS⟩ := insertionSort_holds (lt := ltU) swo_ltU d a b hab hbs
  clear hln
  go_enter Try.func54, Try.ntmps54
  go_wp2_with fail
  refine wp_loop_rounds 1 ?_
  rw [rounds_succ]
  go_wp2_with fail
  refine hin.mono ?_
  rintro e w1 ⟨rfl, hr, hc⟩
  go_wp2_with fail
  refine bodyPost_ret (v := .tuple #[]) (by simp [results, Try.results54, go_sem]; try rfl) rfl ?_
  exact ⟨rfl, ⟨_, hr, hP, hS⟩, hc⟩
theorem pdq_ok : ∀ n, PdqOk n
  | 0 => pdq_zero
  | n + 1 => pdq_step n (pdq_ok n)

theorem usort_any : SortsTo 1099511627776 := by
  intro B w v l ho hl
  rcases ho.blk with ⟨rfl, rfl⟩ | ⟨g, c, rfl, h1, h2, h3, h4, _⟩
  · go_enter Try.func32, Try.ntmps32
    go_wp2_with fail
    refine (len_ok 0 w (by omega)).mono ?_
    rintro e w1 ⟨r, hr, rfl, rfl⟩
    go_wp2_with fail
    refine (pdq_nil r _).mono ?_
    rintro e w2 ⟨rfl, rfl⟩
    go_wp2_with fail
    go_end0
    exact ⟨rfl, ⟨[], Ou.nil _ _, .refl _, .nil⟩, Chg.refl _ _⟩
  · have hRw : Rw B g c l.toArray w := by unfold Rw; simpa using ho
    have hsz : l.toArray.size = l.length := by simp
    have hp := fun (r : Nat) (hr : r ≤ 64) => pdq_ok l.length B g c l.toArray w 0 l.toArray.size r hRw (Nat.zero_le _) (Nat.le_refl _) (by rw [hsz]; omega) hr (by rw [hsz]; omega) (.inl rfl)
    rw [hsz] at hp
    unfold maxLen at h2
    go_enter Try.func32, Try.ntmps32
    go_wp2_with fail
    refine (len_ok l.length w (by omega)).mono ?_
    rintro e w1 ⟨r, hr, rfl, rfl⟩
    go_wp2_with fail
    refine (hp r hr).mono ?_
    rintro e w2 ⟨rfl, ⟨d', hw2, hP, hS⟩, hc2⟩
    go_wp2_with fail
    go_end0
    rw [← hsz] at hP hS
    obtain ⟨q1, q2, q3⟩ := sorted_of hP hS
    refine ⟨rfl, ⟨_, ?_, by simpa using q2, q3⟩, hc2.mono (fun b _ q => by subst q; rfl)⟩
    unfold Rw at hw2
    rw [q1, hsz] at hw2
    exact hw2
end Go.Proofs.Ytedpfmalhapmeaa

/- The document's Enter. -/
namespace Go.Proofs.Ytedpfmalhapmeaa
open Go.RowKit
set_option linter.unusedVariables false
set_option maxRecDepth 100000

theorem up_al {W0 W W' : World} (h : Below W0.heap.size W0 W) (h' : Below W.heap.size W W') : Below W0.heap.size W0 W' := h.trans (h'.mono h.size)
/-- What the document's Enter answers. -/
def EPost (c : Cn) (qs : List Cg) (w : World) (e : Ending) (w' : World) : Prop := ∃ (x' y' z' : Value) (res : Cn) (er : Nat), e = .returned (.tuple #[.agg #[x', y', z'], .int .i64 er]) ∧ Rc w' x' y' z' res ∧ EntR c qs res er ∧ Below w.heap.size w w'
set_option maxHeartbeats 8000000 in
theorem renter_any {x y z v : Value} {c : Cn} {qs : List Cg} {w : World} (hr : Rc w x y z c) (hx : RdX w v qs) (hlc : c.1.length + c.2.1.length + c.2.2.length ≤ 1048576) (hlq : qs.length ≤ 1048576) :
    Calls Try.prog 22 #[.agg #[x, y, z], v] w fun e w' => EPost c qs w e w' := by
  obtain ⟨V, O, L⟩ := c
  obtain ⟨ax, cx, rfl⟩ := hr.1.shape
  obtain ⟨ay, cy, rfl⟩ := hr.2.1.shape
  obtain ⟨az, cz, rfl⟩ := hr.2.2.shape
  have HX : Hid (∀ W, Below w.heap.size w W → RdX W v qs) := fun W hW => hx.below hW (Nat.le_refl _)
  obtain ⟨aq, cq, rfl, hq1, hq2, _, _⟩ := hx
  unfold maxLen at hq2
  simp only [] at hr hlc ⊢
  have hB0 : Below w.heap.size w ((w.alloc (.cells #[.slice ax V.length cx, .slice ay O.length cy, .slice az L.length cz] 24)).alloc (.cells #[.slice none 0 0, .slice none 0 0, .slice none 0 0] 24)) := (u_al w _).alloc (by simp) _
  have hz0 : ((w.alloc (.cells #[.slice ax V.length cx, .slice ay O.length cy, .slice az L.length cz] 24)).alloc (.cells #[.slice none 0 0, .slice none 0 0, .slice none 0 0] 24)).heap.size = w.heap.size + 2 := by simp
  have hbx : ((w.alloc (.cells #[.slice ax V.length cx, .slice ay O.length cy, .slice az L.length cz] 24)).alloc (.cells #[.slice none 0 0, .slice none 0 0, .slice none 0 0] 24)).heap[w.heap.size]? = some (.cells #[.slice ax V.length cx, .slice ay O.length cy, .slice az L.length cz] 24 (0, 0)) := by
    rw [Below.heap_alloc _ _ _ (by simp)]; exact heap_alloc_new w _
  have hrs : ((w.alloc (.cells #[.slice ax V.length cx, .slice ay O.length cy, .slice az L.length cz] 24)).alloc (.cells #[.slice none 0 0, .slice none 0 0, .slice none 0 0] 24)).heap[w.heap.size + 1]? = some (.cells #[.slice none 0 0, .slice none 0 0, .slice none 0 0] 24 (0, 0)) := by
    have := heap_alloc_new (w.alloc (.cells #[.slice ax V.length cx, .slice ay O.length cy, .slice az L.length cz] 24)) (.cells #[.slice none 0 0, .slice none 0 0, .slice none 0 0] 24)
    rw [World.size_alloc] at this
    exact this
  go_enter Try.func22, Try.ntmps22
  go_wp2_with fail
  generalize ((w.alloc (.cells #[.slice ax V.length cx, .slice ay O.length cy, .slice az L.length cz] 24)).alloc (.cells #[.slice none 0 0, .slice none 0 0, .slice none 0 0] 24)) = W0 at *
  have HKB : Hid (∀ W, Below W0.heap.size W0 W → Below w.heap.size w W) := fun W hW => hB0.trans (hW.mono hB0.size)
  have HKC : Hid (∀ W, Below W0.heap.size W0 W → W.cell? ⟨w.heap.size, 0, none⟩ = some (.slice ax V.length cx) ∧ W.cell? ⟨w.heap.size, 1, none⟩ = some (.slice ay O.length cy) ∧ W.cell? ⟨w.heap.size, 2, none⟩ = some (.slice az L.length cz)) := fun W hW => by
    obtain ⟨q0, q1, q2, _⟩ := at3 ((hW.block _ (by omega)).trans hbx)
    exact ⟨q0, q1, q2⟩
  have HKR : Hid (∀ W, Below W0.heap.size W0 W → W.heap[w.heap.size + 1]? = some (.cells #[.slice none 0 0, .slice none 0 0, .slice none 0 0] 24 (0, 0))) := fun W hW => (hW.block _ (by omega)).trans hrs
  have HRC : Hid (∀ W, Below W0.heap.size W0 W → Rc W (.slice ax V.length cx) (.slice ay O.length cy) (.slice az L.length cz) (V, O, L)) := fun W hW => hr.below (HKB.out W hW) (Nat.le_refl _)
  have HOUT : Hid (∀ (W : World) (x' y' z' : Value) (res : Cn), Below W0.heap.size W0 W → Rc W x' y' z' res → (∀ v ∈ [x', y', z'], ∀ b, v.ownBlock = some b → W0.heap.size ≤ b) → ∀ W', W' = ((W.setCell ⟨w.heap.size + 1, 0, none⟩ x').setCell ⟨w.heap.size + 1, 1, none⟩ y').setCell ⟨w.heap.size + 1, 2, none⟩ z' → (W'.cell? ⟨w.heap.size + 1, 0, none⟩ = some x' ∧ W'.cell? ⟨w.heap.size + 1, 1, none⟩ = some y' ∧ W'.cell? ⟨w.heap.size + 1, 2, none⟩ = some z') ∧ Rc W' x' y' z' res ∧ Below w.heap.size w W') := fun W x' y' z' res hW ho hx => out3 (HKR.out W hW) (Nat.le_succ _) (HKB.out W hW) ho (fun v hv b e => by have := hx v hv b e; omega)
  have HNIL : Hid (∀ v ∈ [Value.slice none 0 0, .slice none 0 0, .slice none 0 0], ∀ b, v.ownBlock = some b → W0.heap.size ≤ b) := fun v hv b e => by
    simp only [List.mem_cons, List.not_mem_nil, or_false] at hv
    rcases hv with rfl | rfl | rfl <;> simp [Value.ownBlock] at e
  have HRQ : Hid (∀ W, Below W0.heap.size W0 W → RdX W (.slice aq qs.length cq) qs) := fun W hW => HX.out W (HKB.out W hW)
  have HCK : Hid (∀ W x' y' z' c', Below W0.heap.size W0 W → Rc W x' y' z' c' → c'.1.length + c'.2.1.length + c'.2.2.length ≤ 1099511627776 → Calls Try.prog 12 #[.agg #[x', y', z']] W fun e w' => e = .returned (.int .i64 (if chk c' = true then 0 else 70)) ∧ Below W.heap.size W w') := fun W x' y' z' c' hW hr hl => rcheck_any hr hl
  clear hbx hrs hr hB0 HX
  obtain ⟨c0, c1, c2⟩ := HKC.out W0 (Below.refl _ _)
  have hck := HCK.out W0 _ _ _ _ (Below.refl _ _) (HRC.out W0 (Below.refl _ _)) (by simp only []; omega)
  refine hck.mono ?_
  rintro e w1 ⟨rfl, hb1⟩
  obtain ⟨d0, d1, d2⟩ := HKC.out w1 hb1
  clear hck c0 c1 c2
  cases hchk : chk (V, O, L) with
  | false =>
    have HEN : Hid (EntR (V, O, L) qs none3 70) := .inl ⟨hchk, rfl, rfl⟩
    simp only [Bool.false_eq_true, if_false]
    obtain ⟨t0, t1, t2, tz⟩ := at3 (HKR.out w1 hb1)
    have tz0 := tz 0
    have tz1 := tz 1
    have tz2 := tz 2
    clear tz hchk
    go_wp2_with fail
    obtain ⟨⟨k0, k1, k2⟩, hoc, hbz⟩ := HOUT.out w1 _ _ _ none3 hb1 (Rc.nil _) HNIL.out _ rfl
    generalize (((w1.setCell ⟨w.heap.size + 1, 0, none⟩ (.slice none 0 0)).setCell ⟨w.heap.size + 1, 1, none⟩ (.slice none 0 0)).setCell ⟨w.heap.size + 1, 2, none⟩ (.slice none 0 0)) = wz at *
    refine bodyPost_ret (v := .tuple #[.agg #[.slice none 0 0, .slice none 0 0, .slice none 0 0], .int .i64 70]) (by simp [results, Try.results22, go_sem, k0, k1, k2]; try rfl) rfl ?_
    exact ⟨_, _, _, none3, 70, rfl, hoc, HEN.out, hbz⟩
  | true =>
  simp only [if_true]
  by_cases hO : 0 < O.length
  · have HEN : Hid (EntR (V, O, L) qs none3 71) := .inr (.inl ⟨hchk, hO, rfl, rfl⟩)
    have hOi : (0 : Int) < (O.length : Int) := by omega
    obtain ⟨t0, t1, t2, tz⟩ := at3 (HKR.out w1 hb1)
    have tz0 := tz 0
    have tz1 := tz 1
    have tz2 := tz 2
    clear tz hchk
    go_wp2_with fail
    obtain ⟨⟨k0, k1, k2⟩, hoc, hbz⟩ := HOUT.out w1 _ _ _ none3 hb1 (Rc.nil _) HNIL.out _ rfl
    generalize (((w1.setCell ⟨w.heap.size + 1, 0, none⟩ (.slice none 0 0)).setCell ⟨w.heap.size + 1, 1, none⟩ (.slice none 0 0)).setCell ⟨w.heap.size + 1, 2, none⟩ (.slice none 0 0)) = wz at *
    refine bodyPost_ret (v := .tuple #[.agg #[.slice none 0 0, .slice none 0 0, .slice none 0 0], .int .i64 71]) (by simp [results, Try.results22, go_sem, k0, k1, k2]; try rfl) rfl ?_
    exact ⟨_, _, _, none3, 71, rfl, hoc, HEN.out, hbz⟩
  · have hOi : ¬ (0 : Int) < (O.length : Int) := by omega
    have hO0 : O = [] := List.length_eq_zero_iff.1 (by omega)
    have HST : Hid (IsL (seatF V L) 1 V ∧ IsL (seatF V L) 2 L) := seat_start hchk
    have HE3 : Hid (foldS (seatF V L) qs = none → EntR (V, O, L) qs none3 70) := fun h => .inr (.inr (.inl ⟨hchk, hO0, h, rfl, rfl⟩))
    have HE4 : Hid (∀ S V' L', foldS (seatF V L) qs = some S → IsL S 1 V' → IsL S 2 L' → (chk (nxt V V' L') = false → EntR (V, O, L) qs none3 70) ∧ (chk (nxt V V' L') = true → EntR (V, O, L) qs (nxt V V' L') 0)) := fun S V' L' h1 h2 h3 => ⟨fun h => .inr (.inr (.inr ⟨hchk, hO0, S, V', L', h1, h2, h3, .inl ⟨h, rfl, rfl⟩⟩)), fun h => .inr (.inr (.inr ⟨hchk, hO0, S, V', L', h1, h2, h3, .inr ⟨h, rfl, rfl⟩⟩))⟩
    clear hchk hO0
    have hs1 := hb1.size
    have HR1 : Hid (∀ W, Below W0.heap.size W0 W → Ru W (.slice ax V.length cx) V) := fun W hW => (HRC.out W hW).1
    have HR3 : Hid (∀ W, Below W0.heap.size W0 W → Ru W (.slice az L.length cz) L) := fun W hW => (HRC.out W hW).2.2
    have hbd : Below W0.heap.size W0 w1.drew := below_drewN hb1 1
    have hA0 : Below W0.heap.size W0 (w1.alloc (.cells #[.slice none 0 0, .slice none 0 0, .slice none 0 0] 24)).drew := below_drewN (hb1.alloc hb1.size _) 1
    have hAz : (w1.alloc (.cells #[.slice none 0 0, .slice none 0 0, .slice none 0 0] 24)).drew.heap.size = w1.heap.size + 1 := World.size_alloc _ _
    have HA0 : Hid ((w1.alloc (.cells #[.slice none 0 0, .slice none 0 0, .slice none 0 0] 24)).drew.heap[w1.heap.size]? = some (.cells #[.slice none 0 0, .slice none 0 0, .slice none 0 0] 24 (0, 0))) := heap_alloc_new w1 _
    have hzd : w1.drew.heap.size = w1.heap.size := rfl
    have hnw : ¬ w.heap.size = w1.heap.size := by omega
    have hnw2 : ¬ w1.heap.size = w.heap.size := by omega
    go_upto_region 5 with fail
    go_cut [6] from 9 to 95 (fun p wx => ∃ (g : Nat) (x' z' : Value), p = .pointer (some ⟨g, 0, none⟩) ∧ W0.heap.size ≤ g ∧ g < wx.heap.size ∧ Box g wx x' (.slice none 0 0) z' (V, [], L) ∧ Hid (∀ v ∈ [x', .slice none 0 0, z'], ∀ b, v.ownBlock = some b → W0.heap.size ≤ b) ∧ Below W0.heap.size W0 wx)
    case first =>
      go_region_held3 (fun w' => w'.cell? ⟨w.heap.size, 0, none⟩ = some (.slice ax V.length cx) ∧ w'.cell? ⟨w.heap.size, 1, none⟩ = some (.slice ay O.length cy) ∧ w'.cell? ⟨w.heap.size, 2, none⟩ = some (.slice az L.length cz)) (go_keep) (first
        | (have hq1 := hgwa; refine step_appU0 rfl _ _ rfl _ rfl _ _ rfl (HR3.out _ hbA) (Nat.le_refl _) (by omega) ?_; intro v2 w2 ho2 hb'; have hbB := up_al hbA hb'; obtain ⟨s0, s1, s2⟩ := HKC.out w2 hbB; have hgw2 : w2.heap[w1.heap.size]? = some (.cells #[.slice none 0 0, .slice none 0 0, .slice none 0 0] 24 (0, 0)) := (hb'.block _ (by omega)).trans hgwa; obtain ⟨t0, t1, t2, tz⟩ := at3 hgw2; have tz0 := tz 0; have tz1 := tz 1; have tz2 := tz 2; clear tz; have ho1b := ho1.below hb' (Nat.le_refl _); obtain ⟨as2, es2, rfl⟩ := ho2.shape; have hnb : ¬ w.heap.size = w2.heap.size := (by have := hbB.size; omega); have hnb2 : ¬ w2.heap.size = w.heap.size := (by have := hbB.size; omega))
        | (have hq1 := ho1; refine step_appU0 rfl _ _ rfl _ rfl _ _ rfl (HR3.out _ (hbA.alloc hbA.size (.cells #[.slice none 0 0, .slice none 0 0, .slice none 0 0] 24))) (Nat.le_refl _) (by omega) ?_; intro v2 w2 ho2 hb'; have hbB := up_al (hbA.alloc hbA.size (.cells #[.slice none 0 0, .slice none 0 0, .slice none 0 0] 24)) hb'; obtain ⟨s0, s1, s2⟩ := HKC.out w2 hbB; have hgw2 : w2.heap[wa.heap.size]? = some (.cells #[.slice none 0 0, .slice none 0 0, .slice none 0 0] 24 (0, 0)) := (hb'.block _ (by simp)).trans (heap_alloc_new wa _); obtain ⟨t0, t1, t2, tz⟩ := at3 hgw2; have tz0 := tz 0; have tz1 := tz 1; have tz2 := tz 2; clear tz; have ho1b := (ho1.alloc _).below hb' (Nat.le_refl _); obtain ⟨as2, es2, rfl⟩ := ho2.shape; have hnb : ¬ w.heap.size = w2.heap.size := (by have := hbB.size; omega); have hnb2 : ¬ w2.heap.size = w.heap.size := (by have := hbB.size; omega))
        | (have hq1 := ho1; refine step_appU0 rfl _ _ rfl _ rfl _ _ rfl (HR3.out _ hbA) (Nat.le_refl _) (by omega) ?_; intro v2 w2 ho2 hb'; have hbB := up_al hbA hb'; obtain ⟨s0, s1, s2⟩ := HKC.out w2 hbB; have ho1b := ho1.below hb' (Nat.le_refl _); obtain ⟨as2, es2, rfl⟩ := ho2.shape; have hnb : ¬ w.heap.size = w2.heap.size := (by have := hbB.size; omega); have hnb2 : ¬ w2.heap.size = w.heap.size := (by have := hbB.size; omega))
        | (refine step_appU0 rfl _ _ rfl _ rfl _ _ rfl (HR1.out _ hA0) (Nat.le_refl _) (by omega) ?_; intro v1 wa ho1 hb'; have hbA := up_al hA0 hb'; obtain ⟨r0, r1, r2⟩ := HKC.out wa hbA; have hgwa : wa.heap[w1.heap.size]? = some (.cells #[.slice none 0 0, .slice none 0 0, .slice none 0 0] 24 (0, 0)) := (hb'.block _ (by omega)).trans HA0.out; have hlta : w1.heap.size < wa.heap.size := (by have := hb'.size; omega); obtain ⟨as1, es1, rfl⟩ := ho1.shape; have hna : ¬ w.heap.size = wa.heap.size := (by have := hbA.size; omega); have hna2 : ¬ wa.heap.size = w.heap.size := (by have := hbA.size; omega))
        | (refine step_appU0 rfl _ _ rfl _ rfl _ _ rfl (HR1.out _ hbd) (Nat.le_refl _) (by omega) ?_; intro v1 wa ho1 hb'; have hbA := up_al hbd hb'; obtain ⟨r0, r1, r2⟩ := HKC.out wa hbA; obtain ⟨as1, es1, rfl⟩ := ho1.shape; have hna : ¬ w.heap.size = wa.heap.size := (by have := hbA.size; omega); have hna2 : ¬ wa.heap.size = w.heap.size := (by have := hbA.size; omega))
        | fail)
      · have hbox : Box w2.heap.size (w2.alloc (.cells #[.slice as1 V.length es1, .slice none 0 0, .slice as2 L.length es2] 24)) (.slice as1 V.length es1) (.slice none 0 0) (.slice as2 L.length es2) (V, [], L) := ⟨heap_alloc_new w2 _, ⟨ho1b.ru.alloc _, Ru.nil _, ho2.ru.alloc _⟩, fun v hv b e => by
          simp only [List.mem_cons, List.not_mem_nil, or_false] at hv
          rcases hv with rfl | rfl | rfl
          · have := (ho1b.lt b e).2; exact ⟨by omega, by simp; omega⟩
          · simp [Value.ownBlock] at e
          · have := (ho2.lt b e).2; exact ⟨by omega, by simp; omega⟩⟩
        have HOW : Hid (∀ v ∈ [Value.slice as1 V.length es1, .slice none 0 0, .slice as2 L.length es2], ∀ b, v.ownBlock = some b → W0.heap.size ≤ b) := fun v hv b e => by
          have := hbA.size; have := hbd.size
          simp only [List.mem_cons, List.not_mem_nil, or_false] at hv
          rcases hv with rfl | rfl | rfl
          · have := (ho1b.lt b e).1; omega
          · simp [Value.ownBlock] at e
          · have := (ho2.lt b e).1; omega
        have hzz := hbB.size
        go_wp2_with fail
        go_meet
        exact ⟨w2.heap.size, _, _, rfl, by omega, by simp, hbox, HOW, hbB.alloc hbB.size _⟩
      · have hbz : Box wa.heap.size w2 (.slice none 0 0) (.slice none 0 0) (.slice none 0 0) none3 := ⟨hgw2, Rc.nil _, fun v hv b e => by
          simp only [List.mem_cons, List.not_mem_nil, or_false] at hv
          rcases hv with rfl | rfl | rfl <;> simp [Value.ownBlock] at e⟩
        have hbox := hbz.put (x' := .slice as1 V.length es1) (y' := .slice none 0 0) (z' := .slice as2 L.length es2) (c' := (V, [], L)) ⟨ho1b.ru, Ru.nil _, ho2.ru⟩ (fun v hv b e => by
          have hq2 := hb'.size
          simp only [World.size_alloc] at hq2
          simp only [List.mem_cons, List.not_mem_nil, or_false] at hv
          rcases hv with rfl | rfl | rfl
          · have := (ho1.lt b e).2; exact ⟨by omega, by omega⟩
          · simp [Value.ownBlock] at e
          · have h1 := ho2.lt b e; simp only [World.size_alloc] at h1; exact ⟨by omega, h1.2⟩)
        have HOW : Hid (∀ v ∈ [Value.slice as1 V.length es1, .slice none 0 0, .slice as2 L.length es2], ∀ b, v.ownBlock = some b → W0.heap.size ≤ b) := fun v hv b e => by
          have := hbA.size; have := hbd.size
          simp only [List.mem_cons, List.not_mem_nil, or_false] at hv
          rcases hv with rfl | rfl | rfl
          · have := (ho1b.lt b e).1; omega
          · simp [Value.ownBlock] at e
          · have h1 := (ho2.lt b e).1; simp only [World.size_alloc] at h1; omega
        have hch := put3_chg w2 wa.heap.size (.slice as1 V.length es1) (.slice none 0 0) (.slice as2 L.length es2)
        have hzA := hbA.size
        have hzz := hb'.size
        simp only [World.size_alloc] at hzz
        have hbe := hbB.trans (hch.below (B := W0.heap.size) (fun b q => by omega) hbB.size)
        go_wp2_with fail
        go_meet
        exact ⟨wa.heap.size, _, _, rfl, by omega, by simp; omega, hbox, HOW, hbe⟩
      · have hbz : Box w1.heap.size w2 (.slice none 0 0) (.slice none 0 0) (.slice none 0 0) none3 := ⟨hgw2, Rc.nil _, fun v hv b e => by
          simp only [List.mem_cons, List.not_mem_nil, or_false] at hv
          rcases hv with rfl | rfl | rfl <;> simp [Value.ownBlock] at e⟩
        have hbox := hbz.put (x' := .slice as1 V.length es1) (y' := .slice none 0 0) (z' := .slice as2 L.length es2) (c' := (V, [], L)) ⟨ho1b.ru, Ru.nil _, ho2.ru⟩ (fun v hv b e => by
          simp only [List.mem_cons, List.not_mem_nil, or_false] at hv
          rcases hv with rfl | rfl | rfl
          · have h1 := ho1b.lt b e; exact ⟨by omega, h1.2⟩
          · simp [Value.ownBlock] at e
          · have h1 := ho2.lt b e; exact ⟨by omega, h1.2⟩)
        have HOW : Hid (∀ v ∈ [Value.slice as1 V.length es1, .slice none 0 0, .slice as2 L.length es2], ∀ b, v.ownBlock = some b → W0.heap.size ≤ b) := fun v hv b e => by
          have := hbA.size
          simp only [List.mem_cons, List.not_mem_nil, or_false] at hv
          rcases hv with rfl | rfl | rfl
          · have := (ho1b.lt b e).1; omega
          · simp [Value.ownBlock] at e
          · have h1 := (ho2.lt b e).1; omega
        have hch := put3_chg w2 w1.heap.size (.slice as1 V.length es1) (.slice none 0 0) (.slice as2 L.length es2)
        have hzz := hb'.size
        have hbe := hbB.trans (hch.below (B := W0.heap.size) (fun b q => by omega) hbB.size)
        go_wp2_with fail
        go_meet
        exact ⟨w1.heap.size, _, _, rfl, by omega, by simp; omega, hbox, HOW, hbe⟩
    case rest =>
      obtain ⟨g, x0, z0, rfl, hg, hgw, hbox, HOW, hbw⟩ := hcut
      obtain ⟨wd, hwd⟩ : ∃ wd, wd = wc := ⟨wc, rfl⟩
      subst hwd
      have HPUT : Hid (∀ W q l (p : UInt64), Ru W q l → l.length ≤ 1099511627776 → Calls Try.prog 40 #[q, .int .u64 (p.toNat : Int)] W fun e w' => ∃ v', e = .returned v' ∧ Ou W.heap.size w' v' (putF p false l) ∧ Below W.heap.size W w') := fun W q l p h hl => rput_any h hl
      have HOF : Hid (∀ W q l (p : UInt64), Ru W q l → l.length ≤ 1099511627776 → Calls Try.prog 46 #[q, .int .u64 (p.toNat : Int)] W fun e w' => ∃ v', e = .returned v' ∧ Ou W.heap.size w' v' (outF p l) ∧ Below W.heap.size W w') := fun W q l p h hl => rout_any h hl
      have HIN : Hid (∀ W q l (p : UInt64), Ru W q l → Calls Try.prog 39 #[q, .int .u64 (p.toNat : Int)] W fun e w' => e = .returned (.bool (decide (p ∈ l))) ∧ w' = W) := fun W q l p h => rin_any h
      have hgw1 : ¬ g = w.heap.size + 1 := by omega
      have hgw2 : ¬ w.heap.size + 1 = g := by omega
      have hgw3 : ¬ g = w.heap.size := by omega
      have hgw4 : ¬ w.heap.size = g := by omega
      clear hA0 hAz HA0 hzd hbd HR3 d0 d1 d2 hnw hnw2
      go_wp2_with fail
      go_loopw [7, 8] (fun i _ wr => ∃ (k : Nat) (S : UInt64 → Nat) (V' L' : List UInt64) (x' z' : Value), k ≤ qs.length ∧ i = .int .i64 k ∧ Hid (foldS (seatF V L) (qs.take k) = some S ∧ IsL S 1 V' ∧ IsL S 2 L') ∧ V'.length ≤ V.length + k ∧ L'.length ≤ L.length + k ∧ Box g wr x' (.slice none 0 0) z' (V', [], L') ∧ Hid (∀ v ∈ [x', .slice none 0 0, z'], ∀ b, v.ownBlock = some b → W0.heap.size ≤ b) ∧ g < wr.heap.size ∧ Below W0.heap.size W0 wr) (fun i _ _ => qs.length - (intOf i).toNat)
      case atStart => exact ⟨0, _, V, L, x0, z0, Nat.zero_le _, rfl, ⟨rfl, HST.out.1, HST.out.2⟩, by omega, by omega, hbox, HOW, hgw, hbw⟩
      case round =>
        obtain ⟨k, S, V', L', x', z', hk, rfl, HF, hlV, hlL, hbx, HWX, hgr, hbr⟩ := hrel
        clear hbox HOW hgw hbw
        have hzr := hbr.size
        by_cases hlt : k < qs.length
        · have hlti : (k : Int) < (qs.length : Int) := by omega
          obtain ⟨aq', cq', e', _, _, hqr, hq4⟩ := HRQ.out wr hbr
          simp only [Value.slice.injEq, true_and] at e'
          obtain ⟨rfl, rfl⟩ := e'
          obtain ⟨a, rfl, hcg⟩ := hq4 k _ (List.getElem?_eq_getElem hlt)
          have hc0 := hcg.c0
          have hc1 := hcg.c1
          have HFN : Hid (chg1 S (qs[k]).1 (qs[k]).2 = none → foldS (seatF V L) qs = none) := fun h => foldS_none _ S qs k _ (List.getElem?_eq_getElem hlt) HF.out.1 h
          have HFS : Hid (foldS (seatF V L) (qs.take (k + 1)) = chg1 S (qs[k]).1 (qs[k]).2) := foldS_snoc _ S qs k _ (List.getElem?_eq_getElem hlt) HF.out.1
          have hkd := hqr _ (List.getElem_mem hlt)
          clear hqr hq4 hcg
          generalize qs[k] = q at *
          obtain ⟨kd, p⟩ := q
          simp only [] at hc0 hc1 hkd
          have HRN : Hid (rchg V' L' kd p = none → EntR (V, O, L) qs none3 70) := fun h => HE3.out (HFN.out (rchg_none HF.out.2.1 h))
          have HRS : Hid (∀ V2 L2, rchg V' L' kd p = some (V2, L2) → ∃ S', foldS (seatF V L) (qs.take (k + 1)) = some S' ∧ IsL S' 1 V2 ∧ IsL S' 2 L2) := fun V2 L2 h => by
            obtain ⟨S', h1, h2, h3⟩ := rchg_some HF.out.2.1 HF.out.2.2 h
            exact ⟨S', by rw [HFS.out]; exact h1, h2, h3⟩
          clear HFN HFS HF
          obtain ⟨b0, b1, b2, bz⟩ := at3 hbx.1
          have bz0 := bz 0
          have bz2 := bz 2
          clear bz
          have hRx := hbx.2.1
          obtain ⟨ex, fx, rfl⟩ := hRx.1.shape
          obtain ⟨ez, fz, rfl⟩ := hRx.2.2.shape
          simp only [] at hRx
          have HBX : Hid (Box g wr (.slice ex V'.length fx) (.slice none 0 0) (.slice ez L'.length fz) (V', [], L')) := hbx
          have hpn : ∀ h : p ≠ 0, ((p.toNat : Int) == 0) = false := fun h => by
            simp only [beq_eq_false_iff_ne, ne_eq]
            exact fun q => h (UInt64.toNat_inj.1 (by simpa using q))
          have HPN : Hid (p ≠ 0 → ((p.toNat : Int) == 0) = false) := hpn
          clear hbx hpn
          by_cases hp0 : p = 0
          · have hp0i : ((p.toNat : Int) == 0) = true := by simp [hp0]
            have HEN : Hid (EntR (V, O, L) qs none3 70) := HRN.out (by unfold rchg; rw [if_pos hp0])
            clear hp0 HRN HRS HPN
            obtain ⟨t0, t1, t2, tz⟩ := at3 (HKR.out wr hbr)
            have tz0 := tz 0
            have tz1 := tz 1
            have tz2 := tz 2
            clear tz
            go_wp2_with fail
            obtain ⟨⟨k0, k1, k2⟩, hoc, hbz⟩ := HOUT.out wr _ _ _ none3 hbr (Rc.nil _) HNIL.out _ rfl
            generalize (((wr.setCell ⟨w.heap.size + 1, 0, none⟩ (.slice none 0 0)).setCell ⟨w.heap.size + 1, 1, none⟩ (.slice none 0 0)).setCell ⟨w.heap.size + 1, 2, none⟩ (.slice none 0 0)) = wz at *
            refine bodyPost_ret (v := .tuple #[.agg #[.slice none 0 0, .slice none 0 0, .slice none 0 0], .int .i64 70]) (by simp [results, Try.results22, go_sem, k0, k1, k2]; try rfl) rfl ?_
            exact ⟨_, _, _, none3, 70, rfl, hoc, HEN.out, hbz⟩
          · have hp0i := HPN.out hp0
            clear HPN
            by_cases hk1 : kd = 1
            · have HR : Hid _ := HRS.out _ _ (show rchg V' L' kd p = some (putF p false V', outF p L') by unfold rchg; rw [if_neg hp0, if_pos hk1])
              have hkb : (kd == 1) = true := by simp [hk1]
              have hl1 := putF_len p V'
              have hl2 := outF_len p L'
              have hput := HPUT.out wr _ _ p hRx.1 (by simp only []; omega)
              clear HRN HRS hp0
              subst hk1
              go_wp2_with fail
              refine hput.mono ?_
              rintro e w2 ⟨v2, rfl, ho2, hb2⟩
              have hb2W : Below W0.heap.size W0 w2 := hbr.trans (hb2.mono hzr)
              have hbx2 := HBX.out.below hgr hb2 (Nat.le_refl _)
              obtain ⟨g0, g1, g2, gz⟩ := at3 hbx2.1
              have gz0 := gz 0
              have hbx3 := hbx2.set0 ho2.ru (fun b e => by have := ho2.lt b e; exact ⟨by omega, this.2⟩)
              obtain ⟨h0, h1, h2, hz⟩ := at3 hbx3.1
              have hz2 := hz 2
              have hof := HOF.out (w2.setCell ⟨g, 0, none⟩ v2) _ _ p hbx3.2.1.2.2 (by simp only []; omega)
              have hb3W : Below W0.heap.size W0 (w2.setCell ⟨g, 0, none⟩ v2) := hb2W.setCell (p := ⟨g, 0, none⟩) hg v2
              obtain ⟨e2, f2, rfl⟩ := ho2.shape
              clear gz hz hput b0 b1 b2 bz0 bz2
              go_wp2_with fail
              refine hof.mono ?_
              rintro e w4 ⟨v4, rfl, ho4, hb4⟩
              have hb4W : Below W0.heap.size W0 w4 := hb3W.trans (hb4.mono hb3W.size)
              have hbx4 := hbx3.below (by simp only [World.size_setCell]; have := hb2.size; omega) hb4 (Nat.le_refl _)
              obtain ⟨m0, m1, m2, mz⟩ := at3 hbx4.1
              have mz2 := mz 2
              have hs4 := hb4.size
              have hs2 := hb2.size
              simp only [World.size_setCell] at hs4 ho4
              have hbx5 := hbx4.set2 ho4.ru (fun b e => by have := ho4.lt b e; exact ⟨by omega, this.2⟩)
              have HWX2 : Hid (∀ v ∈ [Value.slice e2 (putF p false V').length f2, .slice none 0 0, v4], ∀ b, v.ownBlock = some b → W0.heap.size ≤ b) := fun v hv b e => by
                simp only [List.mem_cons, List.not_mem_nil, or_false] at hv
                rcases hv with rfl | rfl | rfl
                · have := (ho2.lt b e).1; omega
                · simp [Value.ownBlock] at e
                · have := (ho4.lt b e).1; omega
              obtain ⟨S', HR1, HR2, HR3'⟩ := HR.out
              have HF2 : Hid (foldS (seatF V L) (qs.take (k + 1)) = some S' ∧ IsL S' 1 (putF p false V') ∧ IsL S' 2 (outF p L')) := ⟨HR1, HR2, HR3'⟩
              have hb5W : Below W0.heap.size W0 (w4.setCell ⟨g, 2, none⟩ v4) := hb4W.setCell (p := ⟨g, 2, none⟩) hg v4
              obtain ⟨e4, f4, rfl⟩ := ho4.shape
              clear mz HR HR1 HR2 HR3' hof
              go_wp2_with fail
              go_roundw
              case rel => exact ⟨k + 1, S', _, _, _, _, by omega, by go_num, HF2, by omega, by omega, hbx5, HWX2, by simp only [World.size_setCell]; omega, hb5W⟩
              case measure => simp [intOf]; omega
            · have hkb1 : (kd == 1) = false := by simp only [beq_eq_false_iff_ne, ne_eq]; exact hk1
              by_cases hk2 : kd = 2
              · subst hk2
                by_cases hpV : p ∈ V'
                · have HEN : Hid (EntR (V, O, L) qs none3 70) := HRN.out (by unfold rchg; rw [if_neg hp0, if_neg hk1, if_pos rfl, if_pos hpV])
                  have hin := HIN.out wr _ _ p hRx.1
                  rw [decide_eq_true hpV] at hin
                  clear HRN HRS hp0 hpV
                  obtain ⟨t0, t1, t2, tz⟩ := at3 (HKR.out wr hbr)
                  have tz0 := tz 0
                  have tz1 := tz 1
                  have tz2 := tz 2
                  clear tz
                  go_wp2_with fail
                  refine hin.mono ?_
                  rintro e w2 ⟨rfl, rfl⟩
                  go_wp2_with fail
                  obtain ⟨⟨k0, k1, k2⟩, hoc, hbz⟩ := HOUT.out w2 _ _ _ none3 hbr (Rc.nil _) HNIL.out _ rfl
                  generalize (((w2.setCell ⟨w.heap.size + 1, 0, none⟩ (.slice none 0 0)).setCell ⟨w.heap.size + 1, 1, none⟩ (.slice none 0 0)).setCell ⟨w.heap.size + 1, 2, none⟩ (.slice none 0 0)) = wz at *
                  refine bodyPost_ret (v := .tuple #[.agg #[.slice none 0 0, .slice none 0 0, .slice none 0 0], .int .i64 70]) (by simp [results, Try.results22, go_sem, k0, k1, k2]; try rfl) rfl ?_
                  exact ⟨_, _, _, none3, 70, rfl, hoc, HEN.out, hbz⟩
                · have HR : Hid _ := HRS.out _ _ (show rchg V' L' 2 p = some (V', putF p false L') by unfold rchg; rw [if_neg hp0, if_neg (by decide), if_pos rfl, if_neg hpV])
                  have hl2 := putF_len p L'
                  have hin := HIN.out wr _ _ p hRx.1
                  rw [decide_eq_false hpV] at hin
                  have hput := HPUT.out wr _ _ p hRx.2.2 (by simp only []; omega)
                  clear HRN HRS hp0 hpV
                  go_wp2_with fail
                  refine hin.mono ?_
                  rintro e w2 ⟨rfl, rfl⟩
                  go_wp2_with fail
                  refine hput.mono ?_
                  rintro e w4 ⟨v4, rfl, ho4, hb4⟩
                  have hb4W : Below W0.heap.size W0 w4 := hbr.trans (hb4.mono hzr)
                  have hbx4 := HBX.out.below hgr hb4 (Nat.le_refl _)
                  obtain ⟨m0, m1, m2, mz⟩ := at3 hbx4.1
                  have mz2 := mz 2
                  have hs4 := hb4.size
                  have hbx5 := hbx4.set2 ho4.ru (fun b e => by have := ho4.lt b e; exact ⟨by omega, this.2⟩)
                  have HWX2 : Hid (∀ v ∈ [Value.slice ex V'.length fx, .slice none 0 0, v4], ∀ b, v.ownBlock = some b → W0.heap.size ≤ b) := fun v hv b e => by
                    simp only [List.mem_cons, List.not_mem_nil, or_false] at hv
                    rcases hv with rfl | rfl | rfl
                    · exact HWX.out _ (by simp) b e
                    · simp [Value.ownBlock] at e
                    · have := (ho4.lt b e).1; omega
                  obtain ⟨S', HR1, HR2, HR3'⟩ := HR.out
                  have HF2 : Hid (foldS (seatF V L) (qs.take (k + 1)) = some S' ∧ IsL S' 1 V' ∧ IsL S' 2 (putF p false L')) := ⟨HR1, HR2, HR3'⟩
                  have hb5W : Below W0.heap.size W0 (w4.setCell ⟨g, 2, none⟩ v4) := hb4W.setCell (p := ⟨g, 2, none⟩) hg v4
                  obtain ⟨e4, f4, rfl⟩ := ho4.shape
                  clear mz HR HR1 HR2 HR3' hput hin b0 b1 b2 bz0 bz2
                  go_wp2_with fail
                  go_roundw
                  case rel => exact ⟨k + 1, S', _, _, _, _, by omega, by go_num, HF2, by omega, by omega, hbx5, HWX2, by simp only [World.size_setCell]; omega, hb5W⟩
                  case measure => simp [intOf]; omega
              · have hkb2 : (kd == 2) = false := by simp only [beq_eq_false_iff_ne, ne_eq]; exact hk2
                by_cases hk3 : kd = 3
                · have HR : Hid _ := HRS.out _ _ (show rchg V' L' kd p = some (outF p V', outF p L') by unfold rchg; rw [if_neg hp0, if_neg hk1, if_neg hk2, if_pos hk3])
                  have hl1 := outF_len p V'
                  have hl2 := outF_len p L'
                  have hput := HOF.out wr _ _ p hRx.1 (by simp only []; omega)
                  clear HRN HRS hp0
                  subst hk3
                  go_wp2_with fail
                  refine hput.mono ?_
                  rintro e w2 ⟨v2, rfl, ho2, hb2⟩
                  have hb2W : Below W0.heap.size W0 w2 := hbr.trans (hb2.mono hzr)
                  have hbx2 := HBX.out.below hgr hb2 (Nat.le_refl _)
                  obtain ⟨g0, g1, g2, gz⟩ := at3 hbx2.1
                  have gz0 := gz 0
                  have hbx3 := hbx2.set0 ho2.ru (fun b e => by have := ho2.lt b e; exact ⟨by omega, this.2⟩)
                  obtain ⟨h0, h1, h2, hz⟩ := at3 hbx3.1
                  have hz2 := hz 2
                  have hof := HOF.out (w2.setCell ⟨g, 0, none⟩ v2) _ _ p hbx3.2.1.2.2 (by simp only []; omega)
                  have hb3W : Below W0.heap.size W0 (w2.setCell ⟨g, 0, none⟩ v2) := hb2W.setCell (p := ⟨g, 0, none⟩) hg v2
                  obtain ⟨e2, f2, rfl⟩ := ho2.shape
                  clear gz hz hput b0 b1 b2 bz0 bz2
                  go_wp2_with fail
                  refine hof.mono ?_
                  rintro e w4 ⟨v4, rfl, ho4, hb4⟩
                  have hb4W : Below W0.heap.size W0 w4 := hb3W.trans (hb4.mono hb3W.size)
                  have hbx4 := hbx3.below (by simp only [World.size_setCell]; have := hb2.size; omega) hb4 (Nat.le_refl _)
                  obtain ⟨m0, m1, m2, mz⟩ := at3 hbx4.1
                  have mz2 := mz 2
                  have hs4 := hb4.size
                  have hs2 := hb2.size
                  simp only [World.size_setCell] at hs4 ho4
                  have hbx5 := hbx4.set2 ho4.ru (fun b e => by have := ho4.lt b e; exact ⟨by omega, this.2⟩)
                  have HWX2 : Hid (∀ v ∈ [Value.slice e2 (outF p V').length f2, .slice none 0 0, v4], ∀ b, v.ownBlock = some b → W0.heap.size ≤ b) := fun v hv b e => by
                    simp only [List.mem_cons, List.not_mem_nil, or_false] at hv
                    rcases hv with rfl | rfl | rfl
                    · have := (ho2.lt b e).1; omega
                    · simp [Value.ownBlock] at e
                    · have := (ho4.lt b e).1; omega
                  obtain ⟨S', HR1, HR2, HR3'⟩ := HR.out
                  have HF2 : Hid (foldS (seatF V L) (qs.take (k + 1)) = some S' ∧ IsL S' 1 (outF p V') ∧ IsL S' 2 (outF p L')) := ⟨HR1, HR2, HR3'⟩
                  have hb5W : Below W0.heap.size W0 (w4.setCell ⟨g, 2, none⟩ v4) := hb4W.setCell (p := ⟨g, 2, none⟩) hg v4
                  obtain ⟨e4, f4, rfl⟩ := ho4.shape
                  clear mz HR HR1 HR2 HR3' hof
                  go_wp2_with fail
                  go_roundw
                  case rel => exact ⟨k + 1, S', _, _, _, _, by omega, by go_num, HF2, by omega, by omega, hbx5, HWX2, by simp only [World.size_setCell]; omega, hb5W⟩
                  case measure => simp [intOf]; omega
                · have hkb3 : (kd == 3) = false := by simp only [beq_eq_false_iff_ne, ne_eq]; exact hk3
                  have HEN : Hid (EntR (V, O, L) qs none3 70) := HRN.out (by unfold rchg; rw [if_neg hp0, if_neg hk1, if_neg hk2, if_neg hk3])
                  clear HRN HRS hp0 hk1 hk2 hk3
                  obtain ⟨t0, t1, t2, tz⟩ := at3 (HKR.out wr hbr)
                  have tz0 := tz 0
                  have tz1 := tz 1
                  have tz2 := tz 2
                  clear tz
                  go_wp2_with fail
                  obtain ⟨⟨k0, k1, k2⟩, hoc, hbz⟩ := HOUT.out wr _ _ _ none3 hbr (Rc.nil _) HNIL.out _ rfl
                  generalize (((wr.setCell ⟨w.heap.size + 1, 0, none⟩ (.slice none 0 0)).setCell ⟨w.heap.size + 1, 1, none⟩ (.slice none 0 0)).setCell ⟨w.heap.size + 1, 2, none⟩ (.slice none 0 0)) = wz at *
                  refine bodyPost_ret (v := .tuple #[.agg #[.slice none 0 0, .slice none 0 0, .slice none 0 0], .int .i64 70]) (by simp [results, Try.results22, go_sem, k0, k1, k2]; try rfl) rfl ?_
                  exact ⟨_, _, _, none3, 70, rfl, hoc, HEN.out, hbz⟩
        · obtain rfl : k = qs.length := by omega
          obtain ⟨HF1, HF2, HF3⟩ := HF.out
          rw [List.take_length] at HF1
          have HE : Hid _ := HE4.out S V' L' HF1 HF2 HF3
          clear HF HF1 HF2 HF3 HE3 HE4 HST
          obtain ⟨b0, b1, b2, bz⟩ := at3 hbx.1
          clear bz
          have hRx := hbx.2.1
          obtain ⟨ex, fx, rfl⟩ := hRx.1.shape
          obtain ⟨ez, fz, rfl⟩ := hRx.2.2.shape
          have HBX : Hid (Box g wr (.slice ex V'.length fx) (.slice none 0 0) (.slice ez L'.length fz) (V', [], L')) := hbx
          obtain ⟨c0, c1, c2⟩ := HKC.out wr hbr
          have hsm := rsame_any hRx.1 (HR1.out wr hbr)
          simp only [] at hsm hRx
          by_cases hVV : V' = V
          · rw [decide_eq_true hVV] at hsm
            have HEA : Hid (chk (V', [], L') = false → EntR (V, O, L) qs none3 70) := fun h => HE.out.1 (by unfold nxt; rw [if_pos hVV]; exact h)
            have HEB : Hid (chk (V', [], L') = true → EntR (V, O, L) qs (V', [], L') 0) := fun h => by
              have := HE.out.2 (by unfold nxt; rw [if_pos hVV]; exact h)
              unfold nxt at this; rw [if_pos hVV] at this; exact this
            have HWY : Hid (∀ v ∈ [Value.slice ex V'.length fx, .slice none 0 0, .slice ez L'.length fz], ∀ b, v.ownBlock = some b → W0.heap.size ≤ b) := HWX.out
            clear HE hVV hbx
            go_wp2_with fail
            refine hsm.mono ?_
            rintro e wX ⟨rfl, hb2⟩
            have hbXW : Below W0.heap.size W0 wX := hbr.trans (hb2.mono hzr)
            have hbX := HBX.out.below hgr hb2 (Nat.le_refl _)
            have hgX : g < wX.heap.size := by have := hb2.size; omega
            clear hsm b0 b1 b2 c0 c1 c2
            have hck := HCK.out wX _ _ _ _ hbXW hbX.2.1 (by simp only [List.length_nil]; omega)
            obtain ⟨n0, n1, n2, _⟩ := at3 hbX.1
            go_wp2_with fail
            refine hck.mono ?_
            rintro e w5 ⟨rfl, hb5⟩
            have hb5W : Below W0.heap.size W0 w5 := hbXW.trans (hb5.mono hbXW.size)
            have hbx5 := hbX.below hgX hb5 (Nat.le_refl _)
            obtain ⟨y0, y1, y2, _⟩ := at3 hbx5.1
            obtain ⟨t0, t1, t2, tz⟩ := at3 (HKR.out w5 hb5W)
            have tz0 := tz 0
            have tz1 := tz 1
            have tz2 := tz 2
            clear tz
            clear hck n0 n1 n2
            cases hchk : chk (V', [], L') with
            | false =>
              have HEN : Hid (EntR (V, O, L) qs none3 70) := HEA.out hchk
              simp only [Bool.false_eq_true, if_false]
              clear hchk
              go_wp2_with fail
              obtain ⟨⟨k0, k1, k2⟩, hoc, hbz⟩ := HOUT.out w5 _ _ _ none3 hb5W (Rc.nil _) HNIL.out _ rfl
              generalize (((w5.setCell ⟨w.heap.size + 1, 0, none⟩ (.slice none 0 0)).setCell ⟨w.heap.size + 1, 1, none⟩ (.slice none 0 0)).setCell ⟨w.heap.size + 1, 2, none⟩ (.slice none 0 0)) = wz at *
              refine bodyPost_ret (v := .tuple #[.agg #[.slice none 0 0, .slice none 0 0, .slice none 0 0], .int .i64 70]) (by simp [results, Try.results22, go_sem, k0, k1, k2]; try rfl) rfl ?_
              exact ⟨_, _, _, none3, 70, rfl, hoc, HEN.out, hbz⟩
            | true =>
              have HEN : Hid (EntR (V, O, L) qs (V', [], L') 0) := HEB.out hchk
              simp only [if_true]
              clear hchk
              go_wp2_with fail
              obtain ⟨⟨k0, k1, k2⟩, hoc, hbz⟩ := HOUT.out w5 (.slice ex V'.length fx) (.slice none 0 0) (.slice ez L'.length fz) (V', [], L') hb5W hbx5.2.1 HWY.out _ rfl
              generalize (((w5.setCell ⟨w.heap.size + 1, 0, none⟩ (.slice ex V'.length fx)).setCell ⟨w.heap.size + 1, 1, none⟩ (.slice none 0 0)).setCell ⟨w.heap.size + 1, 2, none⟩ (.slice ez L'.length fz)) = wz at *
              refine bodyPost_ret (v := .tuple #[.agg #[.slice ex V'.length fx, .slice none 0 0, .slice ez L'.length fz], .int .i64 0]) (by simp [results, Try.results22, go_sem, k0, k1, k2]; try rfl) rfl ?_
              exact ⟨_, _, _, (V', [], L'), 0, rfl, hoc, HEN.out, hbz⟩
          · rw [decide_eq_false hVV] at hsm
            have HEA : Hid (chk (V', V, L') = false → EntR (V, O, L) qs none3 70) := fun h => HE.out.1 (by unfold nxt; rw [if_neg hVV]; exact h)
            have HEB : Hid (chk (V', V, L') = true → EntR (V, O, L) qs (V', V, L') 0) := fun h => by
              have := HE.out.2 (by unfold nxt; rw [if_neg hVV]; exact h)
              unfold nxt at this; rw [if_neg hVV] at this; exact this
            clear HE hVV hbx
            go_wp2_with fail
            refine hsm.mono ?_
            rintro e w2 ⟨rfl, hb2⟩
            have hb2W : Below W0.heap.size W0 w2 := hbr.trans (hb2.mono hzr)
            have hbx2 := HBX.out.below hgr hb2 (Nat.le_refl _)
            have hs2 := hb2.size
            obtain ⟨f0, f1, f2⟩ := HKC.out w2 hb2W
            have HBX2 : Hid (∀ W, Below w2.heap.size w2 W → Box g W (.slice ex V'.length fx) (.slice none 0 0) (.slice ez L'.length fz) (V', [], L')) := fun W hW => hbx2.below (by omega) hW (Nat.le_refl _)
            have hru := HR1.out w2 hb2W
            clear hsm b0 b1 b2 c0 c1 c2 hbx2
            go_wp2_with (first | (at_builtin; refine wpList_appU rfl _ _ rfl w2.heap.size _ [] rfl (Ou.nil _ _) _ V rfl hru ?x2 ?x3 ?_; rotate_right; intro v4 w4 ho4 hg4 hw4; have hb4 : Below w2.heap.size w2 w4 := (Below.refl _ _).grown hg4 (Nat.le_refl _) (fun j e => by cases e); obtain ⟨g0, g1, g2, gz⟩ := at3 (HBX2.out w4 hb4).1; have gz1 := gz 1; clear gz; obtain ⟨e4, f4, rfl⟩ := ho4.shape) | fail)
            case x2 => exact Nat.le_refl _
            case x3 => (try simp) <;> omega
            rw [List.nil_append] at ho4
            have hbX := (HBX2.out w4 hb4).set1 ho4.ru (fun b e => by have := ho4.lt b e; exact ⟨by omega, this.2⟩)
            have hb4W : Below W0.heap.size W0 w4 := hb2W.trans (hb4.mono hb2W.size)
            have hbXW : Below W0.heap.size W0 (w4.setCell ⟨g, 1, none⟩ (.slice e4 V.length f4)) := hb4W.setCell (p := ⟨g, 1, none⟩) hg _
            have hgX : g < (w4.setCell ⟨g, 1, none⟩ (.slice e4 V.length f4)).heap.size := by simp only [World.size_setCell]; have := hb4.size; omega
            have HWY : Hid (∀ v ∈ [Value.slice ex V'.length fx, .slice e4 V.length f4, .slice ez L'.length fz], ∀ b, v.ownBlock = some b → W0.heap.size ≤ b) := fun v hv b e => by
              simp only [List.mem_cons, List.not_mem_nil, or_false] at hv
              rcases hv with rfl | rfl | rfl
              · exact HWX.out _ (by simp) b e
              · have := (ho4.lt b e).1; have := hb2W.size; omega
              · exact HWX.out _ (by simp) b e
            simp only [] at hbX
            clear ho4 hg4 hw4 hb4 hb4W g0 g1 g2 gz1 f0 f1 f2 HBX2 HBX hb2 hb2W hs2 hru
            generalize (w4.setCell ⟨g, 1, none⟩ (.slice e4 V.length f4)) = wX at *
            have hck := HCK.out wX _ _ _ _ hbXW hbX.2.1 (by simp only []; omega)
            refine hck.mono ?_
            rintro e w5 ⟨rfl, hb5⟩
            have hb5W : Below W0.heap.size W0 w5 := hbXW.trans (hb5.mono hbXW.size)
            have hbx5 := hbX.below hgX hb5 (Nat.le_refl _)
            obtain ⟨y0, y1, y2, _⟩ := at3 hbx5.1
            obtain ⟨t0, t1, t2, tz⟩ := at3 (HKR.out w5 hb5W)
            have tz0 := tz 0
            have tz1 := tz 1
            have tz2 := tz 2
            clear tz
            clear hck
            cases hchk : chk (V', V, L') with
            | false =>
              have HEN : Hid (EntR (V, O, L) qs none3 70) := HEA.out hchk
              simp only [Bool.false_eq_true, if_false]
              clear hchk
              go_wp2_with fail
              obtain ⟨⟨k0, k1, k2⟩, hoc, hbz⟩ := HOUT.out w5 _ _ _ none3 hb5W (Rc.nil _) HNIL.out _ rfl
              generalize (((w5.setCell ⟨w.heap.size + 1, 0, none⟩ (.slice none 0 0)).setCell ⟨w.heap.size + 1, 1, none⟩ (.slice none 0 0)).setCell ⟨w.heap.size + 1, 2, none⟩ (.slice none 0 0)) = wz at *
              refine bodyPost_ret (v := .tuple #[.agg #[.slice none 0 0, .slice none 0 0, .slice none 0 0], .int .i64 70]) (by simp [results, Try.results22, go_sem, k0, k1, k2]; try rfl) rfl ?_
              exact ⟨_, _, _, none3, 70, rfl, hoc, HEN.out, hbz⟩
            | true =>
              have HEN : Hid (EntR (V, O, L) qs (V', V, L') 0) := HEB.out hchk
              simp only [if_true]
              clear hchk
              go_wp2_with fail
              obtain ⟨⟨k0, k1, k2⟩, hoc, hbz⟩ := HOUT.out w5 (.slice ex V'.length fx) (.slice e4 V.length f4) (.slice ez L'.length fz) (V', V, L') hb5W hbx5.2.1 HWY.out _ rfl
              generalize (((w5.setCell ⟨w.heap.size + 1, 0, none⟩ (.slice ex V'.length fx)).setCell ⟨w.heap.size + 1, 1, none⟩ (.slice e4 V.length f4)).setCell ⟨w.heap.size + 1, 2, none⟩ (.slice ez L'.length fz)) = wz at *
              refine bodyPost_ret (v := .tuple #[.agg #[.slice ex V'.length fx, .slice e4 V.length f4, .slice ez L'.length fz], .int .i64 0]) (by simp [results, Try.results22, go_sem, k0, k1, k2]; try rfl) rfl ?_
              exact ⟨_, _, _, (V', V, L'), 0, rfl, hoc, HEN.out, hbz⟩
end Go.Proofs.Ytedpfmalhapmeaa
