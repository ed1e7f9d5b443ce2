/- reverseRange, siftDown, heapSort at uint64: the library's plain functions. -/
import Derived.Test.YtefhinopppdjbaaGreatG31
import Derived.Sort.LotB
namespace Go.Proofs.YtefhinopppdjbaaGreat
open Go.RowKit Go.Sort
set_option linter.unusedVariables false
set_option maxRecDepth 100000

theorem Chg.dq {S : Nat → Prop} {w w' : World} (h : Chg S w w') (q : Nat) : Chg S w (w'.drewN q) := h.trans ((Chg.of_below (Below.dN w' q)).mono (fun b hb hb2 => by omega))
theorem less_q (wr : World) (X Y : UInt64) (r : Bool) (h : ltU X Y = r) : ∀ q, Calls Tryz.prog 57 #[.int .u64 (X.toNat : Int), .int .u64 (Y.toNat : Int)] (wr.drewN q) fun e w' => e = .returned (.bool r) ∧ ∃ n, w' = wr.drewN n := fun q => (less_any _ _ _).mono (by rintro e w' ⟨rfl, rfl⟩; exact ⟨by rw [h], q, rfl⟩)

set_option maxHeartbeats 2000000 in
theorem urev_any {B g c : Nat} {d : Array UInt64} {w : World} (h : Rw B g c d w) (a b : Nat) (hb : b ≤ d.size) (ha : a < b) (hsz : d.size ≤ 1152921504606846976) :
    Calls Tryz.prog 55 #[.slice (some ⟨g, 0, none⟩) d.size c, .int .i64 a, .int .i64 b] w fun e w' => e = .returned (.tuple #[]) ∧ Rw B g c (reverseRange d a b) w' ∧ Chg (fun x => x = g) w w' := by
  obtain ⟨z1, z2, z3, z4⟩ := h.sz
  unfold reverseRange
  generalize hR : reverseLoop a (b - 1) d = R
  have HR : Hid _ := hR
  clear hR
  have hb1 : IntKind.i64.wrap ((b : Int) - 1) = ((b - 1 : Nat) : Int) := by rw [IntKind.wrap_i64]; omega
  have hb2 : (b : Int) - 1 = ((b - 1 : Nat) : Int) := by omega
  go_enter Tryz.func55, Tryz.ntmps55
  go_wp2_with fail
  go_loopw [6, 7] (fun vi vj wr => ∃ (i j : Nat) (dk : Array UInt64), vi = .int .i64 i ∧ vj = .int .i64 j ∧ a ≤ i ∧ j < b ∧ i ≤ j + 1 ∧ Hid (dk.size = d.size) ∧ Rw B g c dk wr ∧ Hid (reverseLoop i j dk = R) ∧ Chg (fun x => x = g) w wr) (fun vi vj _ => (intOf vj).toNat + 1 - (intOf vi).toNat)
  case atStart => exact ⟨a, b - 1, d, rfl, by first | rfl | go_num, Nat.le_refl _, by omega, by omega, rfl, h, HR, Chg.refl _ _⟩
  case round =>
    obtain ⟨i, j, dk, rfl, rfl, hai, hjb, hij, HZ, hk, HO, hch⟩ := hrel
    clear h HR hb1 hb2
    by_cases hlt : i < j
    · have HO2 : Hid (reverseLoop (i + 1) (j - 1) (swp dk i j) = R) := by
        have := HO.out
        rw [reverseLoop, if_pos hlt] at this
        exact this
      have ci := hk.cell i (by rw [HZ.out]; omega)
      have cj := hk.cell j (by rw [HZ.out]; omega)
      have fi := hk.froz i
      have fj := hk.froz j
      have l1 : (i : Int) < (d.size : Int) := by omega
      have l2 : (j : Int) < (d.size : Int) := by omega
      have hne : ¬ i = j := by omega
      have hne2 : ¬ j = i := by omega
      have HS : Hid (∀ n, Rw B g c (swp dk i j) (((wr.drewN n).setCell ⟨g, i, none⟩ (.int .u64 ((dk[j]!).toNat : Int))).setCell ⟨g, j, none⟩ (.int .u64 ((dk[i]!).toNat : Int)))) := fun n => (hk.drewN n).swp i j
      have hj1 : IntKind.i64.wrap ((j : Int) - 1) = ((j - 1 : Nat) : Int) := by rw [IntKind.wrap_i64]; omega
      have hj2 : (j : Int) - 1 = ((j - 1 : Nat) : Int) := by omega
      generalize dk[i]! = X at *
      generalize dk[j]! = Y at *
      clear HO
      go_wp2_with fail
      go_region
      go_wp2_with fail
      exact ⟨⟨i + 1, j - 1, swp dk i j, by go_num, by first | rfl | go_num, by omega, by omega, by omega, by show _ = _; rw [swp_size]; exact HZ.out, HS.out _, HO2, chg_swp hch _ _ _ _ _⟩, by simp [intOf]; omega⟩
    · have HO2 : Hid (R = dk) := by
        have := HO.out
        rw [reverseLoop, if_neg hlt] at this
        exact this.symm
      obtain rfl := HO2.out
      go_wp2_with fail
      go_end0
      exact ⟨rfl, hk, hch⟩

theorem sift_stop (hi first root : Nat) (d : Array UInt64) (h : 2 * root + 1 ≥ hi) : siftDown ltU hi first root d = d := by rw [siftDown, dif_pos h]
/-- The greater child of root. -/
def chil (hi first root : Nat) (d : Array UInt64) : Nat := if 2 * root + 1 + 1 < hi && ltU d[first + (2 * root + 1)]! d[first + (2 * root + 1) + 1]! then 2 * root + 2 else 2 * root + 1
theorem sift_eq (hi first root : Nat) (d : Array UInt64) (h : ¬ 2 * root + 1 ≥ hi) : siftDown ltU hi first root d = if ltU d[first + root]! d[first + chil hi first root d]! then siftDown ltU hi first (chil hi first root d) (swp d (first + root) (first + chil hi first root d)) else d := by
  rw [siftDown, dif_neg h]
  unfold chil
  by_cases hc : (2 * root + 1 + 1 < hi && ltU d[first + (2 * root + 1)]! d[first + (2 * root + 1) + 1]!) = true
  · rw [if_pos hc]
    simp only [if_pos hc]
    have h2 : 2 * root + 2 < hi := by simp only [Bool.and_eq_true, decide_eq_true_eq] at hc; omega
    cases ltU d[first + root]! d[first + (2 * root + 2)]! with
    | true => simp [h2]
    | false => simp
  · rw [if_neg hc]
    simp only [if_neg hc]
    cases ltU d[first + root]! d[first + (2 * root + 1)]! <;> simp

set_option maxHeartbeats 4000000 in
theorem usift_any {B g c : Nat} {d : Array UInt64} {w : World} (h : Rw B g c d w) (lo hi first : Nat) (hb : first + hi ≤ d.size) (hlo : lo ≤ d.size) (hsz : d.size ≤ 1152921504606846976) :
    Calls Tryz.prog 81 #[.slice (some ⟨g, 0, none⟩) d.size c, .int .i64 lo, .int .i64 hi, .int .i64 first] w fun e w' => e = .returned (.tuple #[]) ∧ Rw B g c (siftDown ltU hi first lo d) w' ∧ Chg (fun x => x = g) w w' := by
  obtain ⟨z1, z2, z3, z4⟩ := h.sz
  generalize hR : siftDown ltU hi first lo d = R
  have HR : Hid _ := hR
  clear hR
  go_enter Tryz.func81, Tryz.ntmps81
  go_wp2_with fail
  go_loopw [8, 9] (fun vr _ wr => ∃ (root : Nat) (dk : Array UInt64), vr = .int .i64 root ∧ root ≤ d.size ∧ Hid (dk.size = d.size) ∧ Rw B g c dk wr ∧ Hid (siftDown ltU hi first root dk = R) ∧ Chg (fun x => x = g) w wr) (fun vr _ _ => d.size + 1 - (intOf vr).toNat)
  case atStart => exact ⟨lo, d, rfl, hlo, rfl, h, HR, Chg.refl _ _⟩
  case round =>
    obtain ⟨root, dk, rfl, hrt, HZ, hk, HO, hch⟩ := hrel
    clear h HR
    obtain ⟨k1, hk1⟩ : ∃ k, k = 2 * root + 1 := ⟨_, rfl⟩
    have e0 : IntKind.i64.wrap (2 * (root : Int)) = 2 * (root : Int) := by rw [IntKind.wrap_i64]; omega
    have e1 : 2 * (root : Int) + 1 = (k1 : Int) := by omega
    by_cases hst : hi ≤ k1
    · have HO2 : Hid (R = dk) := by have := HO.out; rw [sift_stop hi first root dk (by omega)] at this; exact this.symm
      obtain rfl := HO2.out
      clear hk1
      go_wp2_with fail
      go_end0
      exact ⟨rfl, hk, hch⟩
    · obtain ⟨fr, hfr⟩ : ∃ k, k = first + root := ⟨_, rfl⟩
      obtain ⟨f1, hf1⟩ : ∃ k, k = first + k1 := ⟨_, rfl⟩
      have e2 : (first : Int) + (k1 : Int) = (f1 : Int) := by omega
      have e3 : (first : Int) + (root : Int) = (fr : Int) := by omega
      by_cases hk2 : k1 + 1 < hi
      · obtain ⟨k2, hk2'⟩ : ∃ k, k = k1 + 1 := ⟨_, rfl⟩
        obtain ⟨f2, hf2⟩ : ∃ k, k = f1 + 1 := ⟨_, rfl⟩
        have e4 : (k1 : Int) + 1 = (k2 : Int) := by omega
        have e5 : (f1 : Int) + 1 = (f2 : Int) := by omega
        have e6 : (first : Int) + (k2 : Int) = (f2 : Int) := by omega
        have d1 : decide ((k2 : Int) < (hi : Int)) = true := by simp; omega
        have d2 : decide (k2 < hi) = true := by simp; omega
        have c1 := hk.cell f1 (by rw [HZ.out]; omega)
        have c2 := hk.cell f2 (by rw [HZ.out]; omega)
        have l1 : (f1 : Int) < (d.size : Int) := by omega
        have l2 : (f2 : Int) < (d.size : Int) := by omega
        cases hq1 : ltU dk[f1]! dk[f2]! with
        | true =>
          have hl1 := less_q wr _ _ true hq1
          have HCH : Hid (chil hi first root dk = k2) := by
            show _ = _
            unfold chil
            rw [if_pos, show 2 * root + 2 = k2 by omega]
            rw [show first + (2 * root + 1) = f1 by omega, show f1 + 1 = f2 by omega, hq1]
            simp; omega
          have lh : (f2 : Int) < (d.size : Int) := by omega
          have lr : (fr : Int) < (d.size : Int) := by omega
          have hne : ¬ fr = f2 := by omega
          have hne2 : ¬ f2 = fr := by omega
          have hm1 : root < k2 := by omega
          have hm2 : k2 ≤ d.size := by omega
          have HO2 : Hid ((if ltU dk[fr]! dk[f2]! = true then siftDown ltU hi first k2 (swp dk fr f2) else dk) = R) := by
            have := HO.out
            rw [sift_eq hi first root dk (by omega), HCH.out] at this
            rw [show fr = first + root by omega, show f2 = first + k2 by omega]
            exact this
          clear HO HCH hk1 hfr hf1 hk2' hf2
          go_wp2_with fail
          go_quiet (first | (go_at_call 57; exact hl1 _) | fail)
          go_wp2_with fail
          have hkq := hk.drewN nq
          have hcq := hch.dq nq
          clear hk hch c1 c2 hl1
          generalize wr.drewN nq = wq at *
          have ch := hkq.cell f2 (by rw [HZ.out]; omega)
          have cr := hkq.cell fr (by rw [HZ.out]; omega)
          have fh := hkq.froz f2
          have ffr := hkq.froz fr
          have HS : Hid (∀ n, Rw B g c (swp dk fr f2) (((wq.drewN n).setCell ⟨g, fr, none⟩ (.int .u64 ((dk[f2]!).toNat : Int))).setCell ⟨g, f2, none⟩ (.int .u64 ((dk[fr]!).toNat : Int)))) := fun n => (hkq.drewN n).swp fr f2
          generalize dk[f2]! = Y at *
          generalize dk[fr]! = X at *
          cases hq : ltU X Y with
          | true =>
            have hl2 := less_q wq X Y true hq
            have HO3 : Hid (siftDown ltU hi first k2 (swp dk fr f2) = R) := by have := HO2.out; rw [if_pos hq] at this; exact this
            clear hq HO2
            go_quiet (first | (go_at_call 57; exact hl2 _) | fail)
            go_wp2_with fail
            go_region
            go_wp2_with fail
            exact ⟨⟨k2, swp dk fr f2, by first | rfl | go_num, by omega, by show _ = _; rw [swp_size]; exact HZ.out, HS.out _, HO3, chg_swp hcq _ _ _ _ _⟩, by simp [intOf]; omega⟩
          | false =>
            have hl2 := less_q wq X Y false hq
            have HO3 : Hid (R = dk) := by have := HO2.out; rw [if_neg (by rw [hq]; decide)] at this; exact this.symm
            obtain rfl := HO3.out
            clear hq HO2
            go_quiet (first | (go_at_call 57; exact hl2 _) | fail)
            go_wp2_with fail
            (try simp only [Exit.inBlock, Exit.then])
            refine bodyPost_ret (results_none rfl _ _ _) rfl ?_
            exact ⟨rfl, hkq.drewN _, hcq.dq _⟩
        | false =>
          have hl1 := less_q wr _ _ false hq1
          have HCH : Hid (chil hi first root dk = k1) := by
            show _ = _
            unfold chil
            rw [if_neg, show 2 * root + 1 = k1 by omega]
            rw [show first + (2 * root + 1) = f1 by omega, show f1 + 1 = f2 by omega, hq1]
            simp
          have lh : (f1 : Int) < (d.size : Int) := by omega
          have lr : (fr : Int) < (d.size : Int) := by omega
          have hne : ¬ fr = f1 := by omega
          have hne2 : ¬ f1 = fr := by omega
          have hm1 : root < k1 := by omega
          have hm2 : k1 ≤ d.size := by omega
          have HO2 : Hid ((if ltU dk[fr]! dk[f1]! = true then siftDown ltU hi first k1 (swp dk fr f1) else dk) = R) := by
            have := HO.out
            rw [sift_eq hi first root dk (by omega), HCH.out] at this
            rw [show fr = first + root by omega, show f1 = first + k1 by omega]
            exact this
          clear HO HCH hk1 hfr hf1 hk2' hf2
          go_wp2_with fail
          go_quiet (first | (go_at_call 57; exact hl1 _) | fail)
          go_wp2_with fail
          have hkq := hk.drewN nq
          have hcq := hch.dq nq
          clear hk hch c1 c2 hl1
          generalize wr.drewN nq = wq at *
          have ch := hkq.cell f1 (by rw [HZ.out]; omega)
          have cr := hkq.cell fr (by rw [HZ.out]; omega)
          have fh := hkq.froz f1
          have ffr := hkq.froz fr
          have HS : Hid (∀ n, Rw B g c (swp dk fr f1) (((wq.drewN n).setCell ⟨g, fr, none⟩ (.int .u64 ((dk[f1]!).toNat : Int))).setCell ⟨g, f1, none⟩ (.int .u64 ((dk[fr]!).toNat : Int)))) := fun n => (hkq.drewN n).swp fr f1
          generalize dk[f1]! = Y at *
          generalize dk[fr]! = X at *
          cases hq : ltU X Y with
          | true =>
            have hl2 := less_q wq X Y true hq
            have HO3 : Hid (siftDown ltU hi first k1 (swp dk fr f1) = R) := by have := HO2.out; rw [if_pos hq] at this; exact this
            clear hq HO2
            go_quiet (first | (go_at_call 57; exact hl2 _) | fail)
            go_wp2_with fail
            go_region
            go_wp2_with fail
            exact ⟨⟨k1, swp dk fr f1, by first | rfl | go_num, by omega, by show _ = _; rw [swp_size]; exact HZ.out, HS.out _, HO3, chg_swp hcq _ _ _ _ _⟩, by simp [intOf]; omega⟩
          | false =>
            have hl2 := less_q wq X Y false hq
            have HO3 : Hid (R = dk) := by have := HO2.out; rw [if_neg (by rw [hq]; decide)] at this; exact this.symm
            obtain rfl := HO3.out
            clear hq HO2
            go_quiet (first | (go_at_call 57; exact hl2 _) | fail)
            go_wp2_with fail
            (try simp only [Exit.inBlock, Exit.then])
            refine bodyPost_ret (results_none rfl _ _ _) rfl ?_
            exact ⟨rfl, hkq.drewN _, hcq.dq _⟩
      · have d1 : decide ((k1 : Int) + 1 < (hi : Int)) = false := by simp; omega
        have HCH : Hid (chil hi first root dk = k1) := by
          show _ = _
          unfold chil
          rw [if_neg, show 2 * root + 1 = k1 by omega]
          simp; omega
        have lh : (f1 : Int) < (d.size : Int) := by omega
        have lr : (fr : Int) < (d.size : Int) := by omega
        have hne : ¬ fr = f1 := by omega
        have hne2 : ¬ f1 = fr := by omega
        have hm1 : root < k1 := by omega
        have hm2 : k1 ≤ d.size := by omega
        have HO2 : Hid ((if ltU dk[fr]! dk[f1]! = true then siftDown ltU hi first k1 (swp dk fr f1) else dk) = R) := by
          have := HO.out
          rw [sift_eq hi first root dk (by omega), HCH.out] at this
          rw [show fr = first + root by omega, show f1 = first + k1 by omega]
          exact this
        clear HO HCH hk1 hfr hf1
        go_wp2_with fail
        go_quiet (fail)
        go_wp2_with fail
        have hkq := hk.drewN nq
        have hcq := hch.dq nq
        clear hk hch
        generalize wr.drewN nq = wq at *
        have ch := hkq.cell f1 (by rw [HZ.out]; omega)
        have cr := hkq.cell fr (by rw [HZ.out]; omega)
        have fh := hkq.froz f1
        have ffr := hkq.froz fr
        have HS : Hid (∀ n, Rw B g c (swp dk fr f1) (((wq.drewN n).setCell ⟨g, fr, none⟩ (.int .u64 ((dk[f1]!).toNat : Int))).setCell ⟨g, f1, none⟩ (.int .u64 ((dk[fr]!).toNat : Int)))) := fun n => (hkq.drewN n).swp fr f1
        generalize dk[f1]! = Y at *
        generalize dk[fr]! = X at *
        cases hq : ltU X Y with
        | true =>
          have hl2 := less_q wq X Y true hq
          have HO3 : Hid (siftDown ltU hi first k1 (swp dk fr f1) = R) := by have := HO2.out; rw [if_pos hq] at this; exact this
          clear hq HO2
          go_quiet (first | (go_at_call 57; exact hl2 _) | fail)
          go_wp2_with fail
          go_region
          go_wp2_with fail
          exact ⟨⟨k1, swp dk fr f1, by first | rfl | go_num, by omega, by show _ = _; rw [swp_size]; exact HZ.out, HS.out _, HO3, chg_swp hcq _ _ _ _ _⟩, by simp [intOf]; omega⟩
        | false =>
          have hl2 := less_q wq X Y false hq
          have HO3 : Hid (R = dk) := by have := HO2.out; rw [if_neg (by rw [hq]; decide)] at this; exact this.symm
          obtain rfl := HO3.out
          clear hq HO2
          go_quiet (first | (go_at_call 57; exact hl2 _) | fail)
          go_wp2_with fail
          (try simp only [Exit.inBlock, Exit.then])
          refine bodyPost_ret (results_none rfl _ _ _) rfl ?_
          exact ⟨rfl, hkq.drewN _, hcq.dq _⟩
end Go.Proofs.YtefhinopppdjbaaGreat
