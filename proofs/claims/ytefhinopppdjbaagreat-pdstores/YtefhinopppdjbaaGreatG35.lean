/- order2, median, medianAdjacent, choosePivot at uint64: a place in the range. -/
import Derived.Test.YtefhinopppdjbaaGreatG33
namespace Go.Proofs.YtefhinopppdjbaaGreat
open Go.RowKit Go.Sort
set_option linter.unusedVariables false
set_option maxRecDepth 100000

/-- The count of swaps in a block of its own, beside the row. -/
structure Pv (B g c s : Nat) (d : Array UInt64) (q : Nat) (w : World) : Prop where
  row : Rw B g c d w
  cnt : w.heap[s]? = some (.cells #[.int .i64 (q : Int)] 3 (0, 0))
  ne : s ≠ g
theorem Pv.drewN {B g c s q : Nat} {d : Array UInt64} {w : World} (h : Pv B g c s d q w) (n : Nat) : Pv B g c s d q (w.drewN n) := ⟨h.row.drewN n, h.cnt, h.ne⟩
theorem Pv.put {B g c s q : Nat} {d : Array UInt64} {w : World} (h : Pv B g c s d q w) (q' : Nat) : Pv B g c s d q' (w.setCell ⟨s, 0, none⟩ (.int .i64 (q' : Int))) := by
  have hc : Chg (fun b => b = s) w (w.setCell ⟨s, 0, none⟩ (.int .i64 (q' : Int))) := (Chg.refl _ w).put s 0 _ rfl
  refine ⟨ownsRow_keptC h.row hc (fun b e q => ?_), by rw [heap_setCell_same _ _ _ _ _ _ h.cnt]; rfl, h.ne⟩
  have : b = g := (Option.some.inj e).symm
  exact h.ne (by rw [← q, this])

set_option maxHeartbeats 2000000 in
theorem ord2_any {B g c s q : Nat} {d : Array UInt64} {w : World} (h : Pv B g c s d q w) (a b : Nat) (ha : a < d.size) (hb : b < d.size) (hsz : d.size ≤ 1152921504606846976) (hq : q ≤ 1000) :
    Calls Tryz.prog 106 #[.slice (some ⟨g, 0, none⟩) d.size c, .int .i64 a, .int .i64 b, .pointer (some ⟨s, 0, none⟩)] w fun e w' => (∃ x y q' : Nat, e = .returned (.tuple #[.int .i64 x, .int .i64 y]) ∧ ((x = a ∧ y = b) ∨ (x = b ∧ y = a)) ∧ q' ≤ q + 1 ∧ Pv B g c s d q' w') ∧ Chg (fun b => b = s) w w' := by
  obtain ⟨z1, z2, z3, z4⟩ := h.row.sz
  have ca := h.row.cell a ha
  have cb := h.row.cell b hb
  have l1 : (a : Int) < (d.size : Int) := by omega
  have l2 : (b : Int) < (d.size : Int) := by omega
  have cs : w.cell? ⟨s, 0, none⟩ = some (.int .i64 (q : Int)) := by rw [cell_of_row _ _ _ _ _ _ h.cnt]; rfl
  have fs : w.frozen? ⟨s, 0, none⟩ = false := frozen_of_row _ _ _ _ _ h.cnt
  generalize hX : d[a]! = X at *
  generalize hY : d[b]! = Y at *
  clear hX hY
  cases hq2 : ltU Y X with
  | true =>
    have hl := less_q w Y X true hq2
    have HP : Hid (∀ n, Pv B g c s d (q + 1) ((w.drewN n).setCell ⟨s, 0, none⟩ (.int .i64 ((q + 1 : Nat) : Int)))) := fun n => (h.drewN n).put (q + 1)
    have HC : Hid (∀ n, Chg (fun b => b = s) w ((w.drewN n).setCell ⟨s, 0, none⟩ (.int .i64 ((q + 1 : Nat) : Int)))) := fun n => ((Chg.refl _ w).dq n).put s 0 _ rfl
    clear h hq2
    go_enter Tryz.func106, Tryz.ntmps106
    go_wp2_with fail
    go_quiet (first | (go_at_call 57; exact hl _) | fail)
    go_wp2_with fail
    go_ret2
    exact ⟨⟨b, a, q + 1, rfl, .inr ⟨rfl, rfl⟩, Nat.le_refl _, HP.out _⟩, HC.out _⟩
  | false =>
    have hl := less_q w Y X false hq2
    have HP : Hid (∀ n, Pv B g c s d q (w.drewN n)) := fun n => h.drewN n
    clear h hq2
    go_enter Tryz.func106, Tryz.ntmps106
    go_wp2_with fail
    go_quiet (first | (go_at_call 57; exact hl _) | fail)
    go_wp2_with fail
    go_ret2
    exact ⟨⟨a, b, q, rfl, .inl ⟨rfl, rfl⟩, by omega, HP.out _⟩, (Chg.refl _ w).dq _⟩

theorem med_any {B g c s q : Nat} {d : Array UInt64} {w : World} (h : Pv B g c s d q w) (x y z : Nat) (hx : x < d.size) (hy : y < d.size) (hz : z < d.size) (hsz : d.size ≤ 1152921504606846976) (hq : q ≤ 900) :
    Calls Tryz.prog 85 #[.slice (some ⟨g, 0, none⟩) d.size c, .int .i64 x, .int .i64 y, .int .i64 z, .pointer (some ⟨s, 0, none⟩)] w fun e w' => (∃ r q' : Nat, e = .returned (.int .i64 r) ∧ (r = x ∨ r = y ∨ r = z) ∧ q' ≤ q + 3 ∧ Pv B g c s d q' w') ∧ Chg (fun b => b = s) w w' := by
  go_enter Tryz.func85, Tryz.ntmps85
  go_wp2_with fail
  refine (ord2_any h x y hx hy hsz (by omega)).mono ?_
  rintro e w1 ⟨⟨x1, y1, q1, rfl, h1, hq1, hp1⟩, hc1⟩
  go_wp2_with fail
  refine (ord2_any hp1 y1 z (by omega) hz hsz (by omega)).mono ?_
  rintro e w2 ⟨⟨x2, y2, q2, rfl, h2, hq2, hp2⟩, hc2⟩
  go_wp2_with fail
  refine (ord2_any hp2 x1 x2 (by omega) (by omega) hsz (by omega)).mono ?_
  rintro e w3 ⟨⟨x3, y3, q3, rfl, h3, hq3, hp3⟩, hc3⟩
  go_wp2_with fail
  go_ret
  exact ⟨⟨y3, q3, rfl, by omega, by omega, hp3⟩, (hc1.trans (hc2.mono (fun b _ q => .inl q))).trans (hc3.mono (fun b _ q => .inl q))⟩

theorem madj_any {B g c s q : Nat} {d : Array UInt64} {w : World} (h : Pv B g c s d q w) (x : Nat) (h0 : 0 < x) (hx : x + 1 < d.size) (hsz : d.size ≤ 1152921504606846976) (hq : q ≤ 900) :
    Calls Tryz.prog 84 #[.slice (some ⟨g, 0, none⟩) d.size c, .int .i64 x, .pointer (some ⟨s, 0, none⟩)] w fun e w' => (∃ r q' : Nat, e = .returned (.int .i64 r) ∧ x - 1 ≤ r ∧ r ≤ x + 1 ∧ q' ≤ q + 3 ∧ Pv B g c s d q' w') ∧ Chg (fun b => b = s) w w' := by
  obtain ⟨xm, hxm⟩ : ∃ k, k = x - 1 := ⟨_, rfl⟩
  obtain ⟨xp, hxp⟩ : ∃ k, k = x + 1 := ⟨_, rfl⟩
  have e1 : (x : Int) - 1 = (xm : Int) := by omega
  have e3 : (x : Int) + 1 = (xp : Int) := by omega
  have hm := med_any h xm x xp (by omega) (by omega) (by omega) hsz hq
  have b1 : x - 1 ≤ xm ∧ xm ≤ x + 1 := by omega
  have b2 : x - 1 ≤ xp ∧ xp ≤ x + 1 := by omega
  clear hxm hxp
  go_enter Tryz.func84, Tryz.ntmps84
  go_wp2_with fail
  refine hm.mono ?_
  rintro e w1 ⟨⟨r, q1, rfl, h1, hq1, hp1⟩, hc1⟩
  go_wp2_with fail
  go_ret
  exact ⟨⟨r, q1, rfl, by omega, by omega, hq1, hp1⟩, hc1⟩

set_option maxHeartbeats 4000000 in
theorem upivot_any {B g c : Nat} {d : Array UInt64} {w : World} (h : Rw B g c d w) (a b : Nat) (hb : b ≤ d.size) (ha : a + 13 ≤ b) (hsz : d.size ≤ 1152921504606846976) :
    Calls Tryz.prog 54 #[.slice (some ⟨g, 0, none⟩) d.size c, .int .i64 a, .int .i64 b] w fun e w' => (∃ p hn : Nat, e = .returned (.tuple #[.int .i64 p, .int .i64 hn]) ∧ a ≤ p ∧ p < b ∧ hn ≤ 2 ∧ Rw B g c d w') ∧ Below w.heap.size w w' := by
  obtain ⟨z1, z2, z3, z4⟩ := h.sz
  obtain ⟨l, hl⟩ : ∃ k, k = b - a := ⟨_, rfl⟩
  obtain ⟨m, hm⟩ : ∃ k, k = l / 4 := ⟨_, rfl⟩
  obtain ⟨i, hi⟩ : ∃ k, k = a + m := ⟨_, rfl⟩
  obtain ⟨j, hj⟩ : ∃ k, k = a + m * 2 := ⟨_, rfl⟩
  obtain ⟨k, hk⟩ : ∃ k, k = a + m * 3 := ⟨_, rfl⟩
  have e1 : (b : Int) - (a : Int) = (l : Int) := by omega
  have e2 : (l : Int) / 4 = (m : Int) := by omega
  have e3 : (a : Int) + (m : Int) = (i : Int) := by omega
  have e4 : (a : Int) + (m : Int) * 2 = (j : Int) := by omega
  have e5 : (a : Int) + (m : Int) * 3 = (k : Int) := by omega
  have bi : a < i ∧ i + 1 < b := by omega
  have bj : a < j ∧ j + 1 < b := by omega
  have bk : a < k ∧ k + 1 < b := by omega
  have g8 : 8 ≤ l := by omega
  have hms : m ≤ d.size := by omega
  have hpv : Pv B g c w.heap.size d 0 (w.alloc (.cells #[.int .i64 0] 3)) := ⟨Ou.alloc h _, heap_alloc_new w _, by omega⟩
  have hcA : Below w.heap.size w (w.alloc (.cells #[.int .i64 0] 3)) := u_al w _
  have HF : Hid (∀ (W : World) (q : Nat), Pv B g c w.heap.size d q W → W.cell? ⟨w.heap.size, 0, none⟩ = some (.int .i64 (q : Int))) := fun W q hp => by rw [cell_of_row _ _ _ _ _ _ hp.cnt]; rfl
  have HT : Hid (∀ (W W' : World), Below w.heap.size w W → Chg (fun b => b = w.heap.size) W W' → Below w.heap.size w W') := fun W W' h1 h2 => h1.trans (h2.below (fun b q => by omega) h1.size)
  clear hl hm hi hj hk h
  by_cases h50 : 50 ≤ l
  · go_enter Tryz.func54, Tryz.ntmps54
    go_wp2_with fail
    refine (madj_any hpv i (by omega) (by omega) hsz (by omega)).mono ?_
    rintro e w1 ⟨⟨r1, q1, rfl, a1, b1, c1, p1⟩, hc1⟩
    go_wp2_with fail
    refine (madj_any p1 j (by omega) (by omega) hsz (by omega)).mono ?_
    rintro e w2 ⟨⟨r2, q2, rfl, a2, b2, c2, p2⟩, hc2⟩
    go_wp2_with fail
    refine (madj_any p2 k (by omega) (by omega) hsz (by omega)).mono ?_
    rintro e w3 ⟨⟨r3, q3, rfl, a3, b3, c3, p3⟩, hc3⟩
    go_wp2_with fail
    refine (med_any p3 r1 r2 r3 (by omega) (by omega) (by omega) hsz (by omega)).mono ?_
    rintro e w4 ⟨⟨r, q, rfl, ar, cr, p4⟩, hc4⟩
    have hbz := HT.out _ _ (HT.out _ _ (HT.out _ _ (HT.out _ _ hcA hc1) hc2) hc3) hc4
    have cs := HF.out w4 q p4
    have br : a ≤ r ∧ r < b := by omega
    by_cases q0 : q = 0
    · subst q0
      go_wp2_with fail
      go_ret2
      exact ⟨⟨r, 1, rfl, br.1, br.2, by omega, p4.row⟩, hbz⟩
    · have n0 : ((q : Int) == 0) = false := by simp; omega
      by_cases q12 : q = 12
      · subst q12
        go_wp2_with fail
        go_ret2
        exact ⟨⟨r, 2, rfl, br.1, br.2, by omega, p4.row⟩, hbz⟩
      · have n12 : ((q : Int) == 12) = false := by simp; omega
        go_wp2_with fail
        go_ret2
        exact ⟨⟨r, 0, rfl, br.1, br.2, by omega, p4.row⟩, hbz⟩
  · go_enter Tryz.func54, Tryz.ntmps54
    go_wp2_with fail
    refine (med_any hpv i j k (by omega) (by omega) (by omega) hsz (by omega)).mono ?_
    rintro e w4 ⟨⟨r, q, rfl, ar, cr, p4⟩, hc4⟩
    have hbz := HT.out _ _ hcA hc4
    have cs := HF.out w4 q p4
    have br : a ≤ r ∧ r < b := by omega
    by_cases q0 : q = 0
    · subst q0
      go_wp2_with fail
      go_ret2
      exact ⟨⟨r, 1, rfl, br.1, br.2, by omega, p4.row⟩, hbz⟩
    · have n0 : ((q : Int) == 0) = false := by simp; omega
      by_cases q12 : q = 12
      · subst q12
        go_wp2_with fail
        go_ret2
        exact ⟨⟨r, 2, rfl, br.1, br.2, by omega, p4.row⟩, hbz⟩
      · have n12 : ((q : Int) == 12) = false := by simp; omega
        go_wp2_with fail
        go_ret2
        exact ⟨⟨r, 0, rfl, br.1, br.2, by omega, p4.row⟩, hbz⟩
end Go.Proofs.YtefhinopppdjbaaGreat
