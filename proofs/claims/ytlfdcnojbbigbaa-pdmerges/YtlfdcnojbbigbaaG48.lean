/- slices.Equal over seats. -/
import Derived.Test.YtlfdcnojbbigbaaG47
import Derived.Deep.RegionHeld3
namespace Go.Proofs.Ytlfdcnojbbigbaa
open Go.RowKit
set_option linter.unusedVariables false
set_option maxRecDepth 100000

theorem neq_seat (W : World) (a c : Int) (b d : Bool) : (binOp .neq 121 (.agg #[.int .i64 a, .bool b]) (.agg #[.int .i64 c, .bool d])).run Try.prog W = .ok (.bool (!(a == c && b == d))) W := by
  rw [run_neq_struct, run_equalIn_agg _ _ _ _ _ (by kernel_rfl) (by kernel_rfl)]
  simp only [Program.fieldsOf, Try.underlying121]
  go_simp
  by_cases h1 : a = c
  · subst h1
    cases b <;> cases d <;> simp
  · simp [h1]
set_option maxHeartbeats 2000000 in
theorem equalSe_any {va vb : Value} {la lb : List Se} {w : World} (ha : RdSe w va la) (hb : RdSe w vb lb) :
    Calls Try.prog 71 #[va, vb] w fun e w' => e = .returned (.bool (decide (la = lb))) ∧ ∃ n, w' = w.drewN n := by
  obtain ⟨ao, ca, rfl, a1, a2, a4⟩ := ha
  obtain ⟨bo, cb, rfl, b1, b2, b4⟩ := hb
  unfold maxLen at a2 b2
  by_cases hn : la.length = lb.length
  · have hres : decide (la = lb) = decide (la.drop 0 = lb.drop 0) := rfl
    generalize decide (la = lb) = res at *
    have HR : Hid (res = decide (la.drop 0 = lb.drop 0)) := hres
    have HN : Hid _ := hn
    clear hres
    rw [← hn]
    clear hn
    go_enter Try.func71, Try.ntmps71
    go_wp2_with fail
    go_loopw [5, 13] (fun _ i wr => ∃ k : Nat, k ≤ la.length ∧ i = .int .i64 k ∧ Hid (res = decide (la.drop k = lb.drop k)) ∧ ∃ m, wr = w.drewN m) (fun _ i _ => la.length - (intOf i).toNat)
    case atStart => exact ⟨0, Nat.zero_le _, rfl, HR, 0, rfl⟩
    case round =>
      obtain ⟨k, hk, rfl, HX, m, rfl⟩ := hrel
      by_cases hlt : k < la.length
      · obtain ⟨p, hp⟩ : ∃ p, la[k]? = some p := ⟨_, List.getElem?_eq_getElem hlt⟩
        obtain ⟨q, hq⟩ : ∃ q, lb[k]? = some q := ⟨_, List.getElem?_eq_getElem (by have := HN.out; omega)⟩
        obtain ⟨a, rfl, hp0, hp1⟩ := a4 k p hp
        obtain ⟨b, rfl, hq0, hq1⟩ := b4 k q hq
        have c0 : (w.drewN m).cell? (a.add (k * 2)) = _ := hp0
        have c1 : (w.drewN m).cell? _ = _ := hp1
        have d0 : (w.drewN m).cell? (b.add (k * 2)) = _ := hq0
        have d1 : (w.drewN m).cell? _ = _ := hq1
        have HD : Hid (decide (la.drop k = lb.drop k) = (decide (p = q) && decide (la.drop (k + 1) = lb.drop (k + 1)))) := by
          show _ = _
          obtain ⟨h1, rfl⟩ := List.getElem?_eq_some_iff.1 hp
          obtain ⟨h2, rfl⟩ := List.getElem?_eq_some_iff.1 hq
          rw [List.drop_eq_getElem_cons h1, List.drop_eq_getElem_cons h2]
          by_cases e1 : la[k] = lb[k]
          · by_cases e2 : la.drop (k + 1) = lb.drop (k + 1)
            · rw [decide_eq_true (by rw [e1, e2]), decide_eq_true e1, decide_eq_true e2]; rfl
            · rw [decide_eq_false (fun q => e2 (List.cons.inj q).2), decide_eq_true e1, decide_eq_false e2]; rfl
          · rw [decide_eq_false (fun q => e1 (List.cons.inj q).1), decide_eq_false e1]; rfl
        clear hp0 hp1 hq0 hq1 a4 b4 hp hq
        have HW : Hid (∃ m', w.drewN m = w.drewN m') := ⟨m, rfl⟩
        generalize w.drewN m = W at *
        obtain ⟨p0, p1⟩ := p
        obtain ⟨q0, q1⟩ := q
        simp only [] at c0 c1 d0 d1
        have hkl : (k : Int) < (la.length : Int) := by omega
        have hne := fun W => neq_seat W p0 q0 p1 q1
        have fin : ∀ nq, ∃ n, W.drewN nq = w.drewN n := fun nq => by
          obtain ⟨m', e⟩ := HW.out
          exact ⟨m' + nq, by rw [e]; simp [World.drewN, Nat.add_assoc]⟩
        by_cases hpq : ((p0, p1) : Se) = (q0, q1)
        · have hbe : (!(p0 == q0 && p1 == q1)) = false := by
            have h1 : p0 = q0 := (Prod.mk.inj hpq).1
            have h2 : p1 = q1 := (Prod.mk.inj hpq).2
            rw [h1, h2]; simp
          have HY : Hid (res = decide (la.drop (k + 1) = lb.drop (k + 1))) := by show _ = _; rw [HX.out, HD.out, decide_eq_true hpq, Bool.true_and]
          rw [hbe] at hne
          clear hpq HD hbe
          go_wp2_with fail
          go_quiet (fail)
          go_wp2_with fail
          exact ⟨⟨k + 1, by omega, by go_num, HY, fin _⟩, by simp [intOf]; omega⟩
        · have hbe : (!(p0 == q0 && p1 == q1)) = true := by
            cases h : (p0 == q0 && p1 == q1) with
            | false => rfl
            | true =>
              rw [Bool.and_eq_true, beq_iff_eq, beq_iff_eq] at h
              exact absurd (by rw [h.1, h.2]) hpq
          have HY : Hid (res = false) := by show _ = _; rw [HX.out, HD.out, decide_eq_false hpq, Bool.false_and]
          rw [hbe] at hne
          clear hpq HD hbe
          go_wp2_with fail
          go_quiet (fail)
          go_wp2_with fail
          go_ret
          exact ⟨by rw [HY.out]; rfl, fin _⟩
      · obtain rfl : k = la.length := by omega
        have HT : Hid (res = true) := by
          show _ = _
          rw [HX.out, List.drop_length, List.drop_of_length_le (by have := HN.out; omega)]; rfl
        go_wp2_with fail
        go_ret
        exact ⟨by rw [HT.out]; rfl, _, rfl⟩
  · have g1 : ((la.length : Int) != (lb.length : Int)) = true := by simp; omega
    have g2 : ¬ (la.length : Int) = (lb.length : Int) := by omega
    have HR : Hid (decide (la = lb) = false) := decide_eq_false (fun q => hn (by rw [q]))
    go_enter Try.func71, Try.ntmps71
    go_wp2_with fail
    go_ret
    exact ⟨by rw [HR.out]; rfl, 0, rfl⟩
end Go.Proofs.Ytlfdcnojbbigbaa
