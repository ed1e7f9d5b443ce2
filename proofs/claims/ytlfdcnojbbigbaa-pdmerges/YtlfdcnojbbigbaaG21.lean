/- SamePeers: are two lists of peers the same? -/
import Derived.Test.YtlfdcnojbbigbaaG11
import Derived.BigQuiet
namespace Go.Proofs.Ytlfdcnojbbigbaa
open Go.RowKit
set_option linter.unusedVariables false
set_option maxRecDepth 100000

set_option maxHeartbeats 4000000 in
theorem samePeers_any {va vb : Value} {la lb : List Pe} {w : World} (ha : RdPe w va la) (hb : RdPe w vb lb) :
    Calls Try.prog 17 #[va, vb] w fun e w' => e = .returned (.bool (decide (la = lb))) ∧ ∃ n, w' = w.drewN n := by
  obtain ⟨ao, ca, rfl, a1, a2, a3, a4⟩ := ha
  obtain ⟨bo, cb, rfl, b1, b2, b3, b4⟩ := hb
  unfold maxLen at a2 b2
  by_cases hn : la.length = lb.length
  · have hres : decide (la = lb) = decide (la.drop 0 = lb.drop 0) := rfl
    generalize decide (la = lb) = res at *
    have HR : Hid (res = decide (la.drop 0 = lb.drop 0)) := hres
    have HN : Hid _ := hn
    clear hres
    rw [← hn]
    clear hn
    go_enter Try.func17, Try.ntmps17
    go_wp2_with fail
    go_loopw [5] (fun i wr => ∃ k : Nat, k ≤ la.length ∧ i = .int .i64 k ∧ Hid (res = decide (la.drop k = lb.drop k)) ∧ ∃ m, wr = w.drewN m) (fun i _ => la.length - (intOf i).toNat)
    case atStart => exact ⟨0, Nat.zero_le _, rfl, HR, 0, rfl⟩
    case round =>
      obtain ⟨k, hk, rfl, HX, m, rfl⟩ := hrel
      by_cases hlt : k < la.length
      · obtain ⟨p, hp⟩ : ∃ p, la[k]? = some p := ⟨_, List.getElem?_eq_getElem hlt⟩
        obtain ⟨q, hq⟩ : ∃ q, lb[k]? = some q := ⟨_, List.getElem?_eq_getElem (by have := HN.out; omega)⟩
        obtain ⟨a, rfl, hpa⟩ := a4 k p hp
        obtain ⟨b, rfl, hqb⟩ := b4 k q hq
        have c0 : (w.drewN m).cell? (a.add (k * 3)) = _ := hpa.c0
        have c1 : (w.drewN m).cell? _ = _ := hpa.c1
        have c2 : (w.drewN m).cell? _ = _ := hpa.c2
        have d0 : (w.drewN m).cell? (b.add (k * 3)) = _ := hqb.c0
        have d1 : (w.drewN m).cell? _ = _ := hqb.c1
        have d2 : (w.drewN m).cell? _ = _ := hqb.c2
        have HD : Hid (decide (la.drop k = lb.drop k) = (decide (p = q) && decide (la.drop (k + 1) = lb.drop (k + 1)))) := by
          show _ = _
          obtain ⟨h1, rfl⟩ := List.getElem?_eq_some_iff.1 hp
          obtain ⟨h2, rfl⟩ := List.getElem?_eq_some_iff.1 hq
          rw [List.drop_eq_getElem_cons h1, List.drop_eq_getElem_cons h2]
          by_cases e1 : la[k] = lb[k]
          · by_cases e2 : la.drop (k + 1) = lb.drop (k + 1)
            · rw [decide_eq_true (by rw [e1, e2]), decide_eq_true e1, decide_eq_true e2]; rfl
            · rw [decide_eq_false (fun q => e2 (List.cons.inj q).2), decide_eq_true e1, decide_eq_false e2]; rfl
          · rw [decide_eq_false (fun q => e1 (List.cons.inj q).1), decide_eq_false e1]; rfl
        clear hpa hqb a4 b4 hp hq
        have HW : Hid (∃ m', w.drewN m = w.drewN m') := ⟨m, rfl⟩
        generalize w.drewN m = W at *
        obtain ⟨p0, p1, p2⟩ := p
        obtain ⟨q0, q1, q2⟩ := q
        simp only [] at c0 c1 c2 d0 d1 d2
        have hkl : (k : Int) < (la.length : Int) := by omega
        have fin : ∀ nq, ∃ n, W.drewN nq = w.drewN n := fun nq => by
          obtain ⟨m', e⟩ := HW.out
          exact ⟨m' + nq, by rw [e]; simp [World.drewN, Nat.add_assoc]⟩
        by_cases h0 : p0 = q0
        · have hn0 : p0.toNat = q0.toNat := by rw [h0]
          have g0 : ((p0.toNat : Int) != (q0.toNat : Int)) = false := by rw [h0]; simp
          by_cases h1 : p1 = q1
          · have g1 : (p1 != q1) = false := by rw [h1]; simp
            by_cases h2 : p2 = q2
            · have g2 : (p2 != q2) = false := by rw [h2]; simp
              have HY : Hid (res = decide (la.drop (k + 1) = lb.drop (k + 1))) := by show _ = _; rw [HX.out, HD.out, decide_eq_true (by rw [h0, h1, h2]), Bool.true_and]
              subst h0
              subst h1
              subst h2
              go_wp2_with fail
              go_quiet (fail)
              go_wp2_with fail
              exact ⟨⟨k + 1, by omega, by go_num, HY, fin _⟩, by simp [intOf]; omega⟩
            · have HY : Hid (res = false) := by show _ = _; rw [HX.out, HD.out, decide_eq_false (fun q => h2 (Prod.mk.inj (Prod.mk.inj q).2).2), Bool.false_and]
              subst h0
              subst h1
              have hbb : (p2 = true ∧ q2 = false) ∨ (p2 = false ∧ q2 = true) := by cases p2 <;> cases q2 <;> simp_all
              clear h2 HD
              rcases hbb with ⟨rfl, rfl⟩ | ⟨rfl, rfl⟩
              · go_wp2_with fail
                go_quiet (fail)
                go_wp2_with fail
                go_ret
                exact ⟨by rw [HY.out]; rfl, fin _⟩
              · go_wp2_with fail
                go_quiet (fail)
                go_wp2_with fail
                go_ret
                exact ⟨by rw [HY.out]; rfl, fin _⟩
          · have g1 : (p1 != q1) = true := by simp [h1]
            have HY : Hid (res = false) := by show _ = _; rw [HX.out, HD.out, decide_eq_false (fun q => h1 (Prod.mk.inj (Prod.mk.inj q).2).1), Bool.false_and]
            subst h0
            go_wp2_with fail
            go_quiet (fail)
            go_wp2_with fail
            go_ret
            exact ⟨by rw [HY.out]; rfl, fin _⟩
        · have hn0 : ¬ (p0.toNat : Int) = (q0.toNat : Int) := fun q => h0 (UInt64.toNat_inj.1 (by omega))
          have g0 : ((p0.toNat : Int) != (q0.toNat : Int)) = true := by simp; omega
          have HY : Hid (res = false) := by show _ = _; rw [HX.out, HD.out, decide_eq_false (fun q => h0 (Prod.mk.inj q).1), Bool.false_and]
          go_wp2_with fail
          go_quiet (fail)
          go_wp2_with fail
          go_ret
          exact ⟨by rw [HY.out]; rfl, fin _⟩
      · obtain rfl : k = la.length := by omega
        have HT : Hid (res = true) := by
          show _ = _
          rw [HX.out, List.drop_length, List.drop_of_length_le (by have := HN.out; omega)]; rfl
        go_wp2_with fail
        go_ret
        exact ⟨by rw [HT.out]; rfl, _, rfl⟩
  · have g1 : ((la.length : Int) != (lb.length : Int)) = true := by simp; omega
    have g2 : ¬ (la.length : Int) = (lb.length : Int) := by omega
    have HR : Hid (decide (la = lb) = false) := decide_eq_false (fun q => hn (by rw [q]))
    go_enter Try.func17, Try.ntmps17
    go_wp2_with fail
    go_ret
    exact ⟨by rw [HR.out]; rfl, 0, rfl⟩
end Go.Proofs.Ytlfdcnojbbigbaa
