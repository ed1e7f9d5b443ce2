/- The law's own has and sameEdges. -/
import Derived.Test.YtipnghaphfgalaaG40
import Derived.Test.YtipnghaphfgalaaG15
namespace Go.Proofs.Ytipnghaphfgalaa
open Go.RowKit
set_option linter.unusedVariables false
set_option maxRecDepth 100000

theorem RdE.at_ {w : World} {a : Option Addr} {n c : Nat} {E : List Ed} (h : RdE w (.slice a n c) E) {k : Nat} {p : Ed} (hp : E[k]? = some p) : ∃ ad, a = some ad ∧ w.cell? (ad.add (k * 2)) = some (.int .u64 (p.1.toNat : Int)) ∧ w.cell? ⟨(ad.add (k * 2)).block, (ad.add (k * 2)).off + 1, none⟩ = some (.int .u64 (p.2.toNat : Int)) := by
  obtain ⟨ao, c', e, _, _, _, h4⟩ := h
  simp only [Value.slice.injEq] at e
  obtain ⟨rfl, rfl, rfl⟩ := e
  obtain ⟨ad, e, q⟩ := h4 k p hp
  exact ⟨ad, e, q.c0, q.c1⟩
set_option maxHeartbeats 1000000 in
theorem has_any {v : Value} {E : List Ed} {w : World} (h : RdE w v E) (hl : E.length ≤ 8192) (a b : UInt64) :
    Calls Try.prog 15 #[v, .int .u64 (a.toNat : Int), .int .u64 (b.toNat : Int)] w fun r w' => r = .returned (.bool (decide ((a, b) ∈ E))) ∧ w' = w := by
  obtain ⟨ao, c, ev, h1, h2⟩ := h.shape
  subst ev
  generalize hR : decide ((a, b) ∈ E) = R
  have HR : Hid (decide ((a, b) ∈ E) = R) := hR
  clear hR
  have HA : Hid (∀ k p, E[k]? = some p → ∃ ad, ao = some ad ∧ w.cell? (ad.add (k * 2)) = some (.int .u64 (p.1.toNat : Int)) ∧ w.cell? ⟨(ad.add (k * 2)).block, (ad.add (k * 2)).off + 1, none⟩ = some (.int .u64 (p.2.toNat : Int))) := fun k p => h.at_
  clear h
  go_enter Try.func15, Try.ntmps15
  go_wp2_with fail
  go_loopw [7] (fun i wr => ∃ k : Nat, k ≤ E.length ∧ i = .int .i64 k ∧ Hid (∀ j p, j < k → E[j]? = some p → p ≠ (a, b)) ∧ wr = w) (fun i _ => E.length - (intOf i).toNat)
  case atStart => exact ⟨0, Nat.zero_le _, rfl, (fun j p q => by omega), rfl⟩
  case round =>
    obtain ⟨k, hk, rfl, HK, rfl⟩ := hrel
    by_cases hlt : k < E.length
    · obtain ⟨⟨p1, p2⟩, hp⟩ : ∃ p, E[k]? = some p := ⟨_, List.getElem?_eq_getElem hlt⟩
      obtain ⟨ad, rfl, d0, d1⟩ := HA.out k _ hp
      simp only [] at d0 d1
      have hki : (k : Int) < (E.length : Int) := by omega
      by_cases q : p1 = a ∧ p2 = b
      · obtain ⟨rfl, rfl⟩ := q
        have HF : Hid (R = true) := by show _ = _; rw [← HR.out, decide_eq_true (List.mem_of_getElem? hp)]
        clear hp
        go_wp2_with fail
        go_ret
        exact ⟨by rw [HF.out]; rfl, rfl⟩
      · have HK2 : Hid (∀ j p, j < k + 1 → E[j]? = some p → p ≠ (a, b)) := fun j p q1 q2 => by
          rcases Nat.lt_or_ge j k with z | z
          · exact HK.out j p z q2
          · obtain rfl : j = k := by omega
            rw [hp] at q2
            obtain rfl := Option.some.inj q2
            exact fun e => q (Prod.mk.inj e)
        clear hp
        by_cases q1 : p1 = a
        · subst q1
          have q2 : p2 ≠ b := fun e => q ⟨rfl, e⟩
          have g3 : ((p2.toNat : Int) == (b.toNat : Int)) = false := by rw [u_eq]; simpa using q2
          have g4 : ¬ p2.toNat = b.toNat := fun z => q2 (UInt64.toNat_inj.1 z)
          clear q
          go_wp2_with fail
          exact ⟨⟨k + 1, by omega, by go_num, HK2, by first | rfl | trivial⟩, by simp [intOf]; omega⟩
        · have g1 : ((p1.toNat : Int) == (a.toNat : Int)) = false := by rw [u_eq]; simpa using q1
          have g2 : ¬ p1.toNat = a.toNat := fun z => q1 (UInt64.toNat_inj.1 z)
          clear q
          go_wp2_with fail
          exact ⟨⟨k + 1, by omega, by go_num, HK2, by first | rfl | trivial⟩, by simp [intOf]; omega⟩
    · obtain rfl : k = E.length := by omega
      have HF : Hid (R = false) := by
        show _ = _
        rw [← HR.out, decide_eq_false]
        intro hm
        obtain ⟨j, hj⟩ := List.mem_iff_getElem?.1 hm
        exact HK.out j _ (List.getElem?_eq_some_iff.1 hj).1 hj rfl
      go_wp2_with fail
      go_ret
      exact ⟨by rw [HF.out]; rfl, rfl⟩

set_option maxHeartbeats 1000000 in
theorem sameE_any {v v' : Value} {E : List Ed} {w : World} (h : RdE w v E) (h' : RdE w v' E) (hl : E.length ≤ 8192) :
    Calls Try.prog 14 #[v, v'] w fun r w' => r = .returned (.bool true) ∧ ∃ m, w' = w.drewN m := by
  obtain ⟨ao, c, ev, h1, h2⟩ := h.shape
  obtain ⟨ao', c', ev', h1', h2'⟩ := h'.shape
  subst ev
  subst ev'
  have HA : Hid (∀ k p, E[k]? = some p → ∃ ad, ao = some ad ∧ w.cell? (ad.add (k * 2)) = some (.int .u64 (p.1.toNat : Int)) ∧ w.cell? ⟨(ad.add (k * 2)).block, (ad.add (k * 2)).off + 1, none⟩ = some (.int .u64 (p.2.toNat : Int))) := fun k p => h.at_
  have HB : Hid (∀ k p, E[k]? = some p → ∃ ad, ao' = some ad ∧ w.cell? (ad.add (k * 2)) = some (.int .u64 (p.1.toNat : Int)) ∧ w.cell? ⟨(ad.add (k * 2)).block, (ad.add (k * 2)).off + 1, none⟩ = some (.int .u64 (p.2.toNat : Int))) := fun k p => h'.at_
  clear h h'
  go_enter Try.func14, Try.ntmps14
  go_wp2_with fail
  go_loopw [5] (fun i wr => ∃ k : Nat, k ≤ E.length ∧ i = .int .i64 k ∧ Below w.heap.size w wr ∧ ∃ m, wr = w.drewN m) (fun i _ => E.length - (intOf i).toNat)
  case atStart => exact ⟨0, Nat.zero_le _, rfl, Below.refl _ _, 0, rfl⟩
  case round =>
    obtain ⟨k, hk, rfl, hb, hm⟩ := hrel
    by_cases hlt : k < E.length
    · obtain ⟨⟨p1, p2⟩, hp⟩ : ∃ p, E[k]? = some p := ⟨_, List.getElem?_eq_getElem hlt⟩
      obtain ⟨ad, rfl, d0, d1⟩ := HA.out k _ hp
      obtain ⟨ad', rfl, d0', d1'⟩ := HB.out k _ hp
      simp only [] at d0 d1 d0' d1'
      have kk : ∀ x u, w.cell? x = some u → wr.cell? x = some u := fun x u q => by rw [hb.cell (World.block_lt_of_cell? w _ q)]; exact q
      have d0 := kk _ _ d0
      have d1 := kk _ _ d1
      have d0' := kk _ _ d0'
      have d1' := kk _ _ d1'
      have hki : (k : Int) < (E.length : Int) := by omega
      have HM : Hid (∃ m, wr = w.drewN m) := hm
      clear hp kk hm
      go_wp2_with fail
      go_quiet (fail)
      go_wp2_with fail
      refine ⟨⟨k + 1, by omega, by go_num, Below.tr hb (Below.dN wr _), ?_⟩, by simp [intOf]; omega⟩
      obtain ⟨m, hm⟩ := HM.out
      rw [hm]
      exact ⟨_, World.drewN_drewN _ _ _⟩
    · have HM : Hid (∃ m, wr = w.drewN m) := hm
      clear hm
      go_wp2_with fail
      go_ret
      exact ⟨rfl, HM.out⟩
end Go.Proofs.Ytipnghaphfgalaa
