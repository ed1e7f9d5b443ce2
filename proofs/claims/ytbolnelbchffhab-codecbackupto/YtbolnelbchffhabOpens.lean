/- What readGroup, readBytes, TakeBytes and TakeKey answer of any bytes. -/
import Derived.Test.YtbolnelbchffhabTakes
import Derived.Test.YtbolnelbchffhabBytes
namespace Go.Proofs.Ytbolnelbchffhab
open Go.RowKit
set_option linter.unusedVariables false
set_option maxRecDepth 100000

set_option maxHeartbeats 1000000 in
theorem group_any {v : Value} {l : List UInt8} {w : World} (hr : Rd w v l) :
    Calls Try.prog 71 #[v] w fun e w' => ∃ v1, e = .returned (.tuple #[v1, .int .i64 (M.tg l).2]) ∧ Rd w v1 (M.tg l).1 ∧ ∃ k, w' = w.drewN k := by
  rcases hr.two with ⟨rfl, rfl⟩ | ⟨a, c, rfl, h1, h2, h4⟩
  · have e : M.tg [] = ([], 10) := rfl
    rw [e]
    go_enter Try.func71, Try.ntmps71
    go_wp2
    go_ret2
    exact ⟨_, rfl, Rd.nil _, 0, rfl⟩
  · unfold maxLen at h2
    by_cases h9 : l.length < 9
    · have e : M.tg l = ([], 10) := by unfold M.tg; rw [if_pos h9]
      rw [e]
      go_enter Try.func71, Try.ntmps71
      go_wp2
      go_ret2
      exact ⟨_, rfl, Rd.nil _, 0, rfl⟩
    · have hc8 := h4 8 (by omega)
      have hc8' : w.cell? ⟨a.block, a.off + 8, none⟩ = some (.int .u8 ((l[8]'(by omega)).toNat : Int)) := hc8
      have hx8 := (l[8]'(by omega)).toNat_lt
      have eg : l.getD 8 0 = l[8]'(by omega) := by simp [show 8 < l.length by omega]
      have etg : M.tg l = if (l[8]'(by omega)).toNat < 247 then ([], 12) else if ((l.take 8).drop ((l[8]'(by omega)).toNat - 247)).all (fun x => x == 0) then (l.take ((l[8]'(by omega)).toNat - 247), 0) else ([], 12) := by
        unfold M.tg; rw [if_neg h9, eg]
      rw [etg]
      clear etg eg hc8
      generalize hf : (l[8]'(by omega)).toNat = f at *
      clear hf
      by_cases h247 : f < 247
      · rw [if_pos h247]
        clear h4
        go_enter Try.func71, Try.ntmps71
        go_wp2
        go_ret2
        exact ⟨_, rfl, Rd.nil _, 0, rfl⟩
      · rw [if_neg h247]
        obtain ⟨n, rfl⟩ : ∃ n, f = 247 + n := ⟨f - 247, by omega⟩
        rw [show 247 + n - 247 = n by omega]
        have hpiece := hr.piece n 8 (by omega) (by omega) (some (a.add n)) ⟨fun h => by omega, fun _ => rfl⟩
        have hpl : ((l.take 8).drop n).length = 8 - n := by simp; omega
        have hcel : ∀ j, (h : j < ((l.take 8).drop n).length) → w.cell? ((a.add n).add j) = some (.int .u8 (((l.take 8).drop n)[j].toNat : Int)) := by
          obtain ⟨ao, c', ev, _, _, _, q4⟩ := hpiece
          simp only [Value.slice.injEq] at ev
          obtain ⟨rfl, _, _⟩ := ev
          intro j hj
          obtain ⟨a', e, hc⟩ := q4 j hj
          obtain rfl := Option.some.inj e
          exact hc
        have hpre := hr.pre n (by omega)
        generalize hP : (l.take 8).drop n = P at *
        clear hP
        have HC : Hid _ := hcel
        have HL : Hid _ := hpl
        clear hpiece hcel hpl h4
        generalize hT : (if P.all (fun x => x == 0) = true then (l.take n, 0) else (([] : List UInt8), 12)) = T
        have HT : Hid _ := hT
        clear hT
        go_enter Try.func71, Try.ntmps71
        go_wp2
        have eN : 8 - (255 - (247 + n)) = n := by omega
        have HN : Hid _ := eN
        clear eN
        go_loopw [6, 22] (fun _ i wr => ∃ j : Nat, j ≤ 8 - n ∧ i = .int .i64 j ∧ (∀ p, (h : p < P.length) → p < j → P[p] = 0) ∧ wr = w) (fun _ i _ => 8 - n - (intOf i).toNat)
        case atStart => exact ⟨0, Nat.zero_le _, rfl, fun p _ hp => by omega, rfl⟩
        case round =>
          obtain ⟨j, hj, rfl, hz, rfl⟩ := hrel
          have HZ : Hid _ := hz
          clear hz
          have hPl := HL.out
          by_cases hlt : j < 8 - n
          · have hcj : wr.cell? ((a.add (8 - (255 - (247 + n)))).add j) = some (.int .u8 ((P[j]'(by omega)).toNat : Int)) := by
              have := HC.out j (by omega)
              have e := HN.out
              rw [show (a.add (8 - (255 - (247 + n)))) = a.add n from congrArg a.add e]
              exact this
            by_cases hx : (P[j]'(by omega)).toNat = 0
            · have hne : ((((P[j]'(by omega)).toNat : Nat) : Int) != 0) = false := by simp [hx]
              go_wp2
              refine ⟨⟨j + 1, by omega, by go_num, fun p h hp => ?_, trivial⟩, by simp [intOf]; omega⟩
              by_cases hp' : p < j
              · exact HZ.out p h hp'
              · obtain rfl : p = j := by omega
                exact UInt8.toNat_inj.1 (by simpa using hx)
            · have hne : ((((P[j]'(by omega)).toNat : Nat) : Int) != 0) = true := by simp; omega
              have eT : T = ([], 12) := by
                rw [← HT.out, if_neg]
                intro hall
                have := List.all_eq_true.1 hall (P[j]'(by omega)) (List.getElem_mem _)
                simp only [beq_iff_eq] at this
                rw [this] at hx
                exact hx rfl
              subst eT
              go_wp2
              go_ret2
              exact ⟨_, rfl, Rd.nil _, 0, rfl⟩
          · have eT : T = (l.take n, 0) := by
              rw [← HT.out, if_pos]
              rw [List.all_eq_true]
              intro x hx
              obtain ⟨p, hp, rfl⟩ := List.getElem_of_mem hx
              simp [HZ.out p hp (by omega)]
            subst eT
            go_wp2
            go_ret2
            exact ⟨_, rfl, Rd.cong hpre rfl (by omega) rfl, 0, rfl⟩

set_option maxHeartbeats 1000000 in
theorem readB_any {v : Value} {l : List UInt8} {w : World} (hr : Rd w v l) (hl : l.length ≤ 140737488355000) :
    Calls Try.prog 38 #[v] w fun e w' => ∃ v1 v2, e = .returned (.tuple #[v1, v2, .int .i64 (M.tb l).2.2]) ∧ Ow w.heap.size w' v1 (M.tb l).1 ∧ Rd w v2 (M.tb l).2.1 ∧ Below w.heap.size w w' := by
  generalize hT : M.tb l = T
  have HT : Hid (M.tbA (l.length + 1) [] l = T) := hT
  clear hT
  obtain ⟨n0, hn0⟩ : ∃ n, l.length = n := ⟨_, rfl⟩
  go_enter Try.func38, Try.ntmps38
  go_wp2
  go_loopw [0, 5, 6, 7] (fun vb out _ _ wr => ∃ (k : Nat) (l' acc : List UInt8), l'.length < k ∧ acc.length + l'.length ≤ l.length ∧ Rd w vb l' ∧ Ow w.heap.size wr out acc ∧ M.tbA k acc l' = T ∧ Below w.heap.size w wr) (fun vb _ _ _ _ => lenOf vb)
  case atStart => exact ⟨l.length + 1, l, [], by omega, by simp, hr, Ow.nil _ _, HT.out, Below.refl _ _⟩
  case round =>
    obtain ⟨k, l', acc, hk, hal, hrl, ho, hd, hb⟩ := hrel
    obtain ⟨k, rfl⟩ : ∃ k', k = k' + 1 := ⟨k - 1, by omega⟩
    clear HT
    rw [M.tbA] at hd
    have hB := hb.size
    have hgrp := group_any (hrl.below hb (Nat.le_refl _))
    have HG : Hid _ := hgrp
    clear hgrp
    by_cases hg : (M.tg l').2 ≠ 0
    · rw [if_pos hg] at hd
      subst hd
      have hne : ((((M.tg l').2 : Nat) : Int) != 0) = true := by simp; omega
      clear hg
      go_wp2_with fail
      refine Calls.mono HG.out ?_
      rintro e w1 ⟨v1, rfl, hr1, k1, rfl⟩
      go_wp2_with fail
      go_ret3
      exact ⟨_, _, rfl, Ow.nil _ _, Rd.nil _, hb.trans ((Below.dN _ k1).mono hB)⟩
    · rw [if_neg hg] at hd
      have hg0 : (M.tg l').2 = 0 := by simpa using hg
      have hgl := (M.tg_len l' hg0).2
      have hg9 := (M.tg_ok l' hg0).1
      rw [hg0] at HG
      clear hg hg0
      generalize (M.tg l').1 = part at *
      have hrl' := hrl
      obtain ⟨ao, c, rfl, g1, g2, g3, g4⟩ := hrl
      unfold maxLen at g2
      clear g3 g4
      have hpost := hrl'.post 9 hg9 (if c = 9 then ao else ao.map (fun a => a.add 9)) ⟨fun h => by rw [if_pos h], fun h => by rw [if_neg h]⟩
      have HP : Hid _ := hpost
      clear hpost hrl'
      have HD : Hid _ := hd
      clear hd
      by_cases hp8 : part.length < 8
      · have hd := HD.out
        rw [if_pos hp8] at hd
        subst hd
        clear HD
        by_cases hc9 : c = 9
        all_goals
          try subst hc9
          go_wp2_with fail
          refine Calls.mono HG.out ?_
          rintro e w1 ⟨v1, rfl, hr1, k1, rfl⟩
          have hr1' := hr1.drewN k1
          have ho1 := ho.drewN k1
          obtain ⟨ap, cp, rfl, e1, e2, _, _⟩ := hr1
          unfold maxLen at e2
          go_wp2_with (first | (at_builtin; refine wpList_app rfl _ _ rfl w.heap.size _ acc rfl ho1 _ part rfl hr1' hB (by omega) ?_; intro v4 w4 ho4 hb4 hg4) | fail)
          go_ret3
          refine ⟨_, _, rfl, ho4, ?_, (hb.trans ((Below.dN _ k1).mono hB)).trans hb4⟩
          refine Rd.cong HP.out ?_ ?_ ?_
          · first | (simp; done) | (rw [if_neg hc9]; try rfl)
          · first | rfl | omega
          · first | rfl | omega
      · have hd := HD.out
        rw [if_neg hp8] at hd
        have HD2 : Hid _ := hd
        clear hd HD
        by_cases hc9 : c = 9
        all_goals
          try subst hc9
          go_wp2_with fail
          refine Calls.mono HG.out ?_
          rintro e w1 ⟨v1, rfl, hr1, k1, rfl⟩
          have hr1' := hr1.drewN k1
          have ho1 := ho.drewN k1
          obtain ⟨ap, cp, rfl, e1, e2, _, _⟩ := hr1
          unfold maxLen at e2
          go_wp2_with (first | (at_builtin; refine wpList_app rfl _ _ rfl w.heap.size _ acc rfl ho1 _ part rfl hr1' hB (by omega) ?_; intro v4 w4 ho4 hb4 hg4) | fail)
          refine ⟨⟨k, l'.drop 9, acc ++ part, by simp; omega, by simp; omega, ?_, ho4, HD2.out, (hb.trans ((Below.dN _ k1).mono hB)).trans hb4⟩, by simp [lenOf]; omega⟩
          refine Rd.cong HP.out ?_ ?_ ?_
          · first | (simp; done) | (rw [if_neg hc9]; try rfl)
          · first | rfl | omega
          · first | rfl | omega
end Go.Proofs.Ytbolnelbchffhab
