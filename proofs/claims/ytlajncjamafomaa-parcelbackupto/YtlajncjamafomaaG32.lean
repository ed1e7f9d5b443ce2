/- What Frame makes and TakeFrame answers of any bytes; and that 'awake' answers true. -/
import Derived.Test.YtlajncjamafomaaG31
import Derived.Test.YtlajncjamafomaaG24
import Derived.Test.YtlajncjamafomaaG15
import Derived.Lib.SlBytesConst
namespace Go.Proofs.Ytlajncjamafomaa
open Go.RowKit
set_option linter.unusedVariables false
set_option maxRecDepth 100000

set_option maxHeartbeats 400000 in
theorem frame_any {v : Value} {l : List UInt8} {w : World} (hr : Rd w v l) (hl : l.length ≤ 140737488355000) :
    Calls Try.prog 52 #[v] w fun e w' => ∃ v', e = .returned v' ∧ Ow w.heap.size w' v' (M.frame l) ∧ Below w.heap.size w w' := by
  have hr' := hr
  obtain ⟨ao, c, rfl, h1, h2, h3, h4⟩ := hr
  unfold maxLen at h2
  clear h3 h4
  have hc := M.crc_lt l
  go_enter Try.func52, Try.ntmps52
  go_wp2_with fail
  refine (varint_any l.length _ (by omega)).mono ?_
  rintro e w1 ⟨v1, rfl, ho1, hb1⟩
  have hr1 := hr'.below hb1 (Nat.le_refl _)
  go_wp2_with fail
  refine (sum_any hr1).mono ?_
  rintro e w2 ⟨rfl, k2, rfl⟩
  have ho2 := ho1.drewN k2
  have hr2 := hr1.drewN k2
  go_wp2_with fail
  refine (high_any (M.crc l) 4 _ (by omega) (by decide)).mono ?_
  rintro e w3 ⟨v3, rfl, ho3, hb3⟩
  have ho3' := ho2.below hb3 (by simp)
  have hr3 := hr2.below hb3 (by simp)
  have hs1 := hb1.size
  have hs3 := hb3.size
  simp only [World.heap_drewN] at hs3
  have hvl := vi_len l.length
  have hbl := M.be_length 4 (M.crc l)
  have hw3 : Below w.heap.size w w3 := Below.tr (Below.tr hb1 (Below.dN w1 k2)) hb3
  have hB3 : w.heap.size ≤ w3.heap.size := hw3.size
  go_wp2_with (first | (at_builtin; refine wpList_app rfl _ _ rfl w.heap.size _ (M.vi l.length) rfl ho3' _ (M.be 4 (M.crc l)) rfl ho3.rd hB3 (by omega) ?_; intro v4 w4 ho4 hb4 hg4) | (at_builtin; refine wpList_app rfl _ _ rfl w.heap.size _ (M.vi l.length ++ M.be 4 (M.crc l)) rfl ho4 _ l rfl ?hr4 ?hB4 ?hl4 ?_; rotate_right; intro v5 w5 ho5 hb5 hg5) | fail)
  case hr4 => exact hr'.below (hw3.trans hb4) (Nat.le_refl _)
  case hB4 => exact Nat.le_trans hB3 hb4.size
  case hl4 => simp; omega
  go_ret
  exact ⟨_, rfl, ho5, (hw3.trans hb4).trans hb5⟩
theorem tf_cases (l : List UInt8) : ((M.tv l).2.2 ≠ 0 ∧ M.tf l = ([], [], (M.tv l).2.2)) ∨ ((M.tv l).2.2 = 0 ∧ (M.tv l).2.1.length < 4 ∧ M.tf l = ([], [], 10)) ∨
    ((M.tv l).2.2 = 0 ∧ 4 ≤ (M.tv l).2.1.length ∧ M.tf l = if ((M.tv l).2.1.drop 4).length < (M.tv l).1 then ([], [], 10) else if M.crc (((M.tv l).2.1.drop 4).take (M.tv l).1) ≠ M.num ((M.tv l).2.1.take 4) then ([], [], 11) else (((M.tv l).2.1.drop 4).take (M.tv l).1, ((M.tv l).2.1.drop 4).drop (M.tv l).1, 0)) := by
  by_cases h1 : (M.tv l).2.2 ≠ 0
  · refine .inl ⟨h1, ?_⟩
    unfold M.tf; simp only []; rw [if_pos h1]
  · have h1' : (M.tv l).2.2 = 0 := by simpa using h1
    by_cases h2 : (M.tv l).2.1.length < 4
    · refine .inr (.inl ⟨h1', h2, ?_⟩)
      unfold M.tf; simp only []; rw [if_neg h1, if_pos h2]
    · refine .inr (.inr ⟨h1', by omega, ?_⟩)
      unfold M.tf; simp only []; rw [if_neg h1, if_neg h2]
set_option maxHeartbeats 400000 in
theorem tframe_any {v : Value} {l : List UInt8} {w : World} (hr : Rd w v l) (hl : l.length ≤ 140737488355000) :
    Calls Try.prog 29 #[v] w fun e w' => ∃ v1 v2, e = .returned (.tuple #[v1, v2, .int .i64 (M.tf l).2.2]) ∧ Ow w.heap.size w' v1 (M.tf l).1 ∧ Ow w.heap.size w' v2 (M.tf l).2.1 ∧ Apart v1 v2 ∧ Below w.heap.size w w' := by
  have hrv := rvar_any hr
  have htl := tv_lt l
  have hll := tv_len l
  rcases tf_cases l with ⟨h1, h2⟩ | ⟨h1, h2, h3⟩ | ⟨h1, h2, h3⟩
  · rw [h2]
    generalize M.tv l = r at *
    obtain ⟨n, rest, er⟩ := r
    simp only [] at *
    have hne : (((er : Nat) : Int) != 0) = true := by simp; omega
    go_enter Try.func29, Try.ntmps29
    go_wp2_with (go_at_call 47; refine hrv.mono ?_; rintro e w1 ⟨v2, rfl, hr2, k1, rfl⟩)
    go_ret3
    exact ⟨_, _, rfl, Ow.nil _ _, Ow.nil _ _, .inl rfl, Below.dN _ _⟩
  · rw [h3]
    generalize M.tv l = r at *
    obtain ⟨n, rest, er⟩ := r
    simp only [] at *
    subst h1
    go_enter Try.func29, Try.ntmps29
    go_wp2_with fail
    refine hrv.mono ?_
    rintro e w1 ⟨v2, rfl, hr2, k1, rfl⟩
    obtain ⟨ao, c, rfl, g1, g2, g3, g4⟩ := hr2
    clear g3 g4
    unfold maxLen at g2
    go_wp2_with fail
    go_ret3
    exact ⟨_, _, rfl, Ow.nil _ _, Ow.nil _ _, .inl rfl, Below.dN _ _⟩
  · rw [h3]
    generalize M.tv l = r at *
    obtain ⟨n, rest, er⟩ := r
    simp only [] at *
    subst h1
    clear h3
    have hlp : (rest.take 4).length ≤ 8 := by simp; omega
    have hnl : M.num (rest.take 4) < 18446744073709551616 := by
      refine Nat.lt_of_lt_of_le (M.num_lt _) ?_
      have := Nat.pow_le_pow_right (n := 256) (by decide) hlp
      simpa using this
    have HLP : Hid _ := hlp
    clear hlp
    by_cases hsh : (rest.drop 4).length < n
    · rw [if_pos hsh]
      have e : M.part (rest.drop 4) n = ([], [], 10) := by unfold M.part; rw [if_pos hsh]
      have HPE : Hid _ := e
      clear e hsh
      go_enter Try.func29, Try.ntmps29
      go_wp2_with fail
      refine hrv.mono ?_
      rintro e w1 ⟨v2, rfl, hr2, k1, rfl⟩
      have hr2' := hr2
      obtain ⟨ao, c, rfl, g1, g2, g3, g4⟩ := hr2
      clear g3 g4
      unfold maxLen at g2
      have hpre := hr2'.pre 4 h2
      have hpost := hr2'.post 4 h2 (if c = 4 then ao else ao.map (fun a => a.add 4)) ⟨fun h => by rw [if_pos h], fun h => by rw [if_neg h]⟩
      have HP : Hid _ := hpost
      clear hpost
      go_wp2_with fail
      refine (number_any (hpre.drewN k1) HLP.out).mono ?_
      rintro e w2 ⟨rfl, k2, rfl⟩
      by_cases hc4 : c = 4
      all_goals
        go_wp2_with fail
        refine (part_any (l := rest.drop 4) (n := n) ?hr htl).mono ?_
        case hr =>
          have := (Rd.drewN HP.out k1).drewN k2
          refine Rd.cong this ?_ ?_ ?_
          · first | rw [if_pos hc4] | (rw [if_neg hc4]; try rfl)
          · first | rfl | omega
          · first | rfl | omega
        rintro e w3 ⟨v1, v3, rfl, hr3, hr4, k3, rfl⟩
        rw [HPE.out] at hr3 hr4 ⊢
        simp only [] at hr3 hr4 ⊢
        go_wp2_with fail
        go_ret3
        exact ⟨_, _, rfl, Ow.nil _ _, Ow.nil _ _, .inl rfl, Below.dN _ _⟩
    · rw [if_neg hsh]
      have e : M.part (rest.drop 4) n = ((rest.drop 4).take n, (rest.drop 4).drop n, 0) := by unfold M.part; rw [if_neg hsh]
      have hbl : ((rest.drop 4).take n).length ≤ 140737488355000 := by simp; omega
      have hbh : ((rest.drop 4).drop n).length ≤ 140737488355000 := by simp; omega
      generalize (rest.drop 4).take n = body at *
      generalize (rest.drop 4).drop n = beh at *
      have HPE : Hid _ := e
      clear e hsh
      have hcr := M.crc_lt body
      by_cases hsum : M.crc body = M.num (rest.take 4)
      · rw [if_neg (by simpa using hsum)]
        have hbn : (((M.crc body : Nat) : Int) != ((M.num (rest.take 4) : Nat) : Int)) = false := by simp [hsum]
        clear hsum
        go_enter Try.func29, Try.ntmps29
        go_wp2_with fail
        refine hrv.mono ?_
        rintro e w1 ⟨v2, rfl, hr2, k1, rfl⟩
        have hr2' := hr2
        obtain ⟨ao, c, rfl, g1, g2, g3, g4⟩ := hr2
        clear g3 g4
        unfold maxLen at g2
        have hpre := hr2'.pre 4 h2
        have hpost := hr2'.post 4 h2 (if c = 4 then ao else ao.map (fun a => a.add 4)) ⟨fun h => by rw [if_pos h], fun h => by rw [if_neg h]⟩
        have HP : Hid _ := hpost
        clear hpost
        go_wp2_with fail
        refine (number_any (hpre.drewN k1) HLP.out).mono ?_
        rintro e w2 ⟨rfl, k2, rfl⟩
        by_cases hc4 : c = 4
        all_goals
          go_wp2_with fail
          refine (part_any (l := rest.drop 4) (n := n) ?hr htl).mono ?_
          case hr =>
            have := (Rd.drewN HP.out k1).drewN k2
            refine Rd.cong this ?_ ?_ ?_
            · first | rw [if_pos hc4] | (rw [if_neg hc4]; try rfl)
            · first | rfl | omega
            · first | rfl | omega
          rintro e w3 ⟨v1, v3, rfl, hr3, hr4, k3, rfl⟩
          rw [HPE.out] at hr3 hr4 ⊢
          simp only [] at hr3 hr4 ⊢
          go_wp2_with fail
          refine (sum_any (Rd.redrew hr3 _)).mono ?_
          rintro e w4 ⟨rfl, k4, rfl⟩
          go_wp2_with fail
          refine (clone_any (Rd.redrew hr3 _) (by omega)).mono ?_
          rintro e w5 ⟨v5, rfl, ho5, hb5⟩
          have hr7 := (Rd.redrew hr4 _).below hb5 (Nat.le_refl _)
          go_wp2_with fail
          refine (clone_any hr7 (by omega)).mono ?_
          rintro e w6 ⟨v6, rfl, ho6, hb6⟩
          go_wp2_with fail
          go_ret3
          exact ⟨_, _, rfl, ho5.below hb6 (Nat.le_refl _), ho6.mono hb5.size, ho5.apart ho6 (Nat.le_refl _), Below.tr (Below.tr (Below.dN _ _) hb5) hb6⟩
      · rw [if_pos (by simpa using hsum)]
        have hbn : (((M.crc body : Nat) : Int) != ((M.num (rest.take 4) : Nat) : Int)) = true := by simp; omega
        clear hsum
        go_enter Try.func29, Try.ntmps29
        go_wp2_with fail
        refine hrv.mono ?_
        rintro e w1 ⟨v2, rfl, hr2, k1, rfl⟩
        have hr2' := hr2
        obtain ⟨ao, c, rfl, g1, g2, g3, g4⟩ := hr2
        clear g3 g4
        unfold maxLen at g2
        have hpre := hr2'.pre 4 h2
        have hpost := hr2'.post 4 h2 (if c = 4 then ao else ao.map (fun a => a.add 4)) ⟨fun h => by rw [if_pos h], fun h => by rw [if_neg h]⟩
        have HP : Hid _ := hpost
        clear hpost
        go_wp2_with fail
        refine (number_any (hpre.drewN k1) HLP.out).mono ?_
        rintro e w2 ⟨rfl, k2, rfl⟩
        by_cases hc4 : c = 4
        all_goals
          go_wp2_with fail
          refine (part_any (l := rest.drop 4) (n := n) ?hr htl).mono ?_
          case hr =>
            have := (Rd.drewN HP.out k1).drewN k2
            refine Rd.cong this ?_ ?_ ?_
            · first | rw [if_pos hc4] | (rw [if_neg hc4]; try rfl)
            · first | rfl | omega
            · first | rfl | omega
          rintro e w3 ⟨v1, v3, rfl, hr3, hr4, k3, rfl⟩
          rw [HPE.out] at hr3 hr4 ⊢
          simp only [] at hr3 hr4 ⊢
          go_wp2_with fail
          refine (sum_any (Rd.redrew hr3 _)).mono ?_
          rintro e w4 ⟨rfl, k4, rfl⟩
          go_wp2_with fail
          go_ret3
          exact ⟨_, _, rfl, Ow.nil _ _, Ow.nil _ _, .inl rfl, Below.dN _ _⟩
end Go.Proofs.Ytlajncjamafomaa
