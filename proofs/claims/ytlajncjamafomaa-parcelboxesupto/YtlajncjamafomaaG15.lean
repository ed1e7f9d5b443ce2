/- What the document's own TakeFrame answers of any bytes. -/
import Derived.Test.YtlajncjamafomaaG14
namespace Go.Proofs.Ytlajncjamafomaa
open Go.RowKit
set_option linter.unusedVariables false
set_option maxRecDepth 100000

theorem rtf_step (l : List UInt8) (k : Nat) (h : k < l.length) (h4 : k < 4) : bits BinOp.or IntKind.u32 ((M.num (l.take k) : Int) * 256) (l[k].toNat : Int) = (M.num (l.take (k + 1)) : Int) ∧ M.num (l.take k) < 16777216 := by
  have hb : M.num (l.take k) < 16777216 := by
    have := M.num_lt (l.take k)
    rw [List.length_take, Nat.min_eq_left (by omega)] at this
    refine Nat.lt_of_lt_of_le this ?_
    have := Nat.pow_le_pow_right (n := 256) (by decide) (show k ≤ 3 by omega)
    simpa using this
  have hx := l[k].toNat_lt
  refine ⟨?_, hb⟩
  rw [show ((M.num (l.take k) : Int) * 256) = ((M.num (l.take k) * 256 : Nat) : Int) by omega, u32_or_nat _ _ (by omega) (by omega), nat_join 8 _ _ (by omega) (by omega), take_snoc l k h, M.num_snoc]
theorem take_piece (l : List UInt8) (n : Nat) : (l.take (4 + n)).drop 4 = (l.drop 4).take n := by
  rw [List.drop_take]; congr 1; omega

set_option maxHeartbeats 2000000 in
theorem rtframe_any {v : Value} {l : List UInt8} {w : World} (hr : Rd w v l) (hl : l.length ≤ 1099511627776) :
    Calls Try.prog 39 #[v] w fun e w' => ∃ v1 v2, e = .returned (.tuple #[v1, v2, .int .i64 (M.tf l).2.2]) ∧ Ow w.heap.size w' v1 (M.tf l).1 ∧ Ow w.heap.size w' v2 (M.tf l).2.1 ∧ Below w.heap.size w w' := by
  have hrv := rtakeV_any hr (by omega)
  have htl := tv_lt l
  have hll := tv_len l
  have HC : Hid _ := tf_cases l
  generalize M.tf l = T at *
  generalize M.tv l = r at *
  obtain ⟨n, rest, er⟩ := r
  simp only [] at *
  rcases HC.out with ⟨h1, h2⟩ | ⟨h1, h2, h3⟩ | ⟨h1, h2, h3⟩
  · subst h2
    have hne : (((er : Nat) : Int) != 0) = true := by simp; omega
    clear HC
    go_enter Try.func39, Try.ntmps39
    go_wp2_with fail
    refine hrv.mono ?_
    rintro e w1 ⟨v2, rfl, hr2, hb1⟩
    go_wp2_with fail
    go_ret3
    exact ⟨_, _, rfl, Ow.nil _ _, Ow.nil _ _, hb1⟩
  · subst h3
    subst h1
    clear HC
    go_enter Try.func39, Try.ntmps39
    go_wp2_with fail
    refine hrv.mono ?_
    rintro e w1 ⟨v2, rfl, hr2, hb1⟩
    obtain ⟨ao, c, rfl, g1, g2, g3, g4⟩ := hr2.rd
    clear g3 g4
    unfold maxLen at g2
    go_wp2_with fail
    go_ret3
    exact ⟨_, _, rfl, Ow.nil _ _, Ow.nil _ _, hb1⟩
  · subst h1
    clear HC
    rw [List.length_drop] at h3
    have HT : Hid _ := h3
    clear h3
    go_enter Try.func39, Try.ntmps39
    go_wp2_with fail
    refine hrv.mono ?_
    rintro e w1 ⟨v2, rfl, hr2, hb1⟩
    have hr2' := hr2.rd
    obtain ⟨ao, c, rfl, g1, g2, g3, g4⟩ := hr2.rd
    clear g3
    unfold maxLen at g2
    by_cases hsh : rest.length - 4 < n
    · have hT : T = ([], [], 10) := by have := HT.out; rw [if_pos hsh] at this; exact this
      subst hT
      clear HT g4
      go_wp2_with fail
      go_ret3
      exact ⟨_, _, rfl, Ow.nil _ _, Ow.nil _ _, hb1⟩
    · have hT : T = if M.crc ((rest.drop 4).take n) ≠ M.num (rest.take 4) then ([], [], 11) else ((rest.drop 4).take n, (rest.drop 4).drop n, 0) := by have := HT.out; rw [if_neg hsh] at this; exact this
      clear HT
      have HT : Hid _ := hT
      clear hT
      have hp := hr2'.piece 4 (4 + n) (by omega) (by omega) (if c = 4 then ao else ao.map (fun a => a.add 4)) ⟨fun h => by rw [if_pos h], fun h => by rw [if_neg h]⟩
      rw [take_piece] at hp
      have hq := hr2'.post (4 + n) (by omega) (if c = 4 + n then ao else ao.map (fun a => a.add (4 + n))) ⟨fun h => by rw [if_pos h], fun h => by rw [if_neg h]⟩
      have e4 : rest.drop (4 + n) = (rest.drop 4).drop n := by rw [List.drop_drop]
      rw [e4] at hq
      have lp : ((rest.drop 4).take n).length ≤ 140737488355328 := by simp only [List.length_take, List.length_drop]; omega
      have lq : ((rest.drop 4).drop n).length ≤ 140737488355328 := by simp only [List.length_drop]; omega
      have HPQ : Hid _ := And.intro hp hq
      clear hp hq e4
      have hbs : ∀ k, (h : k < rest.length) → k < 4 → _ := fun k h h4 => rtf_step rest k h h4
      have HB : Hid _ := hbs
      clear hbs
      have hlast : M.num (rest.take 4) < 4294967296 := by
        have := M.num_lt (rest.take 4)
        rw [List.length_take, Nat.min_eq_left h2] at this
        simpa using this
      generalize (rest.drop 4).take n = P at *
      generalize (rest.drop 4).drop n = Q at *
      go_wp2_with fail
      go_loopw [8, 9] (fun s i wr => ∃ k : Nat, k ≤ 4 ∧ i = .int .i64 k ∧ s = .int .u32 (M.num (rest.take k)) ∧ wr = w1) (fun _ i _ => 4 - (intOf i).toNat)
      case atStart => exact ⟨0, Nat.zero_le _, rfl, rfl, rfl⟩
      case round =>
        obtain ⟨k, hk, rfl, rfl, rfl⟩ := hrel
        by_cases hlt : k < 4
        · obtain ⟨a, rfl, hc⟩ := g4 k (by omega)
          have hbk := (HB.out k (by omega) hlt).2
          have HE : Hid _ := (HB.out k (by omega) hlt).1
          have hx := (rest[k]'(by omega)).toNat_lt
          clear g4
          go_wp2_with fail
          exact ⟨⟨k + 1, by omega, by go_num, congrArg _ HE.out, trivial⟩, by simp [intOf]; omega⟩
        · obtain rfl : k = 4 := by omega
          clear g4 HB
          have h3 : c = 4 ∧ n = 0 ∨ ¬ c = 4 ∧ c = 4 + n ∨ ¬ c = 4 ∧ ¬ c = 4 + n := by omega
          have hcrc := M.crc_lt P
          by_cases hne : M.crc P ≠ M.num (rest.take 4)
          · have hT : T = ([], [], 11) := by have := HT.out; rw [if_pos hne] at this; exact this
            subst hT
            have hne' : (((M.crc P : Nat) : Int) != ((M.num (rest.take 4) : Nat) : Int)) = true := by simp; omega
            clear HT
            generalize M.num (rest.take 4) = N at *
            generalize hcp : M.crc P = CP at *
            have HCP : Hid _ := hcp
            clear hcp
            rcases h3 with ⟨c4, n0⟩ | ⟨c4, cn⟩ | ⟨c4, cn⟩
            all_goals
              first | (subst c4; subst n0) | skip
              go_wp2_with fail
              refine (copy_any (l := P) (Rd.cong HPQ.out.1 ?_ ?_ ?_) lp).mono ?_
              · first | rfl | (simp; done) | (rw [if_neg c4]; try rfl)
              · first | rfl | omega
              · first | rfl | omega
              rintro e w2 ⟨u2, rfl, ho2, hb2⟩
              go_wp2_with fail
              refine (rsum_any ho2.rd).mono ?_
              rintro e w3 ⟨rfl, k3, rfl⟩
              rw [HCP.out]
              go_wp2_with fail
              go_ret3
              exact ⟨_, _, rfl, Ow.nil _ _, Ow.nil _ _, (Below.tr hb1 hb2).trans ((Below.dN _ _).mono (Nat.le_trans hb1.size hb2.size))⟩
          · have hT : T = (P, Q, 0) := by have := HT.out; rw [if_neg hne] at this; exact this
            subst hT
            have hne' : (((M.crc P : Nat) : Int) != ((M.num (rest.take 4) : Nat) : Int)) = false := by simp; omega
            clear HT
            generalize M.num (rest.take 4) = N at *
            generalize hcp : M.crc P = CP at *
            have HCP : Hid _ := hcp
            clear hcp
            rcases h3 with ⟨c4, n0⟩ | ⟨c4, cn⟩ | ⟨c4, cn⟩
            all_goals
              first | (subst c4; subst n0) | skip
              go_wp2_with fail
              refine (copy_any (l := P) (Rd.cong HPQ.out.1 ?_ ?_ ?_) lp).mono ?_
              · first | rfl | (simp; done) | (rw [if_neg c4]; try rfl)
              · first | rfl | omega
              · first | rfl | omega
              rintro e w2 ⟨u2, rfl, ho2, hb2⟩
              go_wp2_with fail
              refine (rsum_any ho2.rd).mono ?_
              rintro e w3 ⟨rfl, k3, rfl⟩
              rw [HCP.out]
              have hq := (HPQ.out.2.below hb2 (Nat.le_refl _)).drewN k3
              have HQ : Hid _ := hq
              clear hq HPQ
              go_wp2_with fail
              refine (copy_any (l := Q) (Rd.cong HQ.out ?_ ?_ ?_) lq).mono ?_
              · first | rfl | (simp; done) | (rw [if_pos cn]; try rfl; done) | (rw [if_neg cn]; try rfl)
              · first | rfl | omega
              · first | rfl | omega
              rintro e w4 ⟨u4, rfl, ho4, hb4⟩
              go_wp2_with fail
              go_ret3
              have s1 := hb1.size
              have s2 := hb2.size
              have s4 := hb4.size
              exact ⟨_, _, rfl, (((ho2.drewN k3).below hb4 (Nat.le_refl _)).mono s1), ho4.mono (Nat.le_trans s1 s2), ((Below.tr hb1 hb2).trans ((Below.dN _ k3).mono (Nat.le_trans s1 s2))).trans (hb4.mono (Nat.le_trans s1 s2))⟩
end Go.Proofs.Ytlajncjamafomaa
