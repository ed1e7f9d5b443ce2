/- What the document's own TakeUint, TakeDesc and TakeVarint answer of any bytes. -/
import Derived.Test.YtbolnelbchffhaaTakes
import Derived.Test.YtbolnelbchffhaaRCopy
namespace Go.Proofs.Ytbolnelbchffhaa
open Go.RowKit
set_option linter.unusedVariables false
set_option maxRecDepth 100000

set_option maxHeartbeats 400000 in
theorem rtakeU_any {v : Value} {l : List UInt8} {w : World} (hr : Rd w v l) (hl : l.length ≤ 140737488355000) :
    Calls Try.prog 19 #[v] w fun e w' => ∃ v2, e = .returned (.tuple #[.int .u64 (tu l).1, v2, .int .i64 (tu l).2.2]) ∧ Ow w.heap.size w' v2 (tu l).2.1 ∧ Below w.heap.size w w' := by
  have hr' := hr
  obtain ⟨ao, c, rfl, h1, h2, h3, h4⟩ := hr
  unfold maxLen at h2
  clear h3
  by_cases hlt : l.length < 8
  · have e : tu l = (0, [], 10) := by unfold tu; rw [if_pos hlt]
    rw [e]
    go_enter Try.func19, Try.ntmps19
    go_wp2
    go_ret3
    exact ⟨_, rfl, Ow.nil _ _, Below.refl _ _⟩
  · have e : tu l = (M.num (l.take 8), l.drop 8, 0) := by unfold tu; rw [if_neg hlt]
    rw [e]
    clear e
    have hpost := hr'.post 8 (by omega) (if c = 8 then ao else ao.map (fun a => a.add 8)) ⟨fun h => by rw [if_pos h], fun h => by rw [if_neg h]⟩
    have hdl : (l.drop 8).length ≤ 140737488355000 := by simp; omega
    have HP : Hid _ := And.intro hpost hdl
    clear hpost hdl
    have hb : ∀ k, k ≤ l.length → M.num (l.take k) < 256 ^ k := fun k hk => by
      have := M.num_lt (l.take k)
      rw [List.length_take, Nat.min_eq_left hk] at this
      exact this
    go_enter Try.func19, Try.ntmps19
    go_wp2
    go_loopw [5, 6] (fun m i wr => ∃ k : Nat, k ≤ 8 ∧ i = .int .i64 k ∧ m = .int .u64 (M.num (l.take k)) ∧ wr = w) (fun _ i _ => 8 - (intOf i).toNat)
    case atStart => exact ⟨0, Nat.zero_le _, rfl, rfl, rfl⟩
    case round =>
      obtain ⟨k, hk, rfl, rfl, rfl⟩ := hrel
      by_cases hlt8 : k < 8
      · obtain ⟨a, rfl, hc⟩ := h4 k (by omega)
        have hbk' : M.num (l.take k) < 72057594037927936 := Nat.lt_of_lt_of_le (hb k (by omega)) (by have := Nat.pow_le_pow_right (n := 256) (by decide) (show k ≤ 7 by omega); simpa using this)
        have hx := (l[k]'(by omega)).toNat_lt
        have HE : Hid ((M.num (l.take k) : Int) * 256 + ((l[k]'(by omega)).toNat : Int) = (M.num (l.take (k + 1)) : Int)) := by
          show _ = _
          rw [take_snoc l k (by omega), M.num_snoc]; omega
        clear hb h4
        go_wp2
        exact ⟨⟨k + 1, by omega, by go_num, congrArg _ HE.out, trivial⟩, by simp [intOf]; omega⟩
      · obtain rfl : k = 8 := by omega
        clear h4 hb hr'
        by_cases hc8 : c = 8
        all_goals
          try subst hc8
          go_wp2_with fail
          refine (copy_any (l := l.drop 8) ?hr (by have := HP.out.2; omega)).mono ?_
          case hr =>
            refine Rd.cong HP.out.1 ?_ ?_ ?_
            · first | (simp; done) | (rw [if_neg hc8]; try rfl)
            · first | rfl | omega
            · first | rfl | omega
          rintro e w2 ⟨v2, rfl, ho2, hb2⟩
          go_wp2_with fail
          go_ret3
          exact ⟨_, rfl, ho2, hb2⟩

set_option maxHeartbeats 400000 in
theorem rtakeD_any {v : Value} {l : List UInt8} {w : World} (hr : Rd w v l) (hl : l.length ≤ 140737488355000) :
    Calls Try.prog 21 #[v] w fun e w' => ∃ v2, e = .returned (.tuple #[.int .u64 (td l).1, v2, .int .i64 (td l).2.2]) ∧ Ow w.heap.size w' v2 (td l).2.1 ∧ Below w.heap.size w w' := by
  have hru := rtakeU_any hr hl
  have hn := num8_lt l
  by_cases hlt : l.length < 8
  · have e : td l = (0, [], 10) := by unfold td; rw [if_pos hlt]
    have e2 : tu l = (0, [], 10) := by unfold tu; rw [if_pos hlt]
    rw [e2] at hru
    rw [e]
    go_enter Try.func21, Try.ntmps21
    go_wp2_with fail
    refine hru.mono ?_
    rintro e w1 ⟨v1, rfl, ho1, hb1⟩
    go_wp2_with fail
    go_ret3
    exact ⟨_, rfl, Ow.nil _ _, hb1⟩
  · have e : td l = (18446744073709551615 - M.num (l.take 8), l.drop 8, 0) := by unfold td; rw [if_neg hlt]
    have e2 : tu l = (M.num (l.take 8), l.drop 8, 0) := by unfold tu; rw [if_neg hlt]
    rw [e2] at hru
    rw [e]
    clear e e2
    generalize M.num (l.take 8) = x at *
    have HX : Hid (18446744073709551615 - (x : Int) = ((18446744073709551615 - x : Nat) : Int)) := by show _ = _; omega
    go_enter Try.func21, Try.ntmps21
    go_wp2_with fail
    refine hru.mono ?_
    rintro e w1 ⟨v1, rfl, ho1, hb1⟩
    go_wp2_with fail
    go_ret3
    refine ⟨_, ?_, ho1, hb1⟩
    rw [← HX.out]; rfl

/-- What is to be read where the bytes end at s. -/
theorem rtv_step (l : List UInt8) (s k : Nat) (hk : k ≤ s) (hs : s < 10) (hl : s < l.length) (h9 : s = 9 → l[s].toNat ≤ 1) :
    M.val ((l.take (s + 1)).drop (k + 1)) * 128 + (l[k]'(by omega)).toNat % 128 = M.val ((l.take (s + 1)).drop k) ∧ M.val ((l.take (s + 1)).drop (k + 1)) < 144115188075855872 := by
  have hkl : k < (l.take (s + 1)).length := by simp; omega
  constructor
  · rw [List.drop_eq_getElem_cons hkl, M.val]
    simp only [List.getElem_take]
    omega
  · have hlen : ((l.take (s + 1)).drop (k + 1)).length = s - k := by simp; omega
    by_cases h : s = 9 ∧ k = 0
    · obtain ⟨rfl, rfl⟩ := h
      have h1 := h9 rfl
      have e : (l.take (9 + 1)).drop (0 + 1) = ((l.take 9).drop 1) ++ [l[9]] := by
        rw [take_snoc l 9 hl, List.drop_append_of_le_length (by simp; omega)]
      rw [e, M.val_append]
      have hv := M.val_lt ((l.take 9).drop 1)
      have hl8 : ((l.take 9).drop 1).length = 8 := by simp; omega
      rw [hl8] at hv ⊢
      simp only [M.val, Nat.mul_zero, Nat.add_zero]
      have h56 : (128 : Nat) ^ 8 = 72057594037927936 := by decide
      rw [h56] at hv ⊢
      have : l[9].toNat % 128 ≤ 1 := by omega
      omega
    · have hv := M.val_lt ((l.take (s + 1)).drop (k + 1))
      rw [hlen] at hv
      have := Nat.pow_le_pow_right (n := 128) (by decide) (show s - k ≤ 8 by omega)
      have h56 : (128 : Nat) ^ 8 = 72057594037927936 := by decide
      omega

theorem tv_cases (l : List UInt8) : (M.cont 10 l = 10 ∧ M.tv l = (0, [], 12)) ∨ (M.cont 10 l < 10 ∧ l.length = M.cont 10 l ∧ M.tv l = (0, [], 10)) ∨ ∃ s, M.cont 10 l = s ∧ s < 10 ∧ ∃ h : s < l.length,
    ((0 < s ∧ l[s].toNat = 0 ∨ s = 9 ∧ 1 < l[s].toNat) ∧ M.tv l = (0, [], 12)) ∨ (¬ (0 < s ∧ l[s].toNat = 0 ∨ s = 9 ∧ 1 < l[s].toNat) ∧ M.tv l = (M.val (l.take (s + 1)), l.drop (s + 1), 0)) := by
  have hle := M.cont_le 10 l
  by_cases h1 : M.cont 10 l = 10
  · refine .inl ⟨h1, ?_⟩
    unfold M.tv; simp only []; rw [if_pos h1]
  · by_cases h2 : l.length ≤ M.cont 10 l
    · refine .inr (.inl ⟨by omega, by omega, ?_⟩)
      unfold M.tv; simp only []; rw [if_neg h1, if_pos h2]
    · refine .inr (.inr ⟨M.cont 10 l, rfl, by omega, by omega, ?_⟩)
      have eg : l.getD (M.cont 10 l) 0 = l[M.cont 10 l]'(by omega) := by simp [show M.cont 10 l < l.length by omega]
      by_cases h3 : 0 < M.cont 10 l ∧ (l.getD (M.cont 10 l) 0).toNat = 0 ∨ M.cont 10 l = 9 ∧ 1 < (l.getD (M.cont 10 l) 0).toNat
      · refine .inl ⟨by rw [eg] at h3; exact h3, ?_⟩
        unfold M.tv; simp only []; rw [if_neg h1, if_neg h2, if_pos h3]
      · refine .inr ⟨by rw [eg] at h3; exact h3, ?_⟩
        unfold M.tv; simp only []; rw [if_neg h1, if_neg h2, if_neg h3]

set_option maxHeartbeats 1000000 in
theorem rtakeV_any {v : Value} {l : List UInt8} {w : World} (hr : Rd w v l) (hl : l.length ≤ 140737488355000) :
    Calls Try.prog 23 #[v] w fun e w' => ∃ v2, e = .returned (.tuple #[.int .u64 (M.tv l).1, v2, .int .i64 (M.tv l).2.2]) ∧ Ow w.heap.size w' v2 (M.tv l).2.1 ∧ Below w.heap.size w w' := by
  have hr' := hr
  obtain ⟨ao, c, rfl, h1, h2, h3, h4⟩ := hr
  unfold maxLen at h2
  clear h3
  have HT : Hid _ := tv_cases l
  generalize htv : M.tv l = T at *
  clear htv
  go_enter Try.func23, Try.ntmps23
  go_wp2
  go_loopw [5] (fun i wr => ∃ k : Nat, k ≤ l.length ∧ k ≤ 10 ∧ i = .int .i64 k ∧ (∀ j, (h : j < l.length) → j < k → 128 ≤ l[j].toNat) ∧ wr = w) (fun i _ => 10 - (intOf i).toNat)
  case atStart => exact ⟨0, Nat.zero_le _, Nat.zero_le _, rfl, fun j _ hj => by omega, rfl⟩
  case round =>
    obtain ⟨k, hk, hk10, rfl, hs, rfl⟩ := hrel
    have HS : Hid _ := hs
    clear hs
    by_cases hlt : k < l.length
    · obtain ⟨a, rfl, hc⟩ := h4 k hlt
      by_cases hlt10 : k < 10
      · by_cases hx : 128 ≤ l[k].toNat
        · clear h4 hr'
          go_wp2
          refine ⟨⟨k + 1, by omega, by omega, by go_num, fun j h hj => ?_, trivial⟩, by simp [intOf]; omega⟩
          by_cases hj' : j < k
          · exact HS.out j h hj'
          · obtain rfl : j = k := by omega
            exact hx
        · have e : M.cont 10 l = k := M.cont_eq 10 k l hk10 hk (fun j hj => HS.out j (by omega) hj) (.inr (.inr ⟨hlt, by omega⟩))
          have eT : ((0 < k ∧ l[k].toNat = 0 ∨ k = 9 ∧ 1 < l[k].toNat) ∧ T = (0, [], 12)) ∨ (¬ (0 < k ∧ l[k].toNat = 0 ∨ k = 9 ∧ 1 < l[k].toNat) ∧ T = (M.val (l.take (k + 1)), l.drop (k + 1), 0)) := by
            rcases HT.out with ⟨q, _⟩ | ⟨_, q, _⟩ | ⟨s, q, q2, q3, q4⟩
            · omega
            · omega
            · rw [e] at q
              subst q
              exact q4
          clear e HT
          have hx2 := l[k].toNat_lt
          rcases eT with ⟨hbad, rfl⟩ | ⟨hok, rfl⟩
          · clear h4 hr'
            by_cases h9 : 9 ≤ k
            · have h9' : ((k : Int) == 9) = true := by simp; omega
              go_wp2
              all_goals go_ret3
              all_goals exact ⟨_, rfl, Ow.nil _ _, Below.refl _ _⟩
            · have h9' : ((k : Int) == 9) = false := by simp; omega
              go_wp2
              all_goals go_ret3
              all_goals exact ⟨_, rfl, Ow.nil _ _, Below.refl _ _⟩
          · have hpost := hr'.post (k + 1) (by omega) (if c = k + 1 then some a else some (a.add (k + 1))) ⟨fun h => by rw [if_pos h], fun h => by rw [if_neg h]; rfl⟩
            have hdl : (l.drop (k + 1)).length ≤ 140737488355000 := by simp; omega
            have HP : Hid _ := And.intro hpost hdl
            have HV : Hid (∀ j, (h : j ≤ k) → _) := fun j h => rtv_step l k j h hlt10 hlt (by omega)
            clear hpost hdl hr'
            have h3 : (((k : Int) == 9) = true ∧ (((l[k].toNat : Nat) : Int) == 0) = false ∧ 9 ≤ k ∧ 1 ≤ l[k].toNat ∧ l[k].toNat ≤ 1) ∨ (((k : Int) == 9) = false ∧ (((l[k].toNat : Nat) : Int) == 0) = false ∧ 1 ≤ k ∧ k ≤ 8 ∧ 1 ≤ l[k].toNat) ∨ (((k : Int) == 9) = false ∧ k < 1) := by
              simp only [beq_iff_eq, beq_eq_false_iff_ne]
              omega
            clear hok
            rcases h3 with ⟨q0, r0, q1, q2, q3⟩ | ⟨q0, r0, q1, q2, q3⟩ | ⟨q0, q1⟩
            all_goals
              go_wp2_with fail
              go_loopw [6, 7] (fun m i wx => ∃ j : Nat, j ≤ k + 1 ∧ i = .int .i64 ((j : Int) - 1) ∧ m = .int .u64 (M.val ((l.take (k + 1)).drop j)) ∧ wx = wr) (fun _ i _ => (intOf i + 1).toNat)
              case atStart =>
                refine ⟨k + 1, Nat.le_refl _, by go_num, ?_, rfl⟩
                have e0 : (l.take (k + 1)).drop (k + 1) = [] := by
                  apply List.drop_eq_nil_of_le
                  simp
                  omega
                rw [e0]; rfl
              case round =>
                obtain ⟨j, hj, rfl, rfl, rfl⟩ := hrel
                cases j with
                | zero =>
                  have hp := HP.out.1
                  by_cases hcn : c = k + 1
                  · rw [if_pos hcn] at hp
                    have HP2 : Hid _ := hp
                    clear hp
                    go_wp2_with fail
                    refine (copy_any (l := l.drop (k + 1)) (Rd.cong HP2.out ?_ ?_ ?_) (by have := HP.out.2; omega)).mono ?_
                    · first | rfl | (simp; done)
                    · first | rfl | omega
                    · first | rfl | omega
                    rintro e w2 ⟨v2, rfl, ho2, hb2⟩
                    go_wp2_with fail
                    go_ret3
                    exact ⟨_, rfl, ho2, hb2⟩
                  · rw [if_neg hcn] at hp
                    have HP2 : Hid _ := hp
                    clear hp
                    go_wp2_with fail
                    refine (copy_any (l := l.drop (k + 1)) (Rd.cong HP2.out ?_ ?_ ?_) (by have := HP.out.2; omega)).mono ?_
                    · first | rfl | (simp [Addr.add]; done)
                    · first | rfl | omega
                    · first | rfl | omega
                    rintro e w2 ⟨v2, rfl, ho2, hb2⟩
                    go_wp2_with fail
                    go_ret3
                    exact ⟨_, rfl, ho2, hb2⟩
                | succ j =>
                  have hst := HV.out j (by omega)
                  obtain ⟨a', ea, hcj⟩ := h4 j (by omega)
                  obtain rfl := Option.some.inj ea
                  clear ea
                  have hxj := (l[j]'(by omega)).toNat_lt
                  have hlt' := hst.2
                  have HE : Hid ((M.val ((l.take (k + 1)).drop (j + 1)) : Int) * 128 + ((l[j]'(by omega)).toNat : Int) % 128 = (M.val ((l.take (k + 1)).drop j) : Int)) := by
                    show _ = _
                    have := hst.1
                    omega
                  clear hst
                  go_wp2
                  exact ⟨⟨j, by omega, by go_num, congrArg _ HE.out, trivial⟩, by simp [intOf]⟩
      · have e : M.cont 10 l = 10 := by
          obtain rfl : k = 10 := by omega
          exact M.cont_eq 10 10 l hk10 hk (fun j hj => HS.out j (by omega) hj) (by omega)
        obtain rfl : k = 10 := by omega
        have eT : T = (0, [], 12) := by
          rcases HT.out with ⟨_, q⟩ | ⟨q, _⟩ | ⟨s, q, q2, _⟩
          · exact q
          · omega
          · omega
        subst eT
        clear h4 hr' e
        go_wp2
        go_ret3
        exact ⟨_, rfl, Ow.nil _ _, Below.refl _ _⟩
    · obtain rfl : k = l.length := by omega
      have e : M.cont 10 l = l.length := M.cont_eq 10 l.length l hk10 hk (fun j hj => HS.out j (by omega) hj) (by omega)
      by_cases h10 : l.length = 10
      · have eT : T = (0, [], 12) := by
          rcases HT.out with ⟨_, q⟩ | ⟨q, _⟩ | ⟨s, q, q2, q3, _⟩
          · exact q
          · omega
          · omega
        subst eT
        clear h4 hr' e HT
        go_wp2
        go_ret3
        exact ⟨_, rfl, Ow.nil _ _, Below.refl _ _⟩
      · have eT : T = (0, [], 10) := by
          rcases HT.out with ⟨q, _⟩ | ⟨_, _, q⟩ | ⟨s, q, q2, q3, _⟩
          · omega
          · exact q
          · omega
        subst eT
        clear h4 hr' e HT
        have h10' : ((l.length : Int) == 10) = false := by simp; omega
        go_wp2
        go_ret3
        exact ⟨_, rfl, Ow.nil _ _, Below.refl _ _⟩
end Go.Proofs.Ytbolnelbchffhaa
