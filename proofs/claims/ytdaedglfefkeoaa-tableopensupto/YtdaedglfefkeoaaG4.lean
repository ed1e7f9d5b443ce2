/- What the document's own Sum and Frame answer of any bytes: the same as the code's. -/
import Derived.Test.YtdaedglfefkeoaaG3
import Derived.Test.YtdaedglfefkeoaaG2
import Derived.Deep.RegionHeld3
namespace Go.Proofs.Ytdaedglfefkeoaa
open Go.RowKit
set_option linter.unusedVariables false
set_option maxRecDepth 100000

theorem rsum_odd (c : Nat) (h : c < 4294967296) (ho : c % 2 = 1) : bits BinOp.xor IntKind.u32 ((c : Int) / 2) 3988292384 = (M.st c : Int) := by
  rw [show ((c : Int) / 2) = ((c / 2 : Nat) : Int) by omega, show (3988292384 : Int) = ((3988292384 : Nat) : Int) from rfl, u32_xor_nat _ _ (by omega) (by decide)]
  unfold M.st; rw [ho]
theorem rsum_even (c : Nat) (ho : c % 2 = 0) : (c : Int) / 2 = (M.st c : Int) := by
  unfold M.st; rw [ho, Nat.zero_mul, Nat.xor_zero]; omega
theorem rsum_turn (c : Nat) (h : c < 4294967296) : bits BinOp.xor IntKind.u32 (c : Int) 4294967295 = ((4294967295 ^^^ c : Nat) : Int) := by
  rw [show (4294967295 : Int) = ((4294967295 : Nat) : Int) from rfl, u32_xor_nat _ _ h (by decide), Nat.xor_comm]

set_option maxHeartbeats 400000 in
theorem rsum_any {v : Value} {l : List UInt8} {w : World} (hr : Rd w v l) :
    Calls Try.prog 57 #[v] w fun e w' => e = .returned (.int .u32 (M.crc l)) ∧ ∃ k, w' = w.drewN k := by
  obtain ⟨ao, c, rfl, h1, h2, h3, h4⟩ := hr
  unfold maxLen at h2
  go_enter Try.func57, Try.ntmps57
  go_wp2
  go_loopw [3, 4, 5, 6] (fun m i _ _ wr => ∃ k q : Nat, k ≤ l.length ∧ i = .int .i64 k ∧ m = .int .u32 q ∧ q < 4294967296 ∧ q = M.crcF 4294967295 (l.take k) ∧ wr = w) (fun _ i _ _ _ => l.length - (intOf i).toNat)
  case atStart => exact ⟨0, 4294967295, Nat.zero_le _, rfl, rfl, by decide, rfl, rfl⟩
  case round =>
    obtain ⟨k, q, hk, rfl, rfl, hq, hqe, rfl⟩ := hrel
    have HQ : Hid _ := hqe
    clear hqe
    by_cases hlt : k < l.length
    · obtain ⟨a, rfl, hc⟩ := h4 k hlt
      have hx := l[k].toNat_lt
      clear h4
      go_wp2
      have e0 : bits BinOp.xor IntKind.u32 (q : Int) (l[k].toNat : Int) = ((q ^^^ l[k].toNat : Nat) : Int) := u32_xor_nat _ _ hq (by omega)
      have hql := M.xor_lt q l[k].toNat hq hx
      have HS : Hid (M.st8 (q ^^^ l[k].toNat) = M.crcF 4294967295 (l.take (k + 1))) := by
        show _ = _
        rw [take_snoc l k hlt, M.crcF_snoc, HQ.out]
      rw [e0]
      clear e0
      go_loopw [3, 5, 6] (fun m i _ wx => ∃ j p : Nat, j ≤ 8 ∧ i = .int .i64 j ∧ m = .int .u32 p ∧ p < 4294967296 ∧ M.stN (8 - j) p = M.st8 (q ^^^ l[k].toNat) ∧ wx = wr) (fun _ i _ _ => 8 - (intOf i).toNat)
      case atStart => exact ⟨0, _, Nat.zero_le _, rfl, rfl, hql, rfl, rfl⟩
      case round =>
        obtain ⟨j, p, hj, rfl, rfl, hp, hpe, rfl⟩ := hrel
        have HP : Hid _ := hpe
        clear hpe
        by_cases hlt8 : j < 8
        · have HN : Hid (M.stN (8 - (j + 1)) (M.st p) = M.st8 (q ^^^ l[k].toNat)) := by
            have := HP.out
            rw [show 8 - j = 8 - (j + 1) + 1 by omega, M.stN] at this
            exact this
          by_cases ho : p % 2 = 1
          · have hodd : ((p : Int) % 2 == 1) = true := by simp; omega
            have HR : Hid _ := rsum_odd p hp ho
            clear ho
            go_wp2
            exact ⟨⟨j + 1, M.st p, by omega, by go_num, congrArg _ HR.out, M.st_lt p hp, HN.out, trivial⟩, by simp [intOf]; omega⟩
          · have hodd : ((p : Int) % 2 == 1) = false := by simp; omega
            have HR : Hid _ := rsum_even p (by omega)
            clear ho
            go_wp2
            exact ⟨⟨j + 1, M.st p, by omega, by go_num, congrArg _ HR.out, M.st_lt p hp, HN.out, trivial⟩, by simp [intOf]; omega⟩
        · go_wp2
          have := HP.out
          rw [show 8 - j = 0 by omega, M.stN] at this
          exact ⟨⟨k + 1, p, by omega, by go_num, rfl, hp, by rw [← HS.out, this], trivial⟩, by simp [intOf]; omega⟩
    · go_wp2
      go_ret
      refine ⟨ret_int ?_, 0, rfl⟩
      rw [rsum_turn q hq, HQ.out, List.take_of_length_le (by omega)]; rfl

set_option maxHeartbeats 400000 in
theorem rframe_any {v : Value} {l : List UInt8} {w : World} (hr : Rd w v l) (hl : l.length ≤ 140737488355000) :
    Calls Try.prog 36 #[v] w fun e w' => ∃ v', e = .returned v' ∧ Ow w.heap.size w' v' (M.frame l) ∧ Below w.heap.size w w' := by
  have hr' := hr
  obtain ⟨ao, c, rfl, h1, h2, h3, h4⟩ := hr
  unfold maxLen at h2
  clear h3 h4
  have hc := M.crc_lt l
  go_enter Try.func36, Try.ntmps36
  go_wp2_with fail
  refine (rsum_any hr').mono ?_
  rintro e w1 ⟨rfl, k1, rfl⟩
  go_wp2_with fail
  refine (rvarint_any l.length _ (by omega)).mono ?_
  rintro e w2 ⟨v2, rfl, ho2, hb2⟩
  have hw2 : Below w.heap.size w w2 := Below.tr (Below.dN w k1) hb2
  have ho2' : Ow w.heap.size w2 v2 (M.vi l.length) := ho2
  have hvl := vi_len l.length
  clear ho2
  go_wp2_with fail
  go_loopw [4, 5] (fun out i wr => ∃ k : Nat, k ≤ 4 ∧ i = .int .i64 ((k : Int) - 1) ∧ Below w.heap.size w wr ∧ ∃ done, Ow w.heap.size wr out done ∧ done.length + k ≤ 14 ∧ done ++ M.be k (M.crc l) = M.vi l.length ++ M.be 4 (M.crc l)) (fun _ i _ => (intOf i + 1).toNat)
  case atStart => exact ⟨4, Nat.le_refl _, rfl, hw2, _, ho2', by omega, rfl⟩
  case round =>
    obtain ⟨k, hk, rfl, hb, done, ho, hdl, hd⟩ := hrel
    have HD : Hid _ := hd
    clear hd
    cases k with
    | zero =>
      go_wp2_with (first | (at_builtin; refine wpList_app rfl _ _ rfl w.heap.size _ done rfl ho _ l rfl (hr'.below hb (Nat.le_refl _)) hb.size (by omega) ?_; intro v5 w5 ho5 hb5 hg5) | fail)
      go_ret
      refine ⟨_, rfl, ?_, hb.trans hb5⟩
      have := HD.out
      rw [M.be, List.append_nil] at this
      rw [M.frame, ← this]; exact ho5
    | succ k =>
      go_wp2_with (first | (at_builtin; refine wpList_app rfl _ _ rfl w.heap.size _ done rfl (ho.alloc _) _ [UInt8.ofNat (M.crc l / 2 ^ (8 * k))] rfl (rd_one _ _ _ ?hz _) ?hB ?hlen ?_; rotate_right; intro v' w' ho' hb' hg') | fail)
      case hz => rw [M.u8_ofNat]; simp
      case hB => have := hb.size; simp; omega
      case hlen => simp; omega
      refine ⟨⟨k, by omega, by go_num, ?_, done ++ [UInt8.ofNat (M.crc l / 2 ^ (8 * k))], ho', ?_, ?_⟩, by simp [intOf]⟩
      · exact hb.trans (((Below.refl _ _).alloc hb.size _).trans hb')
      · simp; omega
      · have := HD.out; rw [M.be] at this; simpa using this
end Go.Proofs.Ytdaedglfefkeoaa

/- What the document's own TakeVarint answers of any bytes. -/
namespace Go.Proofs.Ytdaedglfefkeoaa
open Go.RowKit
set_option linter.unusedVariables false
set_option maxRecDepth 100000

/-- What is to be read where the bytes end at s. -/
theorem rtv_step (l : List UInt8) (s k : Nat) (hk : k ≤ s) (hs : s < 10) (hl : s < l.length) (h9 : s = 9 → l[s].toNat ≤ 1) :
    M.val ((l.take (s + 1)).drop (k + 1)) * 128 + (l[k]'(by omega)).toNat % 128 = M.val ((l.take (s + 1)).drop k) ∧ M.val ((l.take (s + 1)).drop (k + 1)) < 144115188075855872 := by
  have hkl : k < (l.take (s + 1)).length := by simp; omega
  constructor
  · rw [List.drop_eq_getElem_cons hkl, M.val]
    simp only [List.getElem_take]
    omega
  · have hlen : ((l.take (s + 1)).drop (k + 1)).length = s - k := by simp; omega
    by_cases h : s = 9 ∧ k = 0
    · obtain ⟨rfl, rfl⟩ := h
      have h1 := h9 rfl
      have e : (l.take (9 + 1)).drop (0 + 1) = ((l.take 9).drop 1) ++ [l[9]] := by
        rw [take_snoc l 9 hl, List.drop_append_of_le_length (by simp; omega)]
      rw [e, M.val_append]
      have hv := M.val_lt ((l.take 9).drop 1)
      have hl8 : ((l.take 9).drop 1).length = 8 := by simp; omega
      rw [hl8] at hv ⊢
      simp only [M.val, Nat.mul_zero, Nat.add_zero]
      have h56 : (128 : Nat) ^ 8 = 72057594037927936 := by decide
      rw [h56] at hv ⊢
      have : l[9].toNat % 128 ≤ 1 := by omega
      omega
    · have hv := M.val_lt ((l.take (s + 1)).drop (k + 1))
      rw [hlen] at hv
      have := Nat.pow_le_pow_right (n := 128) (by decide) (show s - k ≤ 8 by omega)
      have h56 : (128 : Nat) ^ 8 = 72057594037927936 := by decide
      omega

theorem tv_cases (l : List UInt8) : (M.cont 10 l = 10 ∧ M.tv l = (0, [], 12)) ∨ (M.cont 10 l < 10 ∧ l.length = M.cont 10 l ∧ M.tv l = (0, [], 10)) ∨ ∃ s, M.cont 10 l = s ∧ s < 10 ∧ ∃ h : s < l.length,
    ((0 < s ∧ l[s].toNat = 0 ∨ s = 9 ∧ 1 < l[s].toNat) ∧ M.tv l = (0, [], 12)) ∨ (¬ (0 < s ∧ l[s].toNat = 0 ∨ s = 9 ∧ 1 < l[s].toNat) ∧ M.tv l = (M.val (l.take (s + 1)), l.drop (s + 1), 0)) := by
  have hle := M.cont_le 10 l
  by_cases h1 : M.cont 10 l = 10
  · refine .inl ⟨h1, ?_⟩
    unfold M.tv; simp only []; rw [if_pos h1]
  · by_cases h2 : l.length ≤ M.cont 10 l
    · refine .inr (.inl ⟨by omega, by omega, ?_⟩)
      unfold M.tv; simp only []; rw [if_neg h1, if_pos h2]
    · refine .inr (.inr ⟨M.cont 10 l, rfl, by omega, by omega, ?_⟩)
      have eg : l.getD (M.cont 10 l) 0 = l[M.cont 10 l]'(by omega) := by simp [show M.cont 10 l < l.length by omega]
      by_cases h3 : 0 < M.cont 10 l ∧ (l.getD (M.cont 10 l) 0).toNat = 0 ∨ M.cont 10 l = 9 ∧ 1 < (l.getD (M.cont 10 l) 0).toNat
      · refine .inl ⟨by rw [eg] at h3; exact h3, ?_⟩
        unfold M.tv; simp only []; rw [if_neg h1, if_neg h2, if_pos h3]
      · refine .inr ⟨by rw [eg] at h3; exact h3, ?_⟩
        unfold M.tv; simp only []; rw [if_neg h1, if_neg h2, if_neg h3]

set_option maxHeartbeats 1000000 in
theorem rtakeV_any {v : Value} {l : List UInt8} {w : World} (hr : Rd w v l) (hl : l.length ≤ 140737488355000) :
    Calls Try.prog 59 #[v] w fun e w' => ∃ v2, e = .returned (.tuple #[.int .u64 (M.tv l).1, v2, .int .i64 (M.tv l).2.2]) ∧ Ow w.heap.size w' v2 (M.tv l).2.1 ∧ Below w.heap.size w w' := by
  have hr' := hr
  obtain ⟨ao, c, rfl, h1, h2, h3, h4⟩ := hr
  unfold maxLen at h2
  clear h3
  have HT : Hid _ := tv_cases l
  generalize htv : M.tv l = T at *
  clear htv
  go_enter Try.func59, Try.ntmps59
  go_wp2
  go_loopw [5] (fun i wr => ∃ k : Nat, k ≤ l.length ∧ k ≤ 10 ∧ i = .int .i64 k ∧ (∀ j, (h : j < l.length) → j < k → 128 ≤ l[j].toNat) ∧ wr = w) (fun i _ => 10 - (intOf i).toNat)
  case atStart => exact ⟨0, Nat.zero_le _, Nat.zero_le _, rfl, fun j _ hj => by omega, rfl⟩
  case round =>
    obtain ⟨k, hk, hk10, rfl, hs, rfl⟩ := hrel
    have HS : Hid _ := hs
    clear hs
    by_cases hlt : k < l.length
    · obtain ⟨a, rfl, hc⟩ := h4 k hlt
      by_cases hlt10 : k < 10
      · by_cases hx : 128 ≤ l[k].toNat
        · clear h4 hr'
          go_wp2
          refine ⟨⟨k + 1, by omega, by omega, by go_num, fun j h hj => ?_, trivial⟩, by simp [intOf]; omega⟩
          by_cases hj' : j < k
          · exact HS.out j h hj'
          · obtain rfl : j = k := by omega
            exact hx
        · have e : M.cont 10 l = k := M.cont_eq 10 k l hk10 hk (fun j hj => HS.out j (by omega) hj) (.inr (.inr ⟨hlt, by omega⟩))
          have eT : ((0 < k ∧ l[k].toNat = 0 ∨ k = 9 ∧ 1 < l[k].toNat) ∧ T = (0, [], 12)) ∨ (¬ (0 < k ∧ l[k].toNat = 0 ∨ k = 9 ∧ 1 < l[k].toNat) ∧ T = (M.val (l.take (k + 1)), l.drop (k + 1), 0)) := by
            rcases HT.out with ⟨q, _⟩ | ⟨_, q, _⟩ | ⟨s, q, q2, q3, q4⟩
            · omega
            · omega
            · rw [e] at q
              subst q
              exact q4
          clear e HT
          have hx2 := l[k].toNat_lt
          rcases eT with ⟨hbad, rfl⟩ | ⟨hok, rfl⟩
          · clear h4 hr'
            by_cases h9 : 9 ≤ k
            · have h9' : ((k : Int) == 9) = true := by simp; omega
              go_wp2
              all_goals go_ret3
              all_goals exact ⟨_, rfl, Ow.nil _ _, Below.refl _ _⟩
            · have h9' : ((k : Int) == 9) = false := by simp; omega
              go_wp2
              all_goals go_ret3
              all_goals exact ⟨_, rfl, Ow.nil _ _, Below.refl _ _⟩
          · have hpost := hr'.post (k + 1) (by omega) (if c = k + 1 then some a else some (a.add (k + 1))) ⟨fun h => by rw [if_pos h], fun h => by rw [if_neg h]; rfl⟩
            have hdl : (l.drop (k + 1)).length ≤ 140737488355000 := by simp; omega
            have HP : Hid _ := And.intro hpost hdl
            have HV : Hid (∀ j, (h : j ≤ k) → _) := fun j h => rtv_step l k j h hlt10 hlt (by omega)
            clear hpost hdl hr'
            have h3 : (((k : Int) == 9) = true ∧ (((l[k].toNat : Nat) : Int) == 0) = false ∧ 9 ≤ k ∧ 1 ≤ l[k].toNat ∧ l[k].toNat ≤ 1) ∨ (((k : Int) == 9) = false ∧ (((l[k].toNat : Nat) : Int) == 0) = false ∧ 1 ≤ k ∧ k ≤ 8 ∧ 1 ≤ l[k].toNat) ∨ (((k : Int) == 9) = false ∧ k < 1) := by
              simp only [beq_iff_eq, beq_eq_false_iff_ne]
              omega
            clear hok
            rcases h3 with ⟨q0, r0, q1, q2, q3⟩ | ⟨q0, r0, q1, q2, q3⟩ | ⟨q0, q1⟩
            all_goals
              go_wp2_with fail
              go_loopw [6, 7] (fun m i wx => ∃ j : Nat, j ≤ k + 1 ∧ i = .int .i64 ((j : Int) - 1) ∧ m = .int .u64 (M.val ((l.take (k + 1)).drop j)) ∧ wx = wr) (fun _ i _ => (intOf i + 1).toNat)
              case atStart =>
                refine ⟨k + 1, Nat.le_refl _, by go_num, ?_, rfl⟩
                have e0 : (l.take (k + 1)).drop (k + 1) = [] := by
                  apply List.drop_eq_nil_of_le
                  simp
                  omega
                rw [e0]; rfl
              case round =>
                obtain ⟨j, hj, rfl, rfl, rfl⟩ := hrel
                cases j with
                | zero =>
                  have hp := HP.out.1
                  by_cases hcn : c = k + 1
                  · rw [if_pos hcn] at hp
                    have HP2 : Hid _ := hp
                    clear hp
                    go_wp2_with fail
                    refine (copy_any (l := l.drop (k + 1)) (Rd.cong HP2.out ?_ ?_ ?_) (by have := HP.out.2; omega)).mono ?_
                    · first | rfl | (simp; done)
                    · first | rfl | omega
                    · first | rfl | omega
                    rintro e w2 ⟨v2, rfl, ho2, hb2⟩
                    go_wp2_with fail
                    go_ret3
                    exact ⟨_, rfl, ho2, hb2⟩
                  · rw [if_neg hcn] at hp
                    have HP2 : Hid _ := hp
                    clear hp
                    go_wp2_with fail
                    refine (copy_any (l := l.drop (k + 1)) (Rd.cong HP2.out ?_ ?_ ?_) (by have := HP.out.2; omega)).mono ?_
                    · first | rfl | (simp [Addr.add]; done)
                    · first | rfl | omega
                    · first | rfl | omega
                    rintro e w2 ⟨v2, rfl, ho2, hb2⟩
                    go_wp2_with fail
                    go_ret3
                    exact ⟨_, rfl, ho2, hb2⟩
                | succ j =>
                  have hst := HV.out j (by omega)
                  obtain ⟨a', ea, hcj⟩ := h4 j (by omega)
                  obtain rfl := Option.some.inj ea
                  clear ea
                  have hxj := (l[j]'(by omega)).toNat_lt
                  have hlt' := hst.2
                  have HE : Hid ((M.val ((l.take (k + 1)).drop (j + 1)) : Int) * 128 + ((l[j]'(by omega)).toNat : Int) % 128 = (M.val ((l.take (k + 1)).drop j) : Int)) := by
                    show _ = _
                    have := hst.1
                    omega
                  clear hst
                  go_wp2
                  exact ⟨⟨j, by omega, by go_num, congrArg _ HE.out, trivial⟩, by simp [intOf]⟩
      · have e : M.cont 10 l = 10 := by
          obtain rfl : k = 10 := by omega
          exact M.cont_eq 10 10 l hk10 hk (fun j hj => HS.out j (by omega) hj) (by omega)
        obtain rfl : k = 10 := by omega
        have eT : T = (0, [], 12) := by
          rcases HT.out with ⟨_, q⟩ | ⟨q, _⟩ | ⟨s, q, q2, _⟩
          · exact q
          · omega
          · omega
        subst eT
        clear h4 hr' e
        go_wp2
        go_ret3
        exact ⟨_, rfl, Ow.nil _ _, Below.refl _ _⟩
    · obtain rfl : k = l.length := by omega
      have e : M.cont 10 l = l.length := M.cont_eq 10 l.length l hk10 hk (fun j hj => HS.out j (by omega) hj) (by omega)
      by_cases h10 : l.length = 10
      · have eT : T = (0, [], 12) := by
          rcases HT.out with ⟨_, q⟩ | ⟨q, _⟩ | ⟨s, q, q2, q3, _⟩
          · exact q
          · omega
          · omega
        subst eT
        clear h4 hr' e HT
        go_wp2
        go_ret3
        exact ⟨_, rfl, Ow.nil _ _, Below.refl _ _⟩
      · have eT : T = (0, [], 10) := by
          rcases HT.out with ⟨q, _⟩ | ⟨_, _, q⟩ | ⟨s, q, q2, q3, _⟩
          · omega
          · exact q
          · omega
        subst eT
        clear h4 hr' e HT
        have h10' : ((l.length : Int) == 10) = false := by simp; omega
        go_wp2
        go_ret3
        exact ⟨_, rfl, Ow.nil _ _, Below.refl _ _⟩
end Go.Proofs.Ytdaedglfefkeoaa

/- What the document's own TakeFrame answers of any bytes. -/
namespace Go.Proofs.Ytdaedglfefkeoaa
open Go.RowKit
set_option linter.unusedVariables false
set_option maxRecDepth 100000

theorem rtf_step (l : List UInt8) (k : Nat) (h : k < l.length) (h4 : k < 4) : bits BinOp.or IntKind.u32 ((M.num (l.take k) : Int) * 256) (l[k].toNat : Int) = (M.num (l.take (k + 1)) : Int) ∧ M.num (l.take k) < 16777216 := by
  have hb : M.num (l.take k) < 16777216 := by
    have := M.num_lt (l.take k)
    rw [List.length_take, Nat.min_eq_left (by omega)] at this
    refine Nat.lt_of_lt_of_le this ?_
    have := Nat.pow_le_pow_right (n := 256) (by decide) (show k ≤ 3 by omega)
    simpa using this
  have hx := l[k].toNat_lt
  refine ⟨?_, hb⟩
  rw [show ((M.num (l.take k) : Int) * 256) = ((M.num (l.take k) * 256 : Nat) : Int) by omega, u32_or_nat _ _ (by omega) (by omega), nat_join 8 _ _ (by omega) (by omega), take_snoc l k h, M.num_snoc]
theorem take_piece (l : List UInt8) (n : Nat) : (l.take (4 + n)).drop 4 = (l.drop 4).take n := by
  rw [List.drop_take]; congr 1; omega

set_option maxHeartbeats 2000000 in
theorem rtframe_any {v : Value} {l : List UInt8} {w : World} (hr : Rd w v l) (hl : l.length ≤ 1099511627776) :
    Calls Try.prog 39 #[v] w fun e w' => ∃ v1 v2, e = .returned (.tuple #[v1, v2, .int .i64 (M.tf l).2.2]) ∧ Ow w.heap.size w' v1 (M.tf l).1 ∧ Ow w.heap.size w' v2 (M.tf l).2.1 ∧ Below w.heap.size w w' := by
  have hrv := rtakeV_any hr (by omega)
  have htl := tv_lt l
  have hll := tv_len l
  have HC : Hid _ := tf_cases l
  generalize M.tf l = T at *
  generalize M.tv l = r at *
  obtain ⟨n, rest, er⟩ := r
  simp only [] at *
  rcases HC.out with ⟨h1, h2⟩ | ⟨h1, h2, h3⟩ | ⟨h1, h2, h3⟩
  · subst h2
    have hne : (((er : Nat) : Int) != 0) = true := by simp; omega
    clear HC
    go_enter Try.func39, Try.ntmps39
    go_wp2_with fail
    refine hrv.mono ?_
    rintro e w1 ⟨v2, rfl, hr2, hb1⟩
    go_wp2_with fail
    go_ret3
    exact ⟨_, _, rfl, Ow.nil _ _, Ow.nil _ _, hb1⟩
  · subst h3
    subst h1
    clear HC
    go_enter Try.func39, Try.ntmps39
    go_wp2_with fail
    refine hrv.mono ?_
    rintro e w1 ⟨v2, rfl, hr2, hb1⟩
    obtain ⟨ao, c, rfl, g1, g2, g3, g4⟩ := hr2.rd
    clear g3 g4
    unfold maxLen at g2
    go_wp2_with fail
    go_ret3
    exact ⟨_, _, rfl, Ow.nil _ _, Ow.nil _ _, hb1⟩
  · subst h1
    clear HC
    rw [List.length_drop] at h3
    have HT : Hid _ := h3
    clear h3
    go_enter Try.func39, Try.ntmps39
    go_wp2_with fail
    refine hrv.mono ?_
    rintro e w1 ⟨v2, rfl, hr2, hb1⟩
    have hr2' := hr2.rd
    obtain ⟨ao, c, rfl, g1, g2, g3, g4⟩ := hr2.rd
    clear g3
    unfold maxLen at g2
    by_cases hsh : rest.length - 4 < n
    · have hT : T = ([], [], 10) := by have := HT.out; rw [if_pos hsh] at this; exact this
      subst hT
      clear HT g4
      go_wp2_with fail
      go_ret3
      exact ⟨_, _, rfl, Ow.nil _ _, Ow.nil _ _, hb1⟩
    · have hT : T = if M.crc ((rest.drop 4).take n) ≠ M.num (rest.take 4) then ([], [], 11) else ((rest.drop 4).take n, (rest.drop 4).drop n, 0) := by have := HT.out; rw [if_neg hsh] at this; exact this
      clear HT
      have HT : Hid _ := hT
      clear hT
      have hp := hr2'.piece 4 (4 + n) (by omega) (by omega) (if c = 4 then ao else ao.map (fun a => a.add 4)) ⟨fun h => by rw [if_pos h], fun h => by rw [if_neg h]⟩
      rw [take_piece] at hp
      have hq := hr2'.post (4 + n) (by omega) (if c = 4 + n then ao else ao.map (fun a => a.add (4 + n))) ⟨fun h => by rw [if_pos h], fun h => by rw [if_neg h]⟩
      have e4 : rest.drop (4 + n) = (rest.drop 4).drop n := by rw [List.drop_drop]
      rw [e4] at hq
      have lp : ((rest.drop 4).take n).length ≤ 140737488355328 := by simp only [List.length_take, List.length_drop]; omega
      have lq : ((rest.drop 4).drop n).length ≤ 140737488355328 := by simp only [List.length_drop]; omega
      have HPQ : Hid _ := And.intro hp hq
      clear hp hq e4
      have hbs : ∀ k, (h : k < rest.length) → k < 4 → _ := fun k h h4 => rtf_step rest k h h4
      have HB : Hid _ := hbs
      clear hbs
      have hlast : M.num (rest.take 4) < 4294967296 := by
        have := M.num_lt (rest.take 4)
        rw [List.length_take, Nat.min_eq_left h2] at this
        simpa using this
      generalize (rest.drop 4).take n = P at *
      generalize (rest.drop 4).drop n = Q at *
      go_wp2_with fail
      go_loopw [8, 9] (fun s i wr => ∃ k : Nat, k ≤ 4 ∧ i = .int .i64 k ∧ s = .int .u32 (M.num (rest.take k)) ∧ wr = w1) (fun _ i _ => 4 - (intOf i).toNat)
      case atStart => exact ⟨0, Nat.zero_le _, rfl, rfl, rfl⟩
      case round =>
        obtain ⟨k, hk, rfl, rfl, rfl⟩ := hrel
        by_cases hlt : k < 4
        · obtain ⟨a, rfl, hc⟩ := g4 k (by omega)
          have hbk := (HB.out k (by omega) hlt).2
          have HE : Hid _ := (HB.out k (by omega) hlt).1
          have hx := (rest[k]'(by omega)).toNat_lt
          clear g4
          go_wp2_with fail
          exact ⟨⟨k + 1, by omega, by go_num, congrArg _ HE.out, trivial⟩, by simp [intOf]; omega⟩
        · obtain rfl : k = 4 := by omega
          clear g4 HB
          have h3 : c = 4 ∧ n = 0 ∨ ¬ c = 4 ∧ c = 4 + n ∨ ¬ c = 4 ∧ ¬ c = 4 + n := by omega
          have hcrc := M.crc_lt P
          by_cases hne : M.crc P ≠ M.num (rest.take 4)
          · have hT : T = ([], [], 11) := by have := HT.out; rw [if_pos hne] at this; exact this
            subst hT
            have hne' : (((M.crc P : Nat) : Int) != ((M.num (rest.take 4) : Nat) : Int)) = true := by simp; omega
            clear HT
            generalize M.num (rest.take 4) = N at *
            generalize hcp : M.crc P = CP at *
            have HCP : Hid _ := hcp
            clear hcp
            rcases h3 with ⟨c4, n0⟩ | ⟨c4, cn⟩ | ⟨c4, cn⟩
            all_goals
              first | (subst c4; subst n0) | skip
              go_wp2_with fail
              refine (copy_any (l := P) (Rd.cong HPQ.out.1 ?_ ?_ ?_) lp).mono ?_
              · first | rfl | (simp; done) | (rw [if_neg c4]; try rfl)
              · first | rfl | omega
              · first | rfl | omega
              rintro e w2 ⟨u2, rfl, ho2, hb2⟩
              go_wp2_with fail
              refine (rsum_any ho2.rd).mono ?_
              rintro e w3 ⟨rfl, k3, rfl⟩
              rw [HCP.out]
              go_wp2_with fail
              go_ret3
              exact ⟨_, _, rfl, Ow.nil _ _, Ow.nil _ _, (Below.tr hb1 hb2).trans ((Below.dN _ _).mono (Nat.le_trans hb1.size hb2.size))⟩
          · have hT : T = (P, Q, 0) := by have := HT.out; rw [if_neg hne] at this; exact this
            subst hT
            have hne' : (((M.crc P : Nat) : Int) != ((M.num (rest.take 4) : Nat) : Int)) = false := by simp; omega
            clear HT
            generalize M.num (rest.take 4) = N at *
            generalize hcp : M.crc P = CP at *
            have HCP : Hid _ := hcp
            clear hcp
            rcases h3 with ⟨c4, n0⟩ | ⟨c4, cn⟩ | ⟨c4, cn⟩
            all_goals
              first | (subst c4; subst n0) | skip
              go_wp2_with fail
              refine (copy_any (l := P) (Rd.cong HPQ.out.1 ?_ ?_ ?_) lp).mono ?_
              · first | rfl | (simp; done) | (rw [if_neg c4]; try rfl)
              · first | rfl | omega
              · first | rfl | omega
              rintro e w2 ⟨u2, rfl, ho2, hb2⟩
              go_wp2_with fail
              refine (rsum_any ho2.rd).mono ?_
              rintro e w3 ⟨rfl, k3, rfl⟩
              rw [HCP.out]
              have hq := (HPQ.out.2.below hb2 (Nat.le_refl _)).drewN k3
              have HQ : Hid _ := hq
              clear hq HPQ
              go_wp2_with fail
              refine (copy_any (l := Q) (Rd.cong HQ.out ?_ ?_ ?_) lq).mono ?_
              · first | rfl | (simp; done) | (rw [if_pos cn]; try rfl; done) | (rw [if_neg cn]; try rfl)
              · first | rfl | omega
              · first | rfl | omega
              rintro e w4 ⟨u4, rfl, ho4, hb4⟩
              go_wp2_with fail
              go_ret3
              have s1 := hb1.size
              have s2 := hb2.size
              have s4 := hb4.size
              exact ⟨_, _, rfl, (((ho2.drewN k3).below hb4 (Nat.le_refl _)).mono s1), ho4.mono (Nat.le_trans s1 s2), ((Below.tr hb1 hb2).trans ((Below.dN _ k3).mono (Nat.le_trans s1 s2))).trans (hb4.mono (Nat.le_trans s1 s2))⟩
end Go.Proofs.Ytdaedglfefkeoaa

/- What rising answers of any pairs. -/
namespace Go.Proofs.Ytdaedglfefkeoaa
open Go.RowKit
set_option linter.unusedVariables false
set_option maxRecDepth 100000

theorem bcompare_q {va vb : Value} {la lb : List UInt8} {w : World} (ha : Rd w va la) (hb : Rd w vb lb) (m q : Nat) : Calls Try.prog 53 #[va, vb] (w.drewN (m + q)) fun e w' => e = .returned (.int .i64 (M.cmpL la lb)) ∧ ∃ n, w' = w.drewN (m + n) := by
  refine (bcompare_any (ha.drewN (m + q)) (hb.drewN (m + q))).mono ?_
  rintro _ w' ⟨rfl, rfl⟩
  exact ⟨rfl, q, rfl⟩
theorem wrap64 (k : Nat) (h : k ≤ 9223372036854775807) : IntKind.i64.wrap (k : Int) = (k : Int) := by rw [IntKind.wrap_i64]; omega

set_option maxHeartbeats 1000000 in
theorem rising_any {v : Value} {ps : List P3} {w : World} (hr : RdQ w v ps) :
    Calls Try.prog 30 #[v] w fun e w' => e = .returned (.bool (M.ris ps)) ∧ ∃ n, w' = w.drewN n := by
  obtain ⟨ao, c, rfl, h1, h2, h4⟩ := hr
  unfold maxLen at h2
  generalize hT : M.ris ps = T
  have HT : Hid _ := hT
  clear hT
  go_enter Try.func30, Try.ntmps30
  go_wp2
  go_loopw [3] (fun i wr => ∃ k : Nat, k ≤ ps.length ∧ i = .int .i64 ((k : Int) + 1) ∧ Hid (∀ j p q, j < k → ps[j]? = some p → ps[j + 1]? = some q → M.cmpL p.1 q.1 < 0) ∧ ∃ m, wr = w.drewN m) (fun i _ => ps.length - (intOf i - 1).toNat)
  case atStart => exact ⟨0, Nat.zero_le _, rfl, (fun j p q hj => by omega), 0, rfl⟩
  case round =>
    obtain ⟨k, hk, rfl, HD, m, rfl⟩ := hrel
    by_cases hlt : k + 1 < ps.length
    · obtain ⟨p, hp⟩ : ∃ p, ps[k]? = some p := ⟨_, List.getElem?_eq_getElem (by omega)⟩
      obtain ⟨q, hq⟩ : ∃ q, ps[k + 1]? = some q := ⟨_, List.getElem?_eq_getElem hlt⟩
      obtain ⟨a, u1, u2, rfl, hpa⟩ := h4 k p hp
      obtain ⟨a', v1, v2, ea, hqa⟩ := h4 (k + 1) q hq
      obtain rfl := Option.some.inj ea
      have hc := fun x => bcompare_q hpa.r1 hqa.r1 m x
      have hw := wrap64 k (by omega)
      have hki : (k : Int) < (ps.length : Int) := by omega
      have hki2 : (k : Int) + 1 < (ps.length : Int) := by omega
      have c0 := hpa.c0
      have c1 := hqa.c0
      obtain ⟨ax, cx, rfl, _⟩ := hpa.r1
      obtain ⟨ay, cy, rfl, _⟩ := hqa.r1
      have HP : Hid _ := And.intro hp hq
      clear h4 hpa hqa hp hq ea
      have hsub : ((k : Int) + 1 - 1) = (k : Int) := by omega
      by_cases hlt0 : M.cmpL p.1 q.1 < 0
      · have hge : decide (M.cmpL p.1 q.1 ≥ 0) = false := by simp; omega
        have HL : Hid _ := hlt0
        generalize hz : M.cmpL p.1 q.1 = z at *
        go_wp2_with fail
        go_quiet (first | (go_at_call 53; exact hc _) | fail)
        go_wp2_with fail
        refine ⟨⟨k + 1, by omega, by go_num, fun j x y hj hx hy => ?_, m + nq, by simp [World.drewN]⟩, by simp [intOf]; omega⟩
        rcases Nat.lt_or_ge j k with h | h
        · exact HD.out j x y h hx hy
        · obtain rfl : j = k := by omega
          rw [HP.out.1] at hx
          rw [HP.out.2] at hy
          obtain rfl := Option.some.inj hx
          obtain rfl := Option.some.inj hy
          rw [hz]; exact HL.out
      · have hge : 0 ≤ M.cmpL p.1 q.1 := by omega
        have hT := HT.out
        rw [M.ris_false HP.out.1 HP.out.2 hge] at hT
        subst hT
        generalize hz : M.cmpL p.1 q.1 = z at *
        go_wp2_with fail
        go_quiet (first | (go_at_call 53; exact hc _) | fail)
        go_wp2_with fail
        go_ret
        exact ⟨rfl, m + nq, by simp [World.drewN, Nat.add_assoc]⟩
    · have hT : T = true := by
        rw [← HT.out, M.ris_iff]
        intro j x y hx hy
        have := (List.getElem?_eq_some_iff.1 hy).1
        exact HD.out j x y (by omega) hx hy
      subst hT
      clear h4
      go_wp2_with fail
      go_ret
      exact ⟨rfl, _, rfl⟩
end Go.Proofs.Ytdaedglfefkeoaa

/- What Row answers of any fields. -/
namespace Go.Proofs.Ytdaedglfefkeoaa
open Go.RowKit
set_option linter.unusedVariables false
set_option maxRecDepth 100000

set_option maxHeartbeats 1000000 in
theorem row_any {v : Value} {ls : List (List UInt8)} {w : World} (hr : Rds w v ls) (hl : (M.row ls).length ≤ 1099511627776) (hn : ls.length ≤ 1099511627776) :
    Calls Try.prog 33 #[v] w fun e w' => ∃ v', e = .returned v' ∧ Ow w.heap.size w' v' (M.row ls) ∧ Below w.heap.size w w' := by
  obtain ⟨ao, c, rfl, h1, h2, h4⟩ := hr
  unfold maxLen at h2
  have hvl := vi_len ls.length
  have hrl : (M.rowB ls).length ≤ 1099511627776 := by simp [M.row] at hl; omega
  clear hl
  go_enter Try.func33, Try.ntmps33
  go_wp2_with fail
  refine (varint_any ls.length _ (by omega)).mono ?_
  rintro e w1 ⟨v1, rfl, ho1, hb1⟩
  go_wp2_with fail
  go_loopw [3, 5, 12] (fun out _ i wr => ∃ k : Nat, k ≤ ls.length ∧ i = .int .i64 k ∧ Ow w.heap.size wr out (M.vi ls.length ++ M.rowB (ls.take k)) ∧ Below w.heap.size w wr) (fun _ _ i _ => ls.length - (intOf i).toNat)
  case atStart => exact ⟨0, Nat.zero_le _, rfl, by simpa [M.rowB] using ho1, hb1⟩
  case round =>
    obtain ⟨k, hk, rfl, ho, hb⟩ := hrel
    clear ho1 hb1
    have hB := hb.size
    by_cases hlt : k < ls.length
    · obtain ⟨a, u, rfl, hc, hru⟩ := h4 k hlt
      have hcx : wr.cell? (a.add k) = some u := by rw [hb.cell (World.block_lt_of_cell? w _ hc)]; exact hc
      have hfl := M.rowB_field ls k hlt
      have hvf := vi_len ls[k].length
      have hsn := M.rowB_snoc ls k hlt
      have HSN : Hid _ := hsn
      have hru' := hru
      obtain ⟨au, cu, rfl, u1, u2, _, _⟩ := hru
      unfold maxLen at u2
      have hdl : (M.vi ls.length ++ M.rowB (ls.take k)).length + (M.vi ls[k].length).length + ls[k].length ≤ 1099511628000 := by simp only [List.length_append]; omega
      generalize hcur : M.vi ls.length ++ M.rowB (ls.take k) = cur at *
      generalize hfk : ls[k] = fk at *
      have HC : Hid _ := And.intro hcur hfk
      clear hcur hsn hfl hc h4
      go_wp2_with fail
      refine (varint_any fk.length _ (by omega)).mono ?_
      rintro e w2 ⟨v2, rfl, ho2, hb2⟩
      have ho' := ho.below hb2 (Nat.le_refl _)
      have hb' : Below w.heap.size w w2 := hb.trans (hb2.mono hB)
      have hB2 := hb'.size
      go_wp2_with (first | (at_builtin; refine wpList_app rfl _ _ rfl w.heap.size _ cur rfl ho' _ (M.vi fk.length) rfl ho2.rd hB2 (by omega) ?_; intro v3 w3 ho3 hb3 hg3) | (at_builtin; refine wpList_app rfl _ _ rfl w.heap.size _ (cur ++ M.vi fk.length) rfl ho3 _ fk rfl ?r1 ?r2 ?r3 ?_; rotate_right; intro v4 w4 ho4 hb4 hg4) | fail)
      case r1 => exact hru'.below (hb'.trans hb3) (Nat.le_refl _)
      case r2 => exact (hb'.trans hb3).size
      case r3 => rw [List.length_append]; omega
      refine ⟨⟨k + 1, by omega, by go_num, ?_, (hb'.trans hb3).trans hb4⟩, by simp [intOf]; omega⟩
      have e : M.vi ls.length ++ M.rowB (ls.take (k + 1)) = cur ++ M.vi fk.length ++ fk := by
        rw [HSN.out, ← HC.out.1]; simp
      rw [e]; exact ho4
    · obtain rfl : k = ls.length := by omega
      go_wp2_with fail
      go_ret
      refine ⟨_, rfl, ?_, hb⟩
      rw [List.take_of_length_le (Nat.le_refl _)] at ho
      exact ho
end Go.Proofs.Ytdaedglfefkeoaa

/- What pairRow answers of a pair. -/
namespace Go.Proofs.Ytdaedglfefkeoaa
open Go.RowKit
set_option linter.unusedVariables false
set_option maxRecDepth 100000

/-- Three texts in a new block. -/
theorem rds_three (w : World) (H : Nat) (hH : w.heap.size = H) {x y z : Value} {k l m : List UInt8} (t : TypeId) (h1 : Rd w x k) (h2 : Rd w y l) (h3 : Rd w z m) : Rds (w.alloc (.cells #[x, y, z] t)) (.slice (some ⟨H, 0, none⟩) 3 3) [k, l, m] := by
  subst hH
  have hb := bel_al w (.cells #[x, y, z] t)
  refine ⟨some ⟨w.heap.size, 0, none⟩, 3, rfl, by simp, by simp [maxLen], fun i hi => ?_⟩
  have hc : ∀ j u, #[x, y, z][j]? = some u → (w.alloc (.cells #[x, y, z] t)).cell? ((⟨w.heap.size, 0, none⟩ : Addr).add j) = some u := fun j u e => by
    rw [Addr.add_lit, Nat.zero_add, World.cell?_alloc_at _ _ _ _ rfl]; exact e
  match i, hi with
  | 0, _ => exact ⟨_, x, rfl, hc 0 x rfl, h1.below hb (Nat.le_refl _)⟩
  | 1, _ => exact ⟨_, y, rfl, hc 1 y rfl, h2.below hb (Nat.le_refl _)⟩
  | 2, _ => exact ⟨_, z, rfl, hc 2 z rfl, h3.below hb (Nat.le_refl _)⟩

theorem rd_oneH (w : World) (H : Nat) (hH : w.heap.size = H) (z : Int) (b : UInt8) (hz : z = (b.toNat : Int)) (t : TypeId) : Rd (w.alloc (.cells #[.int .u8 z] t)) (.slice (some ⟨H, 0, none⟩) 1 1) [b] := by
  subst hH; exact rd_one w z b hz t
theorem prow_len (p : P3) : (M.prow p).length ≤ p.1.length + p.2.1.length + 60 := by
  have h0 := vi_len (0 + 1 + 1 + 1)
  have h1 := vi_len p.1.length
  have h2 := vi_len p.2.1.length
  have h3 := vi_len (0 + 1)
  simp only [M.prow, M.row, M.rowB, List.length_append, List.length_cons, List.length_nil]
  have e : ([if p.2.2 then (1 : UInt8) else 0]).length = 1 := rfl
  omega

set_option maxHeartbeats 1000000 in
theorem pairrow_any {x y : Value} {p : P3} {w : World} (h1 : Rd w x p.1) (h2 : Rd w y p.2.1) (hl : p.1.length + p.2.1.length ≤ 1099511627000) :
    Calls Try.prog 31 #[.agg #[x, y, .bool p.2.2]] w fun e w' => ∃ v', e = .returned v' ∧ Ow w.heap.size w' v' (M.prow p) ∧ Below w.heap.size w w' := by
  have hlen := prow_len p
  have hrow : ∀ (z : Value) (W : World), Rds W z [p.1, p.2.1, [if p.2.2 then 1 else 0]] → Below w.heap.size w W → Calls Try.prog 33 #[z] W fun e w' => ∃ v', e = .returned v' ∧ Ow w.heap.size w' v' (M.prow p) ∧ Below w.heap.size w w' := fun z W hz hW => by
    refine (row_any hz (by unfold M.prow at hlen; omega) (by simp)).mono ?_
    rintro e w' ⟨v', rfl, ho, hb⟩
    exact ⟨v', rfl, ho.mono hW.size, hW.trans (hb.mono hW.size)⟩
  clear hlen
  obtain ⟨k, v, g⟩ := p
  simp only [] at *
  generalize hR : M.prow (k, v, g) = R at *
  clear hR
  have q1 := h1
  have q2 := h2
  obtain ⟨ax, cx, rfl, _⟩ := h1
  obtain ⟨ay, cy, rfl, _⟩ := h2
  cases g
  all_goals
    go_enter Try.func31, Try.ntmps31
    go_wp2_with fail
    refine (hrow _ _ ?ha ?hb).mono ?_
    case ha => exact rds_three _ _ (by simp) _ ((q1.alloc _).alloc _) ((q2.alloc _).alloc _) (rd_oneH _ _ (by simp) _ _ rfl _)
    case hb => exact ((bel_al w _).alloc (by simp) _).alloc (by simp; omega) _
    rintro e w' ⟨v', rfl, ho, hb⟩
    go_wp2_with fail
    go_ret
    exact ⟨_, rfl, ho, hb⟩
end Go.Proofs.Ytdaedglfefkeoaa

/- What Build answers of any pairs. -/
namespace Go.Proofs.Ytdaedglfefkeoaa
open Go.RowKit
set_option linter.unusedVariables false
set_option maxRecDepth 100000

theorem rows_tot (ps : List P3) : (M.rowB (ps.map M.prow)).length ≤ 30 * totP ps := by
  induction ps with
  | nil => simp [M.rowB]
  | cons p r ih =>
    have h1 := prow_len p
    have h2 := vi_len (M.prow p).length
    simp only [List.map_cons, M.rowB, List.length_append, totP]
    omega
theorem row_tot (ps : List P3) : (M.row (ps.map M.prow)).length ≤ 30 * totP ps + 10 := by
  have h1 := rows_tot ps
  have h2 := vi_len (ps.map M.prow).length
  simp only [M.row, List.length_append]
  omega

theorem Try.infoL : (Try.prog.info? 25).map (fun i => (i.zero, i.size, i.bytes)) = some (some (.slice none 0 0), 1, 24) := by kernel_rfl
theorem lists_made {w : World} {B g n : Nat} (h : w.ownsRow B 25 1 (.slice (some ⟨g, 0, none⟩) n n) n (madeCells (Value.slice none 0 0).cells (n * 1)).toList) : w.ownsRow B 25 1 (.slice (some ⟨g, 0, none⟩) n n) n (List.replicate n (.slice none 0 0)) := by
  have e : (madeCells (Value.slice none 0 0).cells (n * 1)).toList = List.replicate n (Value.slice none 0 0) := by
    rw [show (Value.slice none 0 0).cells = #[Value.slice none 0 0] from rfl, toList_madeCells_one]
    simp
  rw [← e]; exact h
theorem row_put {w : World} {B : Nat} {e : TypeId} {size n g : Nat} {v : Value} {xs : List Value} (h : w.ownsRow B e size v n xs) (hv : v.ownBlock = some g) (j : Nat) (u : Value) : (w.setCell ⟨g, j, none⟩ u).ownsRow B e size v n (xs.set j u) := by
  refine ⟨by rw [List.length_set]; exact h.1, ?_⟩
  rcases h.2 with ⟨q, q0⟩ | ⟨g', cap, cur, q, hB, hg, q1, q2, q3, q4⟩
  · rw [q] at hv; cases hv
  · rw [q] at hv
    obtain rfl : g' = g := Option.some.inj hv
    refine .inr ⟨g', cap, cur.setIfInBounds j u, q, hB, by rw [heap_setCell_same _ _ j _ _ _ hg], q1, q2, by rw [Array.size_setIfInBounds]; exact q3, ?_⟩
    rw [← q4]
    simp [List.take_set]
theorem row_froz {w : World} {B : Nat} {e : TypeId} {size n c k g : Nat} {xs : List Value} (h : w.ownsRow B e size (.slice (some ⟨g, 0, none⟩) n c) k xs) (j : Nat) : w.frozen? ⟨g, j, none⟩ = false := by
  rcases h.2 with ⟨q, q0⟩ | ⟨g', cap, cur, q, hB, hg, _⟩
  · cases q
  · simp only [Value.slice.injEq, Option.some.injEq, Addr.mk.injEq, and_true] at q
    rw [q.1]; exact frozen_of_row _ _ _ _ _ hg

/-- The array of fields while it is filled: the first k are told. -/
structure Fil (B g : Nat) (ls : List (List UInt8)) (k : Nat) (us : List Value) (w : World) : Prop where
  row : w.ownsRow B 25 1 (.slice (some ⟨g, 0, none⟩) ls.length ls.length) ls.length us
  el : ∀ i u l, i < k → us[i]? = some u → ls[i]? = some l → Rd w u l ∧ ∀ b, u.ownBlock = some b → b ≠ g

theorem Fil.below {B g : Nat} {ls : List (List UInt8)} {k : Nat} {us : List Value} {w w' : World} (h : Fil B g ls k us w) (hb : Below w.heap.size w w') : Fil B g ls k us w' :=
  ⟨ownsRow_belW h.row hb (Nat.le_refl _), fun i u l hi e1 e2 => ⟨(h.el i u l hi e1 e2).1.below hb (Nat.le_refl _), (h.el i u l hi e1 e2).2⟩⟩
theorem Fil.put {B g : Nat} {ls : List (List UInt8)} {k : Nat} {us : List Value} {w : World} (h : Fil B g ls k us w) {u : Value} {l : List UInt8} (hl : ls[k]? = some l) (hu : Rd w u l) (hg : ∀ b, u.ownBlock = some b → b ≠ g) : Fil B g ls (k + 1) (us.set k u) (w.setCell ⟨g, k, none⟩ u) := by
  have hch : Chg (fun b => b = g) w (w.setCell ⟨g, k, none⟩ u) := (Chg.refl _ w).put g k u rfl
  have hul : us.length = ls.length := by have := h.row.1; simpa using this
  refine ⟨row_put h.row rfl k u, fun i x m hi e1 e2 => ?_⟩
  by_cases hik : i = k
  · subst hik
    have hlt : i < us.length := by have := (List.getElem?_eq_some_iff.1 hl).1; omega
    rw [List.getElem?_set_self hlt] at e1
    obtain rfl := Option.some.inj e1
    rw [hl] at e2
    obtain rfl := Option.some.inj e2
    exact ⟨hu.keptC hch (fun b e q => hg b e q), hg⟩
  · rw [List.getElem?_set_ne (by omega)] at e1
    have := h.el i x m (by omega) e1 e2
    exact ⟨this.1.keptC hch (fun b e q => this.2 b e q), this.2⟩
theorem Fil.rds {B g : Nat} {ls : List (List UInt8)} {us : List Value} {w : World} (h : Fil B g ls ls.length us w) : Rds w (.slice (some ⟨g, 0, none⟩) ls.length ls.length) ls := by
  have hul : us.length = ls.length := by have := h.row.1; simpa using this
  obtain ⟨a, c, e, h1, h2, _, h4⟩ := row_reads h.row
  simp only [Value.slice.injEq, true_and] at e
  obtain ⟨rfl, rfl⟩ := e
  refine ⟨_, _, rfl, Nat.le_refl _, h2, fun i hi => ?_⟩
  have hu : us[i]? = some (us[i]'(by omega)) := by simp [show i < us.length by omega]
  obtain ⟨g', eg, hc⟩ := h4 i _ hu
  simp only [Option.some.injEq, Addr.mk.injEq, and_true] at eg
  subst eg
  exact ⟨_, us[i]'(by omega), rfl, by rw [Addr.add_lit, Nat.zero_add]; exact hc, (h.el i _ _ hi hu (by simp [hi])).1⟩

set_option maxHeartbeats 2000000 in
theorem build_any {v : Value} {ps : List P3} {w : World} (hr : RdQ w v ps) (hl : totP ps ≤ 4194304) :
    Calls Try.prog 11 #[v] w fun e w' => ∃ v', e = .returned (.tuple #[v', .int .i64 (M.bld ps).2]) ∧ Ow w.heap.size w' v' (M.bld ps).1 ∧ Below w.heap.size w w' := by
  have hpl := totP_len ps
  have hrt := row_tot ps
  have hris := rising_any hr
  obtain ⟨ao, c, rfl, h1, h2, h4⟩ := hr
  unfold maxLen at h2
  by_cases hri : M.ris ps = true
  · have e : M.bld ps = (M.tab ps, 0) := by unfold M.bld; rw [if_pos hri]
    rw [e]
    rw [hri] at hris
    clear e
    unfold M.tab
    obtain ⟨i, hi, hz0, hz1, hz2⟩ := info_parts Try.infoL
    have hml : (ps.map M.prow).length = ps.length := by simp
    go_enter Try.func11, Try.ntmps11
    go_wp2_with fail
    refine hris.mono ?_
    rintro e w0 ⟨rfl, n0, rfl⟩
    go_wp2_with (first | (at_make; refine wpList_make_full _ rfl _ _ 64 rfl w.heap.size 25 i _ 1 Try.underlying64 hi hz0 hz1 _ _ _ _ ps.length rfl rfl rfl rfl (by rw [hz2]; omega) (by unfold maxLen; omega) (Nat.le_refl _) ?_; intro w1 hown hgr) | fail)
    have hb1 : Below w.heap.size w w1 := ((Below.dN w n0).grown hgr (Nat.le_refl _) (fun k e => by cases e))
    have hf1 : Fil w.heap.size w.heap.size (ps.map M.prow) 0 (List.replicate ps.length (.slice none 0 0)) w1 := ⟨by rw [hml]; exact lists_made hown, fun i u l h => by omega⟩
    clear hown hgr
    go_loopw [5, 6, 15] (fun _ _ i wr => ∃ (k : Nat) (us : List Value), k ≤ ps.length ∧ i = .int .i64 k ∧ Fil w.heap.size w.heap.size (ps.map M.prow) k us wr ∧ Below w.heap.size w wr ∧ w.heap.size < wr.heap.size) (fun _ _ i _ => ps.length - (intOf i).toNat)
    case atStart => exact ⟨0, _, Nat.zero_le _, rfl, hf1, hb1, by
      have := hf1.row
      obtain ⟨g, hg⟩ : ∃ g, g = w.heap.size := ⟨_, rfl⟩
      exact (World.ownsRow.lt this _ rfl).2⟩
    case round =>
      obtain ⟨k, us, hk, rfl, hf, hb, hsz⟩ := hrel
      clear hf1 hb1 hris
      by_cases hlt : k < ps.length
      · obtain ⟨p, hp⟩ : ∃ p, ps[k]? = some p := ⟨_, List.getElem?_eq_getElem hlt⟩
        have hm := totP_mem ps p (List.mem_of_getElem? hp)
        obtain ⟨a, u1, u2, rfl, hpa⟩ := h4 k p hp
        have hpr := hpa.below hb (Nat.le_refl _)
        have c0 := hpr.c0
        have c1 := hpr.c1
        have c2 := hpr.c2
        have r1 := hpr.r1
        have r2 := hpr.r2
        have hq : (ps.map M.prow)[k]? = some (M.prow p) := by rw [List.getElem?_map, hp]; rfl
        clear hpa hpr h4
        obtain ⟨pk, pv, pg⟩ := p
        simp only [] at *
        have q1 := r1
        have q2 := r2
        obtain ⟨x1, y1, rfl, _⟩ := r1
        obtain ⟨x2, y2, rfl, _⟩ := r2
        have hul : us.length = ps.length := by have := hf.row.1; simpa using this
        have hki : (k : Int) < (ps.length : Int) := by omega
        go_wp2_with fail
        refine (pairrow_any (p := (pk, pv, pg)) (q1.alloc _) (q2.alloc _) (by simp only []; omega)).mono ?_
        rintro e w2 ⟨v2, rfl, ho2, hb2⟩
        have hf2 := (hf.below (bel_al wr _)).below hb2
        have hB2 : Below wr.heap.size wr w2 := Below.tr (bel_al wr _) hb2
        have hfz := row_froz hf2.row k
        have hcell : w2.cell? ⟨w.heap.size, k, none⟩ = some (us[k]'(by omega)) := by
          obtain ⟨_, _, er, _, _, _, r4⟩ := row_reads hf2.row
          simp only [Value.slice.injEq, true_and] at er
          obtain ⟨rfl, rfl⟩ := er
          obtain ⟨g', eg, hc⟩ := r4 k (us[k]'(by omega)) (by simp [show k < us.length by omega])
          simp only [Option.some.injEq, Addr.mk.injEq, and_true] at eg
          rw [eg]; exact hc
        have hs2 := hB2.size
        have hlt2 : ∀ b, v2.ownBlock = some b → b ≠ w.heap.size := fun b e q => by
          have := (World.ownsRow.lt ho2 b e).1
          simp at this
          omega
        have hf3 := hf2.put hq ho2.rd hlt2
        obtain ⟨a2, d2, rfl⟩ := ho2.shape
        have HF : Hid _ := And.intro hf3 (And.intro (hb.trans (hB2.mono hb.size)) hs2)
        clear hf3 hf2 ho2 hb2 hB2 hf hb c0 c1 c2 q1 q2
        go_wp2_with fail
        refine ⟨⟨k + 1, us.set k _, by omega, by go_num, HF.out.1, ?_, ?_⟩, by simp [intOf]; omega⟩
        · exact HF.out.2.1.trans (((Chg.refl (fun b => b = w.heap.size) w2).put w.heap.size k _ rfl).below (fun b q => by omega) (by have := HF.out.2.2; omega))
        · have := HF.out.2.2; simp; omega
      · obtain rfl : k = ps.length := by omega
        clear h4
        have hrds : Rds wr (.slice (some ⟨w.heap.size, 0, none⟩) ps.length ps.length) (ps.map M.prow) := by
          rw [← hml] at hf ⊢
          exact hf.rds
        go_wp2_with fail
        refine (row_any hrds (by omega) (by omega)).mono ?_
        rintro e w2 ⟨v2, rfl, ho2, hb2⟩
        go_wp2_with fail
        refine (frame_any ho2.rd (by omega)).mono ?_
        rintro e w3 ⟨v3, rfl, ho3, hb3⟩
        go_wp2_with fail
        go_ret2
        have hs := hb.size
        have hs2 := hb2.size
        exact ⟨_, rfl, ho3.mono (by omega), hb.trans ((Below.tr hb2 hb3).mono hs)⟩
  · have e : M.bld ps = ([], 51) := by unfold M.bld; rw [if_neg hri]
    rw [e]
    have hf : M.ris ps = false := by simpa using hri
    rw [hf] at hris
    clear e h4
    go_enter Try.func11, Try.ntmps11
    go_wp2_with fail
    refine hris.mono ?_
    rintro e w0 ⟨rfl, n0, rfl⟩
    go_wp2_with fail
    go_ret2
    exact ⟨_, rfl, Ow.nil _ _, Below.dN _ _⟩
end Go.Proofs.Ytdaedglfefkeoaa

/- What readField and TakeRow answer of any bytes. -/
namespace Go.Proofs.Ytdaedglfefkeoaa
open Go.RowKit
set_option linter.unusedVariables false
set_option maxRecDepth 100000

theorem Try.info25 : (Try.prog.info? 25).map (fun i => (i.zero, i.size, i.bytes)) = some (some (.slice none 0 0), 1, 24) := by kernel_rfl

theorem part_drop (l : List UInt8) (n : Nat) : (M.part l n).2.1.length ≤ l.length := by
  unfold M.part; split <;> simp

theorem rfield_any {v : Value} {l : List UInt8} {w : World} (hr : Rd w v l) :
    Calls Try.prog 58 #[v] w fun e w' => ∃ v1 v2, e = .returned (.tuple #[v1, v2, .int .i64 (M.fd l).2.2]) ∧ (∀ w0, Rd w0 v l → Rd w0 v1 (M.fd l).1 ∧ Rd w0 v2 (M.fd l).2.1) ∧ ∃ k, w' = w.drewN k := by
  have hrv := rvar_any2 hr
  have htl := tv_lt l
  unfold M.fd
  generalize M.tv l = r at *
  obtain ⟨n, rest, er⟩ := r
  simp only [] at *
  by_cases her : er ≠ 0
  · rw [if_pos her]
    have hne : (((er : Nat) : Int) != 0) = true := by simp; omega
    go_enter Try.func58, Try.ntmps58
    go_wp2_with (go_at_call 48; refine hrv.mono ?_; rintro e w1 ⟨v2, rfl, hr2, k1, rfl⟩)
    go_ret3
    exact ⟨_, _, rfl, fun _ _ => ⟨Rd.nil _, Rd.nil _⟩, _, rfl⟩
  · rw [if_neg her]
    obtain rfl : er = 0 := by omega
    generalize hP : M.part rest n = P
    have HP : Hid _ := hP
    clear hP
    go_enter Try.func58, Try.ntmps58
    go_wp2_with fail
    refine hrv.mono ?_
    rintro e w1 ⟨v2, rfl, hr2, k1, rfl⟩
    go_wp2_with fail
    refine (part_any2 ((hr2 _ hr).drewN k1) htl).mono ?_
    rintro e w2 ⟨u1, u2, rfl, hu, k2, rfl⟩
    rw [HP.out] at hu ⊢
    go_wp2_with fail
    go_ret3
    exact ⟨_, _, rfl, fun w0 h0 => hu w0 (hr2 w0 h0), k1 + k2, rfl⟩

set_option maxHeartbeats 2000000 in
theorem takerow_any {v : Value} {l : List UInt8} {w : World} (hr : Rd w v l) (hl : l.length ≤ 1099511627776) :
    Calls Try.prog 37 #[v] w fun e w' => ∃ v' us, e = .returned (.tuple #[v', .int .i64 (M.tr l).2]) ∧ Ows w.heap.size w' v' (M.tr l).1 us ∧ Below w.heap.size w w' := by
  have hrv := rvar_any hr
  have htl := tv_lt l
  have hll := tv_len l
  by_cases her : (M.tv l).2.2 ≠ 0
  · have e : M.tr l = ([], (M.tv l).2.2) := by unfold M.tr; rw [if_pos her]
    rw [e]
    generalize M.tv l = r at *
    obtain ⟨n, rest, er⟩ := r
    simp only [] at *
    have hne : (((er : Nat) : Int) != 0) = true := by simp; omega
    clear e
    go_enter Try.func37, Try.ntmps37
    go_wp2_with (go_at_call 48; refine hrv.mono ?_; rintro e w1 ⟨v2, rfl, hr2, k1, rfl⟩)
    go_ret2
    exact ⟨_, _, rfl, Ows.nil _ _, Below.dN _ _⟩
  · have her' : (M.tv l).2.2 = 0 := by simpa using her
    by_cases hsh : (M.tv l).2.1.length < (M.tv l).1
    · have e : M.tr l = ([], 12) := by unfold M.tr; rw [if_neg her, if_pos hsh]
      rw [e]
      clear e her
      generalize M.tv l = r at *
      obtain ⟨n, rest, er⟩ := r
      simp only [] at *
      subst her'
      go_enter Try.func37, Try.ntmps37
      go_wp2_with fail
      refine hrv.mono ?_
      rintro e w1 ⟨v2, rfl, hr2, k1, rfl⟩
      obtain ⟨ao, c, rfl, g1, g2, g3, g4⟩ := hr2
      clear g3 g4
      unfold maxLen at g2
      go_wp2_with fail
      go_ret2
      exact ⟨_, _, rfl, Ows.nil _ _, Below.dN _ _⟩
    · have e := M.tr_rfA l her' (by omega)
      generalize M.tr l = T at *
      have HT : Hid _ := e
      clear e her
      generalize M.tv l = r at *
      obtain ⟨n, rest, er⟩ := r
      simp only [] at *
      subst her'
      go_enter Try.func37, Try.ntmps37
      go_wp2_with fail
      refine hrv.mono ?_
      rintro e w1 ⟨v2, rfl, hr2, k1, rfl⟩
      have hr2' := hr2
      obtain ⟨ao, c, rfl, g1, g2, g3, g4⟩ := hr2
      clear g3 g4
      unfold maxLen at g2
      go_wp2_with fail
      go_loopw [0, 6, 7, 8, 9, 25] (fun b fields _ _ _ i wr => ∃ (k : Nat) (fs : List (List UInt8)) (l2 : List UInt8) (us : List Value), k ≤ n ∧ i = .int .u64 k ∧ fs.length = k ∧ Rd w b l2 ∧ l2.length ≤ rest.length ∧ Hid (M.rfA (n - k) fs l2 = M.rfA n [] rest) ∧ Ows w.heap.size wr fields fs us ∧ Below w.heap.size w wr) (fun _ _ _ _ _ i _ => n - (intOf i).toNat)
      case atStart => exact ⟨0, [], rest, [], Nat.zero_le _, rfl, rfl, hr2', Nat.le_refl _, rfl, Ows.nil _ _, Below.dN _ _⟩
      case round =>
        obtain ⟨k, fs, l2, us, hk, rfl, hfl, hrb, hl2, HE, hos, hb⟩ := hrel
        clear hr2'
        have hB := hb.size
        by_cases hlt : k < n
        · have hfd := M.fd_len l2 (tv_len l2)
          have HF : Hid (if (M.fd l2).2.2 ≠ 0 then T = ([], (M.fd l2).2.2) else M.rfA (n - (k + 1)) (fs ++ [(M.fd l2).1]) (M.fd l2).2.1 = M.rfA n [] rest) := by
            have h1 := HE.out
            obtain ⟨q, hq⟩ : ∃ q, n - k = q + 1 := ⟨n - k - 1, by omega⟩
            rw [hq, M.rfA] at h1
            by_cases h2 : (M.fd l2).2.2 ≠ 0
            · rw [if_pos h2] at h1
              have h3 := HT.out
              rw [← h1] at h3
              show ite _ _ _
              rw [if_pos h2, h3, if_pos h2]
            · rw [if_neg h2] at h1
              show ite _ _ _
              rw [if_neg h2, show n - (k + 1) = q by omega]
              exact h1
          have hrb' := hrb.below hb (Nat.le_refl _)
          have hfield := rfield_any hrb'
          have hlf : fs.length ≤ 1099511627776 := by omega
          have hrb2 := hrb
          obtain ⟨ab, cb, rfl, b1, b2, _, _⟩ := hrb
          unfold maxLen at b2
          generalize M.fd l2 = F at *
          obtain ⟨f1, f2, fe⟩ := F
          simp only [] at *
          clear HE
          by_cases hfe : fe ≠ 0
          · have hT : T = ([], fe) := by
              have := HF.out; rw [if_pos hfe] at this; exact this
            subst hT
            have hne : (((fe : Nat) : Int) != 0) = true := by simp; omega
            clear HF HT
            go_wp2_with fail
            refine hfield.mono ?_
            rintro e w2 ⟨u1, u2, rfl, hu, k2, rfl⟩
            go_wp2_with fail
            go_ret2
            exact ⟨_, rfl, ⟨_, Ows.nil _ _⟩, hb.trans ((Below.dN wr k2).mono hB)⟩
          · obtain rfl : fe = 0 := by omega
            have HG : Hid (M.rfA (n - (k + 1)) (fs ++ [f1]) f2 = M.rfA n [] rest) := by
              have := HF.out; rw [if_neg hfe] at this; exact this
            clear HF hfe
            go_wp2_with fail
            refine hfield.mono ?_
            rintro e w2 ⟨u1, u2, rfl, hu, k2, rfl⟩
            have hos2 := hos.below (Below.dN wr k2) (Nat.le_refl _)
            have hu1 := (hu _ hrb').1
            have hu2 := (hu _ hrb2).2
            clear hu
            go_wp2_with fail
            refine (clone_any (hu1.drewN k2) (by omega)).mono ?_
            rintro e w3 ⟨u3, rfl, ho3, hb3⟩
            have hos3 := hos2.below hb3 (Nat.le_refl _)
            have hB3 : w.heap.size ≤ w3.heap.size := Nat.le_trans hB hb3.size
            have hul := hos.len
            have h24 := Try.info25
            obtain ⟨a3, c3, e3⟩ := ho3.shape
            subst e3
            go_wp2_with (first | (at_builtin; (refine wpList_app1 rfl _ _ 64 rfl w.heap.size 25 (.slice none 0 0) 24 Try.underlying64 h24 rfl _ us.length us rfl (World.ownsRow.alloc hos3.row _) _ _ _ rfl (cell_new1 _ _ _) rfl ?hmx ?hmy ?hmz ?_; rotate_right; intro v4 w4 ho4 hg4 hw4)) | fail)
            case hmx => unfold maxLen; omega
            case hmy => omega
            case hmz => rw [World.size_alloc]; omega
            have hos4 : Ows w.heap.size w4 v4 (fs ++ [f1]) (us ++ [.slice a3 f1.length c3]) := hos2.snoc hb3 (Nat.le_refl _) ho3 hB ho4 hg4 hw4
            have hb4 : Below w.heap.size w w4 := ((hb.trans ((Below.dN wr k2).mono hB)).trans (hb3.mono hB)).trans (((Below.refl w.heap.size w3).alloc hB3 _).trans ((Below.refl w.heap.size _).grown hg4 (by rw [World.size_alloc]; omega) (fun k hk => (World.ownsRow.lt hos3.row k hk).1)))
            refine ⟨⟨k + 1, fs ++ [f1], f2, us ++ [.slice a3 f1.length c3], by omega, by go_num, by simp [hfl], ?_, by omega, HG, hos4, hb4⟩, by simp [intOf]; omega⟩
            exact hu2
        · obtain rfl : k = n := by omega
          have hT : T = if l2.length ≠ 0 then ([], 12) else (fs, 0) := by
            have h1 := HT.out
            rw [← HE.out, Nat.sub_self] at h1
            simpa [M.rfA] using h1
          clear HT HE
          obtain ⟨ab, cb, rfl, b1, b2, _, _⟩ := hrb
          unfold maxLen at b2
          by_cases h0 : l2.length ≠ 0
          · rw [if_pos h0] at hT
            subst hT
            go_wp2_with fail
            go_ret2
            exact ⟨_, rfl, ⟨_, Ows.nil _ _⟩, hb⟩
          · rw [if_neg h0] at hT
            subst hT
            go_wp2_with fail
            go_ret2
            exact ⟨_, rfl, ⟨_, hos⟩, hb⟩
end Go.Proofs.Ytdaedglfefkeoaa

/- What the document's own Build answers of any pairs. -/
namespace Go.Proofs.Ytdaedglfefkeoaa
open Go.RowKit
set_option linter.unusedVariables false
set_option maxRecDepth 100000

theorem rcmp_q {va vb : Value} {la lb : List UInt8} {w : World} (ha : Rd w va la) (hb : Rd w vb lb) (q : Nat) : Calls Try.prog 34 #[va, vb] (w.drewN q) fun e w' => e = .returned (.int .i64 (M.cmpL la lb)) ∧ ∃ n, w' = w.drewN n := by
  refine (rcmp_any (ha.drewN q) (hb.drewN q)).mono ?_
  rintro _ w' ⟨rfl, n, rfl⟩
  exact ⟨rfl, q + n, World.drewN_drewN _ _ _⟩

theorem mark_set {wr W : World} (h1 : Below wr.heap.size wr W) (h2 : W.heap.size = wr.heap.size + 1) (y0 : W.cell? ⟨wr.heap.size, 0, none⟩ = some (.int .u8 0)) : Below wr.heap.size wr (W.setCell ⟨wr.heap.size, 0, none⟩ (.int .u8 1)) ∧ (W.setCell ⟨wr.heap.size, 0, none⟩ (.int .u8 1)).heap.size = wr.heap.size + 1 ∧ Rd (W.setCell ⟨wr.heap.size, 0, none⟩ (.int .u8 1)) (.slice (some ⟨wr.heap.size, 0, none⟩) 1 1) [1] := by
  refine ⟨h1.trans (((Chg.refl (fun b => b = wr.heap.size) W).put wr.heap.size 0 _ rfl).below (fun b q => by omega) (by omega)), by simp [h2], Rd.mk rfl (by simp) (by simp [maxLen]) (fun i hi => ?_)⟩
  obtain rfl : i = 0 := by simpa using hi
  rw [show (⟨wr.heap.size, 0, none⟩ : Addr).add 0 = ⟨wr.heap.size, 0, none⟩ from rfl, World.cell?_setCell_same _ _ _ y0]
  rfl

set_option maxHeartbeats 4000000 in
theorem rbuild_any {v : Value} {ps : List P3} {w : World} (hr : RdQ w v ps) (hl : totP ps ≤ 4194304) :
    Calls Try.prog 12 #[v] w fun e w' => ∃ v', e = .returned (.tuple #[v', .int .i64 (M.bld ps).2]) ∧ Ow w.heap.size w' v' (M.bld ps).1 ∧ Below w.heap.size w w' := by
  have hpl := totP_len ps
  have hrt := row_tot ps
  obtain ⟨ao, c, rfl, h1, h2, h4⟩ := hr
  unfold maxLen at h2
  have hml : (ps.map M.prow).length = ps.length := by simp
  generalize hT : M.bld ps = T
  have HT : Hid _ := hT
  clear hT
  have h24 := Try.infoL
  go_enter Try.func12, Try.ntmps12
  go_wp2_with fail
  go_loopw [4, 5, 6] (fun rows i _ wr => ∃ (k : Nat) (us : List Value), k ≤ ps.length ∧ i = .int .i64 k ∧ Ows w.heap.size wr rows ((ps.map M.prow).take k) us ∧ Below w.heap.size w wr ∧ Hid (∀ j p q, j + 1 < k → ps[j]? = some p → ps[j + 1]? = some q → M.cmpL p.1 q.1 < 0)) (fun _ i _ _ => ps.length - (intOf i).toNat)
  case atStart => exact ⟨0, [], Nat.zero_le _, rfl, Ows.nil _ _, Below.refl _ _, (fun j p q hj => by omega)⟩
  case round =>
    obtain ⟨k, us, hk, rfl, ho, hb, HD⟩ := hrel
    have hB := hb.size
    by_cases hlt : k < ps.length
    · obtain ⟨p, hp⟩ : ∃ p, ps[k]? = some p := ⟨_, List.getElem?_eq_getElem hlt⟩
      have hm := totP_mem ps p (List.mem_of_getElem? hp)
      obtain ⟨a, u1, u2, rfl, hpa⟩ := h4 k p hp
      have hpr := hpa.below hb (Nat.le_refl _)
      have c0 := hpr.c0
      have c1 := hpr.c1
      have c2 := hpr.c2
      have hrow : ∀ (z : Value) (W : World), Rds W z [p.1, p.2.1, [if p.2.2 then 1 else 0]] → Below wr.heap.size wr W → Calls Try.prog 35 #[z] W fun e w' => ∃ v', e = .returned v' ∧ Ow wr.heap.size w' v' (M.prow p) ∧ Below wr.heap.size wr w' := fun z W hz hW => by
        refine (rrow_any hz (by have := prow_len p; unfold M.prow at this; omega) (by simp)).mono ?_
        rintro e w' ⟨v', rfl, ho, hb⟩
        exact ⟨v', rfl, ho.mono hW.size, hW.trans (hb.mono hW.size)⟩
      have hq : (ps.map M.prow)[k]? = some (M.prow p) := by rw [List.getElem?_map, hp]; rfl
      have HQ : Hid _ := take_snocP _ k _ hq
      have hul := ho.len
      rw [List.length_take, Nat.min_eq_left (by omega)] at hul
      obtain ⟨xo, yo, hoe⟩ : ∃ xo yo, _ = Value.slice xo k yo := by
        obtain ⟨xo, yo, e, _⟩ := ho.rds
        rw [List.length_take, Nat.min_eq_left (by omega)] at e
        exact ⟨xo, yo, e⟩
      subst hoe
      have hi0 : (0 : Int) ≤ (k : Int) := by omega
      have hi1 : (k : Int) < (ps.length : Int) := by omega
      have kc : ∀ W, Below w.heap.size w W → W.cell? (a.add (k * 3)) = some u1 ∧ W.cell? ⟨(a.add (k * 3)).block, (a.add (k * 3)).off + 1, none⟩ = some u2 ∧ W.cell? ⟨(a.add (k * 3)).block, (a.add (k * 3)).off + 2, none⟩ = some (.bool p.2.2) := fun W hW => by
        have q : ∀ x u, w.cell? x = some u → W.cell? x = some u := fun x u e => by rw [hW.cell (World.block_lt_of_cell? _ _ e)]; exact e
        exact ⟨q _ _ hpa.c0, q _ _ hpa.c1, q _ _ hpa.c2⟩
      have rp : ∀ W, Below w.heap.size w W → Rd W u1 p.1 ∧ Rd W u2 p.2.1 := fun W hW => ⟨hpa.r1.below hW (Nat.le_refl _), hpa.r2.below hW (Nat.le_refl _)⟩
      have hcase : (k < 1 ∧ decide (0 < k) = false) ∨ ∃ m r v1 v2, m + 1 = k ∧ ps[m]? = some r ∧ PairAt wr (a.add (m * 3)) r v1 v2 := by
        cases k with
        | zero => exact .inl ⟨by omega, rfl⟩
        | succ m =>
          obtain ⟨r, hr⟩ : ∃ r, ps[m]? = some r := ⟨_, List.getElem?_eq_getElem (by omega)⟩
          obtain ⟨a', v1, v2, ea, hra⟩ := h4 m r hr
          obtain rfl := Option.some.inj ea
          exact .inr ⟨m, r, v1, v2, rfl, hr, hra.below hb (Nat.le_refl _)⟩
      have r1 := hpr.r1
      obtain ⟨pk, pv, pg⟩ := p
      simp only [] at *
      have fin : ∀ (w2 w3 w5 : World) (x v5 : Value) (o : Obj), Below wr.heap.size wr w2 → Ow wr.heap.size w2 x (M.prow (pk, pv, pg)) → w5.ownsRow w.heap.size 25 1 v5 (us.length + 1) (us ++ [x]) → (w2.alloc o).grownBy w5 (Value.slice xo k yo).ownBlock → (v5.ownBlock = (Value.slice xo k yo).ownBlock ∨ v5.ownBlock = some (w2.alloc o).heap.size) → Ows w.heap.size w5 v5 ((ps.map M.prow).take (k + 1)) (us ++ [x]) ∧ Below w.heap.size w w5 := fun w2 w3 w5 x v5 o g1 g2 g3 g4 g5 => by
        refine ⟨by rw [HQ.out]; exact ho.snoc g1 (Nat.le_refl _) g2 hB g3 g4 g5, ?_⟩
        exact hb.trans ((g1.mono hB).trans (((Below.refl w.heap.size w2).alloc (Nat.le_trans hB g1.size) _).trans ((Below.refl w.heap.size _).grown g4 (by have := g1.size; simp; omega) (fun k hk => (World.ownsRow.lt ho.row k hk).1))))
      have hor := ho.row
      obtain ⟨x1, y1, rfl, _⟩ := hpr.r1
      obtain ⟨x2, y2, rfl, _⟩ := hpr.r2
      rcases hcase with ⟨hk0, hkd⟩ | ⟨m, r, v1, v2, hmk, hr, hra⟩
      · have H0 : Hid (∀ j p q, j + 1 < k + 1 → ps[j]? = some p → ps[j + 1]? = some q → M.cmpL p.1 q.1 < 0) := fun j p q hj _ _ => by omega
        clear h4 hpa hp hpr ho HD
        go_wp2_with fail
        go_quiet (fail)
        have hB1 : Below wr.heap.size wr ((wr.drewN nq).alloc (.cells #[.int .u8 0] 5)) := Below.tr (Below.dN wr nq) (bel_al _ _)
        obtain ⟨z0, z1, z2⟩ := kc _ (hb.trans (hB1.mono hB))
        have y0 : ((wr.drewN nq).alloc (.cells #[.int .u8 0] 5)).cell? ⟨wr.heap.size, 0, none⟩ = some (.int .u8 0) := cell_new1 (wr.drewN nq) _ _
        have yz : ((wr.drewN nq).alloc (.cells #[.int .u8 0] 5)).frozen? ⟨wr.heap.size, 0, none⟩ = false := World.frozen?_alloc_at _ _ _ _ rfl
        have hsz1 : ((wr.drewN nq).alloc (.cells #[.int .u8 0] 5)).heap.size = wr.heap.size + 1 := by simp
        have rd0 : Rd ((wr.drewN nq).alloc (.cells #[.int .u8 0] 5)) (.slice (some ⟨wr.heap.size, 0, none⟩) 1 1) [0] := rd_oneH (wr.drewN nq) _ rfl _ _ rfl _
        have HW1 : Hid _ := And.intro hB1 (And.intro hsz1 rd0)
        cases pg
        · clear hB1 hsz1 rd0
          go_wp2_with fail
          have HW0 := HW1
          clear HW1 y0 yz z0 z1 z2
          generalize ((wr.drewN nq).alloc (.cells #[.int .u8 0] 5)) = W0 at *
          have hsz0 : W0.heap.size = wr.heap.size + 1 := HW0.out.2.1
          have hB0 : Below wr.heap.size wr W0 := HW0.out.1
          have rq3 := HW0.out.2.2
          obtain ⟨z0, z1, z2⟩ := kc W0 (hb.trans (hB0.mono hB))
          obtain ⟨rq1, rq2⟩ := rp W0 (hb.trans (hB0.mono hB))
          have n0 := World.new_ne W0 _ z0
          have n1 := World.new_ne W0 _ z1
          go_region_held3 (fun w' => w'.cell? (a.add (k * 3)) = some (.slice x1 pk.length y1) ∧ w'.cell? ⟨(a.add (k * 3)).block, (a.add (k * 3)).off + 1, none⟩ = some (.slice x2 pv.length y2)) (go_keep) (first
            | (refine step_app1 rfl _ _ 64 rfl w.heap.size 25 (.slice none 0 0) 24 Try.underlying64 h24 rfl (.slice xo (k) yo) us.length us rfl (World.ownsRow.alloc (ownsRow_bel hor hb3 (Nat.le_refl _)) _) _ _ (.slice a3 n3 d3) rfl (cell_new1 w3 _ _) rfl (by unfold maxLen; omega) (by omega) (by rw [World.size_alloc]; omega) ?_; intro v5 w5 ho5 hg5 hv5; obtain ⟨hfa, hfb⟩ := fin w3 w3 w5 _ v5 _ hb3 ho3 ho5 hg5 hv5; obtain ⟨t0, t1, _⟩ := kc w5 hfb; obtain ⟨a5, m5, c5, rfl⟩ := row_shape ho5)
            | (go_at_call 35; refine (hrow _ _ (Rds.below (rds_three W0 _ (by omega) _ rq1 rq2 rq3) (bel_drew _) (Nat.le_refl _)) (Below.tr (Below.tr hB0 (bel_al W0 _)) (bel_drew _))).mono ?_; rintro e w3 ⟨v3, rfl, ho3, hb3⟩; obtain ⟨s0, s1, _⟩ := kc w3 (hb.trans (hb3.mono hB)); have hs3 := hb3.size; obtain ⟨a3, n3, d3, rfl⟩ := row_shape ho3)
            | fail)
          go_wp2_with fail
          exact ⟨⟨k + 1, us ++ [.slice a3 n3 d3], by omega, by go_num, hfa, hfb, H0⟩, by simp [intOf]; omega⟩
        · clear hB1 hsz1 rd0
          go_wp2_with fail
          have HW0 : Hid (Below wr.heap.size wr (((wr.drewN nq).alloc (.cells #[.int .u8 0] 5)).setCell ⟨wr.heap.size, 0, none⟩ (.int .u8 1)) ∧ (((wr.drewN nq).alloc (.cells #[.int .u8 0] 5)).setCell ⟨wr.heap.size, 0, none⟩ (.int .u8 1)).heap.size = wr.heap.size + 1 ∧ Rd (((wr.drewN nq).alloc (.cells #[.int .u8 0] 5)).setCell ⟨wr.heap.size, 0, none⟩ (.int .u8 1)) (.slice (some ⟨wr.heap.size, 0, none⟩) 1 1) [1]) := mark_set HW1.out.1 HW1.out.2.1 y0
          clear HW1 y0 yz z0 z1 z2
          generalize (((wr.drewN nq).alloc (.cells #[.int .u8 0] 5)).setCell ⟨wr.heap.size, 0, none⟩ (.int .u8 1)) = W0 at *
          have hsz0 : W0.heap.size = wr.heap.size + 1 := HW0.out.2.1
          have hB0 : Below wr.heap.size wr W0 := HW0.out.1
          have rq3 := HW0.out.2.2
          obtain ⟨z0, z1, z2⟩ := kc W0 (hb.trans (hB0.mono hB))
          obtain ⟨rq1, rq2⟩ := rp W0 (hb.trans (hB0.mono hB))
          have n0 := World.new_ne W0 _ z0
          have n1 := World.new_ne W0 _ z1
          go_region_held3 (fun w' => w'.cell? (a.add (k * 3)) = some (.slice x1 pk.length y1) ∧ w'.cell? ⟨(a.add (k * 3)).block, (a.add (k * 3)).off + 1, none⟩ = some (.slice x2 pv.length y2)) (go_keep) (first
            | (refine step_app1 rfl _ _ 64 rfl w.heap.size 25 (.slice none 0 0) 24 Try.underlying64 h24 rfl (.slice xo (k) yo) us.length us rfl (World.ownsRow.alloc (ownsRow_bel hor hb3 (Nat.le_refl _)) _) _ _ (.slice a3 n3 d3) rfl (cell_new1 w3 _ _) rfl (by unfold maxLen; omega) (by omega) (by rw [World.size_alloc]; omega) ?_; intro v5 w5 ho5 hg5 hv5; obtain ⟨hfa, hfb⟩ := fin w3 w3 w5 _ v5 _ hb3 ho3 ho5 hg5 hv5; obtain ⟨t0, t1, _⟩ := kc w5 hfb; obtain ⟨a5, m5, c5, rfl⟩ := row_shape ho5)
            | (go_at_call 35; refine (hrow _ _ (Rds.below (rds_three W0 _ (by omega) _ rq1 rq2 rq3) (bel_drew _) (Nat.le_refl _)) (Below.tr (Below.tr hB0 (bel_al W0 _)) (bel_drew _))).mono ?_; rintro e w3 ⟨v3, rfl, ho3, hb3⟩; obtain ⟨s0, s1, _⟩ := kc w3 (hb.trans (hb3.mono hB)); have hs3 := hb3.size; obtain ⟨a3, n3, d3, rfl⟩ := row_shape ho3)
            | fail)
          go_wp2_with fail
          exact ⟨⟨k + 1, us ++ [.slice a3 n3 d3], by omega, by go_num, hfa, hfb, H0⟩, by simp [intOf]; omega⟩
      · have hlt0 : M.cmpL r.1 pk < 0 ∨ 0 ≤ M.cmpL r.1 pk := by omega
        have hcq := fun x => rcmp_q hra.r1 r1 x
        have d0 := hra.c0
        obtain ⟨x3, y3, rfl, _⟩ := hra.r1
        have hmi : (m : Int) < (ps.length : Int) := by omega
        have hsub : ((k : Int) - 1) = (m : Int) := by omega
        have hwr : IntKind.i64.wrap (m : Int) = (m : Int) := wrap64 m (by omega)
        have hkd : decide (0 < k) = true := decide_eq_true (by omega)
        have HR0 : Hid (ps[m]? = some r ∧ ps[m + 1]? = some (pk, pv, pg)) := ⟨hr, by rw [hmk]; exact hp⟩
        have HDD := HD
        clear h4 hpa hp hpr ho HD hra hr
        rcases hlt0 with hneg | hpos
        · have H0 : Hid (∀ j p q, j + 1 < k + 1 → ps[j]? = some p → ps[j + 1]? = some q → M.cmpL p.1 q.1 < 0) := fun j p q hj hp hq => by
            rcases Nat.lt_or_ge (j + 1) k with h | h
            · exact HDD.out j p q h hp hq
            · obtain rfl : j = m := by omega
              rw [HR0.out.1] at hp
              rw [HR0.out.2] at hq
              obtain rfl := Option.some.inj hp
              obtain rfl := Option.some.inj hq
              exact hneg
          clear HDD HR0
          generalize M.cmpL r.1 pk = z at *
          go_wp2_with fail
          go_quiet (first | (go_at_call 34; exact hcq _) | fail)
          have hB1 : Below wr.heap.size wr ((wr.drewN nq).alloc (.cells #[.int .u8 0] 5)) := Below.tr (Below.dN wr nq) (bel_al _ _)
          obtain ⟨z0, z1, z2⟩ := kc _ (hb.trans (hB1.mono hB))
          have y0 : ((wr.drewN nq).alloc (.cells #[.int .u8 0] 5)).cell? ⟨wr.heap.size, 0, none⟩ = some (.int .u8 0) := cell_new1 (wr.drewN nq) _ _
          have yz : ((wr.drewN nq).alloc (.cells #[.int .u8 0] 5)).frozen? ⟨wr.heap.size, 0, none⟩ = false := World.frozen?_alloc_at _ _ _ _ rfl
          have hsz1 : ((wr.drewN nq).alloc (.cells #[.int .u8 0] 5)).heap.size = wr.heap.size + 1 := by simp
          have rd0 : Rd ((wr.drewN nq).alloc (.cells #[.int .u8 0] 5)) (.slice (some ⟨wr.heap.size, 0, none⟩) 1 1) [0] := rd_oneH (wr.drewN nq) _ rfl _ _ rfl _
          have HW1 : Hid _ := And.intro hB1 (And.intro hsz1 rd0)
          cases pg
          · clear hB1 hsz1 rd0
            go_wp2_with fail
            have HW0 := HW1
            clear HW1 y0 yz z0 z1 z2
            generalize ((wr.drewN nq).alloc (.cells #[.int .u8 0] 5)) = W0 at *
            have hsz0 : W0.heap.size = wr.heap.size + 1 := HW0.out.2.1
            have hB0 : Below wr.heap.size wr W0 := HW0.out.1
            have rq3 := HW0.out.2.2
            obtain ⟨z0, z1, z2⟩ := kc W0 (hb.trans (hB0.mono hB))
            obtain ⟨rq1, rq2⟩ := rp W0 (hb.trans (hB0.mono hB))
            have n0 := World.new_ne W0 _ z0
            have n1 := World.new_ne W0 _ z1
            go_region_held3 (fun w' => w'.cell? (a.add (k * 3)) = some (.slice x1 pk.length y1) ∧ w'.cell? ⟨(a.add (k * 3)).block, (a.add (k * 3)).off + 1, none⟩ = some (.slice x2 pv.length y2)) (go_keep) (first
              | (refine step_app1 rfl _ _ 64 rfl w.heap.size 25 (.slice none 0 0) 24 Try.underlying64 h24 rfl (.slice xo (k) yo) us.length us rfl (World.ownsRow.alloc (ownsRow_bel hor hb3 (Nat.le_refl _)) _) _ _ (.slice a3 n3 d3) rfl (cell_new1 w3 _ _) rfl (by unfold maxLen; omega) (by omega) (by rw [World.size_alloc]; omega) ?_; intro v5 w5 ho5 hg5 hv5; obtain ⟨hfa, hfb⟩ := fin w3 w3 w5 _ v5 _ hb3 ho3 ho5 hg5 hv5; obtain ⟨t0, t1, _⟩ := kc w5 hfb; obtain ⟨a5, m5, c5, rfl⟩ := row_shape ho5)
              | (go_at_call 35; refine (hrow _ _ (Rds.below (rds_three W0 _ (by omega) _ rq1 rq2 rq3) (bel_drew _) (Nat.le_refl _)) (Below.tr (Below.tr hB0 (bel_al W0 _)) (bel_drew _))).mono ?_; rintro e w3 ⟨v3, rfl, ho3, hb3⟩; obtain ⟨s0, s1, _⟩ := kc w3 (hb.trans (hb3.mono hB)); have hs3 := hb3.size; obtain ⟨a3, n3, d3, rfl⟩ := row_shape ho3)
              | fail)
            go_wp2_with fail
            exact ⟨⟨k + 1, us ++ [.slice a3 n3 d3], by omega, by go_num, hfa, hfb, H0⟩, by simp [intOf]; omega⟩
          · clear hB1 hsz1 rd0
            go_wp2_with fail
            have HW0 : Hid (Below wr.heap.size wr (((wr.drewN nq).alloc (.cells #[.int .u8 0] 5)).setCell ⟨wr.heap.size, 0, none⟩ (.int .u8 1)) ∧ (((wr.drewN nq).alloc (.cells #[.int .u8 0] 5)).setCell ⟨wr.heap.size, 0, none⟩ (.int .u8 1)).heap.size = wr.heap.size + 1 ∧ Rd (((wr.drewN nq).alloc (.cells #[.int .u8 0] 5)).setCell ⟨wr.heap.size, 0, none⟩ (.int .u8 1)) (.slice (some ⟨wr.heap.size, 0, none⟩) 1 1) [1]) := mark_set HW1.out.1 HW1.out.2.1 y0
            clear HW1 y0 yz z0 z1 z2
            generalize (((wr.drewN nq).alloc (.cells #[.int .u8 0] 5)).setCell ⟨wr.heap.size, 0, none⟩ (.int .u8 1)) = W0 at *
            have hsz0 : W0.heap.size = wr.heap.size + 1 := HW0.out.2.1
            have hB0 : Below wr.heap.size wr W0 := HW0.out.1
            have rq3 := HW0.out.2.2
            obtain ⟨z0, z1, z2⟩ := kc W0 (hb.trans (hB0.mono hB))
            obtain ⟨rq1, rq2⟩ := rp W0 (hb.trans (hB0.mono hB))
            have n0 := World.new_ne W0 _ z0
            have n1 := World.new_ne W0 _ z1
            go_region_held3 (fun w' => w'.cell? (a.add (k * 3)) = some (.slice x1 pk.length y1) ∧ w'.cell? ⟨(a.add (k * 3)).block, (a.add (k * 3)).off + 1, none⟩ = some (.slice x2 pv.length y2)) (go_keep) (first
              | (refine step_app1 rfl _ _ 64 rfl w.heap.size 25 (.slice none 0 0) 24 Try.underlying64 h24 rfl (.slice xo (k) yo) us.length us rfl (World.ownsRow.alloc (ownsRow_bel hor hb3 (Nat.le_refl _)) _) _ _ (.slice a3 n3 d3) rfl (cell_new1 w3 _ _) rfl (by unfold maxLen; omega) (by omega) (by rw [World.size_alloc]; omega) ?_; intro v5 w5 ho5 hg5 hv5; obtain ⟨hfa, hfb⟩ := fin w3 w3 w5 _ v5 _ hb3 ho3 ho5 hg5 hv5; obtain ⟨t0, t1, _⟩ := kc w5 hfb; obtain ⟨a5, m5, c5, rfl⟩ := row_shape ho5)
              | (go_at_call 35; refine (hrow _ _ (Rds.below (rds_three W0 _ (by omega) _ rq1 rq2 rq3) (bel_drew _) (Nat.le_refl _)) (Below.tr (Below.tr hB0 (bel_al W0 _)) (bel_drew _))).mono ?_; rintro e w3 ⟨v3, rfl, ho3, hb3⟩; obtain ⟨s0, s1, _⟩ := kc w3 (hb.trans (hb3.mono hB)); have hs3 := hb3.size; obtain ⟨a3, n3, d3, rfl⟩ := row_shape ho3)
              | fail)
            go_wp2_with fail
            exact ⟨⟨k + 1, us ++ [.slice a3 n3 d3], by omega, by go_num, hfa, hfb, H0⟩, by simp [intOf]; omega⟩
        · have hTT : T = ([], 51) := by
            rw [← HT.out]; unfold M.bld; rw [M.ris_false HR0.out.1 HR0.out.2 hpos]; rfl
          subst hTT
          clear HDD HR0
          generalize M.cmpL r.1 pk = z at *
          go_wp2_with fail
          go_quiet (first | (go_at_call 34; exact hcq _) | fail)
          go_wp2_with fail
          go_ret2
          exact ⟨_, rfl, Ow.nil _ _, hb.trans ((Below.dN wr _).mono hB)⟩
    · obtain rfl : k = ps.length := by omega
      have hris : M.ris ps = true := (M.ris_iff ps).2 (fun j p q hp hq => HD.out j p q (by have := (List.getElem?_eq_some_iff.1 hq).1; omega) hp hq)
      have hTT : T = (M.frame (M.row (ps.map M.prow)), 0) := by rw [← HT.out]; unfold M.bld; rw [if_pos hris]; rfl
      subst hTT
      rw [← hml, List.take_of_length_le (Nat.le_refl _)] at ho
      have hrds := ho.rds
      obtain ⟨xo, yo, e, _⟩ := ho.rds
      rw [hml] at e
      subst e
      clear h4 ho
      go_wp2_with fail
      refine (rrow_any hrds (by omega) (by omega)).mono ?_
      rintro e w2 ⟨v2, rfl, ho2, hb2⟩
      go_wp2_with fail
      refine (rframe_any ho2.rd (by omega)).mono ?_
      rintro e w3 ⟨v3, rfl, ho3, hb3⟩
      go_wp2_with fail
      go_ret2
      have hs2 := hb2.size
      exact ⟨_, rfl, ho3.mono (by omega), hb.trans ((Below.tr hb2 hb3).mono hB)⟩
end Go.Proofs.Ytdaedglfefkeoaa

/- What the document's own TakeRow answers of any bytes. -/
namespace Go.Proofs.Ytdaedglfefkeoaa
open Go.RowKit
set_option linter.unusedVariables false
set_option maxRecDepth 100000

theorem piece_own {a1 : Option Addr} {p : Prop} [Decidable p] {m n c n' c' b : Nat} (h : (Value.slice (if p then a1 else a1.map (fun a => a.add m)) n c).ownBlock = some b) : (Value.slice a1 n' c').ownBlock = some b := by
  cases a1 with
  | none => split at h <;> cases h
  | some a =>
    split at h
    · exact h
    · simpa [Value.ownBlock, add_block] using h

set_option maxHeartbeats 2000000 in
theorem rtakerow_any {v : Value} {l : List UInt8} {w : World} (hr : Rd w v l) (hl : l.length ≤ 1099511627776) :
    Calls Try.prog 40 #[v] w fun e w' => ∃ v' us, e = .returned (.tuple #[v', .int .i64 (M.tr l).2]) ∧ Ows w.heap.size w' v' (M.tr l).1 us ∧ Below w.heap.size w w' := by
  have hrv := rtakeV_any hr (by omega)
  have htl := tv_lt l
  have hll := tv_len l
  by_cases her : (M.tv l).2.2 ≠ 0
  · have e : M.tr l = ([], (M.tv l).2.2) := by unfold M.tr; rw [if_pos her]
    rw [e]
    generalize M.tv l = r at *
    obtain ⟨n, rest, er⟩ := r
    simp only [] at *
    have hne : (((er : Nat) : Int) != 0) = true := by simp; omega
    clear e
    go_enter Try.func40, Try.ntmps40
    go_wp2_with fail
    refine hrv.mono ?_
    rintro e w1 ⟨v2, rfl, hr2, hb1⟩
    go_wp2_with fail
    go_ret2
    exact ⟨_, _, rfl, Ows.nil _ _, hb1⟩
  · have her' : (M.tv l).2.2 = 0 := by simpa using her
    by_cases hsh : (M.tv l).2.1.length < (M.tv l).1
    · have e : M.tr l = ([], 12) := by unfold M.tr; rw [if_neg her, if_pos hsh]
      rw [e]
      clear e her
      generalize M.tv l = r at *
      obtain ⟨n, rest, er⟩ := r
      simp only [] at *
      subst her'
      go_enter Try.func40, Try.ntmps40
      go_wp2_with fail
      refine hrv.mono ?_
      rintro e w1 ⟨v2, rfl, hr2, hb1⟩
      obtain ⟨ao, c, rfl, g1, g2, g3, g4⟩ := hr2.rd
      clear g3 g4
      unfold maxLen at g2
      go_wp2_with fail
      go_ret2
      exact ⟨_, _, rfl, Ows.nil _ _, hb1⟩
    · have e := M.tr_rfA l her' (by omega)
      generalize M.tr l = T at *
      have HT : Hid _ := e
      clear e her
      generalize M.tv l = r at *
      obtain ⟨n, rest, er⟩ := r
      simp only [] at *
      subst her'
      go_enter Try.func40, Try.ntmps40
      go_wp2_with fail
      refine hrv.mono ?_
      rintro e w1 ⟨v2, rfl, hr2, hb1⟩
      have hr2' := hr2.rd
      obtain ⟨ao, c, rfl, g1, g2, g3, g4⟩ := hr2.rd
      clear g3 g4
      unfold maxLen at g2
      go_wp2_with fail
      go_loopw [5, 7, 8, 9, 10, 11] (fun b fields i _ _ _ wr => ∃ (k : Nat) (fs : List (List UInt8)) (l2 : List UInt8) (us : List Value), k ≤ n ∧ i = .int .i64 k ∧ fs.length = k ∧ Rd wr b l2 ∧ l2.length ≤ rest.length ∧ Hid (M.rfA (n - k) fs l2 = M.rfA n [] rest) ∧ Ows w.heap.size wr fields fs us ∧ Below w.heap.size w wr) (fun _ _ i _ _ _ _ => n - (intOf i).toNat)
      case atStart => exact ⟨0, [], rest, [], Nat.zero_le _, rfl, rfl, hr2', Nat.le_refl _, rfl, Ows.nil _ _, hb1⟩
      case round =>
        obtain ⟨k, fs, l2, us, hk, rfl, hfl, hrb, hl2, HE, hos, hb⟩ := hrel
        clear hr2' hr2 hb1 hrv
        have hB := hb.size
        by_cases hlt : k < n
        · have htv := tv_len l2
          have htl2 := tv_lt l2
          have HF : Hid (if (M.tv l2).2.2 ≠ 0 then T = ([], (M.tv l2).2.2) else if (M.tv l2).2.1.length < (M.tv l2).1 then T = ([], 10) else M.rfA (n - (k + 1)) (fs ++ [(M.tv l2).2.1.take (M.tv l2).1]) ((M.tv l2).2.1.drop (M.tv l2).1) = M.rfA n [] rest) := by
            have h1 := HE.out
            obtain ⟨q, hq⟩ : ∃ q, n - k = q + 1 := ⟨n - k - 1, by omega⟩
            have h3 := HT.out
            rw [hq, M.rfA] at h1
            show ite _ _ _
            by_cases h2 : (M.tv l2).2.2 ≠ 0
            · have ef : M.fd l2 = ([], [], (M.tv l2).2.2) := by unfold M.fd; rw [if_pos h2]
              rw [ef, if_pos h2] at h1
              rw [← h1] at h3
              rw [if_pos h2, h3, if_pos h2]
            · rw [if_neg h2]
              by_cases h4 : (M.tv l2).2.1.length < (M.tv l2).1
              · have ef : M.fd l2 = ([], [], 10) := by unfold M.fd M.part; rw [if_neg h2, if_pos h4]
                rw [ef, if_pos (by decide)] at h1
                rw [← h1] at h3
                rw [if_pos h4, h3]
                rfl
              · have ef : M.fd l2 = ((M.tv l2).2.1.take (M.tv l2).1, (M.tv l2).2.1.drop (M.tv l2).1, 0) := by unfold M.fd M.part; rw [if_neg h2, if_neg h4]
                rw [ef, if_neg (by simp)] at h1
                rw [if_neg h4, show n - (k + 1) = q by omega]
                exact h1
          have hfield := rtakeV_any hrb (by omega)
          have hlf : fs.length ≤ 1099511627776 := by omega
          obtain ⟨ab, cb, rfl, b1, b2, _, _⟩ := hrb
          unfold maxLen at b2
          generalize M.tv l2 = F at *
          obtain ⟨m, nx, fe⟩ := F
          simp only [] at *
          clear HE
          by_cases hfe : fe ≠ 0
          · have hT : T = ([], fe) := by
              have := HF.out; rw [if_pos hfe] at this; exact this
            subst hT
            have hne : (((fe : Nat) : Int) != 0) = true := by simp; omega
            clear HF HT
            go_wp2_with fail
            refine hfield.mono ?_
            rintro e w2 ⟨u1, rfl, hu1, hb2⟩
            go_wp2_with fail
            go_ret2
            exact ⟨_, rfl, ⟨_, Ows.nil _ _⟩, hb.trans (hb2.mono hB)⟩
          · obtain rfl : fe = 0 := by omega
            by_cases hm : nx.length < m
            · have hT : T = ([], 10) := by
                have := HF.out; rw [if_neg hfe, if_pos hm] at this; exact this
              subst hT
              clear HF HT hfe
              go_wp2_with fail
              refine hfield.mono ?_
              rintro e w2 ⟨u1, rfl, hu1, hb2⟩
              obtain ⟨a1, c1, rfl, d1, d2, _, _⟩ := hu1.rd
              unfold maxLen at d2
              go_wp2_with fail
              go_ret2
              exact ⟨_, rfl, ⟨_, Ows.nil _ _⟩, hb.trans (hb2.mono hB)⟩
            · have HG : Hid (M.rfA (n - (k + 1)) (fs ++ [nx.take m]) (nx.drop m) = M.rfA n [] rest) := by
                have := HF.out; rw [if_neg hfe, if_neg hm] at this; exact this
              clear HF hfe
              go_wp2_with fail
              refine hfield.mono ?_
              rintro e w2 ⟨u1, rfl, hu1, hb2⟩
              have hur := hu1.rd
              have hub : ∀ b, u1.ownBlock = some b → wr.heap.size ≤ b ∧ b < w2.heap.size := fun b e => World.ownsRow.lt hu1 b e
              obtain ⟨a1, c1, rfl, d1, d2, _, _⟩ := hu1.rd
              unfold maxLen at d2
              have hos2 := hos.below hb2 (Nat.le_refl _)
              have hB2 : w.heap.size ≤ w2.heap.size := Nat.le_trans hB hb2.size
              have hvl := fun b e => (World.ownsRow.lt hos.row b e).2
              have hpre := hur.pre m (by omega)
              have htk : (nx.take m).length ≤ 140737488355328 := by rw [List.length_take]; omega
              have HD : Hid _ := hur.post m (by omega) (if c1 = m then a1 else a1.map (fun a => a.add m)) ⟨fun h => by rw [if_pos h], fun h => by rw [if_neg h]⟩
              have HBK : Hid (∀ b, (Value.slice (if c1 = m then a1 else a1.map (fun a => a.add m)) (nx.length - m) (c1 - m)).ownBlock = some b → wr.heap.size ≤ b ∧ b < w2.heap.size) := by
                exact fun b e => hub b (piece_own e)
              generalize nx.take m = TK at *
              clear hub
              go_wp2_with fail
              refine (copy_any hpre htk).mono ?_
              rintro e w3 ⟨u3, rfl, ho3, hb3⟩
              have hos3 := hos2.below hb3 (Nat.le_refl _)
              have hB3 : w.heap.size ≤ w3.heap.size := Nat.le_trans hB2 hb3.size
              have hul := hos.len
              have h24 := Try.info25
              obtain ⟨a3, c3, e3⟩ := ho3.shape
              subst e3
              by_cases hc1 : c1 = m
              all_goals
                go_wp2_with (first | (at_builtin; (refine wpList_app1 rfl _ _ 64 rfl w.heap.size 25 (.slice none 0 0) 24 Try.underlying64 h24 rfl _ us.length us rfl (World.ownsRow.alloc hos3.row _) _ _ _ rfl (cell_new1 _ _ _) rfl ?hmx ?hmy ?hmz ?_; rotate_right; intro v4 w4 ho4 hg4 hw4)) | fail)
                case hmx => unfold maxLen; omega
                case hmy => omega
                case hmz => rw [World.size_alloc]; omega
                have hos4 : Ows w.heap.size w4 v4 (fs ++ [TK]) (us ++ [.slice a3 TK.length c3]) := hos2.snoc hb3 (Nat.le_refl _) ho3 hB2 ho4 hg4 hw4
                have hb4 : Below w.heap.size w w4 := ((hb.trans (hb2.mono hB)).trans (hb3.mono hB2)).trans (((Below.refl w.heap.size w3).alloc hB3 _).trans ((Below.refl w.heap.size _).grown hg4 (by rw [World.size_alloc]; omega) (fun k hk => (World.ownsRow.lt hos3.row k hk).1)))
                have hd4 := ((Rd.below HD.out hb3 (Nat.le_refl _)).alloc (.cells #[.slice a3 TK.length c3] 25)).grown hg4 (fun b e q => by have := HBK.out b e; have := hvl b q; omega)
                refine ⟨⟨k + 1, fs ++ [TK], nx.drop m, us ++ [.slice a3 TK.length c3], by omega, by go_num, by simp [hfl], ?_, by rw [List.length_drop]; omega, HG, hos4, hb4⟩, by simp [intOf]; omega⟩
                first | (rw [if_pos hc1] at hd4; exact Rd.cong hd4 rfl rfl (by omega)) | (rw [if_neg hc1] at hd4; exact hd4)
        · obtain rfl : k = n := by omega
          have hT : T = if l2.length ≠ 0 then ([], 12) else (fs, 0) := by
            have h1 := HT.out
            rw [← HE.out, Nat.sub_self] at h1
            simpa [M.rfA] using h1
          clear HT HE
          obtain ⟨ab, cb, rfl, b1, b2, _, _⟩ := hrb
          unfold maxLen at b2
          by_cases h0 : l2.length ≠ 0
          · rw [if_pos h0] at hT
            subst hT
            go_wp2_with fail
            go_ret2
            exact ⟨_, rfl, ⟨_, Ows.nil _ _⟩, hb⟩
          · rw [if_neg h0] at hT
            subst hT
            go_wp2_with fail
            go_ret2
            exact ⟨_, rfl, ⟨_, hos⟩, hb⟩
end Go.Proofs.Ytdaedglfefkeoaa

/- What SamePairs answers of two lists of pairs: whether they are the same. -/
namespace Go.Proofs.Ytdaedglfefkeoaa
open Go.RowKit
set_option linter.unusedVariables false
set_option maxRecDepth 100000

theorem samep_q {va vb : Value} {l : List UInt8} {w : World} (ha : Rd w va l) (hb : Rd w vb l) (m q : Nat) : Calls Try.prog 13 #[va, vb] (w.drewN (m + q)) fun e w' => e = .returned (.bool true) ∧ ∃ n, w' = w.drewN (m + n) := by
  refine (same_any (ha.drewN (m + q)) (hb.drewN (m + q))).mono ?_
  rintro _ w' ⟨rfl, n, rfl⟩
  exact ⟨by rw [decide_eq_true rfl], q + n, by rw [World.drewN_drewN, Nat.add_assoc]⟩

theorem samep_two {a1 b1 a2 b2 : Value} {l1 l2 : List UInt8} {w : World} (h1 : Rd w a1 l1) (k1 : Rd w b1 l1) (h2 : Rd w a2 l2) (k2 : Rd w b2 l2) (m : Nat) : ∀ (x y : Value) (q : Nat), (x = a1 ∧ y = b1) ∨ (x = a2 ∧ y = b2) → Calls Try.prog 13 #[x, y] (w.drewN (m + q)) fun e w' => e = .returned (.bool true) ∧ ∃ n, w' = w.drewN (m + n) := by
  rintro x y q (⟨rfl, rfl⟩ | ⟨rfl, rfl⟩)
  · exact samep_q h1 k1 m q
  · exact samep_q h2 k2 m q

set_option maxHeartbeats 1000000 in
theorem samep_any {va vb : Value} {ps : List P3} {w : World} (ha : RdQ w va ps) (hb : RdQ w vb ps) :
    Calls Try.prog 15 #[va, vb] w fun e w' => e = .returned (.bool true) ∧ ∃ n, w' = w.drewN n := by
  obtain ⟨aa, ca, rfl, a1, a2, a4⟩ := ha
  obtain ⟨ab, cb, rfl, b1, b2, b4⟩ := hb
  unfold maxLen at a2 b2
  go_enter Try.func15, Try.ntmps15
  go_wp2_with fail
  go_loopw [5] (fun i wr => ∃ k : Nat, k ≤ ps.length ∧ i = .int .i64 k ∧ ∃ m, wr = w.drewN m) (fun i _ => ps.length - (intOf i).toNat)
  case atStart => exact ⟨0, Nat.zero_le _, rfl, 0, rfl⟩
  case round =>
    obtain ⟨k, hk, rfl, m, rfl⟩ := hrel
    by_cases hlt : k < ps.length
    · obtain ⟨p, hp⟩ : ∃ p, ps[k]? = some p := ⟨_, List.getElem?_eq_getElem hlt⟩
      obtain ⟨a, u1, u2, rfl, hpa⟩ := a4 k p hp
      obtain ⟨b, v1, v2, rfl, hpb⟩ := b4 k p hp
      clear a4 b4 hp
      obtain ⟨kx, vx, gx⟩ := p
      have c0 := hpa.c0
      have c1 := hpa.c1
      have c2 := hpa.c2
      have d0 := hpb.c0
      have d1 := hpb.c1
      have d2 := hpb.c2
      have r1 := hpa.r1
      have r2 := hpa.r2
      have s1 := hpb.r1
      have s2 := hpb.r2
      simp only [] at c0 c1 c2 d0 d1 d2 r1 r2 s1 s2
      have hk2 : (k : Int) < (ps.length : Int) := by omega
      obtain ⟨_, _, rfl, _⟩ := hpa.r1
      obtain ⟨_, _, rfl, _⟩ := hpa.r2
      obtain ⟨_, _, rfl, _⟩ := hpb.r1
      obtain ⟨_, _, rfl, _⟩ := hpb.r2
      simp only [] at c0 c1 c2 d0 d1 d2 r1 r2 s1 s2
      clear hpa hpb
      have hs := samep_two r1 s1 r2 s2 m
      clear r1 r2 s1 s2
      go_wp2_with fail
      go_quiet (first | (go_at_call 13; refine hs _ _ _ ?_; first | exact .inl ⟨rfl, rfl⟩ | exact .inr ⟨rfl, rfl⟩) | fail)
      go_wp2_with fail
      exact ⟨⟨k + 1, by omega, by go_num, m + nq, by simp [World.drewN]⟩, by simp [intOf]; omega⟩
    · obtain rfl : k = ps.length := by omega
      clear a4 b4
      go_wp2_with fail
      go_ret
      exact ⟨rfl, _, rfl⟩
end Go.Proofs.Ytdaedglfefkeoaa

/- What takePair answers of any bytes. -/
namespace Go.Proofs.Ytdaedglfefkeoaa
open Go.RowKit
set_option linter.unusedVariables false
set_option maxRecDepth 100000

theorem set3_block {w : World} {g : Nat} {u0 u1 u2 : Value} {t : TypeId} (h : w.heap[g]? = some (.cells #[u0, u1, u2] t (0, 0))) (v0 v1 v2 : Value) : (((w.setCell ⟨g, 0, none⟩ v0).setCell ⟨g, 1, none⟩ v1).setCell ⟨g, 2, none⟩ v2).heap[g]? = some (.cells #[v0, v1, v2] t (0, 0)) := by
  have h0 := heap_setCell_same w g 0 _ _ v0 h
  have h1 := heap_setCell_same _ g 1 _ _ v1 h0
  have h2 := heap_setCell_same _ g 2 _ _ v2 h1
  rw [h2]
  rfl
theorem set3_chg (w : World) (g : Nat) (v0 v1 v2 : Value) : Chg (fun b => b = g) w (((w.setCell ⟨g, 0, none⟩ v0).setCell ⟨g, 1, none⟩ v1).setCell ⟨g, 2, none⟩ v2) :=
  (((Chg.refl (fun b => b = g) w).put g 0 v0 rfl).put g 1 v1 rfl).put g 2 v2 rfl
theorem cells3 {w : World} {g : Nat} {u0 u1 u2 : Value} {t : TypeId} (h : w.heap[g]? = some (.cells #[u0, u1, u2] t (0, 0))) : w.cell? ⟨g, 0, none⟩ = some u0 ∧ w.cell? ⟨g, 1, none⟩ = some u1 ∧ w.cell? ⟨g, 2, none⟩ = some u2 ∧ ∀ i, w.frozen? ⟨g, i, none⟩ = false :=
  ⟨by rw [cell_of_row _ _ _ _ _ _ h]; rfl, by rw [cell_of_row _ _ _ _ _ _ h]; rfl, by rw [cell_of_row _ _ _ _ _ _ h]; rfl, fun i => frozen_of_row _ _ _ _ _ h⟩

theorem Ows.three {B : Nat} {w : World} {v : Value} {k l m : List UInt8} {us : List Value} (h : Ows B w v [k, l, m] us) : ∃ g c x y z, v = .slice (some ⟨g, 0, none⟩) 3 c ∧ 3 ≤ c ∧ w.cell? ⟨g, 0, none⟩ = some x ∧ w.cell? ⟨g, 1, none⟩ = some y ∧ w.cell? ⟨g, 2, none⟩ = some z ∧ Ow B w x k ∧ Ow B w y l ∧ Ow B w z m ∧ B ≤ g := by
  have hl : us.length = 3 := h.len
  match us, hl with
  | [x, y, z], _ =>
    obtain ⟨a, c, e, h1, h2, h3, h4⟩ := row_reads h.row
    obtain ⟨g, rfl, g0⟩ := h4 0 x rfl
    obtain ⟨g', eg, g1⟩ := h4 1 y rfl
    obtain ⟨g'', eg', g2⟩ := h4 2 z rfl
    simp only [Option.some.injEq, Addr.mk.injEq, and_true] at eg eg'
    subst eg; subst eg'
    refine ⟨g, c, x, y, z, e, h1, g0, g1, g2, h.el 0 _ _ rfl rfl, h.el 1 _ _ rfl rfl, h.el 2 _ _ rfl rfl, ?_⟩
    have := (World.ownsRow.lt h.row g (by rw [e]; rfl)).1
    exact this

theorem tp_cases (l : List UInt8) : (M.tp l = none ∧ ((M.tr l).2 ≠ 0 ∨ (M.tr l).2 = 0 ∧ (M.tr l).1.length ≠ 3 ∨ (M.tr l).2 = 0 ∧ ∃ k x m, (M.tr l).1 = [k, x, m] ∧ (m.length ≠ 1 ∨ ∃ b, m = [b] ∧ b ≠ 0 ∧ b ≠ 1))) ∨ ∃ k x g, M.tp l = some (k, x, g) ∧ (M.tr l).2 = 0 ∧ (M.tr l).1 = [k, x, [if g then 1 else 0]] := by
  by_cases h0 : (M.tr l).2 = 0
  · cases hd : M.tp l with
    | some p =>
      have h1 : M.dec (M.tr l).1 = some p := by unfold M.tp at hd; rw [if_pos h0] at hd; exact hd
      exact .inr ⟨p.1, p.2.1, p.2.2, rfl, h0, M.dec_form h1⟩
    | none =>
      refine .inl ⟨rfl, .inr ?_⟩
      have h1 : M.dec (M.tr l).1 = none := by unfold M.tp at hd; rw [if_pos h0] at hd; exact hd
      by_cases h3 : (M.tr l).1.length = 3
      · refine .inr ⟨h0, ?_⟩
        match hfs : (M.tr l).1, h3 with
        | [k, x, m], _ =>
          refine ⟨k, x, m, rfl, ?_⟩
          rw [hfs] at h1
          by_cases hm : m.length = 1
          · match m, hm with
            | [b], _ =>
              refine .inr ⟨b, rfl, ?_⟩
              simp only [M.dec] at h1
              constructor
              · rintro rfl; simp at h1
              · rintro rfl; simp at h1
          · exact .inl hm
      · exact .inl ⟨h0, h3⟩
  · refine .inl ⟨?_, .inl h0⟩
    unfold M.tp; rw [if_neg h0]

/-- What a field that is no pair is read as. -/
def noP : P3 := ([], [], false)

set_option maxHeartbeats 2000000 in
theorem takepair_any {v : Value} {l : List UInt8} {w : World} (hr : Rd w v l) (hl : l.length ≤ 1099511627776) :
    Calls Try.prog 38 #[v] w fun e w' => ∃ u : V3, e = .returned (.tuple #[.agg #[u.1, u.2.1, .bool u.2.2], .bool (M.tp l).isSome]) ∧ El3 w.heap.size w' u ((M.tp l).getD noP) ∧ Below w.heap.size w w' := by
  have hall : ∀ W, Below w.heap.size w W → Calls Try.prog 37 #[v] W fun e w' => ∃ v' us, e = .returned (.tuple #[v', .int .i64 (M.tr l).2]) ∧ Ows W.heap.size w' v' (M.tr l).1 us ∧ Below W.heap.size W w' := fun W hW => takerow_any (hr.below hW (Nat.le_refl _)) hl
  have hcell : (w.alloc (.cells #[.slice none 0 0, .slice none 0 0, .bool false] 48)).heap[w.heap.size]? = some (.cells #[.slice none 0 0, .slice none 0 0, .bool false] 48 (0, 0)) := heap_alloc_new w _
  have fin0 : ∀ w2, w2.heap[w.heap.size]? = some (.cells #[.slice none 0 0, .slice none 0 0, .bool false] 48 (0, 0)) → El3 w.heap.size w2 (.slice none 0 0, .slice none 0 0, false) noP := fun w2 _ => ⟨Ow.nil _ _, Ow.nil _ _, rfl⟩
  have htp := tp_cases l
  have hv := hr
  obtain ⟨av, cv, rfl, _⟩ := hr
  rcases htp with ⟨e, hcs⟩ | ⟨k, x, g, e, h0, hfs⟩
  · rw [e]
    clear e hv hl
    show Calls _ _ _ _ fun e w' => ∃ u : V3, e = .returned (.tuple #[.agg #[u.1, u.2.1, .bool u.2.2], .bool false]) ∧ El3 w.heap.size w' u noP ∧ Below w.heap.size w w'
    have back : ∀ w2 : World, w2.heap[w.heap.size]? = some (.cells #[.slice none 0 0, .slice none 0 0, .bool false] 48 (0, 0)) → Below w.heap.size w w2 → ∃ wz, (((w2.setCell ⟨w.heap.size, 0, none⟩ (.slice none 0 0)).setCell ⟨w.heap.size, 1, none⟩ (.slice none 0 0)).setCell ⟨w.heap.size, 2, none⟩ (.bool false)) = wz ∧ (wz.cell? ⟨w.heap.size, 0, none⟩ = some (.slice none 0 0) ∧ wz.cell? ⟨w.heap.size, 1, none⟩ = some (.slice none 0 0) ∧ wz.cell? ⟨w.heap.size, 2, none⟩ = some (.bool false) ∧ ∀ i, wz.frozen? ⟨w.heap.size, i, none⟩ = false) ∧ Below w.heap.size w wz := fun w2 h hb => by
      refine ⟨_, rfl, cells3 (set3_block h _ _ _), hb.trans ((set3_chg w2 w.heap.size _ _ _).below (fun b q => by omega) hb.size)⟩
    generalize M.tr l = R at *
    obtain ⟨fs, er⟩ := R
    simp only [] at *
    go_enter Try.func38, Try.ntmps38
    go_wp2_with fail
    refine (hall _ (bel_al w _)).mono ?_
    rintro e w2 ⟨v2, us, rfl, ho2, hb2⟩
    have hR : w2.heap[w.heap.size]? = some (.cells #[.slice none 0 0, .slice none 0 0, .bool false] 48 (0, 0)) := by rw [hb2.block _ (by simp)]; exact hcell
    have hB2 := Below.tr (bel_al w _) hb2
    obtain ⟨wz, hwz, ⟨k0, k1, k2, kz⟩, hBz⟩ := back w2 hR hB2
    obtain ⟨c0, c1, c2, cz⟩ := cells3 hR
    have z0 := cz 0
    have z1 := cz 1
    have z2 := cz 2
    clear back hcell hall fin0 cz
    rcases hcs with her | ⟨rfl, h3⟩ | ⟨rfl, k, x, m, rfl, hm⟩
    · obtain ⟨a2, d2, rfl⟩ : ∃ a d, v2 = .slice a fs.length d := by obtain ⟨a, d, e, _⟩ := ho2.rds; exact ⟨a, d, e⟩
      have hne : (((er : Nat) : Int) != 0) = true := by simp; omega
      go_wp2_with fail
      refine bodyPost_ret (v := .tuple #[.agg #[.slice none 0 0, .slice none 0 0, .bool false], .bool false]) (by simp [results, Try.results38, go_sem, k0, k1, k2]; try rfl) rfl ?_
      exact ⟨(.slice none 0 0, .slice none 0 0, false), rfl, ⟨Ow.nil _ _, Ow.nil _ _, rfl⟩, hBz⟩
    · obtain ⟨a2, d2, rfl⟩ : ∃ a d, v2 = .slice a fs.length d := by obtain ⟨a, d, e, _⟩ := ho2.rds; exact ⟨a, d, e⟩
      have hne : (((fs.length : Nat) : Int) != 3) = true := by simp; omega
      go_wp2_with fail
      refine bodyPost_ret (v := .tuple #[.agg #[.slice none 0 0, .slice none 0 0, .bool false], .bool false]) (by simp [results, Try.results38, go_sem, k0, k1, k2]; try rfl) rfl ?_
      exact ⟨(.slice none 0 0, .slice none 0 0, false), rfl, ⟨Ow.nil _ _, Ow.nil _ _, rfl⟩, hBz⟩
    · obtain ⟨g, c, x0, x1, x2, rfl, hc3, g0, g1, g2, o0, o1, o2, hgB⟩ := ho2.three
      rcases hm with hm | ⟨b, rfl, hb0, hb1⟩
      · obtain ⟨a3, d3, rfl⟩ := o2.shape
        have hne : (((m.length : Nat) : Int) != 1) = true := by simp; omega
        go_wp2_with fail
        refine bodyPost_ret (v := .tuple #[.agg #[.slice none 0 0, .slice none 0 0, .bool false], .bool false]) (by simp [results, Try.results38, go_sem, k0, k1, k2]; try rfl) rfl ?_
        exact ⟨(.slice none 0 0, .slice none 0 0, false), rfl, ⟨Ow.nil _ _, Ow.nil _ _, rfl⟩, hBz⟩
      · rcases o2.rd.two with ⟨_, q⟩ | ⟨a3, d3, rfl, q1, q2, q3⟩
        · cases q
        · have hbc := q3 0 (by simp)
          rw [add_zero] at hbc
          simp only [List.getElem_cons_zero] at hbc
          have hn0 : (((b.toNat : Nat) : Int) != 0) = true := by
            have : b.toNat ≠ 0 := fun e => hb0 (UInt8.toNat_inj.1 (by simpa using e))
            simp; omega
          have hn1 : (((b.toNat : Nat) : Int) != 1) = true := by
            have : b.toNat ≠ 1 := fun e => hb1 (UInt8.toNat_inj.1 (by simpa using e))
            simp; omega
          simp only [List.length_singleton] at *
          go_wp2_with fail
          refine bodyPost_ret (v := .tuple #[.agg #[.slice none 0 0, .slice none 0 0, .bool false], .bool false]) (by simp [results, Try.results38, go_sem, k0, k1, k2]; try rfl) rfl ?_
          exact ⟨(.slice none 0 0, .slice none 0 0, false), rfl, ⟨Ow.nil _ _, Ow.nil _ _, rfl⟩, hBz⟩
  · rw [e]
    clear e hv hl
    show Calls _ _ _ _ fun e w' => ∃ u : V3, e = .returned (.tuple #[.agg #[u.1, u.2.1, .bool u.2.2], .bool true]) ∧ El3 w.heap.size w' u (k, x, g) ∧ Below w.heap.size w w'
    generalize M.tr l = R at *
    obtain ⟨fs, er⟩ := R
    simp only [] at h0 hfs hall
    subst h0
    subst hfs
    go_enter Try.func38, Try.ntmps38
    go_wp2_with fail
    refine (hall _ (bel_al w _)).mono ?_
    rintro e w2 ⟨v2, us, rfl, ho2, hb2⟩
    have hR : w2.heap[w.heap.size]? = some (.cells #[.slice none 0 0, .slice none 0 0, .bool false] 48 (0, 0)) := by rw [hb2.block _ (by simp)]; exact hcell
    have hB2 := Below.tr (bel_al w _) hb2
    obtain ⟨c0, c1, c2, cz⟩ := cells3 hR
    have z0 := cz 0
    have z1 := cz 1
    have z2 := cz 2
    clear hcell hall fin0 cz
    obtain ⟨q, c, x0, x1, x2, rfl, hc3, g0, g1, g2, o0, o1, o2, hgB⟩ := ho2.three
    have hsz : (w.alloc (.cells #[.slice none 0 0, .slice none 0 0, .bool false] 48)).heap.size = w.heap.size + 1 := by simp
    rw [hsz] at o0 o1 o2 hgB
    obtain ⟨a3, d3, e3, q1, q2, q3, q4⟩ := row_reads o2
    obtain ⟨h, rfl, hbc⟩ := q4 0 _ (cel_get _ 0 (by simp))
    have hhB := (World.ownsRow.lt o2 h (by rw [e3]; rfl)).1
    have hqR : ¬ q = w.heap.size := by omega
    have hhR : ¬ h = w.heap.size := by omega
    have hRq : ¬ w.heap.size = q := by omega
    have hRh : ¬ w.heap.size = h := by omega
    simp only [List.length_singleton, List.getElem_cons_zero] at *
    subst e3
    obtain ⟨b0, d0, e0⟩ := o0.shape
    obtain ⟨b1, d1, e1⟩ := o1.shape
    subst e0
    subst e1
    have hS := set3_block hR (.slice b0 k.length d0) (.slice b1 x.length d1) (.bool g)
    have hch := set3_chg w2 w.heap.size (.slice b0 k.length d0) (.slice b1 x.length d1) (.bool g)
    have hE : El3 w.heap.size (((w2.setCell ⟨w.heap.size, 0, none⟩ (.slice b0 k.length d0)).setCell ⟨w.heap.size, 1, none⟩ (.slice b1 x.length d1)).setCell ⟨w.heap.size, 2, none⟩ (.bool g)) (.slice b0 k.length d0, .slice b1 x.length d1, g) (k, x, g) :=
      ⟨(o0.keptC hch (fun b e q => by have := (World.ownsRow.lt o0 b e).1; omega)).mono (by omega), (o1.keptC hch (fun b e q => by have := (World.ownsRow.lt o1 b e).1; omega)).mono (by omega), rfl⟩
    have hBz : Below w.heap.size w (((w2.setCell ⟨w.heap.size, 0, none⟩ (.slice b0 k.length d0)).setCell ⟨w.heap.size, 1, none⟩ (.slice b1 x.length d1)).setCell ⟨w.heap.size, 2, none⟩ (.bool g)) := hB2.trans (hch.below (fun b q => by omega) hB2.size)
    have HZ : Hid _ := And.intro (cells3 hS) (And.intro hE hBz)
    clear hS hch hE hBz o0 o1 o2 q4 hb2 hB2 ho2 hR
    cases g
    · replace hbc : w2.cell? ⟨h, 0, none⟩ = some (.int .u8 0) := hbc
      go_wp2_with fail
      go_region_held3 (fun w' => w'.cell? ⟨q, 0, none⟩ = some (.slice b0 k.length d0) ∧ w'.cell? ⟨q, 1, none⟩ = some (.slice b1 x.length d1) ∧ w'.cell? ⟨h, 0, none⟩ = some (.int .u8 0)) (go_keep) (fail)
      go_wp2_with fail
      have HY : Hid (∀ W, W = (((w2.setCell ⟨w.heap.size, 0, none⟩ (.slice b0 k.length d0)).setCell ⟨w.heap.size, 1, none⟩ (.slice b1 x.length d1)).setCell ⟨w.heap.size, 2, none⟩ (.bool false)).drew → (W.cell? ⟨w.heap.size, 0, none⟩ = some (.slice b0 k.length d0) ∧ W.cell? ⟨w.heap.size, 1, none⟩ = some (.slice b1 x.length d1) ∧ W.cell? ⟨w.heap.size, 2, none⟩ = some (.bool false)) ∧ El3 w.heap.size W (.slice b0 k.length d0, .slice b1 x.length d1, false) (k, x, false) ∧ Below w.heap.size w W) := fun W hW => by
        subst hW
        obtain ⟨⟨y0, y1, y2, _⟩, hE, hBz⟩ := HZ.out
        exact ⟨⟨y0, y1, y2⟩, hE.below (bel_drew _) (Nat.le_refl _), hBz.trans ((bel_drew _).mono hBz.size)⟩
      obtain ⟨⟨k0, k1, k2⟩, hE, hBz⟩ := HY.out _ rfl
      generalize (((w2.setCell ⟨w.heap.size, 0, none⟩ (.slice b0 k.length d0)).setCell ⟨w.heap.size, 1, none⟩ (.slice b1 x.length d1)).setCell ⟨w.heap.size, 2, none⟩ (.bool false)).drew = wz at *
      refine bodyPost_ret (v := .tuple #[.agg #[.slice b0 k.length d0, .slice b1 x.length d1, .bool false], .bool true]) (by simp [results, Try.results38, go_sem, k0, k1, k2]; try rfl) rfl ?_
      exact ⟨(.slice b0 k.length d0, .slice b1 x.length d1, false), rfl, hE, hBz⟩
    · replace hbc : w2.cell? ⟨h, 0, none⟩ = some (.int .u8 1) := hbc
      go_wp2_with fail
      go_region_held3 (fun w' => w'.cell? ⟨q, 0, none⟩ = some (.slice b0 k.length d0) ∧ w'.cell? ⟨q, 1, none⟩ = some (.slice b1 x.length d1) ∧ w'.cell? ⟨h, 0, none⟩ = some (.int .u8 1)) (go_keep) (fail)
      go_wp2_with fail
      have HY : Hid (∀ W, W = (((w2.setCell ⟨w.heap.size, 0, none⟩ (.slice b0 k.length d0)).setCell ⟨w.heap.size, 1, none⟩ (.slice b1 x.length d1)).setCell ⟨w.heap.size, 2, none⟩ (.bool true)).drew → (W.cell? ⟨w.heap.size, 0, none⟩ = some (.slice b0 k.length d0) ∧ W.cell? ⟨w.heap.size, 1, none⟩ = some (.slice b1 x.length d1) ∧ W.cell? ⟨w.heap.size, 2, none⟩ = some (.bool true)) ∧ El3 w.heap.size W (.slice b0 k.length d0, .slice b1 x.length d1, true) (k, x, true) ∧ Below w.heap.size w W) := fun W hW => by
        subst hW
        obtain ⟨⟨y0, y1, y2, _⟩, hE, hBz⟩ := HZ.out
        exact ⟨⟨y0, y1, y2⟩, hE.below (bel_drew _) (Nat.le_refl _), hBz.trans ((bel_drew _).mono hBz.size)⟩
      obtain ⟨⟨k0, k1, k2⟩, hE, hBz⟩ := HY.out _ rfl
      generalize (((w2.setCell ⟨w.heap.size, 0, none⟩ (.slice b0 k.length d0)).setCell ⟨w.heap.size, 1, none⟩ (.slice b1 x.length d1)).setCell ⟨w.heap.size, 2, none⟩ (.bool true)).drew = wz at *
      refine bodyPost_ret (v := .tuple #[.agg #[.slice b0 k.length d0, .slice b1 x.length d1, .bool true], .bool true]) (by simp [results, Try.results38, go_sem, k0, k1, k2]; try rfl) rfl ?_
      exact ⟨(.slice b0 k.length d0, .slice b1 x.length d1, true), rfl, hE, hBz⟩
end Go.Proofs.Ytdaedglfefkeoaa
