/- What varintSize, readVarint and readPart answer of any bytes. -/
import Derived.Test.YtlajncjamafomaaG22
namespace Go.Proofs.Ytlajncjamafomaa
open Go.RowKit
set_option linter.unusedVariables false
set_option maxRecDepth 100000

/-- How many bytes a number takes, and the error. -/
def vsz (l : List UInt8) : Nat × Nat :=
  if M.cont 10 l = 10 then (0, 12) else if l.length ≤ M.cont 10 l then (0, 10) else (M.cont 10 l + 1, 0)

set_option maxHeartbeats 400000 in
theorem vsize_any {v : Value} {l : List UInt8} {w : World} (hr : Rd w v l) :
    Calls Try.prog 59 #[v] w fun e w' => e = .returned (.tuple #[.int .i64 (vsz l).1, .int .i64 (vsz l).2]) ∧ ∃ k, w' = w.drewN k := by
  obtain ⟨ao, c, rfl, h1, h2, h3, h4⟩ := hr
  unfold maxLen at h2
  go_enter Try.func59, Try.ntmps59
  go_wp2
  all_goals
    go_loopw [4, 8] (fun _ i wr => ∃ k : Nat, k ≤ l.length ∧ k ≤ 10 ∧ i = .int .i64 k ∧ (∀ j, (h : j < l.length) → j < k → 128 ≤ l[j].toNat) ∧ wr = w) (fun _ i _ => 10 - (intOf i).toNat)
    case atStart => exact ⟨0, Nat.zero_le _, Nat.zero_le _, rfl, fun j _ hj => by omega, rfl⟩
    case round =>
      obtain ⟨k, hk, hk10, rfl, hs, rfl⟩ := hrel
      by_cases hlt : k < l.length ∧ k < 10
      · obtain ⟨hlt, hlt10⟩ := hlt
        obtain ⟨a, rfl, hc⟩ := h4 k hlt
        have HS : Hid _ := hs
        clear hs h4
        by_cases hx : l[k].toNat < 128
        · go_wp2
          go_ret2
          have e : M.cont 10 l = k := M.cont_eq 10 k l hk10 hk (fun j hj => HS.out j (by omega) hj) (.inr (.inr ⟨hlt, hx⟩))
          have e2 : vsz l = (k + 1, 0) := by unfold vsz; rw [e, if_neg (by omega), if_neg (by omega)]
          rw [e2]
          exact ⟨by simp, 0, rfl⟩
        · go_wp2
          refine ⟨⟨k + 1, by omega, by omega, by go_num, fun j h hj => ?_, trivial⟩, by simp [intOf]; omega⟩
          by_cases hj' : j < k
          · exact HS.out j h hj'
          · obtain rfl : j = k := by omega
            omega
      · have HS : Hid _ := hs
        clear hs h4
        have e : M.cont 10 l = k := M.cont_eq 10 k l hk10 hk (fun j hj => HS.out j (by omega) hj) (by omega)
        have HE : Hid _ := e
        clear e
        have hlt1 : l.length ≤ k ∨ 10 ≤ k := by omega
        clear hlt
        go_wp2
        all_goals
          go_ret2
          refine ⟨?_, 0, rfl⟩
          have e2 := HE.out
          unfold vsz
          rw [e2]
          first | rw [if_neg (by omega), if_pos (by omega)] | rw [if_pos (by omega)]
          try rfl

set_option maxHeartbeats 400000 in
theorem part_any2 {v : Value} {l : List UInt8} {n : Nat} {w : World} (hr : Rd w v l) (hn : n < 18446744073709551616) :
    Calls Try.prog 49 #[v, .int .u64 n] w fun e w' => ∃ v1 v2, e = .returned (.tuple #[v1, v2, .int .i64 (M.part l n).2.2]) ∧ (∀ w0, Rd w0 v l → Rd w0 v1 (M.part l n).1 ∧ Rd w0 v2 (M.part l n).2.1) ∧ ∃ k, w' = w.drewN k := by
  obtain ⟨ao, c, rfl, h1, h2, h3, h4⟩ := hr
  unfold maxLen at h2
  by_cases hlt : l.length < n
  · go_enter Try.func49, Try.ntmps49
    go_wp2
    go_ret3
    have e : M.part l n = ([], [], 10) := by unfold M.part; rw [if_pos hlt]
    rw [e]
    exact ⟨_, _, rfl, fun _ _ => ⟨Rd.nil _, Rd.nil _⟩, 0, rfl⟩
  · have e : M.part l n = (l.take n, l.drop n, 0) := by unfold M.part; rw [if_neg hlt]
    rw [e]
    clear e
    by_cases hcn : c = n
    · subst hcn
      have hp := fun (w0 : World) (hr' : Rd w0 (.slice ao l.length c) l) => hr'.post c (by omega) ao ⟨fun _ => rfl, fun h => absurd rfl h⟩
      rw [Nat.sub_self, show l.length - c = 0 by omega] at hp
      go_enter Try.func49, Try.ntmps49
      go_wp2
      go_region
      all_goals go_wp2
      all_goals go_ret3
      all_goals exact ⟨_, _, rfl, fun w0 hr' => ⟨hr'.pre c (by omega), hp w0 hr'⟩, _, rfl⟩
    · go_enter Try.func49, Try.ntmps49
      go_wp2
      go_region
      all_goals go_wp2
      all_goals go_ret3
      all_goals exact ⟨_, _, rfl, fun w0 hr' => ⟨hr'.pre n (by omega), hr'.post n (by omega) _ ⟨fun h => absurd h hcn, fun _ => rfl⟩⟩, _, rfl⟩
theorem part_any {v : Value} {l : List UInt8} {n : Nat} {w : World} (hr : Rd w v l) (hn : n < 18446744073709551616) :
    Calls Try.prog 49 #[v, .int .u64 n] w fun e w' => ∃ v1 v2, e = .returned (.tuple #[v1, v2, .int .i64 (M.part l n).2.2]) ∧ Rd w v1 (M.part l n).1 ∧ Rd w v2 (M.part l n).2.1 ∧ ∃ k, w' = w.drewN k :=
  (part_any2 hr hn).mono fun e w' ⟨v1, v2, h1, h2, h3⟩ => ⟨v1, v2, h1, (h2 w hr).1, (h2 w hr).2, h3⟩

theorem vsz_cases (l : List UInt8) : (∃ e, (e = 12 ∨ e = 10) ∧ vsz l = (0, e) ∧ M.tv l = (0, [], e)) ∨ ∃ s, s < 10 ∧ s < l.length ∧ vsz l = (s + 1, 0) ∧
    M.tv l = if 0 < s ∧ (l.getD s 0).toNat = 0 ∨ s = 9 ∧ 1 < (l.getD s 0).toNat then (0, [], 12) else (M.val (l.take (s + 1)), l.drop (s + 1), 0) := by
  have hle := M.cont_le 10 l
  by_cases h1 : M.cont 10 l = 10
  · refine .inl ⟨12, .inl rfl, ?_, ?_⟩
    · unfold vsz; rw [if_pos h1]
    · unfold M.tv; simp only []; rw [if_pos h1]
  · by_cases h2 : l.length ≤ M.cont 10 l
    · refine .inl ⟨10, .inr rfl, ?_, ?_⟩
      · unfold vsz; rw [if_neg h1, if_pos h2]
      · unfold M.tv; simp only []; rw [if_neg h1, if_pos h2]
    · refine .inr ⟨M.cont 10 l, by omega, by omega, ?_, ?_⟩
      · unfold vsz; rw [if_neg h1, if_neg h2]
      · unfold M.tv; simp only []; rw [if_neg h1, if_neg h2]

theorem vstep (l : List UInt8) (s k : Nat) (hk : k ≤ s) (hs : s < 10) (hl : k < l.length) (h9 : k = 9 → l[k].toNat ≤ 1) :
    bits BinOp.or IntKind.u64 (M.val (l.take k) : Int) (IntKind.u64.wrap (IntKind.u64.wrap (bits BinOp.andNot IntKind.u8 (l[k].toNat : Int) 128) * 2 ^ (7 * k))) = (M.val (l.take (k + 1)) : Int) := by
  have hx := l[k].toNat_lt
  have hpow : ∀ j, 128 ^ j = 2 ^ (7 * j) := fun j => by rw [Nat.pow_mul]
  rw [show (128 : Int) = ((128 : Nat) : Int) from rfl, u8_andNot_nat _ _ hx (by decide), show 255 - 128 = 127 from rfl, nat_mask7]
  rw [IntWalk.u64_in ((l[k].toNat % 128 : Nat) : Int) (by omega)]
  have hle : l[k].toNat % 128 * 2 ^ (7 * k) ≤ 9223372036854775808 + 9223372036854775807 := by
    by_cases hk9 : k = 9
    · have := h9 hk9
      subst hk9
      have h63 : (2 : Nat) ^ (7 * 9) = 9223372036854775808 := by decide
      rw [h63]; omega
    · have h56 : (2 : Nat) ^ (7 * k) ≤ 72057594037927936 := by
        have := Nat.pow_le_pow_right (n := 2) (by decide) (show 7 * k ≤ 56 by omega)
        simpa using this
      have := Nat.mul_le_mul (show l[k].toNat % 128 ≤ 127 by omega) h56
      omega
  have e1 : (((l[k].toNat % 128 : Nat) : Int) * 2 ^ (7 * k)) = ((l[k].toNat % 128 * 2 ^ (7 * k) : Nat) : Int) := by
    rw [Int.natCast_mul, Int.natCast_pow]; rfl
  rw [e1, IntWalk.u64_in ((l[k].toNat % 128 * 2 ^ (7 * k) : Nat) : Int) (by omega)]
  have hv := M.val_lt (l.take k)
  rw [List.length_take, Nat.min_eq_left (by omega), hpow] at hv
  have h63 : (2 : Nat) ^ (7 * k) ≤ 9223372036854775808 := by
    have := Nat.pow_le_pow_right (n := 2) (by decide) (show 7 * k ≤ 63 by omega)
    simpa using this
  rw [u64_or_nat _ _ (by omega) (by omega), Nat.or_comm, nat_join (7 * k) _ _ (Nat.mul_mod_left _ _) hv, take_snoc l k hl, M.val_append, List.length_take, Nat.min_eq_left (by omega), hpow]
  simp only [M.val, Nat.mul_zero, Nat.add_zero]
  rw [Nat.mul_comm (2 ^ (7 * k)), Nat.add_comm]

set_option maxHeartbeats 800000 in
theorem rvar_bad {l : List UInt8} {s c : Nat} {a : Addr} {w : World} (hl : l.length ≤ 9223372036854775807) (hvs : Calls Try.prog 59 #[.slice (some a) l.length c] w fun e w' => e = .returned (.tuple #[.int .i64 ((s + 1 : Nat) : Int), .int .i64 0]) ∧ ∃ k, w' = w.drewN k)
    (hs10 : s < 10) (hsl : s < l.length) (hc : w.cell? (a.add s) = some (.int .u8 (l[s].toNat : Int))) (hbad : 0 < s ∧ l[s].toNat = 0 ∨ s = 9 ∧ 1 < l[s].toNat) :
    Calls Try.prog 47 #[.slice (some a) l.length c] w fun e w' => ∃ v2, e = .returned (.tuple #[.int .u64 0, v2, .int .i64 12]) ∧ (∀ w0 : World, Rd w0 (.slice (some a) l.length c) l → Rd w0 v2 []) ∧ ∃ k, w' = w.drewN k := by
  have hx := l[s].toNat_lt
  go_enter Try.func47, Try.ntmps47
  go_wp2_with (go_at_call 59; refine hvs.mono ?_; rintro e w' ⟨rfl, kk, rfl⟩)
  all_goals go_ret3
  all_goals exact ⟨_, rfl, fun _ _ => Rd.nil _, _, rfl⟩

set_option maxHeartbeats 1000000 in
theorem rvar_good {l : List UInt8} {s c : Nat} {a : Addr} {w : World} (hr : Rd w (.slice (some a) l.length c) l) (hlc : l.length ≤ c) (hcm : c ≤ 9223372036854775807) (hvs : Calls Try.prog 59 #[.slice (some a) l.length c] w fun e w' => e = .returned (.tuple #[.int .i64 ((s + 1 : Nat) : Int), .int .i64 0]) ∧ ∃ k, w' = w.drewN k)
    (hs10 : s < 10) (hsl : s < l.length) (h4 : ∀ i, (h : i < l.length) → w.cell? (a.add i) = some (.int .u8 (l[i].toNat : Int))) (hok : ¬ (0 < s ∧ l[s].toNat = 0 ∨ s = 9 ∧ 1 < l[s].toNat)) :
    Calls Try.prog 47 #[.slice (some a) l.length c] w fun e w' => ∃ v2, e = .returned (.tuple #[.int .u64 (M.val (l.take (s + 1))), v2, .int .i64 0]) ∧ (∀ w0, Rd w0 (.slice (some a) l.length c) l → Rd w0 v2 (l.drop (s + 1))) ∧ ∃ k, w' = w.drewN k := by
  have hx := l[s].toNat_lt
  have hc := h4 s hsl
  have hst : ∀ k, (h : k < l.length) → k ≤ s → bits BinOp.or IntKind.u64 (M.val (l.take k) : Int) (IntKind.u64.wrap (IntKind.u64.wrap (bits BinOp.andNot IntKind.u8 (l[k].toNat : Int) 128) * 2 ^ (7 * k))) = (M.val (l.take (k + 1)) : Int) :=
    fun k h hk => vstep l s k hk hs10 h (fun h9 => by
      have e : s = k := by omega
      subst e
      omega)
  have HST : Hid _ := hst
  clear hst
  have hp := fun (w0 : World) (hr0 : Rd w0 (.slice (some a) l.length c) l) => hr0.post (s + 1) (by omega) (if c = s + 1 then some a else some (a.add (s + 1))) ⟨fun h => by rw [if_pos h], fun h => by rw [if_neg h]; rfl⟩
  have HP : Hid _ := hp
  clear hp
  go_enter Try.func47, Try.ntmps47
  go_wp2_with (go_at_call 59; refine hvs.mono ?_; rintro e w' ⟨rfl, kk, rfl⟩)
  all_goals
    clear hvs
    go_loopw [8, 9, 10, 42] (fun m _ _ i wr => ∃ k : Nat, k ≤ s + 1 ∧ i = .int .i64 k ∧ m = .int .u64 (M.val (l.take k)) ∧ wr = w.drewN kk) (fun _ _ _ i _ => s + 1 - (intOf i).toNat)
    case atStart => exact ⟨0, Nat.zero_le _, rfl, rfl, rfl⟩
    case round =>
      obtain ⟨k, hk, rfl, rfl, rfl⟩ := hrel
      by_cases hlt : k < s + 1
      · have hck := h4 k (by omega)
        have hxk := (l[k]'(by omega)).toNat_lt
        go_wp2
        exact ⟨⟨k + 1, by omega, by go_num, congrArg _ (HST.out k (by omega) (by omega)), trivial⟩, by simp [intOf]; omega⟩
      · obtain rfl : k = s + 1 := by omega
        have hp := HP.out
        by_cases hcn : c = s + 1
        · rw [if_pos hcn] at hp
          have HP2 : Hid _ := hp
          clear hp
          go_wp2
          go_region
          all_goals go_wp2
          all_goals go_ret3
          all_goals exact ⟨_, rfl, fun w0 h0 => Rd.cong (HP2.out w0 h0) rfl (by omega) (by omega), kk + 1, rfl⟩
        · rw [if_neg hcn] at hp
          have HP2 : Hid _ := hp
          clear hp
          go_wp2
          go_region
          all_goals go_wp2
          all_goals go_ret3
          all_goals exact ⟨_, rfl, fun w0 h0 => Rd.cong (HP2.out w0 h0) (by simp [Addr.add]; try omega) (by omega) (by omega), kk + 1, rfl⟩

/-- What is answered is a piece of what came in: it reads so in whatever world that reads so. -/
theorem rvar_any2 {v : Value} {l : List UInt8} {w : World} (hr : Rd w v l) :
    Calls Try.prog 47 #[v] w fun e w' => ∃ v2, e = .returned (.tuple #[.int .u64 (M.tv l).1, v2, .int .i64 (M.tv l).2.2]) ∧ (∀ w0, Rd w0 v l → Rd w0 v2 (M.tv l).2.1) ∧ ∃ k, w' = w.drewN k := by
  have hvs := vsize_any hr
  rcases vsz_cases l with ⟨er, her, h1, h2⟩ | ⟨s, hs10, hsl, h1, h2⟩
  · rw [h1] at hvs
    rw [h2]
    clear h1 h2
    go_enter Try.func47, Try.ntmps47
    have hne : (((er : Nat) : Int) != 0) = true := by rcases her with rfl | rfl <;> rfl
    go_wp2_with (go_at_call 59; refine hvs.mono ?_; rintro e w' ⟨rfl, kk, rfl⟩)
    go_ret3
    exact ⟨_, rfl, fun _ _ => Rd.nil _, _, rfl⟩
  · rw [h1] at hvs
    rw [h2]
    clear h1 h2
    have eg : l.getD s 0 = l[s] := by simp [hsl]
    rw [eg]
    clear eg
    rcases hr.two with ⟨rfl, rfl⟩ | ⟨a, c, rfl, h1, h2, h4⟩
    · simp at hsl
    · unfold maxLen at h2
      by_cases hbad : 0 < s ∧ l[s].toNat = 0 ∨ s = 9 ∧ 1 < l[s].toNat
      · rw [if_pos hbad]
        exact rvar_bad (by omega) hvs hs10 hsl (h4 s hsl) hbad
      · rw [if_neg hbad]
        exact rvar_good hr h1 (by omega) hvs hs10 hsl h4 hbad
theorem rvar_any {v : Value} {l : List UInt8} {w : World} (hr : Rd w v l) :
    Calls Try.prog 47 #[v] w fun e w' => ∃ v2, e = .returned (.tuple #[.int .u64 (M.tv l).1, v2, .int .i64 (M.tv l).2.2]) ∧ Rd w v2 (M.tv l).2.1 ∧ ∃ k, w' = w.drewN k :=
  (rvar_any2 hr).mono fun e w' ⟨v2, h1, h2, h3⟩ => ⟨v2, h1, h2 w hr, h3⟩
end Go.Proofs.Ytlajncjamafomaa
