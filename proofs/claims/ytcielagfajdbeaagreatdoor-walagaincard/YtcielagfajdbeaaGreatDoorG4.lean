/- What varintSize, readVarint and readPart answer of any bytes. -/
import Derived.Test.YtcielagfajdbeaaGreatDoorG3
import Derived.Test.YtcielagfajdbeaaGreatDoorG1
import Derived.Lib.SlBytesConst
import Derived.Test.YtcielagfajdbeaaGreatDoorG2
import Derived.Deep.QuietTactic
import Derived.BigQuiet
import Derived.Laws.EntriesVeiled
import Derived.Carry
import Derived.Handy
import Derived.Deep.RegionHeld3
import Derived.Laws.Concat
import Derived.Laws.OwnMore
namespace Go.Proofs.YtcielagfajdbeaaGreatDoor
open Go.RowKit
set_option linter.unusedVariables false
set_option maxRecDepth 100000

/-- How many bytes a number takes, and the error. -/
def vsz (l : List UInt8) : Nat × Nat :=
  if M.cont 10 l = 10 then (0, 12) else if l.length ≤ M.cont 10 l then (0, 10) else (M.cont 10 l + 1, 0)

set_option maxHeartbeats 400000 in
theorem vsize_any {v : Value} {l : List UInt8} {w : World} (hr : Rd w v l) :
    Calls Tryz.prog 75 #[v] w fun e w' => e = .returned (.tuple #[.int .i64 (vsz l).1, .int .i64 (vsz l).2]) ∧ ∃ k, w' = w.drewN k := by
  obtain ⟨ao, c, rfl, h1, h2, h3, h4⟩ := hr
  unfold maxLen at h2
  go_enter Tryz.func75, Tryz.ntmps75
  go_wp2
  all_goals
    go_loopw [4, 8] (fun _ i wr => ∃ k : Nat, k ≤ l.length ∧ k ≤ 10 ∧ i = .int .i64 k ∧ (∀ j, (h : j < l.length) → j < k → 128 ≤ l[j].toNat) ∧ wr = w) (fun _ i _ => 10 - (intOf i).toNat)
    case atStart => exact ⟨0, Nat.zero_le _, Nat.zero_le _, rfl, fun j _ hj => by omega, rfl⟩
    case round =>
      obtain ⟨k, hk, hk10, rfl, hs, rfl⟩ := hrel
      by_cases hlt : k < l.length ∧ k < 10
      · obtain ⟨hlt, hlt10⟩ := hlt
        obtain ⟨a, rfl, hc⟩ := h4 k hlt
        have HS : Hid _ := hs
        clear hs h4
        by_cases hx : l[k].toNat < 128
        · go_wp2
          go_ret2
          have e : M.cont 10 l = k := M.cont_eq 10 k l hk10 hk (fun j hj => HS.out j (by omega) hj) (.inr (.inr ⟨hlt, hx⟩))
          have e2 : vsz l = (k + 1, 0) := by unfold vsz; rw [e, if_neg (by omega), if_neg (by omega)]
          rw [e2]
          exact ⟨by simp, 0, rfl⟩
        · go_wp2
          refine ⟨⟨k + 1, by omega, by omega, by go_num, fun j h hj => ?_, trivial⟩, by simp [intOf]; omega⟩
          by_cases hj' : j < k
          · exact HS.out j h hj'
          · obtain rfl : j = k := by omega
            omega
      · have HS : Hid _ := hs
        clear hs h4
        have e : M.cont 10 l = k := M.cont_eq 10 k l hk10 hk (fun j hj => HS.out j (by omega) hj) (by omega)
        have HE : Hid _ := e
        clear e
        have hlt1 : l.length ≤ k ∨ 10 ≤ k := by omega
        clear hlt
        go_wp2
        all_goals
          go_ret2
          refine ⟨?_, 0, rfl⟩
          have e2 := HE.out
          unfold vsz
          rw [e2]
          first | rw [if_neg (by omega), if_pos (by omega)] | rw [if_pos (by omega)]
          try rfl

set_option maxHeartbeats 400000 in
theorem part_any2 {v : Value} {l : List UInt8} {n : Nat} {w : World} (hr : Rd w v l) (hn : n < 18446744073709551616) :
    Calls Tryz.prog 53 #[v, .int .u64 n] w fun e w' => ∃ v1 v2, e = .returned (.tuple #[v1, v2, .int .i64 (M.part l n).2.2]) ∧ (∀ w0, Rd w0 v l → Rd w0 v1 (M.part l n).1 ∧ Rd w0 v2 (M.part l n).2.1) ∧ ∃ k, w' = w.drewN k := by
  obtain ⟨ao, c, rfl, h1, h2, h3, h4⟩ := hr
  unfold maxLen at h2
  by_cases hlt : l.length < n
  · go_enter Tryz.func53, Tryz.ntmps53
    go_wp2
    go_ret3
    have e : M.part l n = ([], [], 10) := by unfold M.part; rw [if_pos hlt]
    rw [e]
    exact ⟨_, _, rfl, fun _ _ => ⟨Rd.nil _, Rd.nil _⟩, 0, rfl⟩
  · have e : M.part l n = (l.take n, l.drop n, 0) := by unfold M.part; rw [if_neg hlt]
    rw [e]
    clear e
    by_cases hcn : c = n
    · subst hcn
      have hp := fun (w0 : World) (hr' : Rd w0 (.slice ao l.length c) l) => hr'.post c (by omega) ao ⟨fun _ => rfl, fun h => absurd rfl h⟩
      rw [Nat.sub_self, show l.length - c = 0 by omega] at hp
      go_enter Tryz.func53, Tryz.ntmps53
      go_wp2
      go_region
      all_goals go_wp2
      all_goals go_ret3
      all_goals exact ⟨_, _, rfl, fun w0 hr' => ⟨hr'.pre c (by omega), hp w0 hr'⟩, _, rfl⟩
    · go_enter Tryz.func53, Tryz.ntmps53
      go_wp2
      go_region
      all_goals go_wp2
      all_goals go_ret3
      all_goals exact ⟨_, _, rfl, fun w0 hr' => ⟨hr'.pre n (by omega), hr'.post n (by omega) _ ⟨fun h => absurd h hcn, fun _ => rfl⟩⟩, _, rfl⟩
theorem part_any {v : Value} {l : List UInt8} {n : Nat} {w : World} (hr : Rd w v l) (hn : n < 18446744073709551616) :
    Calls Tryz.prog 53 #[v, .int .u64 n] w fun e w' => ∃ v1 v2, e = .returned (.tuple #[v1, v2, .int .i64 (M.part l n).2.2]) ∧ Rd w v1 (M.part l n).1 ∧ Rd w v2 (M.part l n).2.1 ∧ ∃ k, w' = w.drewN k :=
  (part_any2 hr hn).mono fun e w' ⟨v1, v2, h1, h2, h3⟩ => ⟨v1, v2, h1, (h2 w hr).1, (h2 w hr).2, h3⟩

theorem vsz_cases (l : List UInt8) : (∃ e, (e = 12 ∨ e = 10) ∧ vsz l = (0, e) ∧ M.tv l = (0, [], e)) ∨ ∃ s, s < 10 ∧ s < l.length ∧ vsz l = (s + 1, 0) ∧
    M.tv l = if 0 < s ∧ (l.getD s 0).toNat = 0 ∨ s = 9 ∧ 1 < (l.getD s 0).toNat then (0, [], 12) else (M.val (l.take (s + 1)), l.drop (s + 1), 0) := by
  have hle := M.cont_le 10 l
  by_cases h1 : M.cont 10 l = 10
  · refine .inl ⟨12, .inl rfl, ?_, ?_⟩
    · unfold vsz; rw [if_pos h1]
    · unfold M.tv; simp only []; rw [if_pos h1]
  · by_cases h2 : l.length ≤ M.cont 10 l
    · refine .inl ⟨10, .inr rfl, ?_, ?_⟩
      · unfold vsz; rw [if_neg h1, if_pos h2]
      · unfold M.tv; simp only []; rw [if_neg h1, if_pos h2]
    · refine .inr ⟨M.cont 10 l, by omega, by omega, ?_, ?_⟩
      · unfold vsz; rw [if_neg h1, if_neg h2]
      · unfold M.tv; simp only []; rw [if_neg h1, if_neg h2]

theorem vstep (l : List UInt8) (s k : Nat) (hk : k ≤ s) (hs : s < 10) (hl : k < l.length) (h9 : k = 9 → l[k].toNat ≤ 1) :
    bits BinOp.or IntKind.u64 (M.val (l.take k) : Int) (IntKind.u64.wrap (IntKind.u64.wrap (bits BinOp.andNot IntKind.u8 (l[k].toNat : Int) 128) * 2 ^ (7 * k))) = (M.val (l.take (k + 1)) : Int) := by
  have hx := l[k].toNat_lt
  have hpow : ∀ j, 128 ^ j = 2 ^ (7 * j) := fun j => by rw [Nat.pow_mul]
  rw [show (128 : Int) = ((128 : Nat) : Int) from rfl, u8_andNot_nat _ _ hx (by decide), show 255 - 128 = 127 from rfl, nat_mask7]
  rw [IntWalk.u64_in ((l[k].toNat % 128 : Nat) : Int) (by omega)]
  have hle : l[k].toNat % 128 * 2 ^ (7 * k) ≤ 9223372036854775808 + 9223372036854775807 := by
    by_cases hk9 : k = 9
    · have := h9 hk9
      subst hk9
      have h63 : (2 : Nat) ^ (7 * 9) = 9223372036854775808 := by decide
      rw [h63]; omega
    · have h56 : (2 : Nat) ^ (7 * k) ≤ 72057594037927936 := by
        have := Nat.pow_le_pow_right (n := 2) (by decide) (show 7 * k ≤ 56 by omega)
        simpa using this
      have := Nat.mul_le_mul (show l[k].toNat % 128 ≤ 127 by omega) h56
      omega
  have e1 : (((l[k].toNat % 128 : Nat) : Int) * 2 ^ (7 * k)) = ((l[k].toNat % 128 * 2 ^ (7 * k) : Nat) : Int) := by
    rw [Int.natCast_mul, Int.natCast_pow]; rfl
  rw [e1, IntWalk.u64_in ((l[k].toNat % 128 * 2 ^ (7 * k) : Nat) : Int) (by omega)]
  have hv := M.val_lt (l.take k)
  rw [List.length_take, Nat.min_eq_left (by omega), hpow] at hv
  have h63 : (2 : Nat) ^ (7 * k) ≤ 9223372036854775808 := by
    have := Nat.pow_le_pow_right (n := 2) (by decide) (show 7 * k ≤ 63 by omega)
    simpa using this
  rw [u64_or_nat _ _ (by omega) (by omega), Nat.or_comm, nat_join (7 * k) _ _ (Nat.mul_mod_left _ _) hv, take_snoc l k hl, M.val_append, List.length_take, Nat.min_eq_left (by omega), hpow]
  simp only [M.val, Nat.mul_zero, Nat.add_zero]
  rw [Nat.mul_comm (2 ^ (7 * k)), Nat.add_comm]

set_option maxHeartbeats 800000 in
theorem rvar_bad {l : List UInt8} {s c : Nat} {a : Addr} {w : World} (hl : l.length ≤ 9223372036854775807) (hvs : Calls Tryz.prog 75 #[.slice (some a) l.length c] w fun e w' => e = .returned (.tuple #[.int .i64 ((s + 1 : Nat) : Int), .int .i64 0]) ∧ ∃ k, w' = w.drewN k)
    (hs10 : s < 10) (hsl : s < l.length) (hc : w.cell? (a.add s) = some (.int .u8 (l[s].toNat : Int))) (hbad : 0 < s ∧ l[s].toNat = 0 ∨ s = 9 ∧ 1 < l[s].toNat) :
    Calls Tryz.prog 51 #[.slice (some a) l.length c] w fun e w' => ∃ v2, e = .returned (.tuple #[.int .u64 0, v2, .int .i64 12]) ∧ (∀ w0 : World, Rd w0 (.slice (some a) l.length c) l → Rd w0 v2 []) ∧ ∃ k, w' = w.drewN k := by
  have hx := l[s].toNat_lt
  go_enter Tryz.func51, Tryz.ntmps51
  go_wp2_with (go_at_call 75; refine hvs.mono ?_; rintro e w' ⟨rfl, kk, rfl⟩)
  all_goals go_ret3
  all_goals exact ⟨_, rfl, fun _ _ => Rd.nil _, _, rfl⟩

set_option maxHeartbeats 1000000 in
theorem rvar_good {l : List UInt8} {s c : Nat} {a : Addr} {w : World} (hr : Rd w (.slice (some a) l.length c) l) (hlc : l.length ≤ c) (hcm : c ≤ 9223372036854775807) (hvs : Calls Tryz.prog 75 #[.slice (some a) l.length c] w fun e w' => e = .returned (.tuple #[.int .i64 ((s + 1 : Nat) : Int), .int .i64 0]) ∧ ∃ k, w' = w.drewN k)
    (hs10 : s < 10) (hsl : s < l.length) (h4 : ∀ i, (h : i < l.length) → w.cell? (a.add i) = some (.int .u8 (l[i].toNat : Int))) (hok : ¬ (0 < s ∧ l[s].toNat = 0 ∨ s = 9 ∧ 1 < l[s].toNat)) :
    Calls Tryz.prog 51 #[.slice (some a) l.length c] w fun e w' => ∃ v2, e = .returned (.tuple #[.int .u64 (M.val (l.take (s + 1))), v2, .int .i64 0]) ∧ (∀ w0, Rd w0 (.slice (some a) l.length c) l → Rd w0 v2 (l.drop (s + 1))) ∧ ∃ k, w' = w.drewN k := by
  have hx := l[s].toNat_lt
  have hc := h4 s hsl
  have hst : ∀ k, (h : k < l.length) → k ≤ s → bits BinOp.or IntKind.u64 (M.val (l.take k) : Int) (IntKind.u64.wrap (IntKind.u64.wrap (bits BinOp.andNot IntKind.u8 (l[k].toNat : Int) 128) * 2 ^ (7 * k))) = (M.val (l.take (k + 1)) : Int) :=
    fun k h hk => vstep l s k hk hs10 h (fun h9 => by
      have e : s = k := by omega
      subst e
      omega)
  have HST : Hid _ := hst
  clear hst
  have hp := fun (w0 : World) (hr0 : Rd w0 (.slice (some a) l.length c) l) => hr0.post (s + 1) (by omega) (if c = s + 1 then some a else some (a.add (s + 1))) ⟨fun h => by rw [if_pos h], fun h => by rw [if_neg h]; rfl⟩
  have HP : Hid _ := hp
  clear hp
  go_enter Tryz.func51, Tryz.ntmps51
  go_wp2_with (go_at_call 75; refine hvs.mono ?_; rintro e w' ⟨rfl, kk, rfl⟩)
  all_goals
    clear hvs
    go_loopw [8, 9, 10, 42] (fun m _ _ i wr => ∃ k : Nat, k ≤ s + 1 ∧ i = .int .i64 k ∧ m = .int .u64 (M.val (l.take k)) ∧ wr = w.drewN kk) (fun _ _ _ i _ => s + 1 - (intOf i).toNat)
    case atStart => exact ⟨0, Nat.zero_le _, rfl, rfl, rfl⟩
    case round =>
      obtain ⟨k, hk, rfl, rfl, rfl⟩ := hrel
      by_cases hlt : k < s + 1
      · have hck := h4 k (by omega)
        have hxk := (l[k]'(by omega)).toNat_lt
        go_wp2
        exact ⟨⟨k + 1, by omega, by go_num, congrArg _ (HST.out k (by omega) (by omega)), trivial⟩, by simp [intOf]; omega⟩
      · obtain rfl : k = s + 1 := by omega
        have hp := HP.out
        by_cases hcn : c = s + 1
        · rw [if_pos hcn] at hp
          have HP2 : Hid _ := hp
          clear hp
          go_wp2
          go_region
          all_goals go_wp2
          all_goals go_ret3
          all_goals exact ⟨_, rfl, fun w0 h0 => Rd.cong (HP2.out w0 h0) rfl (by omega) (by omega), kk + 1, rfl⟩
        · rw [if_neg hcn] at hp
          have HP2 : Hid _ := hp
          clear hp
          go_wp2
          go_region
          all_goals go_wp2
          all_goals go_ret3
          all_goals exact ⟨_, rfl, fun w0 h0 => Rd.cong (HP2.out w0 h0) (by simp [Addr.add]; try omega) (by omega) (by omega), kk + 1, rfl⟩

/-- What is answered is a piece of what came in: it reads so in whatever world that reads so. -/
theorem rvar_any2 {v : Value} {l : List UInt8} {w : World} (hr : Rd w v l) :
    Calls Tryz.prog 51 #[v] w fun e w' => ∃ v2, e = .returned (.tuple #[.int .u64 (M.tv l).1, v2, .int .i64 (M.tv l).2.2]) ∧ (∀ w0, Rd w0 v l → Rd w0 v2 (M.tv l).2.1) ∧ ∃ k, w' = w.drewN k := by
  have hvs := vsize_any hr
  rcases vsz_cases l with ⟨er, her, h1, h2⟩ | ⟨s, hs10, hsl, h1, h2⟩
  · rw [h1] at hvs
    rw [h2]
    clear h1 h2
    go_enter Tryz.func51, Tryz.ntmps51
    have hne : (((er : Nat) : Int) != 0) = true := by rcases her with rfl | rfl <;> rfl
    go_wp2_with (go_at_call 75; refine hvs.mono ?_; rintro e w' ⟨rfl, kk, rfl⟩)
    go_ret3
    exact ⟨_, rfl, fun _ _ => Rd.nil _, _, rfl⟩
  · rw [h1] at hvs
    rw [h2]
    clear h1 h2
    have eg : l.getD s 0 = l[s] := by simp [hsl]
    rw [eg]
    clear eg
    rcases hr.two with ⟨rfl, rfl⟩ | ⟨a, c, rfl, h1, h2, h4⟩
    · simp at hsl
    · unfold maxLen at h2
      by_cases hbad : 0 < s ∧ l[s].toNat = 0 ∨ s = 9 ∧ 1 < l[s].toNat
      · rw [if_pos hbad]
        exact rvar_bad (by omega) hvs hs10 hsl (h4 s hsl) hbad
      · rw [if_neg hbad]
        exact rvar_good hr h1 (by omega) hvs hs10 hsl h4 hbad
theorem rvar_any {v : Value} {l : List UInt8} {w : World} (hr : Rd w v l) :
    Calls Tryz.prog 51 #[v] w fun e w' => ∃ v2, e = .returned (.tuple #[.int .u64 (M.tv l).1, v2, .int .i64 (M.tv l).2.2]) ∧ Rd w v2 (M.tv l).2.1 ∧ ∃ k, w' = w.drewN k :=
  (rvar_any2 hr).mono fun e w' ⟨v2, h1, h2, h3⟩ => ⟨v2, h1, h2 w hr, h3⟩
end Go.Proofs.YtcielagfajdbeaaGreatDoor

/- How long what is read as a number is. -/
namespace Go.Proofs.YtcielagfajdbeaaGreatDoor
open Go.RowKit
set_option linter.unusedVariables false
set_option maxRecDepth 100000

theorem Ow.drewN {B : Nat} {w : World} {v : Value} {l : List UInt8} (h : Ow B w v l) (n : Nat) : Ow B (w.drewN n) v l := h.below (below_drewN (Below.refl _ _) n) (Nat.le_refl _)
theorem vi_len (n : Nat) : (M.vi n).length ≤ 10 := M.viF_length 9 n
theorem tv_lt (l : List UInt8) : (M.tv l).1 < 18446744073709551616 := by
  unfold M.tv
  simp only []
  have hle := M.cont_le 10 l
  split
  · decide
  · split
    · decide
    · split
      · decide
      · rename_i h1 h2 h3
        simp only []
        have hv := M.val_lt (l.take (M.cont 10 l))
        rw [List.length_take, Nat.min_eq_left (by omega)] at hv
        rw [take_snoc l _ (by omega), M.val_append, List.length_take, Nat.min_eq_left (by omega)]
        simp only [M.val, Nat.mul_zero, Nat.add_zero]
        have eg : l.getD (M.cont 10 l) 0 = l[M.cont 10 l]'(by omega) := by simp [show M.cont 10 l < l.length by omega]
        rw [eg] at h3
        have hx9 : M.cont 10 l = 9 → (l[M.cont 10 l]'(by omega)).toNat ≤ 1 := fun h => by omega
        clear h3 eg
        generalize (l[M.cont 10 l]'(by omega)).toNat = x at *
        by_cases h9 : M.cont 10 l = 9
        · have hx1 := hx9 h9
          have h63 : (128 : Nat) ^ M.cont 10 l = 9223372036854775808 := by rw [h9]
          rw [h63]
          rw [h63] at hv
          have : x % 128 ≤ 1 := by omega
          omega
        · have hp := Nat.pow_le_pow_right (n := 128) (by decide) (show M.cont 10 l ≤ 8 by omega)
          have h56 : (128 : Nat) ^ 8 = 72057594037927936 := by decide
          rw [h56] at hp
          have := Nat.mul_le_mul hp (show x % 128 ≤ 127 by omega)
          omega
theorem tv_len (l : List UInt8) : (M.tv l).2.1.length ≤ l.length := by
  unfold M.tv
  simp only []
  split
  · simp
  · split
    · simp
    · split
      · simp
      · simp
end Go.Proofs.YtcielagfajdbeaaGreatDoor

/- What Frame makes and TakeFrame answers of any bytes; and that 'awake' answers true. -/
namespace Go.Proofs.YtcielagfajdbeaaGreatDoor
open Go.RowKit
set_option linter.unusedVariables false
set_option maxRecDepth 100000

set_option maxHeartbeats 400000 in
theorem frame_any {v : Value} {l : List UInt8} {w : World} (hr : Rd w v l) (hl : l.length ≤ 140737488355000) :
    Calls Tryz.prog 37 #[v] w fun e w' => ∃ v', e = .returned v' ∧ Ow w.heap.size w' v' (M.frame l) ∧ Below w.heap.size w w' := by
  have hr' := hr
  obtain ⟨ao, c, rfl, h1, h2, h3, h4⟩ := hr
  unfold maxLen at h2
  clear h3 h4
  have hc := M.crc_lt l
  go_enter Tryz.func37, Tryz.ntmps37
  go_wp2_with fail
  refine (varint_any l.length _ (by omega)).mono ?_
  rintro e w1 ⟨v1, rfl, ho1, hb1⟩
  have hr1 := hr'.below hb1 (Nat.le_refl _)
  go_wp2_with fail
  refine (sum_any hr1).mono ?_
  rintro e w2 ⟨rfl, k2, rfl⟩
  have ho2 := ho1.drewN k2
  have hr2 := hr1.drewN k2
  go_wp2_with fail
  refine (high_any (M.crc l) 4 _ (by omega) (by decide)).mono ?_
  rintro e w3 ⟨v3, rfl, ho3, hb3⟩
  have ho3' := ho2.below hb3 (by simp)
  have hr3 := hr2.below hb3 (by simp)
  have hs1 := hb1.size
  have hs3 := hb3.size
  simp only [World.heap_drewN] at hs3
  have hvl := vi_len l.length
  have hbl := M.be_length 4 (M.crc l)
  have hw3 : Below w.heap.size w w3 := Below.tr (Below.tr hb1 (Below.dN w1 k2)) hb3
  have hB3 : w.heap.size ≤ w3.heap.size := hw3.size
  go_wp2_with (first | (at_builtin; refine wpList_app rfl _ _ rfl w.heap.size _ (M.vi l.length) rfl ho3' _ (M.be 4 (M.crc l)) rfl ho3.rd hB3 (by omega) ?_; intro v4 w4 ho4 hb4 hg4) | (at_builtin; refine wpList_app rfl _ _ rfl w.heap.size _ (M.vi l.length ++ M.be 4 (M.crc l)) rfl ho4 _ l rfl ?hr4 ?hB4 ?hl4 ?_; rotate_right; intro v5 w5 ho5 hb5 hg5) | fail)
  case hr4 => exact hr'.below (hw3.trans hb4) (Nat.le_refl _)
  case hB4 => exact Nat.le_trans hB3 hb4.size
  case hl4 => simp; omega
  go_ret
  exact ⟨_, rfl, ho5, (hw3.trans hb4).trans hb5⟩
theorem tf_cases (l : List UInt8) : ((M.tv l).2.2 ≠ 0 ∧ M.tf l = ([], [], (M.tv l).2.2)) ∨ ((M.tv l).2.2 = 0 ∧ (M.tv l).2.1.length < 4 ∧ M.tf l = ([], [], 10)) ∨
    ((M.tv l).2.2 = 0 ∧ 4 ≤ (M.tv l).2.1.length ∧ M.tf l = if ((M.tv l).2.1.drop 4).length < (M.tv l).1 then ([], [], 10) else if M.crc (((M.tv l).2.1.drop 4).take (M.tv l).1) ≠ M.num ((M.tv l).2.1.take 4) then ([], [], 11) else (((M.tv l).2.1.drop 4).take (M.tv l).1, ((M.tv l).2.1.drop 4).drop (M.tv l).1, 0)) := by
  by_cases h1 : (M.tv l).2.2 ≠ 0
  · refine .inl ⟨h1, ?_⟩
    unfold M.tf; simp only []; rw [if_pos h1]
  · have h1' : (M.tv l).2.2 = 0 := by simpa using h1
    by_cases h2 : (M.tv l).2.1.length < 4
    · refine .inr (.inl ⟨h1', h2, ?_⟩)
      unfold M.tf; simp only []; rw [if_neg h1, if_pos h2]
    · refine .inr (.inr ⟨h1', by omega, ?_⟩)
      unfold M.tf; simp only []; rw [if_neg h1, if_neg h2]
set_option maxHeartbeats 400000 in
theorem tframe_any {v : Value} {l : List UInt8} {w : World} (hr : Rd w v l) (hl : l.length ≤ 140737488355000) :
    Calls Tryz.prog 26 #[v] w fun e w' => ∃ v1 v2, e = .returned (.tuple #[v1, v2, .int .i64 (M.tf l).2.2]) ∧ Ow w.heap.size w' v1 (M.tf l).1 ∧ Ow w.heap.size w' v2 (M.tf l).2.1 ∧ Apart v1 v2 ∧ Below w.heap.size w w' := by
  have hrv := rvar_any hr
  have htl := tv_lt l
  have hll := tv_len l
  rcases tf_cases l with ⟨h1, h2⟩ | ⟨h1, h2, h3⟩ | ⟨h1, h2, h3⟩
  · rw [h2]
    generalize M.tv l = r at *
    obtain ⟨n, rest, er⟩ := r
    simp only [] at *
    have hne : (((er : Nat) : Int) != 0) = true := by simp; omega
    go_enter Tryz.func26, Tryz.ntmps26
    go_wp2_with (go_at_call 51; refine hrv.mono ?_; rintro e w1 ⟨v2, rfl, hr2, k1, rfl⟩)
    go_ret3
    exact ⟨_, _, rfl, Ow.nil _ _, Ow.nil _ _, .inl rfl, Below.dN _ _⟩
  · rw [h3]
    generalize M.tv l = r at *
    obtain ⟨n, rest, er⟩ := r
    simp only [] at *
    subst h1
    go_enter Tryz.func26, Tryz.ntmps26
    go_wp2_with fail
    refine hrv.mono ?_
    rintro e w1 ⟨v2, rfl, hr2, k1, rfl⟩
    obtain ⟨ao, c, rfl, g1, g2, g3, g4⟩ := hr2
    clear g3 g4
    unfold maxLen at g2
    go_wp2_with fail
    go_ret3
    exact ⟨_, _, rfl, Ow.nil _ _, Ow.nil _ _, .inl rfl, Below.dN _ _⟩
  · rw [h3]
    generalize M.tv l = r at *
    obtain ⟨n, rest, er⟩ := r
    simp only [] at *
    subst h1
    clear h3
    have hlp : (rest.take 4).length ≤ 8 := by simp; omega
    have hnl : M.num (rest.take 4) < 18446744073709551616 := by
      refine Nat.lt_of_lt_of_le (M.num_lt _) ?_
      have := Nat.pow_le_pow_right (n := 256) (by decide) hlp
      simpa using this
    have HLP : Hid _ := hlp
    clear hlp
    by_cases hsh : (rest.drop 4).length < n
    · rw [if_pos hsh]
      have e : M.part (rest.drop 4) n = ([], [], 10) := by unfold M.part; rw [if_pos hsh]
      have HPE : Hid _ := e
      clear e hsh
      go_enter Tryz.func26, Tryz.ntmps26
      go_wp2_with fail
      refine hrv.mono ?_
      rintro e w1 ⟨v2, rfl, hr2, k1, rfl⟩
      have hr2' := hr2
      obtain ⟨ao, c, rfl, g1, g2, g3, g4⟩ := hr2
      clear g3 g4
      unfold maxLen at g2
      have hpre := hr2'.pre 4 h2
      have hpost := hr2'.post 4 h2 (if c = 4 then ao else ao.map (fun a => a.add 4)) ⟨fun h => by rw [if_pos h], fun h => by rw [if_neg h]⟩
      have HP : Hid _ := hpost
      clear hpost
      go_wp2_with fail
      refine (number_any (hpre.drewN k1) HLP.out).mono ?_
      rintro e w2 ⟨rfl, k2, rfl⟩
      by_cases hc4 : c = 4
      all_goals
        go_wp2_with fail
        refine (part_any (l := rest.drop 4) (n := n) ?hr htl).mono ?_
        case hr =>
          have := (Rd.drewN HP.out k1).drewN k2
          refine Rd.cong this ?_ ?_ ?_
          · first | rw [if_pos hc4] | (rw [if_neg hc4]; try rfl)
          · first | rfl | omega
          · first | rfl | omega
        rintro e w3 ⟨v1, v3, rfl, hr3, hr4, k3, rfl⟩
        rw [HPE.out] at hr3 hr4 ⊢
        simp only [] at hr3 hr4 ⊢
        go_wp2_with fail
        go_ret3
        exact ⟨_, _, rfl, Ow.nil _ _, Ow.nil _ _, .inl rfl, Below.dN _ _⟩
    · rw [if_neg hsh]
      have e : M.part (rest.drop 4) n = ((rest.drop 4).take n, (rest.drop 4).drop n, 0) := by unfold M.part; rw [if_neg hsh]
      have hbl : ((rest.drop 4).take n).length ≤ 140737488355000 := by simp; omega
      have hbh : ((rest.drop 4).drop n).length ≤ 140737488355000 := by simp; omega
      generalize (rest.drop 4).take n = body at *
      generalize (rest.drop 4).drop n = beh at *
      have HPE : Hid _ := e
      clear e hsh
      have hcr := M.crc_lt body
      by_cases hsum : M.crc body = M.num (rest.take 4)
      · rw [if_neg (by simpa using hsum)]
        have hbn : (((M.crc body : Nat) : Int) != ((M.num (rest.take 4) : Nat) : Int)) = false := by simp [hsum]
        clear hsum
        go_enter Tryz.func26, Tryz.ntmps26
        go_wp2_with fail
        refine hrv.mono ?_
        rintro e w1 ⟨v2, rfl, hr2, k1, rfl⟩
        have hr2' := hr2
        obtain ⟨ao, c, rfl, g1, g2, g3, g4⟩ := hr2
        clear g3 g4
        unfold maxLen at g2
        have hpre := hr2'.pre 4 h2
        have hpost := hr2'.post 4 h2 (if c = 4 then ao else ao.map (fun a => a.add 4)) ⟨fun h => by rw [if_pos h], fun h => by rw [if_neg h]⟩
        have HP : Hid _ := hpost
        clear hpost
        go_wp2_with fail
        refine (number_any (hpre.drewN k1) HLP.out).mono ?_
        rintro e w2 ⟨rfl, k2, rfl⟩
        by_cases hc4 : c = 4
        all_goals
          go_wp2_with fail
          refine (part_any (l := rest.drop 4) (n := n) ?hr htl).mono ?_
          case hr =>
            have := (Rd.drewN HP.out k1).drewN k2
            refine Rd.cong this ?_ ?_ ?_
            · first | rw [if_pos hc4] | (rw [if_neg hc4]; try rfl)
            · first | rfl | omega
            · first | rfl | omega
          rintro e w3 ⟨v1, v3, rfl, hr3, hr4, k3, rfl⟩
          rw [HPE.out] at hr3 hr4 ⊢
          simp only [] at hr3 hr4 ⊢
          go_wp2_with fail
          refine (sum_any (Rd.redrew hr3 _)).mono ?_
          rintro e w4 ⟨rfl, k4, rfl⟩
          go_wp2_with fail
          refine (clone_any (Rd.redrew hr3 _) (by omega)).mono ?_
          rintro e w5 ⟨v5, rfl, ho5, hb5⟩
          have hr7 := (Rd.redrew hr4 _).below hb5 (Nat.le_refl _)
          go_wp2_with fail
          refine (clone_any hr7 (by omega)).mono ?_
          rintro e w6 ⟨v6, rfl, ho6, hb6⟩
          go_wp2_with fail
          go_ret3
          exact ⟨_, _, rfl, ho5.below hb6 (Nat.le_refl _), ho6.mono hb5.size, ho5.apart ho6 (Nat.le_refl _), Below.tr (Below.tr (Below.dN _ _) hb5) hb6⟩
      · rw [if_pos (by simpa using hsum)]
        have hbn : (((M.crc body : Nat) : Int) != ((M.num (rest.take 4) : Nat) : Int)) = true := by simp; omega
        clear hsum
        go_enter Tryz.func26, Tryz.ntmps26
        go_wp2_with fail
        refine hrv.mono ?_
        rintro e w1 ⟨v2, rfl, hr2, k1, rfl⟩
        have hr2' := hr2
        obtain ⟨ao, c, rfl, g1, g2, g3, g4⟩ := hr2
        clear g3 g4
        unfold maxLen at g2
        have hpre := hr2'.pre 4 h2
        have hpost := hr2'.post 4 h2 (if c = 4 then ao else ao.map (fun a => a.add 4)) ⟨fun h => by rw [if_pos h], fun h => by rw [if_neg h]⟩
        have HP : Hid _ := hpost
        clear hpost
        go_wp2_with fail
        refine (number_any (hpre.drewN k1) HLP.out).mono ?_
        rintro e w2 ⟨rfl, k2, rfl⟩
        by_cases hc4 : c = 4
        all_goals
          go_wp2_with fail
          refine (part_any (l := rest.drop 4) (n := n) ?hr htl).mono ?_
          case hr =>
            have := (Rd.drewN HP.out k1).drewN k2
            refine Rd.cong this ?_ ?_ ?_
            · first | rw [if_pos hc4] | (rw [if_neg hc4]; try rfl)
            · first | rfl | omega
            · first | rfl | omega
          rintro e w3 ⟨v1, v3, rfl, hr3, hr4, k3, rfl⟩
          rw [HPE.out] at hr3 hr4 ⊢
          simp only [] at hr3 hr4 ⊢
          go_wp2_with fail
          refine (sum_any (Rd.redrew hr3 _)).mono ?_
          rintro e w4 ⟨rfl, k4, rfl⟩
          go_wp2_with fail
          go_ret3
          exact ⟨_, _, rfl, Ow.nil _ _, Ow.nil _ _, .inl rfl, Below.dN _ _⟩
end Go.Proofs.YtcielagfajdbeaaGreatDoor

/- My own words for a log in memory: 'LgI': a Log struct in block l over the disk in block d, whose segments are a list, each with the values of its records; the blocks told apart by one function 'own'. -/
namespace Go.Proofs.YtcielagfajdbeaaGreatDoor
open Go.RowKit
set_option linter.unusedVariables false
set_option maxRecDepth 100000

/-- A segment: the number of its first record, its records. -/
abbrev Sg := Nat × List (List UInt8)
/-- The frames of records, one behind the other: what stands in a segment's file. -/
def frs (rs : List (List UInt8)) : List UInt8 := rs.flatMap M.frame
theorem frs_snoc (rs : List (List UInt8)) (r : List UInt8) : frs (rs ++ [r]) = frs rs ++ M.frame r := by simp [frs]
/-- The number behind a segment's last record. -/
def sgNext (s : Sg) : Nat := s.1 + s.2.length
def sgC (x : Sg × Value) : List Value := [.int .u64 (x.1.1 : Int), .int .i64 ((frs x.1.2).length : Int), x.2]
def sgCs (P : List (Sg × Value)) : List Value := P.flatMap sgC
theorem sgC_len (x : Sg × Value) : (sgC x).length = 3 := rfl

/-- What a block of a log is. -/
inductive LRole where
  | log | segs | recs (i : Nat) | data
/-- The log's memory, all of it by name. -/
structure LgI (B l d size : Nat) (nm : ByteArray) (over : Bool) (sv : Value) (P : List (Sg × Value)) (U : Nat → List Value) (own : Nat → Option LRole) (w : World) : Prop where
  cell : w.heap[l]? = some (.cells #[.pointer (some ⟨d, 0, none⟩), .string nm, .int .i64 (size : Int), sv, .bool over] 71 (0, 0))
  row : w.ownsRow B 80 3 sv P.length (sgCs P)
  recs : ∀ (i : Nat) (p : Sg × Value), P[i]? = some p → w.ownsRow B 24 1 p.2 p.1.2.length (U i) ∧ (U i).length = p.1.2.length
  data : ∀ (i : Nat) (p : Sg × Value) (j : Nat) (u : Value) (r : List UInt8), P[i]? = some p → (U i)[j]? = some u → p.1.2[j]? = some r → Rd w u r
  ol : own l = some .log
  os : ∀ b, sv.ownBlock = some b → own b = some .segs
  orr : ∀ (i : Nat) (p : Sg × Value) (b : Nat), P[i]? = some p → p.2.ownBlock = some b → own b = some (.recs i)
  od : ∀ (i : Nat) (p : Sg × Value) (u : Value) (b : Nat), P[i]? = some p → u ∈ U i → u.ownBlock = some b → own b = some .data
  lo : ∀ b, own b ≠ none → B ≤ b ∧ b < w.heap.size

section
variable {B l d size : Nat} {nm : ByteArray} {over : Bool} {sv : Value} {P : List (Sg × Value)} {U : Nat → List Value} {own : Nat → Option LRole} {w w' : World}
theorem LgI.next {T : Nat → Prop} (h : LgI B l d size nm over sv P U own w) (hc : Chg T w w') (hT : ∀ b, own b ≠ none → ¬ T b) : LgI B l d size nm over sv P U own w' :=
  ⟨by rw [hc.block l (h.lo l (by rw [h.ol]; simp)).2 (hT l (by rw [h.ol]; simp))]; exact h.cell, ownsRow_keptC h.row hc (fun b e => hT b (by rw [h.os b e]; simp)),
    fun i p e => ⟨ownsRow_keptC (h.recs i p e).1 hc (fun b q => hT b (by rw [h.orr i p b e q]; simp)), (h.recs i p e).2⟩,
    fun i p j u r e1 e2 e3 => (h.data i p j u r e1 e2 e3).keptC hc (fun b q => hT b (by rw [h.od i p u b e1 (List.mem_of_getElem? e2) q]; simp)),
    h.ol, h.os, h.orr, h.od, fun b hb => ⟨(h.lo b hb).1, Nat.lt_of_lt_of_le (h.lo b hb).2 hc.size⟩⟩
theorem LgI.below (h : LgI B l d size nm over sv P U own w) (hb : Below w.heap.size w w') : LgI B l d size nm over sv P U own w' := h.next (Chg.of_below hb) (fun b hs q => by have := (h.lo b hs).2; omega)
theorem LgI.drN (h : LgI B l d size nm over sv P U own w) (q : Nat) : LgI B l d size nm over sv P U own (w.drewN q) := h.below (below_drewN (Below.refl _ _) q)
theorem LgI.cells (h : LgI B l d size nm over sv P U own w) : w.cell? ⟨l, 0, none⟩ = some (.pointer (some ⟨d, 0, none⟩)) ∧ w.cell? ⟨l, 1, none⟩ = some (.string nm) ∧ w.cell? ⟨l, 2, none⟩ = some (.int .i64 (size : Int)) ∧ w.cell? ⟨l, 3, none⟩ = some sv ∧ w.cell? ⟨l, 4, none⟩ = some (.bool over) ∧ ∀ i, w.frozen? ⟨l, i, none⟩ = false :=
  ⟨by rw [cell_of_row _ _ _ _ _ _ h.cell]; rfl, by rw [cell_of_row _ _ _ _ _ _ h.cell]; rfl, by rw [cell_of_row _ _ _ _ _ _ h.cell]; rfl, by rw [cell_of_row _ _ _ _ _ _ h.cell]; rfl, by rw [cell_of_row _ _ _ _ _ _ h.cell]; rfl, fun i => frozen_of_row _ _ _ _ _ h.cell⟩
/-- How the segments' array reads. -/
theorem LgI.seg (h : LgI B l d size nm over sv P U own w) (k : Nat) (p : Sg × Value) (e : P[k]? = some p) : ∃ g c, sv = .slice (some ⟨g, 0, none⟩) P.length c ∧ P.length ≤ c ∧ c ≤ maxLen ∧ w.cell? ⟨g, k * 3, none⟩ = some (.int .u64 (p.1.1 : Int)) ∧ w.cell? ⟨g, k * 3 + 1, none⟩ = some (.int .i64 ((frs p.1.2).length : Int)) ∧ w.cell? ⟨g, k * 3 + 2, none⟩ = some p.2 := by
  obtain ⟨a, c, ev, h1, h2, _, h4⟩ := row_reads h.row
  have e0 : (sgCs P)[k * 3 + 0]? = some (.int .u64 (p.1.1 : Int)) := fm_at sgC_len P k 0 p e (by omega)
  have e1 : (sgCs P)[k * 3 + 1]? = some (.int .i64 ((frs p.1.2).length : Int)) := fm_at sgC_len P k 1 p e (by omega)
  have e2 : (sgCs P)[k * 3 + 2]? = some p.2 := fm_at sgC_len P k 2 p e (by omega)
  obtain ⟨g, rfl, g0⟩ := h4 _ _ e0
  have kk : ∀ j u, (sgCs P)[j]? = some u → w.cell? ⟨g, j, none⟩ = some u := fun j u q => by
    obtain ⟨g', eg, g1⟩ := h4 j u q
    simp only [Option.some.injEq, Addr.mk.injEq, and_true] at eg
    rw [eg]; exact g1
  exact ⟨g, c, ev, h1, h2, g0, kk _ _ e1, kk _ _ e2⟩

/-- The last segment's place. -/
theorem last_any (h : LgI B l d size nm over sv P U own w) {g c k : Nat} (hv : sv = .slice (some ⟨g, 0, none⟩) P.length c) (hk : P.length = k + 1) (hc : k + 1 ≤ c ∧ c ≤ maxLen) :
    Calls Tryz.prog 39 #[.pointer (some ⟨l, 0, none⟩)] w fun e w' => e = .returned (.pointer (some ⟨g, k * 3, none⟩)) ∧ ∃ q, w' = w.drewN q := by
  obtain ⟨_, _, _, c3, _, _⟩ := h.cells
  rw [hv, hk] at c3
  unfold maxLen at hc
  have e1 : ((k + 1 : Nat) : Int) - 1 = (k : Int) := by omega
  have e2 : (k : Int) < ((k + 1 : Nat) : Int) := by omega
  have e3 : ((k + 1 : Nat) : Int) ≤ 9223372036854775807 ∧ (1 : Int) ≤ ((k + 1 : Nat) : Int) := by omega
  clear h hv hk
  generalize k + 1 = m at *
  go_enter Tryz.func39, Tryz.ntmps39
  go_wp2_with fail
  go_quiet (fail)
  go_wp2_with fail
  go_ret
  exact ⟨rfl, _, rfl⟩
/-- The number behind a segment's last record. -/
theorem segnext_any (h : LgI B l d size nm over sv P U own w) (k : Nat) (p : Sg × Value) (e : P[k]? = some p) {g c : Nat} (hv : sv = .slice (some ⟨g, 0, none⟩) P.length c) (hn : sgNext p.1 < 18446744073709551616) :
    Calls Tryz.prog 49 #[.pointer (some ⟨g, k * 3, none⟩)] w fun e w' => e = .returned (.int .u64 (sgNext p.1 : Int)) ∧ ∃ q, w' = w.drewN q := by
  obtain ⟨g', c', ev, _, _, s0, s1, s2⟩ := h.seg k p e
  rw [hv] at ev
  simp only [Value.slice.injEq, Option.some.injEq, Addr.mk.injEq, and_true, true_and] at ev
  obtain ⟨rfl, rfl⟩ := ev
  obtain ⟨hr, _⟩ := h.recs k p e
  obtain ⟨ra, rc, er, r1, r2, _, _⟩ := row_reads hr
  obtain ⟨⟨begin, rs⟩, rv⟩ := p
  simp only [] at *
  subst er
  unfold sgNext at *
  simp only [] at *
  unfold maxLen at r2
  obtain ⟨N1, hN1⟩ : ∃ N1, begin + rs.length = N1 := ⟨_, rfl⟩
  rw [hN1] at hn
  rw [hN1]
  have e1 : (begin : Int) + (rs.length : Int) = (N1 : Int) := by omega
  have e2 : (N1 : Int) < 18446744073709551616 := by omega
  clear h hv e hN1 hr
  go_enter Tryz.func49, Tryz.ntmps49
  go_wp2_with fail
  go_quiet (fail)
  go_wp2_with fail
  go_ret
  exact ⟨rfl, _, rfl⟩
theorem first_any (h : LgI B l d size nm over sv P U own w) (p : Sg × Value) (e : P[0]? = some p) :
    Calls Tryz.prog 20 #[.pointer (some ⟨l, 0, none⟩)] w fun e w' => e = .returned (.int .u64 (p.1.1 : Int)) ∧ w' = w := by
  obtain ⟨_, _, _, c3, _, _⟩ := h.cells
  obtain ⟨g, c, rfl, h1, h2, s0, _, _⟩ := h.seg 0 p e
  have hl := (List.getElem?_eq_some_iff.1 e).1
  unfold maxLen at h2
  have e1 : (0 : Int) < (P.length : Int) := by omega
  rw [Nat.zero_mul] at s0
  clear h e
  go_enter Tryz.func20, Tryz.ntmps20
  go_wp2_with fail
  go_ret
  exact ⟨rfl, rfl⟩
theorem lnext_any (h : LgI B l d size nm over sv P U own w) {k : Nat} (hk : P.length = k + 1) (p : Sg × Value) (e : P[k]? = some p) (hn : sgNext p.1 < 18446744073709551616) :
    Calls Tryz.prog 23 #[.pointer (some ⟨l, 0, none⟩)] w fun e w' => e = .returned (.int .u64 (sgNext p.1 : Int)) ∧ ∃ q, w' = w.drewN q := by
  obtain ⟨g, c, ev, h1, h2, _, _, _⟩ := h.seg k p e
  go_enter Tryz.func23, Tryz.ntmps23
  go_wp2_with fail
  refine (last_any h ev hk ⟨by omega, h2⟩).mono ?_
  rintro _ w1 ⟨rfl, q1, rfl⟩
  go_wp2_with fail
  refine (segnext_any (h.drN q1) k p e ev hn).mono ?_
  rintro _ w2 ⟨rfl, q2, rfl⟩
  go_wp2_with fail
  go_ret
  exact ⟨rfl, q1 + q2, rfl⟩
end
end Go.Proofs.YtcielagfajdbeaaGreatDoor

/- The names of a log's files, where what FormatUint and Repeat answer is known. -/
namespace Go.Proofs.YtcielagfajdbeaaGreatDoor
open Go.RowKit
set_option linter.unusedVariables false
set_option maxRecDepth 100000

section
variable {B l d size : Nat} {nm : ByteArray} {over : Bool} {sv : Value} {P : List (Sg × Value)} {U : Nat → List Value} {own : Nat → Option LRole} {w w' : World}
theorem spare_any (h : LgI B l d size nm over sv P U own w) (hn : nm.size ≤ 40) :
    Calls Tryz.prog 60 #[.pointer (some ⟨l, 0, none⟩)] w fun e w' => e = .returned (.string (nm ++ ⟨#[46, 110, 101, 119]⟩)) ∧ w' = w := by
  obtain ⟨_, c1, _, _, _, _⟩ := h.cells
  clear h
  go_enter Tryz.func60, Tryz.ntmps60
  go_wp2_with fail
  go_ret
  exact ⟨rfl, rfl⟩
/-- What FormatUint of n answers, wherever it is called. -/
def Formats (n : Nat) (t : ByteArray) : Prop := ∀ w : World, Calls Tryz.prog 69 #[.int .u64 (n : Int), .int .i64 10] w fun e w' => e = .returned (.string t) ∧ Below w.heap.size w w'
/-- What Repeat of a nought answers, so many times. -/
def Noughts (k : Nat) (z : ByteArray) : Prop := ∀ w : World, Calls Tryz.prog 70 #[.string ⟨#[48]⟩, .int .i64 (k : Int)] w fun e w' => e = .returned (.string z) ∧ Below w.heap.size w w'
theorem file_of (h : LgI B l d size nm over sv P U own w) (n : Nat) (t z : ByteArray) (hF : Formats n t) (ht : t.size ≤ 20) (hZ : Noughts (20 - t.size) z) (hn : nm.size ≤ 40) (hz : z.size ≤ 20) :
    Calls Tryz.prog 44 #[.pointer (some ⟨l, 0, none⟩), .int .u64 (n : Int)] w fun e w' => e = .returned (.string (nm ++ ⟨#[46]⟩ ++ z ++ t)) ∧ Below w.heap.size w w' := by
  have hlo := (h.lo l (by rw [h.ol]; simp)).2
  have e1 : (20 : Int) - (t.size : Int) = ((20 - t.size : Nat) : Int) := by omega
  have e2 : IntKind.i64.wrap ((20 : Int) - (t.size : Int)) = ((20 - t.size : Nat) : Int) := by rw [IntKind.wrap_i64]; omega
  have e3 : IntKind.i64.wrap ((20 - t.size : Nat) : Int) = ((20 - t.size : Nat) : Int) := by rw [IntKind.wrap_i64]; omega
  have sz : ∀ a b : ByteArray, (a ++ b).size = a.size + b.size := fun a b => ByteArray.size_append
  have s1 : (⟨#[46]⟩ : ByteArray).size = 1 := rfl
  have j1 : ¬ 9223372036854775807 < nm.size + 1 := by omega
  have j2 : ¬ 9223372036854775807 < nm.size + 1 + z.size := by omega
  have j3 : ¬ 9223372036854775807 < nm.size + 1 + z.size + t.size := by omega
  have k1 : ¬ 9223372036854775807 < nm.size + (⟨#[46]⟩ : ByteArray).size := by rw [s1]; omega
  have k2 : ¬ 9223372036854775807 < (nm ++ ⟨#[46]⟩ : ByteArray).size + z.size := by rw [sz, s1]; omega
  have k3 : ¬ 9223372036854775807 < (nm ++ ⟨#[46]⟩ ++ z : ByteArray).size + t.size := by rw [sz, sz, s1]; omega
  clear sz s1
  obtain ⟨_, c1, _, _, _, _⟩ := h.cells
  clear h
  generalize 20 - t.size = m at *
  go_enter Tryz.func44, Tryz.ntmps44
  go_wp2_with fail
  refine (hF w).mono ?_
  rintro e w1 ⟨rfl, hb1⟩
  have d1 := (hb1.cell hlo).trans c1
  have hlo1 := Nat.lt_of_lt_of_le hlo hb1.size
  go_wp2_with fail
  go_region_held3 (fun w' => w'.cell? ⟨l, 1, none⟩ = some (.string nm)) (go_keep) (first
    | (go_at_call 70; refine (hZ _).mono ?_; rintro e w2 ⟨rfl, hb2⟩; have hb12 : Below w1.heap.size w1 w2 := Below.tr (below_drewN (Below.refl w1.heap.size w1) _) hb2; have d2 := (hb12.cell hlo1).trans d1)
    | fail)
  all_goals go_wp2_with fail
  all_goals go_ret
  all_goals exact ⟨rfl, Below.tr hb1 hb12⟩
end
end Go.Proofs.YtcielagfajdbeaaGreatDoor

/- What look does to a log, and what Segments tells. -/
namespace Go.Proofs.YtcielagfajdbeaaGreatDoor
open Go.RowKit
set_option linter.unusedVariables false
set_option maxRecDepth 100000

section
variable {B l d size : Nat} {nm : ByteArray} {over : Bool} {sv : Value} {P : List (Sg × Value)} {U : Nat → List Value} {own : Nat → Option LRole} {w w' : World}
/-- The log is over. -/
theorem LgI.setOver (h : LgI B l d size nm over sv P U own w) (t : Bool) : LgI B l d size nm t sv P U own (w.setCell ⟨l, 4, none⟩ (.bool t)) ∧ Chg (fun b => b = l) w (w.setCell ⟨l, 4, none⟩ (.bool t)) := by
  have hc : Chg (fun b => b = l) w (w.setCell ⟨l, 4, none⟩ (.bool t)) := (Chg.refl (fun b => b = l) w).put l 4 _ rfl
  have ne : ∀ {b r}, own b = some r → r ≠ .log → ¬ b = l := fun e q e2 => by rw [e2, h.ol] at e; exact q (Option.some.inj e).symm
  exact ⟨⟨by rw [heap_setCell_same _ _ 4 _ _ _ h.cell]; rfl, ownsRow_keptC h.row hc (fun b e => ne (h.os b e) (by simp)),
    fun i p e => ⟨ownsRow_keptC (h.recs i p e).1 hc (fun b q => ne (h.orr i p b e q) (by simp)), (h.recs i p e).2⟩,
    fun i p j u r e1 e2 e3 => (h.data i p j u r e1 e2 e3).keptC hc (fun b q => ne (h.od i p u b e1 (List.mem_of_getElem? e2) q) (by simp)),
    h.ol, h.os, h.orr, h.od, fun b hb => ⟨(h.lo b hb).1, by have := (h.lo b hb).2; simpa using this⟩⟩, hc⟩
theorem llook_ok (eb : Nat) (ce : w.cell? ⟨eb, 0, none⟩ = some (.int .i64 0)) (v : Value) :
    Calls Tryz.prog 42 #[v, .pointer (some ⟨eb, 0, none⟩)] w fun e w' => (∃ u, e = .returned u) ∧ w' = w := by
  go_enter Tryz.func42, Tryz.ntmps42
  go_wp2_with fail
  go_end0
  exact ⟨⟨_, rfl⟩, rfl⟩
theorem llook_err (h : LgI B l d size nm over sv P U own w) (eb : Nat) (e : Int) (ce : w.cell? ⟨eb, 0, none⟩ = some (.int .i64 e)) (he : e ≠ 0) :
    Calls Tryz.prog 42 #[.pointer (some ⟨l, 0, none⟩), .pointer (some ⟨eb, 0, none⟩)] w fun e w' => (∃ u, e = .returned u) ∧ LgI B l d size nm true sv P U own w' ∧ Chg (fun b => b = l) w w' := by
  obtain ⟨_, _, _, _, c4, cz⟩ := h.cells
  have z4 := cz 4
  have hb : (e == 0) = false := by simpa using he
  have H : Hid _ := h.setOver true
  clear h cz
  go_enter Tryz.func42, Tryz.ntmps42
  go_wp2_with fail
  go_end0
  exact ⟨⟨_, rfl⟩, H.out⟩

theorem Tryz.infoU64 : (Tryz.prog.info? 38).map (fun i => (i.zero, i.size, i.bytes)) = some (some (.int .u64 0), 1, 8) := by kernel_rfl
/-- The numbers with which the segments begin. -/
def begins (P : List (Sg × Value)) : List Value := P.map (fun p => Value.int .u64 (p.1.1 : Int))
theorem u64_made {w : World} {B g n : Nat} (h : w.ownsRow B 38 1 (.slice (some ⟨g, 0, none⟩) n n) n (madeCells (Value.int .u64 0).cells (n * 1)).toList) : w.ownsRow B 38 1 (.slice (some ⟨g, 0, none⟩) n n) n (List.replicate n (.int .u64 0)) := by
  have e : (madeCells (Value.int .u64 0).cells (n * 1)).toList = List.replicate n (Value.int .u64 0) := by
    rw [show (Value.int .u64 0).cells = #[Value.int .u64 0] from rfl, toList_madeCells_one]
    simp
  rw [← e]; exact h
theorem row_set1 {w : World} {B : Nat} {e : TypeId} {size n g : Nat} {v : Value} {xs : List Value} (h : w.ownsRow B e size v n xs) (hv : v.ownBlock = some g) (j : Nat) (u : Value) : (w.setCell ⟨g, j, none⟩ u).ownsRow B e size v n (xs.set j u) := by
  refine ⟨by rw [List.length_set]; exact h.1, ?_⟩
  rcases h.2 with ⟨q, q0⟩ | ⟨g', cap, cur, q, hB, hg, q1, q2, q3, q4⟩
  · rw [q] at hv; cases hv
  · rw [q] at hv
    obtain rfl : g' = g := Option.some.inj hv
    refine .inr ⟨g', cap, cur.setIfInBounds j u, q, hB, by rw [heap_setCell_same _ _ j _ _ _ hg], q1, q2, by rw [Array.size_setIfInBounds]; exact q3, ?_⟩
    rw [← q4]
    simp [List.take_set]

theorem row_frozen {w : World} {B : Nat} {e : TypeId} {size n c k g : Nat} {xs : List Value} (h : w.ownsRow B e size (.slice (some ⟨g, 0, none⟩) n c) k xs) (j : Nat) : w.frozen? ⟨g, j, none⟩ = false := by
  rcases h.2 with ⟨q, q0⟩ | ⟨g', cap, cur, q, hB, hg, _⟩
  · cases q
  · simp only [Value.slice.injEq, Option.some.injEq, Addr.mk.injEq, and_true] at q
    rw [q.1]; exact frozen_of_row _ _ _ _ _ hg
/-- The first k are told. -/
def toldB (P : List (Sg × Value)) (k : Nat) : List Value := (begins P).take k ++ List.replicate (P.length - k) (.int .u64 0)
theorem toldB_len (P : List (Sg × Value)) (k : Nat) (hk : k ≤ P.length) : (toldB P k).length = P.length := by simp [toldB, begins]; omega
theorem toldB_set (P : List (Sg × Value)) (k : Nat) (p : Sg × Value) (e : P[k]? = some p) : (toldB P k).set k (.int .u64 (p.1.1 : Int)) = toldB P (k + 1) := by
  have hk := (List.getElem?_eq_some_iff.1 e).1
  have hl : ((begins P).take k).length = k := by simp [begins]; omega
  have hb : (begins P)[k]? = some (.int .u64 (p.1.1 : Int)) := by unfold begins; rw [List.getElem?_map, e]; rfl
  unfold toldB
  rw [List.set_append_right _ _ (by omega), hl, Nat.sub_self, List.take_add_one, hb, show P.length - k = (P.length - (k + 1)) + 1 by omega, List.replicate_succ]
  simp

set_option maxHeartbeats 1000000 in
theorem segments_any (h : LgI B l d size nm over sv P U own w) (hl : P.length ≤ 1048576) :
    Calls Tryz.prog 22 #[.pointer (some ⟨l, 0, none⟩)] w fun e w' => ∃ v, e = .returned v ∧ w'.ownsRow w.heap.size 38 1 v P.length (begins P) ∧ Below w.heap.size w w' := by
  obtain ⟨i, hi, hz0, hz1, hz2⟩ := info_parts Tryz.infoU64
  obtain ⟨_, _, _, c3, _, _⟩ := h.cells
  obtain ⟨a, c, ev, h1, h2, _, _⟩ := row_reads h.row
  subst ev
  unfold maxLen at h2
  go_enter Tryz.func22, Tryz.ntmps22
  go_wp2_with (first | (at_make; refine wpList_make_full _ rfl _ _ 50 rfl w.heap.size 38 i _ 1 Tryz.underlying50 hi hz0 hz1 _ _ _ _ P.length rfl rfl rfl rfl (by rw [hz2]; omega) (by unfold maxLen; omega) (Nat.le_refl _) ?_; intro w1 hown hgr; have c31 := hgr.cell c3 (fun e => by cases e)) | fail)
  have hb1 : Below w.heap.size w w1 := (Chg.of_grown (S := fun _ => False) hgr (fun b e _ => by cases e)).below (fun b q => q.elim) (Nat.le_refl _)
  have hr1 : w1.ownsRow w.heap.size 38 1 (.slice (some ⟨w.heap.size, 0, none⟩) P.length P.length) P.length (toldB P 0) := by
    have := u64_made hown
    simpa [toldB] using this
  clear hown hgr c31 c3 hi hz0 hz1 hz2
  go_loopw [17] (fun i W => ∃ k : Nat, k ≤ P.length ∧ i = .int .i64 k ∧ W.ownsRow w.heap.size 38 1 (.slice (some ⟨w.heap.size, 0, none⟩) P.length P.length) P.length (toldB P k) ∧ Below w.heap.size w W) (fun i _ => P.length - (intOf i).toNat)
  case atStart => exact ⟨0, by omega, rfl, hr1, hb1⟩
  case round =>
    obtain ⟨k, hk, rfl, hr, hb⟩ := hrel
    clear hr1 hb1
    by_cases hlt : k < P.length
    · have e : P[k]? = some P[k] := List.getElem?_eq_getElem hlt
      have hw := h.below hb
      obtain ⟨g, c', ev, _, _, s0, s1, s2⟩ := hw.seg k _ e
      simp only [Value.slice.injEq, true_and] at ev
      obtain ⟨rfl, rfl⟩ := ev
      obtain ⟨ra, rc, er, _, _, _, _⟩ := row_reads (hw.recs k _ e).1
      have hset := toldB_set P k _ e
      have hgl : g < wr.heap.size := (hw.lo g (by rw [hw.os g rfl]; simp)).2
      generalize P[k] = p at *
      obtain ⟨⟨begin, rs⟩, rv⟩ := p
      simp only [] at *
      subst er
      have hfz := row_frozen hr k
      obtain ⟨_, _, er, _, _, _, r4⟩ := row_reads hr
      simp only [Value.slice.injEq, true_and] at er
      obtain ⟨rfl, rfl⟩ := er
      have hcell : ∃ u, wr.cell? ⟨w.heap.size, k, none⟩ = some u := by
        have hl : k < (toldB P k).length := by rw [toldB_len P k hk]; exact hlt
        obtain ⟨g', eg, hc⟩ := r4 k _ (List.getElem?_eq_getElem hl)
        simp only [Option.some.injEq, Addr.mk.injEq, and_true] at eg
        rw [eg]; exact ⟨_, hc⟩
      obtain ⟨u0, hu0⟩ := hcell
      have hwl : w.heap.size < wr.heap.size := World.block_lt_of_cell? wr _ hu0
      have hne : w.heap.size ≠ wr.heap.size := by omega
      have hlk : (k : Int) < (P.length : Int) := by omega
      have hcg : Chg (fun b => b = w.heap.size) wr (wr.setCell ⟨w.heap.size, k, none⟩ (.int .u64 (begin : Int))) := (Chg.refl _ _).put _ _ _ rfl
      have hr2 := World.ownsRow.alloc (row_set1 hr (g := w.heap.size) rfl k (.int .u64 (begin : Int))) (.cells #[.int .u64 (begin : Int), .int .i64 ((frs rs).length : Int), .slice ra rs.length rc] 80)
      rw [hset] at hr2
      have hb2 : Below w.heap.size w ((wr.setCell ⟨w.heap.size, k, none⟩ (.int .u64 (begin : Int))).alloc (.cells #[.int .u64 (begin : Int), .int .i64 ((frs rs).length : Int), .slice ra rs.length rc] 80)) := (hb.trans (hcg.below (fun b q => Nat.le_of_eq q.symm) hb.size)).alloc (by simp; omega) _
      have HR : Hid _ := And.intro hr2 hb2
      clear hr2 hb2 hcg hset r4 hr hw e
      go_wp2_with fail
      exact ⟨⟨k + 1, by omega, by go_num, HR.out.1, HR.out.2⟩, by simp [intOf]; omega⟩
    · obtain rfl : k = P.length := by omega
      go_wp2_with fail
      go_ret
      refine ⟨_, rfl, ?_, hb⟩
      have e : toldB P P.length = begins P := by
        have hl : (begins P).length = P.length := by simp [begins]
        unfold toldB
        rw [List.take_of_length_le (by omega), Nat.sub_self, List.replicate_zero, List.append_nil]
      rw [← e]; exact hr
end
end Go.Proofs.YtcielagfajdbeaaGreatDoor

/- A record more in a segment. -/
namespace Go.Proofs.YtcielagfajdbeaaGreatDoor
open Go.RowKit
set_option linter.unusedVariables false
set_option maxRecDepth 100000

theorem Tryz.infoBs : (Tryz.prog.info? 24).map (fun i => (i.zero, i.size, i.bytes)) = some (some (.slice none 0 0), 1, 24) := by kernel_rfl
theorem sgCs_set (P : List (Sg × Value)) (k : Nat) (p q : Sg × Value) (e : P[k]? = some p) (hb : q.1.1 = p.1.1) : ((sgCs P).set (k * 3 + 2) q.2).set (k * 3 + 1) (.int .i64 ((frs q.1.2).length : Int)) = sgCs (P.set k q) := by
  induction P generalizing k with
  | nil => simp at e
  | cons x P ih =>
    cases k with
    | zero =>
      simp at e; subst e
      simp [sgCs, sgC, hb]
    | succ k =>
      have := ih k (by simpa using e)
      rw [List.set_cons_succ]
      show _ = sgC x ++ sgCs (P.set k q)
      rw [← this, show sgCs (x :: P) = sgC x ++ sgCs P from rfl, show (k + 1) * 3 + 2 = 3 + (k * 3 + 2) by omega, show (k + 1) * 3 + 1 = 3 + (k * 3 + 1) by omega]
      rw [List.set_append_right _ _ (by rw [sgC_len]; omega), sgC_len, show 3 + (k * 3 + 2) - 3 = k * 3 + 2 by omega, List.set_append_right _ _ (by rw [sgC_len]; omega), sgC_len, show 3 + (k * 3 + 1) - 3 = k * 3 + 1 by omega]

section
variable {B l d size : Nat} {nm : ByteArray} {over : Bool} {sv : Value} {P : List (Sg × Value)} {U : Nat → List Value} {own : Nat → Option LRole} {w w' : World}
/-- Who is who behind it. -/
def ownAdd (own : Nat → Option LRole) (k : Nat) (rv v : Value) : Nat → Option LRole := fun b => open Classical in if rv.ownBlock = some b then some (.recs k) else if v.ownBlock = some b then some .data else own b
def recAdd (U : Nat → List Value) (k : Nat) (v : Value) : Nat → List Value := fun i => if i = k then U k ++ [v] else U i

theorem LgI.addRec {g c k begin : Nat} {rs : List (List UInt8)} {r : List UInt8} {rv rv' v : Value} {o : Obj} {w5 : World} (h : LgI B l d size nm over sv P U own w) (hv : sv = .slice (some ⟨g, 0, none⟩) P.length c) (e : P[k]? = some ((begin, rs), rv))
    (hg : (w.alloc o).grownBy w5 rv.ownBlock) (hrow : w5.ownsRow B 24 1 rv' (rs.length + 1) (U k ++ [v])) (hrv : rv'.ownBlock = rv.ownBlock ∨ rv'.ownBlock = some (w.alloc o).heap.size) (hd : Rd w v r) (hvb : ∀ b, v.ownBlock = some b → own b = none ∧ B ≤ b ∧ b < w.heap.size) :
    LgI B l d size nm over sv (P.set k ((begin, rs ++ [r]), rv')) (recAdd U k v) (ownAdd own k rv' v) ((w5.setCell ⟨g, k * 3 + 2, none⟩ rv').setCell ⟨g, k * 3 + 1, none⟩ (.int .i64 ((frs (rs ++ [r])).length : Int))) ∧ Chg (fun b => own b ≠ none) w ((w5.setCell ⟨g, k * 3 + 2, none⟩ rv').setCell ⟨g, k * 3 + 1, none⟩ (.int .i64 ((frs (rs ++ [r])).length : Int))) := by
  have hkl := (List.getElem?_eq_some_iff.1 e).1
  have za : (w.alloc o).heap.size = w.heap.size + 1 := by simp
  have og : own g = some .segs := h.os g (by rw [hv]; rfl)
  have orv : ∀ b, rv.ownBlock = some b → own b = some (.recs k) := fun b q => h.orr k _ b e q
  -- what has turned: rv's block and g
  have hc5 : Chg (fun b => rv.ownBlock = some b) w w5 := ((Chg.refl _ w).alloc o).trans ((Chg.of_grown (S := fun b => rv.ownBlock = some b) hg (fun b q _ => q)).mono (fun b _ q => .inl q))
  have hcg : Chg (fun b => b = g) w5 ((w5.setCell ⟨g, k * 3 + 2, none⟩ rv').setCell ⟨g, k * 3 + 1, none⟩ (.int .i64 ((frs (rs ++ [r])).length : Int))) := ((Chg.refl (fun b => b = g) w5).put g _ _ rfl).put g _ _ rfl
  have hcx : Chg (fun b => rv.ownBlock = some b ∨ b = g) w ((w5.setCell ⟨g, k * 3 + 2, none⟩ rv').setCell ⟨g, k * 3 + 1, none⟩ (.int .i64 ((frs (rs ++ [r])).length : Int))) := (hc5.mono (fun b _ q => Or.inl q)).trans (hcg.mono (fun b _ q => .inl (.inr q)))
  have z6 := hcx.size
  have hlt := World.ownsRow.lt hrow
  have hnew : ∀ b, rv'.ownBlock = some b → own b = some (.recs k) ∨ w.heap.size ≤ b := fun b q => by
    rcases hrv with q2 | q2
    · exact .inl (orv b (by rw [← q2]; exact q))
    · rw [q2] at q
      have := Option.some.inj q
      exact .inr (by omega)
  -- a block with another role is as it was
  have keep : ∀ b ro, own b = some ro → ro ≠ .segs → ro ≠ .recs k → ¬ (rv.ownBlock = some b ∨ b = g) := fun b ro q n1 n2 q2 => by
    rcases q2 with q2 | q2
    · rw [orv b q2] at q; exact n2 (Option.some.inj q).symm
    · rw [q2, og] at q; exact n1 (Option.some.inj q).symm
  have oth : ∀ b ro, own b = some ro → ro ≠ .recs k → ownAdd own k rv' v b = some ro := fun b ro q n => by
    unfold ownAdd
    have hb := (h.lo b (by rw [q]; simp)).2
    rw [if_neg (fun q2 => by rcases hnew b q2 with q3 | q3; rw [q] at q3; exact n (Option.some.inj q3); omega), if_neg (fun q2 => by rw [(hvb b q2).1] at q; cases q), q]
  have hvr : ∀ b, v.ownBlock = some b → ownAdd own k rv' v b = some .data := fun b q => by
    unfold ownAdd
    rw [if_neg (fun q2 => by
      rcases hnew b q2 with q3 | q3
      · rw [(hvb b q).1] at q3; cases q3
      · have := (hvb b q).2.2; omega), if_pos q]
  have hsvl : g < w.heap.size := (h.lo g (by rw [og]; simp)).2
  refine ⟨⟨?_, ?_, ?_, ?_, oth l .log h.ol (by simp), fun b q => oth b .segs (h.os b q) (by simp), ?_, ?_, ?_⟩, hcx.mono (fun b _ q => ?_)⟩
  · rw [hcx.block l (h.lo l (by rw [h.ol]; simp)).2 (keep l .log h.ol (by simp) (by simp))]; exact h.cell
  · have h5 : w5.ownsRow B 80 3 sv P.length (sgCs P) := ownsRow_keptC h.row hc5 (fun b q q2 => by have := orv b q2; rw [h.os b q] at this; cases this)
    have h6 := row_set1 (row_set1 h5 (g := g) (by rw [hv]; rfl) (k * 3 + 2) rv') (g := g) (by rw [hv]; rfl) (k * 3 + 1) (.int .i64 ((frs (rs ++ [r])).length : Int))
    rw [sgCs_set P k _ ((begin, rs ++ [r]), rv') e rfl] at h6
    rw [List.length_set]; exact h6
  · intro i p q
    by_cases ik : i = k
    · subst ik
      rw [List.getElem?_set_self hkl] at q
      obtain rfl := Option.some.inj q
      have hl := (h.recs i _ e).2
      refine ⟨?_, by simp [recAdd]; exact hl⟩
      have hq : recAdd U i v i = U i ++ [v] := by simp [recAdd]
      rw [hq]
      simp only [List.length_append, List.length_singleton]
      exact ownsRow_keptC hrow hcg (fun b q q2 => by
        rcases hnew b q with q3 | q3
        · rw [q2, og] at q3; cases q3
        · omega)
    · rw [List.getElem?_set_ne (fun q => ik q.symm)] at q
      have hq : recAdd U k v i = U i := by simp [recAdd, ik]
      rw [hq]
      exact ⟨ownsRow_keptC (h.recs i p q).1 hcx (fun b q2 => keep b _ (h.orr i p b q q2) (by simp) (by simpa using ik)), (h.recs i p q).2⟩
  · intro i p j u s q1 q2 q3
    by_cases ik : i = k
    · subst ik
      rw [List.getElem?_set_self hkl] at q1
      obtain rfl := Option.some.inj q1
      have hl := (h.recs i _ e).2
      simp only [] at hl
      have hq : recAdd U i v i = U i ++ [v] := by simp [recAdd]
      rw [hq] at q2
      simp only [] at q3
      by_cases hj : j < rs.length
      · rw [List.getElem?_append_left (by omega)] at q2
        rw [List.getElem?_append_left hj] at q3
        exact (h.data i _ j u s e q2 q3).keptC hcx (fun b q => keep b _ (h.od i _ u b e (List.mem_of_getElem? q2) q) (by simp) (by simp))
      · have hj2 : j = rs.length := by
          have := (List.getElem?_eq_some_iff.1 q3).1
          simp at this
          omega
        subst hj2
        rw [List.getElem?_append_right (by omega), hl, Nat.sub_self] at q2
        rw [List.getElem?_append_right (by omega), Nat.sub_self] at q3
        simp at q2 q3
        subst q2; subst q3
        refine hd.keptC hcx (fun b q q4 => ?_)
        have hn := (hvb b q).1
        rcases q4 with q4 | q4
        · rw [orv b q4] at hn; cases hn
        · rw [q4, og] at hn; cases hn
    · rw [List.getElem?_set_ne (fun q => ik q.symm)] at q1
      have hq : recAdd U k v i = U i := by simp [recAdd, ik]
      rw [hq] at q2
      exact (h.data i p j u s q1 q2 q3).keptC hcx (fun b q => keep b _ (h.od i p u b q1 (List.mem_of_getElem? q2) q) (by simp) (by simp))
  · intro i p b q1 q2
    by_cases ik : i = k
    · subst ik
      rw [List.getElem?_set_self hkl] at q1
      obtain rfl := Option.some.inj q1
      unfold ownAdd
      rw [if_pos q2]
    · rw [List.getElem?_set_ne (fun q => ik q.symm)] at q1
      exact oth b _ (h.orr i p b q1 q2) (by simpa using ik)
  · intro i p u b q1 q2 q3
    by_cases ik : i = k
    · subst ik
      have hq : recAdd U i v i = U i ++ [v] := by simp [recAdd]
      rw [hq] at q2
      rcases List.mem_append.1 q2 with m | m
      · exact oth b _ (h.od i _ u b e m q3) (by simp)
      · rw [List.mem_singleton.1 m] at q3
        exact hvr b q3
    · rw [List.getElem?_set_ne (fun q => ik q.symm)] at q1
      have hq : recAdd U k v i = U i := by simp [recAdd, ik]
      rw [hq] at q2
      exact oth b _ (h.od i p u b q1 q2 q3) (by simp)
  · intro b hb
    unfold ownAdd at hb
    by_cases q : rv'.ownBlock = some b
    · have := hlt b q
      have z5 := hcg.size
      omega
    · rw [if_neg q] at hb
      by_cases q2 : v.ownBlock = some b
      · have := hvb b q2; omega
      · rw [if_neg q2] at hb
        have := h.lo b hb; omega
  · rcases q with q | q
    · rw [orv b q]; simp
    · rw [q, og]; simp

set_option maxHeartbeats 1000000 in
theorem segadd_any {g c k begin : Nat} {rs : List (List UInt8)} {r : List UInt8} {rv v : Value} (h : LgI B l d size nm over sv P U own w) (hv : sv = .slice (some ⟨g, 0, none⟩) P.length c) (e : P[k]? = some ((begin, rs), rv)) (hd : Rd w v r) (hvb : ∀ b, v.ownBlock = some b → own b = none ∧ B ≤ b ∧ b < w.heap.size) (hl : rs.length ≤ 1048576) (hs : (frs rs).length + (M.frame r).length ≤ 1099511627776) :
    Calls Tryz.prog 40 #[.pointer (some ⟨g, k * 3, none⟩), v, .int .i64 ((M.frame r).length : Int)] w fun e w' => (∃ u, e = .returned u) ∧ (∃ rv', LgI B l d size nm over sv (P.set k ((begin, rs ++ [r]), rv')) (recAdd U k v) (ownAdd own k rv' v) w' ∧ ∀ b, rv'.ownBlock = some b → own b = some (.recs k) ∨ w.heap.size ≤ b) ∧ Chg (fun b => own b ≠ none) w w' := by
  obtain ⟨g', c', ev, _, _, s0, s1, s2⟩ := h.seg k _ e
  rw [hv] at ev
  simp only [Value.slice.injEq, Option.some.injEq, Addr.mk.injEq, and_true, true_and] at ev
  obtain ⟨rfl, rfl⟩ := ev
  simp only [] at s0 s1 s2
  obtain ⟨hr, hul⟩ := h.recs k _ e
  simp only [] at hr hul
  have og : own g = some .segs := h.os g (by rw [hv]; rfl)
  have hgl : g < w.heap.size := (h.lo g (by rw [og]; simp)).2
  have hBw : B ≤ w.heap.size := by have := (h.lo g (by rw [og]; simp)).1; omega
  have hgr : some g ≠ rv.ownBlock := fun q => by have := h.orr k _ g e q.symm; rw [og] at this; cases this
  have hfr := hv ▸ h.row
  have z1 := row_frozen hfr (k * 3 + 1)
  have z2 := row_frozen hfr (k * 3 + 2)
  have hgw : g ≠ w.heap.size := by omega
  have hd' := hd
  obtain ⟨va, vc, rfl, _⟩ := hd'
  obtain ⟨ra, rc, er, r1, r2, _, _⟩ := row_reads hr
  subst er
  have hsum : ((frs rs).length : Int) + ((M.frame r).length : Int) = ((frs (rs ++ [r])).length : Int) := by rw [frs_snoc, List.length_append]; omega
  have hb1 : ((frs rs).length : Int) ≤ 1099511627776 ∧ ((M.frame r).length : Int) ≤ 1099511627776 := by omega
  have H : Hid _ := And.intro h (And.intro hd hvb)
  have hrow := World.ownsRow.alloc hr (.cells #[.slice va r.length vc] 24)
  have hop : ∀ b, (Value.slice ra rs.length rc).ownBlock = some b → own b = some (.recs k) := fun b q => h.orr k _ b e q
  clear h hd hvb hfr
  generalize (frs rs).length = L0 at *
  generalize (M.frame r).length = L1 at *
  go_enter Tryz.func40, Tryz.ntmps40
  go_wp2_with (first
    | (at_builtin; refine wpList_app1 rfl _ _ 35 rfl B 24 (.slice none 0 0) 24 Tryz.underlying35 Tryz.infoBs rfl (.slice ra rs.length rc) rs.length (U k) rfl hrow ⟨w.heap.size, 0, none⟩ 1 (.slice va r.length vc) rfl (by rw [World.cell?_alloc_at _ _ _ _ rfl]; rfl) rfl (by unfold maxLen; omega) (by omega) (by simp; omega) ?_; intro v5 w5 ho5 hg5 hv5; have q5 : w5.heap[g]? = w.heap[g]? := (hg5.block g (by simp; omega) hgr).trans (Below.heap_alloc w _ _ hgl); have m1 : w5.cell? ⟨g, k * 3 + 1, none⟩ = some (.int .i64 (L0 : Int)) := (World.cell?_of_block q5).trans s1; have m2 : w5.cell? ⟨g, k * 3 + 2, none⟩ = some (.slice ra rs.length rc) := (World.cell?_of_block q5).trans s2; have mz1 : w5.frozen? ⟨g, k * 3 + 1, none⟩ = false := (World.frozen?_of_block q5).trans z1; have mz2 : w5.frozen? ⟨g, k * 3 + 2, none⟩ = false := (World.frozen?_of_block q5).trans z2; have hsh : ∃ a5 n5 c5, v5 = .slice a5 n5 c5 := (by obtain ⟨a5, c5, e5, _⟩ := row_reads ho5; exact ⟨_, _, _, e5⟩); obtain ⟨a5, n5, c5, rfl⟩ := hsh)
    | fail)
  go_end0
  obtain ⟨h, hd, hvb⟩ := H.out
  obtain ⟨hA, hC⟩ := h.addRec hv e hg5 ho5 hv5 hd hvb
  refine ⟨⟨_, rfl⟩, ⟨_, hA, fun b q => ?_⟩, hC⟩
  rcases hv5 with q2 | q2
  · exact .inl (hop b (by rw [← q2]; exact q))
  · rw [q2] at q
    have e2 := Option.some.inj q
    simp at e2
    exact .inr (by omega)
end
end Go.Proofs.YtcielagfajdbeaaGreatDoor

/- Lists of byte slices in memory. -/
namespace Go.Proofs.YtcielagfajdbeaaGreatDoor
open Go.RowKit
set_option linter.unusedVariables false
set_option maxRecDepth 100000

/-- The slice value v reads as these texts. -/
def Rds (w : World) (v : Value) (ls : List (List UInt8)) : Prop :=
  ∃ ao c, v = .slice ao ls.length c ∧ ls.length ≤ c ∧ c ≤ maxLen ∧ ∀ i, (h : i < ls.length) → ∃ a u, ao = some a ∧ w.cell? (a.add i) = some u ∧ Rd w u ls[i]

theorem Rds.below {B : Nat} {w w' : World} {v : Value} {ls : List (List UInt8)} (h : Rds w v ls) (hb : Below B w w') (hB : w.heap.size ≤ B) : Rds w' v ls := by
  obtain ⟨ao, c, h0, h1, h2, h4⟩ := h
  refine ⟨ao, c, h0, h1, h2, fun i hi => ?_⟩
  obtain ⟨a, u, e, hc, hr⟩ := h4 i hi
  have hlt := World.block_lt_of_cell? w _ hc
  exact ⟨a, u, e, by rw [hb.cell (by omega)]; exact hc, hr.below hb hB⟩
end Go.Proofs.YtcielagfajdbeaaGreatDoor

/- How a list of byte slices that came in is read: as 'Rds', with a bound on all its bytes by the input's bulk. -/
namespace Go.Proofs.YtcielagfajdbeaaGreatDoor
open Go.ChangeShapes Go.WideShapes Go.ChangeAt Go.RowKit
set_option linter.unusedVariables false
set_option maxRecDepth 100000

/-- All bytes of a list, and one more a text. -/
def tot : List (List UInt8) → Nat
  | [] => 0
  | f :: r => f.length + 1 + tot r
theorem tot_len (ls : List (List UInt8)) : ls.length ≤ tot ls := by
  induction ls with
  | nil => simp [tot]
  | cons f r ih => simp only [tot, List.length_cons]; omega
theorem tot_mem (ls : List (List UInt8)) (f : List UInt8) (h : f ∈ ls) : f.length ≤ tot ls := by
  induction ls with
  | nil => cases h
  | cons g r ih =>
    rcases List.mem_cons.1 h with rfl | h
    · simp only [tot]; omega
    · have := ih h; simp only [tot]; omega
theorem tot_row (ls : List (List UInt8)) : (M.rowB ls).length ≤ 11 * tot ls := by
  induction ls with
  | nil => simp [M.rowB]
  | cons f r ih => have := vi_len f.length; simp only [tot, M.rowB, List.length_append]; omega

/-- One slice of bytes among the cells that came in. -/
theorem open_bytes_cs {H : Type} {enc : TypeId × Value → H} {W : World} {fuel : Nat} {cs : List Value} {x : DataW H × List MemPlace} (hf : DataW.trod enc Tryz.prog W 0 (fun _ => true) true fuel 24 cs = some x) :
    ∃ u l, cs = [u] ∧ Rd W u l ∧ l.length + 1 ≤ Rows.uptoBulk x.1 := by
  rcases open_ints Tryz.underlying24 Tryz.underlying5 (by kernel_rfl) hf with ⟨hcs, hx⟩ | ⟨a, len, cap, zs, hcs, _, hl, hm, hz, hd, hcell, hwz⟩
  · subst hx
    exact ⟨_, [], hcs, Rd.nil _, by simp [Rows.uptoBulk]⟩
  · have hz' : zs.length = cap := by simpa using hz
    have hlen : ((zs.take len).map (fun z => UInt8.ofNat z.toNat)).length = len := by simp; omega
    refine ⟨_, (zs.take len).map (fun z => UInt8.ofNat z.toNat), hcs, Rd.mk hlen.symm (by omega) hm (fun i hi => ?_), ?_⟩
    · have hi' : i < zs.length := by omega
      rw [hcell i hi']
      have hw := hwz (zs[i]) (List.getElem_mem hi')
      have hx : 0 ≤ zs[i] ∧ zs[i] ≤ 255 := by simpa [Lit.wf, IntKind.min, IntKind.max, IntKind.signed, IntKind.bits] using hw
      have e : zs.getD i 0 = zs[i] := by simp [hi']
      rw [e]
      simp only [List.getElem_map, List.getElem_take]
      rw [M.u8_ofNat]
      congr 2
      omega
    · rw [hlen, hd]
      have := bulk_ge (H := H) (lits .u8 (zs.take len))
      simp only [Rows.uptoBulk]
      simp only [lits, List.length_map, List.length_take] at this
      simp only [lits]
      omega

theorem tot_bulk {H : Type} : ∀ (elems : List (DataW H × List MemPlace)) (ls : List (List UInt8)), ls.length = elems.length → (∀ (i : Nat) (y : DataW H × List MemPlace) (l : List UInt8), elems[i]? = some y → ls[i]? = some l → l.length + 1 ≤ Rows.uptoBulk y.1) → tot ls ≤ Rows.uptoBulkAll (elems.map (·.1))
  | [], [], _, _ => by simp [tot, Rows.uptoBulkAll]
  | y :: ys, l :: ls, hlen, h => by
    have h0 := h 0 y l rfl rfl
    have ih := tot_bulk ys ls (by simpa using hlen) (fun i y' l' e1 e2 => h (i + 1) y' l' (by simpa using e1) (by simpa using e2))
    simp only [tot, List.map_cons, Rows.uptoBulkAll]
    omega

/-- A list of byte slices that came in. -/
theorem open_lists {H : Type} {enc : TypeId × Value → H} {W : World} {a0 : Option Addr} {len cap : Nat} {d : DataW H} {p : List MemPlace} (h : DataW.Trod enc Tryz.prog W 0 (fun _ => true) true 35 (.slice a0 len cap) d p) :
    ∃ ls : List (List UInt8), Rds W (.slice a0 len cap) ls ∧ tot ls ≤ Rows.uptoBulk d := by
  obtain ⟨fuel, hf⟩ := h
  have hc1 : Tryz.prog.cellsOf 24 = 1 := by kernel_rfl
  rcases DataW.trod_slice Tryz.underlying35 hf with ⟨hcs, hx⟩ | ⟨a, len', cap', elems, rest, n, _, hcs, hx, _, hl, hm, hlen, hel, _, _⟩
  · simp [Value.cells] at hcs
    obtain ⟨rfl, rfl, rfl⟩ := hcs
    exact ⟨[], ⟨none, 0, rfl, by simp, by simp, fun i hi => by simp at hi⟩, by simp [tot]⟩
  · simp [Value.cells] at hcs
    obtain ⟨rfl, rfl, rfl⟩ := hcs
    have each : ∀ i, i < len → ∃ ul : Value × List UInt8, W.cell? (a.add i) = some ul.1 ∧ Rd W ul.1 ul.2 ∧ ∀ y, elems[i]? = some y → ul.2.length + 1 ≤ Rows.uptoBulk y.1 := by
      intro i hi
      have h1 := hel i hi
      rw [hc1, Nat.mul_one, List.getElem?_eq_getElem (by omega), Option.bind_eq_some_iff] at h1
      obtain ⟨cs, h2, h3⟩ := h1
      obtain ⟨u, l, rfl, hr, hb⟩ := open_bytes_cs h3
      refine ⟨(u, l), cell_of_cells?_one h2, hr, fun y hy => ?_⟩
      rw [List.getElem?_eq_getElem (by omega)] at hy
      obtain rfl := Option.some.inj hy
      exact hb
    have hall : ∃ g : Nat → Value × List UInt8, ∀ i, i < len → W.cell? (a.add i) = some (g i).1 ∧ Rd W (g i).1 (g i).2 ∧ ∀ y, elems[i]? = some y → (g i).2.length + 1 ≤ Rows.uptoBulk y.1 := by
      refine ⟨fun i => if h : i < len then Classical.choose (each i h) else (undef, []), fun i hi => ?_⟩
      simp only [dif_pos hi]
      exact Classical.choose_spec (each i hi)
    obtain ⟨g, hg⟩ := hall
    have hgl : ((List.range len).map (fun i => (g i).2)).length = len := by simp
    refine ⟨(List.range len).map (fun i => (g i).2), ⟨some a, cap, by rw [hgl], by omega, hm, fun i hi => ?_⟩, ?_⟩
    · have hi' : i < len := by omega
      refine ⟨a, (g i).1, rfl, (hg i hi').1, ?_⟩
      simpa using (hg i hi').2.1
    · have := tot_bulk elems ((List.range len).map (fun i => (g i).2)) (by rw [hgl, hlen]) (fun i y l e1 e2 => by
        have hi : i < len := by have := (List.getElem?_eq_some_iff.1 e1).1; omega
        have e3 : ((List.range len).map (fun i => (g i).2))[i]? = some (g i).2 := by simp [hi]
        rw [e3] at e2
        obtain rfl := Option.some.inj e2
        exact (hg i hi).2.2 y e1)
      have hd : d = .slice (elems.map (·.1)) (rest.map (·.1)) := congrArg Prod.fst hx
      rw [hd]
      simp only [Rows.uptoBulk]
      omega
end Go.Proofs.YtcielagfajdbeaaGreatDoor

/- Frames of which a byte is turned; numbers of which 62 bits are taken. -/
namespace Go.Proofs.YtcielagfajdbeaaGreatDoor
open Go.RowKit
set_option linter.unusedVariables false
set_option maxRecDepth 100000

theorem and62 (x : Int) : ∃ m : Nat, m < 4611686018427387904 ∧ bits .and .i64 x 4611686018427387903 = (m : Int) := by
  have h1 : (BitVec.ofInt 64 (4611686018427387903 : Int)).toNat = 4611686018427387903 := by decide
  have h2 : ((BitVec.ofInt 64 x) &&& (BitVec.ofInt 64 (4611686018427387903 : Int))).toNat ≤ 4611686018427387903 := by
    rw [BitVec.toNat_and, h1]; exact Nat.and_le_right
  refine ⟨((BitVec.ofInt 64 x) &&& (BitVec.ofInt 64 (4611686018427387903 : Int))).toNat, by omega, ?_⟩
  have hb : bits .and .i64 x 4611686018427387903 = IntKind.i64.wrap ((((BitVec.ofInt 64 x) &&& (BitVec.ofInt 64 (4611686018427387903 : Int))).toNat : Nat) : Int) := rfl
  rw [hb]
  generalize ((BitVec.ofInt 64 x) &&& (BitVec.ofInt 64 (4611686018427387903 : Int))).toNat = m at *
  exact IntWalk.i64_in _ ⟨by omega, by omega⟩

theorem Ow.at {B : Nat} {w : World} {v : Value} {l : List UInt8} (h : Ow B w v l) (h0 : 0 < l.length) : ∃ g c, v = .slice (some ⟨g, 0, none⟩) l.length c ∧ B ≤ g ∧ l.length ≤ c ∧ c ≤ maxLen := by
  rcases h.2 with ⟨_, e⟩ | ⟨g, cap, cur, e, hg, hh, hn, hm, _⟩
  · omega
  · exact ⟨g, cap, e, hg, hn, hm⟩
theorem Ow.put {B g n c : Nat} {w : World} {l : List UInt8} (h : Ow B w (.slice (some ⟨g, 0, none⟩) n c) l) (hn : n = l.length) (i : Nat) (x : UInt8) (z : Int) (hz : z = (x.toNat : Int)) : Ow B (w.setCell ⟨g, i, none⟩ (.int .u8 z)) (.slice (some ⟨g, 0, none⟩) n c) (l.set i x) := by
  subst hn
  have := (World.ownsRow.stored h i (.int .u8 z)).1
  unfold Ow
  subst hz
  simpa [cel, List.map_set] using this

/-- The frame of l with one byte behind its length turned is refused by its sum. -/
theorem turned_refused (l : List UInt8) (j : Nat) (hj : j < 4 + l.length) (τ : UInt8) (hτ : τ ≠ 0) (hl : l.length < 18446744073709551616) (hat : (M.vi l.length).length + j < (M.frame l).length) :
    M.tf ((M.frame l).set ((M.vi l.length).length + j) ((M.frame l)[(M.vi l.length).length + j] ^^^ τ)) = ([], [], 11) := by
  have hxne : ∀ x : UInt8, x ^^^ τ ≠ x := fun x e => hτ (by
    have := congrArg (fun y => x ^^^ y) e
    simpa [← UInt8.xor_assoc] using this)
  have e0 : (M.frame l).set ((M.vi l.length).length + j) ((M.frame l)[(M.vi l.length).length + j] ^^^ τ) = M.vi l.length ++ ((M.be 4 (M.crc l) ++ l).set j (((M.be 4 (M.crc l) ++ l)[j]'(by simp [M.be_length]; omega)) ^^^ τ)) := by
    have hg : (M.frame l)[(M.vi l.length).length + j] = (M.be 4 (M.crc l) ++ l)[j]'(by simp [M.be_length]; omega) := by
      have : M.frame l = M.vi l.length ++ (M.be 4 (M.crc l) ++ l) := by simp [M.frame]
      simp only [this]
      rw [List.getElem_append_right (by omega)]
      congr 1
      omega
    rw [hg, show M.frame l = M.vi l.length ++ (M.be 4 (M.crc l) ++ l) by simp [M.frame], List.set_append_right _ _ (by omega), Nat.add_sub_cancel_left]
  rw [e0]
  by_cases h4 : j < 4
  · rw [List.set_append_left _ _ (by rw [M.be_length]; exact h4)]
    refine M.tf_turned _ _ _ hl (by simp [M.be_length]) rfl ?_
    intro e
    have hc : M.num (M.be 4 (M.crc l)) = M.crc l := M.num_be 4 _ (by have := M.crc_lt l; simpa using this)
    have := M.num_inj _ _ (by simp) (hc.trans e).symm
    have h2 := congrArg (fun y => y[j]?) this
    rw [List.getElem?_set_self (by rw [M.be_length]; exact h4), List.getElem?_eq_getElem (by rw [M.be_length]; exact h4), List.getElem_append_left (by rw [M.be_length]; exact h4)] at h2
    exact hxne _ (Option.some.inj h2)
  · obtain ⟨i, rfl⟩ : ∃ i, j = 4 + i := ⟨j - 4, by omega⟩
    have hi : i < l.length := by omega
    have hb4 := M.be_length 4 (M.crc l)
    have hgi : ((M.be 4 (M.crc l) ++ l)[4 + i]'(by simp [M.be_length]; omega)) = l[i] := by
      rw [List.getElem_append_right (by omega)]
      congr 1
      omega
    rw [hgi, List.set_append_right _ _ (by omega), show 4 + i - (M.be 4 (M.crc l)).length = i by omega]
    refine M.tf_turned _ _ _ hl hb4 (by simp) ?_
    rw [M.num_be 4 _ (by have := M.crc_lt l; simpa using this)]
    intro e
    have hz : M.zx (l.set i (l[i] ^^^ τ)) l = List.replicate i 0 ++ [τ] ++ List.replicate (l.length - (i + 1)) 0 := by
      have e1 : l.set i (l[i] ^^^ τ) = l.take i ++ [l[i] ^^^ τ] ++ l.drop (i + 1) := by rw [List.set_eq_take_append_cons_drop, if_pos hi]; simp
      have e2 : l.take i ++ [l[i]] ++ l.drop (i + 1) = l := by simp
      have e3 : M.zx (l.set i (l[i] ^^^ τ)) l = M.zx (l.take i ++ [l[i] ^^^ τ] ++ l.drop (i + 1)) (l.take i ++ [l[i]] ++ l.drop (i + 1)) := by rw [e1, e2]
      rw [e3, M.zx_mid (l.take i) [l[i] ^^^ τ] [l[i]] (l.drop (i + 1)) rfl, List.length_take, List.length_drop, Nat.min_eq_left (by omega)]
      have e4 : M.zx [l[i] ^^^ τ] [l[i]] = [τ] := by
        show [(l[i] ^^^ τ) ^^^ l[i]] = [τ]
        rw [UInt8.xor_comm l[i] τ, UInt8.xor_assoc, UInt8.xor_self, UInt8.xor_zero]
      rw [e4]
    have := (M.crc_burst _ l (by simp) i (l.length - (i + 1)) [τ] (by simp) hz).1 e τ (by simp)
    exact hτ this

theorem turn_put {B g n c : Nat} {w : World} {F : List UInt8} (h : Ow B w (.slice (some ⟨g, 0, none⟩) n c) F) (hn : n = F.length) (A : Nat) (hA : A < F.length) (τ : UInt8) :
    Ow B (w.setCell ⟨g, A, none⟩ (.int .u8 (bits BinOp.xor IntKind.u8 (F[A].toNat : Int) (τ.toNat : Int)))) (.slice (some ⟨g, 0, none⟩) n c) (F.set A (F[A] ^^^ τ)) :=
  h.put hn A (F[A] ^^^ τ) _ (by rw [u8_xor_nat _ _ F[A].toNat_lt τ.toNat_lt, UInt8.toNat_xor])
end Go.Proofs.YtcielagfajdbeaaGreatDoor

/- What the log asks of a living disk besides: Remove of no file, Names. -/
namespace Go.Proofs.YtcielagfajdbeaaGreatDoor
open Go.RowKit
set_option linter.unusedVariables false
set_option maxRecDepth 100000

section
variable {B d n : Nat} {own : Nat → Option Role} {st : Nm → Option (List UInt8 × Nat)} {sz : Nat} {left : Int} {w : World}
theorem remove_noW (h : Dk B d n own st sz (alive d) left w) (s : ByteArray) (hs : s.size ≤ maxLen) (e : st s.data.toList = none) :
    Calls Tryz.prog 28 #[.pointer (some ⟨d, 0, none⟩), .string s] w fun e w' => e = .returned (.int .i64 20) ∧ ∃ q, w' = w.drewN q := by
  have hrf := fun q => refuseFile_any (h.drN q) s hs
  obtain ⟨m, D, fb, fv, h⟩ := h
  have c2 : w.cell? ⟨d, 2, none⟩ = some (.func (.func 31) #[.pointer (some ⟨d, 0, none⟩)] #[]) := by rw [cell_of_row _ _ _ _ _ _ h.cell]; rfl
  simp only [e, if_true] at hrf
  have hne : (20 : Int) ≠ 0 := by decide
  have hne2 : ((20 : Int) != 0) = true := by decide
  generalize (20 : Int) = v at *
  clear h
  go_enter Tryz.func28, Tryz.ntmps28
  go_wp2_with fail
  go_quiet (first | (go_at_call 50; refine Calls.quiet_of (v := .int .i64 v) (hrf _)) | (go_at_call 31; refine Calls.quiet_of_same (v := .int .i64 v) (alive_any _ _ _ _)) | fail)
  go_wp2_with fail
  go_ret
  exact ⟨rfl, _, rfl⟩
theorem namesQ_aliveW (h : Dk B d n own st sz (alive d) left w) {L : List Nm} (hL : NamesOf st L) (hn : n ≤ 1099511627776) :
    Calls Tryz.prog 61 #[.pointer (some ⟨d, 0, none⟩)] w fun e w' => ∃ v, e = .returned v ∧ w'.ownsRow w.heap.size 9 1 v L.length (L.map encStr) ∧ Below w.heap.size w w' := by
  go_enter Tryz.func61, Tryz.ntmps61
  go_wp2_with fail
  refine (dead_alive h).mono ?_
  rintro e w1 ⟨rfl, q1, rfl⟩
  go_wp2_with fail
  refine (names_any (h.drN q1) hL hn).mono ?_
  rintro e w2 ⟨v2, rfl, ho2, hb2⟩
  go_wp2_with fail
  go_ret
  exact ⟨_, rfl, ho2, Below.tr (Below.dN w q1) hb2⟩
end
end Go.Proofs.YtcielagfajdbeaaGreatDoor

/- Frames taken off the beginning of bytes: mathematics alone. -/
namespace Go.Proofs.YtcielagfajdbeaaGreatDoor.M
set_option linter.unusedVariables false

theorem cont_pre : ∀ (k n m : Nat), n < (viF k m).length → cont (k + 1) ((viF k m).take n) = n
  | 0, n, m, h => by
    obtain rfl : n = 0 := by simp [viF] at h; omega
    rfl
  | k + 1, 0, m, h => rfl
  | k + 1, n + 1, m, h => by
    by_cases hm : m < 128
    · rw [viF, if_pos hm] at h; simp at h
    · have e : (UInt8.ofNat (m % 128 + 128)).toNat = m % 128 + 128 := by rw [UInt8.toNat_ofNat']; omega
      rw [viF, if_neg hm] at h ⊢
      rw [List.take_succ_cons, cont, if_pos (by rw [e]; omega), cont_pre k n (m / 128) (by simpa using h)]
theorem tv_pre (L n : Nat) (h : n < (vi L).length) : tv ((vi L).take n) = (0, [], 10) := by
  have h1 := viF_length 9 L
  have h2 : (vi L).length ≤ 10 := h1
  have hc : cont 10 ((vi L).take n) = n := cont_pre 9 n L h
  unfold tv
  simp only []
  rw [hc, if_neg (by omega), if_pos (by rw [List.length_take]; omega)]
theorem tf_pre (r : List UInt8) (n : Nat) (hr : r.length < 18446744073709551616) (h : n < (frame r).length) : tf ((frame r).take n) = ([], [], 10) := by
  have h4 := be_length 4 (crc r)
  by_cases hn : n < (vi r.length).length
  · have e : (frame r).take n = (vi r.length).take n := by
      unfold frame
      rw [List.append_assoc, List.take_append_of_le_length (by omega)]
    rw [e]
    unfold tf
    simp only []
    rw [tv_pre _ _ hn]
    simp
  · obtain ⟨m, rfl⟩ : ∃ m, n = (vi r.length).length + m := ⟨n - (vi r.length).length, by omega⟩
    have hm : m < 4 + r.length := by
      unfold frame at h
      simp only [List.length_append] at h
      omega
    have e : (frame r).take ((vi r.length).length + m) = vi r.length ++ (be 4 (crc r) ++ r).take m := by
      unfold frame
      rw [List.append_assoc, List.take_length_add_append]
    have hx : ((be 4 (crc r) ++ r).take m).length = m := by rw [List.length_take, List.length_append]; omega
    rw [e]
    unfold tf
    simp only []
    rw [tv_vi _ _ hr]
    simp only [ne_eq, not_true_eq_false, if_false]
    rw [hx]
    by_cases h5 : m < 4
    · rw [if_pos h5]
    · rw [if_neg h5, if_pos (by rw [List.length_drop, hx]; omega)]

/-- The frame with which bytes begin: its record, how many bytes it takes. -/
def tkf (b : List UInt8) : Option (List UInt8 × Nat) := if (tf b).2.2 = 0 then some ((tf b).1, b.length - (tf b).2.1.length) else none
theorem frame_pos (r : List UInt8) : 0 < (frame r).length := by
  have h4 := be_length 4 (crc r)
  simp only [frame, List.length_append]
  omega
theorem tkf_frame (r rest : List UInt8) (hr : r.length < 18446744073709551616) : tkf (frame r ++ rest) = some (r, (frame r).length) := by
  unfold tkf
  rw [tf_back r rest hr]
  simp
theorem tkf_nil : tkf [] = none := by decide +kernel
/-- What a beginning tells of the whole. -/
theorem tkf_take (b : List UInt8) (n : Nat) (hn : n ≤ b.length) (hb : b.length < 18446744073709551616) :
    ((tf (b.take n)).2.2 = 0 → tkf b = some ((tf (b.take n)).1, n - (tf (b.take n)).2.1.length)) ∧ ((tf (b.take n)).2.2 ≠ 0 → (tf (b.take n)).2.2 ≠ 10 → tkf b = none) ∧ ((tf (b.take n)).2.2 ≠ 0 → n = b.length → tkf b = none) := by
  refine ⟨fun h => ?_, fun h h10 => ?_, fun h hl => ?_⟩
  · have hf := tf_form (b.take n) h
    have hlen := congrArg List.length hf
    rw [List.length_append, List.length_take, Nat.min_eq_left hn] at hlen
    have hrl : (tf (b.take n)).1.length < 18446744073709551616 := by
      have : (tf (b.take n)).1.length ≤ (frame (tf (b.take n)).1).length := by unfold frame; simp only [List.length_append]; omega
      omega
    have hb2 : b = frame (tf (b.take n)).1 ++ ((tf (b.take n)).2.1 ++ b.drop n) := by
      rw [← List.append_assoc, hf, List.take_append_drop]
    have := tkf_frame (tf (b.take n)).1 ((tf (b.take n)).2.1 ++ b.drop n) hrl
    rw [← hb2] at this
    rw [this]
    simp only [Option.some.injEq, Prod.mk.injEq, true_and]
    omega
  · unfold tkf
    rw [if_neg]
    intro h0
    have hf := tf_form b h0
    have hrl : (tf b).1.length < 18446744073709551616 := by
      have h1 : (tf b).1.length ≤ (frame (tf b).1).length := by unfold frame; simp only [List.length_append]; omega
      have h2 := congrArg List.length hf
      rw [List.length_append] at h2
      omega
    rcases Nat.lt_or_ge n (frame (tf b).1).length with a | a
    · have e : b.take n = (frame (tf b).1).take n := by
        conv => lhs; rw [← hf]
        rw [List.take_append_of_le_length (by omega)]
      rw [e, tf_pre _ _ hrl a] at h10
      exact h10 rfl
    · have e : b.take n = frame (tf b).1 ++ (tf b).2.1.take (n - (frame (tf b).1).length) := by
        conv => lhs; rw [← hf]
        rw [List.take_append, List.take_of_length_le a]
      rw [e, tf_back _ _ hrl] at h
      exact h rfl
  · subst hl
    rw [List.take_length] at h
    unfold tkf
    rw [if_neg h]
end Go.Proofs.YtcielagfajdbeaaGreatDoor.M
