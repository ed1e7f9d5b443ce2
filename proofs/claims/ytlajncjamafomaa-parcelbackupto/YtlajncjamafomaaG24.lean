/- What number, Sum, bytes.Clone and the document's Copy answer of any bytes. -/
import Derived.Test.YtlajncjamafomaaG22
import Derived.Lib.SliceRun
namespace Go.Proofs.Ytlajncjamafomaa
open Go.RowKit
set_option linter.unusedVariables false
set_option maxRecDepth 100000

set_option maxHeartbeats 400000 in
theorem number_any {v : Value} {l : List UInt8} {w : World} (hr : Rd w v l) (hl : l.length ≤ 8) :
    Calls Try.prog 48 #[v] w fun e w' => e = .returned (.int .u64 (M.num l)) ∧ ∃ k, w' = w.drewN k := by
  obtain ⟨ao, c, rfl, h1, h2, h3, h4⟩ := hr
  have hb : ∀ k, k ≤ l.length → M.num (l.take k) < 256 ^ k := fun k hk => by
    have := M.num_lt (l.take k)
    rw [List.length_take, Nat.min_eq_left hk] at this
    exact this
  unfold maxLen at h2
  go_enter Try.func48, Try.ntmps48
  go_wp2
  go_loopw [3, 8] (fun m i wr => ∃ k : Nat, k ≤ l.length ∧ i = .int .i64 k ∧ m = .int .u64 (M.num (l.take k)) ∧ wr = w) (fun _ i _ => l.length - (intOf i).toNat)
  case atStart => exact ⟨0, Nat.zero_le _, rfl, rfl, rfl⟩
  case round =>
    obtain ⟨k, hk, rfl, rfl, rfl⟩ := hrel
    by_cases hlt : k < l.length
    · obtain ⟨a, rfl, hc⟩ := h4 k hlt
      have hbk := hb k hk
      have hbk' : M.num (l.take k) < 72057594037927936 := Nat.lt_of_lt_of_le hbk (by have := Nat.pow_le_pow_right (n := 256) (by decide) (show k ≤ 7 by omega); simpa using this)
      clear hbk hb h4
      have hx := l[k].toNat_lt
      have e : bits BinOp.or IntKind.u64 ((M.num (l.take k) : Int) * 256) (l[k].toNat : Int) = (M.num (l.take (k + 1)) : Int) := by
        rw [show ((M.num (l.take k) : Int) * 256) = ((M.num (l.take k) * 256 : Nat) : Int) by omega, u64_or_nat _ _ (by omega) (by omega), nat_join 8 _ _ (by omega) (by omega), take_snoc l k hlt, M.num_snoc]
      have HE : Hid _ := e
      clear e
      go_wp2
      exact ⟨⟨k + 1, by omega, by go_num, congrArg _ HE.out, trivial⟩, by simp [intOf]; omega⟩
    · go_wp2
      go_ret
      exact ⟨ret_int (by rw [List.take_of_length_le (by omega)]), 0, rfl⟩
theorem sum_round (c : Nat) (h : c < 4294967296) : bits BinOp.xor IntKind.u32 ((c : Int) / 2) (bits BinOp.and IntKind.u32 (c : Int) 1 * 3988292384 % 4294967296) = (M.st c : Int) := by
  rw [show (1 : Int) = ((1 : Nat) : Int) from rfl, u32_and_nat _ _ h (by decide), nat_mask1, show ((c : Int) / 2) = ((c / 2 : Nat) : Int) by omega, show (((c % 2 : Nat) : Int) * 3988292384 % 4294967296) = ((c % 2 * 3988292384 : Nat) : Int) by omega, u32_xor_nat _ _ (by omega) (by omega)]
  rfl
theorem sum_turn (c : Nat) (h : c < 4294967296) : bits BinOp.xor IntKind.u32 IntKind.u32.max (c : Int) = ((4294967295 ^^^ c : Nat) : Int) := by
  rw [show IntKind.u32.max = ((4294967295 : Nat) : Int) from rfl, u32_xor_nat _ _ (by decide) h]
set_option maxHeartbeats 400000 in
theorem sum_any {v : Value} {l : List UInt8} {w : World} (hr : Rd w v l) :
    Calls Try.prog 27 #[v] w fun e w' => e = .returned (.int .u32 (M.crc l)) ∧ ∃ k, w' = w.drewN k := by
  obtain ⟨ao, c, rfl, h1, h2, h3, h4⟩ := hr
  unfold maxLen at h2
  go_enter Try.func27, Try.ntmps27
  go_wp2
  go_loopw [3, 8] (fun m i wr => ∃ k q : Nat, k ≤ l.length ∧ i = .int .i64 k ∧ m = .int .u32 q ∧ q < 4294967296 ∧ q = M.crcF 4294967295 (l.take k) ∧ wr = w) (fun _ i _ => l.length - (intOf i).toNat)
  case atStart => exact ⟨0, 4294967295, Nat.zero_le _, rfl, rfl, by decide, rfl, rfl⟩
  case round =>
    obtain ⟨k, q, hk, rfl, rfl, hq, hqe, rfl⟩ := hrel
    have HQ : Hid _ := hqe
    clear hqe
    by_cases hlt : k < l.length
    · obtain ⟨a, rfl, hc⟩ := h4 k hlt
      have hx := l[k].toNat_lt
      clear h4
      go_wp2
      have e0 : bits BinOp.xor IntKind.u32 (q : Int) (l[k].toNat : Int) = ((q ^^^ l[k].toNat : Nat) : Int) := u32_xor_nat _ _ hq (by omega)
      have hql := M.xor_lt q l[k].toNat hq hx
      have HS : Hid (M.st8 (q ^^^ l[k].toNat) = M.crcF 4294967295 (l.take (k + 1))) := by
        show _ = _
        rw [take_snoc l k hlt, M.crcF_snoc, HQ.out]
      rw [e0]
      clear e0
      go_loopw [3, 16] (fun m i wx => ∃ j p : Nat, j ≤ 8 ∧ i = .int .i64 j ∧ m = .int .u32 p ∧ p < 4294967296 ∧ M.stN (8 - j) p = M.st8 (q ^^^ l[k].toNat) ∧ wx = wr) (fun _ i _ => 8 - (intOf i).toNat)
      case atStart => exact ⟨0, _, Nat.zero_le _, rfl, rfl, hql, rfl, rfl⟩
      case round =>
        obtain ⟨j, p, hj, rfl, rfl, hp, hpe, rfl⟩ := hrel
        have HP : Hid _ := hpe
        clear hpe
        by_cases hlt8 : j < 8
        · have hr1 := sum_round p hp
          have HR : Hid _ := hr1
          clear hr1
          go_wp2
          refine ⟨⟨j + 1, M.st p, by omega, by go_num, congrArg _ HR.out, M.st_lt p hp, ?_, trivial⟩, by simp [intOf]; omega⟩
          have := HP.out
          rw [show 8 - j = 8 - (j + 1) + 1 by omega, M.stN] at this
          exact this
        · go_wp2
          have := HP.out
          rw [show 8 - j = 0 by omega, M.stN] at this
          exact ⟨⟨k + 1, p, by omega, by go_num, rfl, hp, by rw [← HS.out, this], trivial⟩, by simp [intOf]; omega⟩
    · go_wp2
      go_ret
      refine ⟨ret_int ?_, 0, rfl⟩
      rw [sum_turn q hq, HQ.out, List.take_of_length_le (by omega)]; rfl
end Go.Proofs.Ytlajncjamafomaa
