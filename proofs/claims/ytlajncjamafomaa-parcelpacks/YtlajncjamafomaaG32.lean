/- What the document's own Sum and Frame answer of any bytes: the same as the code's. -/
import Derived.Test.YtlajncjamafomaaG28
import Derived.Test.YtlajncjamafomaaG20
namespace Go.Proofs.Ytlajncjamafomaa
open Go.RowKit
set_option linter.unusedVariables false
set_option maxRecDepth 100000

theorem rsum_odd (c : Nat) (h : c < 4294967296) (ho : c % 2 = 1) : bits BinOp.xor IntKind.u32 ((c : Int) / 2) 3988292384 = (M.st c : Int) := by
  rw [show ((c : Int) / 2) = ((c / 2 : Nat) : Int) by omega, show (3988292384 : Int) = ((3988292384 : Nat) : Int) from rfl, u32_xor_nat _ _ (by omega) (by decide)]
  unfold M.st; rw [ho]
theorem rsum_even (c : Nat) (ho : c % 2 = 0) : (c : Int) / 2 = (M.st c : Int) := by
  unfold M.st; rw [ho, Nat.zero_mul, Nat.xor_zero]; omega
theorem rsum_turn (c : Nat) (h : c < 4294967296) : bits BinOp.xor IntKind.u32 (c : Int) 4294967295 = ((4294967295 ^^^ c : Nat) : Int) := by
  rw [show (4294967295 : Int) = ((4294967295 : Nat) : Int) from rfl, u32_xor_nat _ _ h (by decide), Nat.xor_comm]

set_option maxHeartbeats 400000 in
theorem rsum_any {v : Value} {l : List UInt8} {w : World} (hr : Rd w v l) :
    Calls Try.prog 34 #[v] w fun e w' => e = .returned (.int .u32 (M.crc l)) ∧ ∃ k, w' = w.drewN k := by
  obtain ⟨ao, c, rfl, h1, h2, h3, h4⟩ := hr
  unfold maxLen at h2
  go_enter Try.func34, Try.ntmps34
  go_wp2
  go_loopw [3, 4, 5, 6] (fun m i _ _ wr => ∃ k q : Nat, k ≤ l.length ∧ i = .int .i64 k ∧ m = .int .u32 q ∧ q < 4294967296 ∧ q = M.crcF 4294967295 (l.take k) ∧ wr = w) (fun _ i _ _ _ => l.length - (intOf i).toNat)
  case atStart => exact ⟨0, 4294967295, Nat.zero_le _, rfl, rfl, by decide, rfl, rfl⟩
  case round =>
    obtain ⟨k, q, hk, rfl, rfl, hq, hqe, rfl⟩ := hrel
    have HQ : Hid _ := hqe
    clear hqe
    by_cases hlt : k < l.length
    · obtain ⟨a, rfl, hc⟩ := h4 k hlt
      have hx := l[k].toNat_lt
      clear h4
      go_wp2
      have e0 : bits BinOp.xor IntKind.u32 (q : Int) (l[k].toNat : Int) = ((q ^^^ l[k].toNat : Nat) : Int) := u32_xor_nat _ _ hq (by omega)
      have hql := M.xor_lt q l[k].toNat hq hx
      have HS : Hid (M.st8 (q ^^^ l[k].toNat) = M.crcF 4294967295 (l.take (k + 1))) := by
        show _ = _
        rw [take_snoc l k hlt, M.crcF_snoc, HQ.out]
      rw [e0]
      clear e0
      go_loopw [3, 5, 6] (fun m i _ wx => ∃ j p : Nat, j ≤ 8 ∧ i = .int .i64 j ∧ m = .int .u32 p ∧ p < 4294967296 ∧ M.stN (8 - j) p = M.st8 (q ^^^ l[k].toNat) ∧ wx = wr) (fun _ i _ _ => 8 - (intOf i).toNat)
      case atStart => exact ⟨0, _, Nat.zero_le _, rfl, rfl, hql, rfl, rfl⟩
      case round =>
        obtain ⟨j, p, hj, rfl, rfl, hp, hpe, rfl⟩ := hrel
        have HP : Hid _ := hpe
        clear hpe
        by_cases hlt8 : j < 8
        · have HN : Hid (M.stN (8 - (j + 1)) (M.st p) = M.st8 (q ^^^ l[k].toNat)) := by
            have := HP.out
            rw [show 8 - j = 8 - (j + 1) + 1 by omega, M.stN] at this
            exact this
          by_cases ho : p % 2 = 1
          · have hodd : ((p : Int) % 2 == 1) = true := by simp; omega
            have HR : Hid _ := rsum_odd p hp ho
            clear ho
            go_wp2
            exact ⟨⟨j + 1, M.st p, by omega, by go_num, congrArg _ HR.out, M.st_lt p hp, HN.out, trivial⟩, by simp [intOf]; omega⟩
          · have hodd : ((p : Int) % 2 == 1) = false := by simp; omega
            have HR : Hid _ := rsum_even p (by omega)
            clear ho
            go_wp2
            exact ⟨⟨j + 1, M.st p, by omega, by go_num, congrArg _ HR.out, M.st_lt p hp, HN.out, trivial⟩, by simp [intOf]; omega⟩
        · go_wp2
          have := HP.out
          rw [show 8 - j = 0 by omega, M.stN] at this
          exact ⟨⟨k + 1, p, by omega, by go_num, rfl, hp, by rw [← HS.out, this], trivial⟩, by simp [intOf]; omega⟩
    · go_wp2
      go_ret
      refine ⟨ret_int ?_, 0, rfl⟩
      rw [rsum_turn q hq, HQ.out, List.take_of_length_le (by omega)]; rfl

set_option maxHeartbeats 400000 in
theorem rframe_any {v : Value} {l : List UInt8} {w : World} (hr : Rd w v l) (hl : l.length ≤ 140737488355000) :
    Calls Try.prog 35 #[v] w fun e w' => ∃ v', e = .returned v' ∧ Ow w.heap.size w' v' (M.frame l) ∧ Below w.heap.size w w' := by
  have hr' := hr
  obtain ⟨ao, c, rfl, h1, h2, h3, h4⟩ := hr
  unfold maxLen at h2
  clear h3 h4
  have hc := M.crc_lt l
  go_enter Try.func35, Try.ntmps35
  go_wp2_with fail
  refine (rsum_any hr').mono ?_
  rintro e w1 ⟨rfl, k1, rfl⟩
  go_wp2_with fail
  refine (rvarint_any l.length _ (by omega)).mono ?_
  rintro e w2 ⟨v2, rfl, ho2, hb2⟩
  have hw2 : Below w.heap.size w w2 := Below.tr (Below.dN w k1) hb2
  have ho2' : Ow w.heap.size w2 v2 (M.vi l.length) := ho2
  have hvl := vi_len l.length
  clear ho2
  go_wp2_with fail
  go_loopw [4, 5] (fun out i wr => ∃ k : Nat, k ≤ 4 ∧ i = .int .i64 ((k : Int) - 1) ∧ Below w.heap.size w wr ∧ ∃ done, Ow w.heap.size wr out done ∧ done.length + k ≤ 14 ∧ done ++ M.be k (M.crc l) = M.vi l.length ++ M.be 4 (M.crc l)) (fun _ i _ => (intOf i + 1).toNat)
  case atStart => exact ⟨4, Nat.le_refl _, rfl, hw2, _, ho2', by omega, rfl⟩
  case round =>
    obtain ⟨k, hk, rfl, hb, done, ho, hdl, hd⟩ := hrel
    have HD : Hid _ := hd
    clear hd
    cases k with
    | zero =>
      go_wp2_with (first | (at_builtin; refine wpList_app rfl _ _ rfl w.heap.size _ done rfl ho _ l rfl (hr'.below hb (Nat.le_refl _)) hb.size (by omega) ?_; intro v5 w5 ho5 hb5 hg5) | fail)
      go_ret
      refine ⟨_, rfl, ?_, hb.trans hb5⟩
      have := HD.out
      rw [M.be, List.append_nil] at this
      rw [M.frame, ← this]; exact ho5
    | succ k =>
      go_wp2_with (first | (at_builtin; refine wpList_app rfl _ _ rfl w.heap.size _ done rfl (ho.alloc _) _ [UInt8.ofNat (M.crc l / 2 ^ (8 * k))] rfl (rd_one _ _ _ ?hz _) ?hB ?hlen ?_; rotate_right; intro v' w' ho' hb' hg') | fail)
      case hz => rw [M.u8_ofNat]; simp
      case hB => have := hb.size; simp; omega
      case hlen => simp; omega
      refine ⟨⟨k, by omega, by go_num, ?_, done ++ [UInt8.ofNat (M.crc l / 2 ^ (8 * k))], ho', ?_, ?_⟩, by simp [intOf]⟩
      · exact hb.trans (((Below.refl _ _).alloc hb.size _).trans hb')
      · simp; omega
      · have := HD.out; rw [M.be] at this; simpa using this
end Go.Proofs.Ytlajncjamafomaa
