/- What Varint makes: the bytes of 'vi', in new memory. -/
import Derived.Test.YtlajncjamafomaaG3
import Derived.Test.YtlajncjamafomaaG1
namespace Go.Proofs.Ytlajncjamafomaa
open Go.RowKit
set_option linter.unusedVariables false

set_option maxRecDepth 100000 in
theorem varint_any (n : Nat) (w : World) (hn : n < 18446744073709551616) :
    Calls Try.prog 54 #[.int .u64 n] w fun e w' => ∃ v, e = .returned v ∧ Ow w.heap.size w' v (M.vi n) ∧ Below w.heap.size w w' := by
  go_enter Try.func54, Try.ntmps54
  go_wp2
  go_loopw [0, 3] (fun m out wr => ∃ (k q : Nat), k ≤ 9 ∧ m = .int .u64 q ∧ q < M.qb k ∧ Below w.heap.size w wr ∧ ∃ done, done.length + k = 9 ∧ Ow w.heap.size wr out done ∧ done ++ M.viF k q = M.vi n) (fun m _ _ => (intOf m).toNat)
  case atStart => exact ⟨9, n, Nat.le_refl _, rfl, by simpa [M.qb] using hn, Below.refl _ _, [], rfl, Ow.nil _ _, rfl⟩
  case round =>
    obtain ⟨k, q, hk, rfl, hq, hb, done, hdl, ho, hd⟩ := hrel
    have HD : Hid _ := hd
    have HQ : Hid _ := hq
    have HL : Hid _ := hdl
    clear hd hq hdl
    have hq : q < 18446744073709551616 := by
      exact Nat.lt_of_lt_of_le HQ.out (M.qb_le k)
    by_cases hlt : q < 128
    · go_wp2_with (first | (at_builtin; refine wpList_app rfl _ _ rfl w.heap.size _ done rfl (ho.alloc _) _ [UInt8.ofNat q] rfl (rd_one _ _ _ ?hz _) ?hB ?hlen ?_; rotate_right; intro v' w' ho' hb' hg') | fail)
      case hz => rw [M.u8_ofNat]; omega
      case hB => have := hb.size; simp; omega
      case hlen => have := HL.out; simp; omega
      go_ret
      refine ⟨_, rfl, ?_, hb.trans (((Below.refl _ _).alloc hb.size _).trans hb')⟩
      have e : M.viF k q = [UInt8.ofNat q] := by
        cases k with
        | zero => rfl
        | succ k => simp only [M.viF]; rw [if_pos hlt]
      rw [← HD.out, e]; exact ho'
    · have hlt' : 128 ≤ q := by omega
      have HV : Hid (1 ≤ k ∧ q / 128 < M.qb (k - 1) ∧ M.viF k q = UInt8.ofNat (q % 128 + 128) :: M.viF (k - 1) (q / 128)) := by
        cases k with
        | zero => have := HQ.out; rw [M.qb_zero] at this; omega
        | succ k =>
          refine ⟨by omega, ?_, ?_⟩
          · have := HQ.out; rw [M.qb_succ k hk] at this; simp only [Nat.add_sub_cancel]; omega
          · rw [M.viF, if_neg hlt]; rfl
      go_wp2_with (first | (at_builtin; refine wpList_app rfl _ _ rfl w.heap.size _ done rfl (ho.alloc _) _ [UInt8.ofNat (q % 128 + 128)] rfl (rd_one _ _ _ ?hz _) ?hB ?hlen ?_; rotate_right; intro v' w' ho' hb' hg') | fail)
      case hz =>
        rw [M.u8_ofNat, show ((q : Int) % 256) = ((q % 256 : Nat) : Int) by omega, show (128 : Int) = ((128 : Nat) : Int) from rfl, u8_or_nat _ _ (by omega) (by decide), M.or128 _ (by omega)]
        omega
      case hB => have := hb.size; simp; omega
      case hlen => have := HL.out; simp; omega
      refine ⟨⟨k - 1, q / 128, by omega, by go_num, ?_, hb.trans (((Below.refl _ _).alloc hb.size _).trans hb'), done ++ [UInt8.ofNat (q % 128 + 128)], ?_, ho', ?_⟩, by simp [intOf]; omega⟩
      · exact (HV.out).2.1
      · have := HL.out; have := (HV.out).1; simp; omega
      · rw [← HD.out, (HV.out).2.2]; simp

end Go.Proofs.Ytlajncjamafomaa
