/- How long what is read as a number is. -/
import Derived.Test.YtlajncjamafomaaG30
import Derived.Test.YtlajncjamafomaaG9
import Derived.Lib.SlBytesConst
namespace Go.Proofs.Ytlajncjamafomaa
open Go.RowKit
set_option linter.unusedVariables false
set_option maxRecDepth 100000

theorem Ow.drewN {B : Nat} {w : World} {v : Value} {l : List UInt8} (h : Ow B w v l) (n : Nat) : Ow B (w.drewN n) v l := h.below (below_drewN (Below.refl _ _) n) (Nat.le_refl _)
theorem vi_len (n : Nat) : (M.vi n).length ≤ 10 := M.viF_length 9 n
theorem tv_lt (l : List UInt8) : (M.tv l).1 < 18446744073709551616 := by
  unfold M.tv
  simp only []
  have hle := M.cont_le 10 l
  split
  · decide
  · split
    · decide
    · split
      · decide
      · rename_i h1 h2 h3
        simp only []
        have hv := M.val_lt (l.take (M.cont 10 l))
        rw [List.length_take, Nat.min_eq_left (by omega)] at hv
        rw [take_snoc l _ (by omega), M.val_append, List.length_take, Nat.min_eq_left (by omega)]
        simp only [M.val, Nat.mul_zero, Nat.add_zero]
        have eg : l.getD (M.cont 10 l) 0 = l[M.cont 10 l]'(by omega) := by simp [show M.cont 10 l < l.length by omega]
        rw [eg] at h3
        have hx9 : M.cont 10 l = 9 → (l[M.cont 10 l]'(by omega)).toNat ≤ 1 := fun h => by omega
        clear h3 eg
        generalize (l[M.cont 10 l]'(by omega)).toNat = x at *
        by_cases h9 : M.cont 10 l = 9
        · have hx1 := hx9 h9
          have h63 : (128 : Nat) ^ M.cont 10 l = 9223372036854775808 := by rw [h9]
          rw [h63]
          rw [h63] at hv
          have : x % 128 ≤ 1 := by omega
          omega
        · have hp := Nat.pow_le_pow_right (n := 128) (by decide) (show M.cont 10 l ≤ 8 by omega)
          have h56 : (128 : Nat) ^ 8 = 72057594037927936 := by decide
          rw [h56] at hp
          have := Nat.mul_le_mul hp (show x % 128 ≤ 127 by omega)
          omega
theorem tv_len (l : List UInt8) : (M.tv l).2.1.length ≤ l.length := by
  unfold M.tv
  simp only []
  split
  · simp
  · split
    · simp
    · split
      · simp
      · simp
end Go.Proofs.Ytlajncjamafomaa
