/- The regions of RegionChain: three peers on the stores 1, 2, 3. -/
import Derived.Test.YtnapkomjegbhcaaG27
import Derived.Test.YtnapkomjegbhcaaG30
import Derived.Test.YtnapkomjegbhcaaG20
namespace Go.Proofs.Ytnapkomjegbhcaa
open Go.RowKit
set_option linter.unusedVariables false
set_option maxRecDepth 100000

/-- Three peers, on the stores 1, 2, 3. -/
def pe3 (a b c : UInt64) : List Pe := [(a, 1, false), (b, 2, false), (c, 3, false)]
theorem grp3 (a b c : UInt64) (h0 : 0 < a) (h1 : a < b) (h2 : b < c) : grpF (pe3 a b c) = true := by
  have h3 : risF 0 ((pe3 a b c).map (·.1)) = true := by
    simp only [pe3, List.map_cons, List.map_nil, risF, h0, h1, h2, decide_true, Bool.and_self]
  have h4 : stF (pe3 a b c) (pe3 a b c).length = true := by
    simp [pe3, stF, onF]
  have h5 : 0 < vtF (pe3 a b c) := by simp [pe3, vtF]
  unfold grpF
  rw [h3, h4, decide_eq_true h5]
  rfl
theorem se3 (a b c : UInt64) : seF (pe3 a b c) = [(1, false), (2, false), (3, false)] := rfl
theorem se3_rise (a b c : UInt64) : (seF (pe3 a b c)).Pairwise (fun x y => x.1 < y.1) := by
  rw [se3]; decide
theorem num3 (a b c x y z : UInt64) : numP (pe3 a b c) [x, y, z] = pe3 x y z := rfl
theorem chk3 {id a b c : UInt64} {s e : List UInt8} (hid : id ≠ 0) (hs : s.length ≤ 64) (he : e.length ≤ 64) (hc : cov s e s = true) (h0 : 0 < a) (h1 : a < b) (h2 : b < c) : chkE id s e (pe3 a b c) = 0 := by
  unfold chkE
  rw [if_neg (by rintro (q | q | q); exact hid q; omega; omega), hc, grp3 a b c h0 h1 h2]
  rfl
theorem Prt.begin (u : V6) : Prt [(u, [], [])] := ⟨_, List.Perm.refl _, rfl, .inl ⟨rfl, rfl⟩⟩
/-- What Merge answers of two that follow one another. -/
theorem cmg3 {id id' vr vr' a b c a' b' c' : UInt64} {s e t f : List UInt8} (h1 : chkE id s e (pe3 a b c) = 0) (h2 : chkE id' t f (pe3 a' b' c') = 0) (hid : id ≠ id') (hf : flw s f = true ∨ flw t e = true) (hv : vr.toNat ≠ 18446744073709551615) (hv' : vr'.toNat ≠ 18446744073709551615) : cmgE id id' vr vr' s e t f (pe3 a b c) (pe3 a' b' c') = 0 := by
  unfold cmgE
  rw [h1, h2]
  simp only [ne_eq, not_true_eq_false, if_false]
  rw [if_neg hid, if_neg (by rintro ⟨q1, q2⟩; rcases hf with q | q <;> simp_all), if_neg (by rintro (q | q); exact hv q; exact hv' q)]
theorem flw_iff (t e : List UInt8) : flw t e = true ↔ e ≠ [] ∧ e = t := by
  unfold flw
  rw [Bool.and_eq_true, decide_eq_true_eq, decide_eq_true_eq, List.length_pos_iff]
end Go.Proofs.Ytnapkomjegbhcaa
