/- Plain mathematics: what was written is read again. No program is named here. -/
import Derived.Test.YtlajncjamafomaaG13
namespace Go.Proofs.Ytlajncjamafomaa.M
set_option maxRecDepth 100000

theorem num_cons (x : UInt8) (l : List UInt8) : num (x :: l) = x.toNat * 256 ^ l.length + num l := by
  have : ∀ (l : List UInt8) (n : Nat), l.foldl (fun n x => n * 256 + x.toNat) n = n * 256 ^ l.length + num l := by
    intro l
    induction l with
    | nil => intro n; simp [num]
    | cons y l ih =>
      intro n
      have e : num (y :: l) = y.toNat * 256 ^ l.length + num l := by
        show List.foldl (fun n x => n * 256 + x.toNat) (0 * 256 + y.toNat) l = _
        rw [ih]; simp
      rw [List.foldl_cons, ih, List.length_cons, Nat.pow_succ', e]
      simp only [Nat.add_mul, Nat.mul_assoc, Nat.add_assoc]
  rw [num, List.foldl_cons, this]
  simp
theorem num_be (k n : Nat) (h : n < 256 ^ k) : num (be k n) = n := by
  suffices H : ∀ k n, num (be k n) = n % 256 ^ k by rw [H, Nat.mod_eq_of_lt h]
  intro k
  induction k with
  | zero => intro n; simp [be, num]; omega
  | succ k ih =>
    intro n
    have e8 : (2 : Nat) ^ (8 * k) = 256 ^ k := by rw [Nat.pow_mul]
    have em : n % (256 ^ k * 256) = n % 256 ^ k + 256 ^ k * (n / 256 ^ k % 256) := Nat.mod_mul
    have hu : (UInt8.ofNat (n / 256 ^ k)).toNat = n / 256 ^ k % 256 := by rw [UInt8.toNat_ofNat']
    rw [be, num_cons, ih, be_length, e8, hu, Nat.pow_succ, em, Nat.mul_comm, Nat.add_comm]
theorem num_inj (a b : List UInt8) (h : a.length = b.length) (e : num a = num b) : a = b := by
  induction a generalizing b with
  | nil => exact (List.length_eq_zero_iff.1 (by simpa using h.symm)).symm
  | cons x a ih =>
    cases b with
    | nil => simp at h
    | cons y b =>
      have hl : a.length = b.length := by simpa using h
      rw [num_cons, num_cons, hl] at e
      have h1 := num_lt a
      have h2 := num_lt b
      rw [hl] at h1
      generalize 256 ^ b.length = P at *
      have hx : x.toNat = y.toNat := by
        rcases Nat.lt_trichotomy x.toNat y.toNat with q | q | q
        · have : (x.toNat + 1) * P ≤ y.toNat * P := Nat.mul_le_mul_right _ q
          rw [Nat.add_mul] at this; omega
        · exact q
        · have : (y.toNat + 1) * P ≤ x.toNat * P := Nat.mul_le_mul_right _ q
          rw [Nat.add_mul] at this; omega
      rw [hx] at e
      rw [UInt8.toNat_inj.1 hx, ih b hl (by omega)]

/-- What is written of a number, seen as it is read. -/
theorem viF_read (k n : Nat) (r : List UInt8) (hn : n < qb k) (hk : k ≤ 9) :
    ∃ s, s ≤ k ∧ (viF k n).length = s + 1 ∧ cont (k + 1) (viF k n ++ r) = s ∧ val (viF k n) = n ∧ (viF k n).getD s 0 = UInt8.ofNat (n / 128 ^ s) ∧ n / 128 ^ s < 128 ∧ (0 < s → n / 128 ^ s ≠ 0) := by
  have base : ∀ m n, n < 128 → ∃ s, s ≤ m ∧ ([UInt8.ofNat n]).length = s + 1 ∧ cont (m + 1) ([UInt8.ofNat n] ++ r) = s ∧ val [UInt8.ofNat n] = n ∧ ([UInt8.ofNat n]).getD s 0 = UInt8.ofNat (n / 128 ^ s) ∧ n / 128 ^ s < 128 ∧ (0 < s → n / 128 ^ s ≠ 0) := by
    intro m n h
    have e : (UInt8.ofNat n).toNat = n := by rw [UInt8.toNat_ofNat']; omega
    refine ⟨0, Nat.zero_le _, rfl, ?_, ?_, by simp, by simpa using h, fun h => absurd h (Nat.lt_irrefl _)⟩
    · simp only [List.singleton_append, cont]; rw [e, if_neg (by omega)]
    · simp only [val]; rw [e]; omega
  induction k generalizing n with
  | zero =>
    have : n < 128 := by rw [qb_zero] at hn; omega
    exact base 0 n this
  | succ k ih =>
    by_cases h : n < 128
    · rw [viF, if_pos h]
      exact base (k + 1) n h
    · have hq : n / 128 < qb k := by rw [qb_succ k hk] at hn; omega
      obtain ⟨s, h1, h2, h3, h4, h5, h6, h7⟩ := ih (n / 128) hq (by omega)
      rw [viF, if_neg h]
      have e : (UInt8.ofNat (n % 128 + 128)).toNat = n % 128 + 128 := by rw [UInt8.toNat_ofNat']; omega
      refine ⟨s + 1, by omega, by simp [h2], ?_, ?_, ?_, ?_, ?_⟩
      · simp only [List.cons_append, cont]; rw [e, if_pos (by omega), h3]
      · rw [val, e, h4]; omega
      · rw [List.getD_cons_succ, h5, Nat.div_div_eq_div_mul, Nat.pow_succ, Nat.mul_comm]
      · rw [Nat.pow_succ, Nat.mul_comm, ← Nat.div_div_eq_div_mul]; exact h6
      · intro _
        rw [Nat.pow_succ, Nat.mul_comm, ← Nat.div_div_eq_div_mul]
        by_cases hs : 0 < s
        · exact h7 hs
        · obtain rfl : s = 0 := by omega
          simp; omega

theorem tv_vi (n : Nat) (r : List UInt8) (h : n < 18446744073709551616) : tv (vi n ++ r) = (n, r, 0) := by
  obtain ⟨s, h1, h2, h3, h4, h5, h6, h7⟩ := viF_read 9 n r (by simpa [qb] using h) (Nat.le_refl _)
  have hlen : (vi n).length = s + 1 := h2
  have hg : (vi n ++ r).getD s 0 = UInt8.ofNat (n / 128 ^ s) := by
    rw [← h5, List.getD_eq_getElem?_getD, List.getElem?_append_left (by omega), ← List.getD_eq_getElem?_getD]; rfl
  have e : (UInt8.ofNat (n / 128 ^ s)).toNat = n / 128 ^ s := by rw [UInt8.toNat_ofNat']; exact Nat.mod_eq_of_lt (Nat.lt_trans h6 (by decide))
  unfold tv
  simp only []
  rw [show cont 10 (vi n ++ r) = s from h3, if_neg (by omega), if_neg (by simp; omega), hg, e, if_neg, List.take_left' hlen, List.drop_left' hlen]
  · rw [show val (vi n) = n from h4]
  · rintro (⟨q1, q2⟩ | ⟨q1, q2⟩)
    · exact h7 q1 q2
    · subst q1
      have : n / 128 ^ 9 < 2 := Nat.div_lt_of_lt_mul (by have : (128 : Nat) ^ 9 * 2 = 18446744073709551616 := by decide
                                                         omega)
      omega

/-- A frame whose sum or text was turned is refused by its sum. -/
theorem tf_turned (n : Nat) (u body : List UInt8) (hn : n < 18446744073709551616) (hu : u.length = 4) (hb : body.length = n) (hne : crc body ≠ num u) : tf (vi n ++ (u ++ body)) = ([], [], 11) := by
  unfold tf
  simp only []
  rw [tv_vi n _ hn]
  simp only [ne_eq, not_true_eq_false, if_false]
  have h4 : (u ++ body).drop 4 = body := List.drop_left' hu
  have t4 : (u ++ body).take 4 = u := List.take_left' hu
  rw [if_neg (by simp; omega), h4, t4, if_neg (by omega), List.take_of_length_le (by omega), if_pos hne]
theorem tf_back (b r : List UInt8) (h : b.length < 18446744073709551616) : tf (frame b ++ r) = (b, r, 0) := by
  unfold frame tf
  simp only []
  rw [List.append_assoc, List.append_assoc, tv_vi _ _ h]
  simp only [ne_eq, not_true_eq_false, if_false]
  have h4 : (be 4 (crc b) ++ (b ++ r)).drop 4 = b ++ r := List.drop_left' (be_length 4 _)
  have t4 : (be 4 (crc b) ++ (b ++ r)).take 4 = be 4 (crc b) := List.take_left' (be_length 4 _)
  rw [if_neg (by simp [be_length]), h4, t4, if_neg (by simp), List.take_left' rfl, List.drop_left' rfl, num_be 4 _ (by have := crc_lt b; simpa using this), if_neg (by simp)]

theorem zx_self (l : List UInt8) : zx l l = List.replicate l.length 0 := by
  induction l with
  | nil => rfl
  | cons x l ih =>
    show (x ^^^ x) :: zx l l = _
    rw [ih, List.length_cons, List.replicate_succ, UInt8.xor_self]
theorem zx_app (a b c d : List UInt8) (h : a.length = b.length) : zx (a ++ c) (b ++ d) = zx a b ++ zx c d := by
  unfold zx; exact List.zipWith_append h
theorem zx_mid (a b b' c : List UInt8) (h : b.length = b'.length) : zx (a ++ b ++ c) (a ++ b' ++ c) = List.replicate a.length 0 ++ zx b b' ++ List.replicate c.length 0 := by
  rw [zx_app _ _ _ _ (by simp [h]), zx_app _ _ _ _ rfl, zx_self, zx_self]
theorem zx_zx (a b : List UInt8) (h : a.length = b.length) : zx (zx a b) a = b := by
  induction a generalizing b with
  | nil => exact (List.length_eq_zero_iff.1 (by simpa using h.symm)).symm
  | cons x a ih =>
    cases b with
    | nil => simp at h
    | cons y b =>
      show ((x ^^^ y) ^^^ x) :: zx (zx a b) a = y :: b
      rw [ih b (by simpa using h), UInt8.xor_comm x y, UInt8.xor_assoc, UInt8.xor_self, UInt8.xor_zero]
theorem zx_len (a b : List UInt8) (h : a.length = b.length) : (zx a b).length = a.length := by simp [zx, h]
end Go.Proofs.Ytlajncjamafomaa.M
