/- Plain mathematics of the sum: it is linear, and texts of one length that are unlike in one to four neighbouring bytes have unlike sums; and a number of seven bits a byte is read as it was written. No program is named here. -/
import Derived.Test.YtedfjacmaidhkaaGreatG1
namespace Go.Proofs.YtedfjacmaidhkaaGreat.M
set_option maxRecDepth 100000

theorem xor_div2 (a b : Nat) : (a ^^^ b) / 2 = (a / 2) ^^^ (b / 2) := by
  have := Nat.shiftRight_xor_distrib (a := a) (b := b) (i := 1)
  simp only [Nat.shiftRight_eq_div_pow, Nat.pow_one] at this
  exact this
theorem bit_mul (a b P : Nat) : (a ^^^ b) % 2 * P = (a % 2 * P) ^^^ (b % 2 * P) := by
  have e : (a ^^^ b) % 2 = (a % 2) ^^^ (b % 2) := by
    have := Nat.xor_mod_two_pow (a := a) (b := b) (n := 1)
    simpa using this
  rw [e]
  rcases Nat.mod_two_eq_zero_or_one a with h1 | h1 <;> rcases Nat.mod_two_eq_zero_or_one b with h2 | h2 <;> rw [h1, h2] <;> simp
theorem xor_swap (a b c d : Nat) : (a ^^^ b) ^^^ (c ^^^ d) = (a ^^^ c) ^^^ (b ^^^ d) := by
  rw [Nat.xor_assoc, Nat.xor_assoc, ← Nat.xor_assoc b c d, Nat.xor_comm b c, Nat.xor_assoc c b d]
theorem st_xor (a b : Nat) : st (a ^^^ b) = st a ^^^ st b := by
  unfold st
  rw [xor_div2, bit_mul, xor_swap]
theorem st8_xor (a b : Nat) : st8 (a ^^^ b) = st8 a ^^^ st8 b := by
  unfold st8
  simp only [st_xor]
theorem st_double (a : Nat) : st (2 * a) = a := by
  unfold st
  rw [show 2 * a / 2 = a by omega, show 2 * a % 2 = 0 by omega]
  simp
theorem st8_shift (a : Nat) : st8 (256 * a) = a := by
  unfold st8
  rw [show 256 * a = 2 * (2 * (2 * (2 * (2 * (2 * (2 * (2 * a))))))) by omega]
  simp only [st_double]
theorem st_zero_iff (c : Nat) (h : c < 4294967296) : st c = 0 ↔ c = 0 := by
  constructor
  · intro e
    unfold st at e
    rcases Nat.mod_two_eq_zero_or_one c with h2 | h2
    · rw [h2] at e
      simp at e
      omega
    · rw [h2, Nat.one_mul] at e
      have : c / 2 = 3988292384 := by
        have := congrArg (fun x => x ^^^ 3988292384) e
        simpa [Nat.xor_assoc] using this
      omega
  · rintro rfl; decide
theorem st8_zero_iff (c : Nat) (h : c < 4294967296) : st8 c = 0 ↔ c = 0 := by
  unfold st8
  have h1 := st_lt c h
  have h2 := st_lt _ h1
  have h3 := st_lt _ h2
  have h4 := st_lt _ h3
  have h5 := st_lt _ h4
  have h6 := st_lt _ h5
  have h7 := st_lt _ h6
  rw [st_zero_iff _ h7, st_zero_iff _ h6, st_zero_iff _ h5, st_zero_iff _ h4, st_zero_iff _ h3, st_zero_iff _ h2, st_zero_iff _ h1, st_zero_iff _ h]

/-- Byte by byte, by exclusive or. -/
def zx (x y : List UInt8) : List UInt8 := List.zipWith (fun a b => a ^^^ b) x y

theorem crcF_zx (x y : List UInt8) (h : x.length = y.length) (a b : Nat) : crcF (a ^^^ b) (zx x y) = crcF a x ^^^ crcF b y := by
  induction x generalizing y a b with
  | nil =>
    obtain rfl : y = [] := List.length_eq_zero_iff.1 (by simpa using h.symm)
    rfl
  | cons p x ih =>
    cases y with
    | nil => simp at h
    | cons q y =>
      have e : st8 ((a ^^^ b) ^^^ (p ^^^ q).toNat) = st8 (a ^^^ p.toNat) ^^^ st8 (b ^^^ q.toNat) := by
        rw [UInt8.toNat_xor, xor_swap, st8_xor]
      show crcF (st8 ((a ^^^ b) ^^^ (p ^^^ q).toNat)) (zx x y) = crcF (st8 (a ^^^ p.toNat)) x ^^^ crcF (st8 (b ^^^ q.toNat)) y
      rw [e, ih y (by simpa using h)]
theorem crcF_app (s : Nat) (x y : List UInt8) : crcF s (x ++ y) = crcF (crcF s x) y := by simp [crcF]
theorem crcF_zeros (k : Nat) : crcF 0 (List.replicate k 0) = 0 := by
  induction k with
  | zero => rfl
  | succ k ih => rw [List.replicate_succ]; exact ih
theorem crcF_zeros_iff (k : Nat) (d : Nat) (h : d < 4294967296) : crcF d (List.replicate k 0) = 0 ↔ d = 0 := by
  induction k generalizing d with
  | zero => exact Iff.rfl
  | succ k ih =>
    rw [List.replicate_succ]
    show crcF (st8 (d ^^^ (0 : UInt8).toNat)) (List.replicate k 0) = 0 ↔ d = 0
    have e : d ^^^ (0 : UInt8).toNat = d := by simp
    rw [e, ih _ (st8_lt d h), st8_zero_iff d h]

/-- The bytes as one number, the lowest first. -/
def vx : List UInt8 → Nat
  | [] => 0
  | x :: r => x.toNat ^^^ (256 * vx r)
def stB : Nat → Nat → Nat
  | 0, c => c
  | k + 1, c => stB k (st8 c)
theorem crcF_vx (m : List UInt8) (d : Nat) : crcF d m = stB m.length (d ^^^ vx m) := by
  induction m generalizing d with
  | nil => simp [crcF, stB, vx]
  | cons x r ih =>
    show crcF (st8 (d ^^^ x.toNat)) r = stB (r.length + 1) (d ^^^ (x.toNat ^^^ (256 * vx r)))
    rw [ih, stB, ← Nat.xor_assoc, st8_xor (d ^^^ x.toNat), st8_shift]
theorem vx_add (x : UInt8) (a : Nat) : x.toNat ^^^ (256 * a) = x.toNat + 256 * a := by
  have h := Nat.two_pow_add_eq_or_of_lt (i := 8) (b := x.toNat) (by have := x.toNat_lt; simpa using this) a
  have hx := x.toNat_lt
  have hand : (256 * a) &&& x.toNat = 0 := by
    apply Nat.eq_of_testBit_eq
    intro i
    rw [Nat.testBit_and, show 256 * a = 2 ^ 8 * a from rfl, Nat.testBit_two_pow_mul]
    by_cases hi : 8 ≤ i
    · rw [Nat.testBit_lt_two_pow (show x.toNat < 2 ^ i from Nat.lt_of_lt_of_le hx (Nat.pow_le_pow_right (n := 2) (by decide) hi))]
      simp
    · simp [hi]
  rw [Nat.xor_comm]
  have e : (256 * a) ^^^ x.toNat = (256 * a) ||| x.toNat := by
    apply Nat.eq_of_testBit_eq
    intro i
    have hb := congrArg (fun n => n.testBit i) hand
    simp only [Nat.testBit_and, Nat.zero_testBit] at hb
    rw [Nat.testBit_xor, Nat.testBit_or]
    cases h1 : (256 * a).testBit i <;> cases h2 : x.toNat.testBit i <;> simp_all
  rw [e, show 256 * a = 2 ^ 8 * a from rfl, ← h]
  omega
theorem vx_lt (m : List UInt8) : vx m < 256 ^ m.length := by
  induction m with
  | nil => simp [vx]
  | cons x r ih =>
    rw [vx, vx_add, List.length_cons, Nat.pow_succ']
    have := x.toNat_lt
    omega
theorem vx_zero (m : List UInt8) (h : vx m = 0) : ∀ x ∈ m, x = 0 := by
  induction m with
  | nil => intro x hx; cases hx
  | cons y r ih =>
    rw [vx, vx_add] at h
    intro x hx
    rcases List.mem_cons.1 hx with rfl | hx
    · exact UInt8.toNat_inj.1 (by show _ = 0; omega)
    · exact ih (by omega) x hx
theorem stB_zero_iff (k c : Nat) (h : c < 4294967296) : stB k c = 0 ↔ c = 0 := by
  induction k generalizing c with
  | zero => exact Iff.rfl
  | succ k ih => rw [stB, ih _ (st8_lt c h), st8_zero_iff c h]

/-- Unlike in up to four neighbours: unlike sums. -/
theorem crc_burst (c b : List UInt8) (h : c.length = b.length) (p q : Nat) (m : List UInt8) (hm : m.length ≤ 4) (hz : zx c b = List.replicate p 0 ++ m ++ List.replicate q 0) :
    crc c = crc b ↔ ∀ x ∈ m, x = 0 := by
  have h1 : crc c = crc b ↔ crcF 4294967295 c = crcF 4294967295 b := by
    unfold crc
    constructor
    · intro e
      have := congrArg (fun x => 4294967295 ^^^ x) e
      simpa [← Nat.xor_assoc] using this
    · intro e; rw [e]
  have h2 : crcF 4294967295 c = crcF 4294967295 b ↔ crcF 0 (zx c b) = 0 := by
    have e := crcF_zx c b h 4294967295 4294967295
    rw [Nat.xor_self] at e
    rw [e]
    constructor
    · intro h; rw [h, Nat.xor_self]
    · intro h
      have := congrArg (fun x => x ^^^ crcF 4294967295 b) h
      simpa [Nat.xor_assoc] using this
  have hv : vx m < 4294967296 := Nat.lt_of_lt_of_le (vx_lt m) (by have := Nat.pow_le_pow_right (n := 256) (by decide) hm; simpa using this)
  have hb : stB m.length (vx m) < 4294967296 := by
    have : ∀ k c, c < 4294967296 → stB k c < 4294967296 := by
      intro k
      induction k with
      | zero => intro c hc; exact hc
      | succ k ih => intro c hc; exact ih _ (st8_lt c hc)
    exact this _ _ hv
  rw [h1, h2, hz, crcF_app, crcF_app, crcF_zeros, crcF_vx m 0, Nat.zero_xor, crcF_zeros_iff q _ hb, stB_zero_iff _ _ hv]
  constructor
  · exact vx_zero m
  · intro hall
    clear hz hm hv hb
    induction m with
    | nil => rfl
    | cons x r ih =>
      rw [vx, hall x List.mem_cons_self, ih (fun y hy => hall y (List.mem_cons_of_mem _ hy))]
      rfl
end Go.Proofs.YtedfjacmaidhkaaGreat.M

/- Plain mathematics: what was written is read again. No program is named here. -/
namespace Go.Proofs.YtedfjacmaidhkaaGreat.M
set_option maxRecDepth 100000

theorem num_cons (x : UInt8) (l : List UInt8) : num (x :: l) = x.toNat * 256 ^ l.length + num l := by
  have : ∀ (l : List UInt8) (n : Nat), l.foldl (fun n x => n * 256 + x.toNat) n = n * 256 ^ l.length + num l := by
    intro l
    induction l with
    | nil => intro n; simp [num]
    | cons y l ih =>
      intro n
      have e : num (y :: l) = y.toNat * 256 ^ l.length + num l := by
        show List.foldl (fun n x => n * 256 + x.toNat) (0 * 256 + y.toNat) l = _
        rw [ih]; simp
      rw [List.foldl_cons, ih, List.length_cons, Nat.pow_succ', e]
      simp only [Nat.add_mul, Nat.mul_assoc, Nat.add_assoc]
  rw [num, List.foldl_cons, this]
  simp
theorem num_be (k n : Nat) (h : n < 256 ^ k) : num (be k n) = n := by
  suffices H : ∀ k n, num (be k n) = n % 256 ^ k by rw [H, Nat.mod_eq_of_lt h]
  intro k
  induction k with
  | zero => intro n; simp [be, num]; omega
  | succ k ih =>
    intro n
    have e8 : (2 : Nat) ^ (8 * k) = 256 ^ k := by rw [Nat.pow_mul]
    have em : n % (256 ^ k * 256) = n % 256 ^ k + 256 ^ k * (n / 256 ^ k % 256) := Nat.mod_mul
    have hu : (UInt8.ofNat (n / 256 ^ k)).toNat = n / 256 ^ k % 256 := by rw [UInt8.toNat_ofNat']
    rw [be, num_cons, ih, be_length, e8, hu, Nat.pow_succ, em, Nat.mul_comm, Nat.add_comm]
theorem num_inj (a b : List UInt8) (h : a.length = b.length) (e : num a = num b) : a = b := by
  induction a generalizing b with
  | nil => exact (List.length_eq_zero_iff.1 (by simpa using h.symm)).symm
  | cons x a ih =>
    cases b with
    | nil => simp at h
    | cons y b =>
      have hl : a.length = b.length := by simpa using h
      rw [num_cons, num_cons, hl] at e
      have h1 := num_lt a
      have h2 := num_lt b
      rw [hl] at h1
      generalize 256 ^ b.length = P at *
      have hx : x.toNat = y.toNat := by
        rcases Nat.lt_trichotomy x.toNat y.toNat with q | q | q
        · have : (x.toNat + 1) * P ≤ y.toNat * P := Nat.mul_le_mul_right _ q
          rw [Nat.add_mul] at this; omega
        · exact q
        · have : (y.toNat + 1) * P ≤ x.toNat * P := Nat.mul_le_mul_right _ q
          rw [Nat.add_mul] at this; omega
      rw [hx] at e
      rw [UInt8.toNat_inj.1 hx, ih b hl (by omega)]

/-- What is written of a number, seen as it is read. -/
theorem viF_read (k n : Nat) (r : List UInt8) (hn : n < qb k) (hk : k ≤ 9) :
    ∃ s, s ≤ k ∧ (viF k n).length = s + 1 ∧ cont (k + 1) (viF k n ++ r) = s ∧ val (viF k n) = n ∧ (viF k n).getD s 0 = UInt8.ofNat (n / 128 ^ s) ∧ n / 128 ^ s < 128 ∧ (0 < s → n / 128 ^ s ≠ 0) := by
  have base : ∀ m n, n < 128 → ∃ s, s ≤ m ∧ ([UInt8.ofNat n]).length = s + 1 ∧ cont (m + 1) ([UInt8.ofNat n] ++ r) = s ∧ val [UInt8.ofNat n] = n ∧ ([UInt8.ofNat n]).getD s 0 = UInt8.ofNat (n / 128 ^ s) ∧ n / 128 ^ s < 128 ∧ (0 < s → n / 128 ^ s ≠ 0) := by
    intro m n h
    have e : (UInt8.ofNat n).toNat = n := by rw [UInt8.toNat_ofNat']; omega
    refine ⟨0, Nat.zero_le _, rfl, ?_, ?_, by simp, by simpa using h, fun h => absurd h (Nat.lt_irrefl _)⟩
    · simp only [List.singleton_append, cont]; rw [e, if_neg (by omega)]
    · simp only [val]; rw [e]; omega
  induction k generalizing n with
  | zero =>
    have : n < 128 := by rw [qb_zero] at hn; omega
    exact base 0 n this
  | succ k ih =>
    by_cases h : n < 128
    · rw [viF, if_pos h]
      exact base (k + 1) n h
    · have hq : n / 128 < qb k := by rw [qb_succ k hk] at hn; omega
      obtain ⟨s, h1, h2, h3, h4, h5, h6, h7⟩ := ih (n / 128) hq (by omega)
      rw [viF, if_neg h]
      have e : (UInt8.ofNat (n % 128 + 128)).toNat = n % 128 + 128 := by rw [UInt8.toNat_ofNat']; omega
      refine ⟨s + 1, by omega, by simp [h2], ?_, ?_, ?_, ?_, ?_⟩
      · simp only [List.cons_append, cont]; rw [e, if_pos (by omega), h3]
      · rw [val, e, h4]; omega
      · rw [List.getD_cons_succ, h5, Nat.div_div_eq_div_mul, Nat.pow_succ, Nat.mul_comm]
      · rw [Nat.pow_succ, Nat.mul_comm, ← Nat.div_div_eq_div_mul]; exact h6
      · intro _
        rw [Nat.pow_succ, Nat.mul_comm, ← Nat.div_div_eq_div_mul]
        by_cases hs : 0 < s
        · exact h7 hs
        · obtain rfl : s = 0 := by omega
          simp; omega

theorem tv_vi (n : Nat) (r : List UInt8) (h : n < 18446744073709551616) : tv (vi n ++ r) = (n, r, 0) := by
  obtain ⟨s, h1, h2, h3, h4, h5, h6, h7⟩ := viF_read 9 n r (by simpa [qb] using h) (Nat.le_refl _)
  have hlen : (vi n).length = s + 1 := h2
  have hg : (vi n ++ r).getD s 0 = UInt8.ofNat (n / 128 ^ s) := by
    rw [← h5, List.getD_eq_getElem?_getD, List.getElem?_append_left (by omega), ← List.getD_eq_getElem?_getD]; rfl
  have e : (UInt8.ofNat (n / 128 ^ s)).toNat = n / 128 ^ s := by rw [UInt8.toNat_ofNat']; exact Nat.mod_eq_of_lt (Nat.lt_trans h6 (by decide))
  unfold tv
  simp only []
  rw [show cont 10 (vi n ++ r) = s from h3, if_neg (by omega), if_neg (by simp; omega), hg, e, if_neg, List.take_left' hlen, List.drop_left' hlen]
  · rw [show val (vi n) = n from h4]
  · rintro (⟨q1, q2⟩ | ⟨q1, q2⟩)
    · exact h7 q1 q2
    · subst q1
      have : n / 128 ^ 9 < 2 := Nat.div_lt_of_lt_mul (by have : (128 : Nat) ^ 9 * 2 = 18446744073709551616 := by decide
                                                         omega)
      omega

/-- A frame whose sum or text was turned is refused by its sum. -/
theorem tf_turned (n : Nat) (u body : List UInt8) (hn : n < 18446744073709551616) (hu : u.length = 4) (hb : body.length = n) (hne : crc body ≠ num u) : tf (vi n ++ (u ++ body)) = ([], [], 11) := by
  unfold tf
  simp only []
  rw [tv_vi n _ hn]
  simp only [ne_eq, not_true_eq_false, if_false]
  have h4 : (u ++ body).drop 4 = body := List.drop_left' hu
  have t4 : (u ++ body).take 4 = u := List.take_left' hu
  rw [if_neg (by simp; omega), h4, t4, if_neg (by omega), List.take_of_length_le (by omega), if_pos hne]
theorem tf_back (b r : List UInt8) (h : b.length < 18446744073709551616) : tf (frame b ++ r) = (b, r, 0) := by
  unfold frame tf
  simp only []
  rw [List.append_assoc, List.append_assoc, tv_vi _ _ h]
  simp only [ne_eq, not_true_eq_false, if_false]
  have h4 : (be 4 (crc b) ++ (b ++ r)).drop 4 = b ++ r := List.drop_left' (be_length 4 _)
  have t4 : (be 4 (crc b) ++ (b ++ r)).take 4 = be 4 (crc b) := List.take_left' (be_length 4 _)
  rw [if_neg (by simp [be_length]), h4, t4, if_neg (by simp), List.take_left' rfl, List.drop_left' rfl, num_be 4 _ (by have := crc_lt b; simpa using this), if_neg (by simp)]

theorem zx_self (l : List UInt8) : zx l l = List.replicate l.length 0 := by
  induction l with
  | nil => rfl
  | cons x l ih =>
    show (x ^^^ x) :: zx l l = _
    rw [ih, List.length_cons, List.replicate_succ, UInt8.xor_self]
theorem zx_app (a b c d : List UInt8) (h : a.length = b.length) : zx (a ++ c) (b ++ d) = zx a b ++ zx c d := by
  unfold zx; exact List.zipWith_append h
theorem zx_mid (a b b' c : List UInt8) (h : b.length = b'.length) : zx (a ++ b ++ c) (a ++ b' ++ c) = List.replicate a.length 0 ++ zx b b' ++ List.replicate c.length 0 := by
  rw [zx_app _ _ _ _ (by simp [h]), zx_app _ _ _ _ rfl, zx_self, zx_self]
theorem zx_zx (a b : List UInt8) (h : a.length = b.length) : zx (zx a b) a = b := by
  induction a generalizing b with
  | nil => exact (List.length_eq_zero_iff.1 (by simpa using h.symm)).symm
  | cons x a ih =>
    cases b with
    | nil => simp at h
    | cons y b =>
      show ((x ^^^ y) ^^^ x) :: zx (zx a b) a = y :: b
      rw [ih b (by simpa using h), UInt8.xor_comm x y, UInt8.xor_assoc, UInt8.xor_self, UInt8.xor_zero]
theorem zx_len (a b : List UInt8) (h : a.length = b.length) : (zx a b).length = a.length := by simp [zx, h]
end Go.Proofs.YtedfjacmaidhkaaGreat.M

/- Lists of wide elements as cells, and how a row of the call's own reads. Nothing of the program is named here. -/
namespace Go.Proofs.YtedfjacmaidhkaaGreat
open Go.RowKit
set_option linter.unusedVariables false
set_option maxRecDepth 100000

section
variable {α : Type} {f : α → List Value} {n : Nat}
theorem fm_len (hf : ∀ x, (f x).length = n) (l : List α) : (l.flatMap f).length = l.length * n := by
  induction l with
  | nil => simp
  | cons x l ih => rw [List.flatMap_cons, List.length_append, ih, hf, List.length_cons, Nat.add_mul]; omega
theorem fm_at (hf : ∀ x, (f x).length = n) (l : List α) (i j : Nat) (x : α) (e : l[i]? = some x) (hj : j < n) : (l.flatMap f)[i * n + j]? = (f x)[j]? := by
  induction l generalizing i with
  | nil => simp at e
  | cons y l ih =>
    cases i with
    | zero => simp at e; subst e; rw [List.flatMap_cons, Nat.zero_mul, Nat.zero_add, List.getElem?_append_left (by rw [hf]; exact hj)]
    | succ i =>
      have := ih i (by simpa using e)
      rw [List.flatMap_cons, List.getElem?_append_right (by rw [hf, Nat.add_mul]; omega), hf, ← this]
      congr 1
      rw [Nat.add_mul]; omega
theorem fm_take (hf : ∀ x, (f x).length = n) (l : List α) (k : Nat) : (l.flatMap f).take (k * n) = (l.take k).flatMap f := by
  induction l generalizing k with
  | nil => simp
  | cons x l ih =>
    cases k with
    | zero => simp
    | succ k => rw [List.take_succ_cons, List.flatMap_cons, List.flatMap_cons, ← ih k, List.take_append, hf, show (k + 1) * n - n = k * n by rw [Nat.add_mul]; omega, List.take_of_length_le (by rw [hf, Nat.add_mul]; omega)]
theorem fm_drop (hf : ∀ x, (f x).length = n) (l : List α) (k : Nat) : (l.flatMap f).drop (k * n) = (l.drop k).flatMap f := by
  induction l generalizing k with
  | nil => simp
  | cons x l ih =>
    cases k with
    | zero => simp
    | succ k => rw [List.drop_succ_cons, List.flatMap_cons, ← ih k, List.drop_append, hf, show (k + 1) * n - n = k * n by rw [Nat.add_mul]; omega, List.drop_of_length_le (by rw [hf, Nat.add_mul]; omega), List.nil_append]
end

section
variable {w : World}
/-- How a row of the call's own reads. -/
theorem row_reads {B : Nat} {e : TypeId} {size k : Nat} {v : Value} {xs : List Value} (h : w.ownsRow B e size v k xs) : ∃ a c, v = .slice a k c ∧ k ≤ c ∧ c ≤ maxLen ∧ (a = none → c = 0) ∧ ∀ j u, xs[j]? = some u → ∃ g, a = some ⟨g, 0, none⟩ ∧ w.cell? ⟨g, j, none⟩ = some u := by
  rcases h.2 with ⟨q, q0⟩ | ⟨g, cap, cur, q, hB, hg, q1, q2, q3, q4⟩
  · refine ⟨none, 0, by rw [q, q0], by omega, by simp, fun _ => rfl, fun j u e => ?_⟩
    have h1 := h.1
    have := (List.getElem?_eq_some_iff.1 e).1
    rw [h1, q0, Nat.zero_mul] at this
    omega
  · refine ⟨some ⟨g, 0, none⟩, cap, q, q1, q2, (fun e => by cases e), fun j u e => ⟨g, rfl, ?_⟩⟩
    have := h.cells (g := g) (by rw [q]; rfl) j u e
    rw [Addr.add_lit, Nat.zero_add] at this
    exact this
end
end Go.Proofs.YtedfjacmaidhkaaGreat
