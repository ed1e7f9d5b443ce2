/- Plain mathematics of the sum: it is linear, and texts of one length that are unlike in one to four neighbouring bytes have unlike sums; and a number of seven bits a byte is read as it was written. No program is named here. -/
import Derived.Test.YtedfjacmaidhkaaGreatG1
import Derived.ProofKit
import Derived.OpenShut
import Derived.ChangeOld
import Derived.SizedLaws
import Derived.Lib.Bytealg
import Derived.Laws.Entries
namespace Go.Proofs.YtedfjacmaidhkaaGreat.M
set_option maxRecDepth 100000

theorem xor_div2 (a b : Nat) : (a ^^^ b) / 2 = (a / 2) ^^^ (b / 2) := by
  have := Nat.shiftRight_xor_distrib (a := a) (b := b) (i := 1)
  simp only [Nat.shiftRight_eq_div_pow, Nat.pow_one] at this
  exact this
theorem bit_mul (a b P : Nat) : (a ^^^ b) % 2 * P = (a % 2 * P) ^^^ (b % 2 * P) := by
  have e : (a ^^^ b) % 2 = (a % 2) ^^^ (b % 2) := by
    have := Nat.xor_mod_two_pow (a := a) (b := b) (n := 1)
    simpa using this
  rw [e]
  rcases Nat.mod_two_eq_zero_or_one a with h1 | h1 <;> rcases Nat.mod_two_eq_zero_or_one b with h2 | h2 <;> rw [h1, h2] <;> simp
theorem xor_swap (a b c d : Nat) : (a ^^^ b) ^^^ (c ^^^ d) = (a ^^^ c) ^^^ (b ^^^ d) := by
  rw [Nat.xor_assoc, Nat.xor_assoc, ← Nat.xor_assoc b c d, Nat.xor_comm b c, Nat.xor_assoc c b d]
theorem st_xor (a b : Nat) : st (a ^^^ b) = st a ^^^ st b := by
  unfold st
  rw [xor_div2, bit_mul, xor_swap]
theorem st8_xor (a b : Nat) : st8 (a ^^^ b) = st8 a ^^^ st8 b := by
  unfold st8
  simp only [st_xor]
theorem st_double (a : Nat) : st (2 * a) = a := by
  unfold st
  rw [show 2 * a / 2 = a by omega, show 2 * a % 2 = 0 by omega]
  simp
theorem st8_shift (a : Nat) : st8 (256 * a) = a := by
  unfold st8
  rw [show 256 * a = 2 * (2 * (2 * (2 * (2 * (2 * (2 * (2 * a))))))) by omega]
  simp only [st_double]
theorem st_zero_iff (c : Nat) (h : c < 4294967296) : st c = 0 ↔ c = 0 := by
  constructor
  · intro e
    unfold st at e
    rcases Nat.mod_two_eq_zero_or_one c with h2 | h2
    · rw [h2] at e
      simp at e
      omega
    · rw [h2, Nat.one_mul] at e
      have : c / 2 = 3988292384 := by
        have := congrArg (fun x => x ^^^ 3988292384) e
        simpa [Nat.xor_assoc] using this
      omega
  · rintro rfl; decide
theorem st8_zero_iff (c : Nat) (h : c < 4294967296) : st8 c = 0 ↔ c = 0 := by
  unfold st8
  have h1 := st_lt c h
  have h2 := st_lt _ h1
  have h3 := st_lt _ h2
  have h4 := st_lt _ h3
  have h5 := st_lt _ h4
  have h6 := st_lt _ h5
  have h7 := st_lt _ h6
  rw [st_zero_iff _ h7, st_zero_iff _ h6, st_zero_iff _ h5, st_zero_iff _ h4, st_zero_iff _ h3, st_zero_iff _ h2, st_zero_iff _ h1, st_zero_iff _ h]

/-- Byte by byte, by exclusive or. -/
def zx (x y : List UInt8) : List UInt8 := List.zipWith (fun a b => a ^^^ b) x y

theorem crcF_zx (x y : List UInt8) (h : x.length = y.length) (a b : Nat) : crcF (a ^^^ b) (zx x y) = crcF a x ^^^ crcF b y := by
  induction x generalizing y a b with
  | nil =>
    obtain rfl : y = [] := List.length_eq_zero_iff.1 (by simpa using h.symm)
    rfl
  | cons p x ih =>
    cases y with
    | nil => simp at h
    | cons q y =>
      have e : st8 ((a ^^^ b) ^^^ (p ^^^ q).toNat) = st8 (a ^^^ p.toNat) ^^^ st8 (b ^^^ q.toNat) := by
        rw [UInt8.toNat_xor, xor_swap, st8_xor]
      show crcF (st8 ((a ^^^ b) ^^^ (p ^^^ q).toNat)) (zx x y) = crcF (st8 (a ^^^ p.toNat)) x ^^^ crcF (st8 (b ^^^ q.toNat)) y
      rw [e, ih y (by simpa using h)]
theorem crcF_app (s : Nat) (x y : List UInt8) : crcF s (x ++ y) = crcF (crcF s x) y := by simp [crcF]
theorem crcF_zeros (k : Nat) : crcF 0 (List.replicate k 0) = 0 := by
  induction k with
  | zero => rfl
  | succ k ih => rw [List.replicate_succ]; exact ih
theorem crcF_zeros_iff (k : Nat) (d : Nat) (h : d < 4294967296) : crcF d (List.replicate k 0) = 0 ↔ d = 0 := by
  induction k generalizing d with
  | zero => exact Iff.rfl
  | succ k ih =>
    rw [List.replicate_succ]
    show crcF (st8 (d ^^^ (0 : UInt8).toNat)) (List.replicate k 0) = 0 ↔ d = 0
    have e : d ^^^ (0 : UInt8).toNat = d := by simp
    rw [e, ih _ (st8_lt d h), st8_zero_iff d h]

/-- The bytes as one number, the lowest first. -/
def vx : List UInt8 → Nat
  | [] => 0
  | x :: r => x.toNat ^^^ (256 * vx r)
def stB : Nat → Nat → Nat
  | 0, c => c
  | k + 1, c => stB k (st8 c)
theorem crcF_vx (m : List UInt8) (d : Nat) : crcF d m = stB m.length (d ^^^ vx m) := by
  induction m generalizing d with
  | nil => simp [crcF, stB, vx]
  | cons x r ih =>
    show crcF (st8 (d ^^^ x.toNat)) r = stB (r.length + 1) (d ^^^ (x.toNat ^^^ (256 * vx r)))
    rw [ih, stB, ← Nat.xor_assoc, st8_xor (d ^^^ x.toNat), st8_shift]
theorem vx_add (x : UInt8) (a : Nat) : x.toNat ^^^ (256 * a) = x.toNat + 256 * a := by
  have h := Nat.two_pow_add_eq_or_of_lt (i := 8) (b := x.toNat) (by have := x.toNat_lt; simpa using this) a
  have hx := x.toNat_lt
  have hand : (256 * a) &&& x.toNat = 0 := by
    apply Nat.eq_of_testBit_eq
    intro i
    rw [Nat.testBit_and, show 256 * a = 2 ^ 8 * a from rfl, Nat.testBit_two_pow_mul]
    by_cases hi : 8 ≤ i
    · rw [Nat.testBit_lt_two_pow (show x.toNat < 2 ^ i from Nat.lt_of_lt_of_le hx (Nat.pow_le_pow_right (n := 2) (by decide) hi))]
      simp
    · simp [hi]
  rw [Nat.xor_comm]
  have e : (256 * a) ^^^ x.toNat = (256 * a) ||| x.toNat := by
    apply Nat.eq_of_testBit_eq
    intro i
    have hb := congrArg (fun n => n.testBit i) hand
    simp only [Nat.testBit_and, Nat.zero_testBit] at hb
    rw [Nat.testBit_xor, Nat.testBit_or]
    cases h1 : (256 * a).testBit i <;> cases h2 : x.toNat.testBit i <;> simp_all
  rw [e, show 256 * a = 2 ^ 8 * a from rfl, ← h]
  omega
theorem vx_lt (m : List UInt8) : vx m < 256 ^ m.length := by
  induction m with
  | nil => simp [vx]
  | cons x r ih =>
    rw [vx, vx_add, List.length_cons, Nat.pow_succ']
    have := x.toNat_lt
    omega
theorem vx_zero (m : List UInt8) (h : vx m = 0) : ∀ x ∈ m, x = 0 := by
  induction m with
  | nil => intro x hx; cases hx
  | cons y r ih =>
    rw [vx, vx_add] at h
    intro x hx
    rcases List.mem_cons.1 hx with rfl | hx
    · exact UInt8.toNat_inj.1 (by show _ = 0; omega)
    · exact ih (by omega) x hx
theorem stB_zero_iff (k c : Nat) (h : c < 4294967296) : stB k c = 0 ↔ c = 0 := by
  induction k generalizing c with
  | zero => exact Iff.rfl
  | succ k ih => rw [stB, ih _ (st8_lt c h), st8_zero_iff c h]

/-- Unlike in up to four neighbours: unlike sums. -/
theorem crc_burst (c b : List UInt8) (h : c.length = b.length) (p q : Nat) (m : List UInt8) (hm : m.length ≤ 4) (hz : zx c b = List.replicate p 0 ++ m ++ List.replicate q 0) :
    crc c = crc b ↔ ∀ x ∈ m, x = 0 := by
  have h1 : crc c = crc b ↔ crcF 4294967295 c = crcF 4294967295 b := by
    unfold crc
    constructor
    · intro e
      have := congrArg (fun x => 4294967295 ^^^ x) e
      simpa [← Nat.xor_assoc] using this
    · intro e; rw [e]
  have h2 : crcF 4294967295 c = crcF 4294967295 b ↔ crcF 0 (zx c b) = 0 := by
    have e := crcF_zx c b h 4294967295 4294967295
    rw [Nat.xor_self] at e
    rw [e]
    constructor
    · intro h; rw [h, Nat.xor_self]
    · intro h
      have := congrArg (fun x => x ^^^ crcF 4294967295 b) h
      simpa [Nat.xor_assoc] using this
  have hv : vx m < 4294967296 := Nat.lt_of_lt_of_le (vx_lt m) (by have := Nat.pow_le_pow_right (n := 256) (by decide) hm; simpa using this)
  have hb : stB m.length (vx m) < 4294967296 := by
    have : ∀ k c, c < 4294967296 → stB k c < 4294967296 := by
      intro k
      induction k with
      | zero => intro c hc; exact hc
      | succ k ih => intro c hc; exact ih _ (st8_lt c hc)
    exact this _ _ hv
  rw [h1, h2, hz, crcF_app, crcF_app, crcF_zeros, crcF_vx m 0, Nat.zero_xor, crcF_zeros_iff q _ hb, stB_zero_iff _ _ hv]
  constructor
  · exact vx_zero m
  · intro hall
    clear hz hm hv hb
    induction m with
    | nil => rfl
    | cons x r ih =>
      rw [vx, hall x List.mem_cons_self, ih (fun y hy => hall y (List.mem_cons_of_mem _ hy))]
      rfl
end Go.Proofs.YtedfjacmaidhkaaGreat.M

/- Plain mathematics: what was written is read again. No program is named here. -/
namespace Go.Proofs.YtedfjacmaidhkaaGreat.M
set_option maxRecDepth 100000

theorem num_cons (x : UInt8) (l : List UInt8) : num (x :: l) = x.toNat * 256 ^ l.length + num l := by
  have : ∀ (l : List UInt8) (n : Nat), l.foldl (fun n x => n * 256 + x.toNat) n = n * 256 ^ l.length + num l := by
    intro l
    induction l with
    | nil => intro n; simp [num]
    | cons y l ih =>
      intro n
      have e : num (y :: l) = y.toNat * 256 ^ l.length + num l := by
        show List.foldl (fun n x => n * 256 + x.toNat) (0 * 256 + y.toNat) l = _
        rw [ih]; simp
      rw [List.foldl_cons, ih, List.length_cons, Nat.pow_succ', e]
      simp only [Nat.add_mul, Nat.mul_assoc, Nat.add_assoc]
  rw [num, List.foldl_cons, this]
  simp
theorem num_be (k n : Nat) (h : n < 256 ^ k) : num (be k n) = n := by
  suffices H : ∀ k n, num (be k n) = n % 256 ^ k by rw [H, Nat.mod_eq_of_lt h]
  intro k
  induction k with
  | zero => intro n; simp [be, num]; omega
  | succ k ih =>
    intro n
    have e8 : (2 : Nat) ^ (8 * k) = 256 ^ k := by rw [Nat.pow_mul]
    have em : n % (256 ^ k * 256) = n % 256 ^ k + 256 ^ k * (n / 256 ^ k % 256) := Nat.mod_mul
    have hu : (UInt8.ofNat (n / 256 ^ k)).toNat = n / 256 ^ k % 256 := by rw [UInt8.toNat_ofNat']
    rw [be, num_cons, ih, be_length, e8, hu, Nat.pow_succ, em, Nat.mul_comm, Nat.add_comm]
theorem num_inj (a b : List UInt8) (h : a.length = b.length) (e : num a = num b) : a = b := by
  induction a generalizing b with
  | nil => exact (List.length_eq_zero_iff.1 (by simpa using h.symm)).symm
  | cons x a ih =>
    cases b with
    | nil => simp at h
    | cons y b =>
      have hl : a.length = b.length := by simpa using h
      rw [num_cons, num_cons, hl] at e
      have h1 := num_lt a
      have h2 := num_lt b
      rw [hl] at h1
      generalize 256 ^ b.length = P at *
      have hx : x.toNat = y.toNat := by
        rcases Nat.lt_trichotomy x.toNat y.toNat with q | q | q
        · have : (x.toNat + 1) * P ≤ y.toNat * P := Nat.mul_le_mul_right _ q
          rw [Nat.add_mul] at this; omega
        · exact q
        · have : (y.toNat + 1) * P ≤ x.toNat * P := Nat.mul_le_mul_right _ q
          rw [Nat.add_mul] at this; omega
      rw [hx] at e
      rw [UInt8.toNat_inj.1 hx, ih b hl (by omega)]

/-- What is written of a number, seen as it is read. -/
theorem viF_read (k n : Nat) (r : List UInt8) (hn : n < qb k) (hk : k ≤ 9) :
    ∃ s, s ≤ k ∧ (viF k n).length = s + 1 ∧ cont (k + 1) (viF k n ++ r) = s ∧ val (viF k n) = n ∧ (viF k n).getD s 0 = UInt8.ofNat (n / 128 ^ s) ∧ n / 128 ^ s < 128 ∧ (0 < s → n / 128 ^ s ≠ 0) := by
  have base : ∀ m n, n < 128 → ∃ s, s ≤ m ∧ ([UInt8.ofNat n]).length = s + 1 ∧ cont (m + 1) ([UInt8.ofNat n] ++ r) = s ∧ val [UInt8.ofNat n] = n ∧ ([UInt8.ofNat n]).getD s 0 = UInt8.ofNat (n / 128 ^ s) ∧ n / 128 ^ s < 128 ∧ (0 < s → n / 128 ^ s ≠ 0) := by
    intro m n h
    have e : (UInt8.ofNat n).toNat = n := by rw [UInt8.toNat_ofNat']; omega
    refine ⟨0, Nat.zero_le _, rfl, ?_, ?_, by simp, by simpa using h, fun h => absurd h (Nat.lt_irrefl _)⟩
    · simp only [List.singleton_append, cont]; rw [e, if_neg (by omega)]
    · simp only [val]; rw [e]; omega
  induction k generalizing n with
  | zero =>
    have : n < 128 := by rw [qb_zero] at hn; omega
    exact base 0 n this
  | succ k ih =>
    by_cases h : n < 128
    · rw [viF, if_pos h]
      exact base (k + 1) n h
    · have hq : n / 128 < qb k := by rw [qb_succ k hk] at hn; omega
      obtain ⟨s, h1, h2, h3, h4, h5, h6, h7⟩ := ih (n / 128) hq (by omega)
      rw [viF, if_neg h]
      have e : (UInt8.ofNat (n % 128 + 128)).toNat = n % 128 + 128 := by rw [UInt8.toNat_ofNat']; omega
      refine ⟨s + 1, by omega, by simp [h2], ?_, ?_, ?_, ?_, ?_⟩
      · simp only [List.cons_append, cont]; rw [e, if_pos (by omega), h3]
      · rw [val, e, h4]; omega
      · rw [List.getD_cons_succ, h5, Nat.div_div_eq_div_mul, Nat.pow_succ, Nat.mul_comm]
      · rw [Nat.pow_succ, Nat.mul_comm, ← Nat.div_div_eq_div_mul]; exact h6
      · intro _
        rw [Nat.pow_succ, Nat.mul_comm, ← Nat.div_div_eq_div_mul]
        by_cases hs : 0 < s
        · exact h7 hs
        · obtain rfl : s = 0 := by omega
          simp; omega

theorem tv_vi (n : Nat) (r : List UInt8) (h : n < 18446744073709551616) : tv (vi n ++ r) = (n, r, 0) := by
  obtain ⟨s, h1, h2, h3, h4, h5, h6, h7⟩ := viF_read 9 n r (by simpa [qb] using h) (Nat.le_refl _)
  have hlen : (vi n).length = s + 1 := h2
  have hg : (vi n ++ r).getD s 0 = UInt8.ofNat (n / 128 ^ s) := by
    rw [← h5, List.getD_eq_getElem?_getD, List.getElem?_append_left (by omega), ← List.getD_eq_getElem?_getD]; rfl
  have e : (UInt8.ofNat (n / 128 ^ s)).toNat = n / 128 ^ s := by rw [UInt8.toNat_ofNat']; exact Nat.mod_eq_of_lt (Nat.lt_trans h6 (by decide))
  unfold tv
  simp only []
  rw [show cont 10 (vi n ++ r) = s from h3, if_neg (by omega), if_neg (by simp; omega), hg, e, if_neg, List.take_left' hlen, List.drop_left' hlen]
  · rw [show val (vi n) = n from h4]
  · rintro (⟨q1, q2⟩ | ⟨q1, q2⟩)
    · exact h7 q1 q2
    · subst q1
      have : n / 128 ^ 9 < 2 := Nat.div_lt_of_lt_mul (by have : (128 : Nat) ^ 9 * 2 = 18446744073709551616 := by decide
                                                         omega)
      omega

/-- A frame whose sum or text was turned is refused by its sum. -/
theorem tf_turned (n : Nat) (u body : List UInt8) (hn : n < 18446744073709551616) (hu : u.length = 4) (hb : body.length = n) (hne : crc body ≠ num u) : tf (vi n ++ (u ++ body)) = ([], [], 11) := by
  unfold tf
  simp only []
  rw [tv_vi n _ hn]
  simp only [ne_eq, not_true_eq_false, if_false]
  have h4 : (u ++ body).drop 4 = body := List.drop_left' hu
  have t4 : (u ++ body).take 4 = u := List.take_left' hu
  rw [if_neg (by simp; omega), h4, t4, if_neg (by omega), List.take_of_length_le (by omega), if_pos hne]
theorem tf_back (b r : List UInt8) (h : b.length < 18446744073709551616) : tf (frame b ++ r) = (b, r, 0) := by
  unfold frame tf
  simp only []
  rw [List.append_assoc, List.append_assoc, tv_vi _ _ h]
  simp only [ne_eq, not_true_eq_false, if_false]
  have h4 : (be 4 (crc b) ++ (b ++ r)).drop 4 = b ++ r := List.drop_left' (be_length 4 _)
  have t4 : (be 4 (crc b) ++ (b ++ r)).take 4 = be 4 (crc b) := List.take_left' (be_length 4 _)
  rw [if_neg (by simp [be_length]), h4, t4, if_neg (by simp), List.take_left' rfl, List.drop_left' rfl, num_be 4 _ (by have := crc_lt b; simpa using this), if_neg (by simp)]

theorem zx_self (l : List UInt8) : zx l l = List.replicate l.length 0 := by
  induction l with
  | nil => rfl
  | cons x l ih =>
    show (x ^^^ x) :: zx l l = _
    rw [ih, List.length_cons, List.replicate_succ, UInt8.xor_self]
theorem zx_app (a b c d : List UInt8) (h : a.length = b.length) : zx (a ++ c) (b ++ d) = zx a b ++ zx c d := by
  unfold zx; exact List.zipWith_append h
theorem zx_mid (a b b' c : List UInt8) (h : b.length = b'.length) : zx (a ++ b ++ c) (a ++ b' ++ c) = List.replicate a.length 0 ++ zx b b' ++ List.replicate c.length 0 := by
  rw [zx_app _ _ _ _ (by simp [h]), zx_app _ _ _ _ rfl, zx_self, zx_self]
theorem zx_zx (a b : List UInt8) (h : a.length = b.length) : zx (zx a b) a = b := by
  induction a generalizing b with
  | nil => exact (List.length_eq_zero_iff.1 (by simpa using h.symm)).symm
  | cons x a ih =>
    cases b with
    | nil => simp at h
    | cons y b =>
      show ((x ^^^ y) ^^^ x) :: zx (zx a b) a = y :: b
      rw [ih b (by simpa using h), UInt8.xor_comm x y, UInt8.xor_assoc, UInt8.xor_self, UInt8.xor_zero]
theorem zx_len (a b : List UInt8) (h : a.length = b.length) : (zx a b).length = a.length := by simp [zx, h]
end Go.Proofs.YtedfjacmaidhkaaGreat.M

/- Lists of wide elements as cells, and how a row of the call's own reads. Nothing of the program is named here. -/
namespace Go.Proofs.YtedfjacmaidhkaaGreat
open Go.RowKit
set_option linter.unusedVariables false
set_option maxRecDepth 100000

section
variable {α : Type} {f : α → List Value} {n : Nat}
theorem fm_len (hf : ∀ x, (f x).length = n) (l : List α) : (l.flatMap f).length = l.length * n := by
  induction l with
  | nil => simp
  | cons x l ih => rw [List.flatMap_cons, List.length_append, ih, hf, List.length_cons, Nat.add_mul]; omega
theorem fm_at (hf : ∀ x, (f x).length = n) (l : List α) (i j : Nat) (x : α) (e : l[i]? = some x) (hj : j < n) : (l.flatMap f)[i * n + j]? = (f x)[j]? := by
  induction l generalizing i with
  | nil => simp at e
  | cons y l ih =>
    cases i with
    | zero => simp at e; subst e; rw [List.flatMap_cons, Nat.zero_mul, Nat.zero_add, List.getElem?_append_left (by rw [hf]; exact hj)]
    | succ i =>
      have := ih i (by simpa using e)
      rw [List.flatMap_cons, List.getElem?_append_right (by rw [hf, Nat.add_mul]; omega), hf, ← this]
      congr 1
      rw [Nat.add_mul]; omega
theorem fm_take (hf : ∀ x, (f x).length = n) (l : List α) (k : Nat) : (l.flatMap f).take (k * n) = (l.take k).flatMap f := by
  induction l generalizing k with
  | nil => simp
  | cons x l ih =>
    cases k with
    | zero => simp
    | succ k => rw [List.take_succ_cons, List.flatMap_cons, List.flatMap_cons, ← ih k, List.take_append, hf, show (k + 1) * n - n = k * n by rw [Nat.add_mul]; omega, List.take_of_length_le (by rw [hf, Nat.add_mul]; omega)]
theorem fm_drop (hf : ∀ x, (f x).length = n) (l : List α) (k : Nat) : (l.flatMap f).drop (k * n) = (l.drop k).flatMap f := by
  induction l generalizing k with
  | nil => simp
  | cons x l ih =>
    cases k with
    | zero => simp
    | succ k => rw [List.drop_succ_cons, List.flatMap_cons, ← ih k, List.drop_append, hf, show (k + 1) * n - n = k * n by rw [Nat.add_mul]; omega, List.drop_of_length_le (by rw [hf, Nat.add_mul]; omega), List.nil_append]
end

section
variable {w : World}
/-- How a row of the call's own reads. -/
theorem row_reads {B : Nat} {e : TypeId} {size k : Nat} {v : Value} {xs : List Value} (h : w.ownsRow B e size v k xs) : ∃ a c, v = .slice a k c ∧ k ≤ c ∧ c ≤ maxLen ∧ (a = none → c = 0) ∧ ∀ j u, xs[j]? = some u → ∃ g, a = some ⟨g, 0, none⟩ ∧ w.cell? ⟨g, j, none⟩ = some u := by
  rcases h.2 with ⟨q, q0⟩ | ⟨g, cap, cur, q, hB, hg, q1, q2, q3, q4⟩
  · refine ⟨none, 0, by rw [q, q0], by omega, by simp, fun _ => rfl, fun j u e => ?_⟩
    have h1 := h.1
    have := (List.getElem?_eq_some_iff.1 e).1
    rw [h1, q0, Nat.zero_mul] at this
    omega
  · refine ⟨some ⟨g, 0, none⟩, cap, q, q1, q2, (fun e => by cases e), fun j u e => ⟨g, rfl, ?_⟩⟩
    have := h.cells (g := g) (by rw [q]; rfl) j u e
    rw [Addr.add_lit, Nat.zero_add] at this
    exact this
end
end Go.Proofs.YtedfjacmaidhkaaGreat

/- One element of any width appended to a row of the call's own. -/
namespace Go.Proofs.YtedfjacmaidhkaaGreat
open Go.RowKit
set_option linter.unusedVariables false
set_option maxRecDepth 100000

theorem wpList_appG {P : Program} {α : Type} (enc : α → List Value) (k bytes : Nat) (ts te : TypeId) (z : Value) (hu : P.underlying ts = some (.slice te)) (hinf : (P.info? te).map (fun i => (i.zero, i.size, i.bytes)) = some (some z, k, bytes)) (hz : z.cells.size = k) (hk0 : 0 < k) (hkl : ∀ x, (enc x).length = k) (h1 : ∀ x, ∀ u ∈ enc x, u.oneCell' = true) (hby : bytes ≤ 127)
    {w : World} {ops : Array Oper} {rest : List Oper} {o : Oper} {a : Act} {Q : Exit → Act → World → Prop} (hgd : o.guard = none) (s x : Operand)
    (ho : o.op = .call { callee := .builtin .append, args := #[s, x], argTypes := #[ts, ts] })
    (B : Nat) (v : Value) (l : List α) (hs : a.eval s = v) (hown : w.ownsRow B te k v l.length (l.flatMap enc)) (ad : Addr) (c : Nat) (e : α) (hx : a.eval x = .slice (some ad) 1 c) (h0 : ∀ (j : Nat) u, (enc e)[j]? = some u → w.cell? (ad.add j) = some u) (hB : B ≤ w.heap.size) (hlen : l.length + 1 ≤ 1099511627776)
    (h : ∀ v' w', w'.ownsRow B te k v' (l ++ [e]).length ((l ++ [e]).flatMap enc) → w.grownBy w' v.ownBlock → (v'.ownBlock = v.ownBlock ∨ v'.ownBlock = some w.heap.size) → wpList P ops Q rest (a.put o.dst v') w') : wpList P ops Q (o :: rest) a w := by
  refine wpList_plain hgd fun K hK => ?_
  have hmul : (l.length + 1) * bytes ≤ 1099511627776 * 127 := Nat.mul_le_mul hlen hby
  obtain ⟨v', w', hr, q2, q3, q4⟩ := run_appW (P := P) w B ts o.type te z k bytes hu hinf hz hk0 v l.length (l.flatMap enc) hown ad 1 c (enc e) (by rw [hkl, Nat.one_mul]) h0 (h1 e) (by unfold maxLen; omega) (by omega) hB
  unfold Oper.wp execOp
  simp only [ho, resolve, invoke, builtin, Sem.run_bind, Sem.run_pure, Result.andThen_ok, List.map_toArray, List.map_cons, List.map_nil, hs, hx, hr]
  exact hK _ _ (h v' w' (by rw [List.length_append, List.flatMap_append]; simpa using q2) q3 q4)
end Go.Proofs.YtedfjacmaidhkaaGreat

/- Cells of a list of wide elements, looked at the other way round; addresses; rows kept. -/
namespace Go.Proofs.YtedfjacmaidhkaaGreat
open Go.RowKit
set_option linter.unusedVariables false
set_option maxRecDepth 100000

theorem fm_inv {α : Type} {f : α → List Value} {n : Nat} (hf : ∀ x, (f x).length = n) (hn : 0 < n) (l : List α) (j : Nat) (u : Value) (h : (l.flatMap f)[j]? = some u) : ∃ i r x, l[i]? = some x ∧ r < n ∧ j = i * n + r ∧ (f x)[r]? = some u := by
  have hj := (List.getElem?_eq_some_iff.1 h).1
  rw [fm_len hf] at hj
  have hi : j / n < l.length := Nat.div_lt_of_lt_mul (by rw [Nat.mul_comm]; exact hj)
  have hr := Nat.mod_lt j hn
  have e : j = j / n * n + j % n := by have := Nat.div_add_mod j n; rw [Nat.mul_comm] at this; omega
  refine ⟨j / n, j % n, l[j / n], List.getElem?_eq_getElem hi, hr, e, ?_⟩
  rw [← fm_at hf l (j / n) (j % n) _ (List.getElem?_eq_getElem hi) hr, ← e]
  exact h

theorem add_at (a : Addr) (n r : Nat) : (⟨(a.add n).block, (a.add n).off + (r + 1), none⟩ : Addr) = a.add (n + (r + 1)) := by
  unfold Addr.add
  by_cases h : n = 0
  · subst h; simp
  · simp [h]; omega
theorem ownsRow_belP {B C n s : Nat} {e : TypeId} {w w' : World} {v : Value} {xs : List Value} (h : w.ownsRow B e s v n xs) (hb : Below C w w') (hC : w.heap.size ≤ C) : w'.ownsRow B e s v n xs := by
  obtain ⟨h1, h2⟩ := h
  refine ⟨h1, ?_⟩
  rcases h2 with h2 | ⟨g, cap, cur, hv, hg, hh, r⟩
  · exact .inl h2
  · refine .inr ⟨g, cap, cur, hv, hg, ?_, r⟩
    have hlt : g < w.heap.size := (Array.getElem?_eq_some_iff.1 hh).1
    rw [hb.block g (by omega)]; exact hh
end Go.Proofs.YtedfjacmaidhkaaGreat

/- Plain mathematics of a heap in a list, apart from what lies in it (as HpMath has it for the table's runs). -/
namespace Go.Proofs.YtedfjacmaidhkaaGreat.M
set_option maxRecDepth 100000
set_option linter.unusedVariables false

section
variable {α : Type} {lt : α → α → Bool}

/-- Two places swapped. -/
def sw (H : List α) (i j : Nat) : List α := match H[i]?, H[j]? with
  | some x, some y => (H.set i y).set j x
  | _, _ => H
theorem sw_eq {H : List α} {i j : Nat} {x y : α} (hi : H[i]? = some x) (hj : H[j]? = some y) : sw H i j = (H.set i y).set j x := by unfold sw; rw [hi, hj]
theorem sw_len (H : List α) (i j : Nat) : (sw H i j).length = H.length := by unfold sw; split <;> simp
theorem sw_at {H : List α} {i j : Nat} (hi : i < H.length) (hj : j < H.length) (k : Nat) : (sw H i j)[k]? = if k = j then H[i]? else if k = i then H[j]? else H[k]? := by
  have ei : H[i]? = some H[i] := List.getElem?_eq_getElem hi
  have ej : H[j]? = some H[j] := List.getElem?_eq_getElem hj
  rw [sw_eq ei ej, List.getElem?_set, List.getElem?_set, ei, ej]
  simp only [List.length_set]
  by_cases h1 : k = j
  · subst h1; simp [hj]
  · rw [if_neg (fun e => h1 e.symm), if_neg h1]
    by_cases h2 : k = i
    · subst h2; simp [hi]
    · rw [if_neg (fun e => h2 e.symm), if_neg h2]

/-- The first n places hold the same, in another order; the others are as they were. -/
def Mv (n : Nat) (H H' : List α) : Prop := H'.length = H.length ∧ (H'.take n).Perm (H.take n) ∧ ∀ k, n ≤ k → H'[k]? = H[k]?
theorem Mv.refl (n : Nat) (H : List α) : Mv n H H := ⟨rfl, List.Perm.refl _, fun _ _ => rfl⟩
theorem Mv.trans {n : Nat} {A B C : List α} (h1 : Mv n A B) (h2 : Mv n B C) : Mv n A C := ⟨h2.1.trans h1.1, h2.2.1.trans h1.2.1, fun k hk => (h2.2.2 k hk).trans (h1.2.2 k hk)⟩
theorem sw_perm {H : List α} {i j : Nat} (hi : i < H.length) (hj : j < H.length) : (sw H i j).Perm H := by
  have e : sw H i j = (H.toArray.swap i j (by simpa using hi) (by simpa using hj)).toList := by
    rw [sw_eq (List.getElem?_eq_getElem hi) (List.getElem?_eq_getElem hj), Array.toList_swap]
    simp
  rw [e]
  have := Array.swap_perm (xs := H.toArray) (i := i) (j := j) (by simpa using hi) (by simpa using hj)
  simpa using Array.perm_iff_toList_perm.1 this
theorem mem_take_iff {H : List α} {n : Nat} {x : α} : x ∈ H.take n ↔ ∃ k, k < n ∧ H[k]? = some x := by
  rw [List.mem_iff_getElem?]
  constructor
  · rintro ⟨k, hk⟩
    rw [List.getElem?_take] at hk
    split at hk
    · exact ⟨k, by assumption, hk⟩
    · cases hk
  · rintro ⟨k, hk, e⟩
    exact ⟨k, by rw [List.getElem?_take, if_pos hk]; exact e⟩
theorem sw_take {H : List α} {n i j : Nat} (hi : i < n) (hj : j < n) (hn : n ≤ H.length) : (sw H i j).take n = sw (H.take n) i j := by
  apply List.ext_getElem?
  intro k
  have hl : (H.take n).length = n := by simp; omega
  rw [sw_at (by omega) (by omega), List.getElem?_take, List.getElem?_take, List.getElem?_take, List.getElem?_take, if_pos hi, if_pos hj, sw_at (by omega) (by omega)]
  by_cases hk : k < n
  · rw [if_pos hk, if_pos hk]
  · rw [if_neg hk, if_neg hk, if_neg (by omega), if_neg (by omega)]
theorem sw_mv {H : List α} {n i j : Nat} (hi : i < n) (hj : j < n) (hn : n ≤ H.length) : Mv n H (sw H i j) := by
  refine ⟨sw_len _ _ _, ?_, fun k hk => ?_⟩
  · rw [sw_take hi hj hn]
    exact sw_perm (by simp; omega) (by simp; omega)
  · rw [sw_at (by omega) (by omega), if_neg (by omega), if_neg (by omega)]
/-- The first and the last swapped: the first n hold what was behind the first. -/
theorem sw_top {H : List α} {n : Nat} (hn : H.length = n + 1) : ((sw H 0 n).take n).Perm H.tail := by
  cases n with
  | zero =>
    obtain ⟨x, rfl⟩ := List.length_eq_one_iff.1 hn
    simp
  | succ n =>
    cases H with
    | nil => simp at hn
    | cons x T =>
      simp only [List.length_cons, Nat.add_right_cancel_iff] at hn
      have hl : n < T.length := by omega
      have e : (sw (x :: T) 0 (n + 1)).take (n + 1) = T[n] :: T.take n := by
        apply List.ext_getElem?
        intro k
        rw [List.getElem?_take]
        cases k with
        | zero => rw [if_pos (by omega), sw_at (by simp) (by simp; omega), if_neg (by omega), if_pos rfl]; simp
        | succ k =>
          rw [List.getElem?_cons_succ, List.getElem?_take]
          by_cases hk : k < n
          · rw [if_pos (by omega), if_pos hk, sw_at (by simp) (by simp; omega), if_neg (by omega), if_neg (by omega)]; simp
          · rw [if_neg (by omega), if_neg hk]
      rw [e]
      have e2 : T = T.take n ++ [T[n]] := by
        rw [List.take_append_getElem hl, List.take_of_length_le (by omega)]
      show List.Perm _ T
      refine List.Perm.trans ?_ (List.Perm.of_eq e2.symm)
      exact List.perm_append_comm (l₁ := [T[n]]) (l₂ := T.take n)

variable (lt)
/-- Of the first n none stands ahead of its parent. -/
def Hp (H : List α) (n : Nat) : Prop := ∀ i x y, 0 < i → i < n → H[i]? = some x → H[(i - 1) / 2]? = some y → lt x y = false
/-- .. but perhaps the one at j. -/
def HpU (H : List α) (n j : Nat) : Prop := (∀ i x y, 0 < i → i < n → i ≠ j → H[i]? = some x → H[(i - 1) / 2]? = some y → lt x y = false) ∧ ∀ i x y, 0 < i → i < n → 0 < j → (i - 1) / 2 = j → H[i]? = some x → H[(j - 1) / 2]? = some y → lt x y = false
/-- .. but perhaps those whose parent is j. -/
def HpD (H : List α) (n j : Nat) : Prop := (∀ i x y, 0 < i → i < n → (i - 1) / 2 ≠ j → H[i]? = some x → H[(i - 1) / 2]? = some y → lt x y = false) ∧ ∀ i x y, 0 < i → i < n → 0 < j → (i - 1) / 2 = j → H[i]? = some x → H[(j - 1) / 2]? = some y → lt x y = false
variable {lt}

theorem Hp.u0 {H : List α} {n : Nat} (h : Hp lt H n) : HpU lt H n 0 := ⟨fun i x y h1 h2 _ => h i x y h1 h2, fun i x y h1 h2 h3 => absurd h3 (by omega)⟩
theorem HpU.top {H : List α} {n : Nat} (h : HpU lt H n 0) : Hp lt H n := fun i x y h1 h2 => h.1 i x y h1 h2 (by omega)
theorem HpU.ok {H : List α} {n j : Nat} {x y : α} (h : HpU lt H n j) (hx : H[j]? = some x) (hy : H[(j - 1) / 2]? = some y) (hl : lt x y = false) : Hp lt H n := fun i a b h1 h2 ha hb => by
  by_cases e : i = j
  · subst e
    rw [hx] at ha; rw [hy] at hb
    obtain rfl := Option.some.inj ha
    obtain rfl := Option.some.inj hb
    exact hl
  · exact h.1 i a b h1 h2 e ha hb
theorem HpU.up {H : List α} {n j : Nat} {x y : α} (tr : ∀ a b c : α, lt b a = false → lt c b = false → lt c a = false) (asy : ∀ a b : α, lt a b = true → lt b a = false) (hn : n = H.length) (hj : 0 < j) (hjn : j < n) (h : HpU lt H n j) (hx : H[j]? = some x) (hy : H[(j - 1) / 2]? = some y) (hl : lt x y = true) : HpU lt (sw H ((j - 1) / 2) j) n ((j - 1) / 2) := by
  subst hn
  obtain ⟨h1, h2⟩ := h
  have hyx := asy _ _ hl
  have at_ := fun k => sw_at (H := H) (i := (j - 1) / 2) (j := j) (by omega) hjn k
  constructor
  · intro k a b k0 kn ki ha hb
    rw [at_] at ha hb
    rw [if_neg ki] at ha
    by_cases e1 : k = j
    · subst e1
      rw [if_pos rfl, hy] at ha
      rw [if_neg (by omega), if_pos rfl, hx] at hb
      obtain rfl := Option.some.inj ha
      obtain rfl := Option.some.inj hb
      exact hyx
    · rw [if_neg e1] at ha
      by_cases e2 : (k - 1) / 2 = j
      · rw [if_pos e2] at hb
        exact h2 k a b k0 kn hj e2 ha hb
      · rw [if_neg e2] at hb
        by_cases e3 : (k - 1) / 2 = (j - 1) / 2
        · rw [if_pos e3, hx] at hb
          obtain rfl := Option.some.inj hb
          have := h1 k a y k0 kn e1 ha (by rw [e3]; exact hy)
          exact tr _ _ _ hyx this
        · rw [if_neg e3] at hb
          exact h1 k a b k0 kn e1 ha hb
  · intro k a b k0 kn i0 ek ha hb
    rw [at_] at ha hb
    rw [if_neg (by omega), if_neg (by omega)] at hb
    have hyb : lt y b = false := h1 ((j - 1) / 2) y b i0 (by omega) (by omega) hy hb
    by_cases e1 : k = j
    · subst e1
      rw [if_pos rfl, hy] at ha
      obtain rfl := Option.some.inj ha
      exact hyb
    · rw [if_neg e1, if_neg (by omega)] at ha
      have := h1 k a y k0 kn e1 ha (by rw [ek]; exact hy)
      exact tr _ _ _ hyb this

theorem Hp.d0 {H : List α} {n : Nat} (h : ∀ i x y, 0 < i → i < n → (i - 1) / 2 ≠ 0 → H[i]? = some x → H[(i - 1) / 2]? = some y → lt x y = false) : HpD lt H n 0 := ⟨h, fun i x y h1 h2 h3 => absurd h3 (by omega)⟩
theorem HpD.none {H : List α} {n j : Nat} (h : HpD lt H n j) (hn : n ≤ 2 * j + 1) : Hp lt H n := fun i x y h1 h2 => h.1 i x y h1 h2 (by omega)
/-- The least of the children is not ahead of j. -/
theorem HpD.ok {H : List α} {n j c : Nat} {x z : α} (tr : ∀ a b c : α, lt b a = false → lt c b = false → lt c a = false) (h : HpD lt H n j) (hx : H[j]? = some x) (hz : H[c]? = some z) (hc : ∀ k a, 0 < k → k < n → (k - 1) / 2 = j → H[k]? = some a → lt a z = false) (hl : lt z x = false) : Hp lt H n := fun i a b h1 h2 ha hb => by
  by_cases e : (i - 1) / 2 = j
  · rw [e, hx] at hb
    obtain rfl := Option.some.inj hb
    exact tr _ _ _ hl (hc i a h1 h2 e ha)
  · exact h.1 i a b h1 h2 e ha hb
theorem HpD.down {H : List α} {n j c : Nat} {x z : α} (asy : ∀ a b : α, lt a b = true → lt b a = false) (hn : n ≤ H.length) (hc0 : 0 < c) (hcn : c < n) (hcj : (c - 1) / 2 = j) (h : HpD lt H n j) (hx : H[j]? = some x) (hz : H[c]? = some z) (hc : ∀ k a, 0 < k → k < n → (k - 1) / 2 = j → H[k]? = some a → lt a z = false) (hl : lt z x = true) : HpD lt (sw H j c) n c := by
  obtain ⟨h1, h2⟩ := h
  have hxz := asy _ _ hl
  have at_ := fun k => sw_at (H := H) (i := j) (j := c) (by omega) (by omega) k
  constructor
  · intro k a b k0 kn kc ha hb
    rw [at_] at ha hb
    rw [if_neg kc] at hb
    by_cases e1 : k = c
    · subst e1
      rw [if_pos rfl, hx] at ha
      rw [if_pos hcj, hz] at hb
      obtain rfl := Option.some.inj ha
      obtain rfl := Option.some.inj hb
      exact hxz
    · rw [if_neg e1] at ha
      by_cases e2 : (k - 1) / 2 = j
      · rw [if_pos e2, hz] at hb
        obtain rfl := Option.some.inj hb
        rw [if_neg (by omega)] at ha
        exact hc k a k0 kn e2 ha
      · rw [if_neg e2] at hb
        by_cases e3 : k = j
        · subst e3
          rw [if_pos rfl, hz] at ha
          obtain rfl := Option.some.inj ha
          exact h2 c z b hc0 hcn k0 hcj hz hb
        · rw [if_neg e3] at ha
          exact h1 k a b k0 kn e2 ha hb
  · intro k a b k0 kn c0 ek ha hb
    rw [at_] at ha hb
    rw [hcj, if_neg (by omega), if_pos rfl, hz] at hb
    obtain rfl := Option.some.inj hb
    rw [if_neg (by omega), if_neg (by omega)] at ha
    exact h1 k a z k0 kn (by omega) ha (by rw [ek]; exact hz)
/-- The top is not behind any. -/
theorem Hp.min {H : List α} {n : Nat} {x : α} (tr : ∀ a b c : α, lt b a = false → lt c b = false → lt c a = false) (irr : ∀ a, lt a a = false) (h : Hp lt H n) (hx : H[0]? = some x) : ∀ k y, k < n → H[k]? = some y → lt y x = false := by
  intro k
  induction k using Nat.strongRecOn with
  | _ k ih =>
    intro y hk hy
    by_cases e : k = 0
    · subst e
      rw [hx] at hy
      obtain rfl := Option.some.inj hy
      exact irr _
    · have hl := (List.getElem?_eq_some_iff.1 hy).1
      obtain ⟨z, hz⟩ : ∃ z, H[(k - 1) / 2]? = some z := ⟨_, List.getElem?_eq_getElem (by omega)⟩
      exact tr _ _ _ (ih ((k - 1) / 2) (by omega) z (by omega) hz) (h k y z (by omega) hk hy hz)
/-- One more behind. -/
theorem Hp.push {H : List α} (h : Hp lt H H.length) (x : α) : HpU lt (H ++ [x]) (H ++ [x]).length H.length := by
  constructor
  · intro i a b h1 h2 h3 ha hb
    simp only [List.length_append, List.length_singleton] at h2
    rw [List.getElem?_append_left (by omega)] at ha hb
    exact h i a b h1 (by omega) ha hb
  · intro i a b h1 h2 h3 h4
    simp only [List.length_append, List.length_singleton] at h2
    omega
end
theorem Hp.pop {α : Type} {lt : α → α → Bool} {H : List α} {n : Nat} (h : Hp lt H H.length) (hn : H.length = n + 1) : HpD lt (sw H 0 n) n 0 := by
  refine Hp.d0 (fun i x y h1 h2 h3 hx hy => ?_)
  rw [sw_at (by omega) (by omega), if_neg (by omega), if_neg (by omega)] at hx hy
  exact h i x y h1 (by omega) hx hy
theorem Hp.over {α : Type} {lt : α → α → Bool} {H : List α} (h : Hp lt H H.length) (e : α) : HpD lt (H.set 0 e) (H.set 0 e).length 0 := by
  refine Hp.d0 (fun i x y h1 h2 h3 hx hy => ?_)
  rw [List.length_set] at h2
  rw [List.getElem?_set_ne (by omega)] at hx hy
  exact h i x y h1 h2 hx hy
end Go.Proofs.YtedfjacmaidhkaaGreat.M

/- A number's lower bits, and what is left of them. -/
namespace Go.Proofs.YtedfjacmaidhkaaGreat
open Go.RowKit
set_option linter.unusedVariables false
set_option maxRecDepth 100000

theorem mask62S (p : Int) : ∃ a : Nat, bits .and .i64 p 4611686018427387903 = (a : Int) ∧ a ≤ 4611686018427387903 := by
  have hle : (BitVec.ofInt 64 p &&& BitVec.ofInt 64 4611686018427387903).toNat ≤ 4611686018427387903 := by
    rw [BitVec.toNat_and, show (BitVec.ofInt 64 4611686018427387903).toNat = 4611686018427387903 by decide]
    exact Nat.and_le_right
  refine ⟨(BitVec.ofInt 64 p &&& BitVec.ofInt 64 4611686018427387903).toNat, ?_, hle⟩
  show IntKind.i64.wrap ((BitVec.ofInt 64 p &&& BitVec.ofInt 64 4611686018427387903).toNat : Int) = _
  rw [IntKind.wrap_i64]
  omega
/-- One more than what is left of the lower bits. -/
theorem mask_oneS (p : Int) (n : Nat) (hn : 0 < n) (h : n ≤ 1000000) : ∃ a : Nat, wrap64 (1 + (bits .and .i64 p 4611686018427387903).tmod (n : Int)) = (a : Int) ∧ 1 ≤ a ∧ a ≤ n := by
  obtain ⟨a, e, _⟩ := mask62S p
  rw [e]
  have hm := Nat.mod_lt a hn
  refine ⟨1 + a % n, ?_, by omega, by omega⟩
  show wrap64 (1 + ((a % n : Nat) : Int)) = _
  unfold wrap64
  omega
end Go.Proofs.YtedfjacmaidhkaaGreat

/- Plain mathematics of ordered texts: groups of eight with a byte behind each. No program is named here. -/
namespace Go.Proofs.YtedfjacmaidhkaaGreat.M
set_option maxRecDepth 100000

/-- The last group. -/
def pad (l : List UInt8) : List UInt8 := l ++ List.replicate (8 - l.length) 0 ++ [UInt8.ofNat (247 + l.length)]
def obF : Nat → List UInt8 → List UInt8
  | 0, l => pad l
  | k + 1, l => if l.length < 8 then pad l else l.take 8 ++ [255] ++ obF k (l.drop 8)
/-- A text in a form whose order is that of the texts. -/
def ob (l : List UInt8) : List UInt8 := obF (l.length / 8) l
def key (l : List UInt8) (n : Nat) : List UInt8 := ob l ++ be 8 (18446744073709551615 - n)

theorem pad_length (l : List UInt8) (h : l.length < 8) : (pad l).length = 9 := by simp [pad]; omega
theorem obF_length (k : Nat) (l : List UInt8) (h : l.length < 8 * (k + 1)) : (obF k l).length = 9 * (l.length / 8 + 1) := by
  induction k generalizing l with
  | zero => rw [obF, pad_length l (by omega)]; omega
  | succ k ih =>
    rw [obF]
    split
    · rename_i h1; rw [pad_length l h1]; omega
    · rename_i h1
      have := ih (l.drop 8) (by simp; omega)
      simp only [List.length_append, List.length_take, List.length_singleton, this, List.length_drop]
      omega
theorem ob_length (l : List UInt8) : (ob l).length = 9 * (l.length / 8 + 1) := obF_length _ l (by omega)
theorem obF_short (k : Nat) (l : List UInt8) (h : l.length < 8) : obF k l = pad l := by
  cases k with
  | zero => rfl
  | succ k => rw [obF, if_pos h]
theorem obF_long (k : Nat) (l : List UInt8) (h : 8 ≤ l.length) (hk : l.length < 8 * (k + 1)) : ∃ k', k = k' + 1 ∧ obF k l = l.take 8 ++ [255] ++ obF k' (l.drop 8) ∧ (l.drop 8).length < 8 * (k' + 1) := by
  cases k with
  | zero => omega
  | succ k => exact ⟨k, rfl, by rw [obF, if_neg (by omega)], by simp; omega⟩
theorem key_length (l : List UInt8) (n : Nat) : (key l n).length = 9 * (l.length / 8 + 1) + 8 := by simp [key, ob_length, be_length]

/-- One group read: what of it was not filled up, and the error. -/
def tg (l : List UInt8) : List UInt8 × Nat :=
  if l.length < 9 then ([], 10) else if (l.getD 8 0).toNat < 247 then ([], 12)
  else if ((l.take 8).drop ((l.getD 8 0).toNat - 247)).all (fun x => x == 0) then (l.take ((l.getD 8 0).toNat - 247), 0) else ([], 12)
/-- Group by group, behind what was read so far. -/
def tbA : Nat → List UInt8 → List UInt8 → List UInt8 × List UInt8 × Nat
  | 0, _, _ => ([], [], 10)
  | k + 1, acc, l => if (tg l).2 ≠ 0 then ([], [], (tg l).2) else if (tg l).1.length < 8 then (acc ++ (tg l).1, l.drop 9, 0) else tbA k (acc ++ (tg l).1) (l.drop 9)
def tb (l : List UInt8) : List UInt8 × List UInt8 × Nat := tbA (l.length + 1) [] l

theorem tg_ok (l : List UInt8) (h : (tg l).2 = 0) : 9 ≤ l.length ∧ 247 ≤ (l.getD 8 0).toNat ∧ (tg l).1 = l.take ((l.getD 8 0).toNat - 247) ∧ ((l.take 8).drop ((l.getD 8 0).toNat - 247)).all (fun x => x == 0) = true := by
  unfold tg at h ⊢
  by_cases h1 : l.length < 9
  · rw [if_pos h1] at h; cases h
  · rw [if_neg h1] at h ⊢
    by_cases h2 : (l.getD 8 0).toNat < 247
    · rw [if_pos h2] at h; cases h
    · rw [if_neg h2] at h ⊢
      by_cases h3 : ((l.take 8).drop ((l.getD 8 0).toNat - 247)).all (fun x => x == 0) = true
      · rw [if_pos h3]; exact ⟨Nat.not_lt.1 h1, Nat.not_lt.1 h2, rfl, h3⟩
      · rw [if_neg h3] at h; cases h
theorem tg_len (l : List UInt8) (h : (tg l).2 = 0) : (tg l).1.length = (l.getD 8 0).toNat - 247 ∧ (tg l).1.length ≤ 8 := by
  obtain ⟨h1, h2, h3, _⟩ := tg_ok l h
  have := (l.getD 8 0).toNat_lt
  rw [h3, List.length_take]
  omega
theorem tbA_len (k : Nat) (acc l : List UInt8) : (tbA k acc l).1.length ≤ acc.length + l.length ∧ (tbA k acc l).2.1.length ≤ l.length := by
  induction k generalizing acc l with
  | zero => simp [tbA]
  | succ k ih =>
    rw [tbA]
    by_cases h1 : (tg l).2 ≠ 0
    · rw [if_pos h1]; simp
    · rw [if_neg h1]
      have hz : (tg l).2 = 0 := by simpa using h1
      have hl := tg_len l hz
      have h9 := (tg_ok l hz).1
      by_cases h2 : (tg l).1.length < 8
      · rw [if_pos h2]; simp; omega
      · rw [if_neg h2]
        have := ih (acc ++ (tg l).1) (l.drop 9)
        simp only [List.length_append, List.length_drop] at this
        omega
/-- What a key is read as: the key, the time, the error. -/
def tk (l : List UInt8) : List UInt8 × Nat × Nat :=
  let r := tb l
  if r.2.2 ≠ 0 then ([], 0, r.2.2) else if r.2.1.length < 8 then ([], 0, 10) else if r.2.1.length ≠ 8 then ([], 0, 12) else (r.1, 18446744073709551615 - num (r.2.1.take 8), 0)
end Go.Proofs.YtedfjacmaidhkaaGreat.M

/- How an argument that came in is read: a slice of bytes as 'Rd', with the form's own bound on its length. -/
namespace Go.Proofs.YtedfjacmaidhkaaGreat
open Go.ChangeShapes Go.WideShapes Go.ChangeAt Go.RowKit
set_option linter.unusedVariables false
set_option maxRecDepth 100000

theorem Tryz.bytes5 : Tryz.prog.bytesOf 5 = 1 := by kernel_rfl

/-- A slice of bytes that came in. -/
theorem open_bytes {H : Type} {enc : TypeId × Value → H} {W : World} {a0 : Option Addr} {len cap : Nat} {d : DataW H} {p : List MemPlace} (h : DataW.Trod enc Tryz.prog W 0 (fun _ => true) true 35 (.slice a0 len cap) d p) :
    ∃ l : List UInt8, Rd W (.slice a0 len cap) l ∧ l.length = len ∧ ∃ zs : List Int, (a0 = none ∧ len = 0) ∨ d = .slice (lits .u8 (zs.take len)) (lits .u8 (zs.drop len)) ∧ zs.length = cap ∧ len ≤ cap := by
  obtain ⟨fuel, hf⟩ := h
  rcases open_ints Tryz.underlying35 Tryz.underlying5 (by kernel_rfl) hf with ⟨hcs, _⟩ | ⟨x, n, c, zs, hcs, _, hl, hm, hz, hd, hcell, hwz⟩
  · simp [Value.cells] at hcs
    obtain ⟨rfl, rfl, rfl⟩ := hcs
    exact ⟨[], Rd.nil _, rfl, [], .inl ⟨rfl, rfl⟩⟩
  · simp [Value.cells] at hcs
    obtain ⟨rfl, rfl, rfl⟩ := hcs
    have hz' : zs.length = cap := by simpa using hz
    have hlen : ((zs.take len).map (fun z => UInt8.ofNat z.toNat)).length = len := by simp; omega
    refine ⟨(zs.take len).map (fun z => UInt8.ofNat z.toNat), Rd.mk hlen.symm (by omega) hm (fun i hi => ?_), hlen, zs, .inr ⟨?_, hz', hl⟩⟩
    · have hi' : i < zs.length := by omega
      rw [hcell i hi']
      have hw := hwz (zs[i]) (List.getElem_mem hi')
      have hx : 0 ≤ zs[i] ∧ zs[i] ≤ 255 := by simpa [Lit.wf, IntKind.min, IntKind.max, IntKind.signed, IntKind.bits] using hw
      have e : zs.getD i 0 = zs[i] := by simp [hi']
      rw [e]
      simp only [List.getElem_map, List.getElem_take]
      rw [M.u8_ofNat]
      congr 2
      omega
    · simp only [Prod.mk.injEq] at hd
      exact hd.1

end Go.Proofs.YtedfjacmaidhkaaGreat

/- Plain mathematics: the order of texts, of ordered texts and of numbers in bytes. No program is named here. -/
namespace Go.Proofs.YtedfjacmaidhkaaGreat.M
set_option maxRecDepth 100000

/-- -1, 0, 1: byte by byte, the shorter one first. -/
def cmpL : List UInt8 → List UInt8 → Int
  | [], [] => 0
  | [], _ :: _ => -1
  | _ :: _, [] => 1
  | x :: r, y :: s => if x = y then cmpL r s else if x < y then -1 else 1

theorem cmpL_self (l : List UInt8) : cmpL l l = 0 := by
  induction l with
  | nil => rfl
  | cons x l ih => simp [cmpL, ih]
theorem cmpL_zero {a b : List UInt8} (h : cmpL a b = 0) : a = b := by
  induction a generalizing b with
  | nil => cases b with
    | nil => rfl
    | cons y s => simp [cmpL] at h
  | cons x r ih => cases b with
    | nil => simp [cmpL] at h
    | cons y s =>
      simp only [cmpL] at h
      by_cases hxy : x = y
      · rw [if_pos hxy] at h; rw [hxy, ih h]
      · rw [if_neg hxy] at h; split at h <;> omega
theorem cmpL_iff (a b : List UInt8) : cmpL a b = 0 ↔ a = b := ⟨cmpL_zero, fun h => h ▸ cmpL_self a⟩

/-- Of the same length ahead. -/
theorem cmpL_app (p q x y : List UInt8) (h : p.length = q.length) : cmpL (p ++ x) (q ++ y) = if p = q then cmpL x y else cmpL p q := by
  induction p generalizing q with
  | nil =>
    obtain rfl : q = [] := List.length_eq_zero_iff.1 (by simpa using h.symm)
    simp
  | cons a p ih =>
    cases q with
    | nil => simp at h
    | cons b q =>
      simp only [List.cons_append, cmpL]
      by_cases hab : a = b
      · rw [if_pos hab, if_pos hab, ih q (by simpa using h)]
        simp [hab]
      · have hn : ¬ (a :: p = b :: q) := by simp [hab]
        rw [if_neg hab, if_neg hn, if_neg hab]

theorem cmpL_take (n : Nat) (a b : List UInt8) : cmpL a b = if a.take n = b.take n then cmpL (a.drop n) (b.drop n) else cmpL (a.take n) (b.take n) := by
  induction n generalizing a b with
  | zero => simp
  | succ n ih =>
    cases a with
    | nil => cases b with
      | nil => simp
      | cons y s => simp [cmpL]
    | cons x r => cases b with
      | nil => simp [cmpL]
      | cons y s =>
        simp only [List.take_succ_cons, List.drop_succ_cons, cmpL]
        by_cases hxy : x = y
        · rw [if_pos hxy, ih r s]; simp [hxy]
        · have hn : ¬ (x :: r.take n = y :: s.take n) := by simp [hxy]
          rw [if_neg hxy, if_neg hn, if_neg hxy]

/-- Filled up with zeros to n. -/
def zn (n : Nat) (l : List UInt8) : List UInt8 := l ++ List.replicate (n - l.length) 0

theorem u8_pos (y : UInt8) (h : y ≠ 0) : (0 : UInt8) < y := by
  rw [UInt8.lt_iff_toNat_lt]
  have : y.toNat ≠ 0 := fun e => h (UInt8.toNat_inj.1 (by simpa using e))
  simpa using Nat.pos_of_ne_zero this

theorem zn_nil_lt (n : Nat) (m : List UInt8) (c d : UInt8) (hm : m.length ≤ n) (hcd : c < d) : cmpL (zn n [] ++ [c]) (zn n m ++ [d]) = -1 := by
  induction n generalizing m with
  | zero =>
    obtain rfl : m = [] := List.length_eq_zero_iff.1 (by omega)
    have : c ≠ d := fun e => by rw [e] at hcd; exact absurd hcd (UInt8.lt_irrefl _)
    simp [zn, cmpL, this, hcd]
  | succ n ih =>
    cases m with
    | nil =>
      have := ih [] (by simp)
      simpa [zn, List.replicate_succ, cmpL] using this
    | cons y s =>
      have e1 : zn (n + 1) [] = 0 :: zn n [] := by simp [zn, List.replicate_succ]
      have e2 : zn (n + 1) (y :: s) = y :: zn n s := by simp [zn]
      rw [e1, e2]
      simp only [List.cons_append, cmpL]
      by_cases hy : (0 : UInt8) = y
      · rw [if_pos hy]; exact ih s (by simpa using hm)
      · rw [if_neg hy, if_pos (u8_pos y (fun e => hy e.symm))]
theorem zn_nil_gt (n : Nat) (m : List UInt8) (c d : UInt8) (hm : m.length ≤ n) (hcd : c < d) : cmpL (zn n m ++ [d]) (zn n [] ++ [c]) = 1 := by
  induction n generalizing m with
  | zero =>
    obtain rfl : m = [] := List.length_eq_zero_iff.1 (by omega)
    have h1 : d ≠ c := fun e => by rw [e] at hcd; exact absurd hcd (UInt8.lt_irrefl _)
    have h2 : ¬ d < c := UInt8.lt_asymm hcd
    simp [zn, cmpL, h1, h2]
  | succ n ih =>
    cases m with
    | nil =>
      have := ih [] (by simp)
      simpa [zn, List.replicate_succ, cmpL] using this
    | cons y s =>
      have e1 : zn (n + 1) [] = 0 :: zn n [] := by simp [zn, List.replicate_succ]
      have e2 : zn (n + 1) (y :: s) = y :: zn n s := by simp [zn]
      rw [e1, e2]
      simp only [List.cons_append, cmpL]
      by_cases hy : y = 0
      · rw [if_pos hy]; exact ih s (by simpa using hm)
      · rw [if_neg hy, if_neg (UInt8.lt_asymm (u8_pos y hy))]

theorem u8_lt (a b : Nat) (h : a < b) (hb : b < 256) : UInt8.ofNat a < UInt8.ofNat b := by
  rw [UInt8.lt_iff_toNat_lt, UInt8.toNat_ofNat', UInt8.toNat_ofNat']; omega

/-- A group is in the order of what it holds. -/
theorem grp_cmp (n c : Nat) (l m : List UInt8) (hl : l.length ≤ n) (hm : m.length ≤ n) (hc : c + n < 256) :
    cmpL (zn n l ++ [UInt8.ofNat (c + l.length)]) (zn n m ++ [UInt8.ofNat (c + m.length)]) = cmpL l m := by
  induction l generalizing m n c with
  | nil =>
    cases m with
    | nil => rw [cmpL_self, cmpL_self]
    | cons y s => rw [zn_nil_lt n (y :: s) _ _ hm (u8_lt _ _ (by simp) (by omega))]; rfl
  | cons x r ih =>
    cases m with
    | nil => rw [zn_nil_gt n (x :: r) _ _ hl (u8_lt _ _ (by simp) (by omega))]; rfl
    | cons y s =>
      obtain ⟨n, rfl⟩ : ∃ k, n = k + 1 := ⟨n - 1, by simp at hl; omega⟩
      have e1 : zn (n + 1) (x :: r) = x :: zn n r := by simp [zn]
      have e2 : zn (n + 1) (y :: s) = y :: zn n s := by simp [zn]
      rw [e1, e2]
      simp only [List.cons_append, cmpL, List.length_cons]
      by_cases hxy : x = y
      · rw [if_pos hxy, if_pos hxy]
        have := ih n (c + 1) s (by simpa using hl) (by simpa using hm) (by omega)
        rw [show c + (r.length + 1) = c + 1 + r.length by omega, show c + (s.length + 1) = c + 1 + s.length by omega]
        exact this
      · rw [if_neg hxy, if_neg hxy]

/-- An ordered text, group by group. -/
theorem ob_grp (l : List UInt8) : ob l = (zn 8 (l.take 8) ++ [UInt8.ofNat (247 + (l.take 8).length)]) ++ (if 8 ≤ l.length then ob (l.drop 8) else []) := by
  by_cases h : 8 ≤ l.length
  · rw [if_pos h]
    obtain ⟨k', e, e1, e2⟩ := obF_long (l.length / 8) l h (by omega)
    rw [ob, e1]
    have hk : k' = (l.drop 8).length / 8 := by simp; omega
    have h8 : (l.take 8).length = 8 := by simp; omega
    rw [hk, show obF ((l.drop 8).length / 8) (l.drop 8) = ob (l.drop 8) from rfl]
    simp only [zn, h8, Nat.sub_self, List.replicate_zero, List.append_nil]
    rfl
  · rw [if_neg h, ob, obF_short _ l (by omega), List.take_of_length_le (by omega), List.append_nil]
    rfl

theorem grp_len (l : List UInt8) : (zn 8 (l.take 8) ++ [UInt8.ofNat (247 + (l.take 8).length)]).length = 9 := by simp [zn]; omega
theorem take8_le (l : List UInt8) : (l.take 8).length ≤ 8 := by simp; omega

theorem ob_cmp (a b : List UInt8) : cmpL (ob a) (ob b) = cmpL a b := by
  obtain ⟨n, hn⟩ : ∃ n, a.length ≤ n := ⟨_, Nat.le_refl _⟩
  induction n using Nat.strongRecOn generalizing a b with
  | ind n ih =>
    rw [ob_grp a, ob_grp b, cmpL_app _ _ _ _ (by rw [grp_len, grp_len]), grp_cmp 8 247 _ _ (take8_le a) (take8_le b) (by decide), cmpL_take 8 a b]
    by_cases h : a.take 8 = b.take 8
    · rw [if_pos (by rw [h]), if_pos h]
      have hlen := congrArg List.length h
      simp only [List.length_take] at hlen
      by_cases ha : 8 ≤ a.length
      · have hb : 8 ≤ b.length := by omega
        rw [if_pos ha, if_pos hb]
        exact ih (n - 8) (by omega) (a.drop 8) (b.drop 8) (by simp; omega)
      · have hb : ¬ 8 ≤ b.length := by omega
        rw [if_neg ha, if_neg hb, List.drop_eq_nil_of_le (by omega), List.drop_eq_nil_of_le (by omega)]
    · have hg : ¬ (zn 8 (a.take 8) ++ [UInt8.ofNat (247 + (a.take 8).length)]) = zn 8 (b.take 8) ++ [UInt8.ofNat (247 + (b.take 8).length)] := by
        intro e
        have := grp_cmp 8 247 _ _ (take8_le a) (take8_le b) (by decide)
        rw [e, cmpL_self] at this
        exact h (cmpL_zero this.symm)
      rw [if_neg hg, if_neg h]

/-- None is the beginning of another. -/
theorem ob_free (a b x : List UInt8) (h : ob b = ob a ++ x) : a = b := by
  obtain ⟨n, hn⟩ : ∃ n, a.length ≤ n := ⟨_, Nat.le_refl _⟩
  induction n using Nat.strongRecOn generalizing a b with
  | ind n ih =>
    rw [ob_grp a, ob_grp b] at h
    have hi := List.append_inj (h.trans (List.append_assoc _ _ _)) (by rw [grp_len, grp_len])
    have h8 : a.take 8 = b.take 8 := by
      have := grp_cmp 8 247 _ _ (take8_le a) (take8_le b) (by decide)
      rw [hi.1, cmpL_self] at this
      exact cmpL_zero this.symm
    have hlen := congrArg List.length h8
    simp only [List.length_take] at hlen
    by_cases ha : 8 ≤ a.length
    · have hb : 8 ≤ b.length := by omega
      have h2 := hi.2
      rw [if_pos ha, if_pos hb] at h2
      have := ih (n - 8) (by omega) (a.drop 8) (b.drop 8) h2 (by simp; omega)
      rw [← List.take_append_drop 8 a, ← List.take_append_drop 8 b, h8, this]
    · have hb : ¬ 8 ≤ b.length := by omega
      rwa [List.take_of_length_le (by omega), List.take_of_length_le (by omega)] at h8

/-- Where none is the beginning of the other, what stands behind turns nothing. -/
theorem cmpL_free (p q x y : List UInt8) (h1 : ∀ z, q ≠ p ++ z) (h2 : ∀ z, p ≠ q ++ z) : cmpL (p ++ x) (q ++ y) = cmpL p q := by
  induction p generalizing q with
  | nil => exact absurd rfl (h1 q)
  | cons a p ih =>
    cases q with
    | nil => exact absurd rfl (h2 (a :: p))
    | cons b q =>
      simp only [List.cons_append, cmpL]
      by_cases hab : a = b
      · rw [if_pos hab, if_pos hab]
        exact ih q (fun z e => h1 z (by rw [hab, e]; rfl)) (fun z e => h2 z (by rw [hab, e]; rfl))
      · rw [if_neg hab, if_neg hab]

def cmpN (s t : Nat) : Int := if s < t then -1 else if t < s then 1 else 0

theorem be_mod (k n : Nat) : be k n = be k (n % 2 ^ (8 * k)) := by
  suffices H : ∀ j, j ≤ k → be j n = be j (n % 2 ^ (8 * k)) from H k (Nat.le_refl _)
  intro j
  induction j with
  | zero => intro _; rfl
  | succ j ih =>
    intro hj
    rw [be, be, ih (by omega)]
    congr 1
    apply UInt8.toNat_inj.1
    rw [UInt8.toNat_ofNat', UInt8.toNat_ofNat']
    have e : 2 ^ (8 * k) = 2 ^ (8 * j) * (256 * 2 ^ (8 * (k - j - 1))) := by
      rw [show (256 : Nat) = 2 ^ 8 from rfl, ← Nat.pow_add, ← Nat.pow_add]
      congr 1; omega
    rw [e, Nat.mod_mul_right_div_self]
    rw [Nat.mod_mul_right_mod]

theorem be_cmp (k s t : Nat) (hs : s < 2 ^ (8 * k)) (ht : t < 2 ^ (8 * k)) : cmpL (be k s) (be k t) = cmpN s t := by
  induction k generalizing s t with
  | zero =>
    have h1 : s = 0 := by simpa using hs
    have h2 : t = 0 := by simpa using ht
    subst h1; subst h2; rfl
  | succ k ih =>
    have hP : 0 < 2 ^ (8 * k) := Nat.pow_pos (by decide)
    have e : 2 ^ (8 * (k + 1)) = 2 ^ (8 * k) * 256 := by rw [show 8 * (k + 1) = 8 * k + 8 by omega, Nat.pow_add]
    rw [e] at hs ht
    have hs1 : s / 2 ^ (8 * k) < 256 := Nat.div_lt_of_lt_mul hs
    have ht1 : t / 2 ^ (8 * k) < 256 := Nat.div_lt_of_lt_mul ht
    rw [be, be, cmpL, be_mod k s, be_mod k t, ih _ _ (Nat.mod_lt _ hP) (Nat.mod_lt _ hP)]
    have ds := Nat.div_add_mod s (2 ^ (8 * k))
    have dt := Nat.div_add_mod t (2 ^ (8 * k))
    have ms := Nat.mod_lt s hP
    have mt := Nat.mod_lt t hP
    generalize s / 2 ^ (8 * k) = a at *
    generalize t / 2 ^ (8 * k) = b at *
    generalize s % 2 ^ (8 * k) = c at *
    generalize t % 2 ^ (8 * k) = d at *
    generalize 2 ^ (8 * k) = P at *
    by_cases hab : a = b
    · subst hab
      rw [if_pos rfl]
      unfold cmpN
      by_cases h1 : c < d
      · have h3 : s < t := by omega
        rw [if_pos h1, if_pos h3]
      · have h3 : ¬ s < t := by omega
        rw [if_neg h1, if_neg h3]
        by_cases h2 : d < c
        · have h4 : t < s := by omega
          rw [if_pos h2, if_pos h4]
        · have h4 : ¬ t < s := by omega
          rw [if_neg h2, if_neg h4]
    · have hne : ¬ UInt8.ofNat a = UInt8.ofNat b := fun e => by
        have := congrArg UInt8.toNat e
        rw [UInt8.toNat_ofNat', UInt8.toNat_ofNat'] at this
        omega
      rw [if_neg hne]
      unfold cmpN
      by_cases hlt : a < b
      · have hm : P * a + P ≤ P * b := by rw [← Nat.mul_succ]; exact Nat.mul_le_mul_left _ hlt
        rw [if_pos (u8_lt a b hlt ht1), if_pos (by omega)]
      · have hlt' : b < a := by omega
        have hm : P * b + P ≤ P * a := by rw [← Nat.mul_succ]; exact Nat.mul_le_mul_left _ hlt'
        rw [if_neg (UInt8.lt_asymm (u8_lt b a hlt' hs1)), if_neg (by omega), if_pos (by omega)]
end Go.Proofs.YtedfjacmaidhkaaGreat.M

/- What bytes.Compare answers of two slices of bytes: -1, 0, 1, byte by byte, the shorter one first. -/
namespace Go.Proofs.YtedfjacmaidhkaaGreat
open Go.RowKit
set_option linter.unusedVariables false
set_option maxRecDepth 100000

theorem cmpL_lib : ∀ (a b : List UInt8), Lib.compareBytes a b = M.cmpL a b
  | [], [] => rfl
  | [], _ :: _ => rfl
  | _ :: _, [] => rfl
  | x :: r, y :: s => by
    rw [Lib.compareBytes, M.cmpL, cmpL_lib r s]
    by_cases h : x = y
    · subst h
      rw [if_neg (UInt8.lt_irrefl _), if_neg (UInt8.lt_irrefl _), if_pos rfl]
    · rw [if_neg h]
      by_cases h1 : x < y
      · rw [if_pos h1, if_pos h1]
      · have h2 : y < x := by
          rw [UInt8.lt_iff_toNat_lt] at h1 ⊢
          have : x.toNat ≠ y.toNat := fun e => h (UInt8.toNat_inj.1 e)
          omega
        rw [if_neg h1, if_neg h1, if_pos h2]

theorem run_loadL {P : Program} (w : World) : ∀ (l : List UInt8) (a : Addr) (acc : ByteArray), (∀ j x, l[j]? = some x → w.cell? (a.add j) = some (.int .u8 (x.toNat : Int))) →
    (Extern.Bytes.loadBytes a l.length acc).run P w = .ok ⟨acc.data ++ l.toArray⟩ w
  | [], a, acc, _ => by simp [Extern.Bytes.loadBytes]
  | x :: l, a, acc, h => by
    have h0 : w.cell? a = some (.int .u8 (x.toNat : Int)) := by
      have := h 0 x rfl
      simpa [Addr.add] using this
    have ih := run_loadL (P := P) w l (a.add 1) (acc.push x) (fun j y hy => by
      have := h (j + 1) y (by simpa using hy)
      have e : (a.add 1).add j = a.add (j + 1) := by
        unfold Addr.add
        by_cases hj : j = 0
        · subst hj; simp
        · simp [hj]; omega
      rw [e]; exact this)
    have hx : (((x.toNat : Nat) : Int).toNat.toUInt8) = x := by simp
    simp only [List.length_cons, Extern.Bytes.loadBytes, Sem.run_bind, run_load, h0, Result.andThen, hx]
    rw [ih]
    congr 1
    apply ByteArray.ext
    simp [ByteArray.push]

theorem run_bytesOfL {P : Program} {w : World} {v : Value} {l : List UInt8} (h : Rd w v l) : (Extern.Bytes.bytesOf v).run P w = .ok ⟨l.toArray⟩ w := by
  rcases h.two with ⟨rfl, rfl⟩ | ⟨a, c, rfl, h1, h2, h3⟩
  · simp only [Extern.Bytes.bytesOf, Sem.run_pure]; rfl
  · simp only [Extern.Bytes.bytesOf]
    rw [run_loadL w l a .empty (fun j x hj => by
      obtain ⟨hl, rfl⟩ := List.getElem?_eq_some_iff.1 hj
      exact h3 j hl)]
    congr 1
    apply ByteArray.ext
    show (#[] : Array UInt8) ++ l.toArray = l.toArray
    simp

theorem run_compareL {P : Program} {w : World} {v u : Value} {l m : List UInt8} (h : Rd w v l) (k : Rd w u m) : (Extern.BytealgCompare.compare #[v, u]).run P w = .ok (.int .i64 (M.cmpL l m)) w := by
  change Sem.run P (do pure (goInt (Extern.BytealgCompare.cmp (← Extern.Bytes.bytesOf v) (← Extern.Bytes.bytesOf u)))) w = _
  simp only [Sem.run_bind, Sem.run_pure, run_bytesOfL h, run_bytesOfL k, Result.andThen]
  rw [Lib.cmp_eq]
  show Result.ok (goInt (Lib.compareBytes l m)) w = _
  rw [cmpL_lib]
  rfl

theorem bcompare_any {va vb : Value} {la lb : List UInt8} {w : World} (ha : Rd w va la) (hb : Rd w vb lb) :
    Calls Tryz.prog 46 #[va, vb] w fun e w' => e = .returned (.int .i64 (M.cmpL la lb)) ∧ w' = w := by
  have hr := run_compareL (P := Tryz.prog) ha hb
  obtain ⟨ao, ca, rfl, _⟩ := ha
  obtain ⟨bo, cb, rfl, _⟩ := hb
  go_enter Tryz.func46, Tryz.ntmps46
  go_wp2
  rw [run_callFunc_extern Tryz.func72 (by kernel_rfl) (by kernel_rfl) (by kernel_rfl) (e := Extern.BytealgCompare.compare) (by kernel_rfl), hr]
  simp only [Result.andThen]
  rw [Oper.upon_value]
  go_wp2
  go_ret
  exact ⟨rfl, rfl⟩
end Go.Proofs.YtedfjacmaidhkaaGreat

/- What bytes.Equal answers of two slices of bytes. -/
