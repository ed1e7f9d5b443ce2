/- Plain mathematics of the sum: it is linear, and texts of one length that are unlike in one to four neighbouring bytes have unlike sums; and a number of seven bits a byte is read as it was written. No program is named here. -/
import Derived.Test.YtlajncjamafomaaG1
namespace Go.Proofs.Ytlajncjamafomaa.M
set_option maxRecDepth 100000

theorem xor_div2 (a b : Nat) : (a ^^^ b) / 2 = (a / 2) ^^^ (b / 2) := by
  have := Nat.shiftRight_xor_distrib (a := a) (b := b) (i := 1)
  simp only [Nat.shiftRight_eq_div_pow, Nat.pow_one] at this
  exact this
theorem bit_mul (a b P : Nat) : (a ^^^ b) % 2 * P = (a % 2 * P) ^^^ (b % 2 * P) := by
  have e : (a ^^^ b) % 2 = (a % 2) ^^^ (b % 2) := by
    have := Nat.xor_mod_two_pow (a := a) (b := b) (n := 1)
    simpa using this
  rw [e]
  rcases Nat.mod_two_eq_zero_or_one a with h1 | h1 <;> rcases Nat.mod_two_eq_zero_or_one b with h2 | h2 <;> rw [h1, h2] <;> simp
theorem xor_swap (a b c d : Nat) : (a ^^^ b) ^^^ (c ^^^ d) = (a ^^^ c) ^^^ (b ^^^ d) := by
  rw [Nat.xor_assoc, Nat.xor_assoc, ← Nat.xor_assoc b c d, Nat.xor_comm b c, Nat.xor_assoc c b d]
theorem st_xor (a b : Nat) : st (a ^^^ b) = st a ^^^ st b := by
  unfold st
  rw [xor_div2, bit_mul, xor_swap]
theorem st8_xor (a b : Nat) : st8 (a ^^^ b) = st8 a ^^^ st8 b := by
  unfold st8
  simp only [st_xor]
theorem st_double (a : Nat) : st (2 * a) = a := by
  unfold st
  rw [show 2 * a / 2 = a by omega, show 2 * a % 2 = 0 by omega]
  simp
theorem st8_shift (a : Nat) : st8 (256 * a) = a := by
  unfold st8
  rw [show 256 * a = 2 * (2 * (2 * (2 * (2 * (2 * (2 * (2 * a))))))) by omega]
  simp only [st_double]
theorem st_zero_iff (c : Nat) (h : c < 4294967296) : st c = 0 ↔ c = 0 := by
  constructor
  · intro e
    unfold st at e
    rcases Nat.mod_two_eq_zero_or_one c with h2 | h2
    · rw [h2] at e
      simp at e
      omega
    · rw [h2, Nat.one_mul] at e
      have : c / 2 = 3988292384 := by
        have := congrArg (fun x => x ^^^ 3988292384) e
        simpa [Nat.xor_assoc] using this
      omega
  · rintro rfl; decide
theorem st8_zero_iff (c : Nat) (h : c < 4294967296) : st8 c = 0 ↔ c = 0 := by
  unfold st8
  have h1 := st_lt c h
  have h2 := st_lt _ h1
  have h3 := st_lt _ h2
  have h4 := st_lt _ h3
  have h5 := st_lt _ h4
  have h6 := st_lt _ h5
  have h7 := st_lt _ h6
  rw [st_zero_iff _ h7, st_zero_iff _ h6, st_zero_iff _ h5, st_zero_iff _ h4, st_zero_iff _ h3, st_zero_iff _ h2, st_zero_iff _ h1, st_zero_iff _ h]

/-- Byte by byte, by exclusive or. -/
def zx (x y : List UInt8) : List UInt8 := List.zipWith (fun a b => a ^^^ b) x y

theorem crcF_zx (x y : List UInt8) (h : x.length = y.length) (a b : Nat) : crcF (a ^^^ b) (zx x y) = crcF a x ^^^ crcF b y := by
  induction x generalizing y a b with
  | nil =>
    obtain rfl : y = [] := List.length_eq_zero_iff.1 (by simpa using h.symm)
    rfl
  | cons p x ih =>
    cases y with
    | nil => simp at h
    | cons q y =>
      have e : st8 ((a ^^^ b) ^^^ (p ^^^ q).toNat) = st8 (a ^^^ p.toNat) ^^^ st8 (b ^^^ q.toNat) := by
        rw [UInt8.toNat_xor, xor_swap, st8_xor]
      show crcF (st8 ((a ^^^ b) ^^^ (p ^^^ q).toNat)) (zx x y) = crcF (st8 (a ^^^ p.toNat)) x ^^^ crcF (st8 (b ^^^ q.toNat)) y
      rw [e, ih y (by simpa using h)]
theorem crcF_app (s : Nat) (x y : List UInt8) : crcF s (x ++ y) = crcF (crcF s x) y := by simp [crcF]
theorem crcF_zeros (k : Nat) : crcF 0 (List.replicate k 0) = 0 := by
  induction k with
  | zero => rfl
  | succ k ih => rw [List.replicate_succ]; exact ih
theorem crcF_zeros_iff (k : Nat) (d : Nat) (h : d < 4294967296) : crcF d (List.replicate k 0) = 0 ↔ d = 0 := by
  induction k generalizing d with
  | zero => exact Iff.rfl
  | succ k ih =>
    rw [List.replicate_succ]
    show crcF (st8 (d ^^^ (0 : UInt8).toNat)) (List.replicate k 0) = 0 ↔ d = 0
    have e : d ^^^ (0 : UInt8).toNat = d := by simp
    rw [e, ih _ (st8_lt d h), st8_zero_iff d h]

/-- The bytes as one number, the lowest first. -/
def vx : List UInt8 → Nat
  | [] => 0
  | x :: r => x.toNat ^^^ (256 * vx r)
def stB : Nat → Nat → Nat
  | 0, c => c
  | k + 1, c => stB k (st8 c)
theorem crcF_vx (m : List UInt8) (d : Nat) : crcF d m = stB m.length (d ^^^ vx m) := by
  induction m generalizing d with
  | nil => simp [crcF, stB, vx]
  | cons x r ih =>
    show crcF (st8 (d ^^^ x.toNat)) r = stB (r.length + 1) (d ^^^ (x.toNat ^^^ (256 * vx r)))
    rw [ih, stB, ← Nat.xor_assoc, st8_xor (d ^^^ x.toNat), st8_shift]
theorem vx_add (x : UInt8) (a : Nat) : x.toNat ^^^ (256 * a) = x.toNat + 256 * a := by
  have h := Nat.two_pow_add_eq_or_of_lt (i := 8) (b := x.toNat) (by have := x.toNat_lt; simpa using this) a
  have hx := x.toNat_lt
  have hand : (256 * a) &&& x.toNat = 0 := by
    apply Nat.eq_of_testBit_eq
    intro i
    rw [Nat.testBit_and, show 256 * a = 2 ^ 8 * a from rfl, Nat.testBit_two_pow_mul]
    by_cases hi : 8 ≤ i
    · rw [Nat.testBit_lt_two_pow (show x.toNat < 2 ^ i from Nat.lt_of_lt_of_le hx (Nat.pow_le_pow_right (n := 2) (by decide) hi))]
      simp
    · simp [hi]
  rw [Nat.xor_comm]
  have e : (256 * a) ^^^ x.toNat = (256 * a) ||| x.toNat := by
    apply Nat.eq_of_testBit_eq
    intro i
    have hb := congrArg (fun n => n.testBit i) hand
    simp only [Nat.testBit_and, Nat.zero_testBit] at hb
    rw [Nat.testBit_xor, Nat.testBit_or]
    cases h1 : (256 * a).testBit i <;> cases h2 : x.toNat.testBit i <;> simp_all
  rw [e, show 256 * a = 2 ^ 8 * a from rfl, ← h]
  omega
theorem vx_lt (m : List UInt8) : vx m < 256 ^ m.length := by
  induction m with
  | nil => simp [vx]
  | cons x r ih =>
    rw [vx, vx_add, List.length_cons, Nat.pow_succ']
    have := x.toNat_lt
    omega
theorem vx_zero (m : List UInt8) (h : vx m = 0) : ∀ x ∈ m, x = 0 := by
  induction m with
  | nil => intro x hx; cases hx
  | cons y r ih =>
    rw [vx, vx_add] at h
    intro x hx
    rcases List.mem_cons.1 hx with rfl | hx
    · exact UInt8.toNat_inj.1 (by show _ = 0; omega)
    · exact ih (by omega) x hx
theorem stB_zero_iff (k c : Nat) (h : c < 4294967296) : stB k c = 0 ↔ c = 0 := by
  induction k generalizing c with
  | zero => exact Iff.rfl
  | succ k ih => rw [stB, ih _ (st8_lt c h), st8_zero_iff c h]

/-- Unlike in up to four neighbours: unlike sums. -/
theorem crc_burst (c b : List UInt8) (h : c.length = b.length) (p q : Nat) (m : List UInt8) (hm : m.length ≤ 4) (hz : zx c b = List.replicate p 0 ++ m ++ List.replicate q 0) :
    crc c = crc b ↔ ∀ x ∈ m, x = 0 := by
  have h1 : crc c = crc b ↔ crcF 4294967295 c = crcF 4294967295 b := by
    unfold crc
    constructor
    · intro e
      have := congrArg (fun x => 4294967295 ^^^ x) e
      simpa [← Nat.xor_assoc] using this
    · intro e; rw [e]
  have h2 : crcF 4294967295 c = crcF 4294967295 b ↔ crcF 0 (zx c b) = 0 := by
    have e := crcF_zx c b h 4294967295 4294967295
    rw [Nat.xor_self] at e
    rw [e]
    constructor
    · intro h; rw [h, Nat.xor_self]
    · intro h
      have := congrArg (fun x => x ^^^ crcF 4294967295 b) h
      simpa [Nat.xor_assoc] using this
  have hv : vx m < 4294967296 := Nat.lt_of_lt_of_le (vx_lt m) (by have := Nat.pow_le_pow_right (n := 256) (by decide) hm; simpa using this)
  have hb : stB m.length (vx m) < 4294967296 := by
    have : ∀ k c, c < 4294967296 → stB k c < 4294967296 := by
      intro k
      induction k with
      | zero => intro c hc; exact hc
      | succ k ih => intro c hc; exact ih _ (st8_lt c hc)
    exact this _ _ hv
  rw [h1, h2, hz, crcF_app, crcF_app, crcF_zeros, crcF_vx m 0, Nat.zero_xor, crcF_zeros_iff q _ hb, stB_zero_iff _ _ hv]
  constructor
  · exact vx_zero m
  · intro hall
    clear hz hm hv hb
    induction m with
    | nil => rfl
    | cons x r ih =>
      rw [vx, hall x List.mem_cons_self, ih (fun y hy => hall y (List.mem_cons_of_mem _ hy))]
      rfl
end Go.Proofs.Ytlajncjamafomaa.M
