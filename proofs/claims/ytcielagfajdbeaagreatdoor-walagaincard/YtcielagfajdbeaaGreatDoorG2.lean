/- Plain mathematics of the sum: it is linear, and texts of one length that are unlike in one to four neighbouring bytes have unlike sums; and a number of seven bits a byte is read as it was written. No program is named here. -/
import Derived.Test.YtcielagfajdbeaaGreatDoorG1
import Derived.Maps.OwnSet
import Derived.StringKeys
import Derived.Carry
import Derived.Laws.EntriesVeiled
import Derived.Lib.SliceRun
namespace Go.Proofs.YtcielagfajdbeaaGreatDoor.M
set_option maxRecDepth 100000

theorem xor_div2 (a b : Nat) : (a ^^^ b) / 2 = (a / 2) ^^^ (b / 2) := by
  have := Nat.shiftRight_xor_distrib (a := a) (b := b) (i := 1)
  simp only [Nat.shiftRight_eq_div_pow, Nat.pow_one] at this
  exact this
theorem bit_mul (a b P : Nat) : (a ^^^ b) % 2 * P = (a % 2 * P) ^^^ (b % 2 * P) := by
  have e : (a ^^^ b) % 2 = (a % 2) ^^^ (b % 2) := by
    have := Nat.xor_mod_two_pow (a := a) (b := b) (n := 1)
    simpa using this
  rw [e]
  rcases Nat.mod_two_eq_zero_or_one a with h1 | h1 <;> rcases Nat.mod_two_eq_zero_or_one b with h2 | h2 <;> rw [h1, h2] <;> simp
theorem xor_swap (a b c d : Nat) : (a ^^^ b) ^^^ (c ^^^ d) = (a ^^^ c) ^^^ (b ^^^ d) := by
  rw [Nat.xor_assoc, Nat.xor_assoc, ← Nat.xor_assoc b c d, Nat.xor_comm b c, Nat.xor_assoc c b d]
theorem st_xor (a b : Nat) : st (a ^^^ b) = st a ^^^ st b := by
  unfold st
  rw [xor_div2, bit_mul, xor_swap]
theorem st8_xor (a b : Nat) : st8 (a ^^^ b) = st8 a ^^^ st8 b := by
  unfold st8
  simp only [st_xor]
theorem st_double (a : Nat) : st (2 * a) = a := by
  unfold st
  rw [show 2 * a / 2 = a by omega, show 2 * a % 2 = 0 by omega]
  simp
theorem st8_shift (a : Nat) : st8 (256 * a) = a := by
  unfold st8
  rw [show 256 * a = 2 * (2 * (2 * (2 * (2 * (2 * (2 * (2 * a))))))) by omega]
  simp only [st_double]
theorem st_zero_iff (c : Nat) (h : c < 4294967296) : st c = 0 ↔ c = 0 := by
  constructor
  · intro e
    unfold st at e
    rcases Nat.mod_two_eq_zero_or_one c with h2 | h2
    · rw [h2] at e
      simp at e
      omega
    · rw [h2, Nat.one_mul] at e
      have : c / 2 = 3988292384 := by
        have := congrArg (fun x => x ^^^ 3988292384) e
        simpa [Nat.xor_assoc] using this
      omega
  · rintro rfl; decide
theorem st8_zero_iff (c : Nat) (h : c < 4294967296) : st8 c = 0 ↔ c = 0 := by
  unfold st8
  have h1 := st_lt c h
  have h2 := st_lt _ h1
  have h3 := st_lt _ h2
  have h4 := st_lt _ h3
  have h5 := st_lt _ h4
  have h6 := st_lt _ h5
  have h7 := st_lt _ h6
  rw [st_zero_iff _ h7, st_zero_iff _ h6, st_zero_iff _ h5, st_zero_iff _ h4, st_zero_iff _ h3, st_zero_iff _ h2, st_zero_iff _ h1, st_zero_iff _ h]

/-- Byte by byte, by exclusive or. -/
def zx (x y : List UInt8) : List UInt8 := List.zipWith (fun a b => a ^^^ b) x y

theorem crcF_zx (x y : List UInt8) (h : x.length = y.length) (a b : Nat) : crcF (a ^^^ b) (zx x y) = crcF a x ^^^ crcF b y := by
  induction x generalizing y a b with
  | nil =>
    obtain rfl : y = [] := List.length_eq_zero_iff.1 (by simpa using h.symm)
    rfl
  | cons p x ih =>
    cases y with
    | nil => simp at h
    | cons q y =>
      have e : st8 ((a ^^^ b) ^^^ (p ^^^ q).toNat) = st8 (a ^^^ p.toNat) ^^^ st8 (b ^^^ q.toNat) := by
        rw [UInt8.toNat_xor, xor_swap, st8_xor]
      show crcF (st8 ((a ^^^ b) ^^^ (p ^^^ q).toNat)) (zx x y) = crcF (st8 (a ^^^ p.toNat)) x ^^^ crcF (st8 (b ^^^ q.toNat)) y
      rw [e, ih y (by simpa using h)]
theorem crcF_app (s : Nat) (x y : List UInt8) : crcF s (x ++ y) = crcF (crcF s x) y := by simp [crcF]
theorem crcF_zeros (k : Nat) : crcF 0 (List.replicate k 0) = 0 := by
  induction k with
  | zero => rfl
  | succ k ih => rw [List.replicate_succ]; exact ih
theorem crcF_zeros_iff (k : Nat) (d : Nat) (h : d < 4294967296) : crcF d (List.replicate k 0) = 0 ↔ d = 0 := by
  induction k generalizing d with
  | zero => exact Iff.rfl
  | succ k ih =>
    rw [List.replicate_succ]
    show crcF (st8 (d ^^^ (0 : UInt8).toNat)) (List.replicate k 0) = 0 ↔ d = 0
    have e : d ^^^ (0 : UInt8).toNat = d := by simp
    rw [e, ih _ (st8_lt d h), st8_zero_iff d h]

/-- The bytes as one number, the lowest first. -/
def vx : List UInt8 → Nat
  | [] => 0
  | x :: r => x.toNat ^^^ (256 * vx r)
def stB : Nat → Nat → Nat
  | 0, c => c
  | k + 1, c => stB k (st8 c)
theorem crcF_vx (m : List UInt8) (d : Nat) : crcF d m = stB m.length (d ^^^ vx m) := by
  induction m generalizing d with
  | nil => simp [crcF, stB, vx]
  | cons x r ih =>
    show crcF (st8 (d ^^^ x.toNat)) r = stB (r.length + 1) (d ^^^ (x.toNat ^^^ (256 * vx r)))
    rw [ih, stB, ← Nat.xor_assoc, st8_xor (d ^^^ x.toNat), st8_shift]
theorem vx_add (x : UInt8) (a : Nat) : x.toNat ^^^ (256 * a) = x.toNat + 256 * a := by
  have h := Nat.two_pow_add_eq_or_of_lt (i := 8) (b := x.toNat) (by have := x.toNat_lt; simpa using this) a
  have hx := x.toNat_lt
  have hand : (256 * a) &&& x.toNat = 0 := by
    apply Nat.eq_of_testBit_eq
    intro i
    rw [Nat.testBit_and, show 256 * a = 2 ^ 8 * a from rfl, Nat.testBit_two_pow_mul]
    by_cases hi : 8 ≤ i
    · rw [Nat.testBit_lt_two_pow (show x.toNat < 2 ^ i from Nat.lt_of_lt_of_le hx (Nat.pow_le_pow_right (n := 2) (by decide) hi))]
      simp
    · simp [hi]
  rw [Nat.xor_comm]
  have e : (256 * a) ^^^ x.toNat = (256 * a) ||| x.toNat := by
    apply Nat.eq_of_testBit_eq
    intro i
    have hb := congrArg (fun n => n.testBit i) hand
    simp only [Nat.testBit_and, Nat.zero_testBit] at hb
    rw [Nat.testBit_xor, Nat.testBit_or]
    cases h1 : (256 * a).testBit i <;> cases h2 : x.toNat.testBit i <;> simp_all
  rw [e, show 256 * a = 2 ^ 8 * a from rfl, ← h]
  omega
theorem vx_lt (m : List UInt8) : vx m < 256 ^ m.length := by
  induction m with
  | nil => simp [vx]
  | cons x r ih =>
    rw [vx, vx_add, List.length_cons, Nat.pow_succ']
    have := x.toNat_lt
    omega
theorem vx_zero (m : List UInt8) (h : vx m = 0) : ∀ x ∈ m, x = 0 := by
  induction m with
  | nil => intro x hx; cases hx
  | cons y r ih =>
    rw [vx, vx_add] at h
    intro x hx
    rcases List.mem_cons.1 hx with rfl | hx
    · exact UInt8.toNat_inj.1 (by show _ = 0; omega)
    · exact ih (by omega) x hx
theorem stB_zero_iff (k c : Nat) (h : c < 4294967296) : stB k c = 0 ↔ c = 0 := by
  induction k generalizing c with
  | zero => exact Iff.rfl
  | succ k ih => rw [stB, ih _ (st8_lt c h), st8_zero_iff c h]

/-- Unlike in up to four neighbours: unlike sums. -/
theorem crc_burst (c b : List UInt8) (h : c.length = b.length) (p q : Nat) (m : List UInt8) (hm : m.length ≤ 4) (hz : zx c b = List.replicate p 0 ++ m ++ List.replicate q 0) :
    crc c = crc b ↔ ∀ x ∈ m, x = 0 := by
  have h1 : crc c = crc b ↔ crcF 4294967295 c = crcF 4294967295 b := by
    unfold crc
    constructor
    · intro e
      have := congrArg (fun x => 4294967295 ^^^ x) e
      simpa [← Nat.xor_assoc] using this
    · intro e; rw [e]
  have h2 : crcF 4294967295 c = crcF 4294967295 b ↔ crcF 0 (zx c b) = 0 := by
    have e := crcF_zx c b h 4294967295 4294967295
    rw [Nat.xor_self] at e
    rw [e]
    constructor
    · intro h; rw [h, Nat.xor_self]
    · intro h
      have := congrArg (fun x => x ^^^ crcF 4294967295 b) h
      simpa [Nat.xor_assoc] using this
  have hv : vx m < 4294967296 := Nat.lt_of_lt_of_le (vx_lt m) (by have := Nat.pow_le_pow_right (n := 256) (by decide) hm; simpa using this)
  have hb : stB m.length (vx m) < 4294967296 := by
    have : ∀ k c, c < 4294967296 → stB k c < 4294967296 := by
      intro k
      induction k with
      | zero => intro c hc; exact hc
      | succ k ih => intro c hc; exact ih _ (st8_lt c hc)
    exact this _ _ hv
  rw [h1, h2, hz, crcF_app, crcF_app, crcF_zeros, crcF_vx m 0, Nat.zero_xor, crcF_zeros_iff q _ hb, stB_zero_iff _ _ hv]
  constructor
  · exact vx_zero m
  · intro hall
    clear hz hm hv hb
    induction m with
    | nil => rfl
    | cons x r ih =>
      rw [vx, hall x List.mem_cons_self, ih (fun y hy => hall y (List.mem_cons_of_mem _ hy))]
      rfl
end Go.Proofs.YtcielagfajdbeaaGreatDoor.M

/- Plain mathematics: what was written is read again. No program is named here. -/
namespace Go.Proofs.YtcielagfajdbeaaGreatDoor.M
set_option maxRecDepth 100000

theorem num_cons (x : UInt8) (l : List UInt8) : num (x :: l) = x.toNat * 256 ^ l.length + num l := by
  have : ∀ (l : List UInt8) (n : Nat), l.foldl (fun n x => n * 256 + x.toNat) n = n * 256 ^ l.length + num l := by
    intro l
    induction l with
    | nil => intro n; simp [num]
    | cons y l ih =>
      intro n
      have e : num (y :: l) = y.toNat * 256 ^ l.length + num l := by
        show List.foldl (fun n x => n * 256 + x.toNat) (0 * 256 + y.toNat) l = _
        rw [ih]; simp
      rw [List.foldl_cons, ih, List.length_cons, Nat.pow_succ', e]
      simp only [Nat.add_mul, Nat.mul_assoc, Nat.add_assoc]
  rw [num, List.foldl_cons, this]
  simp
theorem num_be (k n : Nat) (h : n < 256 ^ k) : num (be k n) = n := by
  suffices H : ∀ k n, num (be k n) = n % 256 ^ k by rw [H, Nat.mod_eq_of_lt h]
  intro k
  induction k with
  | zero => intro n; simp [be, num]; omega
  | succ k ih =>
    intro n
    have e8 : (2 : Nat) ^ (8 * k) = 256 ^ k := by rw [Nat.pow_mul]
    have em : n % (256 ^ k * 256) = n % 256 ^ k + 256 ^ k * (n / 256 ^ k % 256) := Nat.mod_mul
    have hu : (UInt8.ofNat (n / 256 ^ k)).toNat = n / 256 ^ k % 256 := by rw [UInt8.toNat_ofNat']
    rw [be, num_cons, ih, be_length, e8, hu, Nat.pow_succ, em, Nat.mul_comm, Nat.add_comm]
theorem num_inj (a b : List UInt8) (h : a.length = b.length) (e : num a = num b) : a = b := by
  induction a generalizing b with
  | nil => exact (List.length_eq_zero_iff.1 (by simpa using h.symm)).symm
  | cons x a ih =>
    cases b with
    | nil => simp at h
    | cons y b =>
      have hl : a.length = b.length := by simpa using h
      rw [num_cons, num_cons, hl] at e
      have h1 := num_lt a
      have h2 := num_lt b
      rw [hl] at h1
      generalize 256 ^ b.length = P at *
      have hx : x.toNat = y.toNat := by
        rcases Nat.lt_trichotomy x.toNat y.toNat with q | q | q
        · have : (x.toNat + 1) * P ≤ y.toNat * P := Nat.mul_le_mul_right _ q
          rw [Nat.add_mul] at this; omega
        · exact q
        · have : (y.toNat + 1) * P ≤ x.toNat * P := Nat.mul_le_mul_right _ q
          rw [Nat.add_mul] at this; omega
      rw [hx] at e
      rw [UInt8.toNat_inj.1 hx, ih b hl (by omega)]

/-- What is written of a number, seen as it is read. -/
theorem viF_read (k n : Nat) (r : List UInt8) (hn : n < qb k) (hk : k ≤ 9) :
    ∃ s, s ≤ k ∧ (viF k n).length = s + 1 ∧ cont (k + 1) (viF k n ++ r) = s ∧ val (viF k n) = n ∧ (viF k n).getD s 0 = UInt8.ofNat (n / 128 ^ s) ∧ n / 128 ^ s < 128 ∧ (0 < s → n / 128 ^ s ≠ 0) := by
  have base : ∀ m n, n < 128 → ∃ s, s ≤ m ∧ ([UInt8.ofNat n]).length = s + 1 ∧ cont (m + 1) ([UInt8.ofNat n] ++ r) = s ∧ val [UInt8.ofNat n] = n ∧ ([UInt8.ofNat n]).getD s 0 = UInt8.ofNat (n / 128 ^ s) ∧ n / 128 ^ s < 128 ∧ (0 < s → n / 128 ^ s ≠ 0) := by
    intro m n h
    have e : (UInt8.ofNat n).toNat = n := by rw [UInt8.toNat_ofNat']; omega
    refine ⟨0, Nat.zero_le _, rfl, ?_, ?_, by simp, by simpa using h, fun h => absurd h (Nat.lt_irrefl _)⟩
    · simp only [List.singleton_append, cont]; rw [e, if_neg (by omega)]
    · simp only [val]; rw [e]; omega
  induction k generalizing n with
  | zero =>
    have : n < 128 := by rw [qb_zero] at hn; omega
    exact base 0 n this
  | succ k ih =>
    by_cases h : n < 128
    · rw [viF, if_pos h]
      exact base (k + 1) n h
    · have hq : n / 128 < qb k := by rw [qb_succ k hk] at hn; omega
      obtain ⟨s, h1, h2, h3, h4, h5, h6, h7⟩ := ih (n / 128) hq (by omega)
      rw [viF, if_neg h]
      have e : (UInt8.ofNat (n % 128 + 128)).toNat = n % 128 + 128 := by rw [UInt8.toNat_ofNat']; omega
      refine ⟨s + 1, by omega, by simp [h2], ?_, ?_, ?_, ?_, ?_⟩
      · simp only [List.cons_append, cont]; rw [e, if_pos (by omega), h3]
      · rw [val, e, h4]; omega
      · rw [List.getD_cons_succ, h5, Nat.div_div_eq_div_mul, Nat.pow_succ, Nat.mul_comm]
      · rw [Nat.pow_succ, Nat.mul_comm, ← Nat.div_div_eq_div_mul]; exact h6
      · intro _
        rw [Nat.pow_succ, Nat.mul_comm, ← Nat.div_div_eq_div_mul]
        by_cases hs : 0 < s
        · exact h7 hs
        · obtain rfl : s = 0 := by omega
          simp; omega

theorem tv_vi (n : Nat) (r : List UInt8) (h : n < 18446744073709551616) : tv (vi n ++ r) = (n, r, 0) := by
  obtain ⟨s, h1, h2, h3, h4, h5, h6, h7⟩ := viF_read 9 n r (by simpa [qb] using h) (Nat.le_refl _)
  have hlen : (vi n).length = s + 1 := h2
  have hg : (vi n ++ r).getD s 0 = UInt8.ofNat (n / 128 ^ s) := by
    rw [← h5, List.getD_eq_getElem?_getD, List.getElem?_append_left (by omega), ← List.getD_eq_getElem?_getD]; rfl
  have e : (UInt8.ofNat (n / 128 ^ s)).toNat = n / 128 ^ s := by rw [UInt8.toNat_ofNat']; exact Nat.mod_eq_of_lt (Nat.lt_trans h6 (by decide))
  unfold tv
  simp only []
  rw [show cont 10 (vi n ++ r) = s from h3, if_neg (by omega), if_neg (by simp; omega), hg, e, if_neg, List.take_left' hlen, List.drop_left' hlen]
  · rw [show val (vi n) = n from h4]
  · rintro (⟨q1, q2⟩ | ⟨q1, q2⟩)
    · exact h7 q1 q2
    · subst q1
      have : n / 128 ^ 9 < 2 := Nat.div_lt_of_lt_mul (by have : (128 : Nat) ^ 9 * 2 = 18446744073709551616 := by decide
                                                         omega)
      omega

/-- A frame whose sum or text was turned is refused by its sum. -/
theorem tf_turned (n : Nat) (u body : List UInt8) (hn : n < 18446744073709551616) (hu : u.length = 4) (hb : body.length = n) (hne : crc body ≠ num u) : tf (vi n ++ (u ++ body)) = ([], [], 11) := by
  unfold tf
  simp only []
  rw [tv_vi n _ hn]
  simp only [ne_eq, not_true_eq_false, if_false]
  have h4 : (u ++ body).drop 4 = body := List.drop_left' hu
  have t4 : (u ++ body).take 4 = u := List.take_left' hu
  rw [if_neg (by simp; omega), h4, t4, if_neg (by omega), List.take_of_length_le (by omega), if_pos hne]
theorem tf_back (b r : List UInt8) (h : b.length < 18446744073709551616) : tf (frame b ++ r) = (b, r, 0) := by
  unfold frame tf
  simp only []
  rw [List.append_assoc, List.append_assoc, tv_vi _ _ h]
  simp only [ne_eq, not_true_eq_false, if_false]
  have h4 : (be 4 (crc b) ++ (b ++ r)).drop 4 = b ++ r := List.drop_left' (be_length 4 _)
  have t4 : (be 4 (crc b) ++ (b ++ r)).take 4 = be 4 (crc b) := List.take_left' (be_length 4 _)
  rw [if_neg (by simp [be_length]), h4, t4, if_neg (by simp), List.take_left' rfl, List.drop_left' rfl, num_be 4 _ (by have := crc_lt b; simpa using this), if_neg (by simp)]

theorem zx_self (l : List UInt8) : zx l l = List.replicate l.length 0 := by
  induction l with
  | nil => rfl
  | cons x l ih =>
    show (x ^^^ x) :: zx l l = _
    rw [ih, List.length_cons, List.replicate_succ, UInt8.xor_self]
theorem zx_app (a b c d : List UInt8) (h : a.length = b.length) : zx (a ++ c) (b ++ d) = zx a b ++ zx c d := by
  unfold zx; exact List.zipWith_append h
theorem zx_mid (a b b' c : List UInt8) (h : b.length = b'.length) : zx (a ++ b ++ c) (a ++ b' ++ c) = List.replicate a.length 0 ++ zx b b' ++ List.replicate c.length 0 := by
  rw [zx_app _ _ _ _ (by simp [h]), zx_app _ _ _ _ rfl, zx_self, zx_self]
theorem zx_zx (a b : List UInt8) (h : a.length = b.length) : zx (zx a b) a = b := by
  induction a generalizing b with
  | nil => exact (List.length_eq_zero_iff.1 (by simpa using h.symm)).symm
  | cons x a ih =>
    cases b with
    | nil => simp at h
    | cons y b =>
      show ((x ^^^ y) ^^^ x) :: zx (zx a b) a = y :: b
      rw [ih b (by simpa using h), UInt8.xor_comm x y, UInt8.xor_assoc, UInt8.xor_self, UInt8.xor_zero]
theorem zx_len (a b : List UInt8) (h : a.length = b.length) : (zx a b).length = a.length := by simp [zx, h]
end Go.Proofs.YtcielagfajdbeaaGreatDoor.M

/- My own words for a disk in memory: 'Dk': a Disk struct in block d whose map holds just the files of st, each with its bytes in memory of its own. -/
namespace Go.Proofs.YtcielagfajdbeaaGreatDoor
open Go.RowKit Go.ChangeMaps Go.WideShapes
set_option linter.unusedVariables false
set_option maxRecDepth 100000

abbrev Nm := List UInt8
/-- What a block of the disk is for. -/
inductive Role where
  | disk
  | map
  | file (n : Nm)
  | data (n : Nm)

/-- How a pointer to a file reads. -/
def flE : Value → Option (DataW Unit × List MemPlace)
  | .pointer none => some (.nil, [])
  | .pointer (some ⟨b, 0, none⟩) => some (.lit (.int .u64 (b : Int)), [])
  | _ => none
theorem flE_nil {v : Value} {ps : List MemPlace} (h : flE v = some (.nil, ps)) : v = .pointer none := by
  unfold flE at h
  split at h <;> simp at h
  rfl
theorem flE_at {v : Value} {ps : List MemPlace} {b : Nat} (h : flE v = some (.lit (.int .u64 (b : Int)), ps)) : v = .pointer (some ⟨b, 0, none⟩) := by
  unfold flE at h
  split at h <;> simp at h
  have h := h.1
  congr
  omega

theorem Tryz.strKeyed : Maps.Keyed Tryz.prog 9 := Maps.string_keyed Tryz.underlying9
theorem Tryz.zeroFile (w : World) : (zeroValue 84).run Tryz.prog w = .ok (.pointer none) w := by kernel_rfl

/-- The disk's memory, all of it by name. -/
structure DkI (B d n m : Nat) (D : DataW Unit) (fb : Nm → Nat) (fv : Nm → Value) (own : Nat → Option Role) (st : Nm → Option (List UInt8 × Nat)) (sz : Nat) (may : Value) (left : Int) (w : World) : Prop where
  cell : w.heap[d]? = some (.cells #[.map (some m), .int .i64 (sz : Int), may, .int .i64 left] 68 (0, 0))
  map : w.ownsMap Tryz.prog 9 flE m n D
  has : ∀ nm f, st nm = some f → D.atKey (.string nm) .nil = .lit (.int .u64 (fb nm : Int))
  hasnt : ∀ nm, st nm = none → Maps.has D (.string nm) = false
  file : ∀ nm f, st nm = some f → w.heap[fb nm]? = some (.cells #[fv nm, .int .i64 (f.2 : Int)] 86 (0, 0)) ∧ Ow B w (fv nm) f.1 ∧ f.2 ≤ f.1.length
  od : own d = some .disk
  om : own m = some .map
  ofl : ∀ nm f, st nm = some f → own (fb nm) = some (.file nm)
  ov : ∀ nm f b, st nm = some f → (fv nm).ownBlock = some b → own b = some (.data nm)
  lo : ∀ b, own b ≠ none → B ≤ b ∧ b < w.heap.size

/-- The disk. -/
def Dk (B d n : Nat) (own : Nat → Option Role) (st : Nm → Option (List UInt8 × Nat)) (sz : Nat) (may : Value) (left : Int) (w : World) : Prop :=
  ∃ m D fb fv, DkI B d n m D fb fv own st sz may left w

theorem DkI.next {B d n m : Nat} {D : DataW Unit} {fb : Nm → Nat} {fv : Nm → Value} {own : Nat → Option Role} {st : Nm → Option (List UInt8 × Nat)} {sz : Nat} {may : Value} {left : Int} {w w' : World} {S : Nat → Prop}
    (h : DkI B d n m D fb fv own st sz may left w) (hc : Chg S w w') (hS : ∀ b, own b ≠ none → ¬ S b) : DkI B d n m D fb fv own st sz may left w' := by
  have kp : ∀ b, own b ≠ none → w'.heap[b]? = w.heap[b]? := fun b hb => hc.block b (h.lo b hb).2 (hS b hb)
  refine ⟨by rw [kp d (by rw [h.od]; simp)]; exact h.cell, ?_, h.has, h.hasnt, fun nm f e => ?_, h.od, h.om, h.ofl, h.ov, fun b hb => ⟨(h.lo b hb).1, Nat.lt_of_lt_of_le (h.lo b hb).2 hc.size⟩⟩
  · obtain ⟨es, clock, hb, r⟩ := h.map
    exact ⟨es, clock, by rw [kp m (by rw [h.om]; simp)]; exact hb, r⟩
  · obtain ⟨h1, h2, h3⟩ := h.file nm f e
    refine ⟨by rw [kp _ (by rw [h.ofl nm f e]; simp)]; exact h1, h2.keptC hc (fun b hb => hS b (by rw [h.ov nm f b e hb]; simp)), h3⟩

theorem Dk.next {B d n : Nat} {own : Nat → Option Role} {st : Nm → Option (List UInt8 × Nat)} {sz : Nat} {may : Value} {left : Int} {w w' : World} {S : Nat → Prop}
    (h : Dk B d n own st sz may left w) (hc : Chg S w w') (hS : ∀ b, own b ≠ none → ¬ S b) : Dk B d n own st sz may left w' := by
  obtain ⟨m, D, fb, fv, h⟩ := h
  exact ⟨m, D, fb, fv, h.next hc hS⟩

/-- A look-up of a file that is there, and of one that isn't. -/
theorem DkI.look {B d n m : Nat} {D : DataW Unit} {fb : Nm → Nat} {fv : Nm → Value} {own : Nat → Option Role} {st : Nm → Option (List UInt8 × Nat)} {sz : Nat} {may : Value} {left : Int} {w : World}
    (h : DkI B d n m D fb fv own st sz may left w) (s : ByteArray) (hs : s.size ≤ maxLen) (f : List UInt8 × Nat) (e : st s.data.toList = some f) :
    (Instr.lookup 64 (.map (some m)) (.string s) false).run Tryz.prog w = .ok (.pointer (some ⟨fb s.data.toList, 0, none⟩)) w := by
  obtain ⟨v, ps, hrun, hv⟩ := h.map.lookup (t := 64) Tryz.strKeyed Tryz.underlying64 (Tryz.zeroFile w) (zd := .nil) (zp := []) rfl (key := .string s) (WideMaps.keyOf_string_mk Tryz.underlying9 hs)
  rw [h.has _ f e] at hv
  rw [hrun, flE_at hv]
theorem DkI.look_no {B d n m : Nat} {D : DataW Unit} {fb : Nm → Nat} {fv : Nm → Value} {own : Nat → Option Role} {st : Nm → Option (List UInt8 × Nat)} {sz : Nat} {may : Value} {left : Int} {w : World}
    (h : DkI B d n m D fb fv own st sz may left w) (s : ByteArray) (hs : s.size ≤ maxLen) (e : st s.data.toList = none) :
    (Instr.lookup 64 (.map (some m)) (.string s) false).run Tryz.prog w = .ok (.pointer none) w := by
  obtain ⟨v, ps, hrun, hv⟩ := h.map.lookup (t := 64) Tryz.strKeyed Tryz.underlying64 (Tryz.zeroFile w) (zd := .nil) (zp := []) rfl (key := .string s) (WideMaps.keyOf_string_mk Tryz.underlying9 hs)
  rw [Maps.atKey_of_not_has (h.hasnt _ e)] at hv
  rw [hrun, flE_nil hv]

/-- The value of the method 'alive' of the disk in block d. -/
def alive (d : Nat) : Value := .func (.func 31) #[.pointer (some ⟨d, 0, none⟩)] #[]

theorem alive_any (d : Nat) (x y : Int) (w : World) : Calls Tryz.prog 31 #[.pointer (some ⟨d, 0, none⟩), .int .i64 x, .int .i64 y] w fun e w' => e = .returned (.int .i64 y) ∧ w' = w := by
  go_enter Tryz.func31, Tryz.ntmps31
  go_wp2
  go_ret
  exact ⟨rfl, rfl⟩
end Go.Proofs.YtcielagfajdbeaaGreatDoor

/- What becomes of a disk in memory where a file's cells, the disk's own cells, or the map are written. -/
namespace Go.Proofs.YtcielagfajdbeaaGreatDoor
open Go.RowKit
set_option linter.unusedVariables false
set_option maxRecDepth 100000

def setF (st : Nm → Option (List UInt8 × Nat)) (nm : Nm) (x : Option (List UInt8 × Nat)) : Nm → Option (List UInt8 × Nat) := fun n => if n = nm then x else st n
theorem setF_same (st : Nm → Option (List UInt8 × Nat)) (nm : Nm) (x : Option (List UInt8 × Nat)) : setF st nm x nm = x := by simp [setF]
theorem setF_other (st : Nm → Option (List UInt8 × Nat)) {nm n : Nm} (x : Option (List UInt8 × Nat)) (h : n ≠ nm) : setF st nm x n = st n := by simp [setF, h]

section
variable {B d n m : Nat} {D : DataW Unit} {fb : Nm → Nat} {fv : Nm → Value} {own : Nat → Option Role} {st : Nm → Option (List UInt8 × Nat)} {sz : Nat} {may : Value} {left : Int} {w w' : World}

/-- A file is another one now. -/
theorem DkI.upd {nm : Nm} {f : List UInt8 × Nat} {bytes' : List UInt8} {s' : Nat} {fv' : Value} (h : DkI B d n m D fb fv own st sz may left w) (e : st nm = some f)
    (hc : Chg (fun b => own b = some (.file nm) ∨ own b = some (.data nm)) w w') (hb : w'.heap[fb nm]? = some (.cells #[fv', .int .i64 (s' : Int)] 86 (0, 0))) (ho : Ow B w' fv' bytes') (hs : s' ≤ bytes'.length)
    (hv : ∀ b, fv'.ownBlock = some b → own b = some (.data nm) ∨ w.heap.size ≤ b) :
    DkI B d n m D fb (fun x => if x = nm then fv' else fv x) (fun b => if fv'.ownBlock = some b then some (.data nm) else own b) (setF st nm (some (bytes', s'))) sz may left w' := by
  have hne : ∀ b r, own b = some r → r ≠ .data nm → fv'.ownBlock ≠ some b := fun b r hr hrn q => by
    rcases hv b q with q2 | q2
    · rw [hr] at q2; exact hrn (Option.some.inj q2)
    · have := (h.lo b (by rw [hr]; simp)).2; omega
  have kp : ∀ b r, own b = some r → r ≠ .file nm → r ≠ .data nm → w'.heap[b]? = w.heap[b]? := fun b r hr h1 h2 => hc.block b (h.lo b (by rw [hr]; simp)).2 (by
    rintro (q | q)
    · rw [hr] at q; exact h1 (Option.some.inj q)
    · rw [hr] at q; exact h2 (Option.some.inj q))
  refine ⟨by rw [kp d _ h.od (by simp) (by simp)]; exact h.cell, ?_, fun x g hx => ?_, fun x hx => ?_, fun x g hx => ?_, ?_, ?_, fun x g hx => ?_, fun x g b hx q => ?_, fun b hb' => ?_⟩
  · obtain ⟨es, clock, hmb, r⟩ := h.map
    exact ⟨es, clock, by rw [kp m _ h.om (by simp) (by simp)]; exact hmb, r⟩
  · by_cases q : x = nm
    · subst q; exact h.has _ f e
    · rw [setF_other _ _ q] at hx; exact h.has x g hx
  · by_cases q : x = nm
    · subst q; rw [setF_same] at hx; cases hx
    · rw [setF_other _ _ q] at hx; exact h.hasnt x hx
  · by_cases q : x = nm
    · subst q
      rw [setF_same] at hx
      obtain rfl := Option.some.inj hx
      simp only [if_true]
      exact ⟨hb, ho, hs⟩
    · rw [setF_other _ _ q] at hx
      simp only [if_neg q]
      obtain ⟨q1, q2, q3⟩ := h.file x g hx
      refine ⟨by rw [kp _ _ (h.ofl x g hx) (by simpa using q) (by simp)]; exact q1, q2.keptC hc (fun b hb2 q4 => ?_), q3⟩
      have q5 := h.ov x g b hx hb2
      rcases q4 with q4 | q4
      · rw [q5] at q4; cases q4
      · rw [q5] at q4; injection q4 with q4; injection q4 with q4; exact q q4
  · rw [if_neg (hne d _ h.od (by simp))]; exact h.od
  · rw [if_neg (hne m _ h.om (by simp))]; exact h.om
  · have : ∃ g', st x = some g' := by
      by_cases q : x = nm
      · subst q; exact ⟨f, e⟩
      · rw [setF_other _ _ q] at hx; exact ⟨g, hx⟩
    obtain ⟨g', hg'⟩ := this
    rw [if_neg (hne _ _ (h.ofl x g' hg') (by simp))]; exact h.ofl x g' hg'
  · by_cases q2 : x = nm
    · subst q2
      simp only [if_true] at q
      rw [if_pos q]
    · rw [setF_other _ _ q2] at hx
      simp only [if_neg q2] at q
      have q3 := h.ov x g b hx q
      rw [if_neg (hne b _ q3 (by simpa using q2))]; exact q3
  · by_cases q : fv'.ownBlock = some b
    · exact World.ownsRow.lt ho b q
    · rw [if_neg q] at hb'
      exact ⟨(h.lo b hb').1, Nat.lt_of_lt_of_le (h.lo b hb').2 hc.size⟩

/-- The disk's own cells are written. -/
theorem DkI.setDisk {sz' : Nat} {may' : Value} {left' : Int} (h : DkI B d n m D fb fv own st sz may left w) (hc : Chg (fun b => b = d) w w')
    (hb : w'.heap[d]? = some (.cells #[.map (some m), .int .i64 (sz' : Int), may', .int .i64 left'] 68 (0, 0))) : DkI B d n m D fb fv own st sz' may' left' w' := by
  have hnd : ∀ b r, own b = some r → r ≠ .disk → b ≠ d := fun b r hr hrn q => by
    subst q; rw [h.od] at hr; exact hrn (Option.some.inj hr).symm
  have kp : ∀ b r, own b = some r → r ≠ .disk → w'.heap[b]? = w.heap[b]? := fun b r hr h1 => hc.block b (h.lo b (by rw [hr]; simp)).2 (hnd b r hr h1)
  refine ⟨hb, ?_, h.has, h.hasnt, fun x g hx => ?_, h.od, h.om, h.ofl, h.ov, fun b hb' => ⟨(h.lo b hb').1, Nat.lt_of_lt_of_le (h.lo b hb').2 hc.size⟩⟩
  · obtain ⟨es, clock, hmb, r⟩ := h.map
    exact ⟨es, clock, by rw [kp m _ h.om (by simp)]; exact hmb, r⟩
  · obtain ⟨q1, q2, q3⟩ := h.file x g hx
    exact ⟨by rw [kp _ _ (h.ofl x g hx) (by simp)]; exact q1, q2.keptC hc (fun b hb2 => hnd b _ (h.ov x g b hx hb2) (by simp)), q3⟩

/-- A new file: its cells in the new block g, and the map written. -/
theorem DkI.add {nm : Nm} {g : Nat} {w1 : World} (h : DkI B d n m D fb fv own st sz may left w) (e : st nm = none) (hsz : nm.length ≤ maxLen) (hg : w.heap.size ≤ g) (hB : B ≤ w.heap.size)
    (hc : Chg (fun b => b = m) w w') (hm : w'.ownsMap Tryz.prog 9 flE m (n + 1) (D.put (.string nm) (.lit (.int .u64 (g : Int))))) (hb : w'.heap[g]? = some (.cells #[.slice none 0 0, .int .i64 0] 86 (0, 0))) :
    DkI B d (n + 1) m (D.put (.string nm) (.lit (.int .u64 (g : Int)))) (fun x => if x = nm then g else fb x) (fun x => if x = nm then .slice none 0 0 else fv x) (fun b => if b = g then some (.file nm) else own b) (setF st nm (some ([], 0))) sz may left w' := by
  have hog : own g = none := by
    by_cases q : own g = none
    · exact q
    · have := (h.lo g q).2; omega
  have hne : ∀ b r, own b = some r → b ≠ g := fun b r hr q => by rw [q, hog] at hr; cases hr
  have hnm : ∀ b r, own b = some r → r ≠ .map → b ≠ m := fun b r hr hrn q => by
    subst q; rw [h.om] at hr; exact hrn (Option.some.inj hr).symm
  have kp : ∀ b r, own b = some r → r ≠ .map → w'.heap[b]? = w.heap[b]? := fun b r hr h1 => hc.block b (h.lo b (by rw [hr]; simp)).2 (hnm b r hr h1)
  have hglt : g < w'.heap.size := (Array.getElem?_eq_some_iff.1 hb).1
  refine ⟨by rw [kp d _ h.od (by simp)]; exact h.cell, hm, fun x f hx => ?_, fun x hx => ?_, fun x f hx => ?_, ?_, ?_, fun x f hx => ?_, fun x f b hx q => ?_, fun b hb' => ?_⟩
  · by_cases q : x = nm
    · subst q
      simp only [if_true]
      exact Maps.atKey_put_same h.map.isMap (by trivial) _ _
    · rw [setF_other _ _ q] at hx
      simp only [if_neg q]
      rw [Maps.atKey_put_other (by simpa using q)]; exact h.has x f hx
  · by_cases q : x = nm
    · subst q; rw [setF_same] at hx; cases hx
    · rw [setF_other _ _ q] at hx
      rw [Maps.has_put_other (by simpa using q)]; exact h.hasnt x hx
  · by_cases q : x = nm
    · subst q
      rw [setF_same] at hx
      obtain rfl := Option.some.inj hx
      simp only [if_true]
      exact ⟨hb, Ow.nil _ _, by simp⟩
    · rw [setF_other _ _ q] at hx
      simp only [if_neg q]
      obtain ⟨q1, q2, q3⟩ := h.file x f hx
      exact ⟨by rw [kp _ _ (h.ofl x f hx) (by simp)]; exact q1, q2.keptC hc (fun b hb2 => hnm b _ (h.ov x f b hx hb2) (by simp)), q3⟩
  · rw [if_neg (hne d _ h.od)]; exact h.od
  · rw [if_neg (hne m _ h.om)]; exact h.om
  · by_cases q : x = nm
    · subst q; simp
    · rw [setF_other _ _ q] at hx
      simp only [if_neg q]
      rw [if_neg (hne _ _ (h.ofl x f hx))]; exact h.ofl x f hx
  · by_cases q2 : x = nm
    · subst q2; simp [Value.ownBlock] at q
    · rw [setF_other _ _ q2] at hx
      simp only [if_neg q2] at q
      rw [if_neg (hne b _ (h.ov x f b hx q))]; exact h.ov x f b hx q
  · by_cases q : b = g
    · subst q; exact ⟨by omega, hglt⟩
    · rw [if_neg q] at hb'
      exact ⟨(h.lo b hb').1, Nat.lt_of_lt_of_le (h.lo b hb').2 hc.size⟩
end
end Go.Proofs.YtcielagfajdbeaaGreatDoor

/- What New, refuseFile, refuseWrite, Dead, Sync and Read of a disk that is alive do. -/
namespace Go.Proofs.YtcielagfajdbeaaGreatDoor
open Go.RowKit
set_option linter.unusedVariables false
set_option maxRecDepth 100000

theorem dclone_any {v : Value} {l : List UInt8} {w : World} (hr : Rd w v l) (hl : l.length ≤ 140737488355328) :
    Calls Tryz.prog 41 #[v] w fun e w' => ∃ v', e = .returned v' ∧ Ow w.heap.size w' v' l ∧ Below w.heap.size w w' := by
  have q : ∀ (w : World) (a : Option Addr) (n c n' c' : Nat), (binOp .eql 24 (.slice a n c) (.slice none n' c')).run Tryz.prog w = .ok (.bool a.isNone) w := fun w a n c n' c' => Lib.run_eql_slice_nil w _ _ a n c n' c' Tryz.underlying24
  rcases hr.two with ⟨rfl, rfl⟩ | ⟨a, c, hv, h1, h2, h3⟩
  · go_enter Tryz.func41, Tryz.ntmps41
    go_wp2
    go_ret
    exact ⟨_, rfl, Ow.nil _ _, Below.refl _ _⟩
  · subst hv
    go_enter Tryz.func41, Tryz.ntmps41
    go_wp2_with (first | (at_builtin; refine wpList_app rfl _ _ rfl w.heap.size _ [] rfl (Ow.lit0 _ _ (Nat.le_refl _)) _ l rfl (hr.alloc _) (by simp) (by simpa using hl) ?_; intro v' w' ho' hb' hg') | fail)
    go_ret
    exact ⟨_, rfl, ho', ((Below.refl _ _).alloc (Nat.le_refl _) _).trans hb'⟩

section
variable {B d n : Nat} {own : Nat → Option Role} {st : Nm → Option (List UInt8 × Nat)} {sz : Nat} {may : Value} {left : Int} {w : World}

theorem ba_loop (s : ByteArray) : ∀ (k i : Nat) (r : List UInt8), s.size - i ≤ k → r ≠ [] → ByteArray.toList.loop s i r ≠ [] := by
  intro k
  induction k with
  | zero =>
    intro i r hk hr
    rw [ByteArray.toList.loop, if_neg (by omega)]
    simpa using hr
  | succ k ih =>
    intro i r hk hr
    rw [ByteArray.toList.loop]
    split
    · exact ih (i + 1) _ (by omega) (by simp)
    · simpa using hr
theorem ba_empty (s : ByteArray) : s.toList.isEmpty = decide (s.size = 0) := by
  unfold ByteArray.toList
  rw [ByteArray.toList.loop]
  by_cases h : 0 < s.size
  · rw [if_pos h]
    have := ba_loop s s.size 1 [s.get! 0] (by omega) (by simp)
    rw [decide_eq_false (by omega)]
    simpa using this
  · rw [if_neg h, decide_eq_true (by omega)]; rfl
theorem goodName_any (s : ByteArray) (w : World) : Calls Tryz.prog 74 #[.string s] w fun e w' => e = .returned (.bool (decide (1 ≤ s.size ∧ s.size ≤ 64))) ∧ w' = w := by
  go_enter Tryz.func74, Tryz.ntmps74
  go_wp2
  all_goals go_ret
  all_goals refine ⟨?_, rfl⟩
  all_goals congr 2
  all_goals (try rename_i hh)
  all_goals (try (rw [ba_empty]; by_cases h0 : s.size = 0 <;> by_cases h64 : s.size ≤ 64 <;> simp [h0, h64] <;> omega))
  all_goals (have he := ba_empty s; simp_all)

theorem refuseFile_any (h : Dk B d n own st sz may left w) (s : ByteArray) (hs : s.size ≤ maxLen) :
    Calls Tryz.prog 50 #[.pointer (some ⟨d, 0, none⟩), .string s] w fun e w' => e = .returned (.int .i64 (if st s.data.toList = none then 20 else 0)) ∧ ∃ k, w' = w.drewN k := by
  obtain ⟨m, D, fb, fv, h⟩ := h
  have c0 : w.cell? ⟨d, 0, none⟩ = some (.map (some m)) := by rw [cell_of_row _ _ _ _ _ _ h.cell]; rfl
  cases e : st s.data.toList with
  | none =>
    have hrun := h.look_no s hs e
    go_enter Tryz.func50, Tryz.ntmps50
    go_wp2
    go_ret
    exact ⟨by simp, 0, rfl⟩
  | some f =>
    have hrun := h.look s hs f e
    go_enter Tryz.func50, Tryz.ntmps50
    go_wp2
    go_ret
    exact ⟨by simp, 0, rfl⟩

/-- What Write would answer. -/
def wErr (s : ByteArray) (k sz : Nat) : Nat := if ¬ (1 ≤ s.size ∧ s.size ≤ 64) then 1 else if 16777216 < sz + k then 2 else 0

theorem refuseWrite_any (h : Dk B d n own st sz may left w) (s : ByteArray) (k : Nat) (hk : k ≤ 1099511627776) (hz : sz ≤ 16777216) :
    Calls Tryz.prog 48 #[.pointer (some ⟨d, 0, none⟩), .string s, .int .i64 (k : Int)] w fun e w' => e = .returned (.int .i64 (wErr s k sz : Int)) ∧ ∃ q, w' = w.drewN q := by
  obtain ⟨m, D, fb, fv, h⟩ := h
  have c1 : w.cell? ⟨d, 1, none⟩ = some (.int .i64 (sz : Int)) := by rw [cell_of_row _ _ _ _ _ _ h.cell]; rfl
  unfold wErr
  by_cases hg : 1 ≤ s.size ∧ s.size ≤ 64
  · rw [if_neg (by simpa using hg)]
    have hgn := goodName_any s w
    rw [decide_eq_true hg] at hgn
    by_cases hf : 16777216 < sz + k
    · rw [if_pos hf]
      go_enter Tryz.func48, Tryz.ntmps48
      go_wp2_with (first | (go_at_call 74; refine hgn.mono ?_; rintro e w' ⟨rfl, rfl⟩) | fail)
      go_ret
      exact ⟨rfl, 0, rfl⟩
    · rw [if_neg hf]
      go_enter Tryz.func48, Tryz.ntmps48
      go_wp2_with (first | (go_at_call 74; refine hgn.mono ?_; rintro e w' ⟨rfl, rfl⟩) | fail)
      go_ret
      exact ⟨rfl, 0, rfl⟩
  · rw [if_pos hg]
    have hgn := goodName_any s w
    rw [decide_eq_false hg] at hgn
    go_enter Tryz.func48, Tryz.ntmps48
    go_wp2_with (first | (go_at_call 74; refine hgn.mono ?_; rintro e w' ⟨rfl, rfl⟩) | fail)
    go_ret
    exact ⟨rfl, 0, rfl⟩

theorem Dk.drN (h : Dk B d n own st sz may left w) (q : Nat) : Dk B d n own st sz may left (w.drewN q) := by
  refine h.next (Chg.of_below (Below.dN w q)) (fun b hb => ?_)
  obtain ⟨_, _, _, _, h⟩ := h
  have := (h.lo b hb).2
  omega
theorem DkI.drN {m : Nat} {D : DataW Unit} {fb : Nm → Nat} {fv : Nm → Value} (h : DkI B d n m D fb fv own st sz may left w) (q : Nat) : DkI B d n m D fb fv own st sz may left (w.drewN q) := by
  refine h.next (Chg.of_below (Below.dN w q)) (fun b hb => ?_)
  have := (h.lo b hb).2
  omega
theorem Chg.dN {S : Nat → Prop} {w w' : World} (h : Chg S w w') (q : Nat) : Chg S w (w'.drewN q) := h.trans ((Chg.of_below (Below.dN w' q)).mono (fun b hb hb2 => by omega))

/-- A file's two cells. -/
theorem DkI.fcell {m : Nat} {D : DataW Unit} {fb : Nm → Nat} {fv : Nm → Value} (h : DkI B d n m D fb fv own st sz may left w) {nm : Nm} {f : List UInt8 × Nat} (e : st nm = some f) :
    ∃ a c, fv nm = .slice a f.1.length c ∧ f.1.length ≤ 9223372036854775807 ∧ w.cell? ⟨fb nm, 0, none⟩ = some (.slice a f.1.length c) ∧ w.cell? ⟨fb nm, 1, none⟩ = some (.int .i64 (f.2 : Int)) ∧ (∀ i, w.frozen? ⟨fb nm, i, none⟩ = false) ∧ Rd w (.slice a f.1.length c) f.1 := by
  obtain ⟨h1, h2, h3⟩ := h.file nm f e
  obtain ⟨a, c, e1, q1, q2, _, _⟩ := h2.rd
  have hr := h2.rd
  unfold maxLen at q2
  rw [e1] at h1 hr
  exact ⟨a, c, e1, by omega, by rw [cell_of_row _ _ _ _ _ _ h1]; rfl, by rw [cell_of_row _ _ _ _ _ _ h1]; rfl, fun i => frozen_of_row _ _ _ _ _ h1, hr⟩

/-- The count of synced bytes is written. -/
theorem DkI.setSync {m : Nat} {D : DataW Unit} {fb : Nm → Nat} {fv : Nm → Value} (h : DkI B d n m D fb fv own st sz may left w) {nm : Nm} {f : List UInt8 × Nat} (e : st nm = some f) (k : Nat) (hk : k ≤ f.1.length) :
    (∃ own', Dk B d n own' (setF st nm (some (f.1, k))) sz may left (w.setCell ⟨fb nm, 1, none⟩ (.int .i64 (k : Int))) ∧ ∀ b, own' b ≠ none → own b ≠ none ∨ w.heap.size ≤ b) ∧ Chg (fun b => own b ≠ none) w (w.setCell ⟨fb nm, 1, none⟩ (.int .i64 (k : Int))) := by
  obtain ⟨h1, h2, h3⟩ := h.file nm f e
  have hof := h.ofl nm f e
  have hc : Chg (fun b => own b = some (.file nm) ∨ own b = some (.data nm)) w (w.setCell ⟨fb nm, 1, none⟩ (.int .i64 (k : Int))) := (Chg.refl _ w).put (fb nm) 1 _ (.inl hof)
  have hc2 : Chg (fun b => b = fb nm) w (w.setCell ⟨fb nm, 1, none⟩ (.int .i64 (k : Int))) := (Chg.refl _ w).put (fb nm) 1 _ rfl
  refine ⟨⟨_, ⟨m, D, fb, _, h.upd e hc (fv' := fv nm) (bytes' := f.1) (s' := k) (by rw [heap_setCell_same w _ 1 _ _ _ h1]; rfl) (h2.keptC hc2 (fun b hb q => ?_)) hk (fun b hb => .inl (h.ov nm f b e hb))⟩, fun b hb => ?_⟩, (Chg.refl _ w).put (fb nm) 1 _ (by rw [hof]; simp)⟩
  · have := h.ov nm f b e hb
    rw [q, hof] at this; cases this
  · left
    by_cases q : (fv nm).ownBlock = some b
    · rw [h.ov nm f b e q]; simp
    · rw [if_neg q] at hb; exact hb

/-- Sync of a file that is there. -/
theorem sync_alive (h : Dk B d n own st sz (alive d) left w) (s : ByteArray) (hs : s.size ≤ maxLen) (f : List UInt8 × Nat) (e : st s.data.toList = some f) :
    Calls Tryz.prog 43 #[.pointer (some ⟨d, 0, none⟩), .string s] w fun e w' => e = .returned (.int .i64 0) ∧ (∃ own', Dk B d n own' (setF st s.data.toList (some (f.1, f.1.length))) sz (alive d) left w' ∧ ∀ b, own' b ≠ none → own b ≠ none ∨ w.heap.size ≤ b) ∧ Chg (fun b => own b ≠ none) w w' := by
  have hrf := fun q => refuseFile_any (h.drN q) s hs
  simp only [e, if_neg (show ¬ (some f = none) by simp)] at hrf
  obtain ⟨m, D, fb, fv, h⟩ := h
  have c0 : w.cell? ⟨d, 0, none⟩ = some (.map (some m)) := by rw [cell_of_row _ _ _ _ _ _ h.cell]; rfl
  have c2 : w.cell? ⟨d, 2, none⟩ = some (.func (.func 31) #[.pointer (some ⟨d, 0, none⟩)] #[]) := by rw [cell_of_row _ _ _ _ _ _ h.cell]; rfl
  have hrun := fun q => (h.drN q).look s hs f e
  obtain ⟨fa, fc, efv, hln, f0, f1, hfz, hrd⟩ := h.fcell e
  have hfz1 := hfz 1
  have H : Hid _ := And.intro h (And.intro efv hrd)
  clear h hfz efv hrd
  generalize hnm : s.data.toList = nm at *
  generalize hg : fb nm = g at *
  have HG : Hid _ := hg
  clear hg
  go_enter Tryz.func43, Tryz.ntmps43
  go_wp2_with fail
  go_quiet (first | (go_at_call 50; refine Calls.quiet_of (v := .int .i64 0) (hrf _)) | (go_at_call 31; refine Calls.quiet_of_same (v := .int .i64 0) (alive_any _ _ _ _)) | fail)
  go_wp2_with fail
  go_ret
  subst hnm
  have h0 := H.out.1.setSync e f.1.length (Nat.le_refl _)
  rw [HG.out] at h0
  obtain ⟨⟨own', q1, q2⟩, q3⟩ := h0
  exact ⟨rfl, ⟨own', q1.drN nq, q2⟩, q3.dN nq⟩

/-- Read of a file that is there. -/
theorem read_alive (h : Dk B d n own st sz (alive d) left w) (s : ByteArray) (hs : s.size ≤ maxLen) (f : List UInt8 × Nat) (e : st s.data.toList = some f) (hl : f.1.length ≤ 140737488355328) :
    Calls Tryz.prog 25 #[.pointer (some ⟨d, 0, none⟩), .string s] w fun e w' => ∃ v, e = .returned (.tuple #[v, .int .i64 0]) ∧ Ow w.heap.size w' v f.1 ∧ Below w.heap.size w w' := by
  have hrf := fun q => refuseFile_any (h.drN q) s hs
  simp only [e, if_neg (show ¬ (some f = none) by simp)] at hrf
  obtain ⟨m, D, fb, fv, h⟩ := h
  have c0 : w.cell? ⟨d, 0, none⟩ = some (.map (some m)) := by rw [cell_of_row _ _ _ _ _ _ h.cell]; rfl
  have c2 : w.cell? ⟨d, 2, none⟩ = some (.func (.func 31) #[.pointer (some ⟨d, 0, none⟩)] #[]) := by rw [cell_of_row _ _ _ _ _ _ h.cell]; rfl
  have hrun := fun q => (h.drN q).look s hs f e
  obtain ⟨fa, fc, efv, hln, f0, f1, hfz, hrd⟩ := h.fcell e
  clear h hfz efv
  generalize fb s.data.toList = g at *
  go_enter Tryz.func25, Tryz.ntmps25
  go_wp2_with fail
  go_quiet (first | (go_at_call 50; refine Calls.quiet_of (v := .int .i64 0) (hrf _)) | (go_at_call 31; refine Calls.quiet_of_same (v := .int .i64 0) (alive_any _ _ _ _)) | fail)
  go_wp2_with fail
  refine (dclone_any (hrd.drewN nq) hl).mono ?_
  rintro e w2 ⟨v2, rfl, ho2, hb2⟩
  go_wp2_with fail
  go_ret2
  exact ⟨_, rfl, ho2, Below.tr (Below.dN w nq) hb2⟩

/-- Dead of a disk that is alive. -/
theorem dead_alive (h : Dk B d n own st sz (alive d) left w) :
    Calls Tryz.prog 14 #[.pointer (some ⟨d, 0, none⟩)] w fun e w' => e = .returned (.bool false) ∧ ∃ q, w' = w.drewN q := by
  obtain ⟨m, D, fb, fv, h⟩ := h
  have c2 : w.cell? ⟨d, 2, none⟩ = some (.func (.func 31) #[.pointer (some ⟨d, 0, none⟩)] #[]) := by rw [cell_of_row _ _ _ _ _ _ h.cell]; rfl
  go_enter Tryz.func14, Tryz.ntmps14
  go_wp2_with fail
  refine (alive_any _ _ _ _).mono ?_
  rintro e w1 ⟨rfl, rfl⟩
  go_wp2_with fail
  go_ret
  exact ⟨rfl, 0, rfl⟩
end
end Go.Proofs.YtcielagfajdbeaaGreatDoor

/- A new disk. -/
namespace Go.Proofs.YtcielagfajdbeaaGreatDoor
open Go.RowKit
set_option linter.unusedVariables false
set_option maxRecDepth 100000

theorem new_block (w : World) (o : Obj) : ((w.alloc (.map #[] 0)).alloc o).heap[w.heap.size + 1]? = some o := by
  show ((w.heap.push _).push _)[_]? = _
  rw [Array.getElem?_push]
  simp

/-- What New lays. -/
theorem new_dk (w : World) (v : Value) : Dk w.heap.size (w.heap.size + 1) 0 (fun b => if b = w.heap.size then some .map else if b = w.heap.size + 1 then some .disk else none) (fun _ => none) 0 v 0
    ((w.alloc (.map #[] 0)).alloc (.cells #[.map (some w.heap.size), .int .i64 0, v, .int .i64 0] 68)) := by
  refine ⟨w.heap.size, .map [], fun _ => 0, fun _ => .slice none 0 0, new_block w _, (World.ownsMap_made w _ _ _).alloc _, fun nm f e => by simp at e, fun nm e => rfl, fun nm f e => by simp at e, by simp, by simp, fun nm f e => by simp at e, fun nm f b e => by simp at e, fun b hb => ?_⟩
  have : b = w.heap.size ∨ b = w.heap.size + 1 := by
    by_cases q : b = w.heap.size
    · exact .inl q
    · rw [if_neg q] at hb
      by_cases q2 : b = w.heap.size + 1
      · exact .inr q2
      · rw [if_neg q2] at hb; exact absurd rfl hb
  simp
  omega

/-- A new disk. -/
theorem new_any (w : World) :
    Calls Tryz.prog 9 #[] w fun e w' => ∃ d own, e = .returned (.pointer (some ⟨d, 0, none⟩)) ∧ Dk w.heap.size d 0 own (fun _ => none) 0 (alive d) 0 w' ∧ Below w.heap.size w w' := by
  have hmk := fun w => run_makeMap (P := Tryz.prog) 64 w
  go_enter Tryz.func9, Tryz.ntmps9
  go_wp2_with fail
  go_ret
  exact ⟨w.heap.size + 1, _, rfl, new_dk w _, ((Below.refl w.heap.size w).alloc (Nat.le_refl _) _).alloc (by simp) _⟩
end Go.Proofs.YtcielagfajdbeaaGreatDoor

/- What tear leaves of a file. -/
namespace Go.Proofs.YtcielagfajdbeaaGreatDoor
open Go.RowKit
set_option linter.unusedVariables false
set_option maxRecDepth 100000

/-- How many bytes stay of what is loose. -/
def stays (k : Int) (loose : Nat) : Nat := min k.toNat loose

section
variable {B d n m : Nat} {D : DataW Unit} {fb : Nm → Nat} {fv : Nm → Value} {own : Nat → Option Role} {st : Nm → Option (List UInt8 × Nat)} {sz : Nat} {may : Value} {left : Int} {w : World}

theorem Ow.pre {B : Nat} {w : World} {a : Option Addr} {c : Nat} {l : List UInt8} (h : Ow B w (.slice a l.length c) l) (k : Nat) (hk : k ≤ l.length) : Ow B w (.slice a k c) (l.take k) := by
  have hlen : (l.take k).length = k := by rw [List.length_take]; omega
  obtain ⟨h1, h2⟩ := h
  refine ⟨by simp [cel_length, hlen], ?_⟩
  rw [hlen]
  rcases h2 with ⟨q, q0⟩ | ⟨g, cap, cur, hv, hg, hh, hn, hcap, hsz, ht⟩
  · left
    injection q with q1 q2 q3
    subst q1; subst q3
    exact ⟨by rw [show k = 0 by omega], by omega⟩
  · right
    injection hv with q1 q2 q3
    subst q1; subst q3
    refine ⟨g, c, cur, rfl, hg, hh, by omega, hcap, hsz, ?_⟩
    have : cel (l.take k) = (cel l).take k := by simp [cel]
    rw [this, ← ht, List.take_take]
    congr 1
    simp only [Nat.mul_one]
    omega

theorem DkI.torn (h : DkI B d n m D fb fv own st sz may left w) {nm : Nm} {f : List UInt8 × Nat} (e : st nm = some f) {a : Option Addr} {c : Nat} (efv : fv nm = .slice a f.1.length c) (k : Nat) (hk : k ≤ f.1.length) :
    (∃ own', Dk B d n own' (setF st nm (some (f.1.take k, k))) sz may left ((w.setCell ⟨fb nm, 1, none⟩ (.int .i64 (k : Int))).setCell ⟨fb nm, 0, none⟩ (.slice a k c)) ∧ ∀ b, own' b ≠ none → own b ≠ none ∨ w.heap.size ≤ b) ∧
      Chg (fun b => own b ≠ none) w ((w.setCell ⟨fb nm, 1, none⟩ (.int .i64 (k : Int))).setCell ⟨fb nm, 0, none⟩ (.slice a k c)) := by
  obtain ⟨h1, h2, h3⟩ := h.file nm f e
  have hof := h.ofl nm f e
  rw [efv] at h1 h2
  have hc : Chg (fun b => own b = some (.file nm) ∨ own b = some (.data nm)) w ((w.setCell ⟨fb nm, 1, none⟩ (.int .i64 (k : Int))).setCell ⟨fb nm, 0, none⟩ (.slice a k c)) := ((Chg.refl _ w).put (fb nm) 1 _ (.inl hof)).put (fb nm) 0 _ (.inl hof)
  have hc2 : Chg (fun b => b = fb nm) w ((w.setCell ⟨fb nm, 1, none⟩ (.int .i64 (k : Int))).setCell ⟨fb nm, 0, none⟩ (.slice a k c)) := ((Chg.refl (fun b => b = fb nm) w).put (fb nm) 1 _ rfl).put (fb nm) 0 _ rfl
  have hov : ∀ b, (Value.slice a k c).ownBlock = some b → own b = some (.data nm) := fun b hb => h.ov nm f b e (by rw [efv]; cases a <;> exact hb)
  have hb1 : (w.setCell ⟨fb nm, 1, none⟩ (.int .i64 (k : Int))).heap[fb nm]? = some (.cells #[.slice a f.1.length c, .int .i64 (k : Int)] 86 (0, 0)) := by
    rw [heap_setCell_same w _ 1 _ _ _ h1]; rfl
  refine ⟨⟨_, ⟨m, D, fb, _, h.upd e hc (fv' := .slice a k c) (bytes' := f.1.take k) (s' := k) (by rw [heap_setCell_same _ _ 0 _ _ _ hb1]; rfl) ((h2.pre k hk).keptC hc2 (fun b hb q => ?_)) (by rw [List.length_take]; omega) (fun b hb => .inl (hov b hb))⟩, fun b hb => ?_⟩, hc.mono (fun b _ q => by rcases q with q | q <;> rw [q] <;> simp)⟩
  · have := hov b hb
    rw [q, hof] at this; cases this
  · left
    by_cases q : (Value.slice a k c).ownBlock = some b
    · rw [hov b q]; simp
    · rw [if_neg q] at hb; exact hb

end
end Go.Proofs.YtcielagfajdbeaaGreatDoor

/- What Write of a living disk does, where it answers OK. -/
namespace Go.Proofs.YtcielagfajdbeaaGreatDoor
open Go.RowKit
set_option linter.unusedVariables false
set_option maxRecDepth 100000

/-- What Write leaves of a file. -/
def wrF (o : Option (List UInt8 × Nat)) (l : List UInt8) : List UInt8 × Nat := match o with | some f => (f.1 ++ l, f.2) | none => (l, 0)

theorem Below.heap_dN (w : World) (q : Nat) : (w.drewN q).heap = w.heap := rfl

section
variable {B d n m : Nat} {D : DataW Unit} {fb : Nm → Nat} {fv : Nm → Value} {own : Nat → Option Role} {st : Nm → Option (List UInt8 × Nat)} {sz : Nat} {may : Value} {left : Int} {w w3 : World}

theorem DkI.mono (h : DkI B d n m D fb fv own st sz may left w) {n' : Nat} (hn : n ≤ n') : DkI B d n' m D fb fv own st sz may left w :=
  ⟨h.cell, h.map.mono hn, h.has, h.hasnt, h.file, h.od, h.om, h.ofl, h.ov, h.lo⟩

/-- Behind the append: what the walk asks of the two blocks. -/
theorem DkI.grew (h : DkI B d n m D fb fv own st sz may left w) {nm : Nm} {f : List UInt8 × Nat} (e : st nm = some f) (hg : w.grownBy w3 (fv nm).ownBlock) :
    (∃ u, w3.cell? ⟨fb nm, 0, none⟩ = some u) ∧ w3.frozen? ⟨fb nm, 0, none⟩ = false ∧ ∀ v, (w3.setCell ⟨fb nm, 0, none⟩ v).cell? ⟨d, 1, none⟩ = some (.int .i64 (sz : Int)) ∧ (w3.setCell ⟨fb nm, 0, none⟩ v).frozen? ⟨d, 1, none⟩ = false := by
  obtain ⟨h1, h2, h3⟩ := h.file nm f e
  have hof := h.ofl nm f e
  have hod := h.od
  have k1 : w3.heap[fb nm]? = w.heap[fb nm]? := hg.block _ (h.lo _ (by rw [hof]; simp)).2 (fun q => by have := h.ov nm f _ e q.symm; rw [hof] at this; cases this)
  have k2 : w3.heap[d]? = w.heap[d]? := hg.block _ (h.lo _ (by rw [hod]; simp)).2 (fun q => by have := h.ov nm f _ e q.symm; rw [hod] at this; cases this)
  rw [h1] at k1
  rw [h.cell] at k2
  have hdf : d ≠ fb nm := fun q => by rw [← q, hod] at hof; cases hof
  have k3 : ∀ v, (w3.setCell ⟨fb nm, 0, none⟩ v).heap[d]? = some (.cells #[.map (some m), .int .i64 (sz : Int), may, .int .i64 left] 68 (0, 0)) := fun v => by
    rw [Below.heap_setCell _ _ _ _ hdf]; exact k2
  exact ⟨⟨_, by rw [cell_of_row _ _ _ _ _ _ k1]; rfl⟩, frozen_of_row _ _ _ _ _ k1, fun v => ⟨by rw [cell_of_row _ _ _ _ _ _ (k3 v)]; rfl, frozen_of_row _ _ _ _ _ (k3 v)⟩⟩

/-- Behind all of it. -/
theorem DkI.wrote (h : DkI B d n m D fb fv own st sz may left w) {nm : Nm} {f : List UInt8 × Nat} {v3 : Value} {l : List UInt8} (e : st nm = some f) (hg : w.grownBy w3 (fv nm).ownBlock) (ho : Ow B w3 v3 (f.1 ++ l)) (hv : v3.ownBlock = (fv nm).ownBlock ∨ v3.ownBlock = some w.heap.size) :
    (∃ own', Dk B d n own' (setF st nm (some (f.1 ++ l, f.2))) (sz + l.length) may left ((w3.setCell ⟨fb nm, 0, none⟩ v3).setCell ⟨d, 1, none⟩ (.int .i64 ((sz + l.length : Nat) : Int))) ∧ ∀ b, own' b ≠ none → own b ≠ none ∨ w.heap.size ≤ b) ∧
      Chg (fun b => own b ≠ none) w ((w3.setCell ⟨fb nm, 0, none⟩ v3).setCell ⟨d, 1, none⟩ (.int .i64 ((sz + l.length : Nat) : Int))) := by
  obtain ⟨h1, h2, h3⟩ := h.file nm f e
  have hof := h.ofl nm f e
  have hod := h.od
  have k1 : w3.heap[fb nm]? = w.heap[fb nm]? := hg.block _ (h.lo _ (by rw [hof]; simp)).2 (fun q => by have := h.ov nm f _ e q.symm; rw [hof] at this; cases this)
  rw [h1] at k1
  have hfb := (h.lo _ (show own (fb nm) ≠ none by rw [hof]; simp))
  have c1 : Chg (fun b => own b = some (.file nm) ∨ own b = some (.data nm)) w (w3.setCell ⟨fb nm, 0, none⟩ v3) := (Chg.of_grown hg (fun b q _ => .inr (h.ov nm f b e q))).put (fb nm) 0 v3 (.inl hof)
  have hvb : ∀ b, v3.ownBlock = some b → own b = some (.data nm) ∨ w.heap.size ≤ b := fun b q => by
    rcases hv with q2 | q2
    · rw [q2] at q; exact .inl (h.ov nm f b e q)
    · rw [q2] at q; exact .inr (by have := Option.some.inj q; omega)
  have ho4 : Ow B (w3.setCell ⟨fb nm, 0, none⟩ v3) v3 (f.1 ++ l) := by
    refine ho.keptC (Chg.of_grown (S := fun b => b = fb nm) (grown_set0 w3 (fb nm) 0 v3) (fun b q _ => (Option.some.inj q).symm)) (fun b q q2 => ?_)
    rcases hvb b q with q3 | q3
    · rw [q2, hof] at q3; cases q3
    · omega
  have hu := h.upd e c1 (fv' := v3) (bytes' := f.1 ++ l) (s' := f.2) (by rw [heap_setCell_same w3 _ 0 _ _ _ k1]; rfl) ho4 (by rw [List.length_append]; omega) hvb
  refine ⟨⟨_, ⟨m, D, fb, _, hu.setDisk ((Chg.refl _ _).put d 1 _ rfl) (by rw [heap_setCell_same _ _ 1 _ _ _ hu.cell]; rfl)⟩, fun b hb => ?_⟩, ?_⟩
  · by_cases q : v3.ownBlock = some b
    · rcases hvb b q with q3 | q3
      · left; rw [q3]; simp
      · exact .inr q3
    · rw [if_neg q] at hb; exact .inl hb
  · refine (c1.mono (fun b _ q => ?_)).put d 1 _ (by rw [hod]; simp)
    rcases q with q | q <;> rw [q] <;> simp

theorem cell_no_map {w : World} {mb : Nat} {es : Array MapEntry} {clock : Nat} (h : w.heap[mb]? = some (.map es clock)) (a : Addr) (ha : a.block = mb) : w.cell? a = none := by
  subst ha
  simp [World.cell?, h]

theorem Rd.offMap {mb : Nat} {es : Array MapEntry} {clock : Nat} {w w' : World} {v : Value} {l : List UInt8} (h : Rd w v l) (hm : w.heap[mb]? = some (.map es clock)) (hc : Chg (fun b => b = mb) w w') : Rd w' v l := by
  obtain ⟨ao, c, rfl, h1, h2, h3, h4⟩ := h
  refine ⟨ao, c, rfl, h1, h2, h3, fun i hi => ?_⟩
  obtain ⟨a, rfl, hce⟩ := h4 i hi
  have hlt := World.block_lt_of_cell? w _ hce
  refine ⟨a, rfl, ?_⟩
  rw [World.cell?_of_block (w := w) (hc.block _ hlt (fun q => by rw [cell_no_map hm _ q] at hce; cases hce))]
  exact hce

/-- A new file in the map. -/
theorem DkI.put1 (h : DkI B d n m D fb fv own st sz may left w) {nm : Nm} (e : st nm = none) (hsz : nm.length ≤ maxLen) (q : Nat) {w2 : World} (hown2 : w2.ownsMap Tryz.prog 9 flE m (n + 1) (D.put (.string nm) (.lit (.int .u64 (w.heap.size : Int)))))
    (hg2 : ((w.drewN q).alloc (.cells #[.slice none 0 0, .int .i64 0] 86)).grownBy w2 (some m)) :
    DkI B d (n + 1) m (D.put (.string nm) (.lit (.int .u64 (w.heap.size : Int)))) (fun x => if x = nm then w.heap.size else fb x) (fun x => if x = nm then .slice none 0 0 else fv x) (fun b => if b = w.heap.size then some (.file nm) else own b) (setF st nm (some ([], 0))) sz may left w2 ∧
      w2.cell? ⟨w.heap.size, 0, none⟩ = some (.slice none 0 0) ∧ Chg (fun b => b = m) w w2 ∧ B ≤ w2.heap.size ∧ ∀ v l, Rd w v l → Rd w2 v l := by
  have hd := h.lo d (by rw [h.od]; simp)
  have hm := h.lo m (by rw [h.om]; simp)
  have hc1 : Chg (fun b => b = m) w ((w.drewN q).alloc (.cells #[.slice none 0 0, .int .i64 0] 86)) := ((Chg.of_below (Below.dN w q)).mono (S' := fun b => b = m) (fun b hb q => by omega)).alloc _
  have hc : Chg (fun b => b = m) w w2 := hc1.trans (Chg.of_grown hg2 (fun b q _ => .inl (Option.some.inj q).symm))
  have hblk : w2.heap[w.heap.size]? = some (.cells #[.slice none 0 0, .int .i64 0] 86 (0, 0)) := by
    rw [hg2.block _ (by simp) (fun q => by have := Option.some.inj q; omega)]
    show ((w.drewN q).heap.push _)[(w.drewN q).heap.size]? = _
    simp
  refine ⟨h.add (w1 := w) e hsz (Nat.le_refl _) (by omega) hc hown2 hblk, by rw [cell_of_row _ _ _ _ _ _ hblk]; rfl, hc, by have := hc.size; omega, fun v l hr => ?_⟩
  obtain ⟨es, clock, hmb, _⟩ := h.map
  exact hr.offMap hmb hc

theorem setF_setF (st : Nm → Option (List UInt8 × Nat)) (nm : Nm) (x y : Option (List UInt8 × Nat)) : setF (setF st nm x) nm y = setF st nm y := by
  funext k
  by_cases h : k = nm
  · subst h; rw [setF_same, setF_same]
  · rw [setF_other _ _ h, setF_other _ _ h, setF_other _ _ h]

/-- A new file, and its first bytes. -/
theorem DkI.first (h : DkI B d n m D fb fv own st sz may left w) {nm : Nm} (e : st nm = none) (hsz : nm.length ≤ maxLen) (q : Nat) {w2 : World} (hown2 : w2.ownsMap Tryz.prog 9 flE m (n + 1) (D.put (.string nm) (.lit (.int .u64 (w.heap.size : Int)))))
    (hg2 : ((w.drewN q).alloc (.cells #[.slice none 0 0, .int .i64 0] 86)).grownBy w2 (some m)) (w3 : World) (hg : w2.grownBy w3 none) :
    ((∃ u, w3.cell? ⟨w.heap.size, 0, none⟩ = some u) ∧ w3.frozen? ⟨w.heap.size, 0, none⟩ = false ∧ ∀ v, (w3.setCell ⟨w.heap.size, 0, none⟩ v).cell? ⟨d, 1, none⟩ = some (.int .i64 (sz : Int)) ∧ (w3.setCell ⟨w.heap.size, 0, none⟩ v).frozen? ⟨d, 1, none⟩ = false) ∧
    ∀ v3 l, Ow B w3 v3 l → (v3.ownBlock = none ∨ v3.ownBlock = some w2.heap.size) →
      (∃ own', Dk B d (n + 1) own' (setF st nm (some (l, 0))) (sz + l.length) may left ((w3.setCell ⟨w.heap.size, 0, none⟩ v3).setCell ⟨d, 1, none⟩ (.int .i64 ((sz + l.length : Nat) : Int))) ∧ ∀ b, own' b ≠ none → own b ≠ none ∨ w.heap.size ≤ b) ∧
      Chg (fun b => own b ≠ none) w ((w3.setCell ⟨w.heap.size, 0, none⟩ v3).setCell ⟨d, 1, none⟩ (.int .i64 ((sz + l.length : Nat) : Int))) := by
  obtain ⟨h2, _, hc2, hB2, _⟩ := h.put1 e hsz q hown2 hg2
  have hg' : w2.grownBy w3 ((fun x => if x = nm then Value.slice none 0 0 else fv x) nm).ownBlock := by simp only [↓reduceIte]; exact hg
  have g := h2.grew (setF_same _ _ _) hg'
  simp only [↓reduceIte] at g
  refine ⟨g, fun v3 l ho hv => ?_⟩
  have x := h2.wrote (setF_same _ _ _) (v3 := v3) (l := l) hg' (by simpa using ho) (by simp only [↓reduceIte]; exact hv)
  simp only [↓reduceIte, List.nil_append, setF_setF] at x
  obtain ⟨⟨own', x1, x2⟩, x3⟩ := x
  have s2 := hc2.size
  refine ⟨⟨own', x1, fun b hb => ?_⟩, (hc2.mono (fun b _ q => by rw [q, h.om]; simp)).trans (x3.mono (fun b hb q => ?_))⟩
  · rcases x2 b hb with q | q
    · by_cases q2 : b = w.heap.size
      · exact .inr (by omega)
      · rw [if_neg q2] at q; exact .inl q
    · exact .inr (by omega)
  · by_cases q2 : b = w.heap.size
    · exact .inr (by omega)
    · rw [if_neg q2] at q; exact .inl q
end
end Go.Proofs.YtcielagfajdbeaaGreatDoor

/- What becomes of a disk in memory where a file is taken out of the map, and where one that lies in memory is put into it. -/
namespace Go.Proofs.YtcielagfajdbeaaGreatDoor
open Go.RowKit
set_option linter.unusedVariables false
set_option maxRecDepth 100000

/-- The roles without those of one file. -/
def strike (own : Nat → Option Role) (nm : Nm) : Nat → Option Role := fun b =>
  match own b with
  | some (.file k) => if k = nm then none else some (.file k)
  | some (.data k) => if k = nm then none else some (.data k)
  | r => r
theorem strike_keep {own : Nat → Option Role} {nm : Nm} {b : Nat} {r : Role} (h : own b = some r) (h1 : r ≠ .file nm) (h2 : r ≠ .data nm) : strike own nm b = some r := by
  unfold strike
  rw [h]
  cases r with
  | disk => rfl
  | map => rfl
  | file k => simp only []; rw [if_neg (fun q => h1 (by rw [q]))]
  | data k => simp only []; rw [if_neg (fun q => h2 (by rw [q]))]
theorem strike_sub {own : Nat → Option Role} {nm : Nm} {b : Nat} (h : strike own nm b ≠ none) : own b ≠ none := by
  intro q
  apply h
  unfold strike
  rw [q]
theorem strike_file {own : Nat → Option Role} {nm : Nm} {b : Nat} (h : own b = some (.file nm)) : strike own nm b = none := by
  unfold strike; rw [h]; simp
theorem strike_data {own : Nat → Option Role} {nm : Nm} {b : Nat} (h : own b = some (.data nm)) : strike own nm b = none := by
  unfold strike; rw [h]; simp

section
variable {B d n m : Nat} {D : DataW Unit} {fb : Nm → Nat} {fv : Nm → Value} {own : Nat → Option Role} {st : Nm → Option (List UInt8 × Nat)} {sz : Nat} {may : Value} {left : Int} {w w' : World}

theorem DkI.del (h : DkI B d n m D fb fv own st sz may left w) (nm : Nm) (hc : Chg (fun b => b = m) w w') (hm : w'.ownsMap Tryz.prog 9 flE m n (D.del (.string nm))) :
    DkI B d n m (D.del (.string nm)) fb fv (strike own nm) (setF st nm none) sz may left w' := by
  have hnm : ∀ b r, own b = some r → r ≠ .map → b ≠ m := fun b r hr hrn q => by
    subst q; rw [h.om] at hr; exact hrn (Option.some.inj hr).symm
  have kp : ∀ b r, own b = some r → r ≠ .map → w'.heap[b]? = w.heap[b]? := fun b r hr h1 => hc.block b (h.lo b (by rw [hr]; simp)).2 (hnm b r hr h1)
  have hx : ∀ x f, setF st nm none x = some f → x ≠ nm ∧ st x = some f := fun x f e => by
    by_cases q : x = nm
    · subst q; rw [setF_same] at e; cases e
    · rw [setF_other _ _ q] at e; exact ⟨q, e⟩
  refine ⟨by rw [kp d _ h.od (by simp)]; exact h.cell, hm, fun x f e => ?_, fun x e => ?_, fun x f e => ?_, strike_keep h.od (by simp) (by simp), strike_keep h.om (by simp) (by simp), fun x f e => ?_, fun x f b e q => ?_, fun b hb => ?_⟩
  · obtain ⟨q, e'⟩ := hx x f e
    rw [Maps.atKey_del_other (by simpa using q)]; exact h.has x f e'
  · by_cases q : x = nm
    · subst q; exact Maps.has_del_same
    · rw [setF_other _ _ q] at e
      rw [Maps.has_del_other (by simpa using q)]; exact h.hasnt x e
  · obtain ⟨q, e'⟩ := hx x f e
    obtain ⟨q1, q2, q3⟩ := h.file x f e'
    exact ⟨by rw [kp _ _ (h.ofl x f e') (by simp)]; exact q1, q2.keptC hc (fun b hb2 => hnm b _ (h.ov x f b e' hb2) (by simp)), q3⟩
  · obtain ⟨q, e'⟩ := hx x f e
    exact strike_keep (h.ofl x f e') (by simpa using q) (by simp)
  · obtain ⟨q2, e'⟩ := hx x f e
    exact strike_keep (h.ov x f b e' q) (by simp) (by simpa using q2)
  · have := h.lo b (strike_sub hb)
    exact ⟨this.1, Nat.lt_of_lt_of_le this.2 hc.size⟩

theorem DkI.link (h : DkI B d n m D fb fv own st sz may left w) {nm : Nm} (e : st nm = none) {g : Nat} {v : Value} {bytes : List UInt8} {s : Nat} (hg : own g = none) (hgB : B ≤ g)
    (hcell : w.heap[g]? = some (.cells #[v, .int .i64 (s : Int)] 86 (0, 0))) (ho : Ow B w v bytes) (hv : ∀ b, v.ownBlock = some b → own b = none ∧ b ≠ g) (hs : s ≤ bytes.length)
    (hc : Chg (fun b => b = m) w w') (hm : w'.ownsMap Tryz.prog 9 flE m (n + 1) (D.put (.string nm) (.lit (.int .u64 (g : Int))))) :
    DkI B d (n + 1) m (D.put (.string nm) (.lit (.int .u64 (g : Int)))) (fun x => if x = nm then g else fb x) (fun x => if x = nm then v else fv x) (fun b => if b = g then some (.file nm) else if v.ownBlock = some b then some (.data nm) else own b) (setF st nm (some (bytes, s))) sz may left w' := by
  have hnm : ∀ b r, own b = some r → r ≠ .map → b ≠ m := fun b r hr hrn q => by
    subst q; rw [h.om] at hr; exact hrn (Option.some.inj hr).symm
  have kp : ∀ b r, own b = some r → r ≠ .map → w'.heap[b]? = w.heap[b]? := fun b r hr h1 => hc.block b (h.lo b (by rw [hr]; simp)).2 (hnm b r hr h1)
  have hom : ∀ b, own b = none → b ≠ m := fun b q q2 => by rw [q2, h.om] at q; cases q
  have hk : ∀ b r, own b = some r → (if b = g then some (Role.file nm) else if v.ownBlock = some b then some (.data nm) else own b) = some r := fun b r hr => by
    rw [if_neg (fun q => by rw [q, hg] at hr; cases hr), if_neg (fun q => by rw [(hv b q).1] at hr; cases hr)]; exact hr
  have hgl : g < w.heap.size := (Array.getElem?_eq_some_iff.1 hcell).1
  have hx : ∀ x f, x ≠ nm → setF st nm (some (bytes, s)) x = some f → st x = some f := fun x f q e => by rw [setF_other _ _ q] at e; exact e
  have ho' : Ow B w' v bytes := ho.keptC hc (fun b hb => hom b (hv b hb).1)
  refine ⟨by rw [kp d _ h.od (by simp)]; exact h.cell, hm, fun x f e1 => ?_, fun x e1 => ?_, fun x f e1 => ?_, hk d _ h.od, hk m _ h.om, fun x f e1 => ?_, fun x f b e1 q => ?_, fun b hb => ?_⟩
  · by_cases q : x = nm
    · subst q
      simp only [if_true]
      exact Maps.atKey_put_same h.map.isMap (by trivial) _ _
    · simp only [if_neg q]
      rw [Maps.atKey_put_other (by simpa using q)]; exact h.has x f (hx x f q e1)
  · by_cases q : x = nm
    · subst q; rw [setF_same] at e1; cases e1
    · rw [setF_other _ _ q] at e1
      rw [Maps.has_put_other (by simpa using q)]; exact h.hasnt x e1
  · by_cases q : x = nm
    · subst q
      rw [setF_same] at e1
      obtain rfl := Option.some.inj e1
      simp only [if_true]
      exact ⟨by rw [hc.block g hgl (hom g hg)]; exact hcell, ho', hs⟩
    · simp only [if_neg q]
      obtain ⟨q1, q2, q3⟩ := h.file x f (hx x f q e1)
      exact ⟨by rw [kp _ _ (h.ofl x f (hx x f q e1)) (by simp)]; exact q1, q2.keptC hc (fun b hb2 => hnm b _ (h.ov x f b (hx x f q e1) hb2) (by simp)), q3⟩
  · by_cases q : x = nm
    · subst q; simp
    · simp only [if_neg q]; exact hk _ _ (h.ofl x f (hx x f q e1))
  · by_cases q2 : x = nm
    · subst q2
      simp only [if_true] at q
      rw [if_neg (hv b q).2, if_pos q]
    · simp only [if_neg q2] at q; exact hk b _ (h.ov x f b (hx x f q2 e1) q)
  · by_cases q : b = g
    · subst q; exact ⟨hgB, Nat.lt_of_lt_of_le hgl hc.size⟩
    · rw [if_neg q] at hb
      by_cases q2 : v.ownBlock = some b
      · exact World.ownsRow.lt ho' b q2
      · rw [if_neg q2] at hb
        exact ⟨(h.lo b hb).1, Nat.lt_of_lt_of_le (h.lo b hb).2 hc.size⟩
end
end Go.Proofs.YtcielagfajdbeaaGreatDoor

/- The walk of Write on a living disk, where it answers OK. -/
namespace Go.Proofs.YtcielagfajdbeaaGreatDoor
open Go.RowKit
set_option linter.unusedVariables false
set_option maxRecDepth 100000

section
variable {B d n : Nat} {own : Nat → Option Role} {st : Nm → Option (List UInt8 × Nat)} {sz : Nat} {left : Int} {w : World}

set_option maxHeartbeats 1000000 in
theorem write_there (h : Dk B d n own st sz (alive d) left w) (s : ByteArray) (hs1 : 1 ≤ s.size) (hs2 : s.size ≤ 64) (f : List UInt8 × Nat) (e : st s.data.toList = some f) {vb : Value} {l : List UInt8} (hr : Rd w vb l) (hz : sz + l.length ≤ 16777216) (hf : f.1.length ≤ 16777216) :
    Calls Tryz.prog 21 #[.pointer (some ⟨d, 0, none⟩), .string s, vb] w fun e w' => e = .returned (.int .i64 0) ∧ (∃ own', Dk B d n own' (setF st s.data.toList (some (f.1 ++ l, f.2))) (sz + l.length) (alive d) left w' ∧ ∀ b, own' b ≠ none → own b ≠ none ∨ w.heap.size ≤ b) ∧ Chg (fun b => own b ≠ none) w w' := by
  have hml : s.size ≤ maxLen := by unfold maxLen; omega
  have hrf := fun q => refuseWrite_any (h.drN q) s l.length (by omega) (by omega)
  have hw0 : wErr s l.length sz = 0 := by unfold wErr; rw [if_neg (by simp; omega), if_neg (by omega)]
  simp only [hw0] at hrf
  clear hw0
  obtain ⟨m, D, fb, fv, h⟩ := h
  have c0 : w.cell? ⟨d, 0, none⟩ = some (.map (some m)) := by rw [cell_of_row _ _ _ _ _ _ h.cell]; rfl
  have c2 : w.cell? ⟨d, 2, none⟩ = some (.func (.func 31) #[.pointer (some ⟨d, 0, none⟩)] #[]) := by rw [cell_of_row _ _ _ _ _ _ h.cell]; rfl
  have hrun := fun q => (h.drN q).look s hml f e
  obtain ⟨fa, fc, efv, hln, f0, f1, hfz, hrd⟩ := h.fcell e
  have hB : B ≤ w.heap.size := by have := h.lo d (by rw [h.od]; simp); omega
  have how : Ow B w (.slice fa f.1.length fc) f.1 := by rw [← efv]; exact (h.file _ f e).2.1
  have hgrew := fun q w3 (hg : (w.drewN q).grownBy w3 (Value.slice fa f.1.length fc).ownBlock) => (h.drN q).grew e (w3 := w3) (by rw [efv]; exact hg)
  have hwrote := fun q w3 v3 (hg : (w.drewN q).grownBy w3 (Value.slice fa f.1.length fc).ownBlock) (ho : Ow B w3 v3 (f.1 ++ l)) (hv : v3.ownBlock = (Value.slice fa f.1.length fc).ownBlock ∨ v3.ownBlock = some (w.drewN q).heap.size) => (h.drN q).wrote e (w3 := w3) (v3 := v3) (l := l) (by rw [efv]; exact hg) ho (by rw [efv]; exact hv)
  have H : Hid _ := And.intro hgrew hwrote
  clear h hfz efv hgrew hwrote
  have hr' := hr
  obtain ⟨av, cv, rfl, _, hcv, _, _⟩ := hr
  unfold maxLen at hcv
  generalize hnm : s.data.toList = nm at *
  generalize hg : fb nm = g at *
  go_enter Tryz.func21, Tryz.ntmps21
  go_wp2_with fail
  go_quiet (first | (go_at_call 48; refine Calls.quiet_of (v := .int .i64 0) (hrf _)) | (go_at_call 31; refine Calls.quiet_of_same (v := .int .i64 0) (alive_any _ _ _ _)) | fail)
  go_wp2_with (first | (at_builtin; refine wpList_appN rfl _ _ rfl B _ f.1 rfl (how.below (Below.dN w nq) (Nat.le_refl _)) _ l rfl (hr'.drewN nq) hB (by omega) ?_; intro v3 w3 ho3 hg3 hw3; obtain ⟨a3, c3, ev3, _⟩ := ho3.rd; obtain ⟨⟨u0, q0⟩, q1, q2⟩ := H.out.1 nq w3 hg3; have q3 := fun v => (q2 v).1; have q4 := fun v => (q2 v).2; clear q2; subst ev3) | fail)
  go_ret
  obtain ⟨⟨own', x1, x2⟩, x3⟩ := H.out.2 nq w3 _ hg3 ho3 hw3
  simp only [List.length_append, Int.natCast_add] at x1 x3
  have := (Chg.of_below (Below.dN w nq)).mono (S' := fun b => own b ≠ none) (fun b hb q => by omega)
  exact ⟨rfl, ⟨own', x1, x2⟩, this.trans (x3.mono (fun b _ q => Or.inl q))⟩

set_option maxHeartbeats 1000000 in
theorem write_new (h : Dk B d n own st sz (alive d) left w) (s : ByteArray) (hs1 : 1 ≤ s.size) (hs2 : s.size ≤ 64) (e : st s.data.toList = none) {vb : Value} {l : List UInt8} (hr : Rd w vb l) (hz : sz + l.length ≤ 16777216) (hn : n ≤ 1099511627776) :
    Calls Tryz.prog 21 #[.pointer (some ⟨d, 0, none⟩), .string s, vb] w fun e w' => e = .returned (.int .i64 0) ∧ (∃ own', Dk B d (n + 1) own' (setF st s.data.toList (some (l, 0))) (sz + l.length) (alive d) left w' ∧ ∀ b, own' b ≠ none → own b ≠ none ∨ w.heap.size ≤ b) ∧ Chg (fun b => own b ≠ none) w w' := by
  have hml : s.size ≤ maxLen := by unfold maxLen; omega
  have hrf := fun q => refuseWrite_any (h.drN q) s l.length (by omega) (by omega)
  have hw0 : wErr s l.length sz = 0 := by unfold wErr; rw [if_neg (by simp; omega), if_neg (by omega)]
  simp only [hw0] at hrf
  clear hw0
  obtain ⟨m, D, fb, fv, h⟩ := h
  have hdlt := (h.lo d (by rw [h.od]; simp)).2
  have hmlt := (h.lo m (by rw [h.om]; simp)).2
  have hdm : d ≠ m := fun q => by have := h.od; rw [q, h.om] at this; cases this
  have c0 : w.cell? ⟨d, 0, none⟩ = some (.map (some m)) := by rw [cell_of_row _ _ _ _ _ _ h.cell]; rfl
  have c0' : ∀ q o, ((w.drewN q).alloc o).cell? ⟨d, 0, none⟩ = some (.map (some m)) := fun q o => by rw [World.cell?_of_block (w := w) (Below.heap_alloc (w.drewN q) o d hdlt)]; exact c0
  have c2 : w.cell? ⟨d, 2, none⟩ = some (.func (.func 31) #[.pointer (some ⟨d, 0, none⟩)] #[]) := by rw [cell_of_row _ _ _ _ _ _ h.cell]; rfl
  have hrun := fun q => (h.drN q).look_no s hml e
  have hB : B ≤ w.heap.size := by have := h.lo d (by rw [h.od]; simp); omega
  have hmap := fun q o => (h.drN q).map.alloc o
  have HM : Hid _ := hmap
  clear hmap
  have H : Hid _ := h
  clear h
  have hkey := WideMaps.keyOf_string_mk (P := Tryz.prog) (k := 9) Tryz.underlying9 hml
  have hr' := hr
  obtain ⟨av, cv, rfl, _, hcv, _, _⟩ := hr
  unfold maxLen at hcv
  have hnlen : s.data.toList.length ≤ maxLen := by rw [Array.length_toList]; exact hml
  have hnm : n < maxLen := by unfold maxLen; omega
  go_enter Tryz.func21, Tryz.ntmps21
  go_wp2_with fail
  go_quiet (first | (go_at_call 48; refine Calls.quiet_of (v := .int .i64 0) (hrf _)) | (go_at_call 31; refine Calls.quiet_of_same (v := .int .i64 0) (alive_any _ _ _ _)) | fail)
  go_wp2_with (first | (at_mapUpdate; refine wpList_mapUpdate_own _ rfl _ _ _ 64 rfl 9 84 Tryz.strKeyed Tryz.underlying64 flE m n D rfl (HM.out nq _) hnm _ _ _ rfl rfl hkey (.lit (.int .u64 (w.heap.size : Int))) [] rfl ?_; intro w2 hown2 hg2; obtain ⟨_, f0, _, hB2, hrd2⟩ := H.out.put1 e hnlen nq hown2 hg2; have hr2 := hrd2 _ _ hr'; have H2 : Hid _ := H.out.first e hnlen nq hown2 hg2; clear hrd2 hown2 hg2 hr' HM) | (at_builtin; refine wpList_appN rfl _ _ rfl B (.slice none 0 0) [] rfl (Ow.nil _ _) _ l rfl hr2 hB2 (by simp; omega) ?_; intro v3 w3 ho3 hg3 hw3; obtain ⟨a3, c3, ev3, _⟩ := ho3.rd; obtain ⟨⟨⟨u0, q0⟩, q1, q2⟩, x0⟩ := H2.out w3 hg3; have q3 := fun v => (q2 v).1; have q4 := fun v => (q2 v).2; have HX : Hid _ := x0 v3 l ho3 hw3; clear q2 x0; subst ev3) | fail)
  go_ret
  obtain ⟨⟨own', x1, x2⟩, x3⟩ := HX.out
  simp only [List.length_append, List.length_nil, Nat.zero_add, Int.natCast_add] at x1 x3
  exact ⟨rfl, ⟨own', x1, x2⟩, x3⟩
end
end Go.Proofs.YtcielagfajdbeaaGreatDoor

/- Lists of wide elements as cells, and how a row of the call's own reads. Nothing of the program is named here. -/
namespace Go.Proofs.YtcielagfajdbeaaGreatDoor
open Go.RowKit
set_option linter.unusedVariables false
set_option maxRecDepth 100000

section
variable {α : Type} {f : α → List Value} {n : Nat}
theorem fm_len (hf : ∀ x, (f x).length = n) (l : List α) : (l.flatMap f).length = l.length * n := by
  induction l with
  | nil => simp
  | cons x l ih => rw [List.flatMap_cons, List.length_append, ih, hf, List.length_cons, Nat.add_mul]; omega
theorem fm_at (hf : ∀ x, (f x).length = n) (l : List α) (i j : Nat) (x : α) (e : l[i]? = some x) (hj : j < n) : (l.flatMap f)[i * n + j]? = (f x)[j]? := by
  induction l generalizing i with
  | nil => simp at e
  | cons y l ih =>
    cases i with
    | zero => simp at e; subst e; rw [List.flatMap_cons, Nat.zero_mul, Nat.zero_add, List.getElem?_append_left (by rw [hf]; exact hj)]
    | succ i =>
      have := ih i (by simpa using e)
      rw [List.flatMap_cons, List.getElem?_append_right (by rw [hf, Nat.add_mul]; omega), hf, ← this]
      congr 1
      rw [Nat.add_mul]; omega
theorem fm_take (hf : ∀ x, (f x).length = n) (l : List α) (k : Nat) : (l.flatMap f).take (k * n) = (l.take k).flatMap f := by
  induction l generalizing k with
  | nil => simp
  | cons x l ih =>
    cases k with
    | zero => simp
    | succ k => rw [List.take_succ_cons, List.flatMap_cons, List.flatMap_cons, ← ih k, List.take_append, hf, show (k + 1) * n - n = k * n by rw [Nat.add_mul]; omega, List.take_of_length_le (by rw [hf, Nat.add_mul]; omega)]
theorem fm_drop (hf : ∀ x, (f x).length = n) (l : List α) (k : Nat) : (l.flatMap f).drop (k * n) = (l.drop k).flatMap f := by
  induction l generalizing k with
  | nil => simp
  | cons x l ih =>
    cases k with
    | zero => simp
    | succ k => rw [List.drop_succ_cons, List.flatMap_cons, ← ih k, List.drop_append, hf, show (k + 1) * n - n = k * n by rw [Nat.add_mul]; omega, List.drop_of_length_le (by rw [hf, Nat.add_mul]; omega), List.nil_append]
end

section
variable {w : World}
/-- How a row of the call's own reads. -/
theorem row_reads {B : Nat} {e : TypeId} {size k : Nat} {v : Value} {xs : List Value} (h : w.ownsRow B e size v k xs) : ∃ a c, v = .slice a k c ∧ k ≤ c ∧ c ≤ maxLen ∧ (a = none → c = 0) ∧ ∀ j u, xs[j]? = some u → ∃ g, a = some ⟨g, 0, none⟩ ∧ w.cell? ⟨g, j, none⟩ = some u := by
  rcases h.2 with ⟨q, q0⟩ | ⟨g, cap, cur, q, hB, hg, q1, q2, q3, q4⟩
  · refine ⟨none, 0, by rw [q, q0], by omega, by simp, fun _ => rfl, fun j u e => ?_⟩
    have h1 := h.1
    have := (List.getElem?_eq_some_iff.1 e).1
    rw [h1, q0, Nat.zero_mul] at this
    omega
  · refine ⟨some ⟨g, 0, none⟩, cap, q, q1, q2, (fun e => by cases e), fun j u e => ⟨g, rfl, ?_⟩⟩
    have := h.cells (g := g) (by rw [q]; rfl) j u e
    rw [Addr.add_lit, Nat.zero_add] at this
    exact this
end
end Go.Proofs.YtcielagfajdbeaaGreatDoor

/- What 'highFirst' makes: the lowest bytes of a number, the highest first, in new memory. -/
namespace Go.Proofs.YtcielagfajdbeaaGreatDoor
open Go.RowKit
set_option linter.unusedVariables false

theorem be_set (size k n : Nat) (h : k < size) : (cel (List.replicate (size - k) 0 ++ M.be k n)).set (size - 1 - k) (.int .u8 ((n : Int) / 2 ^ (8 * k) % 256)) = cel (List.replicate (size - (k + 1)) 0 ++ M.be (k + 1) n) := by
  have e : size - k = size - (k + 1) + 1 := by omega
  have e2 : size - 1 - k = size - (k + 1) := by omega
  rw [e, e2, List.replicate_succ', M.be]
  simp only [cel, List.map_append, List.map_cons, List.map_nil, List.append_assoc]
  rw [List.set_append_right _ _ (by simp)]
  simp only [List.length_map, List.length_replicate, Nat.sub_self, List.cons_append, List.set_cons_zero, List.nil_append]
  rw [M.u8_ofNat]
  simp

set_option maxHeartbeats 400000 in
theorem high_any (n size : Nat) (w : World) (hn : n < 18446744073709551616) (hs : size ≤ 8) :
    Calls Tryz.prog 68 #[.int .u64 n, .int .i64 size] w fun e w' => ∃ v, e = .returned v ∧ Ow w.heap.size w' v (M.be size n) ∧ Below w.heap.size w w' := by
  obtain ⟨i, hi, hz0, hz1, hz2⟩ := info_parts Tryz.info5
  go_enter Tryz.func68, Tryz.ntmps68
  go_wp2_with (first | (at_make; refine wpList_make_full _ rfl _ _ 24 rfl w.heap.size 5 i _ 1 Tryz.underlying24 hi hz0 hz1 _ _ _ _ size rfl rfl rfl rfl (by rw [hz2]; omega) (by unfold maxLen; omega) (Nat.le_refl _) ?_; intro w1 hown hgr) | fail)
  have hb := (Below.refl w.heap.size w).grown hgr (Nat.le_refl _) (by simp)
  have hown' : w1.ownsRow w.heap.size 5 1 (.slice (some ⟨w.heap.size, 0, none⟩) size size) size (cel (List.replicate (size - 0) 0 ++ M.be 0 n)) := by
    have e : (madeCells (Value.int IntKind.u8 0).cells (size * 1)).toList = cel (List.replicate (size - 0) 0 ++ M.be 0 n) := by
      rw [show (Value.int IntKind.u8 0).cells = #[Value.int IntKind.u8 0] from rfl, toList_madeCells_one]
      simp [cel, M.be]
    rw [← e]; exact hown
  clear hown
  go_loopw [6, 10] (fun _ i wr => ∃ k : Nat, k ≤ size ∧ i = .int .i64 k ∧ Below w.heap.size w wr ∧ wr.ownsRow w.heap.size 5 1 (.slice (some ⟨w.heap.size, 0, none⟩) size size) size (cel (List.replicate (size - k) 0 ++ M.be k n))) (fun _ i _ => size - (intOf i).toNat)
  case atStart => exact ⟨0, Nat.zero_le _, rfl, hb, hown'⟩
  case round =>
    obtain ⟨k, hk, rfl, hb, hox⟩ := hrel
    clear hown' hgr
    by_cases hlt : k < size
    · have hc := hox.cellAt (size - 1 - k) (by omega)
      rw [cel_get _ _ (by simp [M.be_length]; omega)] at hc
      have hf := hox.frozenAt (size - 1 - k)
      have hst := hox.stored (size - 1 - k) (.int .u8 ((n : Int) / 2 ^ (8 * k) % 256))
      rw [be_set size k n hlt] at hst
      have HS := hst.1
      have HB := hb.setCell (p := ⟨w.heap.size, size - 1 - k, none⟩) (Nat.le_refl _) (.int .u8 ((n : Int) / 2 ^ (8 * k) % 256))
      have HH : Hid (_ ∧ _) := ⟨HS, HB⟩
      clear HS HB hst hox
      go_wp2
      refine ⟨⟨k + 1, by omega, by go_num, HH.out.2, HH.out.1⟩, by simp [intOf]; omega⟩
    · go_wp2
      go_ret
      obtain rfl : k = size := by omega
      refine ⟨_, rfl, ?_, hb⟩
      rw [Nat.sub_self, List.replicate_zero, List.nil_append] at hox
      unfold Ow; rw [M.be_length]; exact hox
end Go.Proofs.YtcielagfajdbeaaGreatDoor
