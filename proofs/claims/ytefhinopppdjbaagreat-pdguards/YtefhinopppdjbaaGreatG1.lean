/- Plain mathematics of bytes and numbers: what the codec's calls answer, as functions on lists of bytes. No program is named here. -/
namespace Go.Proofs.YtefhinopppdjbaaGreat.M

/-- The lowest k bytes of n, the highest first. -/
def be : Nat → Nat → List UInt8
  | 0, _ => []
  | k + 1, n => UInt8.ofNat (n / 2 ^ (8 * k)) :: be k n

theorem be_length (k n : Nat) : (be k n).length = k := by
  induction k with
  | zero => rfl
  | succ k ih => simp [be, ih]

theorem u8_ofNat (n : Nat) : ((UInt8.ofNat n).toNat : Int) = (n : Int) % 256 := by
  rw [UInt8.toNat_ofNat']; omega

/-- n in as few bytes as can be, seven bits a byte, the lowest first; at most k + 1 bytes. -/
def viF : Nat → Nat → List UInt8
  | 0, n => [UInt8.ofNat n]
  | k + 1, n => if n < 128 then [UInt8.ofNat n] else UInt8.ofNat (n % 128 + 128) :: viF k (n / 128)
def vi (n : Nat) : List UInt8 := viF 9 n

theorem viF_length (k n : Nat) : (viF k n).length ≤ k + 1 := by
  induction k generalizing n with
  | zero => simp [viF]
  | succ k ih =>
    unfold viF
    split
    · simp
    · have := ih (n / 128); simp only [List.length_cons]; omega

/-- More rounds than are needed turn nothing. -/
theorem viF_more (k n : Nat) (h : n < 128 ^ (k + 1)) : viF (k + 1) n = viF k n := by
  induction k generalizing n with
  | zero => simp only [viF]; rw [if_pos (by simpa using h)]
  | succ k ih =>
    rw [viF]; conv => rhs; rw [viF]
    split
    · rfl
    · rw [ih]
      rw [Nat.pow_succ] at h
      exact Nat.div_lt_of_lt_mul (by rw [Nat.mul_comm]; exact h)

/-- What is left of a number of 64 bits ahead of its last k + 1 bytes of seven bits. -/
def qb (k : Nat) : Nat := 2 ^ (64 - 7 * (9 - k))
theorem qb_le (k : Nat) : qb k ≤ 18446744073709551616 := Nat.pow_le_pow_right (by decide) (show 64 - 7 * (9 - k) ≤ 64 by omega)
theorem qb_zero : qb 0 = 2 := rfl
theorem qb_succ (k : Nat) (h : k + 1 ≤ 9) : qb (k + 1) = qb k * 128 := by
  unfold qb
  rw [show 64 - 7 * (9 - (k + 1)) = 64 - 7 * (9 - k) + 7 by omega, Nat.pow_add]

theorem not64 (n : Nat) (h : n < 18446744073709551616) : 18446744073709551615 ^^^ n = 18446744073709551615 - n := by
  have e : (BitVec.allOnes 64 ^^^ BitVec.ofNat 64 n).toNat = (~~~ (BitVec.ofNat 64 n)).toNat := by rw [BitVec.allOnes_xor]
  rw [BitVec.toNat_xor, BitVec.toNat_not, BitVec.toNat_ofNat, BitVec.toNat_allOnes, Nat.mod_eq_of_lt (by simpa using h)] at e
  simpa using e

theorem or128 (x : Nat) (h : x < 256) : x ||| 128 = x % 128 + 128 := by
  have : ∀ y : Fin 256, y.val ||| 128 = y.val % 128 + 128 := by decide +kernel
  exact this ⟨x, h⟩

/-- The number whose bytes these are, the highest first. -/
def num (l : List UInt8) : Nat := l.foldl (fun n x => n * 256 + x.toNat) 0
theorem num_snoc (l : List UInt8) (x : UInt8) : num (l ++ [x]) = num l * 256 + x.toNat := by simp [num]
theorem num_lt_from (l : List UInt8) : ∀ n, l.foldl (fun n x => n * 256 + x.toNat) n < (n + 1) * 256 ^ l.length := by
  induction l with
  | nil => intro n; simp
  | cons x l ih =>
    intro n
    rw [List.foldl_cons]
    refine Nat.lt_of_lt_of_le (ih _) ?_
    rw [List.length_cons, Nat.pow_succ', ← Nat.mul_assoc]
    exact Nat.mul_le_mul_right _ (by have := x.toNat_lt; omega)
theorem num_lt (l : List UInt8) : num l < 256 ^ l.length := by simpa [num] using num_lt_from l 0

/-- The number of seven bits a byte, the lowest first. -/
def val : List UInt8 → Nat
  | [] => 0
  | x :: r => x.toNat % 128 + 128 * val r
theorem val_lt (l : List UInt8) : val l < 128 ^ l.length := by
  induction l with
  | nil => simp [val]
  | cons x l ih =>
    rw [val, List.length_cons, Nat.pow_succ']
    omega
theorem val_append (a b : List UInt8) : val (a ++ b) = val a + 128 ^ a.length * val b := by
  induction a with
  | nil => simp [val]
  | cons x a ih =>
    rw [List.cons_append, val, val, ih, List.length_cons, Nat.pow_succ', Nat.mul_add, Nat.mul_assoc]
    omega

/-- How many of the first k bytes are followed by another one. -/
def cont : Nat → List UInt8 → Nat
  | 0, _ => 0
  | _ + 1, [] => 0
  | k + 1, x :: r => if 128 ≤ x.toNat then cont k r + 1 else 0

theorem cont_le (k : Nat) (l : List UInt8) : cont k l ≤ k ∧ cont k l ≤ l.length := by
  induction k generalizing l with
  | zero => simp [cont]
  | succ k ih =>
    cases l with
    | nil => simp [cont]
    | cons x l =>
      have := ih l
      simp only [cont, List.length_cons]
      split <;> omega

/-- It is k, if the first k are so, and there is no other one, or it is not. -/
theorem cont_eq (m k : Nat) (l : List UInt8) (hk : k ≤ m) (hl : k ≤ l.length) (h1 : ∀ j, (h : j < k) → 128 ≤ (l[j]'(by omega)).toNat) (h2 : k = m ∨ k = l.length ∨ ∃ h : k < l.length, l[k].toNat < 128) : cont m l = k := by
  induction k generalizing m l with
  | zero =>
    cases m with
    | zero => rfl
    | succ m =>
      cases l with
      | nil => rfl
      | cons x l =>
        rcases h2 with h2 | h2 | ⟨_, h2⟩
        · omega
        · simp at h2
        · simp only [cont]; rw [if_neg]; simp at h2; omega
  | succ k ih =>
    obtain ⟨m, rfl⟩ : ∃ m', m = m' + 1 := ⟨m - 1, by omega⟩
    cases l with
    | nil => simp at hl
    | cons x l =>
      have hx := h1 0 (by omega)
      simp at hx
      simp only [cont]
      rw [if_pos hx, ih m l (by omega) (by simpa using hl) (fun j hj => by have := h1 (j + 1) (by omega); simpa using this)]
      rcases h2 with h2 | h2 | ⟨h, h2⟩
      · exact .inl (by omega)
      · exact .inr (.inl (by simpa using h2))
      · exact .inr (.inr ⟨by simpa using h, by simpa using h2⟩)

/-- What a number of seven bits a byte is read as: the number, what stands behind, the error (0: none; 10: too short; 12: not the form). -/
def tv (l : List UInt8) : Nat × List UInt8 × Nat :=
  let s := cont 10 l
  if s = 10 then (0, [], 12)
  else if l.length ≤ s then (0, [], 10)
  else if 0 < s ∧ (l.getD s 0).toNat = 0 ∨ s = 9 ∧ 1 < (l.getD s 0).toNat then (0, [], 12)
  else (val (l.take (s + 1)), l.drop (s + 1), 0)

/-- One round of the sum. -/
def st (c : Nat) : Nat := (c / 2) ^^^ (c % 2 * 3988292384)
def st8 (c : Nat) : Nat := st (st (st (st (st (st (st (st c)))))))
def crcF (c : Nat) (l : List UInt8) : Nat := l.foldl (fun c x => st8 (c ^^^ x.toNat)) c
def crc (l : List UInt8) : Nat := 4294967295 ^^^ crcF 4294967295 l

def stN : Nat → Nat → Nat
  | 0, c => c
  | k + 1, c => stN k (st c)
theorem stN_eight (c : Nat) : stN 8 c = st8 c := rfl
theorem st_lt (c : Nat) (h : c < 4294967296) : st c < 4294967296 := by
  unfold st
  refine Nat.xor_lt_two_pow (n := 32) (by omega) ?_
  have : c % 2 < 2 := Nat.mod_lt _ (by decide)
  omega
theorem st8_lt (c : Nat) (h : c < 4294967296) : st8 c < 4294967296 := by
  unfold st8
  repeat (apply st_lt)
  exact h
theorem xor_lt (c x : Nat) (h : c < 4294967296) (hx : x < 256) : c ^^^ x < 4294967296 := Nat.xor_lt_two_pow (n := 32) h (by omega)
theorem crcF_lt (l : List UInt8) : ∀ c, c < 4294967296 → crcF c l < 4294967296 := by
  induction l with
  | nil => intro c h; exact h
  | cons x l ih =>
    intro c h
    exact ih _ (st8_lt _ (xor_lt _ _ h x.toNat_lt))
theorem crc_lt (l : List UInt8) : crc l < 4294967296 := Nat.xor_lt_two_pow (n := 32) (by decide) (crcF_lt l _ (by decide))
theorem crcF_snoc (c : Nat) (l : List UInt8) (x : UInt8) : crcF c (l ++ [x]) = st8 (crcF c l ^^^ x.toNat) := by simp [crcF]

/-- A frame, and what is read out of one: the bytes, what stands behind, the error. -/
def frame (l : List UInt8) : List UInt8 := vi l.length ++ be 4 (crc l) ++ l
def part (l : List UInt8) (n : Nat) : List UInt8 × List UInt8 × Nat := if l.length < n then ([], [], 10) else (l.take n, l.drop n, 0)
def tf (l : List UInt8) : List UInt8 × List UInt8 × Nat :=
  let r := tv l
  if r.2.2 ≠ 0 then ([], [], r.2.2)
  else if r.2.1.length < 4 then ([], [], 10)
  else if (r.2.1.drop 4).length < r.1 then ([], [], 10)
  else if crc ((r.2.1.drop 4).take r.1) ≠ num (r.2.1.take 4) then ([], [], 11)
  else ((r.2.1.drop 4).take r.1, (r.2.1.drop 4).drop r.1, 0)

end Go.Proofs.YtefhinopppdjbaaGreat.M
