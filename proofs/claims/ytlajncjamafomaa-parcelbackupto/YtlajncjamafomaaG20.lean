/- Plain mathematics of ordered texts: groups of eight with a byte behind each. No program is named here. -/
import Derived.Test.YtlajncjamafomaaG1
namespace Go.Proofs.Ytlajncjamafomaa.M
set_option maxRecDepth 100000

/-- The last group. -/
def pad (l : List UInt8) : List UInt8 := l ++ List.replicate (8 - l.length) 0 ++ [UInt8.ofNat (247 + l.length)]
def obF : Nat → List UInt8 → List UInt8
  | 0, l => pad l
  | k + 1, l => if l.length < 8 then pad l else l.take 8 ++ [255] ++ obF k (l.drop 8)
/-- A text in a form whose order is that of the texts. -/
def ob (l : List UInt8) : List UInt8 := obF (l.length / 8) l
def key (l : List UInt8) (n : Nat) : List UInt8 := ob l ++ be 8 (18446744073709551615 - n)

theorem pad_length (l : List UInt8) (h : l.length < 8) : (pad l).length = 9 := by simp [pad]; omega
theorem obF_length (k : Nat) (l : List UInt8) (h : l.length < 8 * (k + 1)) : (obF k l).length = 9 * (l.length / 8 + 1) := by
  induction k generalizing l with
  | zero => rw [obF, pad_length l (by omega)]; omega
  | succ k ih =>
    rw [obF]
    split
    · rename_i h1; rw [pad_length l h1]; omega
    · rename_i h1
      have := ih (l.drop 8) (by simp; omega)
      simp only [List.length_append, List.length_take, List.length_singleton, this, List.length_drop]
      omega
theorem ob_length (l : List UInt8) : (ob l).length = 9 * (l.length / 8 + 1) := obF_length _ l (by omega)
theorem obF_short (k : Nat) (l : List UInt8) (h : l.length < 8) : obF k l = pad l := by
  cases k with
  | zero => rfl
  | succ k => rw [obF, if_pos h]
theorem obF_long (k : Nat) (l : List UInt8) (h : 8 ≤ l.length) (hk : l.length < 8 * (k + 1)) : ∃ k', k = k' + 1 ∧ obF k l = l.take 8 ++ [255] ++ obF k' (l.drop 8) ∧ (l.drop 8).length < 8 * (k' + 1) := by
  cases k with
  | zero => omega
  | succ k => exact ⟨k, rfl, by rw [obF, if_neg (by omega)], by simp; omega⟩
theorem key_length (l : List UInt8) (n : Nat) : (key l n).length = 9 * (l.length / 8 + 1) + 8 := by simp [key, ob_length, be_length]

/-- One group read: what of it was not filled up, and the error. -/
def tg (l : List UInt8) : List UInt8 × Nat :=
  if l.length < 9 then ([], 10) else if (l.getD 8 0).toNat < 247 then ([], 12)
  else if ((l.take 8).drop ((l.getD 8 0).toNat - 247)).all (fun x => x == 0) then (l.take ((l.getD 8 0).toNat - 247), 0) else ([], 12)
/-- Group by group, behind what was read so far. -/
def tbA : Nat → List UInt8 → List UInt8 → List UInt8 × List UInt8 × Nat
  | 0, _, _ => ([], [], 10)
  | k + 1, acc, l => if (tg l).2 ≠ 0 then ([], [], (tg l).2) else if (tg l).1.length < 8 then (acc ++ (tg l).1, l.drop 9, 0) else tbA k (acc ++ (tg l).1) (l.drop 9)
def tb (l : List UInt8) : List UInt8 × List UInt8 × Nat := tbA (l.length + 1) [] l

theorem tg_ok (l : List UInt8) (h : (tg l).2 = 0) : 9 ≤ l.length ∧ 247 ≤ (l.getD 8 0).toNat ∧ (tg l).1 = l.take ((l.getD 8 0).toNat - 247) ∧ ((l.take 8).drop ((l.getD 8 0).toNat - 247)).all (fun x => x == 0) = true := by
  unfold tg at h ⊢
  by_cases h1 : l.length < 9
  · rw [if_pos h1] at h; cases h
  · rw [if_neg h1] at h ⊢
    by_cases h2 : (l.getD 8 0).toNat < 247
    · rw [if_pos h2] at h; cases h
    · rw [if_neg h2] at h ⊢
      by_cases h3 : ((l.take 8).drop ((l.getD 8 0).toNat - 247)).all (fun x => x == 0) = true
      · rw [if_pos h3]; exact ⟨Nat.not_lt.1 h1, Nat.not_lt.1 h2, rfl, h3⟩
      · rw [if_neg h3] at h; cases h
theorem tg_len (l : List UInt8) (h : (tg l).2 = 0) : (tg l).1.length = (l.getD 8 0).toNat - 247 ∧ (tg l).1.length ≤ 8 := by
  obtain ⟨h1, h2, h3, _⟩ := tg_ok l h
  have := (l.getD 8 0).toNat_lt
  rw [h3, List.length_take]
  omega
theorem tbA_len (k : Nat) (acc l : List UInt8) : (tbA k acc l).1.length ≤ acc.length + l.length ∧ (tbA k acc l).2.1.length ≤ l.length := by
  induction k generalizing acc l with
  | zero => simp [tbA]
  | succ k ih =>
    rw [tbA]
    by_cases h1 : (tg l).2 ≠ 0
    · rw [if_pos h1]; simp
    · rw [if_neg h1]
      have hz : (tg l).2 = 0 := by simpa using h1
      have hl := tg_len l hz
      have h9 := (tg_ok l hz).1
      by_cases h2 : (tg l).1.length < 8
      · rw [if_pos h2]; simp; omega
      · rw [if_neg h2]
        have := ih (acc ++ (tg l).1) (l.drop 9)
        simp only [List.length_append, List.length_drop] at this
        omega
/-- What a key is read as: the key, the time, the error. -/
def tk (l : List UInt8) : List UInt8 × Nat × Nat :=
  let r := tb l
  if r.2.2 ≠ 0 then ([], 0, r.2.2) else if r.2.1.length < 8 then ([], 0, 10) else if r.2.1.length ≠ 8 then ([], 0, 12) else (r.1, 18446744073709551615 - num (r.2.1.take 8), 0)
end Go.Proofs.Ytlajncjamafomaa.M
