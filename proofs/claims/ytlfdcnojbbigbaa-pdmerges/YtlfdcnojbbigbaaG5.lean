/- Plain mathematics: the order of texts, of ordered texts and of numbers in bytes. No program is named here. -/
import Derived.Test.YtlfdcnojbbigbaaG3
namespace Go.Proofs.Ytlfdcnojbbigbaa.M
set_option maxRecDepth 100000

/-- -1, 0, 1: byte by byte, the shorter one first. -/
def cmpL : List UInt8 → List UInt8 → Int
  | [], [] => 0
  | [], _ :: _ => -1
  | _ :: _, [] => 1
  | x :: r, y :: s => if x = y then cmpL r s else if x < y then -1 else 1

theorem cmpL_self (l : List UInt8) : cmpL l l = 0 := by
  induction l with
  | nil => rfl
  | cons x l ih => simp [cmpL, ih]
theorem cmpL_zero {a b : List UInt8} (h : cmpL a b = 0) : a = b := by
  induction a generalizing b with
  | nil => cases b with
    | nil => rfl
    | cons y s => simp [cmpL] at h
  | cons x r ih => cases b with
    | nil => simp [cmpL] at h
    | cons y s =>
      simp only [cmpL] at h
      by_cases hxy : x = y
      · rw [if_pos hxy] at h; rw [hxy, ih h]
      · rw [if_neg hxy] at h; split at h <;> omega
theorem cmpL_iff (a b : List UInt8) : cmpL a b = 0 ↔ a = b := ⟨cmpL_zero, fun h => h ▸ cmpL_self a⟩

/-- Of the same length ahead. -/
theorem cmpL_app (p q x y : List UInt8) (h : p.length = q.length) : cmpL (p ++ x) (q ++ y) = if p = q then cmpL x y else cmpL p q := by
  induction p generalizing q with
  | nil =>
    obtain rfl : q = [] := List.length_eq_zero_iff.1 (by simpa using h.symm)
    simp
  | cons a p ih =>
    cases q with
    | nil => simp at h
    | cons b q =>
      simp only [List.cons_append, cmpL]
      by_cases hab : a = b
      · rw [if_pos hab, if_pos hab, ih q (by simpa using h)]
        simp [hab]
      · have hn : ¬ (a :: p = b :: q) := by simp [hab]
        rw [if_neg hab, if_neg hn, if_neg hab]

theorem cmpL_take (n : Nat) (a b : List UInt8) : cmpL a b = if a.take n = b.take n then cmpL (a.drop n) (b.drop n) else cmpL (a.take n) (b.take n) := by
  induction n generalizing a b with
  | zero => simp
  | succ n ih =>
    cases a with
    | nil => cases b with
      | nil => simp
      | cons y s => simp [cmpL]
    | cons x r => cases b with
      | nil => simp [cmpL]
      | cons y s =>
        simp only [List.take_succ_cons, List.drop_succ_cons, cmpL]
        by_cases hxy : x = y
        · rw [if_pos hxy, ih r s]; simp [hxy]
        · have hn : ¬ (x :: r.take n = y :: s.take n) := by simp [hxy]
          rw [if_neg hxy, if_neg hn, if_neg hxy]

/-- Filled up with zeros to n. -/
def zn (n : Nat) (l : List UInt8) : List UInt8 := l ++ List.replicate (n - l.length) 0

theorem u8_pos (y : UInt8) (h : y ≠ 0) : (0 : UInt8) < y := by
  rw [UInt8.lt_iff_toNat_lt]
  have : y.toNat ≠ 0 := fun e => h (UInt8.toNat_inj.1 (by simpa using e))
  simpa using Nat.pos_of_ne_zero this

theorem zn_nil_lt (n : Nat) (m : List UInt8) (c d : UInt8) (hm : m.length ≤ n) (hcd : c < d) : cmpL (zn n [] ++ [c]) (zn n m ++ [d]) = -1 := by
  induction n generalizing m with
  | zero =>
    obtain rfl : m = [] := List.length_eq_zero_iff.1 (by omega)
    have : c ≠ d := fun e => by rw [e] at hcd; exact absurd hcd (UInt8.lt_irrefl _)
    simp [zn, cmpL, this, hcd]
  | succ n ih =>
    cases m with
    | nil =>
      have := ih [] (by simp)
      simpa [zn, List.replicate_succ, cmpL] using this
    | cons y s =>
      have e1 : zn (n + 1) [] = 0 :: zn n [] := by simp [zn, List.replicate_succ]
      have e2 : zn (n + 1) (y :: s) = y :: zn n s := by simp [zn]
      rw [e1, e2]
      simp only [List.cons_append, cmpL]
      by_cases hy : (0 : UInt8) = y
      · rw [if_pos hy]; exact ih s (by simpa using hm)
      · rw [if_neg hy, if_pos (u8_pos y (fun e => hy e.symm))]
theorem zn_nil_gt (n : Nat) (m : List UInt8) (c d : UInt8) (hm : m.length ≤ n) (hcd : c < d) : cmpL (zn n m ++ [d]) (zn n [] ++ [c]) = 1 := by
  induction n generalizing m with
  | zero =>
    obtain rfl : m = [] := List.length_eq_zero_iff.1 (by omega)
    have h1 : d ≠ c := fun e => by rw [e] at hcd; exact absurd hcd (UInt8.lt_irrefl _)
    have h2 : ¬ d < c := UInt8.lt_asymm hcd
    simp [zn, cmpL, h1, h2]
  | succ n ih =>
    cases m with
    | nil =>
      have := ih [] (by simp)
      simpa [zn, List.replicate_succ, cmpL] using this
    | cons y s =>
      have e1 : zn (n + 1) [] = 0 :: zn n [] := by simp [zn, List.replicate_succ]
      have e2 : zn (n + 1) (y :: s) = y :: zn n s := by simp [zn]
      rw [e1, e2]
      simp only [List.cons_append, cmpL]
      by_cases hy : y = 0
      · rw [if_pos hy]; exact ih s (by simpa using hm)
      · rw [if_neg hy, if_neg (UInt8.lt_asymm (u8_pos y hy))]

theorem u8_lt (a b : Nat) (h : a < b) (hb : b < 256) : UInt8.ofNat a < UInt8.ofNat b := by
  rw [UInt8.lt_iff_toNat_lt, UInt8.toNat_ofNat', UInt8.toNat_ofNat']; omega

/-- A group is in the order of what it holds. -/
theorem grp_cmp (n c : Nat) (l m : List UInt8) (hl : l.length ≤ n) (hm : m.length ≤ n) (hc : c + n < 256) :
    cmpL (zn n l ++ [UInt8.ofNat (c + l.length)]) (zn n m ++ [UInt8.ofNat (c + m.length)]) = cmpL l m := by
  induction l generalizing m n c with
  | nil =>
    cases m with
    | nil => rw [cmpL_self, cmpL_self]
    | cons y s => rw [zn_nil_lt n (y :: s) _ _ hm (u8_lt _ _ (by simp) (by omega))]; rfl
  | cons x r ih =>
    cases m with
    | nil => rw [zn_nil_gt n (x :: r) _ _ hl (u8_lt _ _ (by simp) (by omega))]; rfl
    | cons y s =>
      obtain ⟨n, rfl⟩ : ∃ k, n = k + 1 := ⟨n - 1, by simp at hl; omega⟩
      have e1 : zn (n + 1) (x :: r) = x :: zn n r := by simp [zn]
      have e2 : zn (n + 1) (y :: s) = y :: zn n s := by simp [zn]
      rw [e1, e2]
      simp only [List.cons_append, cmpL, List.length_cons]
      by_cases hxy : x = y
      · rw [if_pos hxy, if_pos hxy]
        have := ih n (c + 1) s (by simpa using hl) (by simpa using hm) (by omega)
        rw [show c + (r.length + 1) = c + 1 + r.length by omega, show c + (s.length + 1) = c + 1 + s.length by omega]
        exact this
      · rw [if_neg hxy, if_neg hxy]

/-- An ordered text, group by group. -/
theorem ob_grp (l : List UInt8) : ob l = (zn 8 (l.take 8) ++ [UInt8.ofNat (247 + (l.take 8).length)]) ++ (if 8 ≤ l.length then ob (l.drop 8) else []) := by
  by_cases h : 8 ≤ l.length
  · rw [if_pos h]
    obtain ⟨k', e, e1, e2⟩ := obF_long (l.length / 8) l h (by omega)
    rw [ob, e1]
    have hk : k' = (l.drop 8).length / 8 := by simp; omega
    have h8 : (l.take 8).length = 8 := by simp; omega
    rw [hk, show obF ((l.drop 8).length / 8) (l.drop 8) = ob (l.drop 8) from rfl]
    simp only [zn, h8, Nat.sub_self, List.replicate_zero, List.append_nil]
    rfl
  · rw [if_neg h, ob, obF_short _ l (by omega), List.take_of_length_le (by omega), List.append_nil]
    rfl

theorem grp_len (l : List UInt8) : (zn 8 (l.take 8) ++ [UInt8.ofNat (247 + (l.take 8).length)]).length = 9 := by simp [zn]; omega
theorem take8_le (l : List UInt8) : (l.take 8).length ≤ 8 := by simp; omega

theorem ob_cmp (a b : List UInt8) : cmpL (ob a) (ob b) = cmpL a b := by
  obtain ⟨n, hn⟩ : ∃ n, a.length ≤ n := ⟨_, Nat.le_refl _⟩
  induction n using Nat.strongRecOn generalizing a b with
  | ind n ih =>
    rw [ob_grp a, ob_grp b, cmpL_app _ _ _ _ (by rw [grp_len, grp_len]), grp_cmp 8 247 _ _ (take8_le a) (take8_le b) (by decide), cmpL_take 8 a b]
    by_cases h : a.take 8 = b.take 8
    · rw [if_pos (by rw [h]), if_pos h]
      have hlen := congrArg List.length h
      simp only [List.length_take] at hlen
      by_cases ha : 8 ≤ a.length
      · have hb : 8 ≤ b.length := by omega
        rw [if_pos ha, if_pos hb]
        exact ih (n - 8) (by omega) (a.drop 8) (b.drop 8) (by simp; omega)
      · have hb : ¬ 8 ≤ b.length := by omega
        rw [if_neg ha, if_neg hb, List.drop_eq_nil_of_le (by omega), List.drop_eq_nil_of_le (by omega)]
    · have hg : ¬ (zn 8 (a.take 8) ++ [UInt8.ofNat (247 + (a.take 8).length)]) = zn 8 (b.take 8) ++ [UInt8.ofNat (247 + (b.take 8).length)] := by
        intro e
        have := grp_cmp 8 247 _ _ (take8_le a) (take8_le b) (by decide)
        rw [e, cmpL_self] at this
        exact h (cmpL_zero this.symm)
      rw [if_neg hg, if_neg h]

/-- None is the beginning of another. -/
theorem ob_free (a b x : List UInt8) (h : ob b = ob a ++ x) : a = b := by
  obtain ⟨n, hn⟩ : ∃ n, a.length ≤ n := ⟨_, Nat.le_refl _⟩
  induction n using Nat.strongRecOn generalizing a b with
  | ind n ih =>
    rw [ob_grp a, ob_grp b] at h
    have hi := List.append_inj (h.trans (List.append_assoc _ _ _)) (by rw [grp_len, grp_len])
    have h8 : a.take 8 = b.take 8 := by
      have := grp_cmp 8 247 _ _ (take8_le a) (take8_le b) (by decide)
      rw [hi.1, cmpL_self] at this
      exact cmpL_zero this.symm
    have hlen := congrArg List.length h8
    simp only [List.length_take] at hlen
    by_cases ha : 8 ≤ a.length
    · have hb : 8 ≤ b.length := by omega
      have h2 := hi.2
      rw [if_pos ha, if_pos hb] at h2
      have := ih (n - 8) (by omega) (a.drop 8) (b.drop 8) h2 (by simp; omega)
      rw [← List.take_append_drop 8 a, ← List.take_append_drop 8 b, h8, this]
    · have hb : ¬ 8 ≤ b.length := by omega
      rwa [List.take_of_length_le (by omega), List.take_of_length_le (by omega)] at h8

/-- Where none is the beginning of the other, what stands behind turns nothing. -/
theorem cmpL_free (p q x y : List UInt8) (h1 : ∀ z, q ≠ p ++ z) (h2 : ∀ z, p ≠ q ++ z) : cmpL (p ++ x) (q ++ y) = cmpL p q := by
  induction p generalizing q with
  | nil => exact absurd rfl (h1 q)
  | cons a p ih =>
    cases q with
    | nil => exact absurd rfl (h2 (a :: p))
    | cons b q =>
      simp only [List.cons_append, cmpL]
      by_cases hab : a = b
      · rw [if_pos hab, if_pos hab]
        exact ih q (fun z e => h1 z (by rw [hab, e]; rfl)) (fun z e => h2 z (by rw [hab, e]; rfl))
      · rw [if_neg hab, if_neg hab]

def cmpN (s t : Nat) : Int := if s < t then -1 else if t < s then 1 else 0

theorem be_mod (k n : Nat) : be k n = be k (n % 2 ^ (8 * k)) := by
  suffices H : ∀ j, j ≤ k → be j n = be j (n % 2 ^ (8 * k)) from H k (Nat.le_refl _)
  intro j
  induction j with
  | zero => intro _; rfl
  | succ j ih =>
    intro hj
    rw [be, be, ih (by omega)]
    congr 1
    apply UInt8.toNat_inj.1
    rw [UInt8.toNat_ofNat', UInt8.toNat_ofNat']
    have e : 2 ^ (8 * k) = 2 ^ (8 * j) * (256 * 2 ^ (8 * (k - j - 1))) := by
      rw [show (256 : Nat) = 2 ^ 8 from rfl, ← Nat.pow_add, ← Nat.pow_add]
      congr 1; omega
    rw [e, Nat.mod_mul_right_div_self]
    rw [Nat.mod_mul_right_mod]

theorem be_cmp (k s t : Nat) (hs : s < 2 ^ (8 * k)) (ht : t < 2 ^ (8 * k)) : cmpL (be k s) (be k t) = cmpN s t := by
  induction k generalizing s t with
  | zero =>
    have h1 : s = 0 := by simpa using hs
    have h2 : t = 0 := by simpa using ht
    subst h1; subst h2; rfl
  | succ k ih =>
    have hP : 0 < 2 ^ (8 * k) := Nat.pow_pos (by decide)
    have e : 2 ^ (8 * (k + 1)) = 2 ^ (8 * k) * 256 := by rw [show 8 * (k + 1) = 8 * k + 8 by omega, Nat.pow_add]
    rw [e] at hs ht
    have hs1 : s / 2 ^ (8 * k) < 256 := Nat.div_lt_of_lt_mul hs
    have ht1 : t / 2 ^ (8 * k) < 256 := Nat.div_lt_of_lt_mul ht
    rw [be, be, cmpL, be_mod k s, be_mod k t, ih _ _ (Nat.mod_lt _ hP) (Nat.mod_lt _ hP)]
    have ds := Nat.div_add_mod s (2 ^ (8 * k))
    have dt := Nat.div_add_mod t (2 ^ (8 * k))
    have ms := Nat.mod_lt s hP
    have mt := Nat.mod_lt t hP
    generalize s / 2 ^ (8 * k) = a at *
    generalize t / 2 ^ (8 * k) = b at *
    generalize s % 2 ^ (8 * k) = c at *
    generalize t % 2 ^ (8 * k) = d at *
    generalize 2 ^ (8 * k) = P at *
    by_cases hab : a = b
    · subst hab
      rw [if_pos rfl]
      unfold cmpN
      by_cases h1 : c < d
      · have h3 : s < t := by omega
        rw [if_pos h1, if_pos h3]
      · have h3 : ¬ s < t := by omega
        rw [if_neg h1, if_neg h3]
        by_cases h2 : d < c
        · have h4 : t < s := by omega
          rw [if_pos h2, if_pos h4]
        · have h4 : ¬ t < s := by omega
          rw [if_neg h2, if_neg h4]
    · have hne : ¬ UInt8.ofNat a = UInt8.ofNat b := fun e => by
        have := congrArg UInt8.toNat e
        rw [UInt8.toNat_ofNat', UInt8.toNat_ofNat'] at this
        omega
      rw [if_neg hne]
      unfold cmpN
      by_cases hlt : a < b
      · have hm : P * a + P ≤ P * b := by rw [← Nat.mul_succ]; exact Nat.mul_le_mul_left _ hlt
        rw [if_pos (u8_lt a b hlt ht1), if_pos (by omega)]
      · have hlt' : b < a := by omega
        have hm : P * b + P ≤ P * a := by rw [← Nat.mul_succ]; exact Nat.mul_le_mul_left _ hlt'
        rw [if_neg (UInt8.lt_asymm (u8_lt b a hlt' hs1)), if_neg (by omega), if_pos (by omega)]
end Go.Proofs.Ytlfdcnojbbigbaa.M
