/- Plain mathematics of what is read back: numbers, ordered texts, frames and rows, both ways. No program is named here. -/
import Derived.Test.YtlajncjamafomaaG14
import Derived.Test.YtlajncjamafomaaG20
namespace Go.Proofs.Ytlajncjamafomaa.M
set_option maxRecDepth 100000

/-- The fields of a row, one behind the other. -/
def rowB : List (List UInt8) → List UInt8
  | [] => []
  | f :: r => vi f.length ++ f ++ rowB r
def row (ls : List (List UInt8)) : List UInt8 := vi ls.length ++ rowB ls

theorem rowB_app (a b : List (List UInt8)) : rowB (a ++ b) = rowB a ++ rowB b := by
  induction a with
  | nil => rfl
  | cons f r ih => simp [rowB, ih]
theorem rowB_snoc (ls : List (List UInt8)) (k : Nat) (h : k < ls.length) : rowB (ls.take (k + 1)) = rowB (ls.take k) ++ vi ls[k].length ++ ls[k] := by
  rw [List.take_succ_eq_append_getElem h, rowB_app]
  simp [rowB]
theorem rowB_le (ls : List (List UInt8)) (k : Nat) : (rowB (ls.take k)).length ≤ (rowB ls).length := by
  have : rowB ls = rowB (ls.take k) ++ rowB (ls.drop k) := by rw [← rowB_app, List.take_append_drop]
  rw [this]; simp
theorem rowB_field (ls : List (List UInt8)) (k : Nat) (h : k < ls.length) : (rowB (ls.take k)).length + (vi ls[k].length).length + ls[k].length ≤ (rowB ls).length := by
  have h1 := rowB_le ls (k + 1)
  rw [rowB_snoc ls k h] at h1
  simp only [List.length_append] at h1
  omega

/-- k fields read: the fields, what stands behind, the error. -/
def rf : Nat → List UInt8 → List (List UInt8) × List UInt8 × Nat
  | 0, l => ([], l, 0)
  | k + 1, l =>
    if (tv l).2.2 ≠ 0 then ([], [], (tv l).2.2)
    else if (tv l).2.1.length < (tv l).1 then ([], [], 10)
    else if (rf k ((tv l).2.1.drop (tv l).1)).2.2 ≠ 0 then ([], [], (rf k ((tv l).2.1.drop (tv l).1)).2.2)
    else ((tv l).2.1.take (tv l).1 :: (rf k ((tv l).2.1.drop (tv l).1)).1, (rf k ((tv l).2.1.drop (tv l).1)).2.1, 0)
/-- What a row is read as: its fields, the error. -/
def tr (l : List UInt8) : List (List UInt8) × Nat :=
  if (tv l).2.2 ≠ 0 then ([], (tv l).2.2)
  else if (tv l).2.1.length < (tv l).1 then ([], 12)
  else if (rf (tv l).1 (tv l).2.1).2.2 ≠ 0 then ([], (rf (tv l).1 (tv l).2.1).2.2)
  else if (rf (tv l).1 (tv l).2.1).2.1.length ≠ 0 then ([], 12)
  else ((rf (tv l).1 (tv l).2.1).1, 0)

/-- One field read. -/
def fd (l : List UInt8) : List UInt8 × List UInt8 × Nat := if (tv l).2.2 ≠ 0 then ([], [], (tv l).2.2) else part (tv l).2.1 (tv l).1
/-- k fields read, behind those that were read so far. -/
def rfA : Nat → List (List UInt8) → List UInt8 → List (List UInt8) × List UInt8 × Nat
  | 0, fs, l => (fs, l, 0)
  | k + 1, fs, l => if (fd l).2.2 ≠ 0 then ([], [], (fd l).2.2) else rfA k (fs ++ [(fd l).1]) (fd l).2.1
theorem rfA_rf (k : Nat) (fs : List (List UInt8)) (l : List UInt8) : rfA k fs l = if (rf k l).2.2 ≠ 0 then ([], [], (rf k l).2.2) else (fs ++ (rf k l).1, (rf k l).2.1, 0) := by
  induction k generalizing fs l with
  | zero => simp [rfA, rf]
  | succ k ih =>
    rw [rfA, rf]
    unfold fd part
    by_cases h1 : (tv l).2.2 ≠ 0
    · simp only [if_pos h1]
    · simp only [if_neg h1]
      by_cases h2 : (tv l).2.1.length < (tv l).1
      · simp [if_pos h2]
      · simp only [if_neg h2, ne_eq, not_true_eq_false, if_false]
        rw [ih]
        by_cases h3 : (rf k ((tv l).2.1.drop (tv l).1)).2.2 ≠ 0
        · simp only [if_pos h3]
        · simp only [if_neg h3, ne_eq, not_true_eq_false, if_false, List.append_assoc, List.singleton_append]
theorem rfA_nil (k : Nat) (l : List UInt8) : rfA k [] l = if (rf k l).2.2 ≠ 0 then ([], [], (rf k l).2.2) else ((rf k l).1, (rf k l).2.1, 0) := by simpa using rfA_rf k [] l
theorem tr_rfA (l : List UInt8) (h1 : (tv l).2.2 = 0) (h2 : (tv l).1 ≤ (tv l).2.1.length) : tr l = if (rfA (tv l).1 [] (tv l).2.1).2.2 ≠ 0 then ([], (rfA (tv l).1 [] (tv l).2.1).2.2) else if (rfA (tv l).1 [] (tv l).2.1).2.1.length ≠ 0 then ([], 12) else ((rfA (tv l).1 [] (tv l).2.1).1, 0) := by
  unfold tr
  rw [if_neg (by simp [h1]), if_neg (by omega), rfA_nil]
  by_cases h3 : (rf (tv l).1 (tv l).2.1).2.2 ≠ 0
  · simp only [if_pos h3]
  · simp only [if_neg h3, ne_eq, not_true_eq_false, if_false]
theorem fd_len (l : List UInt8) (ht : (tv l).2.1.length ≤ l.length) : (fd l).1.length ≤ l.length ∧ (fd l).2.1.length ≤ l.length := by
  unfold fd part
  split
  · simp
  · split
    · simp
    · simp only [List.length_take, List.length_drop]; omega

theorem viF_pos (k n : Nat) : 1 ≤ (viF k n).length := by
  cases k with
  | zero => simp [viF]
  | succ k => rw [viF]; split <;> simp
theorem vi_pos (n : Nat) : 1 ≤ (vi n).length := viF_pos 9 n

theorem rf_back (ls : List (List UInt8)) (r : List UInt8) (h : ∀ f ∈ ls, f.length < 18446744073709551616) : rf ls.length (rowB ls ++ r) = (ls, r, 0) := by
  induction ls with
  | nil => rfl
  | cons f ls ih =>
    have hf := h f (List.mem_cons_self ..)
    have e : tv (rowB (f :: ls) ++ r) = (f.length, f ++ (rowB ls ++ r), 0) := by
      rw [rowB, List.append_assoc, List.append_assoc]; exact tv_vi _ _ hf
    rw [List.length_cons, rf, e]
    simp only [ne_eq, not_true_eq_false, if_false]
    rw [if_neg (by simp), List.drop_left' rfl, List.take_left' rfl, ih (fun g hg => h g (List.mem_cons_of_mem _ hg))]
    simp
theorem rowB_pos (ls : List (List UInt8)) : ls.length ≤ (rowB ls).length := by
  induction ls with
  | nil => simp
  | cons f r ih => have := vi_pos f.length; simp only [rowB, List.length_append, List.length_cons]; omega
theorem tr_row (ls : List (List UInt8)) (hn : ls.length < 18446744073709551616) (h : ∀ f ∈ ls, f.length < 18446744073709551616) : tr (row ls) = (ls, 0) := by
  have e : tv (row ls) = (ls.length, rowB ls, 0) := tv_vi _ _ hn
  have e2 : rf ls.length (rowB ls) = (ls, [], 0) := by simpa using rf_back ls [] h
  have := rowB_pos ls
  unfold tr
  rw [e]
  simp only [ne_eq, not_true_eq_false, if_false]
  rw [if_neg (by omega), e2]
  simp

/-- The converse: what is read as a number is written as just that. -/
theorem viF_val (k s : Nat) (l : List UInt8) (hs : s ≤ k) (hk : k ≤ 9) (hl : l.length = s + 1) (h1 : ∀ j, (h : j < s) → 128 ≤ (l[j]'(by omega)).toNat) (h2 : (l[s]'(by omega)).toNat < 128) (h3 : 0 < s → (l[s]'(by omega)).toNat ≠ 0) :
    viF k (val l) = l := by
  induction k generalizing s l with
  | zero =>
    obtain rfl : s = 0 := by omega
    match l, hl with
    | [x], _ =>
      simp at h2
      have e : val [x] = x.toNat := by simp [val]; omega
      rw [e, viF, UInt8.ofNat_toNat]
  | succ k ih =>
    match l, hl with
    | x :: r, hl =>
      cases s with
      | zero =>
        have : r = [] := by simpa using hl
        subst this
        simp at h2
        have e : val [x] = x.toNat := by simp [val]; omega
        rw [e, viF, if_pos h2, UInt8.ofNat_toNat]
      | succ s =>
        have hx := h1 0 (by omega)
        simp only [List.getElem_cons_zero] at hx
        have hlt := x.toNat_lt
        have hr := ih s r (by omega) (by omega) (by simpa using hl) (fun j hj => by simpa using h1 (j + 1) (by omega)) (by simpa using h2) (fun _ => by simpa using h3 (by omega))
        have hv : 1 ≤ val r := by
          have hrl : r.length = s + 1 := by simpa using hl
          have hlast : r[s].toNat ≠ 0 := by simpa using h3 (by omega)
          have hlast2 : r[s].toNat < 128 := by simpa using h2
          have e : r = r.take s ++ [r[s]] := by
            have := List.take_succ_eq_append_getElem (l := r) (i := s) (by omega)
            rw [List.take_of_length_le (by omega)] at this
            exact this
          rw [e, val_append]
          have hp : 0 < 128 ^ (r.take s).length := Nat.pow_pos (by decide)
          have hq : 1 ≤ val [r[s]] := by simp [val]; omega
          have := Nat.mul_le_mul hp hq
          omega
        rw [val, viF, if_neg (by omega)]
        rw [show (x.toNat % 128 + 128 * val r) % 128 + 128 = x.toNat by omega, show (x.toNat % 128 + 128 * val r) / 128 = val r by omega, hr, UInt8.ofNat_toNat]

theorem cont_out (m : Nat) (l : List UInt8) : (∀ j, (h : j < cont m l) → (h' : j < l.length) → 128 ≤ l[j].toNat) ∧ (cont m l < m → (h : cont m l < l.length) → l[cont m l].toNat < 128) := by
  induction m generalizing l with
  | zero => exact ⟨fun j h => by simp [cont] at h, fun h => by omega⟩
  | succ m ih =>
    cases l with
    | nil => exact ⟨fun j h => by simp [cont] at h, fun _ h => by simp at h⟩
    | cons x l =>
      obtain ⟨i1, i2⟩ := ih l
      by_cases hx : 128 ≤ x.toNat
      · have e : cont (m + 1) (x :: l) = cont m l + 1 := by simp only [cont]; rw [if_pos hx]
        refine ⟨fun j h h' => ?_, fun h h' => ?_⟩
        · cases j with
          | zero => simpa using hx
          | succ j => simpa using i1 j (by omega) (by simpa using h')
        · have := i2 (by omega) (by rw [e] at h'; simpa using h')
          simp only [e, List.getElem_cons_succ]; exact this
      · have e : cont (m + 1) (x :: l) = 0 := by simp only [cont]; rw [if_neg hx]
        refine ⟨fun j h => by omega, fun h h' => ?_⟩
        simp only [e, List.getElem_cons_zero]; omega

theorem tv_form (l : List UInt8) (h : (tv l).2.2 = 0) : vi (tv l).1 ++ (tv l).2.1 = l := by
  obtain ⟨c1, c2⟩ := cont_out 10 l
  have hle := cont_le 10 l
  unfold tv at h ⊢
  simp only [] at h ⊢
  by_cases h1 : cont 10 l = 10
  · rw [if_pos h1] at h; cases h
  · rw [if_neg h1] at h ⊢
    by_cases h2 : l.length ≤ cont 10 l
    · rw [if_pos h2] at h; cases h
    · rw [if_neg h2] at h ⊢
      by_cases h3 : 0 < cont 10 l ∧ (l.getD (cont 10 l) 0).toNat = 0 ∨ cont 10 l = 9 ∧ 1 < (l.getD (cont 10 l) 0).toNat
      · rw [if_pos h3] at h; cases h
      · rw [if_neg h3]
        have hlt : cont 10 l < l.length := by omega
        have eg : l.getD (cont 10 l) 0 = l[cont 10 l] := by simp [hlt]
        rw [eg] at h3
        have := viF_val 9 (cont 10 l) (l.take (cont 10 l + 1)) (by omega) (Nat.le_refl _) (by simp; omega) (fun j hj => by rw [List.getElem_take]; exact c1 j hj (by omega)) (by rw [List.getElem_take]; exact c2 (by omega) hlt) (fun h0 => by rw [List.getElem_take]; intro q; exact h3 (.inl ⟨h0, q⟩))
        show viF 9 (val (l.take (cont 10 l + 1))) ++ l.drop (cont 10 l + 1) = l
        rw [this, List.take_append_drop]

theorem rf_form (k : Nat) (l : List UInt8) (h : (rf k l).2.2 = 0) : (rf k l).1.length = k ∧ rowB (rf k l).1 ++ (rf k l).2.1 = l := by
  induction k generalizing l with
  | zero => exact ⟨rfl, rfl⟩
  | succ k ih =>
    rw [rf] at h ⊢
    by_cases h1 : (tv l).2.2 ≠ 0
    · rw [if_pos h1] at h; exact absurd h h1
    · rw [if_neg h1] at h ⊢
      by_cases h2 : (tv l).2.1.length < (tv l).1
      · rw [if_pos h2] at h; cases h
      · rw [if_neg h2] at h ⊢
        by_cases h3 : (rf k ((tv l).2.1.drop (tv l).1)).2.2 ≠ 0
        · rw [if_pos h3] at h; exact absurd h h3
        · rw [if_neg h3]
          have h1' : (tv l).2.2 = 0 := by simpa using h1
          obtain ⟨q1, q2⟩ := ih _ (show _ = 0 by simpa using h3)
          have ht := tv_form l h1'
          refine ⟨by simp [q1], ?_⟩
          show vi ((tv l).2.1.take (tv l).1).length ++ (tv l).2.1.take (tv l).1 ++ rowB _ ++ _ = l
          rw [List.append_assoc, List.append_assoc, q2, List.take_append_drop, List.length_take, Nat.min_eq_left (by omega), ht]
theorem tr_form (l : List UInt8) (h : (tr l).2 = 0) : row (tr l).1 = l := by
  unfold tr at h ⊢
  by_cases h1 : (tv l).2.2 ≠ 0
  · rw [if_pos h1] at h; exact absurd h h1
  · rw [if_neg h1] at h ⊢
    by_cases h2 : (tv l).2.1.length < (tv l).1
    · rw [if_pos h2] at h; cases h
    · rw [if_neg h2] at h ⊢
      by_cases h3 : (rf (tv l).1 (tv l).2.1).2.2 ≠ 0
      · rw [if_pos h3] at h; exact absurd h h3
      · rw [if_neg h3] at h ⊢
        by_cases h4 : (rf (tv l).1 (tv l).2.1).2.1.length ≠ 0
        · rw [if_pos h4] at h; cases h
        · rw [if_neg h4]
          obtain ⟨q1, q2⟩ := rf_form _ _ (show (rf (tv l).1 (tv l).2.1).2.2 = 0 by simpa using h3)
          have e : (rf (tv l).1 (tv l).2.1).2.1 = [] := List.length_eq_zero_iff.1 (by simpa using h4)
          rw [e, List.append_nil] at q2
          have ht := tv_form l (by simpa using h1)
          show vi (rf (tv l).1 (tv l).2.1).1.length ++ rowB _ = l
          rw [q1, q2, ht]

theorem be_num4 (u : List UInt8) (k : Nat) (h : u.length = k) : be k (num u) = u := num_inj _ _ (by rw [be_length, h]) (by rw [num_be k _ (by have := num_lt u; rw [h] at this; exact this)])

theorem tf_form (l : List UInt8) (h : (tf l).2.2 = 0) : frame (tf l).1 ++ (tf l).2.1 = l := by
  unfold tf at h ⊢
  simp only [] at h ⊢
  by_cases h1 : (tv l).2.2 ≠ 0
  · rw [if_pos h1] at h; exact absurd h h1
  · rw [if_neg h1] at h ⊢
    by_cases h2 : (tv l).2.1.length < 4
    · rw [if_pos h2] at h; cases h
    · rw [if_neg h2] at h ⊢
      by_cases h3 : ((tv l).2.1.drop 4).length < (tv l).1
      · rw [if_pos h3] at h; cases h
      · rw [if_neg h3] at h ⊢
        by_cases h4 : crc (((tv l).2.1.drop 4).take (tv l).1) ≠ num ((tv l).2.1.take 4)
        · rw [if_pos h4] at h; cases h
        · rw [if_neg h4]
          have ht := tv_form l (by simpa using h1)
          have h4' : crc (((tv l).2.1.drop 4).take (tv l).1) = num ((tv l).2.1.take 4) := by simpa using h4
          show frame (((tv l).2.1.drop 4).take (tv l).1) ++ ((tv l).2.1.drop 4).drop (tv l).1 = l
          unfold frame
          rw [h4', be_num4 _ 4 (by simp; omega), List.append_assoc, List.append_assoc, List.take_append_drop, List.take_append_drop, List.length_take, Nat.min_eq_left (by omega), ht]

/-- A last group read. -/
theorem tg_pad (l r : List UInt8) (h : l.length < 8) : tg (pad l ++ r) = (l, 0) := by
  have hp := pad_length l h
  have e8 : (pad l ++ r).getD 8 0 = UInt8.ofNat (247 + l.length) := by
    rw [List.getD_eq_getElem?_getD, List.getElem?_append_left (by omega)]
    have : (pad l)[8]? = some (UInt8.ofNat (247 + l.length)) := by
      unfold pad
      rw [List.getElem?_append_right (by simp; omega)]
      have : (l ++ List.replicate (8 - l.length) (0 : UInt8)).length = 8 := by simp; omega
      rw [this]; rfl
    rw [this]; rfl
  have en : (UInt8.ofNat (247 + l.length)).toNat = 247 + l.length := by rw [UInt8.toNat_ofNat']; omega
  have t8 : (pad l ++ r).take 8 = l ++ List.replicate (8 - l.length) 0 := by
    unfold pad
    rw [List.append_assoc]
    exact List.take_left' (by simp; omega)
  unfold tg
  rw [if_neg (by simp [hp]), e8, en, if_neg (by omega), t8, show 247 + l.length - 247 = l.length by omega, List.drop_left' rfl, if_pos (by simp)]
  congr 1
  unfold pad
  rw [List.append_assoc, List.append_assoc]
  exact List.take_left' rfl
theorem tg_full (a r : List UInt8) (h : a.length = 8) : tg (a ++ [255] ++ r) = (a, 0) := by
  have e8 : (a ++ [255] ++ r).getD 8 0 = 255 := by
    rw [List.getD_eq_getElem?_getD, List.append_assoc, List.getElem?_append_right (by omega), h]; rfl
  have t8 : (a ++ [255] ++ r).take 8 = a := by rw [List.append_assoc]; exact List.take_left' h
  unfold tg
  rw [if_neg (by simp only [List.length_append, h, List.length_singleton]; omega), e8, if_neg (by decide), t8]
  rw [show (255 : UInt8).toNat - 247 = 8 by decide, if_pos (by rw [List.drop_of_length_le (by omega)]; rfl), t8]

theorem tbA_back (k n : Nat) (acc l r : List UInt8) (hn : l.length < 8 * (k + 1)) (hk : k < n) : tbA n acc (obF k l ++ r) = (acc ++ l, r, 0) := by
  induction k generalizing n acc l with
  | zero =>
    obtain ⟨n, rfl⟩ : ∃ m, n = m + 1 := ⟨n - 1, by omega⟩
    rw [tbA, obF, tg_pad l r (by omega)]
    simp only [ne_eq, not_true_eq_false, if_false]
    rw [if_pos (by omega), List.drop_left' (pad_length l (by omega))]
  | succ k ih =>
    obtain ⟨n, rfl⟩ : ∃ m, n = m + 1 := ⟨n - 1, by omega⟩
    rw [tbA, obF]
    by_cases h : l.length < 8
    · rw [if_pos h, tg_pad l r h]
      simp only [ne_eq, not_true_eq_false, if_false]
      rw [if_pos h, List.drop_left' (pad_length l h)]
    · rw [if_neg h, List.append_assoc, tg_full _ _ (by simp; omega)]
      simp only [ne_eq, not_true_eq_false, if_false]
      rw [if_neg (by simp; omega), List.drop_left' (by simp; omega), ih n _ _ (by simp; omega) (by omega), List.append_assoc, List.take_append_drop]
theorem tb_back (b r : List UInt8) : tb (ob b ++ r) = (b, r, 0) := by
  unfold tb ob
  have h := obF_length (b.length / 8) b (by omega)
  rw [tbA_back (b.length / 8) _ [] b r (by omega) (by rw [List.length_append, h]; omega)]
  simp
theorem tk_back (b : List UInt8) (n : Nat) (hn : n < 18446744073709551616) : tk (key b n) = (b, n, 0) := by
  unfold tk key
  simp only []
  have h8 := be_length 8 (18446744073709551615 - n)
  rw [tb_back]
  simp only [ne_eq, not_true_eq_false, if_false]
  have h256 : 18446744073709551615 - n < 256 ^ 8 := by
    have : (256 : Nat) ^ 8 = 18446744073709551616 := by decide
    omega
  rw [if_neg (by omega), h8, if_neg (by simp), List.take_of_length_le (by omega), num_be 8 _ h256, show 18446744073709551615 - (18446744073709551615 - n) = n by omega]

/-- The converse for ordered texts. -/
theorem tg_form (l : List UInt8) (h : (tg l).2 = 0) : ((tg l).1.length < 8 → pad (tg l).1 = l.take 9) ∧ ((tg l).1.length = 8 → (tg l).1 ++ [255] = l.take 9) := by
  obtain ⟨h1, h2, h3, h4⟩ := tg_ok l h
  have hb := (l.getD 8 0).toNat_lt
  have hl := tg_len l h
  have e9 : l.take 9 = l.take 8 ++ [l.getD 8 0] := by
    rw [List.take_succ_eq_append_getElem (show 8 < l.length by omega)]
    simp [show 8 < l.length by omega]
  generalize hm : (l.getD 8 0).toNat - 247 = m at *
  have em : l.getD 8 0 = UInt8.ofNat (247 + m) := by
    rw [← UInt8.ofNat_toNat (x := l.getD 8 0)]; congr 1; omega
  refine ⟨fun q => ?_, fun q => ?_⟩
  · rw [e9, em]
    unfold pad
    rw [hl.1]
    congr 1
    have ez : (l.take 8).drop m = List.replicate (8 - m) 0 := by
      refine List.eq_replicate_iff.2 ⟨by simp; omega, fun x hx => ?_⟩
      have := List.all_eq_true.1 h4 x hx
      simpa using this
    rw [h3, ← ez]
    have : l.take m = (l.take 8).take m := by rw [List.take_take, Nat.min_eq_left (by omega)]
    rw [this, List.take_append_drop]
  · rw [e9, em, h3, show m = 8 by omega]
    rfl
theorem tbA_form (n : Nat) (acc l : List UInt8) (h : (tbA n acc l).2.2 = 0) : ∃ x, (tbA n acc l).1 = acc ++ x ∧ ob x ++ (tbA n acc l).2.1 = l := by
  induction n generalizing acc l with
  | zero => cases h
  | succ n ih =>
    rw [tbA] at h ⊢
    by_cases h1 : (tg l).2 ≠ 0
    · rw [if_pos h1] at h; exact absurd h h1
    · rw [if_neg h1] at h ⊢
      obtain ⟨f1, f2⟩ := tg_form l (by simpa using h1)
      have hl := tg_len l (by simpa using h1)
      by_cases h2 : (tg l).1.length < 8
      · rw [if_pos h2]
        refine ⟨_, rfl, ?_⟩
        show ob (tg l).1 ++ l.drop 9 = l
        unfold ob
        rw [obF_short _ _ h2, f1 h2, List.take_append_drop]
      · rw [if_neg h2] at h ⊢
        obtain ⟨x, q1, q2⟩ := ih _ _ h
        refine ⟨(tg l).1 ++ x, by rw [q1, List.append_assoc], ?_⟩
        have e8 : (tg l).1.length = 8 := by omega
        have eo : ob ((tg l).1 ++ x) = (tg l).1 ++ [255] ++ ob x := by
          unfold ob
          rw [List.length_append, e8, show (8 + x.length) / 8 = x.length / 8 + 1 by omega, obF, if_neg (by simp; omega), List.take_left' e8, List.drop_left' e8]
        rw [eo, f2 e8, List.append_assoc, q2, List.take_append_drop]
theorem tb_form (l : List UInt8) (h : (tb l).2.2 = 0) : ob (tb l).1 ++ (tb l).2.1 = l := by
  obtain ⟨x, q1, q2⟩ := tbA_form _ _ _ h
  unfold tb
  rw [q1]
  simpa using q2
end Go.Proofs.Ytlajncjamafomaa.M
