/- The mathematics of parcels: a piece's bytes, what bytes are read as, a box. Nothing of the program is named here. -/
import Derived.Test.YtlajncjamafomaaG25
namespace Go.Proofs.Ytlajncjamafomaa
set_option linter.unusedVariables false

/-- The bytes of a piece: the whole's sum and length, how many, its number, the part. -/
def pkW (s n m i : Nat) (p : List UInt8) : List UInt8 := M.frame (M.row [M.vi s, M.vi n, M.vi m, M.vi i, p])
/-- Is it a number and nothing beside? -/
def pkN (f : List UInt8) : Bool := decide ((M.tv f).2.2 = 0) && decide ((M.tv f).2.1.length = 0)
/-- A piece: sum, length, how many, number, part. -/
abbrev Pc := Nat × Nat × Nat × Nat × List UInt8
def pk0 : Pc := (0, 0, 0, 0, [])
/-- What a row's fields are read as. -/
def pkF (fs : List (List UInt8)) : Pc × Nat :=
  if fs.length ≠ 5 then (pk0, 12) else
  if (pkN (fs.getD 0 []) && pkN (fs.getD 1 []) && pkN (fs.getD 2 []) && pkN (fs.getD 3 [])) = true then
    (if (M.tv (fs.getD 2 [])).1 ≤ (M.tv (fs.getD 3 [])).1 then (pk0, 12) else (((M.tv (fs.getD 0 [])).1, (M.tv (fs.getD 1 [])).1, (M.tv (fs.getD 2 [])).1, (M.tv (fs.getD 3 [])).1, fs.getD 4 []), 0))
  else (pk0, 12)
/-- What bytes are read as: a piece and 0, or what is wrong. -/
def pkR (l : List UInt8) : Pc × Nat :=
  if (M.tf l).2.2 ≠ 0 then (pk0, (M.tf l).2.2) else
  if (M.tr (M.tf l).1).2 ≠ 0 then (pk0, (M.tr (M.tf l).1).2) else
  if 0 < (M.tf l).2.1.length then (pk0, 12) else pkF (M.tr (M.tf l).1).1

theorem pkN_vi (n : Nat) (h : n < 18446744073709551616) : pkN (M.vi n) = true ∧ (M.tv (M.vi n)).1 = n := by
  have := M.tv_vi n [] h
  rw [List.append_nil] at this
  unfold pkN
  rw [this]
  simp
theorem vi_le (n : Nat) : (M.vi n).length ≤ 10 := M.viF_length 9 n
theorem pkRow_len (s n m i : Nat) (p : List UInt8) : (M.row [M.vi s, M.vi n, M.vi m, M.vi i, p]).length ≤ 100 + p.length := by
  have h1 := vi_le s
  have h2 := vi_le n
  have h3 := vi_le m
  have h4 := vi_le i
  have a1 := vi_le (M.vi s).length
  have a2 := vi_le (M.vi n).length
  have a3 := vi_le (M.vi m).length
  have a4 := vi_le (M.vi i).length
  have a5 := vi_le p.length
  have a6 := vi_le [M.vi s, M.vi n, M.vi m, M.vi i, p].length
  simp only [M.row, M.rowB, List.length_append, List.length_nil]
  omega
/-- What was written is read again. -/
theorem pkR_W (s n m i : Nat) (p : List UInt8) (hs : s < 18446744073709551616) (hn : n < 18446744073709551616) (hm : m < 18446744073709551616) (hi : i < m) (hp : p.length < 1099511627776) : pkR (pkW s n m i p) = ((s, n, m, i, p), 0) := by
  have hl := pkRow_len s n m i p
  have e1 : M.tf (pkW s n m i p) = (M.row [M.vi s, M.vi n, M.vi m, M.vi i, p], [], 0) := by
    have := M.tf_back (M.row [M.vi s, M.vi n, M.vi m, M.vi i, p]) [] (by omega)
    rw [List.append_nil] at this
    exact this
  have e2 : M.tr (M.row [M.vi s, M.vi n, M.vi m, M.vi i, p]) = ([M.vi s, M.vi n, M.vi m, M.vi i, p], 0) := by
    refine M.tr_row _ (by simp) (fun f hf => ?_)
    have h1 := vi_le s
    have h2 := vi_le n
    have h3 := vi_le m
    have h4 := vi_le i
    simp only [List.mem_cons, List.not_mem_nil, or_false] at hf
    rcases hf with rfl | rfl | rfl | rfl | rfl <;> omega
  obtain ⟨a1, a2⟩ := pkN_vi s hs
  obtain ⟨b1, b2⟩ := pkN_vi n hn
  obtain ⟨c1, c2⟩ := pkN_vi m hm
  obtain ⟨d1, d2⟩ := pkN_vi i (by omega)
  unfold pkR
  rw [e1]
  simp only [e2]
  unfold pkF
  simp only [List.length_cons, List.length_nil, List.getD_cons_zero, List.getD_cons_succ, a1, b1, c1, d1, a2, b2, c2, d2]
  simp
  omega
/-- How many pieces. -/
def pkM (n size : Nat) : Nat := max 1 ((n + size - 1) / size)
/-- The part of a number. -/
def pkP (b : List UInt8) (size i : Nat) : List UInt8 := (b.take (min (i * size + size) b.length)).drop (i * size)
def pkI (b : List UInt8) (size i : Nat) : List UInt8 := pkW (M.crc b) b.length (pkM b.length size) i (pkP b size i)
/-- All pieces. -/
def pkA (b : List UInt8) (size : Nat) : List (List UInt8) := (List.range (pkM b.length size)).map (pkI b size)
theorem pkA_len (b : List UInt8) (size : Nat) : (pkA b size).length = pkM b.length size := by simp [pkA]
theorem pkA_get (b : List UInt8) (size i : Nat) (h : i < pkM b.length size) : (pkA b size)[i]'(by rw [pkA_len]; exact h) = pkI b size i := by simp [pkA]
theorem pkP_len (b : List UInt8) (size i : Nat) : (pkP b size i).length ≤ b.length := by simp [pkP]; omega
theorem pkM_at (n size i : Nat) (hs : 0 < size) (hi : i < pkM n size) : i * size ≤ n := by
  unfold pkM at hi
  by_cases h0 : i = 0
  · subst h0; simp
  · have h1 : i < (n + size - 1) / size := by omega
    have h2 : (i + 1) * size ≤ n + size - 1 := Nat.le_trans (Nat.mul_le_mul_right size h1) (Nat.div_mul_le_self _ _)
    rw [Nat.add_mul, Nat.one_mul] at h2
    omega
theorem pkM_le (n size : Nat) (hs : 0 < size) : pkM n size ≤ n + 1 := by
  unfold pkM
  have : (n + size - 1) / size ≤ n := by
    by_cases h : n = 0
    · subst h
      rw [Nat.div_eq_of_lt (by omega)]; omega
    · rw [Nat.div_le_iff_le_mul hs]
      have := Nat.mul_le_mul_left n hs
      obtain ⟨q, rfl⟩ : ∃ q, n = q + 1 := ⟨n - 1, by omega⟩
      rw [Nat.add_mul]
      have := Nat.mul_le_mul_left q hs
      omega
  omega
theorem pkP_step (b : List UInt8) (size i : Nat) : b.take (i * size) ++ pkP b size i = b.take ((i + 1) * size) := by
  have e : b.take (min (i * size + size) b.length) = b.take ((i + 1) * size) := by
    rw [Nat.add_mul, Nat.one_mul]
    by_cases h : i * size + size ≤ b.length
    · rw [Nat.min_eq_left h]
    · rw [Nat.min_eq_right (by omega), List.take_length, List.take_of_length_le (by omega)]
  unfold pkP
  rw [e]
  have e2 : b.take (i * size) = (b.take ((i + 1) * size)).take (i * size) := by
    rw [List.take_take, Nat.min_eq_left (Nat.mul_le_mul_right _ (Nat.le_succ i))]
  rw [e2, List.take_append_drop]
/-- The parts one behind the other are the bytes. -/
theorem pkP_join (b : List UInt8) (size : Nat) (k : Nat) : ((List.range k).map (pkP b size)).flatten = b.take (k * size) := by
  induction k with
  | zero => simp
  | succ k ih =>
    rw [List.range_succ, List.map_append, List.flatten_append, ih]
    simp [pkP_step]
theorem pkP_all (b : List UInt8) (size : Nat) (hs : 0 < size) : ((List.range (pkM b.length size)).map (pkP b size)).flatten = b := by
  rw [pkP_join, List.take_of_length_le]
  unfold pkM
  by_cases h : b.length = 0
  · omega
  · have h1 : b.length ≤ (b.length + size - 1) / size * size := by
      have := Nat.lt_div_mul_add (a := b.length + size - 1) hs
      omega
    exact Nat.le_trans h1 (Nat.mul_le_mul_right _ (by omega))

/-- The part of that number in a box. -/
def lkP : List (Nat × List UInt8) → Nat → Option (List UInt8)
  | [], _ => none
  | (k, p) :: r, i => if k = i then some p else lkP r i
/-- One part more, at its place. -/
def insP : List (Nat × List UInt8) → Nat → List UInt8 → List (Nat × List UInt8)
  | [], i, p => [(i, p)]
  | (k, q) :: r, i, p => if k < i then (k, q) :: insP r i p else (i, p) :: (k, q) :: r
/-- Parts rise by their numbers. -/
def RsP : List (Nat × List UInt8) → Prop := List.Pairwise (fun a b => a.1 < b.1)
theorem lkP_mem {ps : List (Nat × List UInt8)} {i : Nat} {p : List UInt8} (h : lkP ps i = some p) : (i, p) ∈ ps := by
  induction ps with
  | nil => cases h
  | cons a r ih =>
    obtain ⟨k, q⟩ := a
    unfold lkP at h
    split at h
    · rename_i e
      subst e
      obtain rfl := Option.some.inj h
      exact .head _
    · exact .tail _ (ih h)
theorem lkP_of_mem {ps : List (Nat × List UInt8)} (hr : RsP ps) {i : Nat} {p : List UInt8} (h : (i, p) ∈ ps) : lkP ps i = some p := by
  induction ps with
  | nil => cases h
  | cons a r ih =>
    obtain ⟨k, q⟩ := a
    unfold lkP
    obtain ⟨h1, h2⟩ := List.pairwise_cons.1 hr
    rcases List.mem_cons.1 h with e | e
    · obtain ⟨rfl, rfl⟩ := Prod.mk.inj e
      rw [if_pos rfl]
    · have := h1 _ e
      simp only [] at this
      rw [if_neg (by omega)]
      exact ih h2 e
theorem lkP_ins {ps : List (Nat × List UInt8)} {i : Nat} (p : List UInt8) (hn : lkP ps i = none) (j : Nat) : lkP (insP ps i p) j = if j = i then some p else lkP ps j := by
  induction ps with
  | nil =>
    simp only [insP, lkP]
    by_cases e : i = j
    · subst e; simp
    · rw [if_neg e, if_neg (fun q => e q.symm)]
  | cons a r ih =>
    obtain ⟨k, q⟩ := a
    unfold lkP at hn
    split at hn
    · cases hn
    · rename_i hk
      unfold insP
      split
      · simp only [lkP]
        rw [ih hn]
        by_cases e : k = j
        · subst e
          rw [if_pos rfl, if_neg hk, if_pos rfl]
        · rw [if_neg e, if_neg e]
      · simp only [lkP]
        by_cases e : i = j
        · subst e; simp
        · rw [if_neg e, if_neg (show ¬ j = i from fun q => e q.symm)]
theorem insP_len (ps : List (Nat × List UInt8)) (i : Nat) (p : List UInt8) : (insP ps i p).length = ps.length + 1 := by
  induction ps with
  | nil => rfl
  | cons a r ih =>
    obtain ⟨k, q⟩ := a
    unfold insP
    split <;> simp [ih]
theorem insP_mem (ps : List (Nat × List UInt8)) (i : Nat) (p : List UInt8) (x : Nat × List UInt8) : x ∈ insP ps i p ↔ x = (i, p) ∨ x ∈ ps := by
  induction ps with
  | nil => simp [insP]
  | cons a r ih =>
    obtain ⟨k, q⟩ := a
    unfold insP
    split
    · rw [List.mem_cons, ih, List.mem_cons]
      constructor
      · rintro (h | h | h)
        · exact .inr (.inl h)
        · exact .inl h
        · exact .inr (.inr h)
      · rintro (h | h | h)
        · exact .inr (.inl h)
        · exact .inl h
        · exact .inr (.inr h)
    · rw [List.mem_cons]
theorem insP_rises {ps : List (Nat × List UInt8)} (hr : RsP ps) {i : Nat} (p : List UInt8) (hn : lkP ps i = none) : RsP (insP ps i p) := by
  induction ps with
  | nil => exact List.pairwise_singleton ..
  | cons a r ih =>
    obtain ⟨k, q⟩ := a
    obtain ⟨h1, h2⟩ := List.pairwise_cons.1 hr
    unfold lkP at hn
    split at hn
    · cases hn
    · rename_i hk
      unfold insP
      split
      · rename_i hlt
        refine List.pairwise_cons.2 ⟨fun x hx => ?_, ih h2 hn⟩
        rcases (insP_mem r i p x).1 hx with rfl | hx
        · exact hlt
        · exact h1 x hx
      · rename_i hlt
        refine List.pairwise_cons.2 ⟨fun x hx => ?_, hr⟩
        rcases List.mem_cons.1 hx with rfl | hx
        · show i < k; omega
        · have := h1 x hx
          simp only [] at this ⊢
          omega
/-- Rising numbers below m, m of them: they are 0, 1, 2, .. -/
theorem rsP_full {ps : List (Nat × List UInt8)} {m : Nat} (hr : RsP ps) (hb : ∀ x ∈ ps, x.1 < m) (hl : ps.length = m) (j : Nat) (x : Nat × List UInt8) (h : ps[j]? = some x) : x.1 = j := by
  have lo : ∀ (qs : List (Nat × List UInt8)) (a : Nat), RsP qs → (∀ x ∈ qs, a ≤ x.1) → ∀ j x, qs[j]? = some x → a + j ≤ x.1 := by
    intro qs
    induction qs with
    | nil => intro a _ _ j x h; simp at h
    | cons y r ih =>
      intro a hq ha j x h
      obtain ⟨h1, h2⟩ := List.pairwise_cons.1 hq
      cases j with
      | zero =>
        simp only [List.getElem?_cons_zero, Option.some.injEq] at h
        subst h
        exact ha _ (.head _)
      | succ j =>
        rw [List.getElem?_cons_succ] at h
        have := ih (y.1 + 1) h2 (fun z hz => h1 z hz) j x h
        have := ha y (.head _)
        omega
  have hi : ∀ (qs : List (Nat × List UInt8)) (b : Nat), RsP qs → (∀ x ∈ qs, x.1 < b) → ∀ j x, qs[j]? = some x → x.1 + (qs.length - j) ≤ b := by
    intro qs
    induction qs with
    | nil => intro b _ _ j x h; simp at h
    | cons y r ih =>
      intro b hq hb j x h
      obtain ⟨h1, h2⟩ := List.pairwise_cons.1 hq
      cases j with
      | zero =>
        simp only [List.getElem?_cons_zero, Option.some.injEq] at h
        subst h
        by_cases e : r = []
        · subst e
          have := hb y (.head _)
          simp; omega
        · obtain ⟨z, hz⟩ : ∃ z, r[0]? = some z := by
            cases r with
            | nil => exact absurd rfl e
            | cons z r => exact ⟨z, rfl⟩
          have := ih b h2 (fun x hx => hb x (.tail _ hx)) 0 z hz
          have := h1 z (List.mem_of_getElem? hz)
          simp only [List.length_cons, Nat.sub_zero] at *
          omega
      | succ j =>
        rw [List.getElem?_cons_succ] at h
        have := ih b h2 (fun x hx => hb x (.tail _ hx)) j x h
        simp only [List.length_cons]
        omega
  have h1 := lo ps 0 hr (fun _ _ => Nat.zero_le _) j x h
  have h2 := hi ps m hr hb j x h
  have := (List.getElem?_eq_some_iff.1 h).1
  omega
end Go.Proofs.Ytlajncjamafomaa
