/- Plain mathematics of a heap in a list, apart from what lies in it (as HpMath has it for the table's runs). -/
namespace Go.Proofs.YtefhinopppdjbaaGreat.M
set_option maxRecDepth 100000
set_option linter.unusedVariables false

section
variable {α : Type} {lt : α → α → Bool}

/-- Two places swapped. -/
def sw (H : List α) (i j : Nat) : List α := match H[i]?, H[j]? with
  | some x, some y => (H.set i y).set j x
  | _, _ => H
theorem sw_eq {H : List α} {i j : Nat} {x y : α} (hi : H[i]? = some x) (hj : H[j]? = some y) : sw H i j = (H.set i y).set j x := by unfold sw; rw [hi, hj]
theorem sw_len (H : List α) (i j : Nat) : (sw H i j).length = H.length := by unfold sw; split <;> simp
theorem sw_at {H : List α} {i j : Nat} (hi : i < H.length) (hj : j < H.length) (k : Nat) : (sw H i j)[k]? = if k = j then H[i]? else if k = i then H[j]? else H[k]? := by
  have ei : H[i]? = some H[i] := List.getElem?_eq_getElem hi
  have ej : H[j]? = some H[j] := List.getElem?_eq_getElem hj
  rw [sw_eq ei ej, List.getElem?_set, List.getElem?_set, ei, ej]
  simp only [List.length_set]
  by_cases h1 : k = j
  · subst h1; simp [hj]
  · rw [if_neg (fun e => h1 e.symm), if_neg h1]
    by_cases h2 : k = i
    · subst h2; simp [hi]
    · rw [if_neg (fun e => h2 e.symm), if_neg h2]

/-- The first n places hold the same, in another order; the others are as they were. -/
def Mv (n : Nat) (H H' : List α) : Prop := H'.length = H.length ∧ (H'.take n).Perm (H.take n) ∧ ∀ k, n ≤ k → H'[k]? = H[k]?
theorem Mv.refl (n : Nat) (H : List α) : Mv n H H := ⟨rfl, List.Perm.refl _, fun _ _ => rfl⟩
theorem Mv.trans {n : Nat} {A B C : List α} (h1 : Mv n A B) (h2 : Mv n B C) : Mv n A C := ⟨h2.1.trans h1.1, h2.2.1.trans h1.2.1, fun k hk => (h2.2.2 k hk).trans (h1.2.2 k hk)⟩
theorem sw_perm {H : List α} {i j : Nat} (hi : i < H.length) (hj : j < H.length) : (sw H i j).Perm H := by
  have e : sw H i j = (H.toArray.swap i j (by simpa using hi) (by simpa using hj)).toList := by
    rw [sw_eq (List.getElem?_eq_getElem hi) (List.getElem?_eq_getElem hj), Array.toList_swap]
    simp
  rw [e]
  have := Array.swap_perm (xs := H.toArray) (i := i) (j := j) (by simpa using hi) (by simpa using hj)
  simpa using Array.perm_iff_toList_perm.1 this
theorem mem_take_iff {H : List α} {n : Nat} {x : α} : x ∈ H.take n ↔ ∃ k, k < n ∧ H[k]? = some x := by
  rw [List.mem_iff_getElem?]
  constructor
  · rintro ⟨k, hk⟩
    rw [List.getElem?_take] at hk
    split at hk
    · exact ⟨k, by assumption, hk⟩
    · cases hk
  · rintro ⟨k, hk, e⟩
    exact ⟨k, by rw [List.getElem?_take, if_pos hk]; exact e⟩
theorem sw_take {H : List α} {n i j : Nat} (hi : i < n) (hj : j < n) (hn : n ≤ H.length) : (sw H i j).take n = sw (H.take n) i j := by
  apply List.ext_getElem?
  intro k
  have hl : (H.take n).length = n := by simp; omega
  rw [sw_at (by omega) (by omega), List.getElem?_take, List.getElem?_take, List.getElem?_take, List.getElem?_take, if_pos hi, if_pos hj, sw_at (by omega) (by omega)]
  by_cases hk : k < n
  · rw [if_pos hk, if_pos hk]
  · rw [if_neg hk, if_neg hk, if_neg (by omega), if_neg (by omega)]
theorem sw_mv {H : List α} {n i j : Nat} (hi : i < n) (hj : j < n) (hn : n ≤ H.length) : Mv n H (sw H i j) := by
  refine ⟨sw_len _ _ _, ?_, fun k hk => ?_⟩
  · rw [sw_take hi hj hn]
    exact sw_perm (by simp; omega) (by simp; omega)
  · rw [sw_at (by omega) (by omega), if_neg (by omega), if_neg (by omega)]
/-- The first and the last swapped: the first n hold what was behind the first. -/
theorem sw_top {H : List α} {n : Nat} (hn : H.length = n + 1) : ((sw H 0 n).take n).Perm H.tail := by
  cases n with
  | zero =>
    obtain ⟨x, rfl⟩ := List.length_eq_one_iff.1 hn
    simp
  | succ n =>
    cases H with
    | nil => simp at hn
    | cons x T =>
      simp only [List.length_cons, Nat.add_right_cancel_iff] at hn
      have hl : n < T.length := by omega
      have e : (sw (x :: T) 0 (n + 1)).take (n + 1) = T[n] :: T.take n := by
        apply List.ext_getElem?
        intro k
        rw [List.getElem?_take]
        cases k with
        | zero => rw [if_pos (by omega), sw_at (by simp) (by simp; omega), if_neg (by omega), if_pos rfl]; simp
        | succ k =>
          rw [List.getElem?_cons_succ, List.getElem?_take]
          by_cases hk : k < n
          · rw [if_pos (by omega), if_pos hk, sw_at (by simp) (by simp; omega), if_neg (by omega), if_neg (by omega)]; simp
          · rw [if_neg (by omega), if_neg hk]
      rw [e]
      have e2 : T = T.take n ++ [T[n]] := by
        rw [List.take_append_getElem hl, List.take_of_length_le (by omega)]
      show List.Perm _ T
      refine List.Perm.trans ?_ (List.Perm.of_eq e2.symm)
      exact List.perm_append_comm (l₁ := [T[n]]) (l₂ := T.take n)

variable (lt)
/-- Of the first n none stands ahead of its parent. -/
def Hp (H : List α) (n : Nat) : Prop := ∀ i x y, 0 < i → i < n → H[i]? = some x → H[(i - 1) / 2]? = some y → lt x y = false
/-- .. but perhaps the one at j. -/
def HpU (H : List α) (n j : Nat) : Prop := (∀ i x y, 0 < i → i < n → i ≠ j → H[i]? = some x → H[(i - 1) / 2]? = some y → lt x y = false) ∧ ∀ i x y, 0 < i → i < n → 0 < j → (i - 1) / 2 = j → H[i]? = some x → H[(j - 1) / 2]? = some y → lt x y = false
/-- .. but perhaps those whose parent is j. -/
def HpD (H : List α) (n j : Nat) : Prop := (∀ i x y, 0 < i → i < n → (i - 1) / 2 ≠ j → H[i]? = some x → H[(i - 1) / 2]? = some y → lt x y = false) ∧ ∀ i x y, 0 < i → i < n → 0 < j → (i - 1) / 2 = j → H[i]? = some x → H[(j - 1) / 2]? = some y → lt x y = false
variable {lt}

theorem Hp.u0 {H : List α} {n : Nat} (h : Hp lt H n) : HpU lt H n 0 := ⟨fun i x y h1 h2 _ => h i x y h1 h2, fun i x y h1 h2 h3 => absurd h3 (by omega)⟩
theorem HpU.top {H : List α} {n : Nat} (h : HpU lt H n 0) : Hp lt H n := fun i x y h1 h2 => h.1 i x y h1 h2 (by omega)
theorem HpU.ok {H : List α} {n j : Nat} {x y : α} (h : HpU lt H n j) (hx : H[j]? = some x) (hy : H[(j - 1) / 2]? = some y) (hl : lt x y = false) : Hp lt H n := fun i a b h1 h2 ha hb => by
  by_cases e : i = j
  · subst e
    rw [hx] at ha; rw [hy] at hb
    obtain rfl := Option.some.inj ha
    obtain rfl := Option.some.inj hb
    exact hl
  · exact h.1 i a b h1 h2 e ha hb
theorem HpU.up {H : List α} {n j : Nat} {x y : α} (tr : ∀ a b c : α, lt b a = false → lt c b = false → lt c a = false) (asy : ∀ a b : α, lt a b = true → lt b a = false) (hn : n = H.length) (hj : 0 < j) (hjn : j < n) (h : HpU lt H n j) (hx : H[j]? = some x) (hy : H[(j - 1) / 2]? = some y) (hl : lt x y = true) : HpU lt (sw H ((j - 1) / 2) j) n ((j - 1) / 2) := by
  subst hn
  obtain ⟨h1, h2⟩ := h
  have hyx := asy _ _ hl
  have at_ := fun k => sw_at (H := H) (i := (j - 1) / 2) (j := j) (by omega) hjn k
  constructor
  · intro k a b k0 kn ki ha hb
    rw [at_] at ha hb
    rw [if_neg ki] at ha
    by_cases e1 : k = j
    · subst e1
      rw [if_pos rfl, hy] at ha
      rw [if_neg (by omega), if_pos rfl, hx] at hb
      obtain rfl := Option.some.inj ha
      obtain rfl := Option.some.inj hb
      exact hyx
    · rw [if_neg e1] at ha
      by_cases e2 : (k - 1) / 2 = j
      · rw [if_pos e2] at hb
        exact h2 k a b k0 kn hj e2 ha hb
      · rw [if_neg e2] at hb
        by_cases e3 : (k - 1) / 2 = (j - 1) / 2
        · rw [if_pos e3, hx] at hb
          obtain rfl := Option.some.inj hb
          have := h1 k a y k0 kn e1 ha (by rw [e3]; exact hy)
          exact tr _ _ _ hyx this
        · rw [if_neg e3] at hb
          exact h1 k a b k0 kn e1 ha hb
  · intro k a b k0 kn i0 ek ha hb
    rw [at_] at ha hb
    rw [if_neg (by omega), if_neg (by omega)] at hb
    have hyb : lt y b = false := h1 ((j - 1) / 2) y b i0 (by omega) (by omega) hy hb
    by_cases e1 : k = j
    · subst e1
      rw [if_pos rfl, hy] at ha
      obtain rfl := Option.some.inj ha
      exact hyb
    · rw [if_neg e1, if_neg (by omega)] at ha
      have := h1 k a y k0 kn e1 ha (by rw [ek]; exact hy)
      exact tr _ _ _ hyb this

theorem Hp.d0 {H : List α} {n : Nat} (h : ∀ i x y, 0 < i → i < n → (i - 1) / 2 ≠ 0 → H[i]? = some x → H[(i - 1) / 2]? = some y → lt x y = false) : HpD lt H n 0 := ⟨h, fun i x y h1 h2 h3 => absurd h3 (by omega)⟩
theorem HpD.none {H : List α} {n j : Nat} (h : HpD lt H n j) (hn : n ≤ 2 * j + 1) : Hp lt H n := fun i x y h1 h2 => h.1 i x y h1 h2 (by omega)
/-- The least of the children is not ahead of j. -/
theorem HpD.ok {H : List α} {n j c : Nat} {x z : α} (tr : ∀ a b c : α, lt b a = false → lt c b = false → lt c a = false) (h : HpD lt H n j) (hx : H[j]? = some x) (hz : H[c]? = some z) (hc : ∀ k a, 0 < k → k < n → (k - 1) / 2 = j → H[k]? = some a → lt a z = false) (hl : lt z x = false) : Hp lt H n := fun i a b h1 h2 ha hb => by
  by_cases e : (i - 1) / 2 = j
  · rw [e, hx] at hb
    obtain rfl := Option.some.inj hb
    exact tr _ _ _ hl (hc i a h1 h2 e ha)
  · exact h.1 i a b h1 h2 e ha hb
theorem HpD.down {H : List α} {n j c : Nat} {x z : α} (asy : ∀ a b : α, lt a b = true → lt b a = false) (hn : n ≤ H.length) (hc0 : 0 < c) (hcn : c < n) (hcj : (c - 1) / 2 = j) (h : HpD lt H n j) (hx : H[j]? = some x) (hz : H[c]? = some z) (hc : ∀ k a, 0 < k → k < n → (k - 1) / 2 = j → H[k]? = some a → lt a z = false) (hl : lt z x = true) : HpD lt (sw H j c) n c := by
  obtain ⟨h1, h2⟩ := h
  have hxz := asy _ _ hl
  have at_ := fun k => sw_at (H := H) (i := j) (j := c) (by omega) (by omega) k
  constructor
  · intro k a b k0 kn kc ha hb
    rw [at_] at ha hb
    rw [if_neg kc] at hb
    by_cases e1 : k = c
    · subst e1
      rw [if_pos rfl, hx] at ha
      rw [if_pos hcj, hz] at hb
      obtain rfl := Option.some.inj ha
      obtain rfl := Option.some.inj hb
      exact hxz
    · rw [if_neg e1] at ha
      by_cases e2 : (k - 1) / 2 = j
      · rw [if_pos e2, hz] at hb
        obtain rfl := Option.some.inj hb
        rw [if_neg (by omega)] at ha
        exact hc k a k0 kn e2 ha
      · rw [if_neg e2] at hb
        by_cases e3 : k = j
        · subst e3
          rw [if_pos rfl, hz] at ha
          obtain rfl := Option.some.inj ha
          exact h2 c z b hc0 hcn k0 hcj hz hb
        · rw [if_neg e3] at ha
          exact h1 k a b k0 kn e2 ha hb
  · intro k a b k0 kn c0 ek ha hb
    rw [at_] at ha hb
    rw [hcj, if_neg (by omega), if_pos rfl, hz] at hb
    obtain rfl := Option.some.inj hb
    rw [if_neg (by omega), if_neg (by omega)] at ha
    exact h1 k a z k0 kn (by omega) ha (by rw [ek]; exact hz)
/-- The top is not behind any. -/
theorem Hp.min {H : List α} {n : Nat} {x : α} (tr : ∀ a b c : α, lt b a = false → lt c b = false → lt c a = false) (irr : ∀ a, lt a a = false) (h : Hp lt H n) (hx : H[0]? = some x) : ∀ k y, k < n → H[k]? = some y → lt y x = false := by
  intro k
  induction k using Nat.strongRecOn with
  | _ k ih =>
    intro y hk hy
    by_cases e : k = 0
    · subst e
      rw [hx] at hy
      obtain rfl := Option.some.inj hy
      exact irr _
    · have hl := (List.getElem?_eq_some_iff.1 hy).1
      obtain ⟨z, hz⟩ : ∃ z, H[(k - 1) / 2]? = some z := ⟨_, List.getElem?_eq_getElem (by omega)⟩
      exact tr _ _ _ (ih ((k - 1) / 2) (by omega) z (by omega) hz) (h k y z (by omega) hk hy hz)
/-- One more behind. -/
theorem Hp.push {H : List α} (h : Hp lt H H.length) (x : α) : HpU lt (H ++ [x]) (H ++ [x]).length H.length := by
  constructor
  · intro i a b h1 h2 h3 ha hb
    simp only [List.length_append, List.length_singleton] at h2
    rw [List.getElem?_append_left (by omega)] at ha hb
    exact h i a b h1 (by omega) ha hb
  · intro i a b h1 h2 h3 h4
    simp only [List.length_append, List.length_singleton] at h2
    omega
end
theorem Hp.pop {α : Type} {lt : α → α → Bool} {H : List α} {n : Nat} (h : Hp lt H H.length) (hn : H.length = n + 1) : HpD lt (sw H 0 n) n 0 := by
  refine Hp.d0 (fun i x y h1 h2 h3 hx hy => ?_)
  rw [sw_at (by omega) (by omega), if_neg (by omega), if_neg (by omega)] at hx hy
  exact h i x y h1 (by omega) hx hy
theorem Hp.over {α : Type} {lt : α → α → Bool} {H : List α} (h : Hp lt H H.length) (e : α) : HpD lt (H.set 0 e) (H.set 0 e).length 0 := by
  refine Hp.d0 (fun i x y h1 h2 h3 hx hy => ?_)
  rw [List.length_set] at h2
  rw [List.getElem?_set_ne (by omega)] at hx hy
  exact h i x y h1 h2 hx hy
end Go.Proofs.YtefhinopppdjbaaGreat.M
