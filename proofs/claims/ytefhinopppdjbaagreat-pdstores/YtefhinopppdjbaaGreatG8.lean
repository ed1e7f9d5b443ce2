/- Plain mathematics of a heap of which one place may be wrong both ways. -/
import Derived.Test.YtefhinopppdjbaaGreatG3
namespace Go.Proofs.YtefhinopppdjbaaGreat.M
set_option maxRecDepth 100000
set_option linter.unusedVariables false

section
variable {α : Type} {lt : α → α → Bool}
variable (lt)
/-- Of the first n none stands ahead of its parent, but perhaps the one at j, or those whose parent is j. -/
def HpX (H : List α) (n j : Nat) : Prop := (∀ i x y, 0 < i → i < n → i ≠ j → (i - 1) / 2 ≠ j → H[i]? = some x → H[(i - 1) / 2]? = some y → lt x y = false) ∧ ∀ i x y, 0 < i → i < n → 0 < j → (i - 1) / 2 = j → H[i]? = some x → H[(j - 1) / 2]? = some y → lt x y = false
variable {lt}
theorem HpX.none {H : List α} {n j : Nat} (h : HpX lt H n j) (hn : n ≤ 2 * j + 1) : HpU lt H n j :=
  ⟨fun i x y h1 h2 h3 => h.1 i x y h1 h2 h3 (by omega), h.2⟩
theorem HpX.ok {H : List α} {n j c : Nat} {x z : α} (tr : ∀ a b c : α, lt b a = false → lt c b = false → lt c a = false) (h : HpX lt H n j) (hx : H[j]? = some x) (hz : H[c]? = some z) (hc : ∀ k a, 0 < k → k < n → (k - 1) / 2 = j → H[k]? = some a → lt a z = false) (hl : lt z x = false) : HpU lt H n j := by
  refine ⟨fun i a b h1 h2 h3 ha hb => ?_, h.2⟩
  by_cases e : (i - 1) / 2 = j
  · rw [e, hx] at hb
    obtain rfl := Option.some.inj hb
    exact tr _ _ _ hl (hc i a h1 h2 e ha)
  · exact h.1 i a b h1 h2 h3 e ha hb
theorem HpX.down {H : List α} {n j c : Nat} {x z : α} (asy : ∀ a b : α, lt a b = true → lt b a = false) (hn : n ≤ H.length) (hc0 : 0 < c) (hcn : c < n) (hcj : (c - 1) / 2 = j) (h : HpX lt H n j) (hx : H[j]? = some x) (hz : H[c]? = some z) (hc : ∀ k a, 0 < k → k < n → (k - 1) / 2 = j → H[k]? = some a → lt a z = false) (hl : lt z x = true) : HpD lt (sw H j c) n c := by
  obtain ⟨h1, h2⟩ := h
  have hxz := asy _ _ hl
  have at_ := fun k => sw_at (H := H) (i := j) (j := c) (by omega) (by omega) k
  constructor
  · intro k a b k0 kn kc ha hb
    rw [at_] at ha hb
    rw [if_neg kc] at hb
    by_cases e1 : k = c
    · subst e1
      rw [if_pos rfl, hx] at ha
      rw [if_pos hcj, hz] at hb
      obtain rfl := Option.some.inj ha
      obtain rfl := Option.some.inj hb
      exact hxz
    · rw [if_neg e1] at ha
      by_cases e2 : (k - 1) / 2 = j
      · rw [if_pos e2, hz] at hb
        obtain rfl := Option.some.inj hb
        rw [if_neg (by omega)] at ha
        exact hc k a k0 kn e2 ha
      · rw [if_neg e2] at hb
        by_cases e3 : k = j
        · subst e3
          rw [if_pos rfl, hz] at ha
          obtain rfl := Option.some.inj ha
          exact h2 c z b hc0 hcn k0 hcj hz hb
        · rw [if_neg e3] at ha
          exact h1 k a b k0 kn e3 e2 ha hb
  · intro k a b k0 kn c0 ek ha hb
    rw [at_] at ha hb
    rw [hcj, if_neg (by omega), if_pos rfl, hz] at hb
    obtain rfl := Option.some.inj hb
    rw [if_neg (by omega), if_neg (by omega)] at ha
    exact h1 k a z k0 kn (by omega) (by omega) ha (by rw [ek]; exact hz)
/-- One set anew. -/
theorem Hp.setX {H : List α} {n j : Nat} (h : Hp lt H n) (hn : n ≤ H.length) (hj : j < n) (e : α) (tr : ∀ a b c : α, lt b a = false → lt c b = false → lt c a = false) : HpX lt (H.set j e) n j := by
  constructor
  · intro i x y h1 h2 h3 h4 hx hy
    rw [List.getElem?_set_ne (Ne.symm h3)] at hx
    rw [List.getElem?_set_ne (Ne.symm h4)] at hy
    exact h i x y h1 h2 hx hy
  · intro i x y h1 h2 h3 h4 hx hy
    rw [List.getElem?_set_ne (by omega)] at hx
    rw [List.getElem?_set_ne (by omega)] at hy
    obtain ⟨z, hz⟩ : ∃ z, H[j]? = some z := ⟨_, List.getElem?_eq_getElem (by omega)⟩
    exact tr _ _ _ (h j z y h3 hj hz hy) (h i x z h1 h2 hx (by rw [h4]; exact hz))
/-- One swapped with the last. -/
theorem Hp.swX {H : List α} {n j : Nat} (h : Hp lt H H.length) (hn : H.length = n + 1) (hj : j < n) (tr : ∀ a b c : α, lt b a = false → lt c b = false → lt c a = false) : HpX lt (sw H j n) n j := by
  have at_ := fun k => sw_at (H := H) (i := j) (j := n) (by omega) (by omega) k
  constructor
  · intro i x y h1 h2 h3 h4 hx hy
    rw [at_, if_neg (by omega), if_neg h3] at hx
    rw [at_, if_neg (by omega), if_neg h4] at hy
    exact h i x y h1 (by omega) hx hy
  · intro i x y h1 h2 h3 h4 hx hy
    rw [at_, if_neg (by omega), if_neg (by omega)] at hx
    rw [at_, if_neg (by omega), if_neg (by omega)] at hy
    obtain ⟨z, hz⟩ : ∃ z, H[j]? = some z := ⟨_, List.getElem?_eq_getElem (by omega)⟩
    exact tr _ _ _ (h j z y h3 (by omega) hz hy) (h i x z h1 (by omega) hx (by rw [h4]; exact hz))
theorem Hp.take {H : List α} {n : Nat} (h : Hp lt H n) : Hp lt (H.take n) n := by
  intro i a b i1 i2 ha hb
  rw [List.getElem?_take, if_pos i2] at ha
  rw [List.getElem?_take, if_pos (by omega)] at hb
  exact h i a b i1 i2 ha hb
/-- Of one swapped with the last, the first n are the others. -/
theorem sw_last {H : List α} {n j : Nat} (hn : H.length = n + 1) (hj : j < n) : ((sw H j n).take n).Perm (H.eraseIdx j) := by
  have h1 : (sw H j n).Perm H := sw_perm (by omega) (by omega)
  obtain ⟨x, hx⟩ : ∃ x, H[j]? = some x := ⟨_, List.getElem?_eq_getElem (by omega)⟩
  have e1 : sw H j n = (sw H j n).take n ++ [x] := by
    have hl : (sw H j n).length = n + 1 := by rw [sw_len, hn]
    have hg : (sw H j n)[n]? = some x := by rw [sw_at (by omega) (by omega), if_pos rfl]; exact hx
    obtain ⟨q, e⟩ := List.getElem?_eq_some_iff.1 hg
    conv => lhs; rw [← List.take_append_drop n (sw H j n)]
    rw [List.drop_eq_getElem_cons q, e, List.drop_of_length_le (by omega)]
  have e2 : H.Perm (x :: H.eraseIdx j) := by
    obtain ⟨q, e⟩ := List.getElem?_eq_some_iff.1 hx
    have e3 : H = H.take j ++ x :: H.drop (j + 1) := by
      conv => lhs; rw [← List.take_append_drop j H]
      rw [List.drop_eq_getElem_cons q, e]
    rw [List.eraseIdx_eq_take_drop_succ]
    conv => lhs; rw [e3]
    exact List.perm_middle
  have h2 : (x :: (sw H j n).take n).Perm (x :: H.eraseIdx j) := by
    refine List.Perm.trans ?_ e2
    refine List.Perm.trans ?_ h1
    conv => rhs; rw [e1]
    exact List.perm_append_comm (l₁ := [x])
  exact (List.perm_cons x).1 h2
theorem HpU.upN {H : List α} {n j : Nat} {x y : α} (tr : ∀ a b c : α, lt b a = false → lt c b = false → lt c a = false) (asy : ∀ a b : α, lt a b = true → lt b a = false) (hn : n ≤ H.length) (hj : 0 < j) (hjn : j < n) (h : HpU lt H n j) (hx : H[j]? = some x) (hy : H[(j - 1) / 2]? = some y) (hl : lt x y = true) : HpU lt (sw H ((j - 1) / 2) j) n ((j - 1) / 2) := by
  obtain ⟨h1, h2⟩ := h
  have hyx := asy _ _ hl
  have at_ := fun k => sw_at (H := H) (i := (j - 1) / 2) (j := j) (by omega) (by omega) k
  constructor
  · intro k a b k0 kn ki ha hb
    rw [at_] at ha hb
    rw [if_neg ki] at ha
    by_cases e1 : k = j
    · subst e1
      rw [if_pos rfl, hy] at ha
      rw [if_neg (by omega), if_pos rfl, hx] at hb
      obtain rfl := Option.some.inj ha
      obtain rfl := Option.some.inj hb
      exact hyx
    · rw [if_neg e1] at ha
      by_cases e2 : (k - 1) / 2 = j
      · rw [if_pos e2] at hb
        exact h2 k a b k0 kn hj e2 ha hb
      · rw [if_neg e2] at hb
        by_cases e3 : (k - 1) / 2 = (j - 1) / 2
        · rw [if_pos e3, hx] at hb
          obtain rfl := Option.some.inj hb
          have := h1 k a y k0 kn e1 ha (by rw [e3]; exact hy)
          exact tr _ _ _ hyx this
        · rw [if_neg e3] at hb
          exact h1 k a b k0 kn e1 ha hb
  · intro k a b k0 kn i0 ek ha hb
    rw [at_] at ha hb
    rw [if_neg (by omega), if_neg (by omega)] at hb
    have hyb : lt y b = false := h1 ((j - 1) / 2) y b i0 (by omega) (by omega) hy hb
    by_cases e1 : k = j
    · subst e1
      rw [if_pos rfl, hy] at ha
      obtain rfl := Option.some.inj ha
      exact hyb
    · rw [if_neg e1, if_neg (by omega)] at ha
      have := h1 k a y k0 kn e1 ha (by rw [ek]; exact hy)
      exact tr _ _ _ hyb this

end
end Go.Proofs.YtefhinopppdjbaaGreat.M
