/- Cells of a list of wide elements, looked at the other way round; addresses; rows kept. -/
import Derived.Test.YtedfjacmaidhkaaGreatG2
import Derived.Test.YtedfjacmaidhkaaGreatG1
import Derived.ProofKit
import Derived.OpenShut
import Derived.ChangeOld
import Derived.SizedLaws
import Derived.Lib.Bytealg
import Derived.Laws.Entries
import Derived.Shelf.SlSortCmp.WholeK
import Derived.WalkKit
import Derived.Test.YtedfjacmaidhkaaGreatProg
namespace Go.Proofs.YtedfjacmaidhkaaGreat
open Go.RowKit
set_option linter.unusedVariables false
set_option maxRecDepth 100000

theorem fm_inv {α : Type} {f : α → List Value} {n : Nat} (hf : ∀ x, (f x).length = n) (hn : 0 < n) (l : List α) (j : Nat) (u : Value) (h : (l.flatMap f)[j]? = some u) : ∃ i r x, l[i]? = some x ∧ r < n ∧ j = i * n + r ∧ (f x)[r]? = some u := by
  have hj := (List.getElem?_eq_some_iff.1 h).1
  rw [fm_len hf] at hj
  have hi : j / n < l.length := Nat.div_lt_of_lt_mul (by rw [Nat.mul_comm]; exact hj)
  have hr := Nat.mod_lt j hn
  have e : j = j / n * n + j % n := by have := Nat.div_add_mod j n; rw [Nat.mul_comm] at this; omega
  refine ⟨j / n, j % n, l[j / n], List.getElem?_eq_getElem hi, hr, e, ?_⟩
  rw [← fm_at hf l (j / n) (j % n) _ (List.getElem?_eq_getElem hi) hr, ← e]
  exact h

theorem add_at (a : Addr) (n r : Nat) : (⟨(a.add n).block, (a.add n).off + (r + 1), none⟩ : Addr) = a.add (n + (r + 1)) := by
  unfold Addr.add
  by_cases h : n = 0
  · subst h; simp
  · simp [h]; omega
theorem ownsRow_belP {B C n s : Nat} {e : TypeId} {w w' : World} {v : Value} {xs : List Value} (h : w.ownsRow B e s v n xs) (hb : Below C w w') (hC : w.heap.size ≤ C) : w'.ownsRow B e s v n xs := by
  obtain ⟨h1, h2⟩ := h
  refine ⟨h1, ?_⟩
  rcases h2 with h2 | ⟨g, cap, cur, hv, hg, hh, r⟩
  · exact .inl h2
  · refine .inr ⟨g, cap, cur, hv, hg, ?_, r⟩
    have hlt : g < w.heap.size := (Array.getElem?_eq_some_iff.1 hh).1
    rw [hb.block g (by omega)]; exact hh
end Go.Proofs.YtedfjacmaidhkaaGreat

/- Plain mathematics of a heap in a list, apart from what lies in it (as HpMath has it for the table's runs). -/
namespace Go.Proofs.YtedfjacmaidhkaaGreat.M
set_option maxRecDepth 100000
set_option linter.unusedVariables false

section
variable {α : Type} {lt : α → α → Bool}

/-- Two places swapped. -/
def sw (H : List α) (i j : Nat) : List α := match H[i]?, H[j]? with
  | some x, some y => (H.set i y).set j x
  | _, _ => H
theorem sw_eq {H : List α} {i j : Nat} {x y : α} (hi : H[i]? = some x) (hj : H[j]? = some y) : sw H i j = (H.set i y).set j x := by unfold sw; rw [hi, hj]
theorem sw_len (H : List α) (i j : Nat) : (sw H i j).length = H.length := by unfold sw; split <;> simp
theorem sw_at {H : List α} {i j : Nat} (hi : i < H.length) (hj : j < H.length) (k : Nat) : (sw H i j)[k]? = if k = j then H[i]? else if k = i then H[j]? else H[k]? := by
  have ei : H[i]? = some H[i] := List.getElem?_eq_getElem hi
  have ej : H[j]? = some H[j] := List.getElem?_eq_getElem hj
  rw [sw_eq ei ej, List.getElem?_set, List.getElem?_set, ei, ej]
  simp only [List.length_set]
  by_cases h1 : k = j
  · subst h1; simp [hj]
  · rw [if_neg (fun e => h1 e.symm), if_neg h1]
    by_cases h2 : k = i
    · subst h2; simp [hi]
    · rw [if_neg (fun e => h2 e.symm), if_neg h2]

/-- The first n places hold the same, in another order; the others are as they were. -/
def Mv (n : Nat) (H H' : List α) : Prop := H'.length = H.length ∧ (H'.take n).Perm (H.take n) ∧ ∀ k, n ≤ k → H'[k]? = H[k]?
theorem Mv.refl (n : Nat) (H : List α) : Mv n H H := ⟨rfl, List.Perm.refl _, fun _ _ => rfl⟩
theorem Mv.trans {n : Nat} {A B C : List α} (h1 : Mv n A B) (h2 : Mv n B C) : Mv n A C := ⟨h2.1.trans h1.1, h2.2.1.trans h1.2.1, fun k hk => (h2.2.2 k hk).trans (h1.2.2 k hk)⟩
theorem sw_perm {H : List α} {i j : Nat} (hi : i < H.length) (hj : j < H.length) : (sw H i j).Perm H := by
  have e : sw H i j = (H.toArray.swap i j (by simpa using hi) (by simpa using hj)).toList := by
    rw [sw_eq (List.getElem?_eq_getElem hi) (List.getElem?_eq_getElem hj), Array.toList_swap]
    simp
  rw [e]
  have := Array.swap_perm (xs := H.toArray) (i := i) (j := j) (by simpa using hi) (by simpa using hj)
  simpa using Array.perm_iff_toList_perm.1 this
theorem mem_take_iff {H : List α} {n : Nat} {x : α} : x ∈ H.take n ↔ ∃ k, k < n ∧ H[k]? = some x := by
  rw [List.mem_iff_getElem?]
  constructor
  · rintro ⟨k, hk⟩
    rw [List.getElem?_take] at hk
    split at hk
    · exact ⟨k, by assumption, hk⟩
    · cases hk
  · rintro ⟨k, hk, e⟩
    exact ⟨k, by rw [List.getElem?_take, if_pos hk]; exact e⟩
theorem sw_take {H : List α} {n i j : Nat} (hi : i < n) (hj : j < n) (hn : n ≤ H.length) : (sw H i j).take n = sw (H.take n) i j := by
  apply List.ext_getElem?
  intro k
  have hl : (H.take n).length = n := by simp; omega
  rw [sw_at (by omega) (by omega), List.getElem?_take, List.getElem?_take, List.getElem?_take, List.getElem?_take, if_pos hi, if_pos hj, sw_at (by omega) (by omega)]
  by_cases hk : k < n
  · rw [if_pos hk, if_pos hk]
  · rw [if_neg hk, if_neg hk, if_neg (by omega), if_neg (by omega)]
theorem sw_mv {H : List α} {n i j : Nat} (hi : i < n) (hj : j < n) (hn : n ≤ H.length) : Mv n H (sw H i j) := by
  refine ⟨sw_len _ _ _, ?_, fun k hk => ?_⟩
  · rw [sw_take hi hj hn]
    exact sw_perm (by simp; omega) (by simp; omega)
  · rw [sw_at (by omega) (by omega), if_neg (by omega), if_neg (by omega)]
/-- The first and the last swapped: the first n hold what was behind the first. -/
theorem sw_top {H : List α} {n : Nat} (hn : H.length = n + 1) : ((sw H 0 n).take n).Perm H.tail := by
  cases n with
  | zero =>
    obtain ⟨x, rfl⟩ := List.length_eq_one_iff.1 hn
    simp
  | succ n =>
    cases H with
    | nil => simp at hn
    | cons x T =>
      simp only [List.length_cons, Nat.add_right_cancel_iff] at hn
      have hl : n < T.length := by omega
      have e : (sw (x :: T) 0 (n + 1)).take (n + 1) = T[n] :: T.take n := by
        apply List.ext_getElem?
        intro k
        rw [List.getElem?_take]
        cases k with
        | zero => rw [if_pos (by omega), sw_at (by simp) (by simp; omega), if_neg (by omega), if_pos rfl]; simp
        | succ k =>
          rw [List.getElem?_cons_succ, List.getElem?_take]
          by_cases hk : k < n
          · rw [if_pos (by omega), if_pos hk, sw_at (by simp) (by simp; omega), if_neg (by omega), if_neg (by omega)]; simp
          · rw [if_neg (by omega), if_neg hk]
      rw [e]
      have e2 : T = T.take n ++ [T[n]] := by
        rw [List.take_append_getElem hl, List.take_of_length_le (by omega)]
      show List.Perm _ T
      refine List.Perm.trans ?_ (List.Perm.of_eq e2.symm)
      exact List.perm_append_comm (l₁ := [T[n]]) (l₂ := T.take n)

variable (lt)
/-- Of the first n none stands ahead of its parent. -/
def Hp (H : List α) (n : Nat) : Prop := ∀ i x y, 0 < i → i < n → H[i]? = some x → H[(i - 1) / 2]? = some y → lt x y = false
/-- .. but perhaps the one at j. -/
def HpU (H : List α) (n j : Nat) : Prop := (∀ i x y, 0 < i → i < n → i ≠ j → H[i]? = some x → H[(i - 1) / 2]? = some y → lt x y = false) ∧ ∀ i x y, 0 < i → i < n → 0 < j → (i - 1) / 2 = j → H[i]? = some x → H[(j - 1) / 2]? = some y → lt x y = false
/-- .. but perhaps those whose parent is j. -/
def HpD (H : List α) (n j : Nat) : Prop := (∀ i x y, 0 < i → i < n → (i - 1) / 2 ≠ j → H[i]? = some x → H[(i - 1) / 2]? = some y → lt x y = false) ∧ ∀ i x y, 0 < i → i < n → 0 < j → (i - 1) / 2 = j → H[i]? = some x → H[(j - 1) / 2]? = some y → lt x y = false
variable {lt}

theorem Hp.u0 {H : List α} {n : Nat} (h : Hp lt H n) : HpU lt H n 0 := ⟨fun i x y h1 h2 _ => h i x y h1 h2, fun i x y h1 h2 h3 => absurd h3 (by omega)⟩
theorem HpU.top {H : List α} {n : Nat} (h : HpU lt H n 0) : Hp lt H n := fun i x y h1 h2 => h.1 i x y h1 h2 (by omega)
theorem HpU.ok {H : List α} {n j : Nat} {x y : α} (h : HpU lt H n j) (hx : H[j]? = some x) (hy : H[(j - 1) / 2]? = some y) (hl : lt x y = false) : Hp lt H n := fun i a b h1 h2 ha hb => by
  by_cases e : i = j
  · subst e
    rw [hx] at ha; rw [hy] at hb
    obtain rfl := Option.some.inj ha
    obtain rfl := Option.some.inj hb
    exact hl
  · exact h.1 i a b h1 h2 e ha hb
theorem HpU.up {H : List α} {n j : Nat} {x y : α} (tr : ∀ a b c : α, lt b a = false → lt c b = false → lt c a = false) (asy : ∀ a b : α, lt a b = true → lt b a = false) (hn : n = H.length) (hj : 0 < j) (hjn : j < n) (h : HpU lt H n j) (hx : H[j]? = some x) (hy : H[(j - 1) / 2]? = some y) (hl : lt x y = true) : HpU lt (sw H ((j - 1) / 2) j) n ((j - 1) / 2) := by
  subst hn
  obtain ⟨h1, h2⟩ := h
  have hyx := asy _ _ hl
  have at_ := fun k => sw_at (H := H) (i := (j - 1) / 2) (j := j) (by omega) hjn k
  constructor
  · intro k a b k0 kn ki ha hb
    rw [at_] at ha hb
    rw [if_neg ki] at ha
    by_cases e1 : k = j
    · subst e1
      rw [if_pos rfl, hy] at ha
      rw [if_neg (by omega), if_pos rfl, hx] at hb
      obtain rfl := Option.some.inj ha
      obtain rfl := Option.some.inj hb
      exact hyx
    · rw [if_neg e1] at ha
      by_cases e2 : (k - 1) / 2 = j
      · rw [if_pos e2] at hb
        exact h2 k a b k0 kn hj e2 ha hb
      · rw [if_neg e2] at hb
        by_cases e3 : (k - 1) / 2 = (j - 1) / 2
        · rw [if_pos e3, hx] at hb
          obtain rfl := Option.some.inj hb
          have := h1 k a y k0 kn e1 ha (by rw [e3]; exact hy)
          exact tr _ _ _ hyx this
        · rw [if_neg e3] at hb
          exact h1 k a b k0 kn e1 ha hb
  · intro k a b k0 kn i0 ek ha hb
    rw [at_] at ha hb
    rw [if_neg (by omega), if_neg (by omega)] at hb
    have hyb : lt y b = false := h1 ((j - 1) / 2) y b i0 (by omega) (by omega) hy hb
    by_cases e1 : k = j
    · subst e1
      rw [if_pos rfl, hy] at ha
      obtain rfl := Option.some.inj ha
      exact hyb
    · rw [if_neg e1, if_neg (by omega)] at ha
      have := h1 k a y k0 kn e1 ha (by rw [ek]; exact hy)
      exact tr _ _ _ hyb this

theorem Hp.d0 {H : List α} {n : Nat} (h : ∀ i x y, 0 < i → i < n → (i - 1) / 2 ≠ 0 → H[i]? = some x → H[(i - 1) / 2]? = some y → lt x y = false) : HpD lt H n 0 := ⟨h, fun i x y h1 h2 h3 => absurd h3 (by omega)⟩
theorem HpD.none {H : List α} {n j : Nat} (h : HpD lt H n j) (hn : n ≤ 2 * j + 1) : Hp lt H n := fun i x y h1 h2 => h.1 i x y h1 h2 (by omega)
/-- The least of the children is not ahead of j. -/
theorem HpD.ok {H : List α} {n j c : Nat} {x z : α} (tr : ∀ a b c : α, lt b a = false → lt c b = false → lt c a = false) (h : HpD lt H n j) (hx : H[j]? = some x) (hz : H[c]? = some z) (hc : ∀ k a, 0 < k → k < n → (k - 1) / 2 = j → H[k]? = some a → lt a z = false) (hl : lt z x = false) : Hp lt H n := fun i a b h1 h2 ha hb => by
  by_cases e : (i - 1) / 2 = j
  · rw [e, hx] at hb
    obtain rfl := Option.some.inj hb
    exact tr _ _ _ hl (hc i a h1 h2 e ha)
  · exact h.1 i a b h1 h2 e ha hb
theorem HpD.down {H : List α} {n j c : Nat} {x z : α} (asy : ∀ a b : α, lt a b = true → lt b a = false) (hn : n ≤ H.length) (hc0 : 0 < c) (hcn : c < n) (hcj : (c - 1) / 2 = j) (h : HpD lt H n j) (hx : H[j]? = some x) (hz : H[c]? = some z) (hc : ∀ k a, 0 < k → k < n → (k - 1) / 2 = j → H[k]? = some a → lt a z = false) (hl : lt z x = true) : HpD lt (sw H j c) n c := by
  obtain ⟨h1, h2⟩ := h
  have hxz := asy _ _ hl
  have at_ := fun k => sw_at (H := H) (i := j) (j := c) (by omega) (by omega) k
  constructor
  · intro k a b k0 kn kc ha hb
    rw [at_] at ha hb
    rw [if_neg kc] at hb
    by_cases e1 : k = c
    · subst e1
      rw [if_pos rfl, hx] at ha
      rw [if_pos hcj, hz] at hb
      obtain rfl := Option.some.inj ha
      obtain rfl := Option.some.inj hb
      exact hxz
    · rw [if_neg e1] at ha
      by_cases e2 : (k - 1) / 2 = j
      · rw [if_pos e2, hz] at hb
        obtain rfl := Option.some.inj hb
        rw [if_neg (by omega)] at ha
        exact hc k a k0 kn e2 ha
      · rw [if_neg e2] at hb
        by_cases e3 : k = j
        · subst e3
          rw [if_pos rfl, hz] at ha
          obtain rfl := Option.some.inj ha
          exact h2 c z b hc0 hcn k0 hcj hz hb
        · rw [if_neg e3] at ha
          exact h1 k a b k0 kn e2 ha hb
  · intro k a b k0 kn c0 ek ha hb
    rw [at_] at ha hb
    rw [hcj, if_neg (by omega), if_pos rfl, hz] at hb
    obtain rfl := Option.some.inj hb
    rw [if_neg (by omega), if_neg (by omega)] at ha
    exact h1 k a z k0 kn (by omega) ha (by rw [ek]; exact hz)
/-- The top is not behind any. -/
theorem Hp.min {H : List α} {n : Nat} {x : α} (tr : ∀ a b c : α, lt b a = false → lt c b = false → lt c a = false) (irr : ∀ a, lt a a = false) (h : Hp lt H n) (hx : H[0]? = some x) : ∀ k y, k < n → H[k]? = some y → lt y x = false := by
  intro k
  induction k using Nat.strongRecOn with
  | _ k ih =>
    intro y hk hy
    by_cases e : k = 0
    · subst e
      rw [hx] at hy
      obtain rfl := Option.some.inj hy
      exact irr _
    · have hl := (List.getElem?_eq_some_iff.1 hy).1
      obtain ⟨z, hz⟩ : ∃ z, H[(k - 1) / 2]? = some z := ⟨_, List.getElem?_eq_getElem (by omega)⟩
      exact tr _ _ _ (ih ((k - 1) / 2) (by omega) z (by omega) hz) (h k y z (by omega) hk hy hz)
/-- One more behind. -/
theorem Hp.push {H : List α} (h : Hp lt H H.length) (x : α) : HpU lt (H ++ [x]) (H ++ [x]).length H.length := by
  constructor
  · intro i a b h1 h2 h3 ha hb
    simp only [List.length_append, List.length_singleton] at h2
    rw [List.getElem?_append_left (by omega)] at ha hb
    exact h i a b h1 (by omega) ha hb
  · intro i a b h1 h2 h3 h4
    simp only [List.length_append, List.length_singleton] at h2
    omega
end
theorem Hp.pop {α : Type} {lt : α → α → Bool} {H : List α} {n : Nat} (h : Hp lt H H.length) (hn : H.length = n + 1) : HpD lt (sw H 0 n) n 0 := by
  refine Hp.d0 (fun i x y h1 h2 h3 hx hy => ?_)
  rw [sw_at (by omega) (by omega), if_neg (by omega), if_neg (by omega)] at hx hy
  exact h i x y h1 (by omega) hx hy
theorem Hp.over {α : Type} {lt : α → α → Bool} {H : List α} (h : Hp lt H H.length) (e : α) : HpD lt (H.set 0 e) (H.set 0 e).length 0 := by
  refine Hp.d0 (fun i x y h1 h2 h3 hx hy => ?_)
  rw [List.length_set] at h2
  rw [List.getElem?_set_ne (by omega)] at hx hy
  exact h i x y h1 h2 hx hy
end Go.Proofs.YtedfjacmaidhkaaGreat.M

/- My own words for lists of int in memory: 'Rj w v l': the slice value v reads as the numbers l; 'Oj B w v l': a row of the call's own. -/
namespace Go.Proofs.YtedfjacmaidhkaaGreat
open Go.RowKit
set_option linter.unusedVariables false

/-- The cells of a list of numbers. -/
def celJ (l : List Int) : List Value := l.map fun x => Value.int .i64 x
theorem celJ_length (l : List Int) : (celJ l).length = l.length := by simp [celJ]
theorem celJ_append (a b : List Int) : celJ (a ++ b) = celJ a ++ celJ b := by simp [celJ]
theorem celJ_get (l : List Int) (i : Nat) (h : i < l.length) : (celJ l)[i]? = some (.int .i64 l[i]) := by simp [celJ, h]
theorem celJ_one (l : List Int) : ∀ u ∈ celJ l, u.oneCell' = true := by
  intro u hu
  obtain ⟨_, _, rfl⟩ := List.mem_map.1 hu
  rfl
theorem celJ_set (l : List Int) (i : Nat) (x : Int) : celJ (l.set i x) = (celJ l).set i (.int .i64 x) := by
  unfold celJ; rw [List.map_set]

/-- The slice value v reads as the numbers l. -/
def Rj (w : World) (v : Value) (l : List Int) : Prop :=
  ∃ ao c, v = .slice ao l.length c ∧ l.length ≤ c ∧ c ≤ maxLen ∧ (ao = none → c = 0) ∧ ∀ i, (h : i < l.length) → ∃ a, ao = some a ∧ w.cell? (a.add i) = some (.int .i64 l[i])

theorem Rj.two {w : World} {v : Value} {l : List Int} (h : Rj w v l) :
    (v = .slice none 0 0 ∧ l = []) ∨ ∃ a c, v = .slice (some a) l.length c ∧ l.length ≤ c ∧ c ≤ maxLen ∧ ∀ i, (h : i < l.length) → w.cell? (a.add i) = some (.int .i64 l[i]) := by
  obtain ⟨ao, c, hv, h1, h2, h3, h4⟩ := h
  cases ao with
  | none =>
    have hc := h3 rfl
    have hl : l = [] := List.length_eq_zero_iff.1 (by omega)
    subst hl; subst hc
    exact .inl ⟨hv, rfl⟩
  | some a =>
    refine .inr ⟨a, c, hv, h1, h2, fun i hi => ?_⟩
    obtain ⟨a', e, hc⟩ := h4 i hi
    obtain rfl := Option.some.inj e
    exact hc
theorem Rj.mk {w : World} {a : Addr} {n c : Nat} {l : List Int} (hn : n = l.length) (h1 : l.length ≤ c) (h2 : c ≤ maxLen) (h3 : ∀ i, (h : i < l.length) → w.cell? (a.add i) = some (.int .i64 l[i])) : Rj w (.slice (some a) n c) l :=
  ⟨some a, c, by rw [hn], h1, h2, (fun h => by cases h), fun i hi => ⟨a, rfl, h3 i hi⟩⟩
theorem Rj.nil (w : World) : Rj w (.slice none 0 0) [] := ⟨none, 0, rfl, by simp, by simp, fun _ => rfl, fun i hi => by simp at hi⟩
theorem Rj.below {B : Nat} {w w' : World} {v : Value} {l : List Int} (h : Rj w v l) (hb : Below B w w') (hB : w.heap.size ≤ B) : Rj w' v l := by
  obtain ⟨ao, c, h0, h1, h2, h3, h4⟩ := h
  refine ⟨ao, c, h0, h1, h2, h3, fun i hi => ?_⟩
  obtain ⟨a, e, hc⟩ := h4 i hi
  have hlt := World.block_lt_of_cell? w _ hc
  exact ⟨a, e, by rw [hb.cell (by omega)]; exact hc⟩
theorem Rj.drewN {w : World} {v : Value} {l : List Int} (h : Rj w v l) (n : Nat) : Rj (w.drewN n) v l := h.below (below_drewN (Below.refl _ _) n) (Nat.le_refl _)
theorem Rj.alloc {w : World} {v : Value} {l : List Int} (h : Rj w v l) (o : Obj) : Rj (w.alloc o) v l := h.below ((Below.refl _ _).alloc (Nat.le_refl _) o) (Nat.le_refl _)
theorem Rj.shape {w : World} {v : Value} {l : List Int} (h : Rj w v l) : ∃ a c, v = .slice a l.length c := by
  obtain ⟨ao, c, e, _⟩ := h; exact ⟨_, _, e⟩
theorem Rj.len {w : World} {v : Value} {l : List Int} (h : Rj w v l) : l.length ≤ maxLen := by
  obtain ⟨ao, c, _, h1, h2, _⟩ := h; omega

/-- A row of numbers of the call's own, in new memory from block B on. -/
def Oj (B : Nat) (w : World) (v : Value) (l : List Int) : Prop := w.ownsRow B 3 1 v l.length (celJ l)
theorem Oj.rj {B : Nat} {w : World} {v : Value} {l : List Int} (h : Oj B w v l) : Rj w v l := by
  have h' := h
  obtain ⟨_, h2⟩ := h
  rcases h2 with ⟨hv, h0⟩ | ⟨g, cap, cur, hv, hg, hh, hn, hcap, hsz, htake⟩
  · obtain rfl := List.length_eq_zero_iff.1 h0
    subst hv
    exact Rj.nil _
  · subst hv
    refine Rj.mk rfl hn hcap (fun i hi => ?_)
    rw [Addr.add_lit, Nat.zero_add]
    unfold Oj at h'
    rw [h'.cellAt i (by omega), celJ_get l i hi]
theorem Oj.below {B C : Nat} {w w' : World} {v : Value} {l : List Int} (h : Oj B w v l) (hb : Below C w w') (hC : w.heap.size ≤ C) : Oj B w' v l := by
  obtain ⟨h1, h2⟩ := h
  refine ⟨h1, ?_⟩
  rcases h2 with h2 | ⟨g, cap, cur, hv, hg, hh, r⟩
  · exact .inl h2
  · refine .inr ⟨g, cap, cur, hv, hg, ?_, r⟩
    have hlt : g < w.heap.size := (Array.getElem?_eq_some_iff.1 hh).1
    rw [hb.block g (by omega)]; exact hh
theorem Oj.mono {B B' : Nat} {w : World} {v : Value} {l : List Int} (h : Oj B w v l) (hB : B' ≤ B) : Oj B' w v l := by
  obtain ⟨h1, h2⟩ := h
  refine ⟨h1, ?_⟩
  rcases h2 with h2 | ⟨g, cap, cur, hv, hg, r⟩
  · exact .inl h2
  · exact .inr ⟨g, cap, cur, hv, by omega, r⟩
theorem Oj.alloc {B : Nat} {w : World} {v : Value} {l : List Int} (h : Oj B w v l) (o : Obj) : Oj B (w.alloc o) v l := World.ownsRow.alloc h o
theorem Oj.nil (B : Nat) (w : World) : Oj B w (.slice none 0 0) [] := World.ownsRow_nil _ _ _ _
theorem Oj.lt {B : Nat} {w : World} {v : Value} {l : List Int} (h : Oj B w v l) (b : Nat) (e : v.ownBlock = some b) : B ≤ b ∧ b < w.heap.size := World.ownsRow.lt h b e
theorem Oj.shape {B : Nat} {w : World} {v : Value} {l : List Int} (h : Oj B w v l) : ∃ a c, v = .slice a l.length c := h.rj.shape
theorem Oj.kept {B : Nat} {w w' : World} {v : Value} {l : List Int} {r : Option Nat} (h : Oj B w v l) (hg : w.grownBy w' r) (hne : ∀ b, v.ownBlock = some b → r ≠ some b) : Oj B w' v l := by
  refine World.ownsRow.kept h hg ?_
  by_cases e : v.ownBlock = none
  · exact .inl e
  · obtain ⟨b, hb⟩ := Option.ne_none_iff_exists'.1 e
    exact .inr (fun q => hne b hb (by rw [← q]; exact hb))
/-- The row of a literal. -/
theorem Oj.made (B : Nat) (w : World) (l : List Int) (n : Nat) (hn : n = l.length) (hB : B ≤ w.heap.size) (hl : l.length ≤ maxLen) (C : Array Value) (hC : C.toList = celJ l) (g : Nat) (hg : g = w.heap.size) : Oj B (w.alloc (.cells C 3)) (.slice (some ⟨g, 0, none⟩) n n) l := by
  subst hn; subst hg
  have hs : C.size = l.length := by rw [← Array.length_toList, hC, celJ_length]
  refine ⟨by rw [celJ_length]; simp, .inr ⟨w.heap.size, l.length, C, rfl, hB, heap_alloc_new w _, Nat.le_refl _, hl, by omega, ?_⟩⟩
  rw [hC, List.take_of_length_le (by rw [celJ_length]; omega)]

theorem Tryz.infoJ : (Tryz.prog.info? 3).map (fun i => (i.zero, i.size, i.bytes)) = some (some (.int .i64 0), 1, 8) := by kernel_rfl

/-- 'append(out, x...)' of numbers, out the call's own. -/
theorem wpList_appJ {w : World} {ops : Array Oper} {rest : List Oper} {o : Oper} {a : Act} {Q : Exit → Act → World → Prop} (hgd : o.guard = none) (s x : Operand)
    (ho : o.op = .call { callee := .builtin .append, args := #[s, x], argTypes := #[52, 52] })
    (B : Nat) (v : Value) (l : List Int) (hs : a.eval s = v) (hown : Oj B w v l) (vx : Value) (m : List Int) (hx : a.eval x = vx) (hm : Rj w vx m)
    (hB : B ≤ w.heap.size) (hlen : l.length + m.length ≤ 10995116277760)
    (h : ∀ v' w', Oj B w' v' (l ++ m) → w.grownBy w' v.ownBlock → (v'.ownBlock = v.ownBlock ∨ v'.ownBlock = some w.heap.size) → wpList Tryz.prog ops Q rest (a.put o.dst v') w') : wpList Tryz.prog ops Q (o :: rest) a w := by
  obtain ⟨i, hi, hz0, hz1, hz2⟩ := info_parts Tryz.infoJ
  rcases hm.two with ⟨rfl, rfl⟩ | ⟨ad, c, rfl, h1, h2, h3⟩
  · refine wpList_append_own_none hgd s x 52 ho B 3 i 1 Tryz.underlying52 hi _ _ _ hs hown hx ?_
    exact h v w (by simpa using hown) (World.grownBy.refl _ _) (.inl rfl)
  · refine wpList_plain hgd fun K hK => ?_
    obtain ⟨v', w', hr, q2, q3, q4⟩ := run_appN (P := Tryz.prog) w B 52 o.type 3 (.int .i64 0) 8 Tryz.underlying52 Tryz.infoJ rfl v l.length (celJ l) hown ad m.length c (celJ m) (by simp [celJ_length]) (by
      intro j u hu
      have hj : j < m.length := by have := (List.getElem?_eq_some_iff.1 hu).1; simpa [celJ_length] using this
      rw [h3 j hj]; rw [celJ_get m j hj] at hu; exact hu) (celJ_one m) (by unfold maxLen; omega) (by omega) hB
    unfold Oper.wp execOp
    simp only [ho, resolve, invoke, builtin, Sem.run_bind, Sem.run_pure, Result.andThen_ok, List.map_toArray, List.map_cons, List.map_nil, hs, hx, hr]
    exact hK _ _ (h v' w' (by unfold Oj; rw [celJ_append, List.length_append]; exact q2) q3 q4)

theorem rj_one (w : World) (z : Int) (b : Int) (hz : z = b) (t : TypeId) (g : Nat) (hg : g = w.heap.size) : Rj (w.alloc (.cells #[.int .i64 z] t)) (.slice (some ⟨g, 0, none⟩) 1 1) [b] := by
  subst hg
  refine Rj.mk rfl (by simp) (by simp [maxLen]) (fun i hi => ?_)
  obtain rfl : i = 0 := by simpa using hi
  rw [show (⟨w.heap.size, 0, none⟩ : Addr).add 0 = ⟨w.heap.size, 0, none⟩ from rfl, World.cell?_alloc_at _ _ _ _ rfl]
  subst hz
  rfl

/-- A number written into the row. -/
theorem Oj.put {B g : Nat} {w : World} {v : Value} {l : List Int} (h : Oj B w v l) (hv : v.ownBlock = some g) (j : Nat) (x : Int) : Oj B (w.setCell ⟨g, j, none⟩ (.int .i64 x)) v (l.set j x) := by
  unfold Oj at *
  rw [celJ_set]
  refine ⟨by rw [List.length_set]; have := h.1; simpa using this, ?_⟩
  rcases h.2 with ⟨q, q0⟩ | ⟨g', cap, cur, q, hB, hg, q1, q2, q3, q4⟩
  · rw [q] at hv; cases hv
  · rw [q] at hv
    obtain rfl : g' = g := Option.some.inj hv
    refine .inr ⟨g', cap, cur.setIfInBounds j (.int .i64 x), by rw [List.length_set]; exact q, hB, by rw [heap_setCell_same _ _ j _ _ _ hg], by rw [List.length_set]; exact q1, q2, by rw [Array.size_setIfInBounds]; exact q3, ?_⟩
    rw [← q4]
    simp [List.take_set, List.length_set]
theorem Oj.froz {B g n c : Nat} {w : World} {l : List Int} (h : Oj B w (.slice (some ⟨g, 0, none⟩) n c) l) (j : Nat) : w.frozen? ⟨g, j, none⟩ = false := by
  rcases h.2 with ⟨q, q0⟩ | ⟨g', cap, cur, q, hB, hg, _⟩
  · cases q
  · simp only [Value.slice.injEq, Option.some.injEq, Addr.mk.injEq, and_true] at q
    rw [q.1]; exact frozen_of_row _ _ _ _ _ hg
/-- A row of the call's own: none, or at the head of its block. -/
theorem Oj.blk {B : Nat} {w : World} {v : Value} {l : List Int} (h : Oj B w v l) : (v = .slice none 0 0 ∧ l = []) ∨ ∃ g c, v = .slice (some ⟨g, 0, none⟩) l.length c ∧ l.length ≤ c ∧ c ≤ maxLen ∧ B ≤ g ∧ g < w.heap.size ∧ (∀ j, (hj : j < l.length) → w.cell? ⟨g, j, none⟩ = some (.int .i64 l[j])) ∧ ∀ j, w.frozen? ⟨g, j, none⟩ = false := by
  have h' := h
  rcases h.2 with ⟨hv, h0⟩ | ⟨g, cap, cur, hv, hg, hh, hn, hcap, hsz, htake⟩
  · exact .inl ⟨hv, List.length_eq_zero_iff.1 h0⟩
  · subst hv
    refine .inr ⟨g, cap, rfl, hn, hcap, hg, (Array.getElem?_eq_some_iff.1 hh).1, fun j hj => ?_, fun j => h'.froz j⟩
    unfold Oj at h'
    rw [h'.cellAt j (by omega), celJ_get l j hj]
end Go.Proofs.YtedfjacmaidhkaaGreat

/- A list of ints that came in. -/
namespace Go.Proofs.YtedfjacmaidhkaaGreat
open Go.ChangeShapes Go.WideShapes Go.ChangeAt Go.RowKit
set_option linter.unusedVariables false
set_option maxRecDepth 100000

theorem open_intsJ {H : Type} {enc : TypeId × Value → H} {W : World} {a0 : Option Addr} {len cap : Nat} {d : DataW H} {p : List MemPlace} (h : DataW.Trod enc Tryz.prog W 0 (fun _ => true) true 52 (.slice a0 len cap) d p) :
    ∃ l : List Int, Rj W (.slice a0 len cap) l ∧ l.length + 1 ≤ Rows.uptoBulk d := by
  obtain ⟨fuel, hf⟩ := h
  rcases open_ints Tryz.underlying52 Tryz.underlying3 (by kernel_rfl) hf with ⟨hcs, hx⟩ | ⟨a, len', cap', zs, hcs, _, hl, hm, hz, hd, hcell, hwz⟩
  · simp [Value.cells] at hcs
    obtain ⟨rfl, rfl, rfl⟩ := hcs
    simp only [Prod.mk.injEq] at hx
    rw [hx.1]
    exact ⟨[], Rj.nil _, by simp [Rows.uptoBulk]⟩
  · simp [Value.cells] at hcs
    obtain ⟨rfl, rfl, rfl⟩ := hcs
    have hz' : zs.length = cap := by simpa using hz
    have hlen : (zs.take len).length = len := by simp; omega
    refine ⟨zs.take len, Rj.mk hlen.symm (by omega) hm (fun i hi => ?_), ?_⟩
    · have hi' : i < zs.length := by omega
      rw [hcell i hi']
      have e : zs.getD i 0 = zs[i] := by simp [hi']
      rw [e]
      simp only [List.getElem_take]
    · simp only [Prod.mk.injEq] at hd
      rw [hlen, hd.1]
      have := bulk_ge (H := H) (lits .i64 (zs.take len))
      simp only [Rows.uptoBulk]
      simp only [lits, List.length_map, List.length_take] at this
      simp only [lits]
      omega
end Go.Proofs.YtedfjacmaidhkaaGreat

/- A number's lower bits, and what is left of them. -/
namespace Go.Proofs.YtedfjacmaidhkaaGreat
open Go.RowKit
set_option linter.unusedVariables false
set_option maxRecDepth 100000

theorem mask62S (p : Int) : ∃ a : Nat, bits .and .i64 p 4611686018427387903 = (a : Int) ∧ a ≤ 4611686018427387903 := by
  have hle : (BitVec.ofInt 64 p &&& BitVec.ofInt 64 4611686018427387903).toNat ≤ 4611686018427387903 := by
    rw [BitVec.toNat_and, show (BitVec.ofInt 64 4611686018427387903).toNat = 4611686018427387903 by decide]
    exact Nat.and_le_right
  refine ⟨(BitVec.ofInt 64 p &&& BitVec.ofInt 64 4611686018427387903).toNat, ?_, hle⟩
  show IntKind.i64.wrap ((BitVec.ofInt 64 p &&& BitVec.ofInt 64 4611686018427387903).toNat : Int) = _
  rw [IntKind.wrap_i64]
  omega
/-- One more than what is left of the lower bits. -/
theorem mask_oneS (p : Int) (n : Nat) (hn : 0 < n) (h : n ≤ 1000000) : ∃ a : Nat, wrap64 (1 + (bits .and .i64 p 4611686018427387903).tmod (n : Int)) = (a : Int) ∧ 1 ≤ a ∧ a ≤ n := by
  obtain ⟨a, e, _⟩ := mask62S p
  rw [e]
  have hm := Nat.mod_lt a hn
  refine ⟨1 + a % n, ?_, by omega, by omega⟩
  show wrap64 (1 + ((a % n : Nat) : Int)) = _
  unfold wrap64
  omega
end Go.Proofs.YtedfjacmaidhkaaGreat

/- Plain mathematics of ordered texts: groups of eight with a byte behind each. No program is named here. -/
namespace Go.Proofs.YtedfjacmaidhkaaGreat.M
set_option maxRecDepth 100000

/-- The last group. -/
def pad (l : List UInt8) : List UInt8 := l ++ List.replicate (8 - l.length) 0 ++ [UInt8.ofNat (247 + l.length)]
def obF : Nat → List UInt8 → List UInt8
  | 0, l => pad l
  | k + 1, l => if l.length < 8 then pad l else l.take 8 ++ [255] ++ obF k (l.drop 8)
/-- A text in a form whose order is that of the texts. -/
def ob (l : List UInt8) : List UInt8 := obF (l.length / 8) l
def key (l : List UInt8) (n : Nat) : List UInt8 := ob l ++ be 8 (18446744073709551615 - n)

theorem pad_length (l : List UInt8) (h : l.length < 8) : (pad l).length = 9 := by simp [pad]; omega
theorem obF_length (k : Nat) (l : List UInt8) (h : l.length < 8 * (k + 1)) : (obF k l).length = 9 * (l.length / 8 + 1) := by
  induction k generalizing l with
  | zero => rw [obF, pad_length l (by omega)]; omega
  | succ k ih =>
    rw [obF]
    split
    · rename_i h1; rw [pad_length l h1]; omega
    · rename_i h1
      have := ih (l.drop 8) (by simp; omega)
      simp only [List.length_append, List.length_take, List.length_singleton, this, List.length_drop]
      omega
theorem ob_length (l : List UInt8) : (ob l).length = 9 * (l.length / 8 + 1) := obF_length _ l (by omega)
theorem obF_short (k : Nat) (l : List UInt8) (h : l.length < 8) : obF k l = pad l := by
  cases k with
  | zero => rfl
  | succ k => rw [obF, if_pos h]
theorem obF_long (k : Nat) (l : List UInt8) (h : 8 ≤ l.length) (hk : l.length < 8 * (k + 1)) : ∃ k', k = k' + 1 ∧ obF k l = l.take 8 ++ [255] ++ obF k' (l.drop 8) ∧ (l.drop 8).length < 8 * (k' + 1) := by
  cases k with
  | zero => omega
  | succ k => exact ⟨k, rfl, by rw [obF, if_neg (by omega)], by simp; omega⟩
theorem key_length (l : List UInt8) (n : Nat) : (key l n).length = 9 * (l.length / 8 + 1) + 8 := by simp [key, ob_length, be_length]

/-- One group read: what of it was not filled up, and the error. -/
def tg (l : List UInt8) : List UInt8 × Nat :=
  if l.length < 9 then ([], 10) else if (l.getD 8 0).toNat < 247 then ([], 12)
  else if ((l.take 8).drop ((l.getD 8 0).toNat - 247)).all (fun x => x == 0) then (l.take ((l.getD 8 0).toNat - 247), 0) else ([], 12)
/-- Group by group, behind what was read so far. -/
def tbA : Nat → List UInt8 → List UInt8 → List UInt8 × List UInt8 × Nat
  | 0, _, _ => ([], [], 10)
  | k + 1, acc, l => if (tg l).2 ≠ 0 then ([], [], (tg l).2) else if (tg l).1.length < 8 then (acc ++ (tg l).1, l.drop 9, 0) else tbA k (acc ++ (tg l).1) (l.drop 9)
def tb (l : List UInt8) : List UInt8 × List UInt8 × Nat := tbA (l.length + 1) [] l

theorem tg_ok (l : List UInt8) (h : (tg l).2 = 0) : 9 ≤ l.length ∧ 247 ≤ (l.getD 8 0).toNat ∧ (tg l).1 = l.take ((l.getD 8 0).toNat - 247) ∧ ((l.take 8).drop ((l.getD 8 0).toNat - 247)).all (fun x => x == 0) = true := by
  unfold tg at h ⊢
  by_cases h1 : l.length < 9
  · rw [if_pos h1] at h; cases h
  · rw [if_neg h1] at h ⊢
    by_cases h2 : (l.getD 8 0).toNat < 247
    · rw [if_pos h2] at h; cases h
    · rw [if_neg h2] at h ⊢
      by_cases h3 : ((l.take 8).drop ((l.getD 8 0).toNat - 247)).all (fun x => x == 0) = true
      · rw [if_pos h3]; exact ⟨Nat.not_lt.1 h1, Nat.not_lt.1 h2, rfl, h3⟩
      · rw [if_neg h3] at h; cases h
theorem tg_len (l : List UInt8) (h : (tg l).2 = 0) : (tg l).1.length = (l.getD 8 0).toNat - 247 ∧ (tg l).1.length ≤ 8 := by
  obtain ⟨h1, h2, h3, _⟩ := tg_ok l h
  have := (l.getD 8 0).toNat_lt
  rw [h3, List.length_take]
  omega
theorem tbA_len (k : Nat) (acc l : List UInt8) : (tbA k acc l).1.length ≤ acc.length + l.length ∧ (tbA k acc l).2.1.length ≤ l.length := by
  induction k generalizing acc l with
  | zero => simp [tbA]
  | succ k ih =>
    rw [tbA]
    by_cases h1 : (tg l).2 ≠ 0
    · rw [if_pos h1]; simp
    · rw [if_neg h1]
      have hz : (tg l).2 = 0 := by simpa using h1
      have hl := tg_len l hz
      have h9 := (tg_ok l hz).1
      by_cases h2 : (tg l).1.length < 8
      · rw [if_pos h2]; simp; omega
      · rw [if_neg h2]
        have := ih (acc ++ (tg l).1) (l.drop 9)
        simp only [List.length_append, List.length_drop] at this
        omega
/-- What a key is read as: the key, the time, the error. -/
def tk (l : List UInt8) : List UInt8 × Nat × Nat :=
  let r := tb l
  if r.2.2 ≠ 0 then ([], 0, r.2.2) else if r.2.1.length < 8 then ([], 0, 10) else if r.2.1.length ≠ 8 then ([], 0, 12) else (r.1, 18446744073709551615 - num (r.2.1.take 8), 0)
end Go.Proofs.YtedfjacmaidhkaaGreat.M

/- How an argument that came in is read: a slice of bytes as 'Rd', with the form's own bound on its length. -/
namespace Go.Proofs.YtedfjacmaidhkaaGreat
open Go.ChangeShapes Go.WideShapes Go.ChangeAt Go.RowKit
set_option linter.unusedVariables false
set_option maxRecDepth 100000

theorem Tryz.bytes5 : Tryz.prog.bytesOf 5 = 1 := by kernel_rfl

/-- A slice of bytes that came in. -/
theorem open_bytes {H : Type} {enc : TypeId × Value → H} {W : World} {a0 : Option Addr} {len cap : Nat} {d : DataW H} {p : List MemPlace} (h : DataW.Trod enc Tryz.prog W 0 (fun _ => true) true 35 (.slice a0 len cap) d p) :
    ∃ l : List UInt8, Rd W (.slice a0 len cap) l ∧ l.length = len ∧ ∃ zs : List Int, (a0 = none ∧ len = 0) ∨ d = .slice (lits .u8 (zs.take len)) (lits .u8 (zs.drop len)) ∧ zs.length = cap ∧ len ≤ cap := by
  obtain ⟨fuel, hf⟩ := h
  rcases open_ints Tryz.underlying35 Tryz.underlying5 (by kernel_rfl) hf with ⟨hcs, _⟩ | ⟨x, n, c, zs, hcs, _, hl, hm, hz, hd, hcell, hwz⟩
  · simp [Value.cells] at hcs
    obtain ⟨rfl, rfl, rfl⟩ := hcs
    exact ⟨[], Rd.nil _, rfl, [], .inl ⟨rfl, rfl⟩⟩
  · simp [Value.cells] at hcs
    obtain ⟨rfl, rfl, rfl⟩ := hcs
    have hz' : zs.length = cap := by simpa using hz
    have hlen : ((zs.take len).map (fun z => UInt8.ofNat z.toNat)).length = len := by simp; omega
    refine ⟨(zs.take len).map (fun z => UInt8.ofNat z.toNat), Rd.mk hlen.symm (by omega) hm (fun i hi => ?_), hlen, zs, .inr ⟨?_, hz', hl⟩⟩
    · have hi' : i < zs.length := by omega
      rw [hcell i hi']
      have hw := hwz (zs[i]) (List.getElem_mem hi')
      have hx : 0 ≤ zs[i] ∧ zs[i] ≤ 255 := by simpa [Lit.wf, IntKind.min, IntKind.max, IntKind.signed, IntKind.bits] using hw
      have e : zs.getD i 0 = zs[i] := by simp [hi']
      rw [e]
      simp only [List.getElem_map, List.getElem_take]
      rw [M.u8_ofNat]
      congr 2
      omega
    · simp only [Prod.mk.injEq] at hd
      exact hd.1

end Go.Proofs.YtedfjacmaidhkaaGreat

/- Plain mathematics: the order of texts, of ordered texts and of numbers in bytes. No program is named here. -/
namespace Go.Proofs.YtedfjacmaidhkaaGreat.M
set_option maxRecDepth 100000

/-- -1, 0, 1: byte by byte, the shorter one first. -/
def cmpL : List UInt8 → List UInt8 → Int
  | [], [] => 0
  | [], _ :: _ => -1
  | _ :: _, [] => 1
  | x :: r, y :: s => if x = y then cmpL r s else if x < y then -1 else 1

theorem cmpL_self (l : List UInt8) : cmpL l l = 0 := by
  induction l with
  | nil => rfl
  | cons x l ih => simp [cmpL, ih]
theorem cmpL_zero {a b : List UInt8} (h : cmpL a b = 0) : a = b := by
  induction a generalizing b with
  | nil => cases b with
    | nil => rfl
    | cons y s => simp [cmpL] at h
  | cons x r ih => cases b with
    | nil => simp [cmpL] at h
    | cons y s =>
      simp only [cmpL] at h
      by_cases hxy : x = y
      · rw [if_pos hxy] at h; rw [hxy, ih h]
      · rw [if_neg hxy] at h; split at h <;> omega
theorem cmpL_iff (a b : List UInt8) : cmpL a b = 0 ↔ a = b := ⟨cmpL_zero, fun h => h ▸ cmpL_self a⟩

/-- Of the same length ahead. -/
theorem cmpL_app (p q x y : List UInt8) (h : p.length = q.length) : cmpL (p ++ x) (q ++ y) = if p = q then cmpL x y else cmpL p q := by
  induction p generalizing q with
  | nil =>
    obtain rfl : q = [] := List.length_eq_zero_iff.1 (by simpa using h.symm)
    simp
  | cons a p ih =>
    cases q with
    | nil => simp at h
    | cons b q =>
      simp only [List.cons_append, cmpL]
      by_cases hab : a = b
      · rw [if_pos hab, if_pos hab, ih q (by simpa using h)]
        simp [hab]
      · have hn : ¬ (a :: p = b :: q) := by simp [hab]
        rw [if_neg hab, if_neg hn, if_neg hab]

theorem cmpL_take (n : Nat) (a b : List UInt8) : cmpL a b = if a.take n = b.take n then cmpL (a.drop n) (b.drop n) else cmpL (a.take n) (b.take n) := by
  induction n generalizing a b with
  | zero => simp
  | succ n ih =>
    cases a with
    | nil => cases b with
      | nil => simp
      | cons y s => simp [cmpL]
    | cons x r => cases b with
      | nil => simp [cmpL]
      | cons y s =>
        simp only [List.take_succ_cons, List.drop_succ_cons, cmpL]
        by_cases hxy : x = y
        · rw [if_pos hxy, ih r s]; simp [hxy]
        · have hn : ¬ (x :: r.take n = y :: s.take n) := by simp [hxy]
          rw [if_neg hxy, if_neg hn, if_neg hxy]

/-- Filled up with zeros to n. -/
def zn (n : Nat) (l : List UInt8) : List UInt8 := l ++ List.replicate (n - l.length) 0

theorem u8_pos (y : UInt8) (h : y ≠ 0) : (0 : UInt8) < y := by
  rw [UInt8.lt_iff_toNat_lt]
  have : y.toNat ≠ 0 := fun e => h (UInt8.toNat_inj.1 (by simpa using e))
  simpa using Nat.pos_of_ne_zero this

theorem zn_nil_lt (n : Nat) (m : List UInt8) (c d : UInt8) (hm : m.length ≤ n) (hcd : c < d) : cmpL (zn n [] ++ [c]) (zn n m ++ [d]) = -1 := by
  induction n generalizing m with
  | zero =>
    obtain rfl : m = [] := List.length_eq_zero_iff.1 (by omega)
    have : c ≠ d := fun e => by rw [e] at hcd; exact absurd hcd (UInt8.lt_irrefl _)
    simp [zn, cmpL, this, hcd]
  | succ n ih =>
    cases m with
    | nil =>
      have := ih [] (by simp)
      simpa [zn, List.replicate_succ, cmpL] using this
    | cons y s =>
      have e1 : zn (n + 1) [] = 0 :: zn n [] := by simp [zn, List.replicate_succ]
      have e2 : zn (n + 1) (y :: s) = y :: zn n s := by simp [zn]
      rw [e1, e2]
      simp only [List.cons_append, cmpL]
      by_cases hy : (0 : UInt8) = y
      · rw [if_pos hy]; exact ih s (by simpa using hm)
      · rw [if_neg hy, if_pos (u8_pos y (fun e => hy e.symm))]
theorem zn_nil_gt (n : Nat) (m : List UInt8) (c d : UInt8) (hm : m.length ≤ n) (hcd : c < d) : cmpL (zn n m ++ [d]) (zn n [] ++ [c]) = 1 := by
  induction n generalizing m with
  | zero =>
    obtain rfl : m = [] := List.length_eq_zero_iff.1 (by omega)
    have h1 : d ≠ c := fun e => by rw [e] at hcd; exact absurd hcd (UInt8.lt_irrefl _)
    have h2 : ¬ d < c := UInt8.lt_asymm hcd
    simp [zn, cmpL, h1, h2]
  | succ n ih =>
    cases m with
    | nil =>
      have := ih [] (by simp)
      simpa [zn, List.replicate_succ, cmpL] using this
    | cons y s =>
      have e1 : zn (n + 1) [] = 0 :: zn n [] := by simp [zn, List.replicate_succ]
      have e2 : zn (n + 1) (y :: s) = y :: zn n s := by simp [zn]
      rw [e1, e2]
      simp only [List.cons_append, cmpL]
      by_cases hy : y = 0
      · rw [if_pos hy]; exact ih s (by simpa using hm)
      · rw [if_neg hy, if_neg (UInt8.lt_asymm (u8_pos y hy))]

theorem u8_lt (a b : Nat) (h : a < b) (hb : b < 256) : UInt8.ofNat a < UInt8.ofNat b := by
  rw [UInt8.lt_iff_toNat_lt, UInt8.toNat_ofNat', UInt8.toNat_ofNat']; omega

/-- A group is in the order of what it holds. -/
theorem grp_cmp (n c : Nat) (l m : List UInt8) (hl : l.length ≤ n) (hm : m.length ≤ n) (hc : c + n < 256) :
    cmpL (zn n l ++ [UInt8.ofNat (c + l.length)]) (zn n m ++ [UInt8.ofNat (c + m.length)]) = cmpL l m := by
  induction l generalizing m n c with
  | nil =>
    cases m with
    | nil => rw [cmpL_self, cmpL_self]
    | cons y s => rw [zn_nil_lt n (y :: s) _ _ hm (u8_lt _ _ (by simp) (by omega))]; rfl
  | cons x r ih =>
    cases m with
    | nil => rw [zn_nil_gt n (x :: r) _ _ hl (u8_lt _ _ (by simp) (by omega))]; rfl
    | cons y s =>
      obtain ⟨n, rfl⟩ : ∃ k, n = k + 1 := ⟨n - 1, by simp at hl; omega⟩
      have e1 : zn (n + 1) (x :: r) = x :: zn n r := by simp [zn]
      have e2 : zn (n + 1) (y :: s) = y :: zn n s := by simp [zn]
      rw [e1, e2]
      simp only [List.cons_append, cmpL, List.length_cons]
      by_cases hxy : x = y
      · rw [if_pos hxy, if_pos hxy]
        have := ih n (c + 1) s (by simpa using hl) (by simpa using hm) (by omega)
        rw [show c + (r.length + 1) = c + 1 + r.length by omega, show c + (s.length + 1) = c + 1 + s.length by omega]
        exact this
      · rw [if_neg hxy, if_neg hxy]

/-- An ordered text, group by group. -/
theorem ob_grp (l : List UInt8) : ob l = (zn 8 (l.take 8) ++ [UInt8.ofNat (247 + (l.take 8).length)]) ++ (if 8 ≤ l.length then ob (l.drop 8) else []) := by
  by_cases h : 8 ≤ l.length
  · rw [if_pos h]
    obtain ⟨k', e, e1, e2⟩ := obF_long (l.length / 8) l h (by omega)
    rw [ob, e1]
    have hk : k' = (l.drop 8).length / 8 := by simp; omega
    have h8 : (l.take 8).length = 8 := by simp; omega
    rw [hk, show obF ((l.drop 8).length / 8) (l.drop 8) = ob (l.drop 8) from rfl]
    simp only [zn, h8, Nat.sub_self, List.replicate_zero, List.append_nil]
    rfl
  · rw [if_neg h, ob, obF_short _ l (by omega), List.take_of_length_le (by omega), List.append_nil]
    rfl

theorem grp_len (l : List UInt8) : (zn 8 (l.take 8) ++ [UInt8.ofNat (247 + (l.take 8).length)]).length = 9 := by simp [zn]; omega
theorem take8_le (l : List UInt8) : (l.take 8).length ≤ 8 := by simp; omega

theorem ob_cmp (a b : List UInt8) : cmpL (ob a) (ob b) = cmpL a b := by
  obtain ⟨n, hn⟩ : ∃ n, a.length ≤ n := ⟨_, Nat.le_refl _⟩
  induction n using Nat.strongRecOn generalizing a b with
  | ind n ih =>
    rw [ob_grp a, ob_grp b, cmpL_app _ _ _ _ (by rw [grp_len, grp_len]), grp_cmp 8 247 _ _ (take8_le a) (take8_le b) (by decide), cmpL_take 8 a b]
    by_cases h : a.take 8 = b.take 8
    · rw [if_pos (by rw [h]), if_pos h]
      have hlen := congrArg List.length h
      simp only [List.length_take] at hlen
      by_cases ha : 8 ≤ a.length
      · have hb : 8 ≤ b.length := by omega
        rw [if_pos ha, if_pos hb]
        exact ih (n - 8) (by omega) (a.drop 8) (b.drop 8) (by simp; omega)
      · have hb : ¬ 8 ≤ b.length := by omega
        rw [if_neg ha, if_neg hb, List.drop_eq_nil_of_le (by omega), List.drop_eq_nil_of_le (by omega)]
    · have hg : ¬ (zn 8 (a.take 8) ++ [UInt8.ofNat (247 + (a.take 8).length)]) = zn 8 (b.take 8) ++ [UInt8.ofNat (247 + (b.take 8).length)] := by
        intro e
        have := grp_cmp 8 247 _ _ (take8_le a) (take8_le b) (by decide)
        rw [e, cmpL_self] at this
        exact h (cmpL_zero this.symm)
      rw [if_neg hg, if_neg h]

/-- None is the beginning of another. -/
theorem ob_free (a b x : List UInt8) (h : ob b = ob a ++ x) : a = b := by
  obtain ⟨n, hn⟩ : ∃ n, a.length ≤ n := ⟨_, Nat.le_refl _⟩
  induction n using Nat.strongRecOn generalizing a b with
  | ind n ih =>
    rw [ob_grp a, ob_grp b] at h
    have hi := List.append_inj (h.trans (List.append_assoc _ _ _)) (by rw [grp_len, grp_len])
    have h8 : a.take 8 = b.take 8 := by
      have := grp_cmp 8 247 _ _ (take8_le a) (take8_le b) (by decide)
      rw [hi.1, cmpL_self] at this
      exact cmpL_zero this.symm
    have hlen := congrArg List.length h8
    simp only [List.length_take] at hlen
    by_cases ha : 8 ≤ a.length
    · have hb : 8 ≤ b.length := by omega
      have h2 := hi.2
      rw [if_pos ha, if_pos hb] at h2
      have := ih (n - 8) (by omega) (a.drop 8) (b.drop 8) h2 (by simp; omega)
      rw [← List.take_append_drop 8 a, ← List.take_append_drop 8 b, h8, this]
    · have hb : ¬ 8 ≤ b.length := by omega
      rwa [List.take_of_length_le (by omega), List.take_of_length_le (by omega)] at h8

/-- Where none is the beginning of the other, what stands behind turns nothing. -/
theorem cmpL_free (p q x y : List UInt8) (h1 : ∀ z, q ≠ p ++ z) (h2 : ∀ z, p ≠ q ++ z) : cmpL (p ++ x) (q ++ y) = cmpL p q := by
  induction p generalizing q with
  | nil => exact absurd rfl (h1 q)
  | cons a p ih =>
    cases q with
    | nil => exact absurd rfl (h2 (a :: p))
    | cons b q =>
      simp only [List.cons_append, cmpL]
      by_cases hab : a = b
      · rw [if_pos hab, if_pos hab]
        exact ih q (fun z e => h1 z (by rw [hab, e]; rfl)) (fun z e => h2 z (by rw [hab, e]; rfl))
      · rw [if_neg hab, if_neg hab]

def cmpN (s t : Nat) : Int := if s < t then -1 else if t < s then 1 else 0

theorem be_mod (k n : Nat) : be k n = be k (n % 2 ^ (8 * k)) := by
  suffices H : ∀ j, j ≤ k → be j n = be j (n % 2 ^ (8 * k)) from H k (Nat.le_refl _)
  intro j
  induction j with
  | zero => intro _; rfl
  | succ j ih =>
    intro hj
    rw [be, be, ih (by omega)]
    congr 1
    apply UInt8.toNat_inj.1
    rw [UInt8.toNat_ofNat', UInt8.toNat_ofNat']
    have e : 2 ^ (8 * k) = 2 ^ (8 * j) * (256 * 2 ^ (8 * (k - j - 1))) := by
      rw [show (256 : Nat) = 2 ^ 8 from rfl, ← Nat.pow_add, ← Nat.pow_add]
      congr 1; omega
    rw [e, Nat.mod_mul_right_div_self]
    rw [Nat.mod_mul_right_mod]

theorem be_cmp (k s t : Nat) (hs : s < 2 ^ (8 * k)) (ht : t < 2 ^ (8 * k)) : cmpL (be k s) (be k t) = cmpN s t := by
  induction k generalizing s t with
  | zero =>
    have h1 : s = 0 := by simpa using hs
    have h2 : t = 0 := by simpa using ht
    subst h1; subst h2; rfl
  | succ k ih =>
    have hP : 0 < 2 ^ (8 * k) := Nat.pow_pos (by decide)
    have e : 2 ^ (8 * (k + 1)) = 2 ^ (8 * k) * 256 := by rw [show 8 * (k + 1) = 8 * k + 8 by omega, Nat.pow_add]
    rw [e] at hs ht
    have hs1 : s / 2 ^ (8 * k) < 256 := Nat.div_lt_of_lt_mul hs
    have ht1 : t / 2 ^ (8 * k) < 256 := Nat.div_lt_of_lt_mul ht
    rw [be, be, cmpL, be_mod k s, be_mod k t, ih _ _ (Nat.mod_lt _ hP) (Nat.mod_lt _ hP)]
    have ds := Nat.div_add_mod s (2 ^ (8 * k))
    have dt := Nat.div_add_mod t (2 ^ (8 * k))
    have ms := Nat.mod_lt s hP
    have mt := Nat.mod_lt t hP
    generalize s / 2 ^ (8 * k) = a at *
    generalize t / 2 ^ (8 * k) = b at *
    generalize s % 2 ^ (8 * k) = c at *
    generalize t % 2 ^ (8 * k) = d at *
    generalize 2 ^ (8 * k) = P at *
    by_cases hab : a = b
    · subst hab
      rw [if_pos rfl]
      unfold cmpN
      by_cases h1 : c < d
      · have h3 : s < t := by omega
        rw [if_pos h1, if_pos h3]
      · have h3 : ¬ s < t := by omega
        rw [if_neg h1, if_neg h3]
        by_cases h2 : d < c
        · have h4 : t < s := by omega
          rw [if_pos h2, if_pos h4]
        · have h4 : ¬ t < s := by omega
          rw [if_neg h2, if_neg h4]
    · have hne : ¬ UInt8.ofNat a = UInt8.ofNat b := fun e => by
        have := congrArg UInt8.toNat e
        rw [UInt8.toNat_ofNat', UInt8.toNat_ofNat'] at this
        omega
      rw [if_neg hne]
      unfold cmpN
      by_cases hlt : a < b
      · have hm : P * a + P ≤ P * b := by rw [← Nat.mul_succ]; exact Nat.mul_le_mul_left _ hlt
        rw [if_pos (u8_lt a b hlt ht1), if_pos (by omega)]
      · have hlt' : b < a := by omega
        have hm : P * b + P ≤ P * a := by rw [← Nat.mul_succ]; exact Nat.mul_le_mul_left _ hlt'
        rw [if_neg (UInt8.lt_asymm (u8_lt b a hlt' hs1)), if_neg (by omega), if_pos (by omega)]
end Go.Proofs.YtedfjacmaidhkaaGreat.M

/- What bytes.Compare answers of two slices of bytes: -1, 0, 1, byte by byte, the shorter one first. -/
namespace Go.Proofs.YtedfjacmaidhkaaGreat
open Go.RowKit
set_option linter.unusedVariables false
set_option maxRecDepth 100000

theorem cmpL_lib : ∀ (a b : List UInt8), Lib.compareBytes a b = M.cmpL a b
  | [], [] => rfl
  | [], _ :: _ => rfl
  | _ :: _, [] => rfl
  | x :: r, y :: s => by
    rw [Lib.compareBytes, M.cmpL, cmpL_lib r s]
    by_cases h : x = y
    · subst h
      rw [if_neg (UInt8.lt_irrefl _), if_neg (UInt8.lt_irrefl _), if_pos rfl]
    · rw [if_neg h]
      by_cases h1 : x < y
      · rw [if_pos h1, if_pos h1]
      · have h2 : y < x := by
          rw [UInt8.lt_iff_toNat_lt] at h1 ⊢
          have : x.toNat ≠ y.toNat := fun e => h (UInt8.toNat_inj.1 e)
          omega
        rw [if_neg h1, if_neg h1, if_pos h2]

theorem run_loadL {P : Program} (w : World) : ∀ (l : List UInt8) (a : Addr) (acc : ByteArray), (∀ j x, l[j]? = some x → w.cell? (a.add j) = some (.int .u8 (x.toNat : Int))) →
    (Extern.Bytes.loadBytes a l.length acc).run P w = .ok ⟨acc.data ++ l.toArray⟩ w
  | [], a, acc, _ => by simp [Extern.Bytes.loadBytes]
  | x :: l, a, acc, h => by
    have h0 : w.cell? a = some (.int .u8 (x.toNat : Int)) := by
      have := h 0 x rfl
      simpa [Addr.add] using this
    have ih := run_loadL (P := P) w l (a.add 1) (acc.push x) (fun j y hy => by
      have := h (j + 1) y (by simpa using hy)
      have e : (a.add 1).add j = a.add (j + 1) := by
        unfold Addr.add
        by_cases hj : j = 0
        · subst hj; simp
        · simp [hj]; omega
      rw [e]; exact this)
    have hx : (((x.toNat : Nat) : Int).toNat.toUInt8) = x := by simp
    simp only [List.length_cons, Extern.Bytes.loadBytes, Sem.run_bind, run_load, h0, Result.andThen, hx]
    rw [ih]
    congr 1
    apply ByteArray.ext
    simp [ByteArray.push]

theorem run_bytesOfL {P : Program} {w : World} {v : Value} {l : List UInt8} (h : Rd w v l) : (Extern.Bytes.bytesOf v).run P w = .ok ⟨l.toArray⟩ w := by
  rcases h.two with ⟨rfl, rfl⟩ | ⟨a, c, rfl, h1, h2, h3⟩
  · simp only [Extern.Bytes.bytesOf, Sem.run_pure]; rfl
  · simp only [Extern.Bytes.bytesOf]
    rw [run_loadL w l a .empty (fun j x hj => by
      obtain ⟨hl, rfl⟩ := List.getElem?_eq_some_iff.1 hj
      exact h3 j hl)]
    congr 1
    apply ByteArray.ext
    show (#[] : Array UInt8) ++ l.toArray = l.toArray
    simp

theorem run_compareL {P : Program} {w : World} {v u : Value} {l m : List UInt8} (h : Rd w v l) (k : Rd w u m) : (Extern.BytealgCompare.compare #[v, u]).run P w = .ok (.int .i64 (M.cmpL l m)) w := by
  change Sem.run P (do pure (goInt (Extern.BytealgCompare.cmp (← Extern.Bytes.bytesOf v) (← Extern.Bytes.bytesOf u)))) w = _
  simp only [Sem.run_bind, Sem.run_pure, run_bytesOfL h, run_bytesOfL k, Result.andThen]
  rw [Lib.cmp_eq]
  show Result.ok (goInt (Lib.compareBytes l m)) w = _
  rw [cmpL_lib]
  rfl

theorem bcompare_any {va vb : Value} {la lb : List UInt8} {w : World} (ha : Rd w va la) (hb : Rd w vb lb) :
    Calls Tryz.prog 46 #[va, vb] w fun e w' => e = .returned (.int .i64 (M.cmpL la lb)) ∧ w' = w := by
  have hr := run_compareL (P := Tryz.prog) ha hb
  obtain ⟨ao, ca, rfl, _⟩ := ha
  obtain ⟨bo, cb, rfl, _⟩ := hb
  go_enter Tryz.func46, Tryz.ntmps46
  go_wp2
  rw [run_callFunc_extern Tryz.func72 (by kernel_rfl) (by kernel_rfl) (by kernel_rfl) (e := Extern.BytealgCompare.compare) (by kernel_rfl), hr]
  simp only [Result.andThen]
  rw [Oper.upon_value]
  go_wp2
  go_ret
  exact ⟨rfl, rfl⟩
end Go.Proofs.YtedfjacmaidhkaaGreat

/- What bytes.Equal answers of two slices of bytes. -/

/- Plain mathematics of a heap of which one place may be wrong both ways. -/
namespace Go.Proofs.YtedfjacmaidhkaaGreat.M
set_option maxRecDepth 100000
set_option linter.unusedVariables false

section
variable {α : Type} {lt : α → α → Bool}
variable (lt)
/-- Of the first n none stands ahead of its parent, but perhaps the one at j, or those whose parent is j. -/
def HpX (H : List α) (n j : Nat) : Prop := (∀ i x y, 0 < i → i < n → i ≠ j → (i - 1) / 2 ≠ j → H[i]? = some x → H[(i - 1) / 2]? = some y → lt x y = false) ∧ ∀ i x y, 0 < i → i < n → 0 < j → (i - 1) / 2 = j → H[i]? = some x → H[(j - 1) / 2]? = some y → lt x y = false
variable {lt}
theorem HpX.none {H : List α} {n j : Nat} (h : HpX lt H n j) (hn : n ≤ 2 * j + 1) : HpU lt H n j :=
  ⟨fun i x y h1 h2 h3 => h.1 i x y h1 h2 h3 (by omega), h.2⟩
theorem HpX.ok {H : List α} {n j c : Nat} {x z : α} (tr : ∀ a b c : α, lt b a = false → lt c b = false → lt c a = false) (h : HpX lt H n j) (hx : H[j]? = some x) (hz : H[c]? = some z) (hc : ∀ k a, 0 < k → k < n → (k - 1) / 2 = j → H[k]? = some a → lt a z = false) (hl : lt z x = false) : HpU lt H n j := by
  refine ⟨fun i a b h1 h2 h3 ha hb => ?_, h.2⟩
  by_cases e : (i - 1) / 2 = j
  · rw [e, hx] at hb
    obtain rfl := Option.some.inj hb
    exact tr _ _ _ hl (hc i a h1 h2 e ha)
  · exact h.1 i a b h1 h2 h3 e ha hb
theorem HpX.down {H : List α} {n j c : Nat} {x z : α} (asy : ∀ a b : α, lt a b = true → lt b a = false) (hn : n ≤ H.length) (hc0 : 0 < c) (hcn : c < n) (hcj : (c - 1) / 2 = j) (h : HpX lt H n j) (hx : H[j]? = some x) (hz : H[c]? = some z) (hc : ∀ k a, 0 < k → k < n → (k - 1) / 2 = j → H[k]? = some a → lt a z = false) (hl : lt z x = true) : HpD lt (sw H j c) n c := by
  obtain ⟨h1, h2⟩ := h
  have hxz := asy _ _ hl
  have at_ := fun k => sw_at (H := H) (i := j) (j := c) (by omega) (by omega) k
  constructor
  · intro k a b k0 kn kc ha hb
    rw [at_] at ha hb
    rw [if_neg kc] at hb
    by_cases e1 : k = c
    · subst e1
      rw [if_pos rfl, hx] at ha
      rw [if_pos hcj, hz] at hb
      obtain rfl := Option.some.inj ha
      obtain rfl := Option.some.inj hb
      exact hxz
    · rw [if_neg e1] at ha
      by_cases e2 : (k - 1) / 2 = j
      · rw [if_pos e2, hz] at hb
        obtain rfl := Option.some.inj hb
        rw [if_neg (by omega)] at ha
        exact hc k a k0 kn e2 ha
      · rw [if_neg e2] at hb
        by_cases e3 : k = j
        · subst e3
          rw [if_pos rfl, hz] at ha
          obtain rfl := Option.some.inj ha
          exact h2 c z b hc0 hcn k0 hcj hz hb
        · rw [if_neg e3] at ha
          exact h1 k a b k0 kn e3 e2 ha hb
  · intro k a b k0 kn c0 ek ha hb
    rw [at_] at ha hb
    rw [hcj, if_neg (by omega), if_pos rfl, hz] at hb
    obtain rfl := Option.some.inj hb
    rw [if_neg (by omega), if_neg (by omega)] at ha
    exact h1 k a z k0 kn (by omega) (by omega) ha (by rw [ek]; exact hz)
/-- One set anew. -/
theorem Hp.setX {H : List α} {n j : Nat} (h : Hp lt H n) (hn : n ≤ H.length) (hj : j < n) (e : α) (tr : ∀ a b c : α, lt b a = false → lt c b = false → lt c a = false) : HpX lt (H.set j e) n j := by
  constructor
  · intro i x y h1 h2 h3 h4 hx hy
    rw [List.getElem?_set_ne (Ne.symm h3)] at hx
    rw [List.getElem?_set_ne (Ne.symm h4)] at hy
    exact h i x y h1 h2 hx hy
  · intro i x y h1 h2 h3 h4 hx hy
    rw [List.getElem?_set_ne (by omega)] at hx
    rw [List.getElem?_set_ne (by omega)] at hy
    obtain ⟨z, hz⟩ : ∃ z, H[j]? = some z := ⟨_, List.getElem?_eq_getElem (by omega)⟩
    exact tr _ _ _ (h j z y h3 hj hz hy) (h i x z h1 h2 hx (by rw [h4]; exact hz))
/-- One swapped with the last. -/
theorem Hp.swX {H : List α} {n j : Nat} (h : Hp lt H H.length) (hn : H.length = n + 1) (hj : j < n) (tr : ∀ a b c : α, lt b a = false → lt c b = false → lt c a = false) : HpX lt (sw H j n) n j := by
  have at_ := fun k => sw_at (H := H) (i := j) (j := n) (by omega) (by omega) k
  constructor
  · intro i x y h1 h2 h3 h4 hx hy
    rw [at_, if_neg (by omega), if_neg h3] at hx
    rw [at_, if_neg (by omega), if_neg h4] at hy
    exact h i x y h1 (by omega) hx hy
  · intro i x y h1 h2 h3 h4 hx hy
    rw [at_, if_neg (by omega), if_neg (by omega)] at hx
    rw [at_, if_neg (by omega), if_neg (by omega)] at hy
    obtain ⟨z, hz⟩ : ∃ z, H[j]? = some z := ⟨_, List.getElem?_eq_getElem (by omega)⟩
    exact tr _ _ _ (h j z y h3 (by omega) hz hy) (h i x z h1 (by omega) hx (by rw [h4]; exact hz))
theorem Hp.take {H : List α} {n : Nat} (h : Hp lt H n) : Hp lt (H.take n) n := by
  intro i a b i1 i2 ha hb
  rw [List.getElem?_take, if_pos i2] at ha
  rw [List.getElem?_take, if_pos (by omega)] at hb
  exact h i a b i1 i2 ha hb
/-- Of one swapped with the last, the first n are the others. -/
theorem sw_last {H : List α} {n j : Nat} (hn : H.length = n + 1) (hj : j < n) : ((sw H j n).take n).Perm (H.eraseIdx j) := by
  have h1 : (sw H j n).Perm H := sw_perm (by omega) (by omega)
  obtain ⟨x, hx⟩ : ∃ x, H[j]? = some x := ⟨_, List.getElem?_eq_getElem (by omega)⟩
  have e1 : sw H j n = (sw H j n).take n ++ [x] := by
    have hl : (sw H j n).length = n + 1 := by rw [sw_len, hn]
    have hg : (sw H j n)[n]? = some x := by rw [sw_at (by omega) (by omega), if_pos rfl]; exact hx
    obtain ⟨q, e⟩ := List.getElem?_eq_some_iff.1 hg
    conv => lhs; rw [← List.take_append_drop n (sw H j n)]
    rw [List.drop_eq_getElem_cons q, e, List.drop_of_length_le (by omega)]
  have e2 : H.Perm (x :: H.eraseIdx j) := by
    obtain ⟨q, e⟩ := List.getElem?_eq_some_iff.1 hx
    have e3 : H = H.take j ++ x :: H.drop (j + 1) := by
      conv => lhs; rw [← List.take_append_drop j H]
      rw [List.drop_eq_getElem_cons q, e]
    rw [List.eraseIdx_eq_take_drop_succ]
    conv => lhs; rw [e3]
    exact List.perm_middle
  have h2 : (x :: (sw H j n).take n).Perm (x :: H.eraseIdx j) := by
    refine List.Perm.trans ?_ e2
    refine List.Perm.trans ?_ h1
    conv => rhs; rw [e1]
    exact List.perm_append_comm (l₁ := [x])
  exact (List.perm_cons x).1 h2
theorem HpU.upN {H : List α} {n j : Nat} {x y : α} (tr : ∀ a b c : α, lt b a = false → lt c b = false → lt c a = false) (asy : ∀ a b : α, lt a b = true → lt b a = false) (hn : n ≤ H.length) (hj : 0 < j) (hjn : j < n) (h : HpU lt H n j) (hx : H[j]? = some x) (hy : H[(j - 1) / 2]? = some y) (hl : lt x y = true) : HpU lt (sw H ((j - 1) / 2) j) n ((j - 1) / 2) := by
  obtain ⟨h1, h2⟩ := h
  have hyx := asy _ _ hl
  have at_ := fun k => sw_at (H := H) (i := (j - 1) / 2) (j := j) (by omega) (by omega) k
  constructor
  · intro k a b k0 kn ki ha hb
    rw [at_] at ha hb
    rw [if_neg ki] at ha
    by_cases e1 : k = j
    · subst e1
      rw [if_pos rfl, hy] at ha
      rw [if_neg (by omega), if_pos rfl, hx] at hb
      obtain rfl := Option.some.inj ha
      obtain rfl := Option.some.inj hb
      exact hyx
    · rw [if_neg e1] at ha
      by_cases e2 : (k - 1) / 2 = j
      · rw [if_pos e2] at hb
        exact h2 k a b k0 kn hj e2 ha hb
      · rw [if_neg e2] at hb
        by_cases e3 : (k - 1) / 2 = (j - 1) / 2
        · rw [if_pos e3, hx] at hb
          obtain rfl := Option.some.inj hb
          have := h1 k a y k0 kn e1 ha (by rw [e3]; exact hy)
          exact tr _ _ _ hyx this
        · rw [if_neg e3] at hb
          exact h1 k a b k0 kn e1 ha hb
  · intro k a b k0 kn i0 ek ha hb
    rw [at_] at ha hb
    rw [if_neg (by omega), if_neg (by omega)] at hb
    have hyb : lt y b = false := h1 ((j - 1) / 2) y b i0 (by omega) (by omega) hy hb
    by_cases e1 : k = j
    · subst e1
      rw [if_pos rfl, hy] at ha
      obtain rfl := Option.some.inj ha
      exact hyb
    · rw [if_neg e1, if_neg (by omega)] at ha
      have := h1 k a y k0 kn e1 ha (by rw [ek]; exact hy)
      exact tr _ _ _ hyb this

end
end Go.Proofs.YtedfjacmaidhkaaGreat.M

/- The library's slices.SortFunc at this program's views: the shelf's laying, in plain words. -/
namespace Go.Proofs.YtedfjacmaidhkaaGreat
open Go.RowKit Go.Shelf

def Tryz.sortV_ren : Go.Shelf.Ren := ⟨fun | 6 => 56 | 15 => 75 | 14 => 74 | 28 => 94 | 29 => 95 | 20 => 86 | 21 => 87 | 22 => 88 | 23 => 89 | 24 => 90 | 25 => 91 | 26 => 92 | 27 => 93 | 46 => 103 | 47 => 104 | 48 => 105 | 49 => 106 | 50 => 107 | 57 => 111 | n => n, fun | 22 => 25 | 24 => 42 | 25 => 107 | 3 => 3 | 39 => 120 | 0 => 0 | 53 => 140 | 55 => 30 | 4 => 4 | 46 => 134 | 45 => 133 | 50 => 108 | 5 => 5 | 9 => 9 | 66 => 157 | 70 => 161 | 76 => 167 | 77 => 168 | n => n, fun | n => n⟩
theorem Tryz.sortV : Go.Proofs.SlLaysF0.n6 Tryz.prog Tryz.sortV_ren := {
  mixed := by kernel_rfl
  f6 := ⟨Tryz.f56.name, by decide, Tryz.func56.trans (congrArg some (by kernel_rfl))⟩
  f14 := ⟨Tryz.f74.name, by decide, Tryz.func74.trans (congrArg some (by kernel_rfl))⟩
  f15 := Tryz.func75.trans (congrArg some (by kernel_rfl))
  f20 := ⟨Tryz.f86.name, by decide, Tryz.func86.trans (congrArg some (by kernel_rfl))⟩
  f21 := ⟨Tryz.f87.name, by decide, Tryz.func87.trans (congrArg some (by kernel_rfl))⟩
  f22 := ⟨Tryz.f88.name, by decide, Tryz.func88.trans (congrArg some (by kernel_rfl))⟩
  f23 := ⟨Tryz.f89.name, by decide, Tryz.func89.trans (congrArg some (by kernel_rfl))⟩
  f24 := ⟨Tryz.f90.name, by decide, Tryz.func90.trans (congrArg some (by kernel_rfl))⟩
  f25 := ⟨Tryz.f91.name, by decide, Tryz.func91.trans (congrArg some (by kernel_rfl))⟩
  f26 := ⟨Tryz.f92.name, by decide, Tryz.func92.trans (congrArg some (by kernel_rfl))⟩
  f27 := ⟨Tryz.f93.name, by decide, Tryz.func93.trans (congrArg some (by kernel_rfl))⟩
  f28 := Tryz.func94.trans (congrArg some (by kernel_rfl))
  f29 := Tryz.func95.trans (congrArg some (by kernel_rfl))
  f46 := ⟨Tryz.f103.name, by decide, Tryz.func103.trans (congrArg some (by kernel_rfl))⟩
  f47 := Tryz.func104.trans (congrArg some (by kernel_rfl))
  f48 := Tryz.func105.trans (congrArg some (by kernel_rfl))
  f49 := ⟨Tryz.f106.name, by decide, Tryz.func106.trans (congrArg some (by kernel_rfl))⟩
  f50 := ⟨Tryz.f107.name, by decide, Tryz.func107.trans (congrArg some (by kernel_rfl))⟩
  f57 := ⟨Tryz.f111.name, by decide, Tryz.func111.trans (congrArg some (by kernel_rfl))⟩
  t0 := Tryz.underlying0
  a0 := Tryz.isAgg0
  z0 := Tryz.sizeOf0
  v0 := Tryz.zeroValue0
  t3 := Tryz.underlying3
  a3 := Tryz.isAgg3
  z3 := Tryz.sizeOf3
  v3 := Tryz.zeroValue3
  t4 := Tryz.underlying4
  a4 := Tryz.isAgg4
  z4 := Tryz.sizeOf4
  v4 := Tryz.zeroValue4
  t5 := Tryz.underlying5
  a5 := Tryz.isAgg5
  z5 := Tryz.sizeOf5
  v5 := Tryz.zeroValue5
  t9 := Tryz.underlying9
  a9 := Tryz.isAgg9
  z9 := Tryz.sizeOf9
  v9 := Tryz.zeroValue9
  t22 := Tryz.underlying25
  a22 := Tryz.isAgg25
  z22 := Tryz.sizeOf25
  v22 := Tryz.zeroValue25
  t25 := Tryz.underlying107
  a25 := Tryz.isAgg107
  z25 := Tryz.sizeOf107
  v25 := Tryz.zeroValue107
  t39 := Tryz.underlying120
  a39 := Tryz.isAgg120
  z39 := Tryz.sizeOf120
  v39 := Tryz.zeroValue120
  t45 := Tryz.underlying133
  a45 := Tryz.isAgg133
  z45 := Tryz.sizeOf133
  v45 := Tryz.zeroValue133
  t46 := Tryz.underlying134
  a46 := Tryz.isAgg134
  z46 := Tryz.sizeOf134
  v46 := Tryz.zeroValue134
  t50 := Tryz.underlying108
  a50 := Tryz.isAgg108
  z50 := Tryz.sizeOf108
  v50 := Tryz.zeroValue108
  t53 := Tryz.underlying140
  a53 := Tryz.isAgg140
  z53 := Tryz.sizeOf140
  v53 := Tryz.zeroValue140
  t55 := Tryz.underlying30
  a55 := Tryz.isAgg30
  z55 := Tryz.sizeOf30
  v55 := Tryz.zeroValue30
  t66 := Tryz.underlying157
  a66 := Tryz.isAgg157
  z66 := Tryz.sizeOf157
  v66 := Tryz.zeroValue157
  t70 := Tryz.underlying161
  a70 := Tryz.isAgg161
  z70 := Tryz.sizeOf161
  v70 := Tryz.zeroValue161
  t76 := Tryz.underlying167
  a76 := Tryz.isAgg167
  z76 := Tryz.sizeOf167
  v76 := Tryz.zeroValue167
  t77 := Tryz.underlying168
  a77 := Tryz.isAgg168
  z77 := Tryz.sizeOf168
  v77 := Tryz.zeroValue168 }

end Go.Proofs.YtedfjacmaidhkaaGreat
