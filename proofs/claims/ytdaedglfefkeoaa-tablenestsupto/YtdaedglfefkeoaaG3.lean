/- Plain mathematics of a heap in a list: its order, two places swapped, the ways up and down. No program is named here. -/
import Derived.Test.YtdaedglfefkeoaaG2
import Derived.JoinedCond
import Derived.Lib.SlBytesConst
import Derived.Test.YtdaedglfefkeoaaG1
import Derived.Deep.RegionHeld3
namespace Go.Proofs.Ytdaedglfefkeoaa.M
set_option maxRecDepth 100000
set_option linter.unusedVariables false

section
variable {α : Type} {lt : α → α → Bool}

/-- Two places swapped. -/
def sw (H : List α) (i j : Nat) : List α := match H[i]?, H[j]? with
  | some x, some y => (H.set i y).set j x
  | _, _ => H
theorem sw_eq {H : List α} {i j : Nat} {x y : α} (hi : H[i]? = some x) (hj : H[j]? = some y) : sw H i j = (H.set i y).set j x := by unfold sw; rw [hi, hj]
theorem sw_len (H : List α) (i j : Nat) : (sw H i j).length = H.length := by unfold sw; split <;> simp
theorem sw_at {H : List α} {i j : Nat} (hi : i < H.length) (hj : j < H.length) (k : Nat) : (sw H i j)[k]? = if k = j then H[i]? else if k = i then H[j]? else H[k]? := by
  have ei : H[i]? = some H[i] := List.getElem?_eq_getElem hi
  have ej : H[j]? = some H[j] := List.getElem?_eq_getElem hj
  rw [sw_eq ei ej, List.getElem?_set, List.getElem?_set, ei, ej]
  simp only [List.length_set]
  by_cases h1 : k = j
  · subst h1; simp [hj]
  · rw [if_neg (fun e => h1 e.symm), if_neg h1]
    by_cases h2 : k = i
    · subst h2; simp [hi]
    · rw [if_neg (fun e => h2 e.symm), if_neg h2]

/-- The first n places hold the same, in another order; the others are as they were. -/
def Mv (n : Nat) (H H' : List α) : Prop := H'.length = H.length ∧ (H'.take n).Perm (H.take n) ∧ ∀ k, n ≤ k → H'[k]? = H[k]?
theorem Mv.refl (n : Nat) (H : List α) : Mv n H H := ⟨rfl, List.Perm.refl _, fun _ _ => rfl⟩
theorem Mv.trans {n : Nat} {A B C : List α} (h1 : Mv n A B) (h2 : Mv n B C) : Mv n A C := ⟨h2.1.trans h1.1, h2.2.1.trans h1.2.1, fun k hk => (h2.2.2 k hk).trans (h1.2.2 k hk)⟩
theorem sw_perm {H : List α} {i j : Nat} (hi : i < H.length) (hj : j < H.length) : (sw H i j).Perm H := by
  have e : sw H i j = (H.toArray.swap i j (by simpa using hi) (by simpa using hj)).toList := by
    rw [sw_eq (List.getElem?_eq_getElem hi) (List.getElem?_eq_getElem hj), Array.toList_swap]
    simp
  rw [e]
  have := Array.swap_perm (xs := H.toArray) (i := i) (j := j) (by simpa using hi) (by simpa using hj)
  simpa using Array.perm_iff_toList_perm.1 this
theorem mem_take_iff {H : List α} {n : Nat} {x : α} : x ∈ H.take n ↔ ∃ k, k < n ∧ H[k]? = some x := by
  rw [List.mem_iff_getElem?]
  constructor
  · rintro ⟨k, hk⟩
    rw [List.getElem?_take] at hk
    split at hk
    · exact ⟨k, by assumption, hk⟩
    · cases hk
  · rintro ⟨k, hk, e⟩
    exact ⟨k, by rw [List.getElem?_take, if_pos hk]; exact e⟩
theorem sw_take {H : List α} {n i j : Nat} (hi : i < n) (hj : j < n) (hn : n ≤ H.length) : (sw H i j).take n = sw (H.take n) i j := by
  apply List.ext_getElem?
  intro k
  have hl : (H.take n).length = n := by simp; omega
  rw [sw_at (by omega) (by omega), List.getElem?_take, List.getElem?_take, List.getElem?_take, List.getElem?_take, if_pos hi, if_pos hj, sw_at (by omega) (by omega)]
  by_cases hk : k < n
  · rw [if_pos hk, if_pos hk]
  · rw [if_neg hk, if_neg hk, if_neg (by omega), if_neg (by omega)]
theorem sw_mv {H : List α} {n i j : Nat} (hi : i < n) (hj : j < n) (hn : n ≤ H.length) : Mv n H (sw H i j) := by
  refine ⟨sw_len _ _ _, ?_, fun k hk => ?_⟩
  · rw [sw_take hi hj hn]
    exact sw_perm (by simp; omega) (by simp; omega)
  · rw [sw_at (by omega) (by omega), if_neg (by omega), if_neg (by omega)]
/-- The first and the last swapped: the first n hold what was behind the first. -/
theorem sw_top {H : List α} {n : Nat} (hn : H.length = n + 1) : ((sw H 0 n).take n).Perm H.tail := by
  cases n with
  | zero =>
    obtain ⟨x, rfl⟩ := List.length_eq_one_iff.1 hn
    simp
  | succ n =>
    cases H with
    | nil => simp at hn
    | cons x T =>
      simp only [List.length_cons, Nat.add_right_cancel_iff] at hn
      have hl : n < T.length := by omega
      have e : (sw (x :: T) 0 (n + 1)).take (n + 1) = T[n] :: T.take n := by
        apply List.ext_getElem?
        intro k
        rw [List.getElem?_take]
        cases k with
        | zero => rw [if_pos (by omega), sw_at (by simp) (by simp; omega), if_neg (by omega), if_pos rfl]; simp
        | succ k =>
          rw [List.getElem?_cons_succ, List.getElem?_take]
          by_cases hk : k < n
          · rw [if_pos (by omega), if_pos hk, sw_at (by simp) (by simp; omega), if_neg (by omega), if_neg (by omega)]; simp
          · rw [if_neg (by omega), if_neg hk]
      rw [e]
      have e2 : T = T.take n ++ [T[n]] := by
        rw [List.take_append_getElem hl, List.take_of_length_le (by omega)]
      show List.Perm _ T
      refine List.Perm.trans ?_ (List.Perm.of_eq e2.symm)
      exact List.perm_append_comm (l₁ := [T[n]]) (l₂ := T.take n)

variable (lt)
/-- Of the first n none stands ahead of its parent. -/
def Hp (H : List α) (n : Nat) : Prop := ∀ i x y, 0 < i → i < n → H[i]? = some x → H[(i - 1) / 2]? = some y → lt x y = false
/-- .. but perhaps the one at j. -/
def HpU (H : List α) (n j : Nat) : Prop := (∀ i x y, 0 < i → i < n → i ≠ j → H[i]? = some x → H[(i - 1) / 2]? = some y → lt x y = false) ∧ ∀ i x y, 0 < i → i < n → 0 < j → (i - 1) / 2 = j → H[i]? = some x → H[(j - 1) / 2]? = some y → lt x y = false
/-- .. but perhaps those whose parent is j. -/
def HpD (H : List α) (n j : Nat) : Prop := (∀ i x y, 0 < i → i < n → (i - 1) / 2 ≠ j → H[i]? = some x → H[(i - 1) / 2]? = some y → lt x y = false) ∧ ∀ i x y, 0 < i → i < n → 0 < j → (i - 1) / 2 = j → H[i]? = some x → H[(j - 1) / 2]? = some y → lt x y = false
variable {lt}

theorem Hp.u0 {H : List α} {n : Nat} (h : Hp lt H n) : HpU lt H n 0 := ⟨fun i x y h1 h2 _ => h i x y h1 h2, fun i x y h1 h2 h3 => absurd h3 (by omega)⟩
theorem HpU.top {H : List α} {n : Nat} (h : HpU lt H n 0) : Hp lt H n := fun i x y h1 h2 => h.1 i x y h1 h2 (by omega)
theorem HpU.ok {H : List α} {n j : Nat} {x y : α} (h : HpU lt H n j) (hx : H[j]? = some x) (hy : H[(j - 1) / 2]? = some y) (hl : lt x y = false) : Hp lt H n := fun i a b h1 h2 ha hb => by
  by_cases e : i = j
  · subst e
    rw [hx] at ha; rw [hy] at hb
    obtain rfl := Option.some.inj ha
    obtain rfl := Option.some.inj hb
    exact hl
  · exact h.1 i a b h1 h2 e ha hb
theorem HpU.up {H : List α} {n j : Nat} {x y : α} (tr : ∀ a b c : α, lt b a = false → lt c b = false → lt c a = false) (asy : ∀ a b : α, lt a b = true → lt b a = false) (hn : n = H.length) (hj : 0 < j) (hjn : j < n) (h : HpU lt H n j) (hx : H[j]? = some x) (hy : H[(j - 1) / 2]? = some y) (hl : lt x y = true) : HpU lt (sw H ((j - 1) / 2) j) n ((j - 1) / 2) := by
  subst hn
  obtain ⟨h1, h2⟩ := h
  have hyx := asy _ _ hl
  have at_ := fun k => sw_at (H := H) (i := (j - 1) / 2) (j := j) (by omega) hjn k
  constructor
  · intro k a b k0 kn ki ha hb
    rw [at_] at ha hb
    rw [if_neg ki] at ha
    by_cases e1 : k = j
    · subst e1
      rw [if_pos rfl, hy] at ha
      rw [if_neg (by omega), if_pos rfl, hx] at hb
      obtain rfl := Option.some.inj ha
      obtain rfl := Option.some.inj hb
      exact hyx
    · rw [if_neg e1] at ha
      by_cases e2 : (k - 1) / 2 = j
      · rw [if_pos e2] at hb
        exact h2 k a b k0 kn hj e2 ha hb
      · rw [if_neg e2] at hb
        by_cases e3 : (k - 1) / 2 = (j - 1) / 2
        · rw [if_pos e3, hx] at hb
          obtain rfl := Option.some.inj hb
          have := h1 k a y k0 kn e1 ha (by rw [e3]; exact hy)
          exact tr _ _ _ hyx this
        · rw [if_neg e3] at hb
          exact h1 k a b k0 kn e1 ha hb
  · intro k a b k0 kn i0 ek ha hb
    rw [at_] at ha hb
    rw [if_neg (by omega), if_neg (by omega)] at hb
    have hyb : lt y b = false := h1 ((j - 1) / 2) y b i0 (by omega) (by omega) hy hb
    by_cases e1 : k = j
    · subst e1
      rw [if_pos rfl, hy] at ha
      obtain rfl := Option.some.inj ha
      exact hyb
    · rw [if_neg e1, if_neg (by omega)] at ha
      have := h1 k a y k0 kn e1 ha (by rw [ek]; exact hy)
      exact tr _ _ _ hyb this

theorem Hp.d0 {H : List α} {n : Nat} (h : ∀ i x y, 0 < i → i < n → (i - 1) / 2 ≠ 0 → H[i]? = some x → H[(i - 1) / 2]? = some y → lt x y = false) : HpD lt H n 0 := ⟨h, fun i x y h1 h2 h3 => absurd h3 (by omega)⟩
theorem HpD.none {H : List α} {n j : Nat} (h : HpD lt H n j) (hn : n ≤ 2 * j + 1) : Hp lt H n := fun i x y h1 h2 => h.1 i x y h1 h2 (by omega)
/-- The least of the children is not ahead of j. -/
theorem HpD.ok {H : List α} {n j c : Nat} {x z : α} (tr : ∀ a b c : α, lt b a = false → lt c b = false → lt c a = false) (h : HpD lt H n j) (hx : H[j]? = some x) (hz : H[c]? = some z) (hc : ∀ k a, 0 < k → k < n → (k - 1) / 2 = j → H[k]? = some a → lt a z = false) (hl : lt z x = false) : Hp lt H n := fun i a b h1 h2 ha hb => by
  by_cases e : (i - 1) / 2 = j
  · rw [e, hx] at hb
    obtain rfl := Option.some.inj hb
    exact tr _ _ _ hl (hc i a h1 h2 e ha)
  · exact h.1 i a b h1 h2 e ha hb
theorem HpD.down {H : List α} {n j c : Nat} {x z : α} (asy : ∀ a b : α, lt a b = true → lt b a = false) (hn : n ≤ H.length) (hc0 : 0 < c) (hcn : c < n) (hcj : (c - 1) / 2 = j) (h : HpD lt H n j) (hx : H[j]? = some x) (hz : H[c]? = some z) (hc : ∀ k a, 0 < k → k < n → (k - 1) / 2 = j → H[k]? = some a → lt a z = false) (hl : lt z x = true) : HpD lt (sw H j c) n c := by
  obtain ⟨h1, h2⟩ := h
  have hxz := asy _ _ hl
  have at_ := fun k => sw_at (H := H) (i := j) (j := c) (by omega) (by omega) k
  constructor
  · intro k a b k0 kn kc ha hb
    rw [at_] at ha hb
    rw [if_neg kc] at hb
    by_cases e1 : k = c
    · subst e1
      rw [if_pos rfl, hx] at ha
      rw [if_pos hcj, hz] at hb
      obtain rfl := Option.some.inj ha
      obtain rfl := Option.some.inj hb
      exact hxz
    · rw [if_neg e1] at ha
      by_cases e2 : (k - 1) / 2 = j
      · rw [if_pos e2, hz] at hb
        obtain rfl := Option.some.inj hb
        rw [if_neg (by omega)] at ha
        exact hc k a k0 kn e2 ha
      · rw [if_neg e2] at hb
        by_cases e3 : k = j
        · subst e3
          rw [if_pos rfl, hz] at ha
          obtain rfl := Option.some.inj ha
          exact h2 c z b hc0 hcn k0 hcj hz hb
        · rw [if_neg e3] at ha
          exact h1 k a b k0 kn e2 ha hb
  · intro k a b k0 kn c0 ek ha hb
    rw [at_] at ha hb
    rw [hcj, if_neg (by omega), if_pos rfl, hz] at hb
    obtain rfl := Option.some.inj hb
    rw [if_neg (by omega), if_neg (by omega)] at ha
    exact h1 k a z k0 kn (by omega) ha (by rw [ek]; exact hz)
/-- The top is not behind any. -/
theorem Hp.min {H : List α} {n : Nat} {x : α} (tr : ∀ a b c : α, lt b a = false → lt c b = false → lt c a = false) (irr : ∀ a, lt a a = false) (h : Hp lt H n) (hx : H[0]? = some x) : ∀ k y, k < n → H[k]? = some y → lt y x = false := by
  intro k
  induction k using Nat.strongRecOn with
  | _ k ih =>
    intro y hk hy
    by_cases e : k = 0
    · subst e
      rw [hx] at hy
      obtain rfl := Option.some.inj hy
      exact irr _
    · have hl := (List.getElem?_eq_some_iff.1 hy).1
      obtain ⟨z, hz⟩ : ∃ z, H[(k - 1) / 2]? = some z := ⟨_, List.getElem?_eq_getElem (by omega)⟩
      exact tr _ _ _ (ih ((k - 1) / 2) (by omega) z (by omega) hz) (h k y z (by omega) hk hy hz)
/-- One more behind. -/
theorem Hp.push {H : List α} (h : Hp lt H H.length) (x : α) : HpU lt (H ++ [x]) (H ++ [x]).length H.length := by
  constructor
  · intro i a b h1 h2 h3 ha hb
    simp only [List.length_append, List.length_singleton] at h2
    rw [List.getElem?_append_left (by omega)] at ha hb
    exact h i a b h1 (by omega) ha hb
  · intro i a b h1 h2 h3 h4
    simp only [List.length_append, List.length_singleton] at h2
    omega
end
theorem rlt_irr (a : Ru) : rlt a a = false := by rw [rlt_no]; exact .inr ⟨cmpL_self _, Nat.le_refl _⟩
end Go.Proofs.Ytdaedglfefkeoaa.M

/- What the bound on an input's bulk gives: a bound on lengths. -/
namespace Go.Proofs.Ytdaedglfefkeoaa
open Go.ChangeShapes Go.WideShapes Go.ChangeAt Go.RowKit

theorem bulk_pos {H : Type} (d : DataW H) : 1 ≤ Rows.uptoBulk d := by
  cases d with
  | lit x => cases x <;> simp [Rows.uptoBulk]
  | nil => simp [Rows.uptoBulk]
  | ptr d => simp [Rows.uptoBulk]
  | slice a b => simp [Rows.uptoBulk]
  | agg a => simp [Rows.uptoBulk]
  | iface t d => simp [Rows.uptoBulk]
  | map a => simp [Rows.uptoBulk]
  | held h => simp [Rows.uptoBulk]
theorem bulk_ge {H : Type} (ds : List (DataW H)) : ds.length ≤ Rows.uptoBulkAll ds := by
  induction ds with
  | nil => simp [Rows.uptoBulkAll]
  | cons d ds ih =>
    have := bulk_pos d
    simp only [Rows.uptoBulkAll, List.length_cons]
    omega
end Go.Proofs.Ytdaedglfefkeoaa

/- What varintSize, readVarint and readPart answer of any bytes. -/
namespace Go.Proofs.Ytdaedglfefkeoaa
open Go.RowKit
set_option linter.unusedVariables false
set_option maxRecDepth 100000

/-- How many bytes a number takes, and the error. -/
def vsz (l : List UInt8) : Nat × Nat :=
  if M.cont 10 l = 10 then (0, 12) else if l.length ≤ M.cont 10 l then (0, 10) else (M.cont 10 l + 1, 0)

set_option maxHeartbeats 400000 in
theorem vsize_any {v : Value} {l : List UInt8} {w : World} (hr : Rd w v l) :
    Calls Try.prog 66 #[v] w fun e w' => e = .returned (.tuple #[.int .i64 (vsz l).1, .int .i64 (vsz l).2]) ∧ ∃ k, w' = w.drewN k := by
  obtain ⟨ao, c, rfl, h1, h2, h3, h4⟩ := hr
  unfold maxLen at h2
  go_enter Try.func66, Try.ntmps66
  go_wp2
  all_goals
    go_loopw [4, 8] (fun _ i wr => ∃ k : Nat, k ≤ l.length ∧ k ≤ 10 ∧ i = .int .i64 k ∧ (∀ j, (h : j < l.length) → j < k → 128 ≤ l[j].toNat) ∧ wr = w) (fun _ i _ => 10 - (intOf i).toNat)
    case atStart => exact ⟨0, Nat.zero_le _, Nat.zero_le _, rfl, fun j _ hj => by omega, rfl⟩
    case round =>
      obtain ⟨k, hk, hk10, rfl, hs, rfl⟩ := hrel
      by_cases hlt : k < l.length ∧ k < 10
      · obtain ⟨hlt, hlt10⟩ := hlt
        obtain ⟨a, rfl, hc⟩ := h4 k hlt
        have HS : Hid _ := hs
        clear hs h4
        by_cases hx : l[k].toNat < 128
        · go_wp2
          go_ret2
          have e : M.cont 10 l = k := M.cont_eq 10 k l hk10 hk (fun j hj => HS.out j (by omega) hj) (.inr (.inr ⟨hlt, hx⟩))
          have e2 : vsz l = (k + 1, 0) := by unfold vsz; rw [e, if_neg (by omega), if_neg (by omega)]
          rw [e2]
          exact ⟨by simp, 0, rfl⟩
        · go_wp2
          refine ⟨⟨k + 1, by omega, by omega, by go_num, fun j h hj => ?_, trivial⟩, by simp [intOf]; omega⟩
          by_cases hj' : j < k
          · exact HS.out j h hj'
          · obtain rfl : j = k := by omega
            omega
      · have HS : Hid _ := hs
        clear hs h4
        have e : M.cont 10 l = k := M.cont_eq 10 k l hk10 hk (fun j hj => HS.out j (by omega) hj) (by omega)
        have HE : Hid _ := e
        clear e
        have hlt1 : l.length ≤ k ∨ 10 ≤ k := by omega
        clear hlt
        go_wp2
        all_goals
          go_ret2
          refine ⟨?_, 0, rfl⟩
          have e2 := HE.out
          unfold vsz
          rw [e2]
          first | rw [if_neg (by omega), if_pos (by omega)] | rw [if_pos (by omega)]
          try rfl

set_option maxHeartbeats 400000 in
theorem part_any2 {v : Value} {l : List UInt8} {n : Nat} {w : World} (hr : Rd w v l) (hn : n < 18446744073709551616) :
    Calls Try.prog 50 #[v, .int .u64 n] w fun e w' => ∃ v1 v2, e = .returned (.tuple #[v1, v2, .int .i64 (M.part l n).2.2]) ∧ (∀ w0, Rd w0 v l → Rd w0 v1 (M.part l n).1 ∧ Rd w0 v2 (M.part l n).2.1) ∧ ∃ k, w' = w.drewN k := by
  obtain ⟨ao, c, rfl, h1, h2, h3, h4⟩ := hr
  unfold maxLen at h2
  by_cases hlt : l.length < n
  · go_enter Try.func50, Try.ntmps50
    go_wp2
    go_ret3
    have e : M.part l n = ([], [], 10) := by unfold M.part; rw [if_pos hlt]
    rw [e]
    exact ⟨_, _, rfl, fun _ _ => ⟨Rd.nil _, Rd.nil _⟩, 0, rfl⟩
  · have e : M.part l n = (l.take n, l.drop n, 0) := by unfold M.part; rw [if_neg hlt]
    rw [e]
    clear e
    by_cases hcn : c = n
    · subst hcn
      have hp := fun (w0 : World) (hr' : Rd w0 (.slice ao l.length c) l) => hr'.post c (by omega) ao ⟨fun _ => rfl, fun h => absurd rfl h⟩
      rw [Nat.sub_self, show l.length - c = 0 by omega] at hp
      go_enter Try.func50, Try.ntmps50
      go_wp2
      go_region
      all_goals go_wp2
      all_goals go_ret3
      all_goals exact ⟨_, _, rfl, fun w0 hr' => ⟨hr'.pre c (by omega), hp w0 hr'⟩, _, rfl⟩
    · go_enter Try.func50, Try.ntmps50
      go_wp2
      go_region
      all_goals go_wp2
      all_goals go_ret3
      all_goals exact ⟨_, _, rfl, fun w0 hr' => ⟨hr'.pre n (by omega), hr'.post n (by omega) _ ⟨fun h => absurd h hcn, fun _ => rfl⟩⟩, _, rfl⟩
theorem part_any {v : Value} {l : List UInt8} {n : Nat} {w : World} (hr : Rd w v l) (hn : n < 18446744073709551616) :
    Calls Try.prog 50 #[v, .int .u64 n] w fun e w' => ∃ v1 v2, e = .returned (.tuple #[v1, v2, .int .i64 (M.part l n).2.2]) ∧ Rd w v1 (M.part l n).1 ∧ Rd w v2 (M.part l n).2.1 ∧ ∃ k, w' = w.drewN k :=
  (part_any2 hr hn).mono fun e w' ⟨v1, v2, h1, h2, h3⟩ => ⟨v1, v2, h1, (h2 w hr).1, (h2 w hr).2, h3⟩

theorem vsz_cases (l : List UInt8) : (∃ e, (e = 12 ∨ e = 10) ∧ vsz l = (0, e) ∧ M.tv l = (0, [], e)) ∨ ∃ s, s < 10 ∧ s < l.length ∧ vsz l = (s + 1, 0) ∧
    M.tv l = if 0 < s ∧ (l.getD s 0).toNat = 0 ∨ s = 9 ∧ 1 < (l.getD s 0).toNat then (0, [], 12) else (M.val (l.take (s + 1)), l.drop (s + 1), 0) := by
  have hle := M.cont_le 10 l
  by_cases h1 : M.cont 10 l = 10
  · refine .inl ⟨12, .inl rfl, ?_, ?_⟩
    · unfold vsz; rw [if_pos h1]
    · unfold M.tv; simp only []; rw [if_pos h1]
  · by_cases h2 : l.length ≤ M.cont 10 l
    · refine .inl ⟨10, .inr rfl, ?_, ?_⟩
      · unfold vsz; rw [if_neg h1, if_pos h2]
      · unfold M.tv; simp only []; rw [if_neg h1, if_pos h2]
    · refine .inr ⟨M.cont 10 l, by omega, by omega, ?_, ?_⟩
      · unfold vsz; rw [if_neg h1, if_neg h2]
      · unfold M.tv; simp only []; rw [if_neg h1, if_neg h2]

theorem vstep (l : List UInt8) (s k : Nat) (hk : k ≤ s) (hs : s < 10) (hl : k < l.length) (h9 : k = 9 → l[k].toNat ≤ 1) :
    bits BinOp.or IntKind.u64 (M.val (l.take k) : Int) (IntKind.u64.wrap (IntKind.u64.wrap (bits BinOp.andNot IntKind.u8 (l[k].toNat : Int) 128) * 2 ^ (7 * k))) = (M.val (l.take (k + 1)) : Int) := by
  have hx := l[k].toNat_lt
  have hpow : ∀ j, 128 ^ j = 2 ^ (7 * j) := fun j => by rw [Nat.pow_mul]
  rw [show (128 : Int) = ((128 : Nat) : Int) from rfl, u8_andNot_nat _ _ hx (by decide), show 255 - 128 = 127 from rfl, nat_mask7]
  rw [IntWalk.u64_in ((l[k].toNat % 128 : Nat) : Int) (by omega)]
  have hle : l[k].toNat % 128 * 2 ^ (7 * k) ≤ 9223372036854775808 + 9223372036854775807 := by
    by_cases hk9 : k = 9
    · have := h9 hk9
      subst hk9
      have h63 : (2 : Nat) ^ (7 * 9) = 9223372036854775808 := by decide
      rw [h63]; omega
    · have h56 : (2 : Nat) ^ (7 * k) ≤ 72057594037927936 := by
        have := Nat.pow_le_pow_right (n := 2) (by decide) (show 7 * k ≤ 56 by omega)
        simpa using this
      have := Nat.mul_le_mul (show l[k].toNat % 128 ≤ 127 by omega) h56
      omega
  have e1 : (((l[k].toNat % 128 : Nat) : Int) * 2 ^ (7 * k)) = ((l[k].toNat % 128 * 2 ^ (7 * k) : Nat) : Int) := by
    rw [Int.natCast_mul, Int.natCast_pow]; rfl
  rw [e1, IntWalk.u64_in ((l[k].toNat % 128 * 2 ^ (7 * k) : Nat) : Int) (by omega)]
  have hv := M.val_lt (l.take k)
  rw [List.length_take, Nat.min_eq_left (by omega), hpow] at hv
  have h63 : (2 : Nat) ^ (7 * k) ≤ 9223372036854775808 := by
    have := Nat.pow_le_pow_right (n := 2) (by decide) (show 7 * k ≤ 63 by omega)
    simpa using this
  rw [u64_or_nat _ _ (by omega) (by omega), Nat.or_comm, nat_join (7 * k) _ _ (Nat.mul_mod_left _ _) hv, take_snoc l k hl, M.val_append, List.length_take, Nat.min_eq_left (by omega), hpow]
  simp only [M.val, Nat.mul_zero, Nat.add_zero]
  rw [Nat.mul_comm (2 ^ (7 * k)), Nat.add_comm]

set_option maxHeartbeats 800000 in
theorem rvar_bad {l : List UInt8} {s c : Nat} {a : Addr} {w : World} (hl : l.length ≤ 9223372036854775807) (hvs : Calls Try.prog 66 #[.slice (some a) l.length c] w fun e w' => e = .returned (.tuple #[.int .i64 ((s + 1 : Nat) : Int), .int .i64 0]) ∧ ∃ k, w' = w.drewN k)
    (hs10 : s < 10) (hsl : s < l.length) (hc : w.cell? (a.add s) = some (.int .u8 (l[s].toNat : Int))) (hbad : 0 < s ∧ l[s].toNat = 0 ∨ s = 9 ∧ 1 < l[s].toNat) :
    Calls Try.prog 48 #[.slice (some a) l.length c] w fun e w' => ∃ v2, e = .returned (.tuple #[.int .u64 0, v2, .int .i64 12]) ∧ (∀ w0 : World, Rd w0 (.slice (some a) l.length c) l → Rd w0 v2 []) ∧ ∃ k, w' = w.drewN k := by
  have hx := l[s].toNat_lt
  go_enter Try.func48, Try.ntmps48
  go_wp2_with (go_at_call 66; refine hvs.mono ?_; rintro e w' ⟨rfl, kk, rfl⟩)
  all_goals go_ret3
  all_goals exact ⟨_, rfl, fun _ _ => Rd.nil _, _, rfl⟩

set_option maxHeartbeats 1000000 in
theorem rvar_good {l : List UInt8} {s c : Nat} {a : Addr} {w : World} (hr : Rd w (.slice (some a) l.length c) l) (hlc : l.length ≤ c) (hcm : c ≤ 9223372036854775807) (hvs : Calls Try.prog 66 #[.slice (some a) l.length c] w fun e w' => e = .returned (.tuple #[.int .i64 ((s + 1 : Nat) : Int), .int .i64 0]) ∧ ∃ k, w' = w.drewN k)
    (hs10 : s < 10) (hsl : s < l.length) (h4 : ∀ i, (h : i < l.length) → w.cell? (a.add i) = some (.int .u8 (l[i].toNat : Int))) (hok : ¬ (0 < s ∧ l[s].toNat = 0 ∨ s = 9 ∧ 1 < l[s].toNat)) :
    Calls Try.prog 48 #[.slice (some a) l.length c] w fun e w' => ∃ v2, e = .returned (.tuple #[.int .u64 (M.val (l.take (s + 1))), v2, .int .i64 0]) ∧ (∀ w0, Rd w0 (.slice (some a) l.length c) l → Rd w0 v2 (l.drop (s + 1))) ∧ ∃ k, w' = w.drewN k := by
  have hx := l[s].toNat_lt
  have hc := h4 s hsl
  have hst : ∀ k, (h : k < l.length) → k ≤ s → bits BinOp.or IntKind.u64 (M.val (l.take k) : Int) (IntKind.u64.wrap (IntKind.u64.wrap (bits BinOp.andNot IntKind.u8 (l[k].toNat : Int) 128) * 2 ^ (7 * k))) = (M.val (l.take (k + 1)) : Int) :=
    fun k h hk => vstep l s k hk hs10 h (fun h9 => by
      have e : s = k := by omega
      subst e
      omega)
  have HST : Hid _ := hst
  clear hst
  have hp := fun (w0 : World) (hr0 : Rd w0 (.slice (some a) l.length c) l) => hr0.post (s + 1) (by omega) (if c = s + 1 then some a else some (a.add (s + 1))) ⟨fun h => by rw [if_pos h], fun h => by rw [if_neg h]; rfl⟩
  have HP : Hid _ := hp
  clear hp
  go_enter Try.func48, Try.ntmps48
  go_wp2_with (go_at_call 66; refine hvs.mono ?_; rintro e w' ⟨rfl, kk, rfl⟩)
  all_goals
    clear hvs
    go_loopw [8, 9, 10, 42] (fun m _ _ i wr => ∃ k : Nat, k ≤ s + 1 ∧ i = .int .i64 k ∧ m = .int .u64 (M.val (l.take k)) ∧ wr = w.drewN kk) (fun _ _ _ i _ => s + 1 - (intOf i).toNat)
    case atStart => exact ⟨0, Nat.zero_le _, rfl, rfl, rfl⟩
    case round =>
      obtain ⟨k, hk, rfl, rfl, rfl⟩ := hrel
      by_cases hlt : k < s + 1
      · have hck := h4 k (by omega)
        have hxk := (l[k]'(by omega)).toNat_lt
        go_wp2
        exact ⟨⟨k + 1, by omega, by go_num, congrArg _ (HST.out k (by omega) (by omega)), trivial⟩, by simp [intOf]; omega⟩
      · obtain rfl : k = s + 1 := by omega
        have hp := HP.out
        by_cases hcn : c = s + 1
        · rw [if_pos hcn] at hp
          have HP2 : Hid _ := hp
          clear hp
          go_wp2
          go_region
          all_goals go_wp2
          all_goals go_ret3
          all_goals exact ⟨_, rfl, fun w0 h0 => Rd.cong (HP2.out w0 h0) rfl (by omega) (by omega), kk + 1, rfl⟩
        · rw [if_neg hcn] at hp
          have HP2 : Hid _ := hp
          clear hp
          go_wp2
          go_region
          all_goals go_wp2
          all_goals go_ret3
          all_goals exact ⟨_, rfl, fun w0 h0 => Rd.cong (HP2.out w0 h0) (by simp [Addr.add]; try omega) (by omega) (by omega), kk + 1, rfl⟩

/-- What is answered is a piece of what came in: it reads so in whatever world that reads so. -/
theorem rvar_any2 {v : Value} {l : List UInt8} {w : World} (hr : Rd w v l) :
    Calls Try.prog 48 #[v] w fun e w' => ∃ v2, e = .returned (.tuple #[.int .u64 (M.tv l).1, v2, .int .i64 (M.tv l).2.2]) ∧ (∀ w0, Rd w0 v l → Rd w0 v2 (M.tv l).2.1) ∧ ∃ k, w' = w.drewN k := by
  have hvs := vsize_any hr
  rcases vsz_cases l with ⟨er, her, h1, h2⟩ | ⟨s, hs10, hsl, h1, h2⟩
  · rw [h1] at hvs
    rw [h2]
    clear h1 h2
    go_enter Try.func48, Try.ntmps48
    have hne : (((er : Nat) : Int) != 0) = true := by rcases her with rfl | rfl <;> rfl
    go_wp2_with (go_at_call 66; refine hvs.mono ?_; rintro e w' ⟨rfl, kk, rfl⟩)
    go_ret3
    exact ⟨_, rfl, fun _ _ => Rd.nil _, _, rfl⟩
  · rw [h1] at hvs
    rw [h2]
    clear h1 h2
    have eg : l.getD s 0 = l[s] := by simp [hsl]
    rw [eg]
    clear eg
    rcases hr.two with ⟨rfl, rfl⟩ | ⟨a, c, rfl, h1, h2, h4⟩
    · simp at hsl
    · unfold maxLen at h2
      by_cases hbad : 0 < s ∧ l[s].toNat = 0 ∨ s = 9 ∧ 1 < l[s].toNat
      · rw [if_pos hbad]
        exact rvar_bad (by omega) hvs hs10 hsl (h4 s hsl) hbad
      · rw [if_neg hbad]
        exact rvar_good hr h1 (by omega) hvs hs10 hsl h4 hbad
theorem rvar_any {v : Value} {l : List UInt8} {w : World} (hr : Rd w v l) :
    Calls Try.prog 48 #[v] w fun e w' => ∃ v2, e = .returned (.tuple #[.int .u64 (M.tv l).1, v2, .int .i64 (M.tv l).2.2]) ∧ Rd w v2 (M.tv l).2.1 ∧ ∃ k, w' = w.drewN k :=
  (rvar_any2 hr).mono fun e w' ⟨v2, h1, h2, h3⟩ => ⟨v2, h1, h2 w hr, h3⟩
end Go.Proofs.Ytdaedglfefkeoaa

/- What Frame makes and TakeFrame answers of any bytes; and that 'awake' answers true. -/
namespace Go.Proofs.Ytdaedglfefkeoaa
open Go.RowKit
set_option linter.unusedVariables false
set_option maxRecDepth 100000

theorem Ow.drewN {B : Nat} {w : World} {v : Value} {l : List UInt8} (h : Ow B w v l) (n : Nat) : Ow B (w.drewN n) v l := h.below (below_drewN (Below.refl _ _) n) (Nat.le_refl _)
theorem Below.dN (w : World) (n : Nat) : Below w.heap.size w (w.drewN n) := below_drewN (Below.refl _ _) n

theorem vi_len (n : Nat) : (M.vi n).length ≤ 10 := M.viF_length 9 n

set_option maxHeartbeats 400000 in
theorem frame_any {v : Value} {l : List UInt8} {w : World} (hr : Rd w v l) (hl : l.length ≤ 140737488355000) :
    Calls Try.prog 32 #[v] w fun e w' => ∃ v', e = .returned v' ∧ Ow w.heap.size w' v' (M.frame l) ∧ Below w.heap.size w w' := by
  have hr' := hr
  obtain ⟨ao, c, rfl, h1, h2, h3, h4⟩ := hr
  unfold maxLen at h2
  clear h3 h4
  have hc := M.crc_lt l
  go_enter Try.func32, Try.ntmps32
  go_wp2_with fail
  refine (varint_any l.length _ (by omega)).mono ?_
  rintro e w1 ⟨v1, rfl, ho1, hb1⟩
  have hr1 := hr'.below hb1 (Nat.le_refl _)
  go_wp2_with fail
  refine (sum_any hr1).mono ?_
  rintro e w2 ⟨rfl, k2, rfl⟩
  have ho2 := ho1.drewN k2
  have hr2 := hr1.drewN k2
  go_wp2_with fail
  refine (high_any (M.crc l) 4 _ (by omega) (by decide)).mono ?_
  rintro e w3 ⟨v3, rfl, ho3, hb3⟩
  have ho3' := ho2.below hb3 (by simp)
  have hr3 := hr2.below hb3 (by simp)
  have hs1 := hb1.size
  have hs3 := hb3.size
  simp only [World.heap_drewN] at hs3
  have hvl := vi_len l.length
  have hbl := M.be_length 4 (M.crc l)
  have hw3 : Below w.heap.size w w3 := Below.tr (Below.tr hb1 (Below.dN w1 k2)) hb3
  have hB3 : w.heap.size ≤ w3.heap.size := hw3.size
  go_wp2_with (first | (at_builtin; refine wpList_app rfl _ _ rfl w.heap.size _ (M.vi l.length) rfl ho3' _ (M.be 4 (M.crc l)) rfl ho3.rd hB3 (by omega) ?_; intro v4 w4 ho4 hb4 hg4) | (at_builtin; refine wpList_app rfl _ _ rfl w.heap.size _ (M.vi l.length ++ M.be 4 (M.crc l)) rfl ho4 _ l rfl ?hr4 ?hB4 ?hl4 ?_; rotate_right; intro v5 w5 ho5 hb5 hg5) | fail)
  case hr4 => exact hr'.below (hw3.trans hb4) (Nat.le_refl _)
  case hB4 => exact Nat.le_trans hB3 hb4.size
  case hl4 => simp; omega
  go_ret
  exact ⟨_, rfl, ho5, (hw3.trans hb4).trans hb5⟩

theorem tf_cases (l : List UInt8) : ((M.tv l).2.2 ≠ 0 ∧ M.tf l = ([], [], (M.tv l).2.2)) ∨ ((M.tv l).2.2 = 0 ∧ (M.tv l).2.1.length < 4 ∧ M.tf l = ([], [], 10)) ∨
    ((M.tv l).2.2 = 0 ∧ 4 ≤ (M.tv l).2.1.length ∧ M.tf l = if ((M.tv l).2.1.drop 4).length < (M.tv l).1 then ([], [], 10) else if M.crc (((M.tv l).2.1.drop 4).take (M.tv l).1) ≠ M.num ((M.tv l).2.1.take 4) then ([], [], 11) else (((M.tv l).2.1.drop 4).take (M.tv l).1, ((M.tv l).2.1.drop 4).drop (M.tv l).1, 0)) := by
  by_cases h1 : (M.tv l).2.2 ≠ 0
  · refine .inl ⟨h1, ?_⟩
    unfold M.tf; simp only []; rw [if_pos h1]
  · have h1' : (M.tv l).2.2 = 0 := by simpa using h1
    by_cases h2 : (M.tv l).2.1.length < 4
    · refine .inr (.inl ⟨h1', h2, ?_⟩)
      unfold M.tf; simp only []; rw [if_neg h1, if_pos h2]
    · refine .inr (.inr ⟨h1', by omega, ?_⟩)
      unfold M.tf; simp only []; rw [if_neg h1, if_neg h2]

theorem tv_lt (l : List UInt8) : (M.tv l).1 < 18446744073709551616 := by
  unfold M.tv
  simp only []
  have hle := M.cont_le 10 l
  split
  · decide
  · split
    · decide
    · split
      · decide
      · rename_i h1 h2 h3
        simp only []
        have hv := M.val_lt (l.take (M.cont 10 l))
        rw [List.length_take, Nat.min_eq_left (by omega)] at hv
        rw [take_snoc l _ (by omega), M.val_append, List.length_take, Nat.min_eq_left (by omega)]
        simp only [M.val, Nat.mul_zero, Nat.add_zero]
        have eg : l.getD (M.cont 10 l) 0 = l[M.cont 10 l]'(by omega) := by simp [show M.cont 10 l < l.length by omega]
        rw [eg] at h3
        have hx9 : M.cont 10 l = 9 → (l[M.cont 10 l]'(by omega)).toNat ≤ 1 := fun h => by omega
        clear h3 eg
        generalize (l[M.cont 10 l]'(by omega)).toNat = x at *
        by_cases h9 : M.cont 10 l = 9
        · have hx1 := hx9 h9
          have h63 : (128 : Nat) ^ M.cont 10 l = 9223372036854775808 := by rw [h9]
          rw [h63]
          rw [h63] at hv
          have : x % 128 ≤ 1 := by omega
          omega
        · have hp := Nat.pow_le_pow_right (n := 128) (by decide) (show M.cont 10 l ≤ 8 by omega)
          have h56 : (128 : Nat) ^ 8 = 72057594037927936 := by decide
          rw [h56] at hp
          have := Nat.mul_le_mul hp (show x % 128 ≤ 127 by omega)
          omega

theorem tv_len (l : List UInt8) : (M.tv l).2.1.length ≤ l.length := by
  unfold M.tv
  simp only []
  split
  · simp
  · split
    · simp
    · split
      · simp
      · simp

set_option maxHeartbeats 400000 in
theorem tframe_any {v : Value} {l : List UInt8} {w : World} (hr : Rd w v l) (hl : l.length ≤ 140737488355000) :
    Calls Try.prog 29 #[v] w fun e w' => ∃ v1 v2, e = .returned (.tuple #[v1, v2, .int .i64 (M.tf l).2.2]) ∧ Ow w.heap.size w' v1 (M.tf l).1 ∧ Ow w.heap.size w' v2 (M.tf l).2.1 ∧ Apart v1 v2 ∧ Below w.heap.size w w' := by
  have hrv := rvar_any hr
  have htl := tv_lt l
  have hll := tv_len l
  rcases tf_cases l with ⟨h1, h2⟩ | ⟨h1, h2, h3⟩ | ⟨h1, h2, h3⟩
  · rw [h2]
    generalize M.tv l = r at *
    obtain ⟨n, rest, er⟩ := r
    simp only [] at *
    have hne : (((er : Nat) : Int) != 0) = true := by simp; omega
    go_enter Try.func29, Try.ntmps29
    go_wp2_with (go_at_call 48; refine hrv.mono ?_; rintro e w1 ⟨v2, rfl, hr2, k1, rfl⟩)
    go_ret3
    exact ⟨_, _, rfl, Ow.nil _ _, Ow.nil _ _, .inl rfl, Below.dN _ _⟩
  · rw [h3]
    generalize M.tv l = r at *
    obtain ⟨n, rest, er⟩ := r
    simp only [] at *
    subst h1
    go_enter Try.func29, Try.ntmps29
    go_wp2_with fail
    refine hrv.mono ?_
    rintro e w1 ⟨v2, rfl, hr2, k1, rfl⟩
    obtain ⟨ao, c, rfl, g1, g2, g3, g4⟩ := hr2
    clear g3 g4
    unfold maxLen at g2
    go_wp2_with fail
    go_ret3
    exact ⟨_, _, rfl, Ow.nil _ _, Ow.nil _ _, .inl rfl, Below.dN _ _⟩
  · rw [h3]
    generalize M.tv l = r at *
    obtain ⟨n, rest, er⟩ := r
    simp only [] at *
    subst h1
    clear h3
    have hlp : (rest.take 4).length ≤ 8 := by simp; omega
    have hnl : M.num (rest.take 4) < 18446744073709551616 := by
      refine Nat.lt_of_lt_of_le (M.num_lt _) ?_
      have := Nat.pow_le_pow_right (n := 256) (by decide) hlp
      simpa using this
    have HLP : Hid _ := hlp
    clear hlp
    by_cases hsh : (rest.drop 4).length < n
    · rw [if_pos hsh]
      have e : M.part (rest.drop 4) n = ([], [], 10) := by unfold M.part; rw [if_pos hsh]
      have HPE : Hid _ := e
      clear e hsh
      go_enter Try.func29, Try.ntmps29
      go_wp2_with fail
      refine hrv.mono ?_
      rintro e w1 ⟨v2, rfl, hr2, k1, rfl⟩
      have hr2' := hr2
      obtain ⟨ao, c, rfl, g1, g2, g3, g4⟩ := hr2
      clear g3 g4
      unfold maxLen at g2
      have hpre := hr2'.pre 4 h2
      have hpost := hr2'.post 4 h2 (if c = 4 then ao else ao.map (fun a => a.add 4)) ⟨fun h => by rw [if_pos h], fun h => by rw [if_neg h]⟩
      have HP : Hid _ := hpost
      clear hpost
      go_wp2_with fail
      refine (number_any (hpre.drewN k1) HLP.out).mono ?_
      rintro e w2 ⟨rfl, k2, rfl⟩
      by_cases hc4 : c = 4
      all_goals
        go_wp2_with fail
        refine (part_any (l := rest.drop 4) (n := n) ?hr htl).mono ?_
        case hr =>
          have := (Rd.drewN HP.out k1).drewN k2
          refine Rd.cong this ?_ ?_ ?_
          · first | rw [if_pos hc4] | (rw [if_neg hc4]; try rfl)
          · first | rfl | omega
          · first | rfl | omega
        rintro e w3 ⟨v1, v3, rfl, hr3, hr4, k3, rfl⟩
        rw [HPE.out] at hr3 hr4 ⊢
        simp only [] at hr3 hr4 ⊢
        go_wp2_with fail
        go_ret3
        exact ⟨_, _, rfl, Ow.nil _ _, Ow.nil _ _, .inl rfl, Below.dN _ _⟩
    · rw [if_neg hsh]
      have e : M.part (rest.drop 4) n = ((rest.drop 4).take n, (rest.drop 4).drop n, 0) := by unfold M.part; rw [if_neg hsh]
      have hbl : ((rest.drop 4).take n).length ≤ 140737488355000 := by simp; omega
      have hbh : ((rest.drop 4).drop n).length ≤ 140737488355000 := by simp; omega
      generalize (rest.drop 4).take n = body at *
      generalize (rest.drop 4).drop n = beh at *
      have HPE : Hid _ := e
      clear e hsh
      have hcr := M.crc_lt body
      by_cases hsum : M.crc body = M.num (rest.take 4)
      · rw [if_neg (by simpa using hsum)]
        have hbn : (((M.crc body : Nat) : Int) != ((M.num (rest.take 4) : Nat) : Int)) = false := by simp [hsum]
        clear hsum
        go_enter Try.func29, Try.ntmps29
        go_wp2_with fail
        refine hrv.mono ?_
        rintro e w1 ⟨v2, rfl, hr2, k1, rfl⟩
        have hr2' := hr2
        obtain ⟨ao, c, rfl, g1, g2, g3, g4⟩ := hr2
        clear g3 g4
        unfold maxLen at g2
        have hpre := hr2'.pre 4 h2
        have hpost := hr2'.post 4 h2 (if c = 4 then ao else ao.map (fun a => a.add 4)) ⟨fun h => by rw [if_pos h], fun h => by rw [if_neg h]⟩
        have HP : Hid _ := hpost
        clear hpost
        go_wp2_with fail
        refine (number_any (hpre.drewN k1) HLP.out).mono ?_
        rintro e w2 ⟨rfl, k2, rfl⟩
        by_cases hc4 : c = 4
        all_goals
          go_wp2_with fail
          refine (part_any (l := rest.drop 4) (n := n) ?hr htl).mono ?_
          case hr =>
            have := (Rd.drewN HP.out k1).drewN k2
            refine Rd.cong this ?_ ?_ ?_
            · first | rw [if_pos hc4] | (rw [if_neg hc4]; try rfl)
            · first | rfl | omega
            · first | rfl | omega
          rintro e w3 ⟨v1, v3, rfl, hr3, hr4, k3, rfl⟩
          rw [HPE.out] at hr3 hr4 ⊢
          simp only [] at hr3 hr4 ⊢
          go_wp2_with fail
          refine (sum_any (Rd.redrew hr3 _)).mono ?_
          rintro e w4 ⟨rfl, k4, rfl⟩
          go_wp2_with fail
          refine (clone_any (Rd.redrew hr3 _) (by omega)).mono ?_
          rintro e w5 ⟨v5, rfl, ho5, hb5⟩
          have hr7 := (Rd.redrew hr4 _).below hb5 (Nat.le_refl _)
          go_wp2_with fail
          refine (clone_any hr7 (by omega)).mono ?_
          rintro e w6 ⟨v6, rfl, ho6, hb6⟩
          go_wp2_with fail
          go_ret3
          exact ⟨_, _, rfl, ho5.below hb6 (Nat.le_refl _), ho6.mono hb5.size, ho5.apart ho6 (Nat.le_refl _), Below.tr (Below.tr (Below.dN _ _) hb5) hb6⟩
      · rw [if_pos (by simpa using hsum)]
        have hbn : (((M.crc body : Nat) : Int) != ((M.num (rest.take 4) : Nat) : Int)) = true := by simp; omega
        clear hsum
        go_enter Try.func29, Try.ntmps29
        go_wp2_with fail
        refine hrv.mono ?_
        rintro e w1 ⟨v2, rfl, hr2, k1, rfl⟩
        have hr2' := hr2
        obtain ⟨ao, c, rfl, g1, g2, g3, g4⟩ := hr2
        clear g3 g4
        unfold maxLen at g2
        have hpre := hr2'.pre 4 h2
        have hpost := hr2'.post 4 h2 (if c = 4 then ao else ao.map (fun a => a.add 4)) ⟨fun h => by rw [if_pos h], fun h => by rw [if_neg h]⟩
        have HP : Hid _ := hpost
        clear hpost
        go_wp2_with fail
        refine (number_any (hpre.drewN k1) HLP.out).mono ?_
        rintro e w2 ⟨rfl, k2, rfl⟩
        by_cases hc4 : c = 4
        all_goals
          go_wp2_with fail
          refine (part_any (l := rest.drop 4) (n := n) ?hr htl).mono ?_
          case hr =>
            have := (Rd.drewN HP.out k1).drewN k2
            refine Rd.cong this ?_ ?_ ?_
            · first | rw [if_pos hc4] | (rw [if_neg hc4]; try rfl)
            · first | rfl | omega
            · first | rfl | omega
          rintro e w3 ⟨v1, v3, rfl, hr3, hr4, k3, rfl⟩
          rw [HPE.out] at hr3 hr4 ⊢
          simp only [] at hr3 hr4 ⊢
          go_wp2_with fail
          refine (sum_any (Rd.redrew hr3 _)).mono ?_
          rintro e w4 ⟨rfl, k4, rfl⟩
          go_wp2_with fail
          go_ret3
          exact ⟨_, _, rfl, Ow.nil _ _, Ow.nil _ _, .inl rfl, Below.dN _ _⟩
end Go.Proofs.Ytdaedglfefkeoaa

/- Lists of byte slices in memory. -/
namespace Go.Proofs.Ytdaedglfefkeoaa
open Go.RowKit
set_option linter.unusedVariables false
set_option maxRecDepth 100000

/-- The slice value v reads as these texts. -/
def Rds (w : World) (v : Value) (ls : List (List UInt8)) : Prop :=
  ∃ ao c, v = .slice ao ls.length c ∧ ls.length ≤ c ∧ c ≤ maxLen ∧ ∀ i, (h : i < ls.length) → ∃ a u, ao = some a ∧ w.cell? (a.add i) = some u ∧ Rd w u ls[i]

theorem Rds.below {B : Nat} {w w' : World} {v : Value} {ls : List (List UInt8)} (h : Rds w v ls) (hb : Below B w w') (hB : w.heap.size ≤ B) : Rds w' v ls := by
  obtain ⟨ao, c, h0, h1, h2, h4⟩ := h
  refine ⟨ao, c, h0, h1, h2, fun i hi => ?_⟩
  obtain ⟨a, u, e, hc, hr⟩ := h4 i hi
  have hlt := World.block_lt_of_cell? w _ hc
  exact ⟨a, u, e, by rw [hb.cell (by omega)]; exact hc, hr.below hb hB⟩
end Go.Proofs.Ytdaedglfefkeoaa

/- Lists of byte slices that are the call's own: the row and each of its texts in a block of its own. -/
namespace Go.Proofs.Ytdaedglfefkeoaa
open Go.RowKit
set_option linter.unusedVariables false
set_option maxRecDepth 100000

/-- An operation whose guard lets it by is carried out as one without a guard. -/
theorem wpList_unguard {P : Program} {w : World} {ops : Array Oper} {rest : List Oper} {o : Oper} {a : Act} {Q : Exit → Act → World → Prop} (hw : Region.wanted o (yielded ops a.tmps) = true) (h : wpList P ops Q ({ o with guard := none } :: rest) a w) : wpList P ops Q (o :: rest) a w := by
  unfold wpList at h ⊢
  rw [if_pos hw]
  rw [if_pos (by rfl)] at h
  exact h

/-- A slice of slices of the call's own, from block B on. -/
structure Ows (B : Nat) (w : World) (v : Value) (ls : List (List UInt8)) (us : List Value) : Prop where
  row : w.ownsRow B 25 1 v us.length us
  len : us.length = ls.length
  el : ∀ (i : Nat) (u : Value) (l : List UInt8), us[i]? = some u → ls[i]? = some l → Ow B w u l
  off : ∀ u ∈ us, ∀ b, u.ownBlock = some b → v.ownBlock ≠ some b
  sep : us.Pairwise Apart

theorem Ows.nil (B : Nat) (w : World) : Ows B w (.slice none 0 0) [] [] := ⟨World.ownsRow_nil _ _ _ _, rfl, by simp, by simp, .nil⟩

theorem ownsRow_bel {B C n : Nat} {e : TypeId} {w w' : World} {v : Value} {xs : List Value} (h : w.ownsRow B e 1 v n xs) (hb : Below C w w') (hC : w.heap.size ≤ C) : w'.ownsRow B e 1 v n xs := by
  obtain ⟨h1, h2⟩ := h
  refine ⟨h1, ?_⟩
  rcases h2 with h2 | ⟨g, cap, cur, hv, hg, hh, r⟩
  · exact .inl h2
  · refine .inr ⟨g, cap, cur, hv, hg, ?_, r⟩
    have hlt : g < w.heap.size := (Array.getElem?_eq_some_iff.1 hh).1
    rw [hb.block g (by omega)]; exact hh

theorem Ows.below {B C : Nat} {w w' : World} {v : Value} {ls : List (List UInt8)} {us : List Value} (h : Ows B w v ls us) (hb : Below C w w') (hC : w.heap.size ≤ C) : Ows B w' v ls us :=
  ⟨ownsRow_bel h.row hb hC, h.len, fun i u l e1 e2 => (h.el i u l e1 e2).below hb hC, h.off, h.sep⟩

theorem Ows.elem {B : Nat} {w : World} {v : Value} {ls : List (List UInt8)} {us : List Value} (h : Ows B w v ls us) (u : Value) (hu : u ∈ us) : ∃ l, Ow B w u l := by
  obtain ⟨i, hi, rfl⟩ := List.getElem_of_mem hu
  have hi' : i < ls.length := by have := h.len; omega
  exact ⟨ls[i], h.el i _ _ (by simp [hi]) (by simp [hi'])⟩

theorem cell_new1 (w : World) (v : Value) (t : TypeId) : (w.alloc (.cells #[v] t)).cell? ⟨w.heap.size, 0, none⟩ = some v := by
  rw [World.cell?_alloc_at _ _ _ _ rfl]; rfl
theorem Ow.shape {B : Nat} {w : World} {v : Value} {l : List UInt8} (h : Ow B w v l) : ∃ a c, v = .slice a l.length c := by
  obtain ⟨ao, c, e, _⟩ := h.rd
  exact ⟨_, _, e⟩

/-- One text more, in a new block. -/
theorem Ows.snoc {B C : Nat} {w w2 w3 : World} {v v' u : Value} {ls : List (List UInt8)} {us : List Value} {l : List UInt8} {o : Obj} (h : Ows B w v ls us) (hb : Below C w w2) (hC : w.heap.size ≤ C) (hu : Ow w.heap.size w2 u l) (hB : B ≤ w.heap.size)
    (hrow : w3.ownsRow B 25 1 v' (us.length + 1) (us ++ [u])) (hg : (w2.alloc o).grownBy w3 v.ownBlock) (hv : v'.ownBlock = v.ownBlock ∨ v'.ownBlock = some (w2.alloc o).heap.size) : Ows B w3 v' (ls ++ [l]) (us ++ [u]) := by
  have h2 := h.below hb hC
  have hlt : ∀ b, u.ownBlock = some b → w.heap.size ≤ b ∧ b < w2.heap.size := fun b e => World.ownsRow.lt hu b e
  have hvlt : ∀ b, v.ownBlock = some b → b < w.heap.size := fun b e => (World.ownsRow.lt h.row b e).2
  have huv : ∀ b, u.ownBlock = some b → v.ownBlock ≠ some b := fun b e q => by have := hlt b e; have := hvlt b q; omega
  have kp : ∀ (x : Value) (m : List UInt8) (D : Nat), Ow D w2 x m → (∀ b, x.ownBlock = some b → v.ownBlock ≠ some b) → Ow D w3 x m := by
    intro x m D hx hne
    refine World.ownsRow.kept (hx.alloc o) hg ?_
    by_cases e : x.ownBlock = none
    · exact .inl e
    · obtain ⟨b, hb⟩ := Option.ne_none_iff_exists'.1 e
      exact .inr (fun q => hne b hb (by rw [← q]; exact hb))
  refine ⟨by simpa using hrow, by simp [h.len], ?_, ?_, ?_⟩
  · intro i x m e1 e2
    have hlen := h.len
    by_cases hi : i < us.length
    · rw [List.getElem?_append_left hi] at e1
      rw [List.getElem?_append_left (by omega)] at e2
      have hm : x ∈ us := List.mem_of_getElem? e1
      exact kp x m B (h2.el i x m e1 e2) (fun b e => h.off x hm b e)
    · rw [List.getElem?_append_right (by omega)] at e1
      rw [List.getElem?_append_right (by omega)] at e2
      rw [List.getElem?_singleton] at e1 e2
      split at e1
      · rename_i h0
        rw [if_pos (by omega)] at e2
        obtain rfl := Option.some.inj e1
        obtain rfl := Option.some.inj e2
        exact (kp u l _ hu huv).mono hB
      · cases e1
  · intro x hx b e
    have hxlt : b < w2.heap.size ∧ v.ownBlock ≠ some b := by
      rcases List.mem_append.1 hx with hx | hx
      · obtain ⟨m, hm⟩ := h2.elem x hx
        exact ⟨(World.ownsRow.lt hm b e).2, h.off x hx b e⟩
      · obtain rfl := List.mem_singleton.1 hx
        exact ⟨(hlt b e).2, huv b e⟩
    rcases hv with q | q
    · rw [q]; exact hxlt.2
    · rw [q]
      intro q2
      have := Option.some.inj q2
      simp at this
      omega
  · rw [List.pairwise_append]
    refine ⟨h.sep, List.pairwise_singleton .., fun a ha x hx => ?_⟩
    obtain rfl := List.mem_singleton.1 hx
    obtain ⟨m, hm⟩ := h.elem a ha
    exact hm.apart hu (Nat.le_refl _)

theorem Rd.grown {w w' : World} {r : Option Nat} {v : Value} {l : List UInt8} (h : Rd w v l) (hg : w.grownBy w' r) (hne : ∀ b, v.ownBlock = some b → r ≠ some b) : Rd w' v l := by
  obtain ⟨ao, c, rfl, h1, h2, h3, h4⟩ := h
  refine ⟨ao, c, rfl, h1, h2, h3, fun i hi => ?_⟩
  obtain ⟨a, rfl, hc⟩ := h4 i hi
  have hlt := World.block_lt_of_cell? w _ hc
  rw [add_block] at hlt
  refine ⟨a, rfl, ?_⟩
  rw [World.cell?_of_block (w := w) (by rw [add_block]; exact hg.block a.block hlt (fun e => hne a.block rfl e.symm))]
  exact hc

theorem Ows.rds {B : Nat} {w : World} {v : Value} {ls : List (List UInt8)} {us : List Value} (h : Ows B w v ls us) : Rds w v ls := by
  have hlen := h.len
  have hrow := h.row
  rcases hrow.2 with ⟨hv, h0⟩ | ⟨g, cap, cur, hv, hg, hh, hn, hcap, hsz, htake⟩
  · have : ls = [] := List.length_eq_zero_iff.1 (by omega)
    subst this
    exact ⟨none, 0, hv, by simp, by simp, fun i hi => by simp at hi⟩
  · refine ⟨some ⟨g, 0, none⟩, cap, by rw [hv, hlen], by omega, hcap, fun i hi => ?_⟩
    have hiu : i < us.length := by omega
    refine ⟨⟨g, 0, none⟩, us[i], rfl, ?_, (h.el i us[i] ls[i] (by simp [hiu]) (by simp [hi])).rd⟩
    rw [Addr.add_lit, Nat.zero_add]
    subst hv
    rw [hrow.cellAt i (by omega)]
    simp [hiu]
end Go.Proofs.Ytdaedglfefkeoaa

/- Lists of pairs in memory: 'RdQ w v ps': the slice value v reads in the world w as these pairs. -/
namespace Go.Proofs.Ytdaedglfefkeoaa
open Go.RowKit
set_option linter.unusedVariables false
set_option maxRecDepth 100000

theorem bel_drew (w : World) : Below w.heap.size w w.drew := Below.dN w 1
theorem bel_al (w : World) (o : Obj) : Below w.heap.size w (w.alloc o) := (Below.refl _ _).alloc (Nat.le_refl _) o

/-- A pair: its key, its value, whether it is gone. -/
abbrev P3 := List UInt8 × List UInt8 × Bool

/-- At this address a pair lies. -/
structure PairAt (w : World) (a : Addr) (p : P3) (u1 u2 : Value) : Prop where
  c0 : w.cell? a = some u1
  c1 : w.cell? ⟨a.block, a.off + 1, none⟩ = some u2
  c2 : w.cell? ⟨a.block, a.off + 2, none⟩ = some (.bool p.2.2)
  r1 : Rd w u1 p.1
  r2 : Rd w u2 p.2.1

/-- The slice value v reads as these pairs. -/
def RdQ (w : World) (v : Value) (ps : List P3) : Prop :=
  ∃ ao c, v = .slice ao ps.length c ∧ ps.length ≤ c ∧ c ≤ maxLen ∧ ∀ i p, ps[i]? = some p → ∃ a u1 u2, ao = some a ∧ PairAt w (a.add (i * 3)) p u1 u2

theorem PairAt.below {B : Nat} {w w' : World} {a : Addr} {p : P3} {u1 u2 : Value} (h : PairAt w a p u1 u2) (hb : Below B w w') (hB : w.heap.size ≤ B) : PairAt w' a p u1 u2 := by
  have k : ∀ x u, w.cell? x = some u → w'.cell? x = some u := fun x u q => by rw [hb.cell (by have := World.block_lt_of_cell? w _ q; omega)]; exact q
  exact ⟨k _ _ h.c0, k _ _ h.c1, k _ _ h.c2, h.r1.below hb hB, h.r2.below hb hB⟩
theorem RdQ.below {B : Nat} {w w' : World} {v : Value} {ps : List P3} (h : RdQ w v ps) (hb : Below B w w') (hB : w.heap.size ≤ B) : RdQ w' v ps := by
  obtain ⟨ao, c, h0, h1, h2, h4⟩ := h
  refine ⟨ao, c, h0, h1, h2, fun i p hi => ?_⟩
  obtain ⟨a, u1, u2, e, hc⟩ := h4 i p hi
  exact ⟨a, u1, u2, e, hc.below hb hB⟩
theorem RdQ.nil (w : World) : RdQ w (.slice none 0 0) [] := ⟨none, 0, rfl, by simp, by simp, fun i p hi => by simp at hi⟩
theorem RdQ.drewN {w : World} {v : Value} {ps : List P3} (h : RdQ w v ps) (n : Nat) : RdQ (w.drewN n) v ps := h.below (Below.dN w n) (Nat.le_refl _)

/-- The cells of a pair whose key and value are these slices. -/
def q3 (x : Value × Value × Bool) : List Value := [x.1, x.2.1, .bool x.2.2]
def q3s (xs : List (Value × Value × Bool)) : List Value := xs.flatMap q3
theorem q3_len (x : Value × Value × Bool) : (q3 x).length = 3 := rfl
end Go.Proofs.Ytdaedglfefkeoaa

/- Pairs in an array of the call's own, and pairs appended to it. -/
namespace Go.Proofs.Ytdaedglfefkeoaa
open Go.RowKit
set_option linter.unusedVariables false
set_option maxRecDepth 100000

/-- A pair's cells: two slices and a bool. -/
abbrev V3 := Value × Value × Bool
theorem q3s_length (xs : List V3) : (q3s xs).length = xs.length * 3 := fm_len q3_len xs
theorem q3s_app (xs ys : List V3) : q3s (xs ++ ys) = q3s xs ++ q3s ys := by simp [q3s]
theorem q3s_at (xs : List V3) (i : Nat) (x : V3) (e : xs[i]? = some x) : (q3s xs)[i * 3]? = some x.1 ∧ (q3s xs)[i * 3 + 1]? = some x.2.1 ∧ (q3s xs)[i * 3 + 2]? = some (.bool x.2.2) :=
  ⟨fm_at q3_len xs i 0 x e (by omega), fm_at q3_len xs i 1 x e (by omega), fm_at q3_len xs i 2 x e (by omega)⟩
def Sl3 (x : V3) : Prop := (∃ b m k, x.1 = .slice b m k) ∧ ∃ b m k, x.2.1 = .slice b m k
theorem q3s_one {xs : List V3} (h : ∀ x ∈ xs, Sl3 x) : ∀ u ∈ q3s xs, u.oneCell' = true := by
  intro u hu
  obtain ⟨x, hx, hu⟩ := List.mem_flatMap.1 hu
  obtain ⟨⟨b, m, k, e⟩, b', m', k', e'⟩ := h x hx
  simp only [q3, List.mem_cons, List.not_mem_nil, or_false] at hu
  rcases hu with rfl | rfl | rfl
  · rw [e]; rfl
  · rw [e']; rfl
  · rfl

/-- The slice value v reads as these cells of pairs. -/
def RdV (w : World) (v : Value) (xs : List V3) : Prop :=
  ∃ ao c, v = .slice ao xs.length c ∧ (ao = none → c = 0 ∧ xs = []) ∧ (∀ x ∈ xs, Sl3 x) ∧ ∀ j u, (q3s xs)[j]? = some u → ∃ a, ao = some a ∧ w.cell? (a.add j) = some u
theorem rdV_one (w : World) (x : V3) (hx : Sl3 x) {cs : Array Value} (hcs : cs = (q3 x).toArray) (t : TypeId) : RdV (w.alloc (.cells cs t)) (.slice (some ⟨w.heap.size, 0, none⟩) 1 1) [x] := by
  subst hcs
  refine ⟨some ⟨w.heap.size, 0, none⟩, 1, rfl, (fun e => by cases e), fun y hy => by rw [List.mem_singleton.1 hy]; exact hx, fun j u hu => ⟨_, rfl, ?_⟩⟩
  rw [Addr.add_lit, Nat.zero_add, World.cell?_alloc_at _ _ _ _ rfl]
  simp only [q3s, List.flatMap_cons, List.flatMap_nil, List.append_nil] at hu
  simpa using hu

theorem Try.infoQ : (Try.prog.info? 48).map (fun i => (i.zero, i.size, i.bytes)) = some (some (.agg #[.slice none 0 0, .slice none 0 0, .bool false]), 3, 56) := by kernel_rfl

/-- 'append(out, x...)' of pairs: what the operation does. -/
theorem run_appQ (w : World) (ty : TypeId) (B : Nat) (v : Value) (l : List V3) (hown : w.ownsRow B 48 3 v l.length (q3s l)) (vx : Value) (m : List V3) (hm : RdV w vx m) (hB : B ≤ w.heap.size) (hlen : l.length + m.length ≤ 1099511627776) :
    ∃ v' w', (Builtin.append_ #[22, 22] ty #[v, vx]).run Try.prog w = .ok v' w' ∧ w'.ownsRow B 48 3 v' (l ++ m).length (q3s (l ++ m)) ∧ w.grownBy w' v.ownBlock ∧ (v'.ownBlock = v.ownBlock ∨ v'.ownBlock = some w.heap.size) := by
  obtain ⟨i, hi, hz0, hz1, hz2⟩ := info_parts Try.infoQ
  obtain ⟨ao, c, rfl, h0, h1, h3⟩ := hm
  cases ao with
  | none =>
    obtain ⟨rfl, rfl⟩ := h0 rfl
    exact ⟨v, w, run_append_owned_none (P := Try.prog) (w := w) B 22 ty 48 i 3 Try.underlying22 hi v l.length (q3s l) hown, by simpa using hown, World.grownBy.refl _ _, .inl rfl⟩
  | some ad =>
    obtain ⟨v', w', hr, q2, q3, q4⟩ := run_appW (P := Try.prog) w B 22 ty 48 _ 3 56 Try.underlying22 Try.infoQ rfl (by decide) v l.length (q3s l) hown ad m.length c (q3s m) (q3s_length m) (by
      intro j u hu
      obtain ⟨a', e, hc⟩ := h3 j u hu
      obtain rfl := Option.some.inj e
      exact hc) (q3s_one h1) (by unfold maxLen; omega) (by omega) hB
    exact ⟨v', w', hr, by rw [q3s_app, List.length_append]; exact q2, q3, q4⟩
theorem step_appQ {ops : Array Oper} {o : Oper} {a : Act} {w : World} {K : Act → World → Prop} {Q : Exit → Act → World → Prop} {E : Prop} (hgd : o.guard = none) (s x : Operand)
    (ho : o.op = .call { callee := .builtin .append, args := #[s, x], argTypes := #[22, 22] })
    (B : Nat) (v : Value) (l : List V3) (hs : a.eval s = v) (hown : w.ownsRow B 48 3 v l.length (q3s l)) (vx : Value) (m : List V3) (hx : a.eval x = vx) (hm : RdV w vx m) (hB : B ≤ w.heap.size) (hlen : l.length + m.length ≤ 1099511627776)
    (hK : ∀ v' w', w'.ownsRow B 48 3 v' (l ++ m).length (q3s (l ++ m)) → w.grownBy w' v.ownBlock → (v'.ownBlock = v.ownBlock ∨ v'.ownBlock = some w.heap.size) → K (a.put o.dst v') w') : if Region.wanted o (yielded ops a.tmps) = true then Oper.wp Try.prog o a w K Q else E := by
  have hw : Region.wanted o (yielded ops a.tmps) = true := by simp [Region.wanted, hgd]
  rw [if_pos hw]
  obtain ⟨v', w', hr, q2, q3, q4⟩ := run_appQ w o.type B v l hown vx m hm hB hlen
  unfold Oper.wp execOp
  simp only [ho, resolve, invoke, builtin, Sem.run_bind, Sem.run_pure, Result.andThen_ok, List.map_toArray, List.map_cons, List.map_nil, hs, hx, hr]
  exact hK v' w' q2 q3 q4
theorem wpList_appQ {w : World} {ops : Array Oper} {rest : List Oper} {o : Oper} {a : Act} {Q : Exit → Act → World → Prop} (hgd : o.guard = none) (s x : Operand)
    (ho : o.op = .call { callee := .builtin .append, args := #[s, x], argTypes := #[22, 22] })
    (B : Nat) (v : Value) (l : List V3) (hs : a.eval s = v) (hown : w.ownsRow B 48 3 v l.length (q3s l)) (vx : Value) (m : List V3) (hx : a.eval x = vx) (hm : RdV w vx m) (hB : B ≤ w.heap.size) (hlen : l.length + m.length ≤ 1099511627776)
    (h : ∀ v' w', w'.ownsRow B 48 3 v' (l ++ m).length (q3s (l ++ m)) → w.grownBy w' v.ownBlock → (v'.ownBlock = v.ownBlock ∨ v'.ownBlock = some w.heap.size) → wpList Try.prog ops Q rest (a.put o.dst v') w') : wpList Try.prog ops Q (o :: rest) a w := by
  refine wpList_plain hgd fun K hK => ?_
  obtain ⟨v', w', hr, q2, q3, q4⟩ := run_appQ w o.type B v l hown vx m hm hB hlen
  unfold Oper.wp execOp
  simp only [ho, resolve, invoke, builtin, Sem.run_bind, Sem.run_pure, Result.andThen_ok, List.map_toArray, List.map_cons, List.map_nil, hs, hx, hr]
  exact hK _ _ (h v' w' q2 q3 q4)

/-- A pair's slices are the call's own and read as the pair. -/
def El3 (B : Nat) (w : World) (u : V3) (p : P3) : Prop := Ow B w u.1 p.1 ∧ Ow B w u.2.1 p.2.1 ∧ u.2.2 = p.2.2
theorem El3.below {B C : Nat} {w w' : World} {u : V3} {p : P3} (h : El3 B w u p) (hb : Below C w w') (hC : w.heap.size ≤ C) : El3 B w' u p := ⟨h.1.below hb hC, h.2.1.below hb hC, h.2.2⟩
theorem El3.mono {B B' : Nat} {w : World} {u : V3} {p : P3} (h : El3 B w u p) (hB : B' ≤ B) : El3 B' w u p := ⟨h.1.mono hB, h.2.1.mono hB, h.2.2⟩
/-- A block of a pair's slices. -/
def Bl3 (u : V3) (b : Nat) : Prop := u.1.ownBlock = some b ∨ u.2.1.ownBlock = some b
theorem El3.lt {B : Nat} {w : World} {u : V3} {p : P3} (h : El3 B w u p) {b : Nat} (hb : Bl3 u b) : B ≤ b ∧ b < w.heap.size := by
  rcases hb with e | e
  · exact World.ownsRow.lt h.1 b e
  · exact World.ownsRow.lt h.2.1 b e
theorem El3.grown {B : Nat} {w w' : World} {r : Option Nat} {u : V3} {p : P3} (h : El3 B w u p) (hg : w.grownBy w' r) (hne : ∀ b, Bl3 u b → r ≠ some b) : El3 B w' u p := by
  refine ⟨World.ownsRow.kept h.1 hg ?_, World.ownsRow.kept h.2.1 hg ?_, h.2.2⟩
  · by_cases e : u.1.ownBlock = none
    · exact .inl e
    · obtain ⟨b, hb⟩ := Option.ne_none_iff_exists'.1 e
      exact .inr (fun q => hne b (.inl hb) (by rw [← q]; exact hb))
  · by_cases e : u.2.1.ownBlock = none
    · exact .inl e
    · obtain ⟨b, hb⟩ := Option.ne_none_iff_exists'.1 e
      exact .inr (fun q => hne b (.inr hb) (by rw [← q]; exact hb))
theorem El3.sl {B : Nat} {w : World} {u : V3} {p : P3} (h : El3 B w u p) : Sl3 u := by
  obtain ⟨a, c, e⟩ := h.1.shape
  obtain ⟨a', c', e'⟩ := h.2.1.shape
  exact ⟨⟨_, _, _, e⟩, _, _, _, e'⟩

/-- A slice of pairs of the call's own, from block B on. -/
structure OwQ (B : Nat) (w : World) (v : Value) (ps : List P3) (us : List V3) : Prop where
  row : w.ownsRow B 48 3 v us.length (q3s us)
  len : us.length = ps.length
  el : ∀ (i : Nat) (u : V3) (p : P3), us[i]? = some u → ps[i]? = some p → El3 B w u p
  off : ∀ u ∈ us, ∀ b, Bl3 u b → v.ownBlock ≠ some b

theorem OwQ.nil (B : Nat) (w : World) : OwQ B w (.slice none 0 0) [] [] := ⟨World.ownsRow_nil _ _ _ _, rfl, by simp, by simp⟩
theorem ownsRow_belW {B C n s : Nat} {e : TypeId} {w w' : World} {v : Value} {xs : List Value} (h : w.ownsRow B e s v n xs) (hb : Below C w w') (hC : w.heap.size ≤ C) : w'.ownsRow B e s v n xs := by
  obtain ⟨h1, h2⟩ := h
  refine ⟨h1, ?_⟩
  rcases h2 with h2 | ⟨g, cap, cur, hv, hg, hh, r⟩
  · exact .inl h2
  · refine .inr ⟨g, cap, cur, hv, hg, ?_, r⟩
    have hlt : g < w.heap.size := (Array.getElem?_eq_some_iff.1 hh).1
    rw [hb.block g (by omega)]; exact hh
theorem OwQ.below {B C : Nat} {w w' : World} {v : Value} {ps : List P3} {us : List V3} (h : OwQ B w v ps us) (hb : Below C w w') (hC : w.heap.size ≤ C) : OwQ B w' v ps us :=
  ⟨ownsRow_belW h.row hb hC, h.len, fun i u p e1 e2 => (h.el i u p e1 e2).below hb hC, h.off⟩
theorem OwQ.elem {B : Nat} {w : World} {v : Value} {ps : List P3} {us : List V3} (h : OwQ B w v ps us) (u : V3) (hu : u ∈ us) : ∃ p, El3 B w u p := by
  obtain ⟨i, hi, rfl⟩ := List.getElem_of_mem hu
  have hi' : i < ps.length := by have := h.len; omega
  exact ⟨ps[i], h.el i _ _ (by simp [hi]) (by simp [hi'])⟩
theorem OwQ.mono {B B' : Nat} {w : World} {v : Value} {ps : List P3} {us : List V3} (h : OwQ B w v ps us) (hB : B' ≤ B) : OwQ B' w v ps us := by
  refine ⟨⟨h.row.1, ?_⟩, h.len, fun i u p e1 e2 => (h.el i u p e1 e2).mono hB, h.off⟩
  rcases h.row.2 with h2 | ⟨g, cap, cur, hv, hg, r⟩
  · exact .inl h2
  · exact .inr ⟨g, cap, cur, hv, by omega, r⟩

/-- More pairs behind. -/
theorem OwQ.app {B : Nat} {w w3 : World} {v v' : Value} {ps qs : List P3} {us xs : List V3} (h : OwQ B w v ps us) (hlx : xs.length = qs.length) (hel : ∀ (i : Nat) (u : V3) (p : P3), xs[i]? = some u → qs[i]? = some p → El3 B w u p) (hoff : ∀ u ∈ xs, ∀ b, Bl3 u b → v.ownBlock ≠ some b)
    (hrow : w3.ownsRow B 48 3 v' (us ++ xs).length (q3s (us ++ xs))) (hg : w.grownBy w3 v.ownBlock) (hv : v'.ownBlock = v.ownBlock ∨ v'.ownBlock = some w.heap.size) : OwQ B w3 v' (ps ++ qs) (us ++ xs) := by
  have hlen := h.len
  refine ⟨hrow, by simp [hlen, hlx], ?_, ?_⟩
  · intro i u p e1 e2
    by_cases hi : i < us.length
    · rw [List.getElem?_append_left hi] at e1
      rw [List.getElem?_append_left (by omega)] at e2
      exact (h.el i u p e1 e2).grown hg (fun b hb q => h.off u (List.mem_of_getElem? e1) b hb q)
    · rw [List.getElem?_append_right (by omega)] at e1
      rw [List.getElem?_append_right (by omega), ← hlen] at e2
      exact (hel _ u p e1 e2).grown hg (fun b hb q => hoff u (List.mem_of_getElem? e1) b hb q)
  · intro u hu b hb
    have hx : b < w.heap.size ∧ v.ownBlock ≠ some b := by
      rcases List.mem_append.1 hu with hu | hu
      · obtain ⟨p, hp⟩ := h.elem u hu
        exact ⟨(hp.lt hb).2, h.off u hu b hb⟩
      · obtain ⟨i, hi, rfl⟩ := List.getElem_of_mem hu
        exact ⟨((hel i xs[i] (qs[i]'(by omega)) (by simp [hi]) (by simp [show i < qs.length by omega])).lt hb).2, hoff _ hu b hb⟩
    rcases hv with q | q
    · rw [q]; exact hx.2
    · rw [q]; intro q2; have := Option.some.inj q2; omega

theorem OwQ.shape {B : Nat} {w : World} {v : Value} {ps : List P3} {us : List V3} (h : OwQ B w v ps us) : ∃ a c, v = .slice a ps.length c ∧ ps.length ≤ c ∧ c ≤ maxLen ∧ (a = none → c = 0) ∧ ∀ j u, (q3s us)[j]? = some u → ∃ g, a = some ⟨g, 0, none⟩ ∧ w.cell? ⟨g, j, none⟩ = some u := by
  have := row_reads h.row
  rwa [h.len] at this
theorem OwQ.rdv {B : Nat} {w : World} {v : Value} {ps : List P3} {us : List V3} (h : OwQ B w v ps us) : RdV w v us := by
  obtain ⟨a, c, e, h1, h2, h3, h4⟩ := h.shape
  refine ⟨a, c, by rw [e, h.len], fun q => ?_, fun x hx => ?_, fun j u hu => ?_⟩
  · have hc := h3 q
    exact ⟨hc, List.length_eq_zero_iff.1 (by rw [h.len]; omega)⟩
  · obtain ⟨p, hp⟩ := h.elem x hx
    exact hp.sl
  · obtain ⟨g, rfl, hc⟩ := h4 j u hu
    exact ⟨_, rfl, by rw [Addr.add_lit, Nat.zero_add]; exact hc⟩
theorem OwQ.rdq {B : Nat} {w : World} {v : Value} {ps : List P3} {us : List V3} (h : OwQ B w v ps us) : RdQ w v ps := by
  obtain ⟨a, c, e, h1, h2, h3, h4⟩ := h.shape
  refine ⟨a, c, e, h1, h2, fun i p hp => ?_⟩
  have hi : i < us.length := by have := (List.getElem?_eq_some_iff.1 hp).1; have := h.len; omega
  have hu : us[i]? = some us[i] := by simp [hi]
  obtain ⟨e0, e1, e2⟩ := q3s_at us i _ hu
  have hE := h.el i _ p hu hp
  obtain ⟨g, rfl, g0⟩ := h4 _ _ e0
  have k : ∀ j u, (q3s us)[j]? = some u → w.cell? ⟨g, j, none⟩ = some u := fun j u q => by
    obtain ⟨g', eg, g1⟩ := h4 j u q
    simp only [Option.some.injEq, Addr.mk.injEq, and_true] at eg
    rw [eg]; exact g1
  have ea : (⟨g, 0, none⟩ : Addr).add (i * 3) = ⟨g, i * 3, none⟩ := by rw [Addr.add_lit, Nat.zero_add]
  refine ⟨⟨g, 0, none⟩, us[i].1, us[i].2.1, rfl, ?_⟩
  rw [ea]
  exact ⟨g0, k _ _ e1, by rw [← hE.2.2]; exact k _ _ e2, hE.1.rd, hE.2.1.rd⟩
end Go.Proofs.Ytdaedglfefkeoaa

/- What CopyPairs answers: the same pairs in memory of its own. -/
namespace Go.Proofs.Ytdaedglfefkeoaa
open Go.RowKit
set_option linter.unusedVariables false
set_option maxRecDepth 100000

/-- All bytes of pairs, and three more a pair. -/
def totP : List P3 → Nat
  | [] => 0
  | p :: r => p.1.length + p.2.1.length + 3 + totP r
theorem totP_len (ps : List P3) : 3 * ps.length ≤ totP ps := by
  induction ps with
  | nil => simp [totP]
  | cons f r ih => simp only [totP, List.length_cons]; omega
theorem totP_mem (ps : List P3) (p : P3) (h : p ∈ ps) : p.1.length + p.2.1.length ≤ totP ps := by
  induction ps with
  | nil => cases h
  | cons g r ih =>
    rcases List.mem_cons.1 h with rfl | h
    · simp only [totP]; omega
    · have := ih h; simp only [totP]; omega

theorem take_snocP {α : Type} (l : List α) (k : Nat) (x : α) (h : l[k]? = some x) : l.take (k + 1) = l.take k ++ [x] := by
  obtain ⟨hl, rfl⟩ := List.getElem?_eq_some_iff.1 h
  rw [List.take_succ_eq_append_getElem hl]

theorem row_shape {w : World} {B : Nat} {e : TypeId} {s n : Nat} {v : Value} {xs : List Value} (h : w.ownsRow B e s v n xs) : ∃ a m c, v = .slice a m c := by
  obtain ⟨a, c, e, _⟩ := row_reads h
  exact ⟨_, _, _, e⟩
/-- One pair more, whose slices are new. -/
theorem OwQ.snoc {B : Nat} {w w1 w2 w3 w4 : World} {v v' : Value} {ps : List P3} {us : List V3} {x y : Value} {p : P3} (h : OwQ B w v ps us) (h1 : Below w.heap.size w w1) (h2 : Below w1.heap.size w1 w2) (h3 : Below w2.heap.size w2 w3) (hx : Ow w.heap.size w1 x p.1) (hy : Ow w1.heap.size w2 y p.2.1) (hB : B ≤ w.heap.size)
    (hrow : w4.ownsRow B 48 3 v' (us ++ [(x, y, p.2.2)]).length (q3s (us ++ [(x, y, p.2.2)]))) (hg : w3.grownBy w4 v.ownBlock) (hv : v'.ownBlock = v.ownBlock ∨ v'.ownBlock = some w3.heap.size) : OwQ B w4 v' (ps ++ [p]) (us ++ [(x, y, p.2.2)]) := by
  have hE : El3 B w3 (x, y, p.2.2) p := ⟨((hx.below h2 (Nat.le_refl _)).below h3 (Nat.le_refl _)).mono hB, (hy.below h3 (Nat.le_refl _)).mono (Nat.le_trans hB h1.size), rfl⟩
  refine (h.below (Below.tr (Below.tr h1 h2) h3) (Nat.le_refl _)).app rfl ?_ ?_ hrow hg hv
  · intro i u q e1 e2
    cases i with
    | zero => simp at e1 e2; subst e1; subst e2; exact hE
    | succ i => simp at e1
  · intro u hu b hb q
    obtain rfl := List.mem_singleton.1 hu
    have l1 := (World.ownsRow.lt h.row b q).2
    rcases hb with e | e
    · have := (World.ownsRow.lt hx b e).1; omega
    · have := (World.ownsRow.lt hy b e).1; have := h1.size; omega

theorem OwQ.grown {B : Nat} {w w3 w4 : World} {v : Value} {ps : List P3} {us : List V3} (h : OwQ B w v ps us) (hb : Below w.heap.size w w3) (hB : B ≤ w.heap.size) (hg : w3.grownBy w4 v.ownBlock) : Below B w w4 :=
  (hb.mono hB).trans ((Below.refl B w3).grown hg (Nat.le_trans hB hb.size) (fun k hk => (World.ownsRow.lt h.row k hk).1))

set_option maxHeartbeats 2000000 in
theorem copypairs_any {v : Value} {ps : List P3} {w : World} (hr : RdQ w v ps) (hl : totP ps ≤ 1048576) :
    Calls Try.prog 10 #[v] w fun e w' => ∃ v' us, e = .returned v' ∧ OwQ w.heap.size w' v' ps us ∧ Below w.heap.size w w' := by
  obtain ⟨ao, c, rfl, h1, h2, h4⟩ := hr
  unfold maxLen at h2
  have hpl := totP_len ps
  go_enter Try.func10, Try.ntmps10
  go_wp2_with fail
  go_loopw [3, 4] (fun out i wr => ∃ (k : Nat) (us : List V3), k ≤ ps.length ∧ i = .int .i64 k ∧ OwQ w.heap.size wr out (ps.take k) us ∧ Below w.heap.size w wr) (fun _ i _ => ps.length - (intOf i).toNat)
  case atStart => exact ⟨0, [], Nat.zero_le _, rfl, OwQ.nil _ _, Below.refl _ _⟩
  case round =>
    obtain ⟨k, us, hk, rfl, ho, hb⟩ := hrel
    have hB := hb.size
    by_cases hlt : k < ps.length
    · obtain ⟨p, hp⟩ : ∃ p, ps[k]? = some p := ⟨_, List.getElem?_eq_getElem hlt⟩
      have hm := totP_mem ps p (List.mem_of_getElem? hp)
      obtain ⟨a, u1, u2, rfl, hpa⟩ := h4 k p hp
      have hpr := hpa.below hb (Nat.le_refl _)
      have c0 := hpr.c0
      have c1 := hpr.c1
      have c2 := hpr.c2
      have r1 := hpr.r1
      have r2 := hpr.r2
      have hul := ho.len
      rw [List.length_take, Nat.min_eq_left hk] at hul
      have HT : Hid _ := take_snocP ps k p hp
      obtain ⟨pk, pv, pg⟩ := p
      simp only [] at *
      obtain ⟨x1, y1, rfl, _⟩ := hpr.r1
      obtain ⟨x2, y2, rfl, _⟩ := hpr.r2
      obtain ⟨xo, yo, hoe, _⟩ := ho.shape
      rw [List.length_take, Nat.min_eq_left hk] at hoe
      subst hoe
      have hi0 : (0 : Int) ≤ (k : Int) := by omega
      have hi1 : (k : Int) < (ps.length : Int) := by omega
      have kc : ∀ W, Below w.heap.size w W → W.cell? (a.add (k * 3)) = some (.slice x1 pk.length y1) ∧ W.cell? ⟨(a.add (k * 3)).block, (a.add (k * 3)).off + 1, none⟩ = some (.slice x2 pv.length y2) ∧ W.cell? ⟨(a.add (k * 3)).block, (a.add (k * 3)).off + 2, none⟩ = some (.bool pg) := fun W hW => by
        have q : ∀ x u, w.cell? x = some u → W.cell? x = some u := fun x u e => by rw [hW.cell (World.block_lt_of_cell? _ _ e)]; exact e
        exact ⟨q _ _ hpa.c0, q _ _ hpa.c1, q _ _ hpa.c2⟩
      have hnl : us.length + [((Value.slice none 0 0, Value.slice none 0 0, pg) : V3)].length ≤ 1099511627776 := by simp; omega
      have cp1 : ∀ W, Below wr.heap.size wr W → Calls Try.prog 28 #[.slice x1 pk.length y1] W fun e w' => ∃ v', e = .returned v' ∧ Ow wr.heap.size w' v' pk ∧ Below wr.heap.size wr w' := fun W hW => (lcopy_any (r1.below hW (Nat.le_refl _)) (by omega)).mono (by
        rintro e w' ⟨v', rfl, q1, q2⟩
        exact ⟨v', rfl, q1.mono hW.size, hW.trans (q2.mono hW.size)⟩)
      clear h4 hpa hp hpr
      go_wp2_with fail
      go_region_held3 (fun w' => w'.cell? (a.add (k * 3)) = some (.slice x1 pk.length y1) ∧ w'.cell? ⟨(a.add (k * 3)).block, (a.add (k * 3)).off + 1, none⟩ = some (.slice x2 pv.length y2) ∧ w'.cell? ⟨(a.add (k * 3)).block, (a.add (k * 3)).off + 2, none⟩ = some (.bool pg)) (go_keep) (first
        | (refine step_appQ rfl _ _ rfl w.heap.size (.slice xo k yo) us rfl (ownsRow_belW (ownsRow_belW ho.row hB2 (Nat.le_refl _)) (bel_al w2 _) (Nat.le_refl _)) _ [(.slice a1 pk.length d1, .slice a2 pv.length d2, pg)] rfl (rdV_one w2 (.slice a1 pk.length d1, .slice a2 pv.length d2, pg) ⟨⟨_, _, _, rfl⟩, _, _, _, rfl⟩ rfl _) (by simp; omega) hnl ?_; intro v5 w5 ho5 hg5 hv5; have hB5 : Below w.heap.size w w5 := hb.trans (ho.grown (Below.tr hB2 (bel_al w2 _)) hB hg5); obtain ⟨z0, z1, z2⟩ := kc w5 hB5; obtain ⟨a5, m5, c5, rfl⟩ := row_shape ho5)
        | (go_at_call 28; refine (lcopy_any (hb1r) (by omega)).mono ?_; rintro e w2 ⟨v2, rfl, hoy, hb2⟩; obtain ⟨a2, d2, rfl⟩ := hoy.shape; have hB2 : Below wr.heap.size wr w2 := hB1.trans (hb2.mono hB1.size); obtain ⟨t0, t1, t2⟩ := kc w2 (hb.trans (hB2.mono hB)); have hs2 := hB2.size)
        | (go_at_call 28; refine (cp1 _ (bel_drew wr)).mono ?_; rintro e w1 ⟨v1, rfl, hox, hB1⟩; obtain ⟨a1, d1, rfl⟩ := hox.shape; have hb1r := r2.below hB1 (Nat.le_refl _); obtain ⟨s0, s1, s2⟩ := kc w1 (hb.trans (hB1.mono hB)))
        | fail)
      go_wp2_with fail
      refine ⟨⟨k + 1, us ++ [(.slice a1 pk.length d1, .slice a2 pv.length d2, pg)], by omega, by go_num, ?_, hB5⟩, by simp [intOf]; omega⟩
      rw [HT.out]
      exact ho.snoc (p := (pk, pv, pg)) hB1 hb2 (bel_al w2 _) hox hoy hB ho5 hg5 hv5
    · obtain rfl : k = ps.length := by omega
      clear h4
      go_wp2_with fail
      go_ret
      refine ⟨_, us, rfl, ?_, hb⟩
      rw [List.take_of_length_le (Nat.le_refl _)] at ho
      exact ho
end Go.Proofs.Ytdaedglfefkeoaa

/- How a list of pairs that came in is read: as 'RdQ', with a bound on all its bytes by the input's bulk. -/
namespace Go.Proofs.Ytdaedglfefkeoaa
open Go.ChangeShapes Go.WideShapes Go.ChangeAt Go.RowKit
set_option linter.unusedVariables false
set_option maxRecDepth 100000

/-- One slice of bytes among the cells that came in. -/
theorem open_bytes_cq {H : Type} {enc : TypeId × Value → H} {W : World} {fuel : Nat} {cs : List Value} {x : DataW H × List MemPlace} (hf : DataW.trod enc Try.prog W 0 (fun _ => true) true fuel 25 cs = some x) :
    ∃ u l, cs = [u] ∧ Rd W u l ∧ l.length + 1 ≤ Rows.uptoBulk x.1 := by
  rcases open_ints Try.underlying25 Try.underlying5 (by kernel_rfl) hf with ⟨hcs, hx⟩ | ⟨a, len, cap, zs, hcs, _, hl, hm, hz, hd, hcell, hwz⟩
  · subst hx
    exact ⟨_, [], hcs, Rd.nil _, by simp [Rows.uptoBulk]⟩
  · have hz' : zs.length = cap := by simpa using hz
    have hlen : ((zs.take len).map (fun z => UInt8.ofNat z.toNat)).length = len := by simp; omega
    refine ⟨_, (zs.take len).map (fun z => UInt8.ofNat z.toNat), hcs, Rd.mk hlen.symm (by omega) hm (fun i hi => ?_), ?_⟩
    · have hi' : i < zs.length := by omega
      rw [hcell i hi']
      have hw := hwz (zs[i]) (List.getElem_mem hi')
      have hx : 0 ≤ zs[i] ∧ zs[i] ≤ 255 := by simpa [Lit.wf, IntKind.min, IntKind.max, IntKind.signed, IntKind.bits] using hw
      have e : zs.getD i 0 = zs[i] := by simp [hi']
      rw [e]
      simp only [List.getElem_map, List.getElem_take]
      rw [M.u8_ofNat]
      congr 2
      omega
    · rw [hlen, hd]
      have := bulk_ge (H := H) (lits .u8 (zs.take len))
      simp only [Rows.uptoBulk]
      simp only [lits, List.length_map, List.length_take] at this
      simp only [lits]
      omega

theorem open_pair {H : Type} {enc : TypeId × Value → H} {W : World} {fuel : Nat} {a : Addr} {x : DataW H × List MemPlace}
    (hf : (W.cells? 0 a 3).bind (DataW.trod enc Try.prog W 0 (fun _ => true) true fuel 48) = some x) : ∃ (p : P3) (u1 u2 : Value), PairAt W a p u1 u2 ∧ p.1.length + p.2.1.length + 3 ≤ Rows.uptoBulk x.1 := by
  rw [Option.bind_eq_some_iff] at hf
  obtain ⟨cs, hcs, ht⟩ := hf
  obtain ⟨_, hlen, hcell⟩ := World.cells?_some hcs
  obtain ⟨xs, n, _, rfl, hl, hxl, hfs⟩ := DataW.trod_struct Try.underlying48 ht
  have k4 : Try.prog.cellsOf 4 = 1 := by kernel_rfl
  have k29 : Try.prog.cellsOf 25 = 1 := by kernel_rfl
  match cs, hlen with
  | [v0, v1, v2], _ =>
    match xs, hxl with
    | [y0, y1, y2], _ =>
      have f0 : DataW.trod enc Try.prog W 0 (fun _ => true) true n 25 (List.take (Try.prog.cellsOf 25) (List.drop 0 [v0, v1, v2])) = some y0 := hfs 0 _ rfl
      have f1 : DataW.trod enc Try.prog W 0 (fun _ => true) true n 25 (List.take (Try.prog.cellsOf 25) (List.drop 1 [v0, v1, v2])) = some y1 := hfs 1 _ rfl
      have f2 : DataW.trod enc Try.prog W 0 (fun _ => true) true n 4 (List.take (Try.prog.cellsOf 4) (List.drop 2 [v0, v1, v2])) = some y2 := hfs 2 _ rfl
      rw [k29] at f0 f1
      rw [k4] at f2
      replace f0 : DataW.trod enc Try.prog W 0 (fun _ => true) true n 25 [v0] = some y0 := f0
      replace f1 : DataW.trod enc Try.prog W 0 (fun _ => true) true n 25 [v1] = some y1 := f1
      replace f2 : DataW.trod enc Try.prog W 0 (fun _ => true) true n 4 [v2] = some y2 := f2
      obtain ⟨u0, l0, e0, r0, b0⟩ := open_bytes_cq f0
      obtain ⟨u1, l1, e1, r1, b1⟩ := open_bytes_cq f1
      obtain ⟨g, e2, _⟩ := DataW.trod_bool Try.underlying4 f2
      simp only [List.cons.injEq, and_true] at e0 e1 e2
      have q0 := hcell 0 (by omega)
      have q1 := hcell 1 (by omega)
      have q2 := hcell 2 (by omega)
      simp only [List.getElem?_cons_zero, List.getElem?_cons_succ] at q0 q1 q2
      refine ⟨(l0, l1, g), u0, u1, ⟨by rw [← e0]; exact q0, by rw [← e1]; exact q1, by rw [← e2]; exact q2, r0, r1⟩, ?_⟩
      have b2 := bulk_pos y2.1
      simp only [List.map_cons, List.map_nil, Rows.uptoBulk, Rows.uptoBulkAll]
      omega

theorem totP_bulk {H : Type} : ∀ (elems : List (DataW H × List MemPlace)) (ps : List P3), ps.length = elems.length → (∀ (i : Nat) (y : DataW H × List MemPlace) (p : P3), elems[i]? = some y → ps[i]? = some p → p.1.length + p.2.1.length + 3 ≤ Rows.uptoBulk y.1) → totP ps ≤ Rows.uptoBulkAll (elems.map (·.1))
  | [], [], _, _ => by simp [totP, Rows.uptoBulkAll]
  | y :: ys, p :: ps, hlen, h => by
    have h0 := h 0 y p rfl rfl
    have ih := totP_bulk ys ps (by simpa using hlen) (fun i y' l' e1 e2 => h (i + 1) y' l' (by simpa using e1) (by simpa using e2))
    simp only [totP, List.map_cons, Rows.uptoBulkAll]
    omega

/-- A list of pairs among the cells that came in. -/
theorem open_pairs_cs {H : Type} {enc : TypeId × Value → H} {W : World} {fuel : Nat} {cs : List Value} {x : DataW H × List MemPlace} (hf : DataW.trod enc Try.prog W 0 (fun _ => true) true fuel 22 cs = some x) :
    ∃ u ps, cs = [u] ∧ RdQ W u ps ∧ totP ps + 1 ≤ Rows.uptoBulk x.1 := by
  have hc3 : Try.prog.cellsOf 48 = 3 := by kernel_rfl
  rcases DataW.trod_slice Try.underlying22 hf with ⟨hcs, hx⟩ | ⟨a, len, cap, elems, rest, n, _, hcs, hx, _, hl, hm, hlen, hel, _, _⟩
  · subst hx
    exact ⟨_, [], hcs, RdQ.nil _, by simp [Rows.uptoBulk, totP]⟩
  · have hd : x.1 = .slice (elems.map (·.1)) (rest.map (·.1)) := congrArg Prod.fst hx
    have each : ∀ i, i < len → ∃ r : P3 × Value × Value, PairAt W (a.add (i * 3)) r.1 r.2.1 r.2.2 ∧ ∀ y, elems[i]? = some y → r.1.1.length + r.1.2.1.length + 3 ≤ Rows.uptoBulk y.1 := by
      intro i hi
      have h1 := hel i hi
      rw [hc3, List.getElem?_eq_getElem (by omega)] at h1
      obtain ⟨p, u1, u2, hp, hb⟩ := open_pair h1
      refine ⟨(p, u1, u2), hp, fun y hy => ?_⟩
      rw [List.getElem?_eq_getElem (by omega)] at hy
      obtain rfl := Option.some.inj hy
      exact hb
    have hall : ∃ g : Nat → P3 × Value × Value, ∀ i, i < len → PairAt W (a.add (i * 3)) (g i).1 (g i).2.1 (g i).2.2 ∧ ∀ y, elems[i]? = some y → (g i).1.1.length + (g i).1.2.1.length + 3 ≤ Rows.uptoBulk y.1 := by
      refine ⟨fun i => if h : i < len then Classical.choose (each i h) else (([], [], false), undef, undef), fun i hi => ?_⟩
      simp only [dif_pos hi]
      exact Classical.choose_spec (each i hi)
    obtain ⟨g, hg⟩ := hall
    have hgl : ((List.range len).map (fun i => (g i).1)).length = len := by simp
    refine ⟨.slice (some a) len cap, (List.range len).map (fun i => (g i).1), hcs, ⟨some a, cap, by rw [hgl], by omega, hm, fun i p hp => ?_⟩, ?_⟩
    · have hi : i < len := by have := (List.getElem?_eq_some_iff.1 hp).1; omega
      have e3 : ((List.range len).map (fun i => (g i).1))[i]? = some (g i).1 := by simp [hi]
      rw [e3] at hp
      obtain rfl := Option.some.inj hp
      exact ⟨a, _, _, rfl, (hg i hi).1⟩
    · have := totP_bulk elems ((List.range len).map (fun i => (g i).1)) (by rw [hgl, hlen]) (fun i y l e1 e2 => by
        have hi : i < len := by have := (List.getElem?_eq_some_iff.1 e1).1; omega
        have e3 : ((List.range len).map (fun i => (g i).1))[i]? = some (g i).1 := by simp [hi]
        rw [e3] at e2
        obtain rfl := Option.some.inj e2
        exact (hg i hi).2 y e1)
      rw [hd]
      simp only [Rows.uptoBulk]
      omega
/-- A list of pairs that came in. -/
theorem open_pairs {H : Type} {enc : TypeId × Value → H} {W : World} {a0 : Option Addr} {len cap : Nat} {d : DataW H} {p : List MemPlace} (h : DataW.Trod enc Try.prog W 0 (fun _ => true) true 22 (.slice a0 len cap) d p) :
    ∃ ps : List P3, RdQ W (.slice a0 len cap) ps ∧ totP ps + 1 ≤ Rows.uptoBulk d := by
  obtain ⟨fuel, hf⟩ := h
  obtain ⟨u, ps, e, hq, hb⟩ := open_pairs_cs hf
  simp [Value.cells] at e
  subst e
  exact ⟨ps, hq, hb⟩
end Go.Proofs.Ytdaedglfefkeoaa

/- What rising answers of any pairs. -/
namespace Go.Proofs.Ytdaedglfefkeoaa
open Go.RowKit
set_option linter.unusedVariables false
set_option maxRecDepth 100000

theorem bcompare_q {va vb : Value} {la lb : List UInt8} {w : World} (ha : Rd w va la) (hb : Rd w vb lb) (m q : Nat) : Calls Try.prog 53 #[va, vb] (w.drewN (m + q)) fun e w' => e = .returned (.int .i64 (M.cmpL la lb)) ∧ ∃ n, w' = w.drewN (m + n) := by
  refine (bcompare_any (ha.drewN (m + q)) (hb.drewN (m + q))).mono ?_
  rintro _ w' ⟨rfl, rfl⟩
  exact ⟨rfl, q, rfl⟩
theorem wrap64 (k : Nat) (h : k ≤ 9223372036854775807) : IntKind.i64.wrap (k : Int) = (k : Int) := by rw [IntKind.wrap_i64]; omega

set_option maxHeartbeats 1000000 in
theorem rising_any {v : Value} {ps : List P3} {w : World} (hr : RdQ w v ps) :
    Calls Try.prog 30 #[v] w fun e w' => e = .returned (.bool (M.ris ps)) ∧ ∃ n, w' = w.drewN n := by
  obtain ⟨ao, c, rfl, h1, h2, h4⟩ := hr
  unfold maxLen at h2
  generalize hT : M.ris ps = T
  have HT : Hid _ := hT
  clear hT
  go_enter Try.func30, Try.ntmps30
  go_wp2
  go_loopw [3] (fun i wr => ∃ k : Nat, k ≤ ps.length ∧ i = .int .i64 ((k : Int) + 1) ∧ Hid (∀ j p q, j < k → ps[j]? = some p → ps[j + 1]? = some q → M.cmpL p.1 q.1 < 0) ∧ ∃ m, wr = w.drewN m) (fun i _ => ps.length - (intOf i - 1).toNat)
  case atStart => exact ⟨0, Nat.zero_le _, rfl, (fun j p q hj => by omega), 0, rfl⟩
  case round =>
    obtain ⟨k, hk, rfl, HD, m, rfl⟩ := hrel
    by_cases hlt : k + 1 < ps.length
    · obtain ⟨p, hp⟩ : ∃ p, ps[k]? = some p := ⟨_, List.getElem?_eq_getElem (by omega)⟩
      obtain ⟨q, hq⟩ : ∃ q, ps[k + 1]? = some q := ⟨_, List.getElem?_eq_getElem hlt⟩
      obtain ⟨a, u1, u2, rfl, hpa⟩ := h4 k p hp
      obtain ⟨a', v1, v2, ea, hqa⟩ := h4 (k + 1) q hq
      obtain rfl := Option.some.inj ea
      have hc := fun x => bcompare_q hpa.r1 hqa.r1 m x
      have hw := wrap64 k (by omega)
      have hki : (k : Int) < (ps.length : Int) := by omega
      have hki2 : (k : Int) + 1 < (ps.length : Int) := by omega
      have c0 := hpa.c0
      have c1 := hqa.c0
      obtain ⟨ax, cx, rfl, _⟩ := hpa.r1
      obtain ⟨ay, cy, rfl, _⟩ := hqa.r1
      have HP : Hid _ := And.intro hp hq
      clear h4 hpa hqa hp hq ea
      have hsub : ((k : Int) + 1 - 1) = (k : Int) := by omega
      by_cases hlt0 : M.cmpL p.1 q.1 < 0
      · have hge : decide (M.cmpL p.1 q.1 ≥ 0) = false := by simp; omega
        have HL : Hid _ := hlt0
        generalize hz : M.cmpL p.1 q.1 = z at *
        go_wp2_with fail
        go_quiet (first | (go_at_call 53; exact hc _) | fail)
        go_wp2_with fail
        refine ⟨⟨k + 1, by omega, by go_num, fun j x y hj hx hy => ?_, m + nq, by simp [World.drewN]⟩, by simp [intOf]; omega⟩
        rcases Nat.lt_or_ge j k with h | h
        · exact HD.out j x y h hx hy
        · obtain rfl : j = k := by omega
          rw [HP.out.1] at hx
          rw [HP.out.2] at hy
          obtain rfl := Option.some.inj hx
          obtain rfl := Option.some.inj hy
          rw [hz]; exact HL.out
      · have hge : 0 ≤ M.cmpL p.1 q.1 := by omega
        have hT := HT.out
        rw [M.ris_false HP.out.1 HP.out.2 hge] at hT
        subst hT
        generalize hz : M.cmpL p.1 q.1 = z at *
        go_wp2_with fail
        go_quiet (first | (go_at_call 53; exact hc _) | fail)
        go_wp2_with fail
        go_ret
        exact ⟨rfl, m + nq, by simp [World.drewN, Nat.add_assoc]⟩
    · have hT : T = true := by
        rw [← HT.out, M.ris_iff]
        intro j x y hx hy
        have := (List.getElem?_eq_some_iff.1 hy).1
        exact HD.out j x y (by omega) hx hy
      subst hT
      clear h4
      go_wp2_with fail
      go_ret
      exact ⟨rfl, _, rfl⟩
end Go.Proofs.Ytdaedglfefkeoaa

/- What Row answers of any fields. -/
namespace Go.Proofs.Ytdaedglfefkeoaa
open Go.RowKit
set_option linter.unusedVariables false
set_option maxRecDepth 100000

set_option maxHeartbeats 1000000 in
theorem row_any {v : Value} {ls : List (List UInt8)} {w : World} (hr : Rds w v ls) (hl : (M.row ls).length ≤ 1099511627776) (hn : ls.length ≤ 1099511627776) :
    Calls Try.prog 33 #[v] w fun e w' => ∃ v', e = .returned v' ∧ Ow w.heap.size w' v' (M.row ls) ∧ Below w.heap.size w w' := by
  obtain ⟨ao, c, rfl, h1, h2, h4⟩ := hr
  unfold maxLen at h2
  have hvl := vi_len ls.length
  have hrl : (M.rowB ls).length ≤ 1099511627776 := by simp [M.row] at hl; omega
  clear hl
  go_enter Try.func33, Try.ntmps33
  go_wp2_with fail
  refine (varint_any ls.length _ (by omega)).mono ?_
  rintro e w1 ⟨v1, rfl, ho1, hb1⟩
  go_wp2_with fail
  go_loopw [3, 5, 12] (fun out _ i wr => ∃ k : Nat, k ≤ ls.length ∧ i = .int .i64 k ∧ Ow w.heap.size wr out (M.vi ls.length ++ M.rowB (ls.take k)) ∧ Below w.heap.size w wr) (fun _ _ i _ => ls.length - (intOf i).toNat)
  case atStart => exact ⟨0, Nat.zero_le _, rfl, by simpa [M.rowB] using ho1, hb1⟩
  case round =>
    obtain ⟨k, hk, rfl, ho, hb⟩ := hrel
    clear ho1 hb1
    have hB := hb.size
    by_cases hlt : k < ls.length
    · obtain ⟨a, u, rfl, hc, hru⟩ := h4 k hlt
      have hcx : wr.cell? (a.add k) = some u := by rw [hb.cell (World.block_lt_of_cell? w _ hc)]; exact hc
      have hfl := M.rowB_field ls k hlt
      have hvf := vi_len ls[k].length
      have hsn := M.rowB_snoc ls k hlt
      have HSN : Hid _ := hsn
      have hru' := hru
      obtain ⟨au, cu, rfl, u1, u2, _, _⟩ := hru
      unfold maxLen at u2
      have hdl : (M.vi ls.length ++ M.rowB (ls.take k)).length + (M.vi ls[k].length).length + ls[k].length ≤ 1099511628000 := by simp only [List.length_append]; omega
      generalize hcur : M.vi ls.length ++ M.rowB (ls.take k) = cur at *
      generalize hfk : ls[k] = fk at *
      have HC : Hid _ := And.intro hcur hfk
      clear hcur hsn hfl hc h4
      go_wp2_with fail
      refine (varint_any fk.length _ (by omega)).mono ?_
      rintro e w2 ⟨v2, rfl, ho2, hb2⟩
      have ho' := ho.below hb2 (Nat.le_refl _)
      have hb' : Below w.heap.size w w2 := hb.trans (hb2.mono hB)
      have hB2 := hb'.size
      go_wp2_with (first | (at_builtin; refine wpList_app rfl _ _ rfl w.heap.size _ cur rfl ho' _ (M.vi fk.length) rfl ho2.rd hB2 (by omega) ?_; intro v3 w3 ho3 hb3 hg3) | (at_builtin; refine wpList_app rfl _ _ rfl w.heap.size _ (cur ++ M.vi fk.length) rfl ho3 _ fk rfl ?r1 ?r2 ?r3 ?_; rotate_right; intro v4 w4 ho4 hb4 hg4) | fail)
      case r1 => exact hru'.below (hb'.trans hb3) (Nat.le_refl _)
      case r2 => exact (hb'.trans hb3).size
      case r3 => rw [List.length_append]; omega
      refine ⟨⟨k + 1, by omega, by go_num, ?_, (hb'.trans hb3).trans hb4⟩, by simp [intOf]; omega⟩
      have e : M.vi ls.length ++ M.rowB (ls.take (k + 1)) = cur ++ M.vi fk.length ++ fk := by
        rw [HSN.out, ← HC.out.1]; simp
      rw [e]; exact ho4
    · obtain rfl : k = ls.length := by omega
      go_wp2_with fail
      go_ret
      refine ⟨_, rfl, ?_, hb⟩
      rw [List.take_of_length_le (Nat.le_refl _)] at ho
      exact ho
end Go.Proofs.Ytdaedglfefkeoaa
