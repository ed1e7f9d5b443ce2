/- What has turned between two worlds. -/
import Derived.Test.YtefhinopppdjbaaGreatG1
namespace Go.Proofs.YtefhinopppdjbaaGreat
open Go.RowKit
set_option linter.unusedVariables false
set_option maxRecDepth 100000

theorem grown_set0 (w : World) (g i : Nat) (u : Value) : w.grownBy (w.setCell ⟨g, i, none⟩ u) (some g) :=
  ⟨rfl, rfl, rfl, by simp, fun k _ hk => heap_setCell_other w ⟨g, i, none⟩ k u (fun e => hk (by simp [e]))⟩
/-- Of what was there only blocks of S have turned. -/
structure Chg (S : Nat → Prop) (w w' : World) : Prop where
  os : w'.os = w.os
  tape : w'.tape = w.tape
  output : w'.output = w.output
  size : w.heap.size ≤ w'.heap.size
  block : ∀ b, b < w.heap.size → ¬ S b → w'.heap[b]? = w.heap[b]?
theorem Chg.of_grown {S : Nat → Prop} {w w' : World} {r : Option Nat} (h : w.grownBy w' r) (hr : ∀ b, r = some b → b < w.heap.size → S b) : Chg S w w' :=
  ⟨h.os, h.tape, h.output, h.size, fun b hb hs => h.block b hb (fun e => hs (hr b e.symm hb))⟩
theorem Chg.trans {S : Nat → Prop} {w w' w'' : World} (h : Chg S w w') (k : Chg (fun b => S b ∨ w.heap.size ≤ b) w' w'') : Chg S w w'' :=
  ⟨k.os.trans h.os, k.tape.trans h.tape, k.output.trans h.output, Nat.le_trans h.size k.size, fun b hb hs => (k.block b (Nat.lt_of_lt_of_le hb h.size) (by rintro (e | e); exact hs e; omega)).trans (h.block b hb hs)⟩
theorem Chg.below {S : Nat → Prop} {B : Nat} {w w' : World} (h : Chg S w w') (hS : ∀ b, S b → B ≤ b) (hB : B ≤ w.heap.size) : Below B w w' :=
  ⟨h.os, h.tape, h.output, h.size, fun b hb => h.block b (by omega) (fun e => by have := hS b e; omega)⟩
theorem Chg.mono {S S' : Nat → Prop} {w w' : World} (h : Chg S w w') (hS : ∀ b, b < w.heap.size → S b → S' b) : Chg S' w w' := ⟨h.os, h.tape, h.output, h.size, fun b hb hs => h.block b hb (fun e => hs (hS b hb e))⟩
theorem Rd.keptC {S : Nat → Prop} {w w' : World} {v : Value} {l : List UInt8} (h : Rd w v l) (hg : Chg S w w') (hne : ∀ b, v.ownBlock = some b → ¬ S b) : Rd w' v l := by
  obtain ⟨ao, c, rfl, h1, h2, h3, h4⟩ := h
  refine ⟨ao, c, rfl, h1, h2, h3, fun i hi => ?_⟩
  obtain ⟨a, rfl, hc⟩ := h4 i hi
  have hlt := World.block_lt_of_cell? w _ hc
  rw [add_block] at hlt
  refine ⟨a, rfl, ?_⟩
  rw [World.cell?_of_block (w := w) (by rw [add_block]; exact hg.block a.block hlt (hne a.block rfl))]
  exact hc
theorem ownsRow_keptC {S : Nat → Prop} {w w' : World} {B : Nat} {e : TypeId} {size n : Nat} {v : Value} {xs : List Value} (h : w.ownsRow B e size v n xs) (hg : Chg S w w') (hne : ∀ b, v.ownBlock = some b → ¬ S b) : w'.ownsRow B e size v n xs := by
  refine ⟨h.1, ?_⟩
  rcases h.2 with h2 | ⟨g, cap, cur, rfl, hb, hh, r⟩
  · exact .inl h2
  · exact .inr ⟨g, cap, cur, rfl, hb, by rw [hg.block g (Array.getElem?_eq_some_iff.1 hh).1 (hne g rfl)]; exact hh, r⟩
theorem Chg.alloc {S : Nat → Prop} {w w' : World} (h : Chg S w w') (o : Obj) : Chg S w (w'.alloc o) :=
  h.trans ⟨rfl, rfl, rfl, by simp, fun b hb _ => Below.heap_alloc _ _ _ hb⟩
theorem Chg.put {S : Nat → Prop} {w w' : World} (h : Chg S w w') (g i : Nat) (u : Value) (hg : S g) : Chg S w (w'.setCell ⟨g, i, none⟩ u) :=
  h.trans (Chg.of_grown (grown_set0 w' g i u) (fun b e _ => by obtain rfl := Option.some.inj e; exact .inl hg))
theorem Chg.refl (S : Nat → Prop) (w : World) : Chg S w w := ⟨rfl, rfl, rfl, Nat.le_refl _, fun _ _ _ => rfl⟩
theorem Chg.of_below {B : Nat} {w w' : World} (h : Below B w w') : Chg (fun b => B ≤ b) w w' := ⟨h.os, h.tape, h.output, h.size, fun b hb hs => h.block b (by omega)⟩
end Go.Proofs.YtefhinopppdjbaaGreat

/- A word for what a call turns: of what was there only blocks of S. Nothing of the program is named here. -/
namespace Go.Proofs.YtefhinopppdjbaaGreat
open Go.RowKit
set_option linter.unusedVariables false
set_option maxRecDepth 100000

theorem Ow.keptC {S : Nat → Prop} {w w' : World} {B : Nat} {v : Value} {l : List UInt8} (h : Ow B w v l) (hg : Chg S w w') (hne : ∀ b, v.ownBlock = some b → ¬ S b) : Ow B w' v l := ownsRow_keptC h hg hne
end Go.Proofs.YtefhinopppdjbaaGreat

/- Lists of wide elements as cells, and how a row of the call's own reads. Nothing of the program is named here. -/
namespace Go.Proofs.YtefhinopppdjbaaGreat
open Go.RowKit
set_option linter.unusedVariables false
set_option maxRecDepth 100000

section
variable {α : Type} {f : α → List Value} {n : Nat}
theorem fm_len (hf : ∀ x, (f x).length = n) (l : List α) : (l.flatMap f).length = l.length * n := by
  induction l with
  | nil => simp
  | cons x l ih => rw [List.flatMap_cons, List.length_append, ih, hf, List.length_cons, Nat.add_mul]; omega
theorem fm_at (hf : ∀ x, (f x).length = n) (l : List α) (i j : Nat) (x : α) (e : l[i]? = some x) (hj : j < n) : (l.flatMap f)[i * n + j]? = (f x)[j]? := by
  induction l generalizing i with
  | nil => simp at e
  | cons y l ih =>
    cases i with
    | zero => simp at e; subst e; rw [List.flatMap_cons, Nat.zero_mul, Nat.zero_add, List.getElem?_append_left (by rw [hf]; exact hj)]
    | succ i =>
      have := ih i (by simpa using e)
      rw [List.flatMap_cons, List.getElem?_append_right (by rw [hf, Nat.add_mul]; omega), hf, ← this]
      congr 1
      rw [Nat.add_mul]; omega
theorem fm_take (hf : ∀ x, (f x).length = n) (l : List α) (k : Nat) : (l.flatMap f).take (k * n) = (l.take k).flatMap f := by
  induction l generalizing k with
  | nil => simp
  | cons x l ih =>
    cases k with
    | zero => simp
    | succ k => rw [List.take_succ_cons, List.flatMap_cons, List.flatMap_cons, ← ih k, List.take_append, hf, show (k + 1) * n - n = k * n by rw [Nat.add_mul]; omega, List.take_of_length_le (by rw [hf, Nat.add_mul]; omega)]
theorem fm_drop (hf : ∀ x, (f x).length = n) (l : List α) (k : Nat) : (l.flatMap f).drop (k * n) = (l.drop k).flatMap f := by
  induction l generalizing k with
  | nil => simp
  | cons x l ih =>
    cases k with
    | zero => simp
    | succ k => rw [List.drop_succ_cons, List.flatMap_cons, ← ih k, List.drop_append, hf, show (k + 1) * n - n = k * n by rw [Nat.add_mul]; omega, List.drop_of_length_le (by rw [hf, Nat.add_mul]; omega), List.nil_append]
end

section
variable {w : World}
/-- How a row of the call's own reads. -/
theorem row_reads {B : Nat} {e : TypeId} {size k : Nat} {v : Value} {xs : List Value} (h : w.ownsRow B e size v k xs) : ∃ a c, v = .slice a k c ∧ k ≤ c ∧ c ≤ maxLen ∧ (a = none → c = 0) ∧ ∀ j u, xs[j]? = some u → ∃ g, a = some ⟨g, 0, none⟩ ∧ w.cell? ⟨g, j, none⟩ = some u := by
  rcases h.2 with ⟨q, q0⟩ | ⟨g, cap, cur, q, hB, hg, q1, q2, q3, q4⟩
  · refine ⟨none, 0, by rw [q, q0], by omega, by simp, fun _ => rfl, fun j u e => ?_⟩
    have h1 := h.1
    have := (List.getElem?_eq_some_iff.1 e).1
    rw [h1, q0, Nat.zero_mul] at this
    omega
  · refine ⟨some ⟨g, 0, none⟩, cap, q, q1, q2, (fun e => by cases e), fun j u e => ⟨g, rfl, ?_⟩⟩
    have := h.cells (g := g) (by rw [q]; rfl) j u e
    rw [Addr.add_lit, Nat.zero_add] at this
    exact this
end
end Go.Proofs.YtefhinopppdjbaaGreat

/- Cells of a list of wide elements, looked at the other way round; addresses; rows kept. -/
namespace Go.Proofs.YtefhinopppdjbaaGreat
open Go.RowKit
set_option linter.unusedVariables false
set_option maxRecDepth 100000

theorem fm_inv {α : Type} {f : α → List Value} {n : Nat} (hf : ∀ x, (f x).length = n) (hn : 0 < n) (l : List α) (j : Nat) (u : Value) (h : (l.flatMap f)[j]? = some u) : ∃ i r x, l[i]? = some x ∧ r < n ∧ j = i * n + r ∧ (f x)[r]? = some u := by
  have hj := (List.getElem?_eq_some_iff.1 h).1
  rw [fm_len hf] at hj
  have hi : j / n < l.length := Nat.div_lt_of_lt_mul (by rw [Nat.mul_comm]; exact hj)
  have hr := Nat.mod_lt j hn
  have e : j = j / n * n + j % n := by have := Nat.div_add_mod j n; rw [Nat.mul_comm] at this; omega
  refine ⟨j / n, j % n, l[j / n], List.getElem?_eq_getElem hi, hr, e, ?_⟩
  rw [← fm_at hf l (j / n) (j % n) _ (List.getElem?_eq_getElem hi) hr, ← e]
  exact h

theorem add_at (a : Addr) (n r : Nat) : (⟨(a.add n).block, (a.add n).off + (r + 1), none⟩ : Addr) = a.add (n + (r + 1)) := by
  unfold Addr.add
  by_cases h : n = 0
  · subst h; simp
  · simp [h]; omega
theorem ownsRow_belP {B C n s : Nat} {e : TypeId} {w w' : World} {v : Value} {xs : List Value} (h : w.ownsRow B e s v n xs) (hb : Below C w w') (hC : w.heap.size ≤ C) : w'.ownsRow B e s v n xs := by
  obtain ⟨h1, h2⟩ := h
  refine ⟨h1, ?_⟩
  rcases h2 with h2 | ⟨g, cap, cur, hv, hg, hh, r⟩
  · exact .inl h2
  · refine .inr ⟨g, cap, cur, hv, hg, ?_, r⟩
    have hlt : g < w.heap.size := (Array.getElem?_eq_some_iff.1 hh).1
    rw [hb.block g (by omega)]; exact hh
end Go.Proofs.YtefhinopppdjbaaGreat

/- Plain mathematics of a heap in a list, apart from what lies in it (as HpMath has it for the table's runs). -/
namespace Go.Proofs.YtefhinopppdjbaaGreat.M
set_option maxRecDepth 100000
set_option linter.unusedVariables false

section
variable {α : Type} {lt : α → α → Bool}

/-- Two places swapped. -/
def sw (H : List α) (i j : Nat) : List α := match H[i]?, H[j]? with
  | some x, some y => (H.set i y).set j x
  | _, _ => H
theorem sw_eq {H : List α} {i j : Nat} {x y : α} (hi : H[i]? = some x) (hj : H[j]? = some y) : sw H i j = (H.set i y).set j x := by unfold sw; rw [hi, hj]
theorem sw_len (H : List α) (i j : Nat) : (sw H i j).length = H.length := by unfold sw; split <;> simp
theorem sw_at {H : List α} {i j : Nat} (hi : i < H.length) (hj : j < H.length) (k : Nat) : (sw H i j)[k]? = if k = j then H[i]? else if k = i then H[j]? else H[k]? := by
  have ei : H[i]? = some H[i] := List.getElem?_eq_getElem hi
  have ej : H[j]? = some H[j] := List.getElem?_eq_getElem hj
  rw [sw_eq ei ej, List.getElem?_set, List.getElem?_set, ei, ej]
  simp only [List.length_set]
  by_cases h1 : k = j
  · subst h1; simp [hj]
  · rw [if_neg (fun e => h1 e.symm), if_neg h1]
    by_cases h2 : k = i
    · subst h2; simp [hi]
    · rw [if_neg (fun e => h2 e.symm), if_neg h2]

/-- The first n places hold the same, in another order; the others are as they were. -/
def Mv (n : Nat) (H H' : List α) : Prop := H'.length = H.length ∧ (H'.take n).Perm (H.take n) ∧ ∀ k, n ≤ k → H'[k]? = H[k]?
theorem Mv.refl (n : Nat) (H : List α) : Mv n H H := ⟨rfl, List.Perm.refl _, fun _ _ => rfl⟩
theorem Mv.trans {n : Nat} {A B C : List α} (h1 : Mv n A B) (h2 : Mv n B C) : Mv n A C := ⟨h2.1.trans h1.1, h2.2.1.trans h1.2.1, fun k hk => (h2.2.2 k hk).trans (h1.2.2 k hk)⟩
theorem sw_perm {H : List α} {i j : Nat} (hi : i < H.length) (hj : j < H.length) : (sw H i j).Perm H := by
  have e : sw H i j = (H.toArray.swap i j (by simpa using hi) (by simpa using hj)).toList := by
    rw [sw_eq (List.getElem?_eq_getElem hi) (List.getElem?_eq_getElem hj), Array.toList_swap]
    simp
  rw [e]
  have := Array.swap_perm (xs := H.toArray) (i := i) (j := j) (by simpa using hi) (by simpa using hj)
  simpa using Array.perm_iff_toList_perm.1 this
theorem mem_take_iff {H : List α} {n : Nat} {x : α} : x ∈ H.take n ↔ ∃ k, k < n ∧ H[k]? = some x := by
  rw [List.mem_iff_getElem?]
  constructor
  · rintro ⟨k, hk⟩
    rw [List.getElem?_take] at hk
    split at hk
    · exact ⟨k, by assumption, hk⟩
    · cases hk
  · rintro ⟨k, hk, e⟩
    exact ⟨k, by rw [List.getElem?_take, if_pos hk]; exact e⟩
theorem sw_take {H : List α} {n i j : Nat} (hi : i < n) (hj : j < n) (hn : n ≤ H.length) : (sw H i j).take n = sw (H.take n) i j := by
  apply List.ext_getElem?
  intro k
  have hl : (H.take n).length = n := by simp; omega
  rw [sw_at (by omega) (by omega), List.getElem?_take, List.getElem?_take, List.getElem?_take, List.getElem?_take, if_pos hi, if_pos hj, sw_at (by omega) (by omega)]
  by_cases hk : k < n
  · rw [if_pos hk, if_pos hk]
  · rw [if_neg hk, if_neg hk, if_neg (by omega), if_neg (by omega)]
theorem sw_mv {H : List α} {n i j : Nat} (hi : i < n) (hj : j < n) (hn : n ≤ H.length) : Mv n H (sw H i j) := by
  refine ⟨sw_len _ _ _, ?_, fun k hk => ?_⟩
  · rw [sw_take hi hj hn]
    exact sw_perm (by simp; omega) (by simp; omega)
  · rw [sw_at (by omega) (by omega), if_neg (by omega), if_neg (by omega)]
/-- The first and the last swapped: the first n hold what was behind the first. -/
theorem sw_top {H : List α} {n : Nat} (hn : H.length = n + 1) : ((sw H 0 n).take n).Perm H.tail := by
  cases n with
  | zero =>
    obtain ⟨x, rfl⟩ := List.length_eq_one_iff.1 hn
    simp
  | succ n =>
    cases H with
    | nil => simp at hn
    | cons x T =>
      simp only [List.length_cons, Nat.add_right_cancel_iff] at hn
      have hl : n < T.length := by omega
      have e : (sw (x :: T) 0 (n + 1)).take (n + 1) = T[n] :: T.take n := by
        apply List.ext_getElem?
        intro k
        rw [List.getElem?_take]
        cases k with
        | zero => rw [if_pos (by omega), sw_at (by simp) (by simp; omega), if_neg (by omega), if_pos rfl]; simp
        | succ k =>
          rw [List.getElem?_cons_succ, List.getElem?_take]
          by_cases hk : k < n
          · rw [if_pos (by omega), if_pos hk, sw_at (by simp) (by simp; omega), if_neg (by omega), if_neg (by omega)]; simp
          · rw [if_neg (by omega), if_neg hk]
      rw [e]
      have e2 : T = T.take n ++ [T[n]] := by
        rw [List.take_append_getElem hl, List.take_of_length_le (by omega)]
      show List.Perm _ T
      refine List.Perm.trans ?_ (List.Perm.of_eq e2.symm)
      exact List.perm_append_comm (l₁ := [T[n]]) (l₂ := T.take n)

variable (lt)
/-- Of the first n none stands ahead of its parent. -/
def Hp (H : List α) (n : Nat) : Prop := ∀ i x y, 0 < i → i < n → H[i]? = some x → H[(i - 1) / 2]? = some y → lt x y = false
/-- .. but perhaps the one at j. -/
def HpU (H : List α) (n j : Nat) : Prop := (∀ i x y, 0 < i → i < n → i ≠ j → H[i]? = some x → H[(i - 1) / 2]? = some y → lt x y = false) ∧ ∀ i x y, 0 < i → i < n → 0 < j → (i - 1) / 2 = j → H[i]? = some x → H[(j - 1) / 2]? = some y → lt x y = false
/-- .. but perhaps those whose parent is j. -/
def HpD (H : List α) (n j : Nat) : Prop := (∀ i x y, 0 < i → i < n → (i - 1) / 2 ≠ j → H[i]? = some x → H[(i - 1) / 2]? = some y → lt x y = false) ∧ ∀ i x y, 0 < i → i < n → 0 < j → (i - 1) / 2 = j → H[i]? = some x → H[(j - 1) / 2]? = some y → lt x y = false
variable {lt}

theorem Hp.u0 {H : List α} {n : Nat} (h : Hp lt H n) : HpU lt H n 0 := ⟨fun i x y h1 h2 _ => h i x y h1 h2, fun i x y h1 h2 h3 => absurd h3 (by omega)⟩
theorem HpU.top {H : List α} {n : Nat} (h : HpU lt H n 0) : Hp lt H n := fun i x y h1 h2 => h.1 i x y h1 h2 (by omega)
theorem HpU.ok {H : List α} {n j : Nat} {x y : α} (h : HpU lt H n j) (hx : H[j]? = some x) (hy : H[(j - 1) / 2]? = some y) (hl : lt x y = false) : Hp lt H n := fun i a b h1 h2 ha hb => by
  by_cases e : i = j
  · subst e
    rw [hx] at ha; rw [hy] at hb
    obtain rfl := Option.some.inj ha
    obtain rfl := Option.some.inj hb
    exact hl
  · exact h.1 i a b h1 h2 e ha hb
theorem HpU.up {H : List α} {n j : Nat} {x y : α} (tr : ∀ a b c : α, lt b a = false → lt c b = false → lt c a = false) (asy : ∀ a b : α, lt a b = true → lt b a = false) (hn : n = H.length) (hj : 0 < j) (hjn : j < n) (h : HpU lt H n j) (hx : H[j]? = some x) (hy : H[(j - 1) / 2]? = some y) (hl : lt x y = true) : HpU lt (sw H ((j - 1) / 2) j) n ((j - 1) / 2) := by
  subst hn
  obtain ⟨h1, h2⟩ := h
  have hyx := asy _ _ hl
  have at_ := fun k => sw_at (H := H) (i := (j - 1) / 2) (j := j) (by omega) hjn k
  constructor
  · intro k a b k0 kn ki ha hb
    rw [at_] at ha hb
    rw [if_neg ki] at ha
    by_cases e1 : k = j
    · subst e1
      rw [if_pos rfl, hy] at ha
      rw [if_neg (by omega), if_pos rfl, hx] at hb
      obtain rfl := Option.some.inj ha
      obtain rfl := Option.some.inj hb
      exact hyx
    · rw [if_neg e1] at ha
      by_cases e2 : (k - 1) / 2 = j
      · rw [if_pos e2] at hb
        exact h2 k a b k0 kn hj e2 ha hb
      · rw [if_neg e2] at hb
        by_cases e3 : (k - 1) / 2 = (j - 1) / 2
        · rw [if_pos e3, hx] at hb
          obtain rfl := Option.some.inj hb
          have := h1 k a y k0 kn e1 ha (by rw [e3]; exact hy)
          exact tr _ _ _ hyx this
        · rw [if_neg e3] at hb
          exact h1 k a b k0 kn e1 ha hb
  · intro k a b k0 kn i0 ek ha hb
    rw [at_] at ha hb
    rw [if_neg (by omega), if_neg (by omega)] at hb
    have hyb : lt y b = false := h1 ((j - 1) / 2) y b i0 (by omega) (by omega) hy hb
    by_cases e1 : k = j
    · subst e1
      rw [if_pos rfl, hy] at ha
      obtain rfl := Option.some.inj ha
      exact hyb
    · rw [if_neg e1, if_neg (by omega)] at ha
      have := h1 k a y k0 kn e1 ha (by rw [ek]; exact hy)
      exact tr _ _ _ hyb this

theorem Hp.d0 {H : List α} {n : Nat} (h : ∀ i x y, 0 < i → i < n → (i - 1) / 2 ≠ 0 → H[i]? = some x → H[(i - 1) / 2]? = some y → lt x y = false) : HpD lt H n 0 := ⟨h, fun i x y h1 h2 h3 => absurd h3 (by omega)⟩
theorem HpD.none {H : List α} {n j : Nat} (h : HpD lt H n j) (hn : n ≤ 2 * j + 1) : Hp lt H n := fun i x y h1 h2 => h.1 i x y h1 h2 (by omega)
/-- The least of the children is not ahead of j. -/
theorem HpD.ok {H : List α} {n j c : Nat} {x z : α} (tr : ∀ a b c : α, lt b a = false → lt c b = false → lt c a = false) (h : HpD lt H n j) (hx : H[j]? = some x) (hz : H[c]? = some z) (hc : ∀ k a, 0 < k → k < n → (k - 1) / 2 = j → H[k]? = some a → lt a z = false) (hl : lt z x = false) : Hp lt H n := fun i a b h1 h2 ha hb => by
  by_cases e : (i - 1) / 2 = j
  · rw [e, hx] at hb
    obtain rfl := Option.some.inj hb
    exact tr _ _ _ hl (hc i a h1 h2 e ha)
  · exact h.1 i a b h1 h2 e ha hb
theorem HpD.down {H : List α} {n j c : Nat} {x z : α} (asy : ∀ a b : α, lt a b = true → lt b a = false) (hn : n ≤ H.length) (hc0 : 0 < c) (hcn : c < n) (hcj : (c - 1) / 2 = j) (h : HpD lt H n j) (hx : H[j]? = some x) (hz : H[c]? = some z) (hc : ∀ k a, 0 < k → k < n → (k - 1) / 2 = j → H[k]? = some a → lt a z = false) (hl : lt z x = true) : HpD lt (sw H j c) n c := by
  obtain ⟨h1, h2⟩ := h
  have hxz := asy _ _ hl
  have at_ := fun k => sw_at (H := H) (i := j) (j := c) (by omega) (by omega) k
  constructor
  · intro k a b k0 kn kc ha hb
    rw [at_] at ha hb
    rw [if_neg kc] at hb
    by_cases e1 : k = c
    · subst e1
      rw [if_pos rfl, hx] at ha
      rw [if_pos hcj, hz] at hb
      obtain rfl := Option.some.inj ha
      obtain rfl := Option.some.inj hb
      exact hxz
    · rw [if_neg e1] at ha
      by_cases e2 : (k - 1) / 2 = j
      · rw [if_pos e2, hz] at hb
        obtain rfl := Option.some.inj hb
        rw [if_neg (by omega)] at ha
        exact hc k a k0 kn e2 ha
      · rw [if_neg e2] at hb
        by_cases e3 : k = j
        · subst e3
          rw [if_pos rfl, hz] at ha
          obtain rfl := Option.some.inj ha
          exact h2 c z b hc0 hcn k0 hcj hz hb
        · rw [if_neg e3] at ha
          exact h1 k a b k0 kn e2 ha hb
  · intro k a b k0 kn c0 ek ha hb
    rw [at_] at ha hb
    rw [hcj, if_neg (by omega), if_pos rfl, hz] at hb
    obtain rfl := Option.some.inj hb
    rw [if_neg (by omega), if_neg (by omega)] at ha
    exact h1 k a z k0 kn (by omega) ha (by rw [ek]; exact hz)
/-- The top is not behind any. -/
theorem Hp.min {H : List α} {n : Nat} {x : α} (tr : ∀ a b c : α, lt b a = false → lt c b = false → lt c a = false) (irr : ∀ a, lt a a = false) (h : Hp lt H n) (hx : H[0]? = some x) : ∀ k y, k < n → H[k]? = some y → lt y x = false := by
  intro k
  induction k using Nat.strongRecOn with
  | _ k ih =>
    intro y hk hy
    by_cases e : k = 0
    · subst e
      rw [hx] at hy
      obtain rfl := Option.some.inj hy
      exact irr _
    · have hl := (List.getElem?_eq_some_iff.1 hy).1
      obtain ⟨z, hz⟩ : ∃ z, H[(k - 1) / 2]? = some z := ⟨_, List.getElem?_eq_getElem (by omega)⟩
      exact tr _ _ _ (ih ((k - 1) / 2) (by omega) z (by omega) hz) (h k y z (by omega) hk hy hz)
/-- One more behind. -/
theorem Hp.push {H : List α} (h : Hp lt H H.length) (x : α) : HpU lt (H ++ [x]) (H ++ [x]).length H.length := by
  constructor
  · intro i a b h1 h2 h3 ha hb
    simp only [List.length_append, List.length_singleton] at h2
    rw [List.getElem?_append_left (by omega)] at ha hb
    exact h i a b h1 (by omega) ha hb
  · intro i a b h1 h2 h3 h4
    simp only [List.length_append, List.length_singleton] at h2
    omega
end
theorem Hp.pop {α : Type} {lt : α → α → Bool} {H : List α} {n : Nat} (h : Hp lt H H.length) (hn : H.length = n + 1) : HpD lt (sw H 0 n) n 0 := by
  refine Hp.d0 (fun i x y h1 h2 h3 hx hy => ?_)
  rw [sw_at (by omega) (by omega), if_neg (by omega), if_neg (by omega)] at hx hy
  exact h i x y h1 (by omega) hx hy
theorem Hp.over {α : Type} {lt : α → α → Bool} {H : List α} (h : Hp lt H H.length) (e : α) : HpD lt (H.set 0 e) (H.set 0 e).length 0 := by
  refine Hp.d0 (fun i x y h1 h2 h3 hx hy => ?_)
  rw [List.length_set] at h2
  rw [List.getElem?_set_ne (by omega)] at hx hy
  exact h i x y h1 h2 hx hy
end Go.Proofs.YtefhinopppdjbaaGreat.M
