/- A range over a function whose iterator keeps something of its own in cells, and tells its rounds what they may lean on. General: nothing of the program is named here. -/
import Derived.RangeFuncNested
import Derived.RangeFuncBound
import Derived.RangeFuncCalls
import Derived.RangeFuncLeaves
import Derived.RangeFuncFrom
import Derived.Test.YtcielagfajdbeaaGreatDoorG4
import Derived.Shelf.Strconv.Itoa1
import Derived.Shelf.Strings.Repeat
import Derived.Test.YtcielagfajdbeaaGreatDoorProg
import Derived.Shelf.Small.Wraps
import Derived.Lib.AtoiErrMem
import Derived.Shelf.Strings.SlTrimAscii
import Derived.Shelf.Pu.ParseUintPublic10
import Derived.KernelRfl
import Derived.Test.YtcielagfajdbeaaGreatDoorG2
import Derived.Defers
import Derived.Laws.ResultCell
import Derived.Deep.RegionHeld3
import Derived.Test.YtcielagfajdbeaaGreatDoorG1
import Derived.ArgAppend
namespace Go.Proofs.YtcielagfajdbeaaGreatDoor
open Go.RowKit
set_option linter.unusedVariables false

/-- The two blocks that a range over a function lays for itself lie as they lay. -/
def KB (c : Nat) (A B : World) : Prop := B.heap[c]? = A.heap[c]? ∧ B.heap[c + 1]? = A.heap[c + 1]?

theorem range_told {α : Type} {F : Fence} {n : Nat} {P : Program} {g : Operand} {ps : Array Tmp} {assign body : Code} {Q : Exit → Act → World → Prop} {a : Act} {w : World}
    (hro : F.round = none) (h1 : 1 ≤ n) {gf : Nat} {lb : Array Value} (hg : a.eval g = .func (.func gf) #[] lb) (hFg : F.fn gf) (eg : ∀ args w, (callFunc gf args).run P w = .ok (.enter gf args) w)
    {encs : α → Array Value} (hps : ∀ x, (encs x).size = ps.size)
    (I : List α → World → Prop) (Ok : List α → α → World → Prop) (S : List α → Prop) (Kp : World → World → Prop)
    (hKt : ∀ {A B C : World}, Kp A B → Kp B C → Kp A C) (hKb : ∀ (W : World) (o' : Obj), Kp W (W.putObj (w.heap.size + 1) o'))
    (hI : ∀ (s : List α) (W : World) (o' : Obj), I s W → I s (W.putObj (w.heap.size + 1) o'))
    (h0 : ∀ o, I [] ((w.alloc (.deferred (some []))).alloc o)) (a₁ : α → Act)
    (hassign : ∀ (l : Nat) (x : α) (W : World) (K : Act → World → Prop), K (a₁ x) W →
      assign.wpIn (F.inRound l) (n - 1 - 1) P (Exit.then K (fun _ _ _ => False)) { tmps := (ps.zip (encs x)).foldl (fun t (p, v) => t.setIfInBounds p v) a.tmps, defers := [] } W)
    (hbody : ∀ (l : Nat) (pre : List α) (x : α) (W : World) (o' : Obj), Ok pre x W → body.wpIn (F.inRound l) (n - 1 - 1) P (fun e _ W' => e = .normal ∧ KB w.heap.size (W.putObj (w.heap.size + 1) o') W' ∧ Kp (W.putObj (w.heap.size + 1) o') W' ∧ I (pre ++ [x]) W') (a₁ x) (W.putObj (w.heap.size + 1) o'))
    (hiter : ∀ (l : Nat) (K : World → Prop) (W : World), (∀ A B, K A → KB w.heap.size A B → K B) → Below w.heap.size w W → I [] W → K W →
      (∀ pre x W1, I pre W1 → Ok pre x W1 → K W1 → YieldAt F (n - 1 - 1) P l (encs x) W1 fun e W' => e = .returned (.bool true) ∧ I (pre ++ [x]) W' ∧ Kp W1 W' ∧ K W') →
      CallsIn F (n - 1) P gf (#[.func (.yield l) #[] #[]] ++ lb) W fun e W' => (∃ v, e = .returned v) ∧ ∃ xs, S xs ∧ I xs W' ∧ K W')
    (hdone : ∀ (xs : List α) (W : World), S xs → I xs W → W.heap[w.heap.size]? = some (.deferred (some [])) → Q .normal { a with defers := { target := .collected w.heap.size, args := #[] } :: a.defers } W) :
    (Code.rangeFunc g ps assign body).wpIn F n P Q a w := by
  refine wpIn_rangeFunc fun fn hfn => ?_
  rw [hro]
  let rc : LoopState → Option Code → Loop := fun st pe => { state := st, pending := pe, fn, tmps := a.tmps, params := ps, assign, body, defers := w.heap.size }
  have hsz : (w.alloc (.deferred (some []))).heap.size = w.heap.size + 1 := World.size_alloc _ _
  have hL1 : ((w.alloc (.deferred (some []))).alloc (.loop (rc .ready none))).heap[w.heap.size + 1]? = some (.loop (rc .ready none)) := by
    have := World.alloc_heap_new (w.alloc (.deferred (some []))) (.loop (rc .ready none)); rwa [hsz] at this
  have hK1 : ((w.alloc (.deferred (some []))).alloc (.loop (rc .ready none))).heap[w.heap.size]? = some (.deferred (some [])) := (Below.heap_alloc _ _ _ (by rw [hsz]; omega)).trans (World.alloc_heap_new w _)
  have hb1 : Below w.heap.size w ((w.alloc (.deferred (some []))).alloc (.loop (rc .ready none))) := ((Below.refl _ w).alloc (Nat.le_refl _) _).alloc (by rw [hsz]; omega) _
  have hrun : (Instr.enterLoop fn a.tmps ps assign body none).run P w = .ok (w.heap.size + 1, [{ target := .collected w.heap.size, args := #[] }]) ((w.alloc (.deferred (some []))).alloc (.loop (rc .ready none))) := run_enterLoop_outer fn a.tmps ps assign body
  have hI0 := h0 (.loop (rc .ready none))
  generalize ((w.alloc (.deferred (some []))).alloc (.loop (rc .ready none))) = W1 at hL1 hK1 hb1 hrun hI0
  refine ⟨w.heap.size + 1, [{ target := .collected w.heap.size, args := #[] }], W1, { target := .fn (.func gf) lb, args := #[.func (.yield (w.heap.size + 1)) #[] #[]] }, W1, gf, #[.func (.yield (w.heap.size + 1)) #[] #[]] ++ lb, W1, hrun, ?_, ?_, ?_, fun _ => h1, ?_⟩
  · simp only [resolve, hg]
    simp [go_sem]
  · intro f' hf'
    simp [Target.leads] at hf'
    subst hf'
    exact hFg
  · simp [invoke, go_sem, eg]
  · refine (hiter (w.heap.size + 1) (fun W => W.heap[w.heap.size + 1]? = some (.loop (rc .ready none)) ∧ W.heap[w.heap.size]? = some (.deferred (some []))) W1 (fun A B hk h => ⟨h.2.trans hk.1, h.1.trans hk.2⟩) hb1 hI0 ⟨hL1, hK1⟩ ?_).mono ?_
    · rintro pre x W hi hok ⟨hl, hk⟩
      have hlt := (Array.getElem?_eq_some_iff.1 hl).1
      refine ⟨fn, _, assign, body, run_yield (P := P) (args := encs x) hl (hps x), roundIn_of_wpIn hfn (hassign _ x W _ ⟨_, run_beginRound hl rfl, ?_⟩)⟩
      have hl2 := World.putObj_heap_same (o := .loop { rc .ready none with state := .busy }) hlt
      have hk2 := (World.putObj_heap_other (w := W) (o := .loop { rc .ready none with state := .busy }) (show w.heap.size ≠ w.heap.size + 1 by omega)).trans hk
      refine wpIn_mono (hbody _ pre x W _ hok) ?_
      rintro e a3 W3 ⟨rfl, hk3, hp3, hi3⟩
      have hl3 := hk3.2.trans hl2
      have hlt3 := (Array.getElem?_eq_some_iff.1 hl3).1
      exact ⟨_, _, run_endRound none hl3, rfl, hI _ W3 _ hi3, hKt (hKt (hKb W _) hp3) (hKb W3 _), World.putObj_heap_same hlt3, (World.putObj_heap_other (by omega)).trans (hk3.1.trans hk2)⟩
    · rintro e W2 ⟨⟨v, rfl⟩, xs, hS, hi, hl, hk⟩
      exact ⟨none, _, run_endLoop (P := P) hl (by simp [rc]), hdone xs _ hS (hI _ W2 _ hi) ((World.putObj_heap_other (by omega)).trans hk)⟩
end Go.Proofs.YtcielagfajdbeaaGreatDoor

/- Remove of a file that is there, on a living disk. -/
namespace Go.Proofs.YtcielagfajdbeaaGreatDoor
open Go.RowKit
set_option linter.unusedVariables false
set_option maxRecDepth 100000

section
variable {B d n : Nat} {own : Nat → Option Role} {st : Nm → Option (List UInt8 × Nat)} {sz : Nat} {left : Int} {w : World}
theorem remove_thereW (h : Dk B d n own st sz (alive d) left w) (s : ByteArray) (hs : s.size ≤ maxLen) (f : List UInt8 × Nat) (e : st s.data.toList = some f) (hf : f.1.length ≤ sz) (hz : sz ≤ 1099511627776) :
    Calls Tryz.prog 28 #[.pointer (some ⟨d, 0, none⟩), .string s] w fun e w' => e = .returned (.int .i64 0) ∧ (∃ own', Dk B d n own' (setF st s.data.toList none) (sz - f.1.length) (alive d) left w' ∧ ∀ b, own' b ≠ none → own b ≠ none) ∧ Chg (fun b => own b ≠ none) w w' := by
  have hrf := fun q => refuseFile_any (h.drN q) s hs
  simp only [e, if_neg (show ¬ (some f = none) by simp)] at hrf
  have HH : Hid (Dk B d n own st sz (alive d) left w) := h
  obtain ⟨m, D, fb, fv, h⟩ := h
  have c2 : w.cell? ⟨d, 2, none⟩ = some (.func (.func 31) #[.pointer (some ⟨d, 0, none⟩)] #[]) := by rw [cell_of_row _ _ _ _ _ _ h.cell]; rfl
  clear h
  go_enter Tryz.func28, Tryz.ntmps28
  go_wp2_with fail
  go_quiet (first | (go_at_call 50; refine Calls.quiet_of (v := .int .i64 0) (hrf _)) | (go_at_call 31; refine Calls.quiet_of_same (v := .int .i64 0) (alive_any _ _ _ _)) | fail)
  go_wp2_with fail
  refine (drop_there (HH.out.drN nq) s hs f e hf hz).mono ?_
  rintro e w3 ⟨⟨v3, rfl⟩, hd3, hc3⟩
  go_wp2_with fail
  go_ret
  exact ⟨rfl, ⟨_, hd3, fun b hb => strike_sub hb⟩, ((Chg.of_below (Below.dN w nq)).mono (fun b q1 q2 => by omega)).trans (hc3.mono (fun b _ q => Or.inl (by rcases q with q | q <;> rw [q] <;> simp)))⟩
end
end Go.Proofs.YtcielagfajdbeaaGreatDoor

/- The segments that records make: mathematics alone. -/
namespace Go.Proofs.YtcielagfajdbeaaGreatDoor
open Go.RowKit
set_option linter.unusedVariables false

/-- All records of segments. -/
def recsOf (S : List Sg) : List (List UInt8) := S.flatMap (·.2)
theorem recsOf_at (S : List Sg) : ∀ (i : Nat) (p : Sg) (j : Nat) (r : List UInt8), S[i]? = some p → p.2[j]? = some r → (recsOf S)[(recsOf (S.take i)).length + j]? = some r := by
  induction S with
  | nil => intro i p j r e; simp at e
  | cons a t ih =>
    intro i p j r e er
    cases i with
    | zero =>
      simp at e; subst e
      have := (List.getElem?_eq_some_iff.1 er).1
      simp only [recsOf, List.take_zero, List.flatMap_nil, List.length_nil, Nat.zero_add, List.flatMap_cons]
      rw [List.getElem?_append_left this]; exact er
    | succ i =>
      have e' : t[i]? = some p := by simpa using e
      have := ih i p j r e' er
      simp only [recsOf, List.take_succ_cons, List.flatMap_cons, List.length_append] at this ⊢
      rw [List.getElem?_append_right (by omega)]
      rw [show a.2.length + (List.flatMap (fun x => x.2) (List.take i t)).length + j - a.2.length = (List.flatMap (fun x => x.2) (List.take i t)).length + j by omega]
      exact this
theorem recsOf_find (S : List Sg) : ∀ (m : Nat) (r : List UInt8), (recsOf S)[m]? = some r → ∃ (i : Nat) (p : Sg) (j : Nat), S[i]? = some p ∧ p.2[j]? = some r ∧ (recsOf (S.take i)).length + j = m := by
  induction S with
  | nil => intro m r e; simp [recsOf] at e
  | cons a t ih =>
    intro m r e
    by_cases h : m < a.2.length
    · refine ⟨0, a, m, rfl, ?_, by simp [recsOf]⟩
      simp only [recsOf, List.flatMap_cons] at e
      rwa [List.getElem?_append_left h] at e
    · simp only [recsOf, List.flatMap_cons] at e
      rw [List.getElem?_append_right (by omega)] at e
      obtain ⟨i, p, j, h1, h2, h3⟩ := ih (m - a.2.length) r e
      refine ⟨i + 1, p, j, by simpa using h1, h2, ?_⟩
      simp only [recsOf, List.take_succ_cons, List.flatMap_cons, List.length_append] at h3 ⊢
      omega
theorem recsOf_take (S : List Sg) (i : Nat) (p : Sg) (e : S[i]? = some p) : recsOf (S.take (i + 1)) = recsOf (S.take i) ++ p.2 := by
  rw [List.take_add_one, e]
  simp [recsOf]
theorem recsOf_drop (S : List Sg) (i : Nat) (p : Sg) (e : S[i]? = some p) : recsOf (S.drop i) = p.2 ++ recsOf (S.drop (i + 1)) := by
  obtain ⟨h, rfl⟩ := List.getElem?_eq_some_iff.1 e
  show (S.drop i).flatMap (·.2) = _
  rw [List.drop_eq_getElem_cons h, List.flatMap_cons]
  rfl
theorem frs_app (a b : List (List UInt8)) : frs (a ++ b) = frs a ++ frs b := by simp [frs]
/-- What a disk holds of the segments from the k-th on. -/
def szD (S : List Sg) (k : Nat) : Nat := (frs (recsOf (S.drop k))).length
theorem szD_succ (S : List Sg) (k : Nat) (p : Sg) (e : S[k]? = some p) : szD S k = (frs p.2).length + szD S (k + 1) := by
  unfold szD
  rw [recsOf_drop S k p e, frs_app, List.length_append]

/-- Segments of so many bytes, one behind the other. -/
structure Chn (size : Nat) (rs : List (List UInt8)) (S : List Sg) : Prop where
  ne : 0 < S.length
  at_ : ∀ (i : Nat) p, S[i]? = some p → p.1 = 1 + (recsOf (S.take i)).length
  full : ∀ (i : Nat) p, i + 1 < S.length → S[i]? = some p → size ≤ (frs p.2).length
  small : ∀ (i : Nat) p, S[i]? = some p → p.2 = [] ∨ (frs p.2.dropLast).length < size
  all : recsOf S = rs
theorem Chn.start (size : Nat) : Chn size [] [(1, [])] := by
  refine ⟨by simp, fun i p e => ?_, fun i p h e => by simp at h, fun i p e => ?_, rfl⟩
  · cases i with
    | zero => simp at e; subst e; simp [recsOf]
    | succ i => simp at e
  · cases i with
    | zero => simp at e; subst e; simp
    | succ i => simp at e
section
variable {size : Nat} {rs : List (List UInt8)} {S : List Sg}
theorem Chn.chain (h : Chn size rs S) (i : Nat) (p q : Sg) (e : S[i]? = some p) (e2 : S[i + 1]? = some q) : q.1 = sgNext p := by
  have h1 := h.at_ i p e
  have h2 := h.at_ (i + 1) q e2
  rw [recsOf_take S i p e, List.length_append] at h2
  unfold sgNext
  omega
theorem Chn.next (h : Chn size rs S) {k : Nat} (hk : S.length = k + 1) (p : Sg) (e : S[k]? = some p) : sgNext p = 1 + rs.length := by
  have h1 := h.at_ k p e
  have h2 := recsOf_take S k p e
  rw [← hk, List.take_length, h.all] at h2
  have := congrArg List.length h2
  rw [List.length_append] at this
  unfold sgNext
  omega
theorem Chn.has (h : Chn size rs S) (hs : 0 < size) (i : Nat) (p : Sg) (hi : i + 1 < S.length) (e : S[i]? = some p) : 0 < p.2.length := by
  have := h.full i p hi e
  rcases hp : p.2 with _ | ⟨a, b⟩
  · rw [hp] at this; simp [frs] at this; omega
  · simp
theorem Chn.step (h : Chn size rs S) (hs : 0 < size) (i : Nat) (p q : Sg) (e : S[i]? = some p) (e2 : S[i + 1]? = some q) : p.1 < q.1 := by
  have h1 := h.chain i p q e e2
  have h2 := h.has hs i p (List.getElem?_eq_some_iff.1 e2).1 e
  unfold sgNext at h1
  omega
theorem Chn.mono (h : Chn size rs S) (hs : 0 < size) (i j : Nat) (p q : Sg) (hij : i < j) (e : S[i]? = some p) (e2 : S[j]? = some q) : p.1 < q.1 := by
  induction j generalizing q with
  | zero => omega
  | succ j ih =>
    obtain ⟨m, em⟩ : ∃ m, S[j]? = some m := ⟨_, List.getElem?_eq_getElem (by have := (List.getElem?_eq_some_iff.1 e2).1; omega)⟩
    have h1 := h.step hs j m q em e2
    rcases Nat.lt_or_ge i j with a | a
    · have := ih m a em; omega
    · obtain rfl : i = j := by omega
      rw [e] at em; obtain rfl := Option.some.inj em; exact h1
theorem Chn.le (h : Chn size rs S) (i : Nat) (p : Sg) (e : S[i]? = some p) : sgNext p ≤ 1 + rs.length := by
  have h1 := h.at_ i p e
  have h2 := recsOf_take S i p e
  have h3 : (recsOf (S.take (i + 1))).length ≤ rs.length := by
    rw [← h.all]
    conv => rhs; rw [← List.take_append_drop (i + 1) S]
    simp only [recsOf, List.flatMap_append, List.length_append]
    omega
  rw [h2, List.length_append] at h3
  unfold sgNext
  omega
/-- A record more in the last segment. -/
theorem Chn.there (h : Chn size rs S) {k : Nat} (hk : S.length = k + 1) (p : Sg) (e : S[k]? = some p) (r : List UInt8) (hlt : (frs p.2).length < size) : Chn size (rs ++ [r]) (S.set k (p.1, p.2 ++ [r])) := by
  have tk : ∀ i, i ≤ k → (S.set k (p.1, p.2 ++ [r])).take i = S.take i := fun i hi => by
    rw [List.take_set_of_le hi]
  refine ⟨by simpa using h.ne, fun i q eq => ?_, fun i q hi eq => ?_, fun i q eq => ?_, ?_⟩
  · have hi : i < S.length := by have := (List.getElem?_eq_some_iff.1 eq).1; simpa using this
    rw [tk i (by omega)]
    by_cases hik : i = k
    · subst hik
      rw [List.getElem?_set_self (by omega)] at eq
      obtain rfl := Option.some.inj eq
      exact h.at_ i p e
    · rw [List.getElem?_set_ne (fun q => hik q.symm)] at eq
      exact h.at_ i q eq
  · have hi' : i + 1 < S.length := by simpa using hi
    rw [List.getElem?_set_ne (by omega)] at eq
    exact h.full i q hi' eq
  · by_cases hik : i = k
    · subst hik
      rw [List.getElem?_set_self (by omega)] at eq
      obtain rfl := Option.some.inj eq
      right
      simpa using hlt
    · rw [List.getElem?_set_ne (fun q => hik q.symm)] at eq
      exact h.small i q eq
  · have e1 : (S.set k (p.1, p.2 ++ [r])) = S.take k ++ [(p.1, p.2 ++ [r])] := by
      rw [List.set_eq_take_append_cons_drop, if_pos (by omega), List.drop_eq_nil_of_le (by omega)]
    have e2 : S = S.take k ++ [p] := by
      have := List.take_add_one (l := S) (i := k)
      rw [e, ← hk, List.take_length] at this
      simpa using this
    have h3 := h.all
    rw [e2] at h3
    rw [e1, ← h3]
    simp [recsOf]
/-- A record as the first one of a new segment. -/
theorem Chn.new (h : Chn size rs S) (hs : 0 < size) {k : Nat} (hk : S.length = k + 1) (p : Sg) (e : S[k]? = some p) (r : List UInt8) (hge : size ≤ (frs p.2).length) : Chn size (rs ++ [r]) (S ++ [(sgNext p, [r])]) := by
  refine ⟨by simp, fun i q eq => ?_, fun i q hi eq => ?_, fun i q eq => ?_, ?_⟩
  · by_cases hi : i < S.length
    · rw [List.getElem?_append_left hi] at eq
      rw [List.take_append_of_le_length (by omega)]
      exact h.at_ i q eq
    · have hi2 : i = S.length := by have := (List.getElem?_eq_some_iff.1 eq).1; simp at this; omega
      subst hi2
      rw [List.getElem?_append_right (by omega)] at eq
      simp at eq
      subst eq
      rw [List.take_append_of_le_length (by omega), List.take_length, h.all]
      exact h.next hk p e
  · have hi' : i < S.length := by simpa using hi
    rw [List.getElem?_append_left hi'] at eq
    by_cases hik : i = k
    · subst hik; rw [e] at eq; obtain rfl := Option.some.inj eq; exact hge
    · exact h.full i q (by omega) eq
  · by_cases hi : i < S.length
    · rw [List.getElem?_append_left hi] at eq; exact h.small i q eq
    · have hi2 : i = S.length := by have := (List.getElem?_eq_some_iff.1 eq).1; simp at this; omega
      subst hi2
      rw [List.getElem?_append_right (by omega)] at eq
      simp at eq
      subst eq
      right; simpa [frs] using hs
  · have := h.all
    simp only [recsOf, List.flatMap_append, List.flatMap_cons, List.flatMap_nil, List.append_nil] at this ⊢
    rw [this]
/-- Where a record lies. -/
theorem Chn.find (h : Chn size rs S) (m : Nat) (r : List UInt8) (e : rs[m]? = some r) : ∃ (i : Nat) (p : Sg) (j : Nat), S[i]? = some p ∧ p.2[j]? = some r ∧ p.1 + j = m + 1 := by
  rw [← h.all] at e
  obtain ⟨i, p, j, h1, h2, h3⟩ := recsOf_find S m r e
  have := h.at_ i p h1
  exact ⟨i, p, j, h1, h2, by omega⟩
theorem Chn.gets (h : Chn size rs S) (i : Nat) (p : Sg) (j : Nat) (r : List UInt8) (e : S[i]? = some p) (er : p.2[j]? = some r) : rs[p.1 - 1 + j]? = some r := by
  have h1 := recsOf_at S i p j r e er
  have h2 := h.at_ i p e
  rw [h.all] at h1
  rw [show p.1 - 1 + j = (recsOf (S.take i)).length + j by omega]
  exact h1
end
/-- How many segments Cut takes. -/
theorem cut_at (b : Nat → Nat) (n index : Nat) (hn : 0 < n) : ∃ k, k < n ∧ (∀ i, i < k → b (i + 1) ≤ index) ∧ (k + 1 < n → index < b (k + 1)) := by
  induction n with
  | zero => omega
  | succ n ih =>
    cases n with
    | zero => exact ⟨0, by omega, fun i h => by omega, fun h => by omega⟩
    | succ n =>
      obtain ⟨k, h1, h2, h3⟩ := ih (by omega)
      by_cases hk : k + 1 < n + 1
      · exact ⟨k, by omega, h2, fun _ => h3 hk⟩
      · obtain rfl : k = n := by omega
        by_cases hb : b (k + 1) ≤ index
        · refine ⟨k + 1, by omega, fun i hi => ?_, fun h => by omega⟩
          rcases Nat.lt_or_ge i k with a | a
          · exact h2 i a
          · obtain rfl : i = k := by omega
            exact hb
        · exact ⟨k, by omega, h2, fun _ => by omega⟩
end Go.Proofs.YtcielagfajdbeaaGreatDoor

/- The library's own small (decimal numbers below 100) and strings.Repeat at this program: contracts of the shelf, laid by its commands in plain words. -/
namespace Go.Proofs.YtcielagfajdbeaaGreatDoor
open Go.RowKit Go.Shelf

def Tryz.lays283_ren : Go.Shelf.Ren := ⟨fun | 283 => 109 | n => n, fun | 3 => 3 | 9 => 9 | 4 => 4 | n => n, fun | n => n⟩
theorem Tryz.lays283 : Go.Proofs.Lays.n283 Tryz.prog Tryz.lays283_ren := {
  mixed := by kernel_rfl
  f283 := Tryz.func109.trans (congrArg some (by kernel_rfl))
  t3 := Tryz.underlying3
  a3 := Tryz.isAgg3
  z3 := Tryz.sizeOf3
  v3 := Tryz.zeroValue3
  t4 := Tryz.underlying4
  a4 := Tryz.isAgg4
  z4 := Tryz.sizeOf4
  v4 := Tryz.zeroValue4
  t9 := Tryz.underlying9
  a9 := Tryz.isAgg9
  z9 := Tryz.sizeOf9
  v9 := Tryz.zeroValue9 }
def Tryz.lays105_ren : Go.Shelf.Ren := ⟨fun | 105 => 70 | 212 => 83 | 99 => 84 | 165 => 85 | 166 => 86 | 170 => 87 | 169 => 88 | 263 => 113 | 264 => 114 | 206 => 92 | 240 => 115 | 241 => 116 | 276 => 132 | 277 => 133 | n => n, fun | 9 => 9 | 3 => 3 | 4 => 4 | 20 => 20 | 0 => 0 | 46 => 118 | 109 => 125 | 5 => 5 | 72 => 130 | 76 => 131 | 51 => 93 | 146 => 156 | 53 => 38 | 148 => 158 | 70 => 128 | 37 => 24 | 75 => 104 | 127 => 160 | 164 => 175 | 80 => 99 | n => n, fun | n => n⟩
theorem Tryz.lays105 : Go.Proofs.Lays.n105 Tryz.prog Tryz.lays105_ren := {
  mixed := by kernel_rfl
  f99 := Tryz.func84.trans (congrArg some (by kernel_rfl))
  f105 := Tryz.func70.trans (congrArg some (by kernel_rfl))
  f165 := Tryz.func85.trans (congrArg some (by kernel_rfl))
  f166 := Tryz.func86.trans (congrArg some (by kernel_rfl))
  f169 := Tryz.func88.trans (congrArg some (by kernel_rfl))
  f170 := Tryz.func87.trans (congrArg some (by kernel_rfl))
  f206 := Tryz.func92.trans (congrArg some (by kernel_rfl))
  f212 := Tryz.func83.trans (congrArg some (by kernel_rfl))
  f240 := Tryz.func115.trans (congrArg some (by kernel_rfl))
  f241 := Tryz.func116.trans (congrArg some (by kernel_rfl))
  f263 := Tryz.func113.trans (congrArg some (by kernel_rfl))
  f264 := Tryz.func114.trans (congrArg some (by kernel_rfl))
  f276 := Tryz.func132.trans (congrArg some (by kernel_rfl))
  f277 := Tryz.func133.trans (congrArg some (by kernel_rfl))
  t0 := Tryz.underlying0
  a0 := Tryz.isAgg0
  z0 := Tryz.sizeOf0
  v0 := Tryz.zeroValue0
  t3 := Tryz.underlying3
  a3 := Tryz.isAgg3
  z3 := Tryz.sizeOf3
  v3 := Tryz.zeroValue3
  t4 := Tryz.underlying4
  a4 := Tryz.isAgg4
  z4 := Tryz.sizeOf4
  v4 := Tryz.zeroValue4
  t5 := Tryz.underlying5
  a5 := Tryz.isAgg5
  z5 := Tryz.sizeOf5
  v5 := Tryz.zeroValue5
  t9 := Tryz.underlying9
  a9 := Tryz.isAgg9
  z9 := Tryz.sizeOf9
  v9 := Tryz.zeroValue9
  t20 := Tryz.underlying20
  a20 := Tryz.isAgg20
  z20 := Tryz.sizeOf20
  v20 := Tryz.zeroValue20
  t37 := Tryz.underlying24
  a37 := Tryz.isAgg24
  z37 := Tryz.sizeOf24
  v37 := Tryz.zeroValue24
  t46 := Tryz.underlying118
  a46 := Tryz.isAgg118
  z46 := Tryz.sizeOf118
  v46 := Tryz.zeroValue118
  t51 := Tryz.underlying93
  a51 := Tryz.isAgg93
  z51 := Tryz.sizeOf93
  v51 := Tryz.zeroValue93
  t53 := Tryz.underlying38
  a53 := Tryz.isAgg38
  z53 := Tryz.sizeOf38
  v53 := Tryz.zeroValue38
  t70 := Tryz.underlying128
  a70 := Tryz.isAgg128
  z70 := Tryz.sizeOf128
  v70 := Tryz.zeroValue128
  t72 := Tryz.underlying130
  a72 := Tryz.isAgg130
  z72 := Tryz.sizeOf130
  v72 := Tryz.zeroValue130
  t75 := Tryz.underlying104
  a75 := Tryz.isAgg104
  z75 := Tryz.sizeOf104
  v75 := Tryz.zeroValue104
  t76 := Tryz.underlying131
  a76 := Tryz.isAgg131
  z76 := Tryz.sizeOf131
  v76 := Tryz.zeroValue131
  t109 := Tryz.underlying125
  a109 := Tryz.isAgg125
  z109 := Tryz.sizeOf125
  v109 := Tryz.zeroValue125
  t127 := Tryz.underlying160
  a127 := Tryz.isAgg160
  z127 := Tryz.sizeOf160
  v127 := Tryz.zeroValue160
  t146 := Tryz.underlying156
  a146 := Tryz.isAgg156
  z146 := Tryz.sizeOf156
  v146 := Tryz.zeroValue156
  t148 := Tryz.underlying158
  a148 := Tryz.isAgg158
  z148 := Tryz.sizeOf158
  v148 := Tryz.zeroValue158
  t164 := Tryz.underlying175
  a164 := Tryz.isAgg175
  z164 := Tryz.sizeOf175
  v164 := Tryz.zeroValue175 }
theorem Tryz.Builder_Extra_105 : Builder.Extra Tryz.prog Tryz.lays105_ren := {
  sizeBuilder := by kernel_rfl
  liesBuilder := by kernel_rfl
  t5 := Tryz.underlying5
  a5 := Tryz.isAgg5
  z5 := Tryz.sizeOf5
  v5 := Tryz.zeroValue5
  infoByte := by kernel_rfl
  cellsByte := by kernel_rfl
  sizeByte := by kernel_rfl
  neB5 := by decide }

theorem Tryz.internal_strconv_small (i : Nat) (h : i < 100) (w : World) :
    Calls Tryz.prog 109 #[.int .i64 i] w fun e w' => e = .returned (.string ⟨(Lib.decDigits i).toArray⟩) ∧ w' = w := Any.internal_strconv_small Tryz.lays283 i h w
theorem Tryz.strings_Repeat_main (s : ByteArray) (c : Nat) (w : World) (hc2 : 2 ≤ c) (hc : c ≤ 9223372036854775807) (hlen : s.size * c ≤ 140737488355328) (h0 : 0 < s.size) :
    Calls Tryz.prog 70 #[.string s, .int .i64 c] w fun e w' => e = .returned (.string ⟨(Lib.repeatL s.data.toList c).toArray⟩) ∧ Below w.heap.size w w' := Any.strings_Repeat_main Tryz.lays105 Tryz.Builder_Extra_105 s c w hc2 hc hlen h0
end Go.Proofs.YtcielagfajdbeaaGreatDoor

/- The names of a log's files, of segments that begin below 100. -/
namespace Go.Proofs.YtcielagfajdbeaaGreatDoor
open Go.RowKit
set_option linter.unusedVariables false
set_option maxRecDepth 100000

/-- The decimal digits of a number. -/
def dg (n : Nat) : ByteArray := ⟨(Lib.decDigits n).toArray⟩
def nou (k : Nat) : ByteArray := ⟨(Lib.repeatL [48] k).toArray⟩
theorem dg_size : ∀ n, n < 100 → 1 ≤ (dg n).size ∧ (dg n).size ≤ 2 := by decide +kernel
theorem nou_size : ∀ k, k < 21 → (nou k).size = k := by decide +kernel
theorem formats_small (n : Nat) (h : n < 100) : Formats n (dg n) := by
  intro w
  have hs := Tryz.internal_strconv_small n h w
  have hc : IntKind.i64.wrap (n : Int) = (n : Int) := by rw [IntKind.wrap_i64]; omega
  have hi : (n : Int) < 100 := by omega
  have hin : Calls Tryz.prog 82 #[.int .u64 (n : Int), .int .i64 10] w fun e w' => e = .returned (.string (dg n)) ∧ w' = w := by
    go_enter Tryz.func82, Tryz.ntmps82
    go_wp2_with fail
    refine hs.mono ?_
    rintro e w1 ⟨rfl, rfl⟩
    go_wp2_with fail
    go_ret
    exact ⟨rfl, rfl⟩
  go_enter Tryz.func69, Tryz.ntmps69
  go_wp2_with fail
  refine hin.mono ?_
  rintro e w1 ⟨rfl, rfl⟩
  go_wp2_with fail
  go_ret
  exact ⟨rfl, Below.refl _ _⟩
theorem noughts_any (k : Nat) (h2 : 2 ≤ k) (h : k ≤ 20) : Noughts k (nou k) := fun w => Tryz.strings_Repeat_main ⟨#[48]⟩ k w h2 (by omega) (by show 1 * k ≤ _; omega) (by decide)
/-- The name of the file of a segment. -/
def fname (nm : ByteArray) (n : Nat) : ByteArray := nm ++ ⟨#[46]⟩ ++ nou (20 - (dg n).size) ++ dg n
theorem fname_size (nm : ByteArray) (n : Nat) (h : n < 100) : (fname nm n).size = nm.size + 21 := by
  have h1 := dg_size n h
  unfold fname
  rw [ByteArray.size_append, ByteArray.size_append, ByteArray.size_append, nou_size _ (by omega)]
  show nm.size + 1 + _ + _ = _
  omega
theorem tail_inj : ∀ n, n < 100 → ∀ k, k < 100 → ((nou (20 - (dg n).size)).data.toList ++ (dg n).data.toList) = ((nou (20 - (dg k).size)).data.toList ++ (dg k).data.toList) → n = k := by decide +kernel
theorem fname_list (nm : ByteArray) (n : Nat) : (fname nm n).data.toList = nm.data.toList ++ (46 :: ((nou (20 - (dg n).size)).data.toList ++ (dg n).data.toList)) := by
  unfold fname
  simp [ByteArray.data_append]
theorem fname_inj (nm : ByteArray) {n k : Nat} (hn : n < 100) (hk : k < 100) (e : (fname nm n).data.toList = (fname nm k).data.toList) : n = k := by
  rw [fname_list, fname_list] at e
  have := List.append_cancel_left e
  exact tail_inj n hn k hk (List.cons.inj this).2
/-- The name of the spare file. -/
def sname (nm : ByteArray) : ByteArray := nm ++ ⟨#[46, 110, 101, 119]⟩
theorem sname_ne (nm : ByteArray) {n : Nat} (hn : n < 100) : (sname nm).data.toList ≠ (fname nm n).data.toList := fun e => by
  have h1 : (sname nm).size = (fname nm n).size := by
    have := congrArg List.length e
    simpa using this
  rw [fname_size nm n hn] at h1
  unfold sname at h1
  rw [ByteArray.size_append] at h1
  have : (⟨#[46, 110, 101, 119]⟩ : ByteArray).size = 4 := rfl
  omega
section
variable {B l d size : Nat} {nm : ByteArray} {over : Bool} {sv : Value} {P : List (Sg × Value)} {U : Nat → List Value} {own : Nat → Option LRole} {w w' : World}
theorem file_any (h : LgI B l d size nm over sv P U own w) (n : Nat) (hn : n < 100) (hm : nm.size ≤ 40) :
    Calls Tryz.prog 44 #[.pointer (some ⟨l, 0, none⟩), .int .u64 (n : Int)] w fun e w' => e = .returned (.string (fname nm n)) ∧ Below w.heap.size w w' := by
  have h1 := dg_size n hn
  have h2 := nou_size (20 - (dg n).size) (by omega)
  exact file_of h n (dg n) (nou (20 - (dg n).size)) (formats_small n hn) (by omega) (noughts_any _ (by omega) (by omega)) hm (by omega)
end
end Go.Proofs.YtcielagfajdbeaaGreatDoor

/- The document's Digits. -/
namespace Go.Proofs.YtcielagfajdbeaaGreatDoor
open Go.RowKit
set_option linter.unusedVariables false
set_option maxRecDepth 100000

/-- The lowest k digits of a number. -/
def lowD : Nat → Nat → ByteArray
  | 0, _ => ⟨#[]⟩
  | k + 1, n => (⟨#[48, 49, 50, 51, 52, 53, 54, 55, 56, 57]⟩ : ByteArray).extract (n / 10 ^ k % 10) (n / 10 ^ k % 10 + 1) ++ lowD k n
theorem lowD_size (k n : Nat) : (lowD k n).size ≤ k := by
  induction k with
  | zero => exact Nat.le_refl 0
  | succ k ih =>
    rw [lowD, ByteArray.size_append, ByteArray.size_extract]
    omega
theorem lowD_name : ∀ n, n < 100 → lowD 20 n = nou (20 - (dg n).size) ++ dg n := by decide +kernel

set_option maxHeartbeats 1000000 in
theorem digits_any (n : Nat) (hn : n < 18446744073709551616) (w : World) :
    Calls Tryz.prog 24 #[.int .u64 (n : Int)] w fun e w' => e = .returned (.string (lowD 20 n)) ∧ ∃ q, w' = w.drewN q := by
  go_enter Tryz.func24, Tryz.ntmps24
  go_wp2_with fail
  go_loopw [0, 3, 4] (fun v s i wr => ∃ k : Nat, k ≤ 20 ∧ v = .int .u64 ((n / 10 ^ k : Nat) : Int) ∧ s = .string (lowD k n) ∧ i = .int .i64 (k : Int) ∧ ∃ q, wr = w.drewN q) (fun _ _ i _ => 20 - (intOf i).toNat)
  case atStart => exact ⟨0, by omega, by simp, rfl, rfl, 0, by simp [World.drewN]⟩
  case round =>
    obtain ⟨k, hk, rfl, rfl, rfl, q, rfl⟩ := hrel
    have hle : n / 10 ^ k ≤ n := Nat.div_le_self _ _
    have hls := lowD_size k n
    have hdd : n / 10 ^ k / 10 = n / 10 ^ (k + 1) := by rw [Nat.div_div_eq_div_mul, Nat.pow_succ]
    have hlow : lowD (k + 1) n = (⟨#[48, 49, 50, 51, 52, 53, 54, 55, 56, 57]⟩ : ByteArray).extract (n / 10 ^ k % 10) (n / 10 ^ k % 10 + 1) ++ lowD k n := rfl
    generalize n / 10 ^ k = m at *
    by_cases hlt : k < 20
    · go_wp2_with fail
      exact ⟨⟨k + 1, by omega, by rw [← hdd]; rfl, by rw [hlow], by go_num, q, rfl⟩, by simp [intOf]; omega⟩
    · obtain rfl : k = 20 := by omega
      go_wp2_with fail
      go_ret
      exact ⟨rfl, q, rfl⟩
end Go.Proofs.YtcielagfajdbeaaGreatDoor

/- strings.CutPrefix, strings.Trim and strconv.ParseUint at this program: contracts of the shelf, laid by its commands in plain words. -/
namespace Go.Proofs.YtcielagfajdbeaaGreatDoor
open Go.RowKit Go.Shelf

def Tryz.l103_ren : Go.Shelf.Ren := ⟨fun | 103 => 62 | 210 => 76 | 206 => 92 | n => n, fun | 9 => 9 | 4 => 4 | 24 => 100 | 3 => 3 | n => n, fun | n => n⟩
theorem Tryz.l103 : Go.Proofs.Lays.n103 Tryz.prog Tryz.l103_ren := {
  mixed := by kernel_rfl
  f103 := Tryz.func62.trans (congrArg some (by kernel_rfl))
  f206 := Tryz.func92.trans (congrArg some (by kernel_rfl))
  f210 := Tryz.func76.trans (congrArg some (by kernel_rfl))
  t3 := Tryz.underlying3
  a3 := Tryz.isAgg3
  z3 := Tryz.sizeOf3
  v3 := Tryz.zeroValue3
  t4 := Tryz.underlying4
  a4 := Tryz.isAgg4
  z4 := Tryz.sizeOf4
  v4 := Tryz.zeroValue4
  t9 := Tryz.underlying9
  a9 := Tryz.isAgg9
  z9 := Tryz.sizeOf9
  v9 := Tryz.zeroValue9
  t24 := Tryz.underlying100
  a24 := Tryz.isAgg100
  z24 := Tryz.sizeOf100
  v24 := Tryz.zeroValue100 }
def Tryz.l160_ren : Go.Shelf.Ren := ⟨fun | 160 => 77 | 232 => 94 | 231 => 93 | 227 => 95 | 234 => 97 | 233 => 96 | 236 => 99 | 235 => 98 | 228 => 120 | 271 => 123 | 151 => 122 | 197 => 121 | 120 => 146 | 152 => 145 | 260 => 144 | 137 => 156 | 119 => 157 | 224 => 158 | 225 => 159 | 217 => 162 | 266 => 163 | n => n, fun | 9 => 9 | 4 => 4 | 3 => 3 | 5 => 5 | 117 => 138 | 116 => 137 | 0 => 0 | 124 => 141 | 21 => 21 | 105 => 165 | 46 => 118 | 119 => 196 | 139 => 199 | 138 => 198 | n => n, fun | 3 => 4 | 4 => 5 | n => n⟩
theorem Tryz.l160 : Go.Proofs.Lays.n160 Tryz.prog Tryz.l160_ren := {
  mixed := by kernel_rfl
  f119 := Tryz.func157.trans (congrArg some (by kernel_rfl))
  f120 := Tryz.func146.trans (congrArg some (by kernel_rfl))
  f137 := Tryz.func156.trans (congrArg some (by kernel_rfl))
  f151 := Tryz.func122.trans (congrArg some (by kernel_rfl))
  f152 := Tryz.func145.trans (congrArg some (by kernel_rfl))
  f160 := Tryz.func77.trans (congrArg some (by kernel_rfl))
  f197 := Tryz.func121.trans (congrArg some (by kernel_rfl))
  f217 := Tryz.func162.trans (congrArg some (by kernel_rfl))
  f224 := Tryz.func158.trans (congrArg some (by kernel_rfl))
  f225 := Tryz.func159.trans (congrArg some (by kernel_rfl))
  f227 := Tryz.func95.trans (congrArg some (by kernel_rfl))
  f228 := Tryz.func120.trans (congrArg some (by kernel_rfl))
  f231 := Tryz.func93.trans (congrArg some (by kernel_rfl))
  f232 := Tryz.func94.trans (congrArg some (by kernel_rfl))
  f233 := Tryz.func96.trans (congrArg some (by kernel_rfl))
  f234 := Tryz.func97.trans (congrArg some (by kernel_rfl))
  f235 := Tryz.func98.trans (congrArg some (by kernel_rfl))
  f236 := Tryz.func99.trans (congrArg some (by kernel_rfl))
  f260 := Tryz.func144.trans (congrArg some (by kernel_rfl))
  f266 := Tryz.func163.trans (congrArg some (by kernel_rfl))
  f271 := Tryz.func123.trans (congrArg some (by kernel_rfl))
  t0 := Tryz.underlying0
  a0 := Tryz.isAgg0
  z0 := Tryz.sizeOf0
  v0 := Tryz.zeroValue0
  t3 := Tryz.underlying3
  a3 := Tryz.isAgg3
  z3 := Tryz.sizeOf3
  v3 := Tryz.zeroValue3
  t4 := Tryz.underlying4
  a4 := Tryz.isAgg4
  z4 := Tryz.sizeOf4
  v4 := Tryz.zeroValue4
  t5 := Tryz.underlying5
  a5 := Tryz.isAgg5
  z5 := Tryz.sizeOf5
  v5 := Tryz.zeroValue5
  t9 := Tryz.underlying9
  a9 := Tryz.isAgg9
  z9 := Tryz.sizeOf9
  v9 := Tryz.zeroValue9
  t21 := Tryz.underlying21
  a21 := Tryz.isAgg21
  z21 := Tryz.sizeOf21
  v21 := Tryz.zeroValue21
  t46 := Tryz.underlying118
  a46 := Tryz.isAgg118
  z46 := Tryz.sizeOf118
  v46 := Tryz.zeroValue118
  t105 := Tryz.underlying165
  a105 := Tryz.isAgg165
  z105 := Tryz.sizeOf165
  v105 := Tryz.zeroValue165
  t116 := Tryz.underlying137
  a116 := Tryz.isAgg137
  z116 := Tryz.sizeOf137
  t117 := Tryz.underlying138
  a117 := Tryz.isAgg138
  z117 := Tryz.sizeOf138
  v117 := Tryz.zeroValue138
  t119 := Tryz.underlying196
  a119 := Tryz.isAgg196
  z119 := Tryz.sizeOf196
  t124 := Tryz.underlying141
  a124 := Tryz.isAgg141
  z124 := Tryz.sizeOf141
  v124 := Tryz.zeroValue141
  t138 := Tryz.underlying198
  a138 := Tryz.isAgg198
  z138 := Tryz.sizeOf198
  v138 := Tryz.zeroValue198
  t139 := Tryz.underlying199
  a139 := Tryz.isAgg199
  z139 := Tryz.sizeOf199
  v139 := Tryz.zeroValue199
  g3 := by kernel_rfl
  g4 := by kernel_rfl }
def Tryz.lPu14_ren : Go.Shelf.Ren := ⟨fun | 14 => 64 | 16 => 78 | 17 => 79 | 19 => 100 | 20 => 101 | 21 => 102 | 22 => 103 | 23 => 104 | 24 => 105 | 25 => 124 | 27 => 126 | 26 => 125 | 28 => 147 | 29 => 160 | 30 => 109 | 31 => 110 | 32 => 111 | 33 => 112 | 35 => 128 | 34 => 127 | 36 => 129 | 37 => 130 | 38 => 131 | 39 => 148 | 40 => 149 | n => n, fun | 9 => 9 | 3 => 3 | 22 => 38 | 24 => 104 | 25 => 105 | 4 => 4 | 34 => 142 | 5 => 5 | 36 => 118 | 37 => 24 | 0 => 0 | 39 => 144 | 21 => 21 | 44 => 170 | 47 => 160 | 50 => 190 | 48 => 188 | 2 => 2 | 52 => 151 | 55 => 154 | 59 => 173 | 60 => 93 | 20 => 20 | 61 => 174 | 65 => 204 | 66 => 205 | 67 => 99 | n => n, fun | 0 => 0 | 1 => 1 | 2 => 2 | 3 => 6 | 4 => 7 | n => n⟩
theorem Tryz.lPu14 : Go.Proofs.LaysPu.n14 Tryz.prog Tryz.lPu14_ren := {
  mixed := by kernel_rfl
  f14 := Tryz.func64.trans (congrArg some (by kernel_rfl))
  f16 := Tryz.func78.trans (congrArg some (by kernel_rfl))
  f17 := Tryz.func79.trans (congrArg some (by kernel_rfl))
  f19 := Tryz.func100.trans (congrArg some (by kernel_rfl))
  f20 := Tryz.func101.trans (congrArg some (by kernel_rfl))
  f21 := Tryz.func102.trans (congrArg some (by kernel_rfl))
  f22 := Tryz.func103.trans (congrArg some (by kernel_rfl))
  f23 := Tryz.func104.trans (congrArg some (by kernel_rfl))
  f24 := Tryz.func105.trans (congrArg some (by kernel_rfl))
  f25 := Tryz.func124.trans (congrArg some (by kernel_rfl))
  f26 := Tryz.func125.trans (congrArg some (by kernel_rfl))
  f27 := Tryz.func126.trans (congrArg some (by kernel_rfl))
  f28 := Tryz.func147.trans (congrArg some (by kernel_rfl))
  f29 := Tryz.func160.trans (congrArg some (by kernel_rfl))
  f30 := Tryz.func109.trans (congrArg some (by kernel_rfl))
  f31 := Tryz.func110.trans (congrArg some (by kernel_rfl))
  f32 := Tryz.func111.trans (congrArg some (by kernel_rfl))
  f33 := Tryz.func112.trans (congrArg some (by kernel_rfl))
  f34 := Tryz.func127.trans (congrArg some (by kernel_rfl))
  f35 := Tryz.func128.trans (congrArg some (by kernel_rfl))
  f36 := Tryz.func129.trans (congrArg some (by kernel_rfl))
  f37 := Tryz.func130.trans (congrArg some (by kernel_rfl))
  f38 := Tryz.func131.trans (congrArg some (by kernel_rfl))
  f39 := Tryz.func148.trans (congrArg some (by kernel_rfl))
  f40 := Tryz.func149.trans (congrArg some (by kernel_rfl))
  t0 := Tryz.underlying0
  a0 := Tryz.isAgg0
  z0 := Tryz.sizeOf0
  v0 := Tryz.zeroValue0
  i0 := by kernel_rfl
  t2 := Tryz.underlying2
  a2 := Tryz.isAgg2
  z2 := Tryz.sizeOf2
  v2 := Tryz.zeroValue2
  i2 := by kernel_rfl
  t3 := Tryz.underlying3
  a3 := Tryz.isAgg3
  z3 := Tryz.sizeOf3
  v3 := Tryz.zeroValue3
  i3 := by kernel_rfl
  t4 := Tryz.underlying4
  a4 := Tryz.isAgg4
  z4 := Tryz.sizeOf4
  v4 := Tryz.zeroValue4
  i4 := by kernel_rfl
  t5 := Tryz.underlying5
  a5 := Tryz.isAgg5
  z5 := Tryz.sizeOf5
  v5 := Tryz.zeroValue5
  i5 := by kernel_rfl
  t9 := Tryz.underlying9
  a9 := Tryz.isAgg9
  z9 := Tryz.sizeOf9
  v9 := Tryz.zeroValue9
  i9 := by kernel_rfl
  t20 := Tryz.underlying20
  a20 := Tryz.isAgg20
  z20 := Tryz.sizeOf20
  v20 := Tryz.zeroValue20
  i20 := by kernel_rfl
  t21 := Tryz.underlying21
  a21 := Tryz.isAgg21
  z21 := Tryz.sizeOf21
  v21 := Tryz.zeroValue21
  i21 := by kernel_rfl
  t22 := Tryz.underlying38
  a22 := Tryz.isAgg38
  z22 := Tryz.sizeOf38
  v22 := Tryz.zeroValue38
  i22 := by kernel_rfl
  t24 := Tryz.underlying104
  a24 := Tryz.isAgg104
  z24 := Tryz.sizeOf104
  v24 := Tryz.zeroValue104
  i24 := by kernel_rfl
  t25 := Tryz.underlying105
  a25 := Tryz.isAgg105
  z25 := Tryz.sizeOf105
  v25 := Tryz.zeroValue105
  i25 := by kernel_rfl
  t34 := Tryz.underlying142
  a34 := Tryz.isAgg142
  z34 := Tryz.sizeOf142
  v34 := Tryz.zeroValue142
  i34 := by kernel_rfl
  c34 := by kernel_rfl
  t36 := Tryz.underlying118
  a36 := Tryz.isAgg118
  z36 := Tryz.sizeOf118
  v36 := Tryz.zeroValue118
  i36 := by kernel_rfl
  t37 := Tryz.underlying24
  a37 := Tryz.isAgg24
  z37 := Tryz.sizeOf24
  v37 := Tryz.zeroValue24
  i37 := by kernel_rfl
  t39 := Tryz.underlying144
  a39 := Tryz.isAgg144
  z39 := Tryz.sizeOf144
  v39 := Tryz.zeroValue144
  i39 := by kernel_rfl
  t44 := Tryz.underlying170
  a44 := Tryz.isAgg170
  z44 := Tryz.sizeOf170
  v44 := Tryz.zeroValue170
  i44 := by kernel_rfl
  t47 := Tryz.underlying160
  a47 := Tryz.isAgg160
  z47 := Tryz.sizeOf160
  v47 := Tryz.zeroValue160
  i47 := by kernel_rfl
  t48 := Tryz.underlying188
  a48 := Tryz.isAgg188
  z48 := Tryz.sizeOf188
  v48 := Tryz.zeroValue188
  i48 := by kernel_rfl
  t50 := Tryz.underlying190
  a50 := Tryz.isAgg190
  z50 := Tryz.sizeOf190
  v50 := Tryz.zeroValue190
  i50 := by kernel_rfl
  t52 := Tryz.underlying151
  a52 := Tryz.isAgg151
  z52 := Tryz.sizeOf151
  v52 := Tryz.zeroValue151
  i52 := by kernel_rfl
  t55 := Tryz.underlying154
  a55 := Tryz.isAgg154
  z55 := Tryz.sizeOf154
  v55 := Tryz.zeroValue154
  i55 := by kernel_rfl
  t59 := Tryz.underlying173
  a59 := Tryz.isAgg173
  z59 := Tryz.sizeOf173
  v59 := Tryz.zeroValue173
  i59 := by kernel_rfl
  t60 := Tryz.underlying93
  a60 := Tryz.isAgg93
  z60 := Tryz.sizeOf93
  v60 := Tryz.zeroValue93
  i60 := by kernel_rfl
  t61 := Tryz.underlying174
  a61 := Tryz.isAgg174
  z61 := Tryz.sizeOf174
  t65 := Tryz.underlying204
  a65 := Tryz.isAgg204
  z65 := Tryz.sizeOf204
  v65 := Tryz.zeroValue204
  i65 := by kernel_rfl
  t66 := Tryz.underlying205
  a66 := Tryz.isAgg205
  z66 := Tryz.sizeOf205
  v66 := Tryz.zeroValue205
  i66 := by kernel_rfl
  t67 := Tryz.underlying99
  a67 := Tryz.isAgg99
  z67 := Tryz.sizeOf99
  v67 := Tryz.zeroValue99
  i67 := by kernel_rfl
  g0 := by kernel_rfl
  m0 := by kernel_rfl
  g1 := by kernel_rfl
  m1 := by kernel_rfl
  g2 := by kernel_rfl
  m2 := by kernel_rfl
  g3 := by kernel_rfl
  m3 := by kernel_rfl
  g4 := by kernel_rfl
  m4 := by kernel_rfl }

theorem Tryz.strings_CutPrefix (s p : ByteArray) (w : World) :
    Calls Tryz.prog 62 #[.string s, .string p] w fun e w' => e = .returned (.tuple #[.string ⟨(Lib.trimPrefix s.data.toList p.data.toList).toArray⟩, .bool (Lib.hasPrefix s.data.toList p.data.toList)]) ∧ w' = w := Any.strings_CutPrefix Tryz.l103 s p w
theorem Tryz.strings_Trim (s cutset : ByteArray) (w : World) (hs : s.size ≤ 9223372036854775807) (hcs : cutset.size < 4294967281) (hascii : ∀ (j : Nat) b, cutset.data.toList[j]? = some b → b.toNat < 128) :
    Calls Tryz.prog 77 #[.string s, .string cutset] w fun e w' => e = .returned (.string ⟨(Lib.trimS s.data.toList cutset.data.toList).toArray⟩) ∧ Below w.heap.size w w' := Any.strings_Trim_laid Tryz.l160 (by kernel_rfl) s cutset w hs hcs hascii
theorem Tryz.parseUint (s : ByteArray) (hmax : s.size ≤ 9223372036854775806) (u : Nat) (h : Lib.parseUintB 64 s.data.toList = .ok u) (w : World) :
    Calls Tryz.prog 64 #[.string s, .int .i64 10, .int .i64 64] w fun e w' => e = .returned (.tuple #[.int .u64 u, .nilIface]) ∧ Below w.heap.size w w' := (Any.strconv_ParseUint_10_at64_ok Tryz.lPu14 s hmax u h w).mono fun e w' ⟨h1, h2⟩ => ⟨h1, by
      rcases h2 with rfl | rfl
      · exact Below.refl _ _
      · exact Lib.bytesWorld_below _ _ _⟩

end Go.Proofs.YtcielagfajdbeaaGreatDoor

/- The number in a segment's name: isNumber and ParseUint. -/
namespace Go.Proofs.YtcielagfajdbeaaGreatDoor
open Go.RowKit
set_option linter.unusedVariables false
set_option maxRecDepth 100000

/-- The twenty digits of a segment's name. -/
def dgL (n : Nat) : List UInt8 := (nou (20 - (dg n).size)).data.toList ++ (dg n).data.toList
theorem dgL_len : ∀ n, n < 100 → (dgL n).length = 20 := by decide +kernel
theorem dgL_trim : ∀ n, n < 100 → Lib.trimS (dgL n) [48, 49, 50, 51, 52, 53, 54, 55, 56, 57] = [] := by decide +kernel
theorem dgL_parse : ∀ n, n < 100 → Lib.parseUintB 64 (dgL n) = .ok n := by decide +kernel
theorem fname_cut (nm : ByteArray) (n : Nat) : Lib.hasPrefix (fname nm n).data.toList (nm ++ ⟨#[46]⟩).data.toList = true ∧ Lib.trimPrefix (fname nm n).data.toList (nm ++ ⟨#[46]⟩).data.toList = dgL n := by
  have e : (fname nm n).data.toList = (nm ++ ⟨#[46]⟩).data.toList ++ dgL n := by
    rw [fname_list]
    simp [dgL, ByteArray.data_append]
  have h1 : Lib.hasPrefix (fname nm n).data.toList (nm ++ ⟨#[46]⟩).data.toList = true := by
    unfold Lib.hasPrefix
    rw [e, List.isPrefixOf_iff_prefix]
    exact List.prefix_append _ _
  refine ⟨h1, ?_⟩
  unfold Lib.trimPrefix
  rw [h1, if_pos rfl, e, List.drop_left]
theorem cut_seg (nm : ByteArray) (n : Nat) (w : World) :
    Calls Tryz.prog 62 #[.string ⟨(fname nm n).data.toList.toArray⟩, .string (nm ++ ⟨#[46]⟩)] w fun e w' => e = .returned (.tuple #[.string ⟨(dgL n).toArray⟩, .bool true]) ∧ w' = w := by
  have h := Tryz.strings_CutPrefix ⟨(fname nm n).data.toList.toArray⟩ (nm ++ ⟨#[46]⟩) w
  have e : (⟨(fname nm n).data.toList.toArray⟩ : ByteArray).data.toList = (fname nm n).data.toList := by simp
  rw [e, (fname_cut nm n).1, (fname_cut nm n).2] at h
  exact h
theorem cut_no (nm : ByteArray) (s : List UInt8) (hs : Lib.hasPrefix s (nm ++ ⟨#[46]⟩).data.toList = false) (w : World) :
    Calls Tryz.prog 62 #[.string ⟨s.toArray⟩, .string (nm ++ ⟨#[46]⟩)] w fun e w' => e = .returned (.tuple #[.string ⟨s.toArray⟩, .bool false]) ∧ w' = w := by
  have h := Tryz.strings_CutPrefix ⟨s.toArray⟩ (nm ++ ⟨#[46]⟩) w
  have e : (⟨s.toArray⟩ : ByteArray).data.toList = s := by simp
  rw [e, hs] at h
  have e2 : Lib.trimPrefix s (nm ++ ⟨#[46]⟩).data.toList = s := by unfold Lib.trimPrefix; rw [hs]; rfl
  rw [e2] at h
  exact h
theorem isnum_seg (n : Nat) (hn : n < 100) (w : World) :
    Calls Tryz.prog 63 #[.string ⟨(dgL n).toArray⟩] w fun e w' => e = .returned (.bool true) ∧ Below w.heap.size w w' := by
  have hl : (⟨(dgL n).toArray⟩ : ByteArray).size = 20 := by show (dgL n).toArray.size = 20; rw [List.size_toArray, dgL_len n hn]
  have h := Tryz.strings_Trim ⟨(dgL n).toArray⟩ ⟨#[48, 49, 50, 51, 52, 53, 54, 55, 56, 57]⟩ w (by omega) (by decide) (by
    intro j b hb
    have : ∀ b ∈ ([48, 49, 50, 51, 52, 53, 54, 55, 56, 57] : List UInt8), b.toNat < 128 := by decide
    exact this b (List.mem_of_getElem? hb))
  have e : (⟨(dgL n).toArray⟩ : ByteArray).data.toList = dgL n := by simp
  rw [e, show (⟨#[48, 49, 50, 51, 52, 53, 54, 55, 56, 57]⟩ : ByteArray).data.toList = [48, 49, 50, 51, 52, 53, 54, 55, 56, 57] from rfl, dgL_trim n hn] at h
  have hl2 : ((⟨(dgL n).toArray⟩ : ByteArray).size : Int) = 20 := by omega
  generalize (⟨(dgL n).toArray⟩ : ByteArray) = tx at *
  clear e hl
  go_enter Tryz.func63, Tryz.ntmps63
  go_wp2_with fail
  refine h.mono ?_
  rintro e w1 ⟨rfl, hb1⟩
  go_wp2_with fail
  go_ret
  exact ⟨rfl, hb1⟩
theorem parse_seg (n : Nat) (hn : n < 100) (w : World) :
    Calls Tryz.prog 64 #[.string ⟨(dgL n).toArray⟩, .int .i64 10, .int .i64 64] w fun e w' => e = .returned (.tuple #[.int .u64 n, .nilIface]) ∧ Below w.heap.size w w' := by
  have hl : (⟨(dgL n).toArray⟩ : ByteArray).size = 20 := by show (dgL n).toArray.size = 20; rw [List.size_toArray, dgL_len n hn]
  exact Tryz.parseUint ⟨(dgL n).toArray⟩ (by omega) n (by rw [show (⟨(dgL n).toArray⟩ : ByteArray).data.toList = dgL n by simp]; exact dgL_parse n hn) w
end Go.Proofs.YtcielagfajdbeaaGreatDoor

/- A log over a living disk, both in memory; the log's Sync. -/
namespace Go.Proofs.YtcielagfajdbeaaGreatDoor
open Go.RowKit
set_option linter.unusedVariables false
set_option maxRecDepth 100000

theorem bel_alW (w : World) (o : Obj) : Below w.heap.size w (w.alloc o) := (Below.refl _ _).alloc (Nat.le_refl _) o
/-- A log and the disk that it stands on. -/
structure WI (B l d size : Nat) (nm : ByteArray) (sv : Value) (P : List (Sg × Value)) (U : Nat → List Value) (own : Nat → Option LRole) (n : Nat) (od : Nat → Option Role) (st : Nm → Option (List UInt8 × Nat)) (sz : Nat) (w : World) : Prop where
  lg : LgI B l d size nm false sv P U own w
  dk : Dk B d n od st sz (alive d) 0 w
  ap : ∀ b, own b ≠ none → od b = none
  fl : ∀ (i : Nat) p, P[i]? = some p → ∃ s, st (fname nm p.1.1).data.toList = some (frs p.1.2, s)
  nb : ∀ (i : Nat) p, P[i]? = some p → p.1.1 < 100
  ne : 0 < P.length
  ns : nm.size ≤ 40

theorem Dk.blo {B d n : Nat} {own : Nat → Option Role} {st : Nm → Option (List UInt8 × Nat)} {sz : Nat} {may : Value} {left : Int} {w : World} (h : Dk B d n own st sz may left w) {b : Nat} (hb : own b ≠ none) : B ≤ b ∧ b < w.heap.size := by
  obtain ⟨m, D, fb, fv, h⟩ := h
  exact h.lo b hb
theorem look_d {w : World} (eb : Nat) (ce : w.cell? ⟨eb, 0, none⟩ = some (.int .i64 0)) (v : Value) (u : FrameMode) :
    CallsD Tryz.prog 42 #[v, .pointer (some ⟨eb, 0, none⟩)] u w fun e u' w' => u' = u ∧ (e = .returned (.tuple #[]) ∧ w' = w) := by
  go_enter_d Tryz.func42, Tryz.ntmps42
  go_wp2
  go_end0
  exact ⟨rfl, rfl⟩

section
variable {B l d size : Nat} {nm : ByteArray} {sv : Value} {P : List (Sg × Value)} {U : Nat → List Value} {own : Nat → Option LRole} {n : Nat} {od : Nat → Option Role} {st : Nm → Option (List UInt8 × Nat)} {sz : Nat} {w w' : World}
theorem WI.below (h : WI B l d size nm sv P U own n od st sz w) (hb : Below w.heap.size w w') : WI B l d size nm sv P U own n od st sz w' :=
  ⟨h.lg.below hb, h.dk.next (Chg.of_below hb) (fun b hs q => by have := (h.dk.blo hs).2; omega), h.ap, h.fl, h.nb, h.ne, h.ns⟩

set_option maxHeartbeats 1000000 in
theorem lsync_any (h : WI B l d size nm sv P U own n od st sz w) {k : Nat} (hk : P.length = k + 1) {p : Sg × Value} (e : P[k]? = some p) :
    Calls Tryz.prog 13 #[.pointer (some ⟨l, 0, none⟩)] w fun r w' => r = .returned (.int .i64 0) ∧ (∃ od', WI B l d size nm sv P U own n od' (setF st (fname nm p.1.1).data.toList (some (frs p.1.2, (frs p.1.2).length))) sz w') ∧ Chg (fun b => own b ≠ none ∨ od b ≠ none) w w' := by
  obtain ⟨g, c, ev, h1, h2, s0, _, _⟩ := h.lg.seg k p e
  have hnb := h.nb k p e
  obtain ⟨sy, hst⟩ := h.fl k p e
  have hls := fname_size nm p.1.1 hnb
  have hns := h.ns
  obtain ⟨c0, _, _, c3, c4, _⟩ := h.lg.cells
  have hlo := (h.lg.lo l (by rw [h.lg.ol]; simp)).2
  have hlB := fun W (hW : Below w.heap.size w W) => h.lg.below hW
  have hlast := fun W (hW : Below w.heap.size w W) => last_any (hlB W hW) ev hk ⟨by omega, h2⟩
  have hfile := fun W (hW : Below w.heap.size w W) => file_any (hlB W hW) p.1.1 hnb hns
  have hsync := fun W (hW : Below w.heap.size w W) => sync_alive (h.below hW).dk (fname nm p.1.1) (by unfold maxLen; omega) _ hst
  have hcl : ∀ W, Below w.heap.size w W → W.cell? ⟨l, 0, none⟩ = some (.pointer (some ⟨d, 0, none⟩)) ∧ W.cell? ⟨g, k * 3, none⟩ = some (.int .u64 (p.1.1 : Int)) := fun W hW => ⟨by rw [hW.cell hlo]; exact c0, by rw [hW.cell (World.block_lt_of_cell? _ _ s0)]; exact s0⟩
  have hbA : Below w.heap.size w (w.alloc (.cells #[.int .i64 0] 31)) := bel_alW w _
  have hrc : (w.alloc (.cells #[.int .i64 0] 31)).heap[w.heap.size]? = some (.cells #[.int .i64 0] 31 (0, 0)) := heap_alloc_new w _
  have HI : Hid _ := h
  have hog : own g ≠ none := by rw [h.lg.os g (by rw [ev]; rfl)]; simp
  have hol : own l ≠ none := by rw [h.lg.ol]; simp
  have hmid : ∀ w2 w3, Below (w.alloc (.cells #[.int .i64 0] 31)).heap.size (w.alloc (.cells #[.int .i64 0] 31)) w2 → Chg (fun b => od b ≠ none) w2 w3 → w3.cell? ⟨l, 0, none⟩ = some (.pointer (some ⟨d, 0, none⟩)) ∧ w3.cell? ⟨g, k * 3, none⟩ = some (.int .u64 (p.1.1 : Int)) ∧ w3.cell? ⟨w.heap.size, 0, none⟩ = some (.int .i64 0) ∧ w3.frozen? ⟨w.heap.size, 0, none⟩ = false := fun w2 w3 hb hc => by
    have hb2 : Below w.heap.size w w2 := hbA.trans (hb.mono hbA.size)
    obtain ⟨a0, a1⟩ := hcl w2 hb2
    have hs1 : (w.alloc (.cells #[.int .i64 0] 31)).heap.size = w.heap.size + 1 := by simp
    have e2 : w2.heap[w.heap.size]? = some (.cells #[.int .i64 0] 31 (0, 0)) := by rw [hb.block _ (by omega)]; exact hrc
    have nd : od w.heap.size = none := by
      by_cases q : od w.heap.size = none
      · exact q
      · have := (h.dk.blo q).2; omega
    have hl2 := World.block_lt_of_cell? _ _ a0
    have hg2 := World.block_lt_of_cell? _ _ a1
    have e3 : w3.heap[w.heap.size]? = some (.cells #[.int .i64 0] 31 (0, 0)) := by rw [hc.block _ (Array.getElem?_eq_some_iff.1 e2).1 (by simp [nd])]; exact e2
    refine ⟨?_, ?_, by simp [World.cell?, e3], frozen_of_row _ _ _ _ _ e3⟩
    · rw [World.cell?_of_block (hc.block l hl2 (by simp [h.ap l hol]))]; exact a0
    · rw [World.cell?_of_block (hc.block g hg2 (by simp [h.ap g hog]))]; exact a1
  go_enter_defers Tryz.func13, Tryz.ntmps13
  go_wp2_with fail
  generalize (w.alloc (.cells #[.int .i64 0] 31)) = W0 at *
  have hs0 := hbA.size
  have hlt0 : w.heap.size < W0.heap.size := (Array.getElem?_eq_some_iff.1 hrc).1
  obtain ⟨t0, t1⟩ := hcl W0 hbA
  have hnn : ∀ W, Below W0.heap.size W0 W → Below w.heap.size w W := fun W hW => hbA.trans (hW.mono hs0)
  have nnA := World.new_ne w _ c0
  have nnB := World.new_ne w _ s0
  clear h hlB c0 c3 c4 s0
  go_region_held3 (fun w' => w'.cell? ⟨l, 0, none⟩ = some (.pointer (some ⟨d, 0, none⟩)) ∧ w'.cell? ⟨g, k * 3, none⟩ = some (.int .u64 (p.1.1 : Int))) (go_keep) (first
    | (go_at_call 39; refine (hlast _ (hnn _ (Below.dN W0 1))).mono ?_; rintro e w1 ⟨rfl, q1, rfl⟩; have hb1 : Below W0.heap.size W0 (W0.drewN (1 + q1)) := Below.dN W0 _; obtain ⟨u0, u1⟩ := hcl _ (hnn _ hb1))
    | (go_at_call 44; refine (hfile _ (hnn _ hb1)).mono ?_; rintro e w2 ⟨rfl, hb2⟩; have hb02 : Below W0.heap.size W0 w2 := Below.tr hb1 hb2; obtain ⟨x0, x1⟩ := hcl _ (hnn _ hb02))
    | (go_at_call 43; refine (hsync _ (hnn _ hb02)).mono ?_; rintro e w3 ⟨rfl, ⟨own', hd3, ho3⟩, hc3⟩; obtain ⟨y0, y1, r0, rz⟩ := hmid w2 w3 hb02 hc3)
    | fail)
  go_wp2_with fail
  have z0 := World.cell?_setCell_same w3 ⟨w.heap.size, 0, none⟩ (.int .i64 0) r0
  have hI := HI.out
  have hch3 : Chg (fun b => own b ≠ none ∨ od b ≠ none) w w3 := ((Chg.of_below (hnn _ hb02)).mono (fun b q1 q2 => by omega)).trans (hc3.mono (fun b _ q => .inl (.inr q)))
  have hchs : Chg (fun b => b = w.heap.size) w3 (w3.setCell ⟨w.heap.size, 0, none⟩ (.int .i64 0)) := (Chg.refl (fun b => b = w.heap.size) w3).put w.heap.size 0 _ rfl
  have hlg3 := (hI.lg.below (hnn _ hb02)).next hc3 (fun b hb q => q (hI.ap b hb))
  have hodn : own' w.heap.size = none := by
    by_cases q : own' w.heap.size = none
    · exact q
    · rcases ho3 _ q with r | r
      · have := (hI.dk.blo r).2; omega
      · have := hb02.size; omega
  have hfin : (∃ od', WI B l d size nm sv P U own n od' (setF st (fname nm p.1.1).data.toList (some (frs p.1.2, (frs p.1.2).length))) sz (w3.setCell ⟨w.heap.size, 0, none⟩ (.int .i64 0))) ∧ Chg (fun b => own b ≠ none ∨ od b ≠ none) w (w3.setCell ⟨w.heap.size, 0, none⟩ (.int .i64 0)) := by
    refine ⟨⟨own', hlg3.next hchs (fun b hb q => by have := (hI.lg.lo b hb).2; omega), hd3.next hchs (fun b hb q => hb (by rw [q]; exact hodn)), fun b hb => ?_, fun i q hq => ?_, hI.nb, hI.ne, hI.ns⟩, hch3.trans (hchs.mono (fun b _ q => .inr (by omega)))⟩
    · by_cases q : own' b = none
      · exact q
      · rcases ho3 b q with r | r
        · exact absurd (hI.ap b hb) r
        · have := (hI.lg.lo b hb).2; have := (hnn _ hb02).size; omega
    · obtain ⟨sq, hsq⟩ := hI.fl i q hq
      unfold setF
      split
      · rename_i he
        have hn := fname_inj nm (hI.nb i q hq) (hI.nb k p e) he
        rw [he, hst] at hsq
        simp only [Option.some.injEq, Prod.mk.injEq] at hsq
        exact ⟨_, by rw [hsq.1]⟩
      · exact ⟨sq, hsq⟩
  refine leaves_cons (f := 42) (args := #[.pointer (some ⟨l, 0, none⟩), .pointer (some ⟨w.heap.size, 0, none⟩)]) (by simp) (by simp [go_sem]) ?_
  refine (look_d w.heap.size z0 _ .returning).mono ?_
  rintro e' u' w'' ⟨rfl, rfl, rfl⟩
  exact ⟨.int .i64 0, by simp [results, Tryz.results13, go_sem, z0]; try rfl, rfl, hfin⟩
end
end Go.Proofs.YtcielagfajdbeaaGreatDoor

/- The log's lay: a frame behind the last segment. -/
namespace Go.Proofs.YtcielagfajdbeaaGreatDoor
open Go.RowKit
set_option linter.unusedVariables false
set_option maxRecDepth 100000

/-- A log and its disk, where behind the last segment's frames more bytes stand in its file. -/
structure WX (B l d size : Nat) (nm : ByteArray) (sv : Value) (P : List (Sg × Value)) (U : Nat → List Value) (own : Nat → Option LRole) (n : Nat) (od : Nat → Option Role) (st : Nm → Option (List UInt8 × Nat)) (sz : Nat) (fr : List UInt8) (w : World) : Prop where
  lg : LgI B l d size nm false sv P U own w
  dk : Dk B d n od st sz (alive d) 0 w
  ap : ∀ b, own b ≠ none → od b = none
  fl : ∀ (i : Nat) p, P[i]? = some p → ∃ s, st (fname nm p.1.1).data.toList = some (frs p.1.2 ++ (if i + 1 = P.length then fr else []), s)
  nb : ∀ (i : Nat) p, P[i]? = some p → p.1.1 < 100
  ne : 0 < P.length
  ns : nm.size ≤ 40

section
variable {B l d size : Nat} {nm : ByteArray} {sv : Value} {P : List (Sg × Value)} {U : Nat → List Value} {own : Nat → Option LRole} {n : Nat} {od : Nat → Option Role} {st : Nm → Option (List UInt8 × Nat)} {sz : Nat} {w w' : World}
/-- Segments begin with numbers that are all unlike. -/
def Begins (P : List (Sg × Value)) : Prop := ∀ (i j : Nat) p q, P[i]? = some p → P[j]? = some q → p.1.1 = q.1.1 → i = j

set_option maxHeartbeats 1000000 in
theorem lay_there (h : WI B l d size nm sv P U own n od st sz w) (hB : Begins P) {k : Nat} (hk : P.length = k + 1) {p : Sg × Value} (e : P[k]? = some p) (hby : (frs p.1.2).length < size) (hsi : size ≤ 1099511627776) {fv : Value} {fr : List UInt8} (hr : Rd w fv fr) (hz : sz + fr.length ≤ 16777216) (hlf : (frs p.1.2).length ≤ 16777216) :
    Calls Tryz.prog 38 #[.pointer (some ⟨l, 0, none⟩), fv] w fun r w' => r = .returned (.int .i64 0) ∧ (∃ od' s, WX B l d size nm sv P U own n od' (setF st (fname nm p.1.1).data.toList (some (frs p.1.2 ++ fr, s))) (sz + fr.length) fr w') ∧ Chg (fun b => own b ≠ none ∨ od b ≠ none) w w' := by
  have e0 := e
  obtain ⟨g, c, ev, h1, h2, s0, s1, _⟩ := h.lg.seg k p e
  have hnb := h.nb k p e
  obtain ⟨sy, hst⟩ := h.fl k p e
  have hls := fname_size nm p.1.1 hnb
  have hns := h.ns
  obtain ⟨c0, _, c2, c3, c4, _⟩ := h.lg.cells
  have hlo := (h.lg.lo l (by rw [h.lg.ol]; simp)).2
  have hlB := fun W (hW : Below w.heap.size w W) => h.lg.below hW
  have hlast := fun W (hW : Below w.heap.size w W) => last_any (hlB W hW) ev hk ⟨by omega, h2⟩
  have hfile := fun W (hW : Below w.heap.size w W) => file_any (hlB W hW) p.1.1 hnb hns
  have hwr := fun W (hW : Below w.heap.size w W) => write_there (h.below hW).dk (fname nm p.1.1) (by omega) (by omega) _ hst (hr.below hW (Nat.le_refl _)) hz (by simp only []; omega)
  have hcl : ∀ W, Below w.heap.size w W → W.cell? ⟨l, 0, none⟩ = some (.pointer (some ⟨d, 0, none⟩)) ∧ W.cell? ⟨g, k * 3, none⟩ = some (.int .u64 (p.1.1 : Int)) ∧ W.cell? ⟨g, k * 3 + 1, none⟩ = some (.int .i64 ((frs p.1.2).length : Int)) ∧ W.cell? ⟨l, 2, none⟩ = some (.int .i64 (size : Int)) := fun W hW => ⟨by rw [hW.cell hlo]; exact c0, by rw [hW.cell (World.block_lt_of_cell? _ _ s0)]; exact s0, by rw [hW.cell (World.block_lt_of_cell? _ _ s1)]; exact s1, by rw [hW.cell hlo]; exact c2⟩
  have hbA : Below w.heap.size w (w.alloc (.cells #[.int .i64 0] 31)) := bel_alW w _
  have hrc : (w.alloc (.cells #[.int .i64 0] 31)).heap[w.heap.size]? = some (.cells #[.int .i64 0] 31 (0, 0)) := heap_alloc_new w _
  have HI : Hid _ := h
  have hog : own g ≠ none := by rw [h.lg.os g (by rw [ev]; rfl)]; simp
  have hol : own l ≠ none := by rw [h.lg.ol]; simp
  have hmid : ∀ w2 w3, Below (w.alloc (.cells #[.int .i64 0] 31)).heap.size (w.alloc (.cells #[.int .i64 0] 31)) w2 → Chg (fun b => od b ≠ none) w2 w3 → w3.cell? ⟨l, 0, none⟩ = some (.pointer (some ⟨d, 0, none⟩)) ∧ w3.cell? ⟨g, k * 3, none⟩ = some (.int .u64 (p.1.1 : Int)) ∧ w3.cell? ⟨w.heap.size, 0, none⟩ = some (.int .i64 0) ∧ w3.frozen? ⟨w.heap.size, 0, none⟩ = false := fun w2 w3 hb hc => by
    have hb2 : Below w.heap.size w w2 := hbA.trans (hb.mono hbA.size)
    obtain ⟨a0, a1, _⟩ := hcl w2 hb2
    have hs1 : (w.alloc (.cells #[.int .i64 0] 31)).heap.size = w.heap.size + 1 := by simp
    have e2 : w2.heap[w.heap.size]? = some (.cells #[.int .i64 0] 31 (0, 0)) := by rw [hb.block _ (by omega)]; exact hrc
    have nd : od w.heap.size = none := by
      by_cases q : od w.heap.size = none
      · exact q
      · have := (h.dk.blo q).2; omega
    have hl2 := World.block_lt_of_cell? _ _ a0
    have hg2 := World.block_lt_of_cell? _ _ a1
    have e3 : w3.heap[w.heap.size]? = some (.cells #[.int .i64 0] 31 (0, 0)) := by rw [hc.block _ (Array.getElem?_eq_some_iff.1 e2).1 (by simp [nd])]; exact e2
    refine ⟨?_, ?_, by simp [World.cell?, e3], frozen_of_row _ _ _ _ _ e3⟩
    · rw [World.cell?_of_block (hc.block l hl2 (by simp [h.ap l hol]))]; exact a0
    · rw [World.cell?_of_block (hc.block g hg2 (by simp [h.ap g hog]))]; exact a1
  have hlt : ((frs p.1.2).length : Int) < (size : Int) := by omega
  obtain ⟨fa, fc, rfl, _⟩ := hr
  go_enter_defers Tryz.func38, Tryz.ntmps38
  go_wp2_with fail
  generalize (w.alloc (.cells #[.int .i64 0] 31)) = W0 at *
  have hs0 := hbA.size
  have hlt0 : w.heap.size < W0.heap.size := (Array.getElem?_eq_some_iff.1 hrc).1
  obtain ⟨t0, t1, t2, t3⟩ := hcl W0 hbA
  have hnn : ∀ W, Below W0.heap.size W0 W → Below w.heap.size w W := fun W hW => hbA.trans (hW.mono hs0)
  have nnA := World.new_ne w _ c0
  have nnB := World.new_ne w _ s0
  clear h hlB c0 c2 c3 c4 s0 s1
  refine (hlast _ hbA).mono ?_
  rintro e w1 ⟨rfl, q1, rfl⟩
  go_wp2_with fail
  go_quiet (fail)
  go_wp2_with fail
  go_region_held3 (fun w' => w'.cell? ⟨l, 0, none⟩ = some (.pointer (some ⟨d, 0, none⟩)) ∧ w'.cell? ⟨g, k * 3, none⟩ = some (.int .u64 (p.1.1 : Int))) (go_keep) (first
    | (go_at_call 44; refine (hfile _ (hnn _ (Below.dN W0 _))).mono ?_; rintro e w2 ⟨rfl, hb2⟩; have hb02 : Below W0.heap.size W0 w2 := Below.tr (Below.dN W0 _) hb2; obtain ⟨x0, x1, _⟩ := hcl _ (hnn _ hb02))
    | (go_at_call 21; refine (hwr _ (hnn _ hb02)).mono ?_; rintro e w3 ⟨rfl, ⟨own', hd3, ho3⟩, hc3⟩; obtain ⟨y0, y1, r0, rz⟩ := hmid w2 w3 hb02 hc3)
    | fail)
  go_wp2_with fail
  have z0 := World.cell?_setCell_same w3 ⟨w.heap.size, 0, none⟩ (.int .i64 0) r0
  have hI := HI.out
  have hch3 : Chg (fun b => own b ≠ none ∨ od b ≠ none) w w3 := ((Chg.of_below (hnn _ hb02)).mono (fun b q1 q2 => by omega)).trans (hc3.mono (fun b _ q => .inl (.inr q)))
  have hchs : Chg (fun b => b = w.heap.size) w3 (w3.setCell ⟨w.heap.size, 0, none⟩ (.int .i64 0)) := (Chg.refl (fun b => b = w.heap.size) w3).put w.heap.size 0 _ rfl
  have hlg3 := (hI.lg.below (hnn _ hb02)).next hc3 (fun b hb q => q (hI.ap b hb))
  have hodn : own' w.heap.size = none := by
    by_cases q : own' w.heap.size = none
    · exact q
    · rcases ho3 _ q with r | r
      · have := (hI.dk.blo r).2; omega
      · have := hb02.size; omega
  have hfin : (∃ od' s, WX B l d size nm sv P U own n od' (setF st (fname nm p.1.1).data.toList (some (frs p.1.2 ++ fr, s))) (sz + fr.length) fr (w3.setCell ⟨w.heap.size, 0, none⟩ (.int .i64 0))) ∧ Chg (fun b => own b ≠ none ∨ od b ≠ none) w (w3.setCell ⟨w.heap.size, 0, none⟩ (.int .i64 0)) := by
    refine ⟨⟨own', sy, hlg3.next hchs (fun b hb q => by have := (hI.lg.lo b hb).2; omega), hd3.next hchs (fun b hb q => hb (by rw [q]; exact hodn)), fun b hb => ?_, fun i q hq => ?_, hI.nb, hI.ne, hI.ns⟩, hch3.trans (hchs.mono (fun b _ q => .inr (by omega)))⟩
    · by_cases q : own' b = none
      · exact q
      · rcases ho3 b q with r | r
        · exact absurd (hI.ap b hb) r
        · have := (hI.lg.lo b hb).2; have := (hnn _ hb02).size; omega
    · obtain ⟨sq, hsq⟩ := hI.fl i q hq
      by_cases hik : i = k
      · subst hik
        rw [e0] at hq
        obtain rfl := Option.some.inj hq
        rw [setF_same, if_pos hk.symm]
        exact ⟨sy, rfl⟩
      · rw [setF_other _ _ (fun he => hik (hB i k q p hq e0 (fname_inj nm (hI.nb i q hq) (hI.nb k p e0) he))), if_neg (by omega), List.append_nil]
        exact ⟨sq, hsq⟩
  refine leaves_cons (f := 42) (args := #[.pointer (some ⟨l, 0, none⟩), .pointer (some ⟨w.heap.size, 0, none⟩)]) (by simp) (by simp [go_sem]) ?_
  refine (look_d w.heap.size z0 _ .returning).mono ?_
  rintro e' u' w'' ⟨rfl, rfl, rfl⟩
  exact ⟨.int .i64 0, by simp [results, Tryz.results38, go_sem, z0]; try rfl, rfl, hfin⟩
end
end Go.Proofs.YtcielagfajdbeaaGreatDoor

/- One segment more in a log. -/
namespace Go.Proofs.YtcielagfajdbeaaGreatDoor
open Go.RowKit
set_option linter.unusedVariables false
set_option maxRecDepth 100000

theorem Tryz.infoSg : (Tryz.prog.info? 80).map (fun i => (i.zero, i.size, i.bytes)) = some (some (.agg #[.int .u64 0, .int .i64 0, .slice none 0 0]), 3, 40) := by kernel_rfl
theorem sgCs_app (P Q : List (Sg × Value)) : sgCs (P ++ Q) = sgCs P ++ sgCs Q := by simp [sgCs]
theorem sgCs_len (P : List (Sg × Value)) : (sgCs P).length = P.length * 3 := fm_len sgC_len P
/-- A segment without records. -/
def sg0 (begin : Nat) : Sg × Value := ((begin, []), .slice none 0 0)
theorem wpList_appSg {w : World} {ops : Array Oper} {rest : List Oper} {o : Oper} {a : Act} {Q : Exit → Act → World → Prop} (hgd : o.guard = none) (s x : Operand)
    (ho : o.op = .call { callee := .builtin .append, args := #[s, x], argTypes := #[69, 69] })
    (B : Nat) (v : Value) (P : List (Sg × Value)) (hs : a.eval s = v) (hown : w.ownsRow B 80 3 v P.length (sgCs P)) (ad : Addr) (c begin : Nat) (hx : a.eval x = .slice (some ad) 1 c)
    (h0 : w.cell? (ad.add 0) = some (.int .u64 (begin : Int))) (h1 : w.cell? (ad.add 1) = some (.int .i64 0)) (h2 : w.cell? (ad.add 2) = some (.slice none 0 0)) (hB : B ≤ w.heap.size) (hlen : P.length + 1 ≤ 1099511627776)
    (h : ∀ v' w', w'.ownsRow B 80 3 v' (P.length + 1) (sgCs (P ++ [sg0 begin])) → w.grownBy w' v.ownBlock → (v'.ownBlock = v.ownBlock ∨ v'.ownBlock = some w.heap.size) → wpList Tryz.prog ops Q rest (a.put o.dst v') w') : wpList Tryz.prog ops Q (o :: rest) a w := by
  refine wpList_plain hgd fun K hK => ?_
  obtain ⟨v', w', hr, q2, q3, q4⟩ := run_appW (P := Tryz.prog) w B 69 o.type 80 _ 3 40 Tryz.underlying69 Tryz.infoSg rfl (by decide) v P.length (sgCs P) hown ad 1 c (sgCs [sg0 begin]) (sgCs_len _) (by
    intro j u hu
    match j with
    | 0 => simp [sgCs, sgC, sg0, frs] at hu; subst hu; exact h0
    | 1 => simp [sgCs, sgC, sg0, frs] at hu; subst hu; exact h1
    | 2 => simp [sgCs, sgC, sg0, frs] at hu; subst hu; exact h2
    | j + 3 => simp [sgCs, sgC, sg0, frs] at hu) (by
    intro u hu
    simp [sgCs, sgC, sg0] at hu
    rcases hu with rfl | rfl | rfl <;> rfl) (by unfold maxLen; omega) (by omega) hB
  unfold Oper.wp execOp
  simp only [ho, resolve, invoke, builtin, Sem.run_bind, Sem.run_pure, Result.andThen_ok, List.map_toArray, List.map_cons, List.map_nil, hs, hx, hr]
  exact hK _ _ (h v' w' (by rw [sgCs_app]; exact q2) q3 q4)

/-- The blocks and the records behind that. -/
def ownSeg (own : Nat → Option LRole) (sv : Value) : Nat → Option LRole := fun b => open Classical in if sv.ownBlock = some b then some .segs else own b
def recSeg (U : Nat → List Value) (k : Nat) : Nat → List Value := fun i => if i = k then [] else U i
section
variable {B l d size : Nat} {nm : ByteArray} {over : Bool} {sv : Value} {P : List (Sg × Value)} {U : Nat → List Value} {own : Nat → Option LRole} {w w' : World}
theorem LgI.addSeg (h : LgI B l d size nm over sv P U own w) {begin : Nat} {o : Obj} {w5 : World} {sv' : Value} (hg : (w.alloc o).grownBy w5 sv.ownBlock) (hrow : w5.ownsRow B 80 3 sv' (P.length + 1) (sgCs (P ++ [sg0 begin]))) (hv : sv'.ownBlock = sv.ownBlock ∨ sv'.ownBlock = some (w.alloc o).heap.size) :
    LgI B l d size nm over sv' (P ++ [sg0 begin]) (recSeg U P.length) (ownSeg own sv') (w5.setCell ⟨l, 3, none⟩ sv') ∧ Chg (fun b => own b ≠ none) w (w5.setCell ⟨l, 3, none⟩ sv') := by
  have hll := (h.lo l (by rw [h.ol]; simp)).2
  have hsz : (w.alloc o).heap.size = w.heap.size + 1 := by simp
  have hs5 := hg.size
  -- of the old blocks only the segments' may have turned
  have hc5 : Chg (fun b => sv.ownBlock = some b) w w5 := ((Chg.refl (fun b => sv.ownBlock = some b) w).alloc o).trans (Chg.of_grown hg (fun b e _ => .inl e))
  have nes : ∀ {b r}, own b = some r → r ≠ .segs → sv.ownBlock ≠ some b := fun e q e2 => by rw [h.os _ e2] at e; exact q (Option.some.inj e).symm
  have nes' : ∀ {b r}, own b = some r → r ≠ .segs → sv'.ownBlock ≠ some b := fun {b r} e q e2 => by
    rcases hv with r1 | r1
    · rw [r1] at e2; exact nes e q e2
    · rw [r1] at e2; have := Option.some.inj e2; have := (h.lo b (by rw [e]; simp)).2; omega
  have hcl : Chg (fun b => b = l) w5 (w5.setCell ⟨l, 3, none⟩ sv') := (Chg.refl (fun b => b = l) w5).put l 3 _ rfl
  have nel : ∀ {b r}, own b = some r → r ≠ .log → ¬ b = l := fun e q e2 => by rw [e2, h.ol] at e; exact q (Option.some.inj e).symm
  have hl5 : w5.heap[l]? = some (.cells #[.pointer (some ⟨d, 0, none⟩), .string nm, .int .i64 (size : Int), sv, .bool over] 71 (0, 0)) := by rw [hc5.block l hll (nes h.ol (by simp))]; exact h.cell
  have old : ∀ (i : Nat) p, (P ++ [sg0 begin])[i]? = some p → (i < P.length ∧ P[i]? = some p) ∨ (i = P.length ∧ p = sg0 begin) := fun i p e => by
    by_cases hi : i < P.length
    · rw [List.getElem?_append_left hi] at e; exact .inl ⟨hi, e⟩
    · rw [List.getElem?_append_right (by omega)] at e
      cases hd : i - P.length with
      | zero => rw [hd] at e; simp at e; exact .inr ⟨by omega, e.symm⟩
      | succ j => rw [hd] at e; simp at e
  have hU : ∀ i, i < P.length → recSeg U P.length i = U i := fun i hi => by unfold recSeg; rw [if_neg (by omega)]
  refine ⟨⟨?_, ?_, fun i p e => ?_, fun i p j u r e1 e2 e3 => ?_, ?_, fun b e => ?_, fun i p b e q => ?_, fun i p u b e hu q => ?_, fun b hb => ?_⟩, ?_⟩
  · rw [heap_setCell_same _ _ 3 _ _ _ hl5]; rfl
  · rw [List.length_append]
    exact ownsRow_keptC hrow hcl (fun b e q => nes' h.ol (by simp) (by rw [← q]; exact e))
  · rcases old i p e with ⟨hi, e⟩ | ⟨hi, rfl⟩
    · rw [hU i hi]
      exact ⟨ownsRow_keptC (ownsRow_keptC (h.recs i p e).1 hc5 (fun b q => nes (h.orr i p b e q) (by simp))) hcl (fun b q => nel (h.orr i p b e q) (by simp)), (h.recs i p e).2⟩
    · have : recSeg U P.length i = [] := by unfold recSeg; rw [if_pos hi]
      rw [this]
      exact ⟨World.ownsRow_nil _ _ _ _, rfl⟩
  · rcases old i p e1 with ⟨hi, e1⟩ | ⟨hi, rfl⟩
    · rw [hU i hi] at e2
      exact ((h.data i p j u r e1 e2 e3).keptC hc5 (fun b q => nes (h.od i p u b e1 (List.mem_of_getElem? e2) q) (by simp))).keptC hcl (fun b q => nel (h.od i p u b e1 (List.mem_of_getElem? e2) q) (by simp))
    · simp [sg0] at e3
  · unfold ownSeg
    rw [if_neg (nes' h.ol (by simp))]
    exact h.ol
  · unfold ownSeg; rw [if_pos e]
  · rcases old i p e with ⟨hi, e⟩ | ⟨hi, rfl⟩
    · have := h.orr i p b e q
      unfold ownSeg
      rw [if_neg (nes' this (by simp))]; exact this
    · cases q
  · rcases old i p e with ⟨hi, e⟩ | ⟨hi, rfl⟩
    · rw [hU i hi] at hu
      have := h.od i p u b e hu q
      unfold ownSeg
      rw [if_neg (nes' this (by simp))]; exact this
    · have : recSeg U P.length i = [] := by unfold recSeg; rw [if_pos hi]
      rw [this] at hu; cases hu
  · unfold ownSeg at hb
    split at hb
    · rename_i e
      have := World.ownsRow.lt hrow b e
      exact ⟨this.1, by simpa using this.2⟩
    · have := h.lo b hb
      exact ⟨this.1, by simp; omega⟩
  · exact (hc5.mono (fun b _ q => by rw [h.os b q]; simp)).trans (hcl.mono (fun b _ q => .inl (by rw [q, h.ol]; simp)))
end
end Go.Proofs.YtcielagfajdbeaaGreatDoor

/- The first segments taken out of a log's list: slices.Delete. -/
namespace Go.Proofs.YtcielagfajdbeaaGreatDoor
open Go.RowKit
set_option linter.unusedVariables false
set_option maxRecDepth 100000

theorem sgCs_one {P : List (Sg × Value)} (h : ∀ x ∈ P, ∃ b m k, x.2 = .slice b m k) : ∀ u ∈ sgCs P, u.oneCell' = true := by
  intro u hu
  obtain ⟨x, hx, hu⟩ := List.mem_flatMap.1 hu
  obtain ⟨b, m, k, e⟩ := h x hx
  simp only [sgC, List.mem_cons, List.not_mem_nil, or_false] at hu
  rcases hu with rfl | rfl | rfl
  · rfl
  · rfl
  · rw [e]; rfl
theorem sgCs_drop (P : List (Sg × Value)) (k : Nat) : (sgCs P).drop (k * 3) = sgCs (P.drop k) := fm_drop sgC_len P k
/-- What clear writes. -/
def zSg (m : Nat) : List Value := (Builtin.zeroCells #[.int .u64 0, .int .i64 0, .slice none 0 0] m).toList
theorem zSg_len (m : Nat) : (zSg m).length = m * 3 := by
  unfold zSg
  rw [Array.length_toList, size_zeroCells]
  rfl
theorem zSg_one (m : Nat) : ∀ u ∈ zSg m, u.oneCell' = true := by
  intro u hu
  unfold zSg Builtin.zeroCells at hu
  rw [Array.toList_map, List.mem_map] at hu
  obtain ⟨i, _, rfl⟩ := hu
  show (#[Value.int .u64 0, .int .i64 0, .slice none 0 0][i % 3]!).oneCell' = true
  have h3 : i % 3 = 0 ∨ i % 3 = 1 ∨ i % 3 = 2 := by omega
  rcases h3 with h | h | h <;> rw [h] <;> rfl
theorem Tryz.zeroSg (w : World) : (zeroValue 80).run Tryz.prog w = .ok (.agg #[.int .u64 0, .int .i64 0, .slice none 0 0]) w := by kernel_rfl
theorem run_clearSg (w : World) (ty : TypeId) (g o m c : Nat) (h0 : 0 < m) (hc : ∀ j, j < m * 3 → (w.cell? ⟨g, o + j, none⟩).isSome = true) (hf : ∀ j, j < m * 3 → w.frozen? ⟨g, o + j, none⟩ = false) :
    (Builtin.clear_ #[69] ty #[.slice (some ⟨g, o, none⟩) m c]).run Tryz.prog w = .ok (.tuple #[]) (w.setCells g o (zSg m)) := by
  have hst := run_storeCells_cells (P := Tryz.prog) g o (zSg m) 0 w (by rw [zSg_len]; simpa using hc) (by rw [zSg_len]; simpa using hf) (zSg_one m)
  simp only [Nat.add_zero] at hst
  unfold zSg at hst ⊢
  obtain ⟨k, rfl⟩ : ∃ k, m = k + 1 := ⟨m - 1, by omega⟩
  simp [Builtin.clear_, run_underlying Tryz.underlying69, Value.cells, hst, Result.andThen]
theorem rowS_behind {w : World} {B g n c : Nat} {P : List (Sg × Value)} (h : w.ownsRow B 80 3 (.slice (some ⟨g, 0, none⟩) n c) P.length (sgCs P)) (o : Nat) (ho : P.length * 3 ≤ o) (vs : List Value) : (w.setCells g o vs).ownsRow B 80 3 (.slice (some ⟨g, 0, none⟩) n c) P.length (sgCs P) := by
  induction vs generalizing w o with
  | nil => exact h
  | cons v r ih =>
    refine ih (w := w.setCell ⟨g, o, none⟩ v) ?_ (o + 1) (by omega)
    have := row_set1 h (g := g) rfl o v
    rwa [List.set_eq_of_length_le (by rw [sgCs_len]; exact ho)] at this
theorem chg_setCellsW (g : Nat) (vs : List Value) : ∀ (o : Nat) (w : World), Chg (fun b => b = g) w (w.setCells g o vs) := by
  induction vs with
  | nil => exact fun o w => Chg.refl _ _
  | cons v r ih => exact fun o w => ((Chg.refl (fun b => b = g) w).put g o v rfl).trans ((ih (o + 1) _).mono (fun b _ q => .inl q))
theorem rowS_nil {w : World} {B g n c : Nat} {P : List (Sg × Value)} (h : w.ownsRow B 80 3 (.slice (some ⟨g, 0, none⟩) n c) P.length (sgCs P)) : w.ownsRow B 80 3 (.slice (some ⟨g, 0, none⟩) 0 c) 0 [] := by
  refine ⟨rfl, ?_⟩
  rcases h.2 with ⟨q, q0⟩ | ⟨g', cap, cur, q, hB, hg, q1, q2, q3, q4⟩
  · cases q
  · simp only [Value.slice.injEq, Option.some.injEq, Addr.mk.injEq, and_true] at q
    obtain ⟨rfl, rfl, rfl⟩ := q
    exact .inr ⟨g, c, cur, rfl, hB, hg, by omega, q2, q3, by simp⟩
theorem rowS_cells {w : World} {B g n c m : Nat} {xs : List Value} (h : w.ownsRow B 80 3 (.slice (some ⟨g, 0, none⟩) n c) m xs) : ∀ j, j < c * 3 → (w.cell? ⟨g, j, none⟩).isSome = true ∧ w.frozen? ⟨g, j, none⟩ = false := fun j hj => by
  rcases h.2 with ⟨q, q0⟩ | ⟨g', cap, cur, q, hB', hg, q1, q2', q3', q4'⟩
  · cases q
  · simp only [Value.slice.injEq, Option.some.injEq, Addr.mk.injEq, and_true] at q
    obtain ⟨rfl, _, rfl⟩ := q
    refine ⟨?_, frozen_of_row _ _ _ _ _ hg⟩
    rw [cell_of_row _ _ _ _ _ _ hg, Array.getElem?_eq_getElem (by omega)]
    rfl
theorem run_appSg (w : World) (ty : TypeId) {B g c n k : Nat} {P : List (Sg × Value)} (h : w.ownsRow B 80 3 (.slice (some ⟨g, 0, none⟩) n c) P.length (sgCs P)) (hs : ∀ x ∈ P, ∃ b m k, x.2 = .slice b m k) (hk : k ≤ P.length) (hc : P.length ≤ c) (hl : P.length ≤ 1048576) (hB : B ≤ w.heap.size) {m cx : Nat} (hm : m = P.length - k) :
    ∃ w', (Builtin.append_ #[69, 69] ty #[.slice (some ⟨g, 0, none⟩) 0 c, .slice (some ⟨g, k * 3, none⟩) m cx]).run Tryz.prog w = .ok (.slice (some ⟨g, 0, none⟩) m c) w' ∧ w'.ownsRow B 80 3 (.slice (some ⟨g, 0, none⟩) m c) (P.drop k).length (sgCs (P.drop k)) ∧ w.grownBy w' (some g) := by
  have hml : m = (P.drop k).length := by rw [List.length_drop]; exact hm
  obtain ⟨i, hi, hz0, hz1, hz2⟩ := info_parts Tryz.infoSg
  have hnews : ∀ j u, (sgCs (P.drop k))[j]? = some u → w.cell? ((⟨g, k * 3, none⟩ : Addr).add j) = some u := fun j u hu => by
    rw [← sgCs_drop, List.getElem?_drop] at hu
    have := h.cells (g := g) rfl _ u hu
    rw [Addr.add_lit] at this ⊢
    simpa using this
  have hone := sgCs_one (P := P.drop k) (fun x hx => hs x (List.mem_of_mem_drop hx))
  obtain ⟨v', w', hr, q2, q3, q4⟩ := run_appW (P := Tryz.prog) w B 69 ty 80 _ 3 40 Tryz.underlying69 Tryz.infoSg rfl (by decide) _ 0 [] (rowS_nil h) ⟨g, k * 3, none⟩ m cx (sgCs (P.drop k)) (by rw [sgCs_len, hml]) hnews hone (by unfold maxLen; omega) (by omega) hB
  have hr2 := run_append_room_cells (P := Tryz.prog) (w := w) 69 ty 80 i Tryz.underlying69 hi g 0 0 c ⟨g, k * 3, none⟩ m cx (sgCs (P.drop k)) (by rw [hz1, sgCs_len, hml]) hnews hone (by omega) (fun j hj => by rw [sgCs_len] at hj; rw [hz1]; exact (rowS_cells h _ (by omega)).1) (fun j hj => by rw [sgCs_len] at hj; rw [hz1]; exact (rowS_cells h _ (by omega)).2)
  rw [hr] at hr2
  simp only [Result.ok.injEq] at hr2
  obtain ⟨rfl, _⟩ := hr2
  rw [Nat.zero_add] at hr q2
  exact ⟨w', hr, by rw [← hml]; simpa using q2, q3⟩
theorem step_appSgR {ops : Array Oper} {o : Oper} {a : Act} {w : World} {K : Act → World → Prop} {Q : Exit → Act → World → Prop} {E : Prop} (hgd : o.guard = none) (s x : Operand)
    (ho : o.op = .call { callee := .builtin .append, args := #[s, x], argTypes := #[69, 69] })
    {B g c n k : Nat} {P : List (Sg × Value)} (hs : a.eval s = .slice (some ⟨g, 0, none⟩) 0 c) (h : w.ownsRow B 80 3 (.slice (some ⟨g, 0, none⟩) n c) P.length (sgCs P)) (hsl : ∀ x ∈ P, ∃ b m k, x.2 = .slice b m k) (hk : k ≤ P.length) (hc : P.length ≤ c) (hl : P.length ≤ 1048576) (hB : B ≤ w.heap.size) {m cx : Nat} (hm : m = P.length - k) (hx : a.eval x = .slice (some ⟨g, k * 3, none⟩) m cx)
    (hK : ∀ w', w'.ownsRow B 80 3 (.slice (some ⟨g, 0, none⟩) m c) (P.drop k).length (sgCs (P.drop k)) → w.grownBy w' (some g) → K (a.put o.dst (.slice (some ⟨g, 0, none⟩) m c)) w') : if Region.wanted o (yielded ops a.tmps) = true then Oper.wp Tryz.prog o a w K Q else E := by
  have hw : Region.wanted o (yielded ops a.tmps) = true := by simp [Region.wanted, hgd]
  rw [if_pos hw]
  obtain ⟨w', hr, q2, q3⟩ := run_appSg w o.type h hsl hk hc hl hB (cx := cx) hm
  unfold Oper.wp execOp
  simp only [ho, resolve, invoke, builtin, Sem.run_bind, Sem.run_pure, Result.andThen_ok, List.map_toArray, List.map_cons, List.map_nil, hs, hx, hr]
  exact hK w' q2 q3

set_option maxHeartbeats 2000000 in
theorem delete_first {w : World} {B g c n n1 k : Nat} {P : List (Sg × Value)} (h : w.ownsRow B 80 3 (.slice (some ⟨g, 0, none⟩) n c) P.length (sgCs P)) (hn : P.length = n) (hl : n ≤ 1048576) (hs : ∀ x ∈ P, ∃ b m k, x.2 = .slice b m k) (hk0 : 0 < k) (hk : k < n) (hn1 : n = n1 + k) :
    Calls Tryz.prog 59 #[.slice (some ⟨g, 0, none⟩) n c, .int .i64 0, .int .i64 (k : Int)] w fun e w' => e = .returned (.slice (some ⟨g, 0, none⟩) n1 c) ∧ w'.ownsRow B 80 3 (.slice (some ⟨g, 0, none⟩) n1 c) (P.drop k).length (sgCs (P.drop k)) ∧ Chg (fun b => b = g) w w' := by
  have hc : n ≤ c ∧ c ≤ 9223372036854775807 := by
    rcases h.2 with ⟨q, q0⟩ | ⟨g', cap, cur, q, hB', hg, q1, q2', q3', q4'⟩
    · cases q
    · simp only [Value.slice.injEq, Option.some.injEq, Addr.mk.injEq, and_true] at q
      obtain ⟨rfl, _, rfl⟩ := q
      unfold maxLen at q2'
      omega
  have hBw := World.ownsRow.lt h g rfl
  have hBl : B ≤ w.heap.size := by omega
  have hne : ((0 : Int) == (k : Int)) = false := by rw [beq_eq_false_iff_ne]; omega
  have hm : n - k = n1 := by omega
  have hone : n - n1 = k := by omega
  have hi2 : k ≤ n := by omega
  have hi3 : n1 ≤ n := by omega
  have hi4 : n1 < c := by omega
  have hi6 : k ≤ c := by omega
  have hi7 : n ≤ c := hc.1
  have hi8 : c ≤ 9223372036854775807 := hc.2
  have hi9 : ¬ c = n1 := by omega
  have hck : ¬ c = k := by omega
  have hdl : (P.drop k).length = n1 := by rw [List.length_drop]; omega
  have hcell : ∀ W : World, W.ownsRow B 80 3 (.slice (some ⟨g, 0, none⟩) n1 c) (P.drop k).length (sgCs (P.drop k)) → ∀ j, j < k * 3 → (W.cell? ⟨g, n1 * 3 + j, none⟩).isSome = true ∧ W.frozen? ⟨g, n1 * 3 + j, none⟩ = false := fun W hW j hj => rowS_cells hW _ (by omega)
  have hd0 : Chg (fun b => b = g) w w.drew := ⟨rfl, rfl, rfl, Nat.le_refl _, fun _ _ _ => rfl⟩
  have hend : ∀ W : World, w.drew.grownBy W (some g) → W.ownsRow B 80 3 (.slice (some ⟨g, 0, none⟩) n1 c) (P.drop k).length (sgCs (P.drop k)) → (W.setCells g (n1 * 3) (zSg k)).ownsRow B 80 3 (.slice (some ⟨g, 0, none⟩) n1 c) (P.drop k).length (sgCs (P.drop k)) ∧ Chg (fun b => b = g) w (W.setCells g (n1 * 3) (zSg k)) := fun W hg hW =>
    ⟨rowS_behind hW _ (by omega) _, (hd0.trans ((Chg.of_grown (S := fun b => b = g) hg (fun b e _ => (Option.some.inj e).symm)).mono (fun b _ q => .inl q))).trans ((chg_setCellsW g _ _ W).mono (fun b _ q => .inl q))⟩
  have H : Hid _ := And.intro hcell hend
  have HP : Hid (k ≤ P.length ∧ P.length ≤ c ∧ P.length ≤ 1048576 ∧ n1 = P.length - k) := ⟨by omega, by omega, by omega, by omega⟩
  clear hcell hend hdl hc hd0 hn1
  subst hn
  go_enter Tryz.func59, Tryz.ntmps59
  go_wp2_with fail
  go_region_law
    ((first
    | (refine step_appSgR rfl _ _ rfl rfl h hs HP.out.1 HP.out.2.1 HP.out.2.2.1 hBl HP.out.2.2.2 rfl ?_; intro w5 ho5 hg5)
    | fail))
  have hq := H.out.1 w5 ho5
  have hclr := fun ty => run_clearSg w5 ty g (n1 * 3) k (c - n1) hk0 (fun j hj => (hq j hj).1) (fun j hj => (hq j hj).2)
  have hE := H.out.2 w5 hg5 ho5
  have HE : Hid _ := hE
  clear hq hE
  go_wp2_with fail
  go_ret
  exact ⟨rfl, HE.out⟩
end Go.Proofs.YtcielagfajdbeaaGreatDoor
