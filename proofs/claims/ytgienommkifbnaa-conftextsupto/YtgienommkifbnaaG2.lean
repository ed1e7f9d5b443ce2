/- What the document's own Varint makes. -/
import Derived.Test.YtgienommkifbnaaG1
import Derived.Lib.SliceRun
import Derived.Shelf.Small.Bits
import Derived.WalkKit
import Derived.Test.YtgienommkifbnaaProg
import Derived.JoinedCond
namespace Go.Proofs.Ytgienommkifbnaa
open Go.RowKit
set_option linter.unusedVariables false

set_option maxRecDepth 100000 in
theorem rvarint_any (n : Nat) (w : World) (hn : n < 18446744073709551616) :
    Calls Try.prog 84 #[.int .u64 n] w fun e w' => ∃ v, e = .returned v ∧ Ow w.heap.size w' v (M.vi n) ∧ Below w.heap.size w w' := by
  go_enter Try.func84, Try.ntmps84
  go_wp2
  go_loopw [0, 3] (fun m out wr => ∃ (k q : Nat), k ≤ 9 ∧ m = .int .u64 q ∧ q < M.qb k ∧ Below w.heap.size w wr ∧ ∃ done, done.length + k = 9 ∧ Ow w.heap.size wr out done ∧ done ++ M.viF k q = M.vi n) (fun m _ _ => (intOf m).toNat)
  case atStart => exact ⟨9, n, Nat.le_refl _, rfl, by simpa [M.qb] using hn, Below.refl _ _, [], rfl, Ow.nil _ _, rfl⟩
  case round =>
    obtain ⟨k, q, hk, rfl, hq, hb, done, hdl, ho, hd⟩ := hrel
    have HD : Hid _ := hd
    have HQ : Hid _ := hq
    have HL : Hid _ := hdl
    clear hd hq hdl
    have hq : q < 18446744073709551616 := by
      exact Nat.lt_of_lt_of_le HQ.out (M.qb_le k)
    by_cases hlt : q < 128
    · go_wp2_with (first | (at_builtin; refine wpList_app rfl _ _ rfl w.heap.size _ done rfl (ho.alloc _) _ [UInt8.ofNat q] rfl (rd_one _ _ _ ?hz _) ?hB ?hlen ?_; rotate_right; intro v' w' ho' hb' hg') | fail)
      case hz => rw [M.u8_ofNat]; omega
      case hB => have := hb.size; simp; omega
      case hlen => have := HL.out; simp; omega
      go_ret
      refine ⟨_, rfl, ?_, hb.trans (((Below.refl _ _).alloc hb.size _).trans hb')⟩
      have e : M.viF k q = [UInt8.ofNat q] := by
        cases k with
        | zero => rfl
        | succ k => simp only [M.viF]; rw [if_pos hlt]
      rw [← HD.out, e]; exact ho'
    · have hlt' : 128 ≤ q := by omega
      have HV : Hid (1 ≤ k ∧ q / 128 < M.qb (k - 1) ∧ M.viF k q = UInt8.ofNat (q % 128 + 128) :: M.viF (k - 1) (q / 128)) := by
        cases k with
        | zero => have := HQ.out; rw [M.qb_zero] at this; omega
        | succ k =>
          refine ⟨by omega, ?_, ?_⟩
          · have := HQ.out; rw [M.qb_succ k hk] at this; simp only [Nat.add_sub_cancel]; omega
          · rw [M.viF, if_neg hlt]; rfl
      go_wp2_with (first | (at_builtin; refine wpList_app rfl _ _ rfl w.heap.size _ done rfl (ho.alloc _) _ [UInt8.ofNat (q % 128 + 128)] rfl (rd_one _ _ _ ?hz _) ?hB ?hlen ?_; rotate_right; intro v' w' ho' hb' hg') | fail)
      case hz => rw [M.u8_ofNat]; omega
      case hB => have := hb.size; simp; omega
      case hlen => have := HL.out; simp; omega
      refine ⟨⟨k - 1, q / 128, by omega, by go_num, ?_, hb.trans (((Below.refl _ _).alloc hb.size _).trans hb'), done ++ [UInt8.ofNat (q % 128 + 128)], ?_, ho', ?_⟩, by simp [intOf]; omega⟩
      · exact (HV.out).2.1
      · have := HL.out; have := (HV.out).1; simp; omega
      · rw [← HD.out, (HV.out).2.2]; simp

end Go.Proofs.Ytgienommkifbnaa

/- What bytes.Clone answers of any bytes. -/
namespace Go.Proofs.Ytgienommkifbnaa
open Go.RowKit
set_option linter.unusedVariables false
set_option maxRecDepth 100000

theorem take_snoc (l : List UInt8) (k : Nat) (h : k < l.length) : l.take (k + 1) = l.take k ++ [l[k]] := by
  rw [List.take_succ_eq_append_getElem h]
theorem clone_any {v : Value} {l : List UInt8} {w : World} (hr : Rd w v l) (hl : l.length ≤ 140737488355328) :
    Calls Try.prog 74 #[v] w fun e w' => ∃ v', e = .returned v' ∧ Ow w.heap.size w' v' l ∧ Below w.heap.size w w' := by
  have q : ∀ (w : World) (a : Option Addr) (n c n' c' : Nat), (binOp .eql 26 (.slice a n c) (.slice none n' c')).run Try.prog w = .ok (.bool a.isNone) w := fun w a n c n' c' => Lib.run_eql_slice_nil w _ _ a n c n' c' Try.underlying26
  rcases hr.two with ⟨rfl, rfl⟩ | ⟨a, c, hv, h1, h2, h3⟩
  · go_enter Try.func74, Try.ntmps74
    go_wp2
    go_ret
    exact ⟨_, rfl, Ow.nil _ _, Below.refl _ _⟩
  · subst hv
    go_enter Try.func74, Try.ntmps74
    go_wp2_with (first | (at_builtin; refine wpList_app rfl _ _ rfl w.heap.size _ [] rfl (Ow.lit0 _ _ (Nat.le_refl _)) _ l rfl (hr.alloc _) (by simp) (by simpa using hl) ?_; intro v' w' ho' hb' hg') | fail)
    go_ret
    exact ⟨_, rfl, ho', ((Below.refl _ _).alloc (Nat.le_refl _) _).trans hb'⟩
end Go.Proofs.Ytgienommkifbnaa

/- What the law's own Copy answers. -/
namespace Go.Proofs.Ytgienommkifbnaa
open Go.RowKit
set_option linter.unusedVariables false
set_option maxRecDepth 100000

theorem lcopy_any {v : Value} {l : List UInt8} {w : World} (hr : Rd w v l) (hl : l.length ≤ 140737488355328) :
    Calls Try.prog 14 #[v] w fun e w' => ∃ v', e = .returned v' ∧ Ow w.heap.size w' v' l ∧ Below w.heap.size w w' := by
  go_enter Try.func14, Try.ntmps14
  go_wp2_with (first | (at_builtin; refine wpList_app rfl _ _ rfl w.heap.size _ [] rfl (Ow.nil _ _) _ l rfl hr (Nat.le_refl _) (by simpa using hl) ?_; intro v' w' ho' hb' hg') | fail)
  go_ret
  exact ⟨_, rfl, ho', hb'⟩
end Go.Proofs.Ytgienommkifbnaa

/- What the document's own Copy answers. -/
namespace Go.Proofs.Ytgienommkifbnaa
open Go.RowKit
set_option linter.unusedVariables false
set_option maxRecDepth 100000

theorem copy_any {v : Value} {l : List UInt8} {w : World} (hr : Rd w v l) (hl : l.length ≤ 140737488355328) :
    Calls Try.prog 83 #[v] w fun e w' => ∃ v', e = .returned v' ∧ Ow w.heap.size w' v' l ∧ Below w.heap.size w w' := by
  go_enter Try.func83, Try.ntmps83
  go_wp2_with (first | (at_builtin; refine wpList_app rfl _ _ rfl w.heap.size _ [] rfl (Ow.nil _ _) _ l rfl hr (Nat.le_refl _) (by simpa using hl) ?_; intro v' w' ho' hb' hg') | fail)
  go_ret
  exact ⟨_, rfl, ho', hb'⟩

end Go.Proofs.Ytgienommkifbnaa

/- Plain mathematics of what is read back: numbers, ordered texts, frames and rows, both ways. No program is named here. -/
namespace Go.Proofs.Ytgienommkifbnaa.M
set_option maxRecDepth 100000

/-- The fields of a row, one behind the other. -/
def rowB : List (List UInt8) → List UInt8
  | [] => []
  | f :: r => vi f.length ++ f ++ rowB r
def row (ls : List (List UInt8)) : List UInt8 := vi ls.length ++ rowB ls

theorem rowB_app (a b : List (List UInt8)) : rowB (a ++ b) = rowB a ++ rowB b := by
  induction a with
  | nil => rfl
  | cons f r ih => simp [rowB, ih]
theorem rowB_snoc (ls : List (List UInt8)) (k : Nat) (h : k < ls.length) : rowB (ls.take (k + 1)) = rowB (ls.take k) ++ vi ls[k].length ++ ls[k] := by
  rw [List.take_succ_eq_append_getElem h, rowB_app]
  simp [rowB]
theorem rowB_le (ls : List (List UInt8)) (k : Nat) : (rowB (ls.take k)).length ≤ (rowB ls).length := by
  have : rowB ls = rowB (ls.take k) ++ rowB (ls.drop k) := by rw [← rowB_app, List.take_append_drop]
  rw [this]; simp
theorem rowB_field (ls : List (List UInt8)) (k : Nat) (h : k < ls.length) : (rowB (ls.take k)).length + (vi ls[k].length).length + ls[k].length ≤ (rowB ls).length := by
  have h1 := rowB_le ls (k + 1)
  rw [rowB_snoc ls k h] at h1
  simp only [List.length_append] at h1
  omega

/-- k fields read: the fields, what stands behind, the error. -/
def rf : Nat → List UInt8 → List (List UInt8) × List UInt8 × Nat
  | 0, l => ([], l, 0)
  | k + 1, l =>
    if (tv l).2.2 ≠ 0 then ([], [], (tv l).2.2)
    else if (tv l).2.1.length < (tv l).1 then ([], [], 10)
    else if (rf k ((tv l).2.1.drop (tv l).1)).2.2 ≠ 0 then ([], [], (rf k ((tv l).2.1.drop (tv l).1)).2.2)
    else ((tv l).2.1.take (tv l).1 :: (rf k ((tv l).2.1.drop (tv l).1)).1, (rf k ((tv l).2.1.drop (tv l).1)).2.1, 0)
/-- What a row is read as: its fields, the error. -/
def tr (l : List UInt8) : List (List UInt8) × Nat :=
  if (tv l).2.2 ≠ 0 then ([], (tv l).2.2)
  else if (tv l).2.1.length < (tv l).1 then ([], 12)
  else if (rf (tv l).1 (tv l).2.1).2.2 ≠ 0 then ([], (rf (tv l).1 (tv l).2.1).2.2)
  else if (rf (tv l).1 (tv l).2.1).2.1.length ≠ 0 then ([], 12)
  else ((rf (tv l).1 (tv l).2.1).1, 0)

/-- One field read. -/
def fd (l : List UInt8) : List UInt8 × List UInt8 × Nat := if (tv l).2.2 ≠ 0 then ([], [], (tv l).2.2) else part (tv l).2.1 (tv l).1
/-- k fields read, behind those that were read so far. -/
def rfA : Nat → List (List UInt8) → List UInt8 → List (List UInt8) × List UInt8 × Nat
  | 0, fs, l => (fs, l, 0)
  | k + 1, fs, l => if (fd l).2.2 ≠ 0 then ([], [], (fd l).2.2) else rfA k (fs ++ [(fd l).1]) (fd l).2.1
theorem rfA_rf (k : Nat) (fs : List (List UInt8)) (l : List UInt8) : rfA k fs l = if (rf k l).2.2 ≠ 0 then ([], [], (rf k l).2.2) else (fs ++ (rf k l).1, (rf k l).2.1, 0) := by
  induction k generalizing fs l with
  | zero => simp [rfA, rf]
  | succ k ih =>
    rw [rfA, rf]
    unfold fd part
    by_cases h1 : (tv l).2.2 ≠ 0
    · simp only [if_pos h1]
    · simp only [if_neg h1]
      by_cases h2 : (tv l).2.1.length < (tv l).1
      · simp [if_pos h2]
      · simp only [if_neg h2, ne_eq, not_true_eq_false, if_false]
        rw [ih]
        by_cases h3 : (rf k ((tv l).2.1.drop (tv l).1)).2.2 ≠ 0
        · simp only [if_pos h3]
        · simp only [if_neg h3, ne_eq, not_true_eq_false, if_false, List.append_assoc, List.singleton_append]
theorem rfA_nil (k : Nat) (l : List UInt8) : rfA k [] l = if (rf k l).2.2 ≠ 0 then ([], [], (rf k l).2.2) else ((rf k l).1, (rf k l).2.1, 0) := by simpa using rfA_rf k [] l
theorem tr_rfA (l : List UInt8) (h1 : (tv l).2.2 = 0) (h2 : (tv l).1 ≤ (tv l).2.1.length) : tr l = if (rfA (tv l).1 [] (tv l).2.1).2.2 ≠ 0 then ([], (rfA (tv l).1 [] (tv l).2.1).2.2) else if (rfA (tv l).1 [] (tv l).2.1).2.1.length ≠ 0 then ([], 12) else ((rfA (tv l).1 [] (tv l).2.1).1, 0) := by
  unfold tr
  rw [if_neg (by simp [h1]), if_neg (by omega), rfA_nil]
  by_cases h3 : (rf (tv l).1 (tv l).2.1).2.2 ≠ 0
  · simp only [if_pos h3]
  · simp only [if_neg h3, ne_eq, not_true_eq_false, if_false]
theorem fd_len (l : List UInt8) (ht : (tv l).2.1.length ≤ l.length) : (fd l).1.length ≤ l.length ∧ (fd l).2.1.length ≤ l.length := by
  unfold fd part
  split
  · simp
  · split
    · simp
    · simp only [List.length_take, List.length_drop]; omega

theorem viF_pos (k n : Nat) : 1 ≤ (viF k n).length := by
  cases k with
  | zero => simp [viF]
  | succ k => rw [viF]; split <;> simp
theorem vi_pos (n : Nat) : 1 ≤ (vi n).length := viF_pos 9 n

theorem rf_back (ls : List (List UInt8)) (r : List UInt8) (h : ∀ f ∈ ls, f.length < 18446744073709551616) : rf ls.length (rowB ls ++ r) = (ls, r, 0) := by
  induction ls with
  | nil => rfl
  | cons f ls ih =>
    have hf := h f (List.mem_cons_self ..)
    have e : tv (rowB (f :: ls) ++ r) = (f.length, f ++ (rowB ls ++ r), 0) := by
      rw [rowB, List.append_assoc, List.append_assoc]; exact tv_vi _ _ hf
    rw [List.length_cons, rf, e]
    simp only [ne_eq, not_true_eq_false, if_false]
    rw [if_neg (by simp), List.drop_left' rfl, List.take_left' rfl, ih (fun g hg => h g (List.mem_cons_of_mem _ hg))]
    simp
theorem rowB_pos (ls : List (List UInt8)) : ls.length ≤ (rowB ls).length := by
  induction ls with
  | nil => simp
  | cons f r ih => have := vi_pos f.length; simp only [rowB, List.length_append, List.length_cons]; omega
theorem tr_row (ls : List (List UInt8)) (hn : ls.length < 18446744073709551616) (h : ∀ f ∈ ls, f.length < 18446744073709551616) : tr (row ls) = (ls, 0) := by
  have e : tv (row ls) = (ls.length, rowB ls, 0) := tv_vi _ _ hn
  have e2 : rf ls.length (rowB ls) = (ls, [], 0) := by simpa using rf_back ls [] h
  have := rowB_pos ls
  unfold tr
  rw [e]
  simp only [ne_eq, not_true_eq_false, if_false]
  rw [if_neg (by omega), e2]
  simp

/-- The converse: what is read as a number is written as just that. -/
theorem viF_val (k s : Nat) (l : List UInt8) (hs : s ≤ k) (hk : k ≤ 9) (hl : l.length = s + 1) (h1 : ∀ j, (h : j < s) → 128 ≤ (l[j]'(by omega)).toNat) (h2 : (l[s]'(by omega)).toNat < 128) (h3 : 0 < s → (l[s]'(by omega)).toNat ≠ 0) :
    viF k (val l) = l := by
  induction k generalizing s l with
  | zero =>
    obtain rfl : s = 0 := by omega
    match l, hl with
    | [x], _ =>
      simp at h2
      have e : val [x] = x.toNat := by simp [val]; omega
      rw [e, viF, UInt8.ofNat_toNat]
  | succ k ih =>
    match l, hl with
    | x :: r, hl =>
      cases s with
      | zero =>
        have : r = [] := by simpa using hl
        subst this
        simp at h2
        have e : val [x] = x.toNat := by simp [val]; omega
        rw [e, viF, if_pos h2, UInt8.ofNat_toNat]
      | succ s =>
        have hx := h1 0 (by omega)
        simp only [List.getElem_cons_zero] at hx
        have hlt := x.toNat_lt
        have hr := ih s r (by omega) (by omega) (by simpa using hl) (fun j hj => by simpa using h1 (j + 1) (by omega)) (by simpa using h2) (fun _ => by simpa using h3 (by omega))
        have hv : 1 ≤ val r := by
          have hrl : r.length = s + 1 := by simpa using hl
          have hlast : r[s].toNat ≠ 0 := by simpa using h3 (by omega)
          have hlast2 : r[s].toNat < 128 := by simpa using h2
          have e : r = r.take s ++ [r[s]] := by
            have := List.take_succ_eq_append_getElem (l := r) (i := s) (by omega)
            rw [List.take_of_length_le (by omega)] at this
            exact this
          rw [e, val_append]
          have hp : 0 < 128 ^ (r.take s).length := Nat.pow_pos (by decide)
          have hq : 1 ≤ val [r[s]] := by simp [val]; omega
          have := Nat.mul_le_mul hp hq
          omega
        rw [val, viF, if_neg (by omega)]
        rw [show (x.toNat % 128 + 128 * val r) % 128 + 128 = x.toNat by omega, show (x.toNat % 128 + 128 * val r) / 128 = val r by omega, hr, UInt8.ofNat_toNat]

theorem cont_out (m : Nat) (l : List UInt8) : (∀ j, (h : j < cont m l) → (h' : j < l.length) → 128 ≤ l[j].toNat) ∧ (cont m l < m → (h : cont m l < l.length) → l[cont m l].toNat < 128) := by
  induction m generalizing l with
  | zero => exact ⟨fun j h => by simp [cont] at h, fun h => by omega⟩
  | succ m ih =>
    cases l with
    | nil => exact ⟨fun j h => by simp [cont] at h, fun _ h => by simp at h⟩
    | cons x l =>
      obtain ⟨i1, i2⟩ := ih l
      by_cases hx : 128 ≤ x.toNat
      · have e : cont (m + 1) (x :: l) = cont m l + 1 := by simp only [cont]; rw [if_pos hx]
        refine ⟨fun j h h' => ?_, fun h h' => ?_⟩
        · cases j with
          | zero => simpa using hx
          | succ j => simpa using i1 j (by omega) (by simpa using h')
        · have := i2 (by omega) (by rw [e] at h'; simpa using h')
          simp only [e, List.getElem_cons_succ]; exact this
      · have e : cont (m + 1) (x :: l) = 0 := by simp only [cont]; rw [if_neg hx]
        refine ⟨fun j h => by omega, fun h h' => ?_⟩
        simp only [e, List.getElem_cons_zero]; omega

theorem tv_form (l : List UInt8) (h : (tv l).2.2 = 0) : vi (tv l).1 ++ (tv l).2.1 = l := by
  obtain ⟨c1, c2⟩ := cont_out 10 l
  have hle := cont_le 10 l
  unfold tv at h ⊢
  simp only [] at h ⊢
  by_cases h1 : cont 10 l = 10
  · rw [if_pos h1] at h; cases h
  · rw [if_neg h1] at h ⊢
    by_cases h2 : l.length ≤ cont 10 l
    · rw [if_pos h2] at h; cases h
    · rw [if_neg h2] at h ⊢
      by_cases h3 : 0 < cont 10 l ∧ (l.getD (cont 10 l) 0).toNat = 0 ∨ cont 10 l = 9 ∧ 1 < (l.getD (cont 10 l) 0).toNat
      · rw [if_pos h3] at h; cases h
      · rw [if_neg h3]
        have hlt : cont 10 l < l.length := by omega
        have eg : l.getD (cont 10 l) 0 = l[cont 10 l] := by simp [hlt]
        rw [eg] at h3
        have := viF_val 9 (cont 10 l) (l.take (cont 10 l + 1)) (by omega) (Nat.le_refl _) (by simp; omega) (fun j hj => by rw [List.getElem_take]; exact c1 j hj (by omega)) (by rw [List.getElem_take]; exact c2 (by omega) hlt) (fun h0 => by rw [List.getElem_take]; intro q; exact h3 (.inl ⟨h0, q⟩))
        show viF 9 (val (l.take (cont 10 l + 1))) ++ l.drop (cont 10 l + 1) = l
        rw [this, List.take_append_drop]

theorem rf_form (k : Nat) (l : List UInt8) (h : (rf k l).2.2 = 0) : (rf k l).1.length = k ∧ rowB (rf k l).1 ++ (rf k l).2.1 = l := by
  induction k generalizing l with
  | zero => exact ⟨rfl, rfl⟩
  | succ k ih =>
    rw [rf] at h ⊢
    by_cases h1 : (tv l).2.2 ≠ 0
    · rw [if_pos h1] at h; exact absurd h h1
    · rw [if_neg h1] at h ⊢
      by_cases h2 : (tv l).2.1.length < (tv l).1
      · rw [if_pos h2] at h; cases h
      · rw [if_neg h2] at h ⊢
        by_cases h3 : (rf k ((tv l).2.1.drop (tv l).1)).2.2 ≠ 0
        · rw [if_pos h3] at h; exact absurd h h3
        · rw [if_neg h3]
          have h1' : (tv l).2.2 = 0 := by simpa using h1
          obtain ⟨q1, q2⟩ := ih _ (show _ = 0 by simpa using h3)
          have ht := tv_form l h1'
          refine ⟨by simp [q1], ?_⟩
          show vi ((tv l).2.1.take (tv l).1).length ++ (tv l).2.1.take (tv l).1 ++ rowB _ ++ _ = l
          rw [List.append_assoc, List.append_assoc, q2, List.take_append_drop, List.length_take, Nat.min_eq_left (by omega), ht]
theorem tr_form (l : List UInt8) (h : (tr l).2 = 0) : row (tr l).1 = l := by
  unfold tr at h ⊢
  by_cases h1 : (tv l).2.2 ≠ 0
  · rw [if_pos h1] at h; exact absurd h h1
  · rw [if_neg h1] at h ⊢
    by_cases h2 : (tv l).2.1.length < (tv l).1
    · rw [if_pos h2] at h; cases h
    · rw [if_neg h2] at h ⊢
      by_cases h3 : (rf (tv l).1 (tv l).2.1).2.2 ≠ 0
      · rw [if_pos h3] at h; exact absurd h h3
      · rw [if_neg h3] at h ⊢
        by_cases h4 : (rf (tv l).1 (tv l).2.1).2.1.length ≠ 0
        · rw [if_pos h4] at h; cases h
        · rw [if_neg h4]
          obtain ⟨q1, q2⟩ := rf_form _ _ (show (rf (tv l).1 (tv l).2.1).2.2 = 0 by simpa using h3)
          have e : (rf (tv l).1 (tv l).2.1).2.1 = [] := List.length_eq_zero_iff.1 (by simpa using h4)
          rw [e, List.append_nil] at q2
          have ht := tv_form l (by simpa using h1)
          show vi (rf (tv l).1 (tv l).2.1).1.length ++ rowB _ = l
          rw [q1, q2, ht]

theorem be_num4 (u : List UInt8) (k : Nat) (h : u.length = k) : be k (num u) = u := num_inj _ _ (by rw [be_length, h]) (by rw [num_be k _ (by have := num_lt u; rw [h] at this; exact this)])

theorem tf_form (l : List UInt8) (h : (tf l).2.2 = 0) : frame (tf l).1 ++ (tf l).2.1 = l := by
  unfold tf at h ⊢
  simp only [] at h ⊢
  by_cases h1 : (tv l).2.2 ≠ 0
  · rw [if_pos h1] at h; exact absurd h h1
  · rw [if_neg h1] at h ⊢
    by_cases h2 : (tv l).2.1.length < 4
    · rw [if_pos h2] at h; cases h
    · rw [if_neg h2] at h ⊢
      by_cases h3 : ((tv l).2.1.drop 4).length < (tv l).1
      · rw [if_pos h3] at h; cases h
      · rw [if_neg h3] at h ⊢
        by_cases h4 : crc (((tv l).2.1.drop 4).take (tv l).1) ≠ num ((tv l).2.1.take 4)
        · rw [if_pos h4] at h; cases h
        · rw [if_neg h4]
          have ht := tv_form l (by simpa using h1)
          have h4' : crc (((tv l).2.1.drop 4).take (tv l).1) = num ((tv l).2.1.take 4) := by simpa using h4
          show frame (((tv l).2.1.drop 4).take (tv l).1) ++ ((tv l).2.1.drop 4).drop (tv l).1 = l
          unfold frame
          rw [h4', be_num4 _ 4 (by simp; omega), List.append_assoc, List.append_assoc, List.take_append_drop, List.take_append_drop, List.length_take, Nat.min_eq_left (by omega), ht]

/-- A last group read. -/
theorem tg_pad (l r : List UInt8) (h : l.length < 8) : tg (pad l ++ r) = (l, 0) := by
  have hp := pad_length l h
  have e8 : (pad l ++ r).getD 8 0 = UInt8.ofNat (247 + l.length) := by
    rw [List.getD_eq_getElem?_getD, List.getElem?_append_left (by omega)]
    have : (pad l)[8]? = some (UInt8.ofNat (247 + l.length)) := by
      unfold pad
      rw [List.getElem?_append_right (by simp; omega)]
      have : (l ++ List.replicate (8 - l.length) (0 : UInt8)).length = 8 := by simp; omega
      rw [this]; rfl
    rw [this]; rfl
  have en : (UInt8.ofNat (247 + l.length)).toNat = 247 + l.length := by rw [UInt8.toNat_ofNat']; omega
  have t8 : (pad l ++ r).take 8 = l ++ List.replicate (8 - l.length) 0 := by
    unfold pad
    rw [List.append_assoc]
    exact List.take_left' (by simp; omega)
  unfold tg
  rw [if_neg (by simp [hp]), e8, en, if_neg (by omega), t8, show 247 + l.length - 247 = l.length by omega, List.drop_left' rfl, if_pos (by simp)]
  congr 1
  unfold pad
  rw [List.append_assoc, List.append_assoc]
  exact List.take_left' rfl
theorem tg_full (a r : List UInt8) (h : a.length = 8) : tg (a ++ [255] ++ r) = (a, 0) := by
  have e8 : (a ++ [255] ++ r).getD 8 0 = 255 := by
    rw [List.getD_eq_getElem?_getD, List.append_assoc, List.getElem?_append_right (by omega), h]; rfl
  have t8 : (a ++ [255] ++ r).take 8 = a := by rw [List.append_assoc]; exact List.take_left' h
  unfold tg
  rw [if_neg (by simp only [List.length_append, h, List.length_singleton]; omega), e8, if_neg (by decide), t8]
  rw [show (255 : UInt8).toNat - 247 = 8 by decide, if_pos (by rw [List.drop_of_length_le (by omega)]; rfl), t8]

theorem tbA_back (k n : Nat) (acc l r : List UInt8) (hn : l.length < 8 * (k + 1)) (hk : k < n) : tbA n acc (obF k l ++ r) = (acc ++ l, r, 0) := by
  induction k generalizing n acc l with
  | zero =>
    obtain ⟨n, rfl⟩ : ∃ m, n = m + 1 := ⟨n - 1, by omega⟩
    rw [tbA, obF, tg_pad l r (by omega)]
    simp only [ne_eq, not_true_eq_false, if_false]
    rw [if_pos (by omega), List.drop_left' (pad_length l (by omega))]
  | succ k ih =>
    obtain ⟨n, rfl⟩ : ∃ m, n = m + 1 := ⟨n - 1, by omega⟩
    rw [tbA, obF]
    by_cases h : l.length < 8
    · rw [if_pos h, tg_pad l r h]
      simp only [ne_eq, not_true_eq_false, if_false]
      rw [if_pos h, List.drop_left' (pad_length l h)]
    · rw [if_neg h, List.append_assoc, tg_full _ _ (by simp; omega)]
      simp only [ne_eq, not_true_eq_false, if_false]
      rw [if_neg (by simp; omega), List.drop_left' (by simp; omega), ih n _ _ (by simp; omega) (by omega), List.append_assoc, List.take_append_drop]
theorem tb_back (b r : List UInt8) : tb (ob b ++ r) = (b, r, 0) := by
  unfold tb ob
  have h := obF_length (b.length / 8) b (by omega)
  rw [tbA_back (b.length / 8) _ [] b r (by omega) (by rw [List.length_append, h]; omega)]
  simp
theorem tk_back (b : List UInt8) (n : Nat) (hn : n < 18446744073709551616) : tk (key b n) = (b, n, 0) := by
  unfold tk key
  simp only []
  have h8 := be_length 8 (18446744073709551615 - n)
  rw [tb_back]
  simp only [ne_eq, not_true_eq_false, if_false]
  have h256 : 18446744073709551615 - n < 256 ^ 8 := by
    have : (256 : Nat) ^ 8 = 18446744073709551616 := by decide
    omega
  rw [if_neg (by omega), h8, if_neg (by simp), List.take_of_length_le (by omega), num_be 8 _ h256, show 18446744073709551615 - (18446744073709551615 - n) = n by omega]

/-- The converse for ordered texts. -/
theorem tg_form (l : List UInt8) (h : (tg l).2 = 0) : ((tg l).1.length < 8 → pad (tg l).1 = l.take 9) ∧ ((tg l).1.length = 8 → (tg l).1 ++ [255] = l.take 9) := by
  obtain ⟨h1, h2, h3, h4⟩ := tg_ok l h
  have hb := (l.getD 8 0).toNat_lt
  have hl := tg_len l h
  have e9 : l.take 9 = l.take 8 ++ [l.getD 8 0] := by
    rw [List.take_succ_eq_append_getElem (show 8 < l.length by omega)]
    simp [show 8 < l.length by omega]
  generalize hm : (l.getD 8 0).toNat - 247 = m at *
  have em : l.getD 8 0 = UInt8.ofNat (247 + m) := by
    rw [← UInt8.ofNat_toNat (x := l.getD 8 0)]; congr 1; omega
  refine ⟨fun q => ?_, fun q => ?_⟩
  · rw [e9, em]
    unfold pad
    rw [hl.1]
    congr 1
    have ez : (l.take 8).drop m = List.replicate (8 - m) 0 := by
      refine List.eq_replicate_iff.2 ⟨by simp; omega, fun x hx => ?_⟩
      have := List.all_eq_true.1 h4 x hx
      simpa using this
    rw [h3, ← ez]
    have : l.take m = (l.take 8).take m := by rw [List.take_take, Nat.min_eq_left (by omega)]
    rw [this, List.take_append_drop]
  · rw [e9, em, h3, show m = 8 by omega]
    rfl
theorem tbA_form (n : Nat) (acc l : List UInt8) (h : (tbA n acc l).2.2 = 0) : ∃ x, (tbA n acc l).1 = acc ++ x ∧ ob x ++ (tbA n acc l).2.1 = l := by
  induction n generalizing acc l with
  | zero => cases h
  | succ n ih =>
    rw [tbA] at h ⊢
    by_cases h1 : (tg l).2 ≠ 0
    · rw [if_pos h1] at h; exact absurd h h1
    · rw [if_neg h1] at h ⊢
      obtain ⟨f1, f2⟩ := tg_form l (by simpa using h1)
      have hl := tg_len l (by simpa using h1)
      by_cases h2 : (tg l).1.length < 8
      · rw [if_pos h2]
        refine ⟨_, rfl, ?_⟩
        show ob (tg l).1 ++ l.drop 9 = l
        unfold ob
        rw [obF_short _ _ h2, f1 h2, List.take_append_drop]
      · rw [if_neg h2] at h ⊢
        obtain ⟨x, q1, q2⟩ := ih _ _ h
        refine ⟨(tg l).1 ++ x, by rw [q1, List.append_assoc], ?_⟩
        have e8 : (tg l).1.length = 8 := by omega
        have eo : ob ((tg l).1 ++ x) = (tg l).1 ++ [255] ++ ob x := by
          unfold ob
          rw [List.length_append, e8, show (8 + x.length) / 8 = x.length / 8 + 1 by omega, obF, if_neg (by simp; omega), List.take_left' e8, List.drop_left' e8]
        rw [eo, f2 e8, List.append_assoc, q2, List.take_append_drop]
theorem tb_form (l : List UInt8) (h : (tb l).2.2 = 0) : ob (tb l).1 ++ (tb l).2.1 = l := by
  obtain ⟨x, q1, q2⟩ := tbA_form _ _ _ h
  unfold tb
  rw [q1]
  simpa using q2
end Go.Proofs.Ytgienommkifbnaa.M

/- My own words for lists of uint64 in memory: 'Ru w v l': the slice value v reads as the numbers l; 'Ou B w v l': a row of the call's own. -/
namespace Go.Proofs.Ytgienommkifbnaa
open Go.RowKit
set_option linter.unusedVariables false

/-- The cells of a list of numbers. -/
def celU (l : List UInt64) : List Value := l.map fun x => Value.int .u64 (x.toNat : Int)
theorem celU_length (l : List UInt64) : (celU l).length = l.length := by simp [celU]
theorem celU_append (a b : List UInt64) : celU (a ++ b) = celU a ++ celU b := by simp [celU]
theorem celU_get (l : List UInt64) (i : Nat) (h : i < l.length) : (celU l)[i]? = some (.int .u64 (l[i].toNat : Int)) := by simp [celU, h]
theorem celU_one (l : List UInt64) : ∀ u ∈ celU l, u.oneCell' = true := by
  intro u hu
  obtain ⟨_, _, rfl⟩ := List.mem_map.1 hu
  rfl
theorem celU_set (l : List UInt64) (i : Nat) (x : UInt64) : celU (l.set i x) = (celU l).set i (.int .u64 (x.toNat : Int)) := by
  unfold celU; rw [List.map_set]

/-- The slice value v reads as the numbers l. -/
def Ru (w : World) (v : Value) (l : List UInt64) : Prop :=
  ∃ ao c, v = .slice ao l.length c ∧ l.length ≤ c ∧ c ≤ maxLen ∧ (ao = none → c = 0) ∧ ∀ i, (h : i < l.length) → ∃ a, ao = some a ∧ w.cell? (a.add i) = some (.int .u64 (l[i].toNat : Int))

theorem Ru.two {w : World} {v : Value} {l : List UInt64} (h : Ru w v l) :
    (v = .slice none 0 0 ∧ l = []) ∨ ∃ a c, v = .slice (some a) l.length c ∧ l.length ≤ c ∧ c ≤ maxLen ∧ ∀ i, (h : i < l.length) → w.cell? (a.add i) = some (.int .u64 (l[i].toNat : Int)) := by
  obtain ⟨ao, c, hv, h1, h2, h3, h4⟩ := h
  cases ao with
  | none =>
    have hc := h3 rfl
    have hl : l = [] := List.length_eq_zero_iff.1 (by omega)
    subst hl; subst hc
    exact .inl ⟨hv, rfl⟩
  | some a =>
    refine .inr ⟨a, c, hv, h1, h2, fun i hi => ?_⟩
    obtain ⟨a', e, hc⟩ := h4 i hi
    obtain rfl := Option.some.inj e
    exact hc
theorem Ru.mk {w : World} {a : Addr} {n c : Nat} {l : List UInt64} (hn : n = l.length) (h1 : l.length ≤ c) (h2 : c ≤ maxLen) (h3 : ∀ i, (h : i < l.length) → w.cell? (a.add i) = some (.int .u64 (l[i].toNat : Int))) : Ru w (.slice (some a) n c) l :=
  ⟨some a, c, by rw [hn], h1, h2, (fun h => by cases h), fun i hi => ⟨a, rfl, h3 i hi⟩⟩
theorem Ru.nil (w : World) : Ru w (.slice none 0 0) [] := ⟨none, 0, rfl, by simp, by simp, fun _ => rfl, fun i hi => by simp at hi⟩
theorem Ru.below {B : Nat} {w w' : World} {v : Value} {l : List UInt64} (h : Ru w v l) (hb : Below B w w') (hB : w.heap.size ≤ B) : Ru w' v l := by
  obtain ⟨ao, c, h0, h1, h2, h3, h4⟩ := h
  refine ⟨ao, c, h0, h1, h2, h3, fun i hi => ?_⟩
  obtain ⟨a, e, hc⟩ := h4 i hi
  have hlt := World.block_lt_of_cell? w _ hc
  exact ⟨a, e, by rw [hb.cell (by omega)]; exact hc⟩
theorem Ru.drewN {w : World} {v : Value} {l : List UInt64} (h : Ru w v l) (n : Nat) : Ru (w.drewN n) v l := h.below (below_drewN (Below.refl _ _) n) (Nat.le_refl _)
theorem Ru.alloc {w : World} {v : Value} {l : List UInt64} (h : Ru w v l) (o : Obj) : Ru (w.alloc o) v l := h.below ((Below.refl _ _).alloc (Nat.le_refl _) o) (Nat.le_refl _)
theorem Ru.shape {w : World} {v : Value} {l : List UInt64} (h : Ru w v l) : ∃ a c, v = .slice a l.length c := by
  obtain ⟨ao, c, e, _⟩ := h; exact ⟨_, _, e⟩
theorem Ru.len {w : World} {v : Value} {l : List UInt64} (h : Ru w v l) : l.length ≤ maxLen := by
  obtain ⟨ao, c, _, h1, h2, _⟩ := h; omega

/-- A row of numbers of the call's own, in new memory from block B on. -/
def Ou (B : Nat) (w : World) (v : Value) (l : List UInt64) : Prop := w.ownsRow B 35 1 v l.length (celU l)
theorem Ou.ru {B : Nat} {w : World} {v : Value} {l : List UInt64} (h : Ou B w v l) : Ru w v l := by
  have h' := h
  obtain ⟨_, h2⟩ := h
  rcases h2 with ⟨hv, h0⟩ | ⟨g, cap, cur, hv, hg, hh, hn, hcap, hsz, htake⟩
  · obtain rfl := List.length_eq_zero_iff.1 h0
    subst hv
    exact Ru.nil _
  · subst hv
    refine Ru.mk rfl hn hcap (fun i hi => ?_)
    rw [Addr.add_lit, Nat.zero_add]
    unfold Ou at h'
    rw [h'.cellAt i (by omega), celU_get l i hi]
theorem Ou.below {B C : Nat} {w w' : World} {v : Value} {l : List UInt64} (h : Ou B w v l) (hb : Below C w w') (hC : w.heap.size ≤ C) : Ou B w' v l := by
  obtain ⟨h1, h2⟩ := h
  refine ⟨h1, ?_⟩
  rcases h2 with h2 | ⟨g, cap, cur, hv, hg, hh, r⟩
  · exact .inl h2
  · refine .inr ⟨g, cap, cur, hv, hg, ?_, r⟩
    have hlt : g < w.heap.size := (Array.getElem?_eq_some_iff.1 hh).1
    rw [hb.block g (by omega)]; exact hh
theorem Ou.mono {B B' : Nat} {w : World} {v : Value} {l : List UInt64} (h : Ou B w v l) (hB : B' ≤ B) : Ou B' w v l := by
  obtain ⟨h1, h2⟩ := h
  refine ⟨h1, ?_⟩
  rcases h2 with h2 | ⟨g, cap, cur, hv, hg, r⟩
  · exact .inl h2
  · exact .inr ⟨g, cap, cur, hv, by omega, r⟩
theorem Ou.alloc {B : Nat} {w : World} {v : Value} {l : List UInt64} (h : Ou B w v l) (o : Obj) : Ou B (w.alloc o) v l := World.ownsRow.alloc h o
theorem Ou.nil (B : Nat) (w : World) : Ou B w (.slice none 0 0) [] := World.ownsRow_nil _ _ _ _
theorem Ou.lt {B : Nat} {w : World} {v : Value} {l : List UInt64} (h : Ou B w v l) (b : Nat) (e : v.ownBlock = some b) : B ≤ b ∧ b < w.heap.size := World.ownsRow.lt h b e
theorem Ou.shape {B : Nat} {w : World} {v : Value} {l : List UInt64} (h : Ou B w v l) : ∃ a c, v = .slice a l.length c := h.ru.shape
theorem Ou.kept {B : Nat} {w w' : World} {v : Value} {l : List UInt64} {r : Option Nat} (h : Ou B w v l) (hg : w.grownBy w' r) (hne : ∀ b, v.ownBlock = some b → r ≠ some b) : Ou B w' v l := by
  refine World.ownsRow.kept h hg ?_
  by_cases e : v.ownBlock = none
  · exact .inl e
  · obtain ⟨b, hb⟩ := Option.ne_none_iff_exists'.1 e
    exact .inr (fun q => hne b hb (by rw [← q]; exact hb))
/-- The row of a literal. -/
theorem Ou.made (B : Nat) (w : World) (l : List UInt64) (n : Nat) (hn : n = l.length) (hB : B ≤ w.heap.size) (hl : l.length ≤ maxLen) (C : Array Value) (hC : C.toList = celU l) (g : Nat) (hg : g = w.heap.size) : Ou B (w.alloc (.cells C 35)) (.slice (some ⟨g, 0, none⟩) n n) l := by
  subst hn; subst hg
  have hs : C.size = l.length := by rw [← Array.length_toList, hC, celU_length]
  refine ⟨by rw [celU_length]; simp, .inr ⟨w.heap.size, l.length, C, rfl, hB, heap_alloc_new w _, Nat.le_refl _, hl, by omega, ?_⟩⟩
  rw [hC, List.take_of_length_le (by rw [celU_length]; omega)]

theorem Try.infoU : (Try.prog.info? 35).map (fun i => (i.zero, i.size, i.bytes)) = some (some (.int .u64 0), 1, 8) := by kernel_rfl

/-- 'append(out, x...)' of numbers, out the call's own. -/
theorem wpList_appU {w : World} {ops : Array Oper} {rest : List Oper} {o : Oper} {a : Act} {Q : Exit → Act → World → Prop} (hgd : o.guard = none) (s x : Operand)
    (ho : o.op = .call { callee := .builtin .append, args := #[s, x], argTypes := #[22, 22] })
    (B : Nat) (v : Value) (l : List UInt64) (hs : a.eval s = v) (hown : Ou B w v l) (vx : Value) (m : List UInt64) (hx : a.eval x = vx) (hm : Ru w vx m)
    (hB : B ≤ w.heap.size) (hlen : l.length + m.length ≤ 10995116277760)
    (h : ∀ v' w', Ou B w' v' (l ++ m) → w.grownBy w' v.ownBlock → (v'.ownBlock = v.ownBlock ∨ v'.ownBlock = some w.heap.size) → wpList Try.prog ops Q rest (a.put o.dst v') w') : wpList Try.prog ops Q (o :: rest) a w := by
  obtain ⟨i, hi, hz0, hz1, hz2⟩ := info_parts Try.infoU
  rcases hm.two with ⟨rfl, rfl⟩ | ⟨ad, c, rfl, h1, h2, h3⟩
  · refine wpList_append_own_none hgd s x 22 ho B 35 i 1 Try.underlying22 hi _ _ _ hs hown hx ?_
    exact h v w (by simpa using hown) (World.grownBy.refl _ _) (.inl rfl)
  · refine wpList_plain hgd fun K hK => ?_
    obtain ⟨v', w', hr, q2, q3, q4⟩ := run_appN (P := Try.prog) w B 22 o.type 35 (.int .u64 0) 8 Try.underlying22 Try.infoU rfl v l.length (celU l) hown ad m.length c (celU m) (by simp [celU_length]) (by
      intro j u hu
      have hj : j < m.length := by have := (List.getElem?_eq_some_iff.1 hu).1; simpa [celU_length] using this
      rw [h3 j hj]; rw [celU_get m j hj] at hu; exact hu) (celU_one m) (by unfold maxLen; omega) (by omega) hB
    unfold Oper.wp execOp
    simp only [ho, resolve, invoke, builtin, Sem.run_bind, Sem.run_pure, Result.andThen_ok, List.map_toArray, List.map_cons, List.map_nil, hs, hx, hr]
    exact hK _ _ (h v' w' (by unfold Ou; rw [celU_append, List.length_append]; exact q2) q3 q4)

theorem ru_one (w : World) (z : Int) (b : UInt64) (hz : z = (b.toNat : Int)) (t : TypeId) (g : Nat) (hg : g = w.heap.size) : Ru (w.alloc (.cells #[.int .u64 z] t)) (.slice (some ⟨g, 0, none⟩) 1 1) [b] := by
  subst hg
  refine Ru.mk rfl (by simp) (by simp [maxLen]) (fun i hi => ?_)
  obtain rfl : i = 0 := by simpa using hi
  rw [show (⟨w.heap.size, 0, none⟩ : Addr).add 0 = ⟨w.heap.size, 0, none⟩ from rfl, World.cell?_alloc_at _ _ _ _ rfl]
  subst hz
  rfl

/-- A number written into the row. -/
theorem Ou.put {B g : Nat} {w : World} {v : Value} {l : List UInt64} (h : Ou B w v l) (hv : v.ownBlock = some g) (j : Nat) (x : UInt64) : Ou B (w.setCell ⟨g, j, none⟩ (.int .u64 (x.toNat : Int))) v (l.set j x) := by
  unfold Ou at *
  rw [celU_set]
  refine ⟨by rw [List.length_set]; have := h.1; simpa using this, ?_⟩
  rcases h.2 with ⟨q, q0⟩ | ⟨g', cap, cur, q, hB, hg, q1, q2, q3, q4⟩
  · rw [q] at hv; cases hv
  · rw [q] at hv
    obtain rfl : g' = g := Option.some.inj hv
    refine .inr ⟨g', cap, cur.setIfInBounds j (.int .u64 (x.toNat : Int)), by rw [List.length_set]; exact q, hB, by rw [heap_setCell_same _ _ j _ _ _ hg], by rw [List.length_set]; exact q1, q2, by rw [Array.size_setIfInBounds]; exact q3, ?_⟩
    rw [← q4]
    simp [List.take_set, List.length_set]
theorem Ou.froz {B g n c : Nat} {w : World} {l : List UInt64} (h : Ou B w (.slice (some ⟨g, 0, none⟩) n c) l) (j : Nat) : w.frozen? ⟨g, j, none⟩ = false := by
  rcases h.2 with ⟨q, q0⟩ | ⟨g', cap, cur, q, hB, hg, _⟩
  · cases q
  · simp only [Value.slice.injEq, Option.some.injEq, Addr.mk.injEq, and_true] at q
    rw [q.1]; exact frozen_of_row _ _ _ _ _ hg
/-- A row of the call's own: none, or at the head of its block. -/
theorem Ou.blk {B : Nat} {w : World} {v : Value} {l : List UInt64} (h : Ou B w v l) : (v = .slice none 0 0 ∧ l = []) ∨ ∃ g c, v = .slice (some ⟨g, 0, none⟩) l.length c ∧ l.length ≤ c ∧ c ≤ maxLen ∧ B ≤ g ∧ g < w.heap.size ∧ (∀ j, (hj : j < l.length) → w.cell? ⟨g, j, none⟩ = some (.int .u64 (l[j].toNat : Int))) ∧ ∀ j, w.frozen? ⟨g, j, none⟩ = false := by
  have h' := h
  rcases h.2 with ⟨hv, h0⟩ | ⟨g, cap, cur, hv, hg, hh, hn, hcap, hsz, htake⟩
  · exact .inl ⟨hv, List.length_eq_zero_iff.1 h0⟩
  · subst hv
    refine .inr ⟨g, cap, rfl, hn, hcap, hg, (Array.getElem?_eq_some_iff.1 hh).1, fun j hj => ?_, fun j => h'.froz j⟩
    unfold Ou at h'
    rw [h'.cellAt j (by omega), celU_get l j hj]
end Go.Proofs.Ytgienommkifbnaa

/- What slices.Equal of two lists of numbers answers: whether they read as the same numbers. -/
namespace Go.Proofs.Ytgienommkifbnaa
open Go.RowKit
set_option linter.unusedVariables false

set_option maxHeartbeats 400000 in
theorem uequal_core (a b : Addr) (n ca cb : Nat) (f g : Nat → UInt64) (w : World) (hl : n ≤ maxLen)
    (ha : ∀ i, i < n → w.cell? (a.add i) = some (.int .u64 ((f i).toNat : Int))) (hb : ∀ i, i < n → w.cell? (b.add i) = some (.int .u64 ((g i).toNat : Int))) :
    Calls Try.prog 57 #[.slice (some a) n ca, .slice (some b) n cb] w fun e w' => (∃ r, e = .returned (.bool r) ∧ (r = true ↔ ∀ i, i < n → f i = g i)) ∧ ∃ k, w' = w.drewN k := by
  unfold maxLen at hl
  go_enter Try.func57, Try.ntmps57
  go_wp2
  go_loopw [5, 13] (fun _ i wr => ∃ k : Nat, k ≤ n ∧ i = .int .i64 k ∧ (∀ j, j < k → f j = g j) ∧ ∃ m, wr = w.drewN m) (fun _ i _ => n - (intOf i).toNat)
  case atStart => exact ⟨0, Nat.zero_le _, rfl, fun j hj => by omega, 0, rfl⟩
  case round =>
    obtain ⟨k, hk, rfl, hs, m, rfl⟩ := hrel
    by_cases hlt : k < n
    · have h1 := ha k hlt
      have h2 := hb k hlt
      clear ha hb
      go_wp2
      go_region
      all_goals go_wp2
      · go_ret
        refine ⟨⟨false, rfl, ?_⟩, _, rfl⟩
        simp only [Bool.false_eq_true, false_iff]
        intro hh
        have := hh k hlt
        simp_all
      · rename_i hne
        have he : f k = g k := by
          have : ((f k).toNat : Int) = ((g k).toNat : Int) := by simpa using hne
          exact UInt64.toNat_inj.1 (by omega)
        refine ⟨⟨k + 1, by omega, by go_num, fun j hj => ?_, _, rfl⟩, by simp [intOf]; omega⟩
        by_cases hj' : j < k
        · exact hs j hj'
        · obtain rfl : j = k := by omega
          exact he
    · go_wp2
      go_ret
      exact ⟨⟨true, rfl, by simp; intro i hi; exact hs i (by omega)⟩, _, rfl⟩

/-- slices.Equal of two lists of numbers: whether they are the same numbers; memory stands. -/
theorem uequal_any {va vb : Value} {la lb : List UInt64} {w : World} (ha : Ru w va la) (hb : Ru w vb lb) :
    Calls Try.prog 57 #[va, vb] w fun e w' => e = .returned (.bool (decide (la = lb))) ∧ ∃ n, w' = w.drewN n := by
  by_cases hn : la.length = lb.length
  · rcases ha.two with ⟨rfl, rfl⟩ | ⟨a, ca, rfl, h1, h2, h3⟩
    · obtain rfl : lb = [] := List.length_eq_zero_iff.1 (by simpa using hn.symm)
      obtain ⟨b, cb, rfl⟩ : ∃ b cb, vb = .slice b 0 cb := by
        rcases hb.two with ⟨rfl, _⟩ | ⟨b, cb, rfl, _⟩
        · exact ⟨_, _, rfl⟩
        · exact ⟨_, _, rfl⟩
      clear hb hn
      go_enter Try.func57, Try.ntmps57
      go_wp2
      refine wp_loop_rounds 1 ?_
      rw [rounds_succ]
      go_wp2
      go_ret
      exact ⟨by simp, 0, rfl⟩
    · rcases hb.two with ⟨rfl, rfl⟩ | ⟨b, cb, rfl, k1, k2, k3⟩
      · obtain rfl : la = [] := List.length_eq_zero_iff.1 (by simpa using hn)
        clear h1 h2 h3 hn
        go_enter Try.func57, Try.ntmps57
        go_wp2
        refine wp_loop_rounds 1 ?_
        rw [rounds_succ]
        go_wp2
        go_ret
        exact ⟨by simp, 0, rfl⟩
      · rw [← hn]
        refine (uequal_core a b la.length ca cb (fun i => la.getD i 0) (fun i => lb.getD i 0) w (by omega) (fun i hi => ?_) (fun i hi => ?_)).mono ?_
        · rw [h3 i hi]; simp [hi]
        · rw [k3 i (by omega)]; simp [show i < lb.length by omega]
        · rintro e w' ⟨⟨r, rfl, hr⟩, hw⟩
          refine ⟨?_, hw⟩
          have : r = decide (la = lb) := by
            rw [Bool.eq_iff_iff, hr, decide_eq_true_iff]
            constructor
            · intro h
              refine List.ext_getElem hn fun i hi hi' => ?_
              have := h i hi
              simpa [hi, hi'] using this
            · rintro rfl i _; rfl
          rw [this]
  · have hd : decide (la = lb) = false := by
      simp only [decide_eq_false_iff_not]; rintro rfl; exact hn rfl
    rw [hd]
    obtain ⟨a, ca, rfl⟩ : ∃ a ca, va = .slice a la.length ca := by
      rcases ha.two with ⟨rfl, rfl⟩ | ⟨a, ca, rfl, _⟩
      · exact ⟨_, _, rfl⟩
      · exact ⟨_, _, rfl⟩
    obtain ⟨b, cb, rfl⟩ : ∃ a ca, vb = .slice a lb.length ca := by
      rcases hb.two with ⟨rfl, rfl⟩ | ⟨a, ca, rfl, _⟩
      · exact ⟨_, _, rfl⟩
      · exact ⟨_, _, rfl⟩
    clear ha hb hd
    have hne : (((la.length : Nat) : Int) != ((lb.length : Nat) : Int)) = true := by simp; omega
    clear hn
    go_enter Try.func57, Try.ntmps57
    go_wp2
    go_ret
    exact ⟨rfl, 0, rfl⟩
end Go.Proofs.Ytgienommkifbnaa

/- Plain mathematics of a configuration's bytes. No program is named here. -/
namespace Go.Proofs.Ytgienommkifbnaa.M
set_option maxRecDepth 100000

/-- The bytes of a list of numbers. -/
def vis (l : List UInt64) : List (List UInt8) := l.map fun n => vi n.toNat
def nums (l : List UInt64) : List UInt8 := row (vis l)
/-- The bytes of a configuration. -/
def enc (c : List UInt64 × List UInt64 × List UInt64) : List UInt8 := row [nums c.1, nums c.2.1, nums c.2.2]
/-- Fields read as numbers. -/
def nF : List (List UInt8) → Option (List UInt64)
  | [] => some []
  | f :: r => if (tv f).2.2 = 0 ∧ (tv f).2.1 = [] then (nF r).map (UInt64.ofNat (tv f).1 :: ·) else none
/-- Bytes read as numbers. -/
def dn (b : List UInt8) : Option (List UInt64) := if (tr b).2 = 0 then nF (tr b).1 else none
def d3 : List (List UInt8) → Option (List UInt64 × List UInt64 × List UInt64)
  | [f, g, h] => match dn f, dn g, dn h with
    | some x, some y, some z => some (x, y, z)
    | _, _, _ => none
  | _ => none
/-- Bytes read as a configuration. -/
def dc (b : List UInt8) : Option (List UInt64 × List UInt64 × List UInt64) := if (tr b).2 = 0 then d3 (tr b).1 else none

theorem rowB_len (ls : List (List UInt8)) (m : Nat) (h : ∀ f ∈ ls, f.length ≤ m) : (rowB ls).length ≤ ls.length * (m + 10) := by
  induction ls with
  | nil => simp [rowB]
  | cons f r ih =>
    have h1 := h f (List.mem_cons_self ..)
    have h2 := ih (fun g hg => h g (List.mem_cons_of_mem _ hg))
    have h3 := viF_length 9 f.length
    have h4 : (vi f.length).length ≤ 10 := h3
    simp only [rowB, List.length_append, List.length_cons, Nat.succ_mul]
    omega
theorem row_len (ls : List (List UInt8)) (m : Nat) (h : ∀ f ∈ ls, f.length ≤ m) : (row ls).length ≤ ls.length * (m + 10) + 10 := by
  have h1 := rowB_len ls m h
  have h4 : (vi ls.length).length ≤ 10 := viF_length 9 _
  simp only [row, List.length_append]
  omega
theorem vis_mem (l : List UInt64) : ∀ f ∈ vis l, f.length ≤ 10 := by
  intro f hf
  obtain ⟨n, _, rfl⟩ := List.mem_map.1 hf
  exact viF_length 9 _
theorem nums_len (l : List UInt64) : (nums l).length ≤ 20 * l.length + 10 := by
  have := row_len (vis l) 10 (vis_mem l)
  unfold nums
  simp only [vis, List.length_map] at this ⊢
  omega
theorem vis_take (l : List UInt64) (k : Nat) (h : k < l.length) : vis (l.take (k + 1)) = vis (l.take k) ++ [vi l[k].toNat] := by
  unfold vis
  rw [List.take_succ_eq_append_getElem h, List.map_append]
  rfl

theorem nF_back (l : List UInt64) : nF (vis l) = some l := by
  induction l with
  | nil => rfl
  | cons n r ih =>
    have h := tv_vi n.toNat [] n.toNat_lt
    rw [List.append_nil] at h
    rw [vis, List.map_cons, nF, h]
    simp only [and_self, if_true]
    have : nF (List.map (fun n => vi n.toNat) r) = some r := ih
    rw [this]
    simp
theorem dn_back (l : List UInt64) (h : l.length < 1099511627776) : dn (nums l) = some l := by
  have e : tr (nums l) = (vis l, 0) := tr_row _ (by simp [vis]; omega) (fun f hf => by have := vis_mem l f hf; omega)
  unfold dn
  rw [e]
  simpa using nF_back l
theorem dc_back (c : List UInt64 × List UInt64 × List UInt64) (h1 : c.1.length < 1099511627776) (h2 : c.2.1.length < 1099511627776) (h3 : c.2.2.length < 1099511627776) : dc (enc c) = some c := by
  have e : tr (enc c) = ([nums c.1, nums c.2.1, nums c.2.2], 0) := tr_row _ (by simp) (fun f hf => by
    have n1 := nums_len c.1
    have n2 := nums_len c.2.1
    have n3 := nums_len c.2.2
    simp only [List.mem_cons, List.not_mem_nil, or_false] at hf
    rcases hf with rfl | rfl | rfl <;> omega)
  unfold dc
  rw [e]
  simp only [if_true, d3]
  rw [dn_back _ h1, dn_back _ h2, dn_back _ h3]
theorem enc_len (c : List UInt64 × List UInt64 × List UInt64) : (enc c).length ≤ 20 * (c.1.length + c.2.1.length + c.2.2.length) + 70 := by
  have n1 := nums_len c.1
  have n2 := nums_len c.2.1
  have n3 := nums_len c.2.2
  have v0 : (vi 3).length ≤ 10 := viF_length 9 _
  have v1 : (vi (nums c.1).length).length ≤ 10 := viF_length 9 _
  have v2 : (vi (nums c.2.1).length).length ≤ 10 := viF_length 9 _
  have v3 : (vi (nums c.2.2).length).length ≤ 10 := viF_length 9 _
  simp only [enc, row, rowB, List.length_append, List.length_cons, List.length_nil, Nat.zero_add, Nat.reduceAdd]
  omega
end Go.Proofs.Ytgienommkifbnaa.M

/- What 'Same' of two lists of numbers answers: whether they read as the same numbers. -/
namespace Go.Proofs.Ytgienommkifbnaa
open Go.RowKit
set_option linter.unusedVariables false

set_option maxHeartbeats 400000 in
theorem sameU_core (a b : Addr) (n ca cb : Nat) (f g : Nat → UInt64) (w : World) (hl : n ≤ maxLen)
    (ha : ∀ i, i < n → w.cell? (a.add i) = some (.int .u64 ((f i).toNat : Int))) (hb : ∀ i, i < n → w.cell? (b.add i) = some (.int .u64 ((g i).toNat : Int))) :
    Calls Try.prog 25 #[.slice (some a) n ca, .slice (some b) n cb] w fun e w' => (∃ r, e = .returned (.bool r) ∧ (r = true ↔ ∀ i, i < n → f i = g i)) ∧ ∃ k, w' = w.drewN k := by
  unfold maxLen at hl
  go_enter Try.func25, Try.ntmps25
  go_wp2
  go_loopw [5] (fun i wr => ∃ k : Nat, k ≤ n ∧ i = .int .i64 k ∧ (∀ j, j < k → f j = g j) ∧ ∃ m, wr = w.drewN m) (fun i _ => n - (intOf i).toNat)
  case atStart => exact ⟨0, Nat.zero_le _, rfl, fun j hj => by omega, 0, rfl⟩
  case round =>
    obtain ⟨k, hk, rfl, hs, m, rfl⟩ := hrel
    by_cases hlt : k < n
    · have h1 := ha k hlt
      have h2 := hb k hlt
      clear ha hb
      go_wp2
      go_region
      all_goals go_wp2
      · go_ret
        refine ⟨⟨false, rfl, ?_⟩, _, rfl⟩
        simp only [Bool.false_eq_true, false_iff]
        intro hh
        have := hh k hlt
        simp_all
      · rename_i hne
        have he : f k = g k := by
          have : ((f k).toNat : Int) = ((g k).toNat : Int) := by simpa using hne
          exact UInt64.toNat_inj.1 (by omega)
        refine ⟨⟨k + 1, by omega, by go_num, fun j hj => ?_, _, rfl⟩, by simp [intOf]; omega⟩
        by_cases hj' : j < k
        · exact hs j hj'
        · obtain rfl : j = k := by omega
          exact he
    · go_wp2
      go_ret
      exact ⟨⟨true, rfl, by simp; intro i hi; exact hs i (by omega)⟩, _, rfl⟩

/-- 'Same' of two lists of numbers: whether they are the same numbers; memory stands. -/
theorem sameU_any {va vb : Value} {la lb : List UInt64} {w : World} (ha : Ru w va la) (hb : Ru w vb lb) :
    Calls Try.prog 25 #[va, vb] w fun e w' => e = .returned (.bool (decide (la = lb))) ∧ ∃ n, w' = w.drewN n := by
  by_cases hn : la.length = lb.length
  · rcases ha.two with ⟨rfl, rfl⟩ | ⟨a, ca, rfl, h1, h2, h3⟩
    · obtain rfl : lb = [] := List.length_eq_zero_iff.1 (by simpa using hn.symm)
      obtain ⟨b, cb, rfl⟩ : ∃ b cb, vb = .slice b 0 cb := by
        rcases hb.two with ⟨rfl, _⟩ | ⟨b, cb, rfl, _⟩
        · exact ⟨_, _, rfl⟩
        · exact ⟨_, _, rfl⟩
      clear hb hn
      go_enter Try.func25, Try.ntmps25
      go_wp2
      refine wp_loop_rounds 1 ?_
      rw [rounds_succ]
      go_wp2
      go_ret
      exact ⟨by simp, 0, rfl⟩
    · rcases hb.two with ⟨rfl, rfl⟩ | ⟨b, cb, rfl, k1, k2, k3⟩
      · obtain rfl : la = [] := List.length_eq_zero_iff.1 (by simpa using hn)
        clear h1 h2 h3 hn
        go_enter Try.func25, Try.ntmps25
        go_wp2
        refine wp_loop_rounds 1 ?_
        rw [rounds_succ]
        go_wp2
        go_ret
        exact ⟨by simp, 0, rfl⟩
      · rw [← hn]
        refine (sameU_core a b la.length ca cb (fun i => la.getD i 0) (fun i => lb.getD i 0) w (by omega) (fun i hi => ?_) (fun i hi => ?_)).mono ?_
        · rw [h3 i hi]; simp [hi]
        · rw [k3 i (by omega)]; simp [show i < lb.length by omega]
        · rintro e w' ⟨⟨r, rfl, hr⟩, hw⟩
          refine ⟨?_, hw⟩
          have : r = decide (la = lb) := by
            rw [Bool.eq_iff_iff, hr, decide_eq_true_iff]
            constructor
            · intro h
              refine List.ext_getElem hn fun i hi hi' => ?_
              have := h i hi
              simpa [hi, hi'] using this
            · rintro rfl i _; rfl
          rw [this]
  · have hd : decide (la = lb) = false := by
      simp only [decide_eq_false_iff_not]; rintro rfl; exact hn rfl
    rw [hd]
    obtain ⟨a, ca, rfl⟩ : ∃ a ca, va = .slice a la.length ca := by
      rcases ha.two with ⟨rfl, rfl⟩ | ⟨a, ca, rfl, _⟩
      · exact ⟨_, _, rfl⟩
      · exact ⟨_, _, rfl⟩
    obtain ⟨b, cb, rfl⟩ : ∃ a ca, vb = .slice a lb.length ca := by
      rcases hb.two with ⟨rfl, rfl⟩ | ⟨a, ca, rfl, _⟩
      · exact ⟨_, _, rfl⟩
      · exact ⟨_, _, rfl⟩
    clear ha hb hd
    have hne : (((la.length : Nat) : Int) != ((lb.length : Nat) : Int)) = true := by simp; omega
    clear hn
    go_enter Try.func25, Try.ntmps25
    go_wp2
    go_ret
    exact ⟨rfl, 0, rfl⟩
end Go.Proofs.Ytgienommkifbnaa

/- The library's math/bits.Len at this program: a contract of the shelf, laid by its commands in plain words. -/
namespace Go.Proofs.Ytgienommkifbnaa
open Go.RowKit Go.Shelf

def Try.lays125_ren : Go.Shelf.Ren := ⟨fun | 125 => 78 | 128 => 96 | 129 => 97 | n => n, fun | 46 => 102 | 3 => 3 | 51 => 121 | 53 => 35 | 4 => 4 | 5 => 5 | 9 => 9 | n => n, fun | n => n⟩
theorem Try.lays125 : Go.Proofs.Lays.n125 Try.prog Try.lays125_ren := {
  mixed := by kernel_rfl
  f125 := Try.func78.trans (congrArg some (by kernel_rfl))
  f128 := Try.func96.trans (congrArg some (by kernel_rfl))
  f129 := Try.func97.trans (congrArg some (by kernel_rfl))
  t3 := Try.underlying3
  a3 := Try.isAgg3
  z3 := Try.sizeOf3
  v3 := Try.zeroValue3
  t4 := Try.underlying4
  a4 := Try.isAgg4
  z4 := Try.sizeOf4
  v4 := Try.zeroValue4
  t5 := Try.underlying5
  a5 := Try.isAgg5
  z5 := Try.sizeOf5
  v5 := Try.zeroValue5
  t9 := Try.underlying9
  a9 := Try.isAgg9
  z9 := Try.sizeOf9
  v9 := Try.zeroValue9
  t46 := Try.underlying102
  a46 := Try.isAgg102
  z46 := Try.sizeOf102
  v46 := Try.zeroValue102
  t51 := Try.underlying121
  a51 := Try.isAgg121
  z51 := Try.sizeOf121
  v51 := Try.zeroValue121
  t53 := Try.underlying35
  a53 := Try.isAgg35
  z53 := Try.sizeOf35
  v53 := Try.zeroValue35 }

theorem Try.bits_Len (x : Int) (w : World) (h0 : 0 ≤ x) (h1 : x ≤ 18446744073709551615) :
    Calls Try.prog 78 #[.int .u64 x] w fun e w' => e = .returned (.int .i64 (Lib.bitLen x.toNat)) ∧ w' = w := Any.bits_Len Try.lays125 x w h0 h1
end Go.Proofs.Ytgienommkifbnaa

/- What the bound on an input's bulk gives: a bound on lengths. -/
namespace Go.Proofs.Ytgienommkifbnaa
open Go.ChangeShapes Go.WideShapes Go.ChangeAt Go.RowKit

theorem bulk_pos {H : Type} (d : DataW H) : 1 ≤ Rows.uptoBulk d := by
  cases d with
  | lit x => cases x <;> simp [Rows.uptoBulk]
  | nil => simp [Rows.uptoBulk]
  | ptr d => simp [Rows.uptoBulk]
  | slice a b => simp [Rows.uptoBulk]
  | agg a => simp [Rows.uptoBulk]
  | iface t d => simp [Rows.uptoBulk]
  | map a => simp [Rows.uptoBulk]
  | held h => simp [Rows.uptoBulk]
theorem bulk_ge {H : Type} (ds : List (DataW H)) : ds.length ≤ Rows.uptoBulkAll ds := by
  induction ds with
  | nil => simp [Rows.uptoBulkAll]
  | cons d ds ih =>
    have := bulk_pos d
    simp only [Rows.uptoBulkAll, List.length_cons]
    omega
end Go.Proofs.Ytgienommkifbnaa

/- What varintSize, readVarint and readPart answer of any bytes. -/
namespace Go.Proofs.Ytgienommkifbnaa
open Go.RowKit
set_option linter.unusedVariables false
set_option maxRecDepth 100000

/-- How many bytes a number takes, and the error. -/
def vsz (l : List UInt8) : Nat × Nat :=
  if M.cont 10 l = 10 then (0, 12) else if l.length ≤ M.cont 10 l then (0, 10) else (M.cont 10 l + 1, 0)

set_option maxHeartbeats 400000 in
theorem vsize_any {v : Value} {l : List UInt8} {w : World} (hr : Rd w v l) :
    Calls Try.prog 85 #[v] w fun e w' => e = .returned (.tuple #[.int .i64 (vsz l).1, .int .i64 (vsz l).2]) ∧ ∃ k, w' = w.drewN k := by
  obtain ⟨ao, c, rfl, h1, h2, h3, h4⟩ := hr
  unfold maxLen at h2
  go_enter Try.func85, Try.ntmps85
  go_wp2
  all_goals
    go_loopw [4, 8] (fun _ i wr => ∃ k : Nat, k ≤ l.length ∧ k ≤ 10 ∧ i = .int .i64 k ∧ (∀ j, (h : j < l.length) → j < k → 128 ≤ l[j].toNat) ∧ wr = w) (fun _ i _ => 10 - (intOf i).toNat)
    case atStart => exact ⟨0, Nat.zero_le _, Nat.zero_le _, rfl, fun j _ hj => by omega, rfl⟩
    case round =>
      obtain ⟨k, hk, hk10, rfl, hs, rfl⟩ := hrel
      by_cases hlt : k < l.length ∧ k < 10
      · obtain ⟨hlt, hlt10⟩ := hlt
        obtain ⟨a, rfl, hc⟩ := h4 k hlt
        have HS : Hid _ := hs
        clear hs h4
        by_cases hx : l[k].toNat < 128
        · go_wp2
          go_ret2
          have e : M.cont 10 l = k := M.cont_eq 10 k l hk10 hk (fun j hj => HS.out j (by omega) hj) (.inr (.inr ⟨hlt, hx⟩))
          have e2 : vsz l = (k + 1, 0) := by unfold vsz; rw [e, if_neg (by omega), if_neg (by omega)]
          rw [e2]
          exact ⟨by simp, 0, rfl⟩
        · go_wp2
          refine ⟨⟨k + 1, by omega, by omega, by go_num, fun j h hj => ?_, trivial⟩, by simp [intOf]; omega⟩
          by_cases hj' : j < k
          · exact HS.out j h hj'
          · obtain rfl : j = k := by omega
            omega
      · have HS : Hid _ := hs
        clear hs h4
        have e : M.cont 10 l = k := M.cont_eq 10 k l hk10 hk (fun j hj => HS.out j (by omega) hj) (by omega)
        have HE : Hid _ := e
        clear e
        have hlt1 : l.length ≤ k ∨ 10 ≤ k := by omega
        clear hlt
        go_wp2
        all_goals
          go_ret2
          refine ⟨?_, 0, rfl⟩
          have e2 := HE.out
          unfold vsz
          rw [e2]
          first | rw [if_neg (by omega), if_pos (by omega)] | rw [if_pos (by omega)]
          try rfl

set_option maxHeartbeats 400000 in
theorem part_any2 {v : Value} {l : List UInt8} {n : Nat} {w : World} (hr : Rd w v l) (hn : n < 18446744073709551616) :
    Calls Try.prog 86 #[v, .int .u64 n] w fun e w' => ∃ v1 v2, e = .returned (.tuple #[v1, v2, .int .i64 (M.part l n).2.2]) ∧ (∀ w0, Rd w0 v l → Rd w0 v1 (M.part l n).1 ∧ Rd w0 v2 (M.part l n).2.1) ∧ ∃ k, w' = w.drewN k := by
  obtain ⟨ao, c, rfl, h1, h2, h3, h4⟩ := hr
  unfold maxLen at h2
  by_cases hlt : l.length < n
  · go_enter Try.func86, Try.ntmps86
    go_wp2
    go_ret3
    have e : M.part l n = ([], [], 10) := by unfold M.part; rw [if_pos hlt]
    rw [e]
    exact ⟨_, _, rfl, fun _ _ => ⟨Rd.nil _, Rd.nil _⟩, 0, rfl⟩
  · have e : M.part l n = (l.take n, l.drop n, 0) := by unfold M.part; rw [if_neg hlt]
    rw [e]
    clear e
    by_cases hcn : c = n
    · subst hcn
      have hp := fun (w0 : World) (hr' : Rd w0 (.slice ao l.length c) l) => hr'.post c (by omega) ao ⟨fun _ => rfl, fun h => absurd rfl h⟩
      rw [Nat.sub_self, show l.length - c = 0 by omega] at hp
      go_enter Try.func86, Try.ntmps86
      go_wp2
      go_region
      all_goals go_wp2
      all_goals go_ret3
      all_goals exact ⟨_, _, rfl, fun w0 hr' => ⟨hr'.pre c (by omega), hp w0 hr'⟩, _, rfl⟩
    · go_enter Try.func86, Try.ntmps86
      go_wp2
      go_region
      all_goals go_wp2
      all_goals go_ret3
      all_goals exact ⟨_, _, rfl, fun w0 hr' => ⟨hr'.pre n (by omega), hr'.post n (by omega) _ ⟨fun h => absurd h hcn, fun _ => rfl⟩⟩, _, rfl⟩
theorem part_any {v : Value} {l : List UInt8} {n : Nat} {w : World} (hr : Rd w v l) (hn : n < 18446744073709551616) :
    Calls Try.prog 86 #[v, .int .u64 n] w fun e w' => ∃ v1 v2, e = .returned (.tuple #[v1, v2, .int .i64 (M.part l n).2.2]) ∧ Rd w v1 (M.part l n).1 ∧ Rd w v2 (M.part l n).2.1 ∧ ∃ k, w' = w.drewN k :=
  (part_any2 hr hn).mono fun e w' ⟨v1, v2, h1, h2, h3⟩ => ⟨v1, v2, h1, (h2 w hr).1, (h2 w hr).2, h3⟩

theorem vsz_cases (l : List UInt8) : (∃ e, (e = 12 ∨ e = 10) ∧ vsz l = (0, e) ∧ M.tv l = (0, [], e)) ∨ ∃ s, s < 10 ∧ s < l.length ∧ vsz l = (s + 1, 0) ∧
    M.tv l = if 0 < s ∧ (l.getD s 0).toNat = 0 ∨ s = 9 ∧ 1 < (l.getD s 0).toNat then (0, [], 12) else (M.val (l.take (s + 1)), l.drop (s + 1), 0) := by
  have hle := M.cont_le 10 l
  by_cases h1 : M.cont 10 l = 10
  · refine .inl ⟨12, .inl rfl, ?_, ?_⟩
    · unfold vsz; rw [if_pos h1]
    · unfold M.tv; simp only []; rw [if_pos h1]
  · by_cases h2 : l.length ≤ M.cont 10 l
    · refine .inl ⟨10, .inr rfl, ?_, ?_⟩
      · unfold vsz; rw [if_neg h1, if_pos h2]
      · unfold M.tv; simp only []; rw [if_neg h1, if_pos h2]
    · refine .inr ⟨M.cont 10 l, by omega, by omega, ?_, ?_⟩
      · unfold vsz; rw [if_neg h1, if_neg h2]
      · unfold M.tv; simp only []; rw [if_neg h1, if_neg h2]

theorem vstep (l : List UInt8) (s k : Nat) (hk : k ≤ s) (hs : s < 10) (hl : k < l.length) (h9 : k = 9 → l[k].toNat ≤ 1) :
    bits BinOp.or IntKind.u64 (M.val (l.take k) : Int) (IntKind.u64.wrap (IntKind.u64.wrap (bits BinOp.andNot IntKind.u8 (l[k].toNat : Int) 128) * 2 ^ (7 * k))) = (M.val (l.take (k + 1)) : Int) := by
  have hx := l[k].toNat_lt
  have hpow : ∀ j, 128 ^ j = 2 ^ (7 * j) := fun j => by rw [Nat.pow_mul]
  rw [show (128 : Int) = ((128 : Nat) : Int) from rfl, u8_andNot_nat _ _ hx (by decide), show 255 - 128 = 127 from rfl, nat_mask7]
  rw [IntWalk.u64_in ((l[k].toNat % 128 : Nat) : Int) (by omega)]
  have hle : l[k].toNat % 128 * 2 ^ (7 * k) ≤ 9223372036854775808 + 9223372036854775807 := by
    by_cases hk9 : k = 9
    · have := h9 hk9
      subst hk9
      have h63 : (2 : Nat) ^ (7 * 9) = 9223372036854775808 := by decide
      rw [h63]; omega
    · have h56 : (2 : Nat) ^ (7 * k) ≤ 72057594037927936 := by
        have := Nat.pow_le_pow_right (n := 2) (by decide) (show 7 * k ≤ 56 by omega)
        simpa using this
      have := Nat.mul_le_mul (show l[k].toNat % 128 ≤ 127 by omega) h56
      omega
  have e1 : (((l[k].toNat % 128 : Nat) : Int) * 2 ^ (7 * k)) = ((l[k].toNat % 128 * 2 ^ (7 * k) : Nat) : Int) := by
    rw [Int.natCast_mul, Int.natCast_pow]; rfl
  rw [e1, IntWalk.u64_in ((l[k].toNat % 128 * 2 ^ (7 * k) : Nat) : Int) (by omega)]
  have hv := M.val_lt (l.take k)
  rw [List.length_take, Nat.min_eq_left (by omega), hpow] at hv
  have h63 : (2 : Nat) ^ (7 * k) ≤ 9223372036854775808 := by
    have := Nat.pow_le_pow_right (n := 2) (by decide) (show 7 * k ≤ 63 by omega)
    simpa using this
  rw [u64_or_nat _ _ (by omega) (by omega), Nat.or_comm, nat_join (7 * k) _ _ (Nat.mul_mod_left _ _) hv, take_snoc l k hl, M.val_append, List.length_take, Nat.min_eq_left (by omega), hpow]
  simp only [M.val, Nat.mul_zero, Nat.add_zero]
  rw [Nat.mul_comm (2 ^ (7 * k)), Nat.add_comm]

set_option maxHeartbeats 800000 in
theorem rvar_bad {l : List UInt8} {s c : Nat} {a : Addr} {w : World} (hl : l.length ≤ 9223372036854775807) (hvs : Calls Try.prog 85 #[.slice (some a) l.length c] w fun e w' => e = .returned (.tuple #[.int .i64 ((s + 1 : Nat) : Int), .int .i64 0]) ∧ ∃ k, w' = w.drewN k)
    (hs10 : s < 10) (hsl : s < l.length) (hc : w.cell? (a.add s) = some (.int .u8 (l[s].toNat : Int))) (hbad : 0 < s ∧ l[s].toNat = 0 ∨ s = 9 ∧ 1 < l[s].toNat) :
    Calls Try.prog 72 #[.slice (some a) l.length c] w fun e w' => ∃ v2, e = .returned (.tuple #[.int .u64 0, v2, .int .i64 12]) ∧ (∀ w0 : World, Rd w0 (.slice (some a) l.length c) l → Rd w0 v2 []) ∧ ∃ k, w' = w.drewN k := by
  have hx := l[s].toNat_lt
  go_enter Try.func72, Try.ntmps72
  go_wp2_with (go_at_call 85; refine hvs.mono ?_; rintro e w' ⟨rfl, kk, rfl⟩)
  all_goals go_ret3
  all_goals exact ⟨_, rfl, fun _ _ => Rd.nil _, _, rfl⟩

set_option maxHeartbeats 1000000 in
theorem rvar_good {l : List UInt8} {s c : Nat} {a : Addr} {w : World} (hr : Rd w (.slice (some a) l.length c) l) (hlc : l.length ≤ c) (hcm : c ≤ 9223372036854775807) (hvs : Calls Try.prog 85 #[.slice (some a) l.length c] w fun e w' => e = .returned (.tuple #[.int .i64 ((s + 1 : Nat) : Int), .int .i64 0]) ∧ ∃ k, w' = w.drewN k)
    (hs10 : s < 10) (hsl : s < l.length) (h4 : ∀ i, (h : i < l.length) → w.cell? (a.add i) = some (.int .u8 (l[i].toNat : Int))) (hok : ¬ (0 < s ∧ l[s].toNat = 0 ∨ s = 9 ∧ 1 < l[s].toNat)) :
    Calls Try.prog 72 #[.slice (some a) l.length c] w fun e w' => ∃ v2, e = .returned (.tuple #[.int .u64 (M.val (l.take (s + 1))), v2, .int .i64 0]) ∧ (∀ w0, Rd w0 (.slice (some a) l.length c) l → Rd w0 v2 (l.drop (s + 1))) ∧ ∃ k, w' = w.drewN k := by
  have hx := l[s].toNat_lt
  have hc := h4 s hsl
  have hst : ∀ k, (h : k < l.length) → k ≤ s → bits BinOp.or IntKind.u64 (M.val (l.take k) : Int) (IntKind.u64.wrap (IntKind.u64.wrap (bits BinOp.andNot IntKind.u8 (l[k].toNat : Int) 128) * 2 ^ (7 * k))) = (M.val (l.take (k + 1)) : Int) :=
    fun k h hk => vstep l s k hk hs10 h (fun h9 => by
      have e : s = k := by omega
      subst e
      omega)
  have HST : Hid _ := hst
  clear hst
  have hp := fun (w0 : World) (hr0 : Rd w0 (.slice (some a) l.length c) l) => hr0.post (s + 1) (by omega) (if c = s + 1 then some a else some (a.add (s + 1))) ⟨fun h => by rw [if_pos h], fun h => by rw [if_neg h]; rfl⟩
  have HP : Hid _ := hp
  clear hp
  go_enter Try.func72, Try.ntmps72
  go_wp2_with (go_at_call 85; refine hvs.mono ?_; rintro e w' ⟨rfl, kk, rfl⟩)
  all_goals
    clear hvs
    go_loopw [8, 9, 10, 42] (fun m _ _ i wr => ∃ k : Nat, k ≤ s + 1 ∧ i = .int .i64 k ∧ m = .int .u64 (M.val (l.take k)) ∧ wr = w.drewN kk) (fun _ _ _ i _ => s + 1 - (intOf i).toNat)
    case atStart => exact ⟨0, Nat.zero_le _, rfl, rfl, rfl⟩
    case round =>
      obtain ⟨k, hk, rfl, rfl, rfl⟩ := hrel
      by_cases hlt : k < s + 1
      · have hck := h4 k (by omega)
        have hxk := (l[k]'(by omega)).toNat_lt
        go_wp2
        exact ⟨⟨k + 1, by omega, by go_num, congrArg _ (HST.out k (by omega) (by omega)), trivial⟩, by simp [intOf]; omega⟩
      · obtain rfl : k = s + 1 := by omega
        have hp := HP.out
        by_cases hcn : c = s + 1
        · rw [if_pos hcn] at hp
          have HP2 : Hid _ := hp
          clear hp
          go_wp2
          go_region
          all_goals go_wp2
          all_goals go_ret3
          all_goals exact ⟨_, rfl, fun w0 h0 => Rd.cong (HP2.out w0 h0) rfl (by omega) (by omega), kk + 1, rfl⟩
        · rw [if_neg hcn] at hp
          have HP2 : Hid _ := hp
          clear hp
          go_wp2
          go_region
          all_goals go_wp2
          all_goals go_ret3
          all_goals exact ⟨_, rfl, fun w0 h0 => Rd.cong (HP2.out w0 h0) (by simp [Addr.add]; try omega) (by omega) (by omega), kk + 1, rfl⟩

/-- What is answered is a piece of what came in: it reads so in whatever world that reads so. -/
theorem rvar_any2 {v : Value} {l : List UInt8} {w : World} (hr : Rd w v l) :
    Calls Try.prog 72 #[v] w fun e w' => ∃ v2, e = .returned (.tuple #[.int .u64 (M.tv l).1, v2, .int .i64 (M.tv l).2.2]) ∧ (∀ w0, Rd w0 v l → Rd w0 v2 (M.tv l).2.1) ∧ ∃ k, w' = w.drewN k := by
  have hvs := vsize_any hr
  rcases vsz_cases l with ⟨er, her, h1, h2⟩ | ⟨s, hs10, hsl, h1, h2⟩
  · rw [h1] at hvs
    rw [h2]
    clear h1 h2
    go_enter Try.func72, Try.ntmps72
    have hne : (((er : Nat) : Int) != 0) = true := by rcases her with rfl | rfl <;> rfl
    go_wp2_with (go_at_call 85; refine hvs.mono ?_; rintro e w' ⟨rfl, kk, rfl⟩)
    go_ret3
    exact ⟨_, rfl, fun _ _ => Rd.nil _, _, rfl⟩
  · rw [h1] at hvs
    rw [h2]
    clear h1 h2
    have eg : l.getD s 0 = l[s] := by simp [hsl]
    rw [eg]
    clear eg
    rcases hr.two with ⟨rfl, rfl⟩ | ⟨a, c, rfl, h1, h2, h4⟩
    · simp at hsl
    · unfold maxLen at h2
      by_cases hbad : 0 < s ∧ l[s].toNat = 0 ∨ s = 9 ∧ 1 < l[s].toNat
      · rw [if_pos hbad]
        exact rvar_bad (by omega) hvs hs10 hsl (h4 s hsl) hbad
      · rw [if_neg hbad]
        exact rvar_good hr h1 (by omega) hvs hs10 hsl h4 hbad
theorem rvar_any {v : Value} {l : List UInt8} {w : World} (hr : Rd w v l) :
    Calls Try.prog 72 #[v] w fun e w' => ∃ v2, e = .returned (.tuple #[.int .u64 (M.tv l).1, v2, .int .i64 (M.tv l).2.2]) ∧ Rd w v2 (M.tv l).2.1 ∧ ∃ k, w' = w.drewN k :=
  (rvar_any2 hr).mono fun e w' ⟨v2, h1, h2, h3⟩ => ⟨v2, h1, h2 w hr, h3⟩
end Go.Proofs.Ytgienommkifbnaa
