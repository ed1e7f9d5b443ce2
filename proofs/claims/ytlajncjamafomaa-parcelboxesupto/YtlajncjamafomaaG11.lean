/- What the document's own Varint makes. -/
import Derived.Test.YtlajncjamafomaaG9
import Derived.Lib.SliceRun
import Derived.Test.YtlajncjamafomaaG3
namespace Go.Proofs.Ytlajncjamafomaa
open Go.RowKit
set_option linter.unusedVariables false

set_option maxRecDepth 100000 in
theorem rvarint_any (n : Nat) (w : World) (hn : n < 18446744073709551616) :
    Calls Try.prog 33 #[.int .u64 n] w fun e w' => ∃ v, e = .returned v ∧ Ow w.heap.size w' v (M.vi n) ∧ Below w.heap.size w w' := by
  go_enter Try.func33, Try.ntmps33
  go_wp2
  go_loopw [0, 3] (fun m out wr => ∃ (k q : Nat), k ≤ 9 ∧ m = .int .u64 q ∧ q < M.qb k ∧ Below w.heap.size w wr ∧ ∃ done, done.length + k = 9 ∧ Ow w.heap.size wr out done ∧ done ++ M.viF k q = M.vi n) (fun m _ _ => (intOf m).toNat)
  case atStart => exact ⟨9, n, Nat.le_refl _, rfl, by simpa [M.qb] using hn, Below.refl _ _, [], rfl, Ow.nil _ _, rfl⟩
  case round =>
    obtain ⟨k, q, hk, rfl, hq, hb, done, hdl, ho, hd⟩ := hrel
    have HD : Hid _ := hd
    have HQ : Hid _ := hq
    have HL : Hid _ := hdl
    clear hd hq hdl
    have hq : q < 18446744073709551616 := by
      exact Nat.lt_of_lt_of_le HQ.out (M.qb_le k)
    by_cases hlt : q < 128
    · go_wp2_with (first | (at_builtin; refine wpList_app rfl _ _ rfl w.heap.size _ done rfl (ho.alloc _) _ [UInt8.ofNat q] rfl (rd_one _ _ _ ?hz _) ?hB ?hlen ?_; rotate_right; intro v' w' ho' hb' hg') | fail)
      case hz => rw [M.u8_ofNat]; omega
      case hB => have := hb.size; simp; omega
      case hlen => have := HL.out; simp; omega
      go_ret
      refine ⟨_, rfl, ?_, hb.trans (((Below.refl _ _).alloc hb.size _).trans hb')⟩
      have e : M.viF k q = [UInt8.ofNat q] := by
        cases k with
        | zero => rfl
        | succ k => simp only [M.viF]; rw [if_pos hlt]
      rw [← HD.out, e]; exact ho'
    · have hlt' : 128 ≤ q := by omega
      have HV : Hid (1 ≤ k ∧ q / 128 < M.qb (k - 1) ∧ M.viF k q = UInt8.ofNat (q % 128 + 128) :: M.viF (k - 1) (q / 128)) := by
        cases k with
        | zero => have := HQ.out; rw [M.qb_zero] at this; omega
        | succ k =>
          refine ⟨by omega, ?_, ?_⟩
          · have := HQ.out; rw [M.qb_succ k hk] at this; simp only [Nat.add_sub_cancel]; omega
          · rw [M.viF, if_neg hlt]; rfl
      go_wp2_with (first | (at_builtin; refine wpList_app rfl _ _ rfl w.heap.size _ done rfl (ho.alloc _) _ [UInt8.ofNat (q % 128 + 128)] rfl (rd_one _ _ _ ?hz _) ?hB ?hlen ?_; rotate_right; intro v' w' ho' hb' hg') | fail)
      case hz => rw [M.u8_ofNat]; omega
      case hB => have := hb.size; simp; omega
      case hlen => have := HL.out; simp; omega
      refine ⟨⟨k - 1, q / 128, by omega, by go_num, ?_, hb.trans (((Below.refl _ _).alloc hb.size _).trans hb'), done ++ [UInt8.ofNat (q % 128 + 128)], ?_, ho', ?_⟩, by simp [intOf]; omega⟩
      · exact (HV.out).2.1
      · have := HL.out; have := (HV.out).1; simp; omega
      · rw [← HD.out, (HV.out).2.2]; simp

end Go.Proofs.Ytlajncjamafomaa

/- What bytes.Clone answers of any bytes. -/
namespace Go.Proofs.Ytlajncjamafomaa
open Go.RowKit
set_option linter.unusedVariables false
set_option maxRecDepth 100000

theorem take_snoc (l : List UInt8) (k : Nat) (h : k < l.length) : l.take (k + 1) = l.take k ++ [l[k]] := by
  rw [List.take_succ_eq_append_getElem h]
theorem clone_any {v : Value} {l : List UInt8} {w : World} (hr : Rd w v l) (hl : l.length ≤ 140737488355328) :
    Calls Try.prog 50 #[v] w fun e w' => ∃ v', e = .returned v' ∧ Ow w.heap.size w' v' l ∧ Below w.heap.size w w' := by
  have q : ∀ (w : World) (a : Option Addr) (n c n' c' : Nat), (binOp .eql 22 (.slice a n c) (.slice none n' c')).run Try.prog w = .ok (.bool a.isNone) w := fun w a n c n' c' => Lib.run_eql_slice_nil w _ _ a n c n' c' Try.underlying22
  rcases hr.two with ⟨rfl, rfl⟩ | ⟨a, c, hv, h1, h2, h3⟩
  · go_enter Try.func50, Try.ntmps50
    go_wp2
    go_ret
    exact ⟨_, rfl, Ow.nil _ _, Below.refl _ _⟩
  · subst hv
    go_enter Try.func50, Try.ntmps50
    go_wp2_with (first | (at_builtin; refine wpList_app rfl _ _ rfl w.heap.size _ [] rfl (Ow.lit0 _ _ (Nat.le_refl _)) _ l rfl (hr.alloc _) (by simp) (by simpa using hl) ?_; intro v' w' ho' hb' hg') | fail)
    go_ret
    exact ⟨_, rfl, ho', ((Below.refl _ _).alloc (Nat.le_refl _) _).trans hb'⟩
end Go.Proofs.Ytlajncjamafomaa

/- What the law's own Copy answers. -/
namespace Go.Proofs.Ytlajncjamafomaa
open Go.RowKit
set_option linter.unusedVariables false
set_option maxRecDepth 100000

theorem lcopy_any {v : Value} {l : List UInt8} {w : World} (hr : Rd w v l) (hl : l.length ≤ 140737488355328) :
    Calls Try.prog 28 #[v] w fun e w' => ∃ v', e = .returned v' ∧ Ow w.heap.size w' v' l ∧ Below w.heap.size w w' := by
  go_enter Try.func28, Try.ntmps28
  go_wp2_with (first | (at_builtin; refine wpList_app rfl _ _ rfl w.heap.size _ [] rfl (Ow.nil _ _) _ l rfl hr (Nat.le_refl _) (by simpa using hl) ?_; intro v' w' ho' hb' hg') | fail)
  go_ret
  exact ⟨_, rfl, ho', hb'⟩
end Go.Proofs.Ytlajncjamafomaa

/- What the document's own Copy answers. -/
namespace Go.Proofs.Ytlajncjamafomaa
open Go.RowKit
set_option linter.unusedVariables false
set_option maxRecDepth 100000

theorem copy_any {v : Value} {l : List UInt8} {w : World} (hr : Rd w v l) (hl : l.length ≤ 140737488355328) :
    Calls Try.prog 58 #[v] w fun e w' => ∃ v', e = .returned v' ∧ Ow w.heap.size w' v' l ∧ Below w.heap.size w w' := by
  go_enter Try.func58, Try.ntmps58
  go_wp2_with (first | (at_builtin; refine wpList_app rfl _ _ rfl w.heap.size _ [] rfl (Ow.nil _ _) _ l rfl hr (Nat.le_refl _) (by simpa using hl) ?_; intro v' w' ho' hb' hg') | fail)
  go_ret
  exact ⟨_, rfl, ho', hb'⟩

end Go.Proofs.Ytlajncjamafomaa

/- What number, Sum, bytes.Clone and the document's Copy answer of any bytes. -/
namespace Go.Proofs.Ytlajncjamafomaa
open Go.RowKit
set_option linter.unusedVariables false
set_option maxRecDepth 100000

set_option maxHeartbeats 400000 in
theorem number_any {v : Value} {l : List UInt8} {w : World} (hr : Rd w v l) (hl : l.length ≤ 8) :
    Calls Try.prog 48 #[v] w fun e w' => e = .returned (.int .u64 (M.num l)) ∧ ∃ k, w' = w.drewN k := by
  obtain ⟨ao, c, rfl, h1, h2, h3, h4⟩ := hr
  have hb : ∀ k, k ≤ l.length → M.num (l.take k) < 256 ^ k := fun k hk => by
    have := M.num_lt (l.take k)
    rw [List.length_take, Nat.min_eq_left hk] at this
    exact this
  unfold maxLen at h2
  go_enter Try.func48, Try.ntmps48
  go_wp2
  go_loopw [3, 8] (fun m i wr => ∃ k : Nat, k ≤ l.length ∧ i = .int .i64 k ∧ m = .int .u64 (M.num (l.take k)) ∧ wr = w) (fun _ i _ => l.length - (intOf i).toNat)
  case atStart => exact ⟨0, Nat.zero_le _, rfl, rfl, rfl⟩
  case round =>
    obtain ⟨k, hk, rfl, rfl, rfl⟩ := hrel
    by_cases hlt : k < l.length
    · obtain ⟨a, rfl, hc⟩ := h4 k hlt
      have hbk := hb k hk
      have hbk' : M.num (l.take k) < 72057594037927936 := Nat.lt_of_lt_of_le hbk (by have := Nat.pow_le_pow_right (n := 256) (by decide) (show k ≤ 7 by omega); simpa using this)
      clear hbk hb h4
      have hx := l[k].toNat_lt
      have e : bits BinOp.or IntKind.u64 ((M.num (l.take k) : Int) * 256) (l[k].toNat : Int) = (M.num (l.take (k + 1)) : Int) := by
        rw [show ((M.num (l.take k) : Int) * 256) = ((M.num (l.take k) * 256 : Nat) : Int) by omega, u64_or_nat _ _ (by omega) (by omega), nat_join 8 _ _ (by omega) (by omega), take_snoc l k hlt, M.num_snoc]
      have HE : Hid _ := e
      clear e
      go_wp2
      exact ⟨⟨k + 1, by omega, by go_num, congrArg _ HE.out, trivial⟩, by simp [intOf]; omega⟩
    · go_wp2
      go_ret
      exact ⟨ret_int (by rw [List.take_of_length_le (by omega)]), 0, rfl⟩
theorem sum_round (c : Nat) (h : c < 4294967296) : bits BinOp.xor IntKind.u32 ((c : Int) / 2) (bits BinOp.and IntKind.u32 (c : Int) 1 * 3988292384 % 4294967296) = (M.st c : Int) := by
  rw [show (1 : Int) = ((1 : Nat) : Int) from rfl, u32_and_nat _ _ h (by decide), nat_mask1, show ((c : Int) / 2) = ((c / 2 : Nat) : Int) by omega, show (((c % 2 : Nat) : Int) * 3988292384 % 4294967296) = ((c % 2 * 3988292384 : Nat) : Int) by omega, u32_xor_nat _ _ (by omega) (by omega)]
  rfl
theorem sum_turn (c : Nat) (h : c < 4294967296) : bits BinOp.xor IntKind.u32 IntKind.u32.max (c : Int) = ((4294967295 ^^^ c : Nat) : Int) := by
  rw [show IntKind.u32.max = ((4294967295 : Nat) : Int) from rfl, u32_xor_nat _ _ (by decide) h]
set_option maxHeartbeats 400000 in
theorem sum_any {v : Value} {l : List UInt8} {w : World} (hr : Rd w v l) :
    Calls Try.prog 27 #[v] w fun e w' => e = .returned (.int .u32 (M.crc l)) ∧ ∃ k, w' = w.drewN k := by
  obtain ⟨ao, c, rfl, h1, h2, h3, h4⟩ := hr
  unfold maxLen at h2
  go_enter Try.func27, Try.ntmps27
  go_wp2
  go_loopw [3, 8] (fun m i wr => ∃ k q : Nat, k ≤ l.length ∧ i = .int .i64 k ∧ m = .int .u32 q ∧ q < 4294967296 ∧ q = M.crcF 4294967295 (l.take k) ∧ wr = w) (fun _ i _ => l.length - (intOf i).toNat)
  case atStart => exact ⟨0, 4294967295, Nat.zero_le _, rfl, rfl, by decide, rfl, rfl⟩
  case round =>
    obtain ⟨k, q, hk, rfl, rfl, hq, hqe, rfl⟩ := hrel
    have HQ : Hid _ := hqe
    clear hqe
    by_cases hlt : k < l.length
    · obtain ⟨a, rfl, hc⟩ := h4 k hlt
      have hx := l[k].toNat_lt
      clear h4
      go_wp2
      have e0 : bits BinOp.xor IntKind.u32 (q : Int) (l[k].toNat : Int) = ((q ^^^ l[k].toNat : Nat) : Int) := u32_xor_nat _ _ hq (by omega)
      have hql := M.xor_lt q l[k].toNat hq hx
      have HS : Hid (M.st8 (q ^^^ l[k].toNat) = M.crcF 4294967295 (l.take (k + 1))) := by
        show _ = _
        rw [take_snoc l k hlt, M.crcF_snoc, HQ.out]
      rw [e0]
      clear e0
      go_loopw [3, 16] (fun m i wx => ∃ j p : Nat, j ≤ 8 ∧ i = .int .i64 j ∧ m = .int .u32 p ∧ p < 4294967296 ∧ M.stN (8 - j) p = M.st8 (q ^^^ l[k].toNat) ∧ wx = wr) (fun _ i _ => 8 - (intOf i).toNat)
      case atStart => exact ⟨0, _, Nat.zero_le _, rfl, rfl, hql, rfl, rfl⟩
      case round =>
        obtain ⟨j, p, hj, rfl, rfl, hp, hpe, rfl⟩ := hrel
        have HP : Hid _ := hpe
        clear hpe
        by_cases hlt8 : j < 8
        · have hr1 := sum_round p hp
          have HR : Hid _ := hr1
          clear hr1
          go_wp2
          refine ⟨⟨j + 1, M.st p, by omega, by go_num, congrArg _ HR.out, M.st_lt p hp, ?_, trivial⟩, by simp [intOf]; omega⟩
          have := HP.out
          rw [show 8 - j = 8 - (j + 1) + 1 by omega, M.stN] at this
          exact this
        · go_wp2
          have := HP.out
          rw [show 8 - j = 0 by omega, M.stN] at this
          exact ⟨⟨k + 1, p, by omega, by go_num, rfl, hp, by rw [← HS.out, this], trivial⟩, by simp [intOf]; omega⟩
    · go_wp2
      go_ret
      refine ⟨ret_int ?_, 0, rfl⟩
      rw [sum_turn q hq, HQ.out, List.take_of_length_le (by omega)]; rfl
end Go.Proofs.Ytlajncjamafomaa

/- Plain mathematics of what is read back: numbers, ordered texts, frames and rows, both ways. No program is named here. -/
namespace Go.Proofs.Ytlajncjamafomaa.M
set_option maxRecDepth 100000

/-- The fields of a row, one behind the other. -/
def rowB : List (List UInt8) → List UInt8
  | [] => []
  | f :: r => vi f.length ++ f ++ rowB r
def row (ls : List (List UInt8)) : List UInt8 := vi ls.length ++ rowB ls

theorem rowB_app (a b : List (List UInt8)) : rowB (a ++ b) = rowB a ++ rowB b := by
  induction a with
  | nil => rfl
  | cons f r ih => simp [rowB, ih]
theorem rowB_snoc (ls : List (List UInt8)) (k : Nat) (h : k < ls.length) : rowB (ls.take (k + 1)) = rowB (ls.take k) ++ vi ls[k].length ++ ls[k] := by
  rw [List.take_succ_eq_append_getElem h, rowB_app]
  simp [rowB]
theorem rowB_le (ls : List (List UInt8)) (k : Nat) : (rowB (ls.take k)).length ≤ (rowB ls).length := by
  have : rowB ls = rowB (ls.take k) ++ rowB (ls.drop k) := by rw [← rowB_app, List.take_append_drop]
  rw [this]; simp
theorem rowB_field (ls : List (List UInt8)) (k : Nat) (h : k < ls.length) : (rowB (ls.take k)).length + (vi ls[k].length).length + ls[k].length ≤ (rowB ls).length := by
  have h1 := rowB_le ls (k + 1)
  rw [rowB_snoc ls k h] at h1
  simp only [List.length_append] at h1
  omega

/-- k fields read: the fields, what stands behind, the error. -/
def rf : Nat → List UInt8 → List (List UInt8) × List UInt8 × Nat
  | 0, l => ([], l, 0)
  | k + 1, l =>
    if (tv l).2.2 ≠ 0 then ([], [], (tv l).2.2)
    else if (tv l).2.1.length < (tv l).1 then ([], [], 10)
    else if (rf k ((tv l).2.1.drop (tv l).1)).2.2 ≠ 0 then ([], [], (rf k ((tv l).2.1.drop (tv l).1)).2.2)
    else ((tv l).2.1.take (tv l).1 :: (rf k ((tv l).2.1.drop (tv l).1)).1, (rf k ((tv l).2.1.drop (tv l).1)).2.1, 0)
/-- What a row is read as: its fields, the error. -/
def tr (l : List UInt8) : List (List UInt8) × Nat :=
  if (tv l).2.2 ≠ 0 then ([], (tv l).2.2)
  else if (tv l).2.1.length < (tv l).1 then ([], 12)
  else if (rf (tv l).1 (tv l).2.1).2.2 ≠ 0 then ([], (rf (tv l).1 (tv l).2.1).2.2)
  else if (rf (tv l).1 (tv l).2.1).2.1.length ≠ 0 then ([], 12)
  else ((rf (tv l).1 (tv l).2.1).1, 0)

/-- One field read. -/
def fd (l : List UInt8) : List UInt8 × List UInt8 × Nat := if (tv l).2.2 ≠ 0 then ([], [], (tv l).2.2) else part (tv l).2.1 (tv l).1
/-- k fields read, behind those that were read so far. -/
def rfA : Nat → List (List UInt8) → List UInt8 → List (List UInt8) × List UInt8 × Nat
  | 0, fs, l => (fs, l, 0)
  | k + 1, fs, l => if (fd l).2.2 ≠ 0 then ([], [], (fd l).2.2) else rfA k (fs ++ [(fd l).1]) (fd l).2.1
theorem rfA_rf (k : Nat) (fs : List (List UInt8)) (l : List UInt8) : rfA k fs l = if (rf k l).2.2 ≠ 0 then ([], [], (rf k l).2.2) else (fs ++ (rf k l).1, (rf k l).2.1, 0) := by
  induction k generalizing fs l with
  | zero => simp [rfA, rf]
  | succ k ih =>
    rw [rfA, rf]
    unfold fd part
    by_cases h1 : (tv l).2.2 ≠ 0
    · simp only [if_pos h1]
    · simp only [if_neg h1]
      by_cases h2 : (tv l).2.1.length < (tv l).1
      · simp [if_pos h2]
      · simp only [if_neg h2, ne_eq, not_true_eq_false, if_false]
        rw [ih]
        by_cases h3 : (rf k ((tv l).2.1.drop (tv l).1)).2.2 ≠ 0
        · simp only [if_pos h3]
        · simp only [if_neg h3, ne_eq, not_true_eq_false, if_false, List.append_assoc, List.singleton_append]
theorem rfA_nil (k : Nat) (l : List UInt8) : rfA k [] l = if (rf k l).2.2 ≠ 0 then ([], [], (rf k l).2.2) else ((rf k l).1, (rf k l).2.1, 0) := by simpa using rfA_rf k [] l
theorem tr_rfA (l : List UInt8) (h1 : (tv l).2.2 = 0) (h2 : (tv l).1 ≤ (tv l).2.1.length) : tr l = if (rfA (tv l).1 [] (tv l).2.1).2.2 ≠ 0 then ([], (rfA (tv l).1 [] (tv l).2.1).2.2) else if (rfA (tv l).1 [] (tv l).2.1).2.1.length ≠ 0 then ([], 12) else ((rfA (tv l).1 [] (tv l).2.1).1, 0) := by
  unfold tr
  rw [if_neg (by simp [h1]), if_neg (by omega), rfA_nil]
  by_cases h3 : (rf (tv l).1 (tv l).2.1).2.2 ≠ 0
  · simp only [if_pos h3]
  · simp only [if_neg h3, ne_eq, not_true_eq_false, if_false]
theorem fd_len (l : List UInt8) (ht : (tv l).2.1.length ≤ l.length) : (fd l).1.length ≤ l.length ∧ (fd l).2.1.length ≤ l.length := by
  unfold fd part
  split
  · simp
  · split
    · simp
    · simp only [List.length_take, List.length_drop]; omega

theorem viF_pos (k n : Nat) : 1 ≤ (viF k n).length := by
  cases k with
  | zero => simp [viF]
  | succ k => rw [viF]; split <;> simp
theorem vi_pos (n : Nat) : 1 ≤ (vi n).length := viF_pos 9 n

theorem rf_back (ls : List (List UInt8)) (r : List UInt8) (h : ∀ f ∈ ls, f.length < 18446744073709551616) : rf ls.length (rowB ls ++ r) = (ls, r, 0) := by
  induction ls with
  | nil => rfl
  | cons f ls ih =>
    have hf := h f (List.mem_cons_self ..)
    have e : tv (rowB (f :: ls) ++ r) = (f.length, f ++ (rowB ls ++ r), 0) := by
      rw [rowB, List.append_assoc, List.append_assoc]; exact tv_vi _ _ hf
    rw [List.length_cons, rf, e]
    simp only [ne_eq, not_true_eq_false, if_false]
    rw [if_neg (by simp), List.drop_left' rfl, List.take_left' rfl, ih (fun g hg => h g (List.mem_cons_of_mem _ hg))]
    simp
theorem rowB_pos (ls : List (List UInt8)) : ls.length ≤ (rowB ls).length := by
  induction ls with
  | nil => simp
  | cons f r ih => have := vi_pos f.length; simp only [rowB, List.length_append, List.length_cons]; omega
theorem tr_row (ls : List (List UInt8)) (hn : ls.length < 18446744073709551616) (h : ∀ f ∈ ls, f.length < 18446744073709551616) : tr (row ls) = (ls, 0) := by
  have e : tv (row ls) = (ls.length, rowB ls, 0) := tv_vi _ _ hn
  have e2 : rf ls.length (rowB ls) = (ls, [], 0) := by simpa using rf_back ls [] h
  have := rowB_pos ls
  unfold tr
  rw [e]
  simp only [ne_eq, not_true_eq_false, if_false]
  rw [if_neg (by omega), e2]
  simp

/-- The converse: what is read as a number is written as just that. -/
theorem viF_val (k s : Nat) (l : List UInt8) (hs : s ≤ k) (hk : k ≤ 9) (hl : l.length = s + 1) (h1 : ∀ j, (h : j < s) → 128 ≤ (l[j]'(by omega)).toNat) (h2 : (l[s]'(by omega)).toNat < 128) (h3 : 0 < s → (l[s]'(by omega)).toNat ≠ 0) :
    viF k (val l) = l := by
  induction k generalizing s l with
  | zero =>
    obtain rfl : s = 0 := by omega
    match l, hl with
    | [x], _ =>
      simp at h2
      have e : val [x] = x.toNat := by simp [val]; omega
      rw [e, viF, UInt8.ofNat_toNat]
  | succ k ih =>
    match l, hl with
    | x :: r, hl =>
      cases s with
      | zero =>
        have : r = [] := by simpa using hl
        subst this
        simp at h2
        have e : val [x] = x.toNat := by simp [val]; omega
        rw [e, viF, if_pos h2, UInt8.ofNat_toNat]
      | succ s =>
        have hx := h1 0 (by omega)
        simp only [List.getElem_cons_zero] at hx
        have hlt := x.toNat_lt
        have hr := ih s r (by omega) (by omega) (by simpa using hl) (fun j hj => by simpa using h1 (j + 1) (by omega)) (by simpa using h2) (fun _ => by simpa using h3 (by omega))
        have hv : 1 ≤ val r := by
          have hrl : r.length = s + 1 := by simpa using hl
          have hlast : r[s].toNat ≠ 0 := by simpa using h3 (by omega)
          have hlast2 : r[s].toNat < 128 := by simpa using h2
          have e : r = r.take s ++ [r[s]] := by
            have := List.take_succ_eq_append_getElem (l := r) (i := s) (by omega)
            rw [List.take_of_length_le (by omega)] at this
            exact this
          rw [e, val_append]
          have hp : 0 < 128 ^ (r.take s).length := Nat.pow_pos (by decide)
          have hq : 1 ≤ val [r[s]] := by simp [val]; omega
          have := Nat.mul_le_mul hp hq
          omega
        rw [val, viF, if_neg (by omega)]
        rw [show (x.toNat % 128 + 128 * val r) % 128 + 128 = x.toNat by omega, show (x.toNat % 128 + 128 * val r) / 128 = val r by omega, hr, UInt8.ofNat_toNat]

theorem cont_out (m : Nat) (l : List UInt8) : (∀ j, (h : j < cont m l) → (h' : j < l.length) → 128 ≤ l[j].toNat) ∧ (cont m l < m → (h : cont m l < l.length) → l[cont m l].toNat < 128) := by
  induction m generalizing l with
  | zero => exact ⟨fun j h => by simp [cont] at h, fun h => by omega⟩
  | succ m ih =>
    cases l with
    | nil => exact ⟨fun j h => by simp [cont] at h, fun _ h => by simp at h⟩
    | cons x l =>
      obtain ⟨i1, i2⟩ := ih l
      by_cases hx : 128 ≤ x.toNat
      · have e : cont (m + 1) (x :: l) = cont m l + 1 := by simp only [cont]; rw [if_pos hx]
        refine ⟨fun j h h' => ?_, fun h h' => ?_⟩
        · cases j with
          | zero => simpa using hx
          | succ j => simpa using i1 j (by omega) (by simpa using h')
        · have := i2 (by omega) (by rw [e] at h'; simpa using h')
          simp only [e, List.getElem_cons_succ]; exact this
      · have e : cont (m + 1) (x :: l) = 0 := by simp only [cont]; rw [if_neg hx]
        refine ⟨fun j h => by omega, fun h h' => ?_⟩
        simp only [e, List.getElem_cons_zero]; omega

theorem tv_form (l : List UInt8) (h : (tv l).2.2 = 0) : vi (tv l).1 ++ (tv l).2.1 = l := by
  obtain ⟨c1, c2⟩ := cont_out 10 l
  have hle := cont_le 10 l
  unfold tv at h ⊢
  simp only [] at h ⊢
  by_cases h1 : cont 10 l = 10
  · rw [if_pos h1] at h; cases h
  · rw [if_neg h1] at h ⊢
    by_cases h2 : l.length ≤ cont 10 l
    · rw [if_pos h2] at h; cases h
    · rw [if_neg h2] at h ⊢
      by_cases h3 : 0 < cont 10 l ∧ (l.getD (cont 10 l) 0).toNat = 0 ∨ cont 10 l = 9 ∧ 1 < (l.getD (cont 10 l) 0).toNat
      · rw [if_pos h3] at h; cases h
      · rw [if_neg h3]
        have hlt : cont 10 l < l.length := by omega
        have eg : l.getD (cont 10 l) 0 = l[cont 10 l] := by simp [hlt]
        rw [eg] at h3
        have := viF_val 9 (cont 10 l) (l.take (cont 10 l + 1)) (by omega) (Nat.le_refl _) (by simp; omega) (fun j hj => by rw [List.getElem_take]; exact c1 j hj (by omega)) (by rw [List.getElem_take]; exact c2 (by omega) hlt) (fun h0 => by rw [List.getElem_take]; intro q; exact h3 (.inl ⟨h0, q⟩))
        show viF 9 (val (l.take (cont 10 l + 1))) ++ l.drop (cont 10 l + 1) = l
        rw [this, List.take_append_drop]

theorem rf_form (k : Nat) (l : List UInt8) (h : (rf k l).2.2 = 0) : (rf k l).1.length = k ∧ rowB (rf k l).1 ++ (rf k l).2.1 = l := by
  induction k generalizing l with
  | zero => exact ⟨rfl, rfl⟩
  | succ k ih =>
    rw [rf] at h ⊢
    by_cases h1 : (tv l).2.2 ≠ 0
    · rw [if_pos h1] at h; exact absurd h h1
    · rw [if_neg h1] at h ⊢
      by_cases h2 : (tv l).2.1.length < (tv l).1
      · rw [if_pos h2] at h; cases h
      · rw [if_neg h2] at h ⊢
        by_cases h3 : (rf k ((tv l).2.1.drop (tv l).1)).2.2 ≠ 0
        · rw [if_pos h3] at h; exact absurd h h3
        · rw [if_neg h3]
          have h1' : (tv l).2.2 = 0 := by simpa using h1
          obtain ⟨q1, q2⟩ := ih _ (show _ = 0 by simpa using h3)
          have ht := tv_form l h1'
          refine ⟨by simp [q1], ?_⟩
          show vi ((tv l).2.1.take (tv l).1).length ++ (tv l).2.1.take (tv l).1 ++ rowB _ ++ _ = l
          rw [List.append_assoc, List.append_assoc, q2, List.take_append_drop, List.length_take, Nat.min_eq_left (by omega), ht]
theorem tr_form (l : List UInt8) (h : (tr l).2 = 0) : row (tr l).1 = l := by
  unfold tr at h ⊢
  by_cases h1 : (tv l).2.2 ≠ 0
  · rw [if_pos h1] at h; exact absurd h h1
  · rw [if_neg h1] at h ⊢
    by_cases h2 : (tv l).2.1.length < (tv l).1
    · rw [if_pos h2] at h; cases h
    · rw [if_neg h2] at h ⊢
      by_cases h3 : (rf (tv l).1 (tv l).2.1).2.2 ≠ 0
      · rw [if_pos h3] at h; exact absurd h h3
      · rw [if_neg h3] at h ⊢
        by_cases h4 : (rf (tv l).1 (tv l).2.1).2.1.length ≠ 0
        · rw [if_pos h4] at h; cases h
        · rw [if_neg h4]
          obtain ⟨q1, q2⟩ := rf_form _ _ (show (rf (tv l).1 (tv l).2.1).2.2 = 0 by simpa using h3)
          have e : (rf (tv l).1 (tv l).2.1).2.1 = [] := List.length_eq_zero_iff.1 (by simpa using h4)
          rw [e, List.append_nil] at q2
          have ht := tv_form l (by simpa using h1)
          show vi (rf (tv l).1 (tv l).2.1).1.length ++ rowB _ = l
          rw [q1, q2, ht]

theorem be_num4 (u : List UInt8) (k : Nat) (h : u.length = k) : be k (num u) = u := num_inj _ _ (by rw [be_length, h]) (by rw [num_be k _ (by have := num_lt u; rw [h] at this; exact this)])

theorem tf_form (l : List UInt8) (h : (tf l).2.2 = 0) : frame (tf l).1 ++ (tf l).2.1 = l := by
  unfold tf at h ⊢
  simp only [] at h ⊢
  by_cases h1 : (tv l).2.2 ≠ 0
  · rw [if_pos h1] at h; exact absurd h h1
  · rw [if_neg h1] at h ⊢
    by_cases h2 : (tv l).2.1.length < 4
    · rw [if_pos h2] at h; cases h
    · rw [if_neg h2] at h ⊢
      by_cases h3 : ((tv l).2.1.drop 4).length < (tv l).1
      · rw [if_pos h3] at h; cases h
      · rw [if_neg h3] at h ⊢
        by_cases h4 : crc (((tv l).2.1.drop 4).take (tv l).1) ≠ num ((tv l).2.1.take 4)
        · rw [if_pos h4] at h; cases h
        · rw [if_neg h4]
          have ht := tv_form l (by simpa using h1)
          have h4' : crc (((tv l).2.1.drop 4).take (tv l).1) = num ((tv l).2.1.take 4) := by simpa using h4
          show frame (((tv l).2.1.drop 4).take (tv l).1) ++ ((tv l).2.1.drop 4).drop (tv l).1 = l
          unfold frame
          rw [h4', be_num4 _ 4 (by simp; omega), List.append_assoc, List.append_assoc, List.take_append_drop, List.take_append_drop, List.length_take, Nat.min_eq_left (by omega), ht]

/-- A last group read. -/
theorem tg_pad (l r : List UInt8) (h : l.length < 8) : tg (pad l ++ r) = (l, 0) := by
  have hp := pad_length l h
  have e8 : (pad l ++ r).getD 8 0 = UInt8.ofNat (247 + l.length) := by
    rw [List.getD_eq_getElem?_getD, List.getElem?_append_left (by omega)]
    have : (pad l)[8]? = some (UInt8.ofNat (247 + l.length)) := by
      unfold pad
      rw [List.getElem?_append_right (by simp; omega)]
      have : (l ++ List.replicate (8 - l.length) (0 : UInt8)).length = 8 := by simp; omega
      rw [this]; rfl
    rw [this]; rfl
  have en : (UInt8.ofNat (247 + l.length)).toNat = 247 + l.length := by rw [UInt8.toNat_ofNat']; omega
  have t8 : (pad l ++ r).take 8 = l ++ List.replicate (8 - l.length) 0 := by
    unfold pad
    rw [List.append_assoc]
    exact List.take_left' (by simp; omega)
  unfold tg
  rw [if_neg (by simp [hp]), e8, en, if_neg (by omega), t8, show 247 + l.length - 247 = l.length by omega, List.drop_left' rfl, if_pos (by simp)]
  congr 1
  unfold pad
  rw [List.append_assoc, List.append_assoc]
  exact List.take_left' rfl
theorem tg_full (a r : List UInt8) (h : a.length = 8) : tg (a ++ [255] ++ r) = (a, 0) := by
  have e8 : (a ++ [255] ++ r).getD 8 0 = 255 := by
    rw [List.getD_eq_getElem?_getD, List.append_assoc, List.getElem?_append_right (by omega), h]; rfl
  have t8 : (a ++ [255] ++ r).take 8 = a := by rw [List.append_assoc]; exact List.take_left' h
  unfold tg
  rw [if_neg (by simp only [List.length_append, h, List.length_singleton]; omega), e8, if_neg (by decide), t8]
  rw [show (255 : UInt8).toNat - 247 = 8 by decide, if_pos (by rw [List.drop_of_length_le (by omega)]; rfl), t8]

theorem tbA_back (k n : Nat) (acc l r : List UInt8) (hn : l.length < 8 * (k + 1)) (hk : k < n) : tbA n acc (obF k l ++ r) = (acc ++ l, r, 0) := by
  induction k generalizing n acc l with
  | zero =>
    obtain ⟨n, rfl⟩ : ∃ m, n = m + 1 := ⟨n - 1, by omega⟩
    rw [tbA, obF, tg_pad l r (by omega)]
    simp only [ne_eq, not_true_eq_false, if_false]
    rw [if_pos (by omega), List.drop_left' (pad_length l (by omega))]
  | succ k ih =>
    obtain ⟨n, rfl⟩ : ∃ m, n = m + 1 := ⟨n - 1, by omega⟩
    rw [tbA, obF]
    by_cases h : l.length < 8
    · rw [if_pos h, tg_pad l r h]
      simp only [ne_eq, not_true_eq_false, if_false]
      rw [if_pos h, List.drop_left' (pad_length l h)]
    · rw [if_neg h, List.append_assoc, tg_full _ _ (by simp; omega)]
      simp only [ne_eq, not_true_eq_false, if_false]
      rw [if_neg (by simp; omega), List.drop_left' (by simp; omega), ih n _ _ (by simp; omega) (by omega), List.append_assoc, List.take_append_drop]
theorem tb_back (b r : List UInt8) : tb (ob b ++ r) = (b, r, 0) := by
  unfold tb ob
  have h := obF_length (b.length / 8) b (by omega)
  rw [tbA_back (b.length / 8) _ [] b r (by omega) (by rw [List.length_append, h]; omega)]
  simp
theorem tk_back (b : List UInt8) (n : Nat) (hn : n < 18446744073709551616) : tk (key b n) = (b, n, 0) := by
  unfold tk key
  simp only []
  have h8 := be_length 8 (18446744073709551615 - n)
  rw [tb_back]
  simp only [ne_eq, not_true_eq_false, if_false]
  have h256 : 18446744073709551615 - n < 256 ^ 8 := by
    have : (256 : Nat) ^ 8 = 18446744073709551616 := by decide
    omega
  rw [if_neg (by omega), h8, if_neg (by simp), List.take_of_length_le (by omega), num_be 8 _ h256, show 18446744073709551615 - (18446744073709551615 - n) = n by omega]

/-- The converse for ordered texts. -/
theorem tg_form (l : List UInt8) (h : (tg l).2 = 0) : ((tg l).1.length < 8 → pad (tg l).1 = l.take 9) ∧ ((tg l).1.length = 8 → (tg l).1 ++ [255] = l.take 9) := by
  obtain ⟨h1, h2, h3, h4⟩ := tg_ok l h
  have hb := (l.getD 8 0).toNat_lt
  have hl := tg_len l h
  have e9 : l.take 9 = l.take 8 ++ [l.getD 8 0] := by
    rw [List.take_succ_eq_append_getElem (show 8 < l.length by omega)]
    simp [show 8 < l.length by omega]
  generalize hm : (l.getD 8 0).toNat - 247 = m at *
  have em : l.getD 8 0 = UInt8.ofNat (247 + m) := by
    rw [← UInt8.ofNat_toNat (x := l.getD 8 0)]; congr 1; omega
  refine ⟨fun q => ?_, fun q => ?_⟩
  · rw [e9, em]
    unfold pad
    rw [hl.1]
    congr 1
    have ez : (l.take 8).drop m = List.replicate (8 - m) 0 := by
      refine List.eq_replicate_iff.2 ⟨by simp; omega, fun x hx => ?_⟩
      have := List.all_eq_true.1 h4 x hx
      simpa using this
    rw [h3, ← ez]
    have : l.take m = (l.take 8).take m := by rw [List.take_take, Nat.min_eq_left (by omega)]
    rw [this, List.take_append_drop]
  · rw [e9, em, h3, show m = 8 by omega]
    rfl
theorem tbA_form (n : Nat) (acc l : List UInt8) (h : (tbA n acc l).2.2 = 0) : ∃ x, (tbA n acc l).1 = acc ++ x ∧ ob x ++ (tbA n acc l).2.1 = l := by
  induction n generalizing acc l with
  | zero => cases h
  | succ n ih =>
    rw [tbA] at h ⊢
    by_cases h1 : (tg l).2 ≠ 0
    · rw [if_pos h1] at h; exact absurd h h1
    · rw [if_neg h1] at h ⊢
      obtain ⟨f1, f2⟩ := tg_form l (by simpa using h1)
      have hl := tg_len l (by simpa using h1)
      by_cases h2 : (tg l).1.length < 8
      · rw [if_pos h2]
        refine ⟨_, rfl, ?_⟩
        show ob (tg l).1 ++ l.drop 9 = l
        unfold ob
        rw [obF_short _ _ h2, f1 h2, List.take_append_drop]
      · rw [if_neg h2] at h ⊢
        obtain ⟨x, q1, q2⟩ := ih _ _ h
        refine ⟨(tg l).1 ++ x, by rw [q1, List.append_assoc], ?_⟩
        have e8 : (tg l).1.length = 8 := by omega
        have eo : ob ((tg l).1 ++ x) = (tg l).1 ++ [255] ++ ob x := by
          unfold ob
          rw [List.length_append, e8, show (8 + x.length) / 8 = x.length / 8 + 1 by omega, obF, if_neg (by simp; omega), List.take_left' e8, List.drop_left' e8]
        rw [eo, f2 e8, List.append_assoc, q2, List.take_append_drop]
theorem tb_form (l : List UInt8) (h : (tb l).2.2 = 0) : ob (tb l).1 ++ (tb l).2.1 = l := by
  obtain ⟨x, q1, q2⟩ := tbA_form _ _ _ h
  unfold tb
  rw [q1]
  simpa using q2
end Go.Proofs.Ytlajncjamafomaa.M

/- The mathematics of parcels: a piece's bytes, what bytes are read as, a box. Nothing of the program is named here. -/
namespace Go.Proofs.Ytlajncjamafomaa
set_option linter.unusedVariables false

/-- The bytes of a piece: the whole's sum and length, how many, its number, the part. -/
def pkW (s n m i : Nat) (p : List UInt8) : List UInt8 := M.frame (M.row [M.vi s, M.vi n, M.vi m, M.vi i, p])
/-- Is it a number and nothing beside? -/
def pkN (f : List UInt8) : Bool := decide ((M.tv f).2.2 = 0) && decide ((M.tv f).2.1.length = 0)
/-- A piece: sum, length, how many, number, part. -/
abbrev Pc := Nat × Nat × Nat × Nat × List UInt8
def pk0 : Pc := (0, 0, 0, 0, [])
/-- What a row's fields are read as. -/
def pkF (fs : List (List UInt8)) : Pc × Nat :=
  if fs.length ≠ 5 then (pk0, 12) else
  if (pkN (fs.getD 0 []) && pkN (fs.getD 1 []) && pkN (fs.getD 2 []) && pkN (fs.getD 3 [])) = true then
    (if (M.tv (fs.getD 2 [])).1 ≤ (M.tv (fs.getD 3 [])).1 then (pk0, 12) else (((M.tv (fs.getD 0 [])).1, (M.tv (fs.getD 1 [])).1, (M.tv (fs.getD 2 [])).1, (M.tv (fs.getD 3 [])).1, fs.getD 4 []), 0))
  else (pk0, 12)
/-- What bytes are read as: a piece and 0, or what is wrong. -/
def pkR (l : List UInt8) : Pc × Nat :=
  if (M.tf l).2.2 ≠ 0 then (pk0, (M.tf l).2.2) else
  if (M.tr (M.tf l).1).2 ≠ 0 then (pk0, (M.tr (M.tf l).1).2) else
  if 0 < (M.tf l).2.1.length then (pk0, 12) else pkF (M.tr (M.tf l).1).1

theorem pkN_vi (n : Nat) (h : n < 18446744073709551616) : pkN (M.vi n) = true ∧ (M.tv (M.vi n)).1 = n := by
  have := M.tv_vi n [] h
  rw [List.append_nil] at this
  unfold pkN
  rw [this]
  simp
theorem vi_le (n : Nat) : (M.vi n).length ≤ 10 := M.viF_length 9 n
theorem pkRow_len (s n m i : Nat) (p : List UInt8) : (M.row [M.vi s, M.vi n, M.vi m, M.vi i, p]).length ≤ 100 + p.length := by
  have h1 := vi_le s
  have h2 := vi_le n
  have h3 := vi_le m
  have h4 := vi_le i
  have a1 := vi_le (M.vi s).length
  have a2 := vi_le (M.vi n).length
  have a3 := vi_le (M.vi m).length
  have a4 := vi_le (M.vi i).length
  have a5 := vi_le p.length
  have a6 := vi_le [M.vi s, M.vi n, M.vi m, M.vi i, p].length
  simp only [M.row, M.rowB, List.length_append, List.length_nil]
  omega
/-- What was written is read again. -/
theorem pkR_W (s n m i : Nat) (p : List UInt8) (hs : s < 18446744073709551616) (hn : n < 18446744073709551616) (hm : m < 18446744073709551616) (hi : i < m) (hp : p.length < 1099511627776) : pkR (pkW s n m i p) = ((s, n, m, i, p), 0) := by
  have hl := pkRow_len s n m i p
  have e1 : M.tf (pkW s n m i p) = (M.row [M.vi s, M.vi n, M.vi m, M.vi i, p], [], 0) := by
    have := M.tf_back (M.row [M.vi s, M.vi n, M.vi m, M.vi i, p]) [] (by omega)
    rw [List.append_nil] at this
    exact this
  have e2 : M.tr (M.row [M.vi s, M.vi n, M.vi m, M.vi i, p]) = ([M.vi s, M.vi n, M.vi m, M.vi i, p], 0) := by
    refine M.tr_row _ (by simp) (fun f hf => ?_)
    have h1 := vi_le s
    have h2 := vi_le n
    have h3 := vi_le m
    have h4 := vi_le i
    simp only [List.mem_cons, List.not_mem_nil, or_false] at hf
    rcases hf with rfl | rfl | rfl | rfl | rfl <;> omega
  obtain ⟨a1, a2⟩ := pkN_vi s hs
  obtain ⟨b1, b2⟩ := pkN_vi n hn
  obtain ⟨c1, c2⟩ := pkN_vi m hm
  obtain ⟨d1, d2⟩ := pkN_vi i (by omega)
  unfold pkR
  rw [e1]
  simp only [e2]
  unfold pkF
  simp only [List.length_cons, List.length_nil, List.getD_cons_zero, List.getD_cons_succ, a1, b1, c1, d1, a2, b2, c2, d2]
  simp
  omega
/-- How many pieces. -/
def pkM (n size : Nat) : Nat := max 1 ((n + size - 1) / size)
/-- The part of a number. -/
def pkP (b : List UInt8) (size i : Nat) : List UInt8 := (b.take (min (i * size + size) b.length)).drop (i * size)
def pkI (b : List UInt8) (size i : Nat) : List UInt8 := pkW (M.crc b) b.length (pkM b.length size) i (pkP b size i)
/-- All pieces. -/
def pkA (b : List UInt8) (size : Nat) : List (List UInt8) := (List.range (pkM b.length size)).map (pkI b size)
theorem pkA_len (b : List UInt8) (size : Nat) : (pkA b size).length = pkM b.length size := by simp [pkA]
theorem pkA_get (b : List UInt8) (size i : Nat) (h : i < pkM b.length size) : (pkA b size)[i]'(by rw [pkA_len]; exact h) = pkI b size i := by simp [pkA]
theorem pkP_len (b : List UInt8) (size i : Nat) : (pkP b size i).length ≤ b.length := by simp [pkP]; omega
theorem pkM_at (n size i : Nat) (hs : 0 < size) (hi : i < pkM n size) : i * size ≤ n := by
  unfold pkM at hi
  by_cases h0 : i = 0
  · subst h0; simp
  · have h1 : i < (n + size - 1) / size := by omega
    have h2 : (i + 1) * size ≤ n + size - 1 := Nat.le_trans (Nat.mul_le_mul_right size h1) (Nat.div_mul_le_self _ _)
    rw [Nat.add_mul, Nat.one_mul] at h2
    omega
theorem pkM_le (n size : Nat) (hs : 0 < size) : pkM n size ≤ n + 1 := by
  unfold pkM
  have : (n + size - 1) / size ≤ n := by
    by_cases h : n = 0
    · subst h
      rw [Nat.div_eq_of_lt (by omega)]; omega
    · rw [Nat.div_le_iff_le_mul hs]
      have := Nat.mul_le_mul_left n hs
      obtain ⟨q, rfl⟩ : ∃ q, n = q + 1 := ⟨n - 1, by omega⟩
      rw [Nat.add_mul]
      have := Nat.mul_le_mul_left q hs
      omega
  omega
theorem pkP_step (b : List UInt8) (size i : Nat) : b.take (i * size) ++ pkP b size i = b.take ((i + 1) * size) := by
  have e : b.take (min (i * size + size) b.length) = b.take ((i + 1) * size) := by
    rw [Nat.add_mul, Nat.one_mul]
    by_cases h : i * size + size ≤ b.length
    · rw [Nat.min_eq_left h]
    · rw [Nat.min_eq_right (by omega), List.take_length, List.take_of_length_le (by omega)]
  unfold pkP
  rw [e]
  have e2 : b.take (i * size) = (b.take ((i + 1) * size)).take (i * size) := by
    rw [List.take_take, Nat.min_eq_left (Nat.mul_le_mul_right _ (Nat.le_succ i))]
  rw [e2, List.take_append_drop]
/-- The parts one behind the other are the bytes. -/
theorem pkP_join (b : List UInt8) (size : Nat) (k : Nat) : ((List.range k).map (pkP b size)).flatten = b.take (k * size) := by
  induction k with
  | zero => simp
  | succ k ih =>
    rw [List.range_succ, List.map_append, List.flatten_append, ih]
    simp [pkP_step]
theorem pkP_all (b : List UInt8) (size : Nat) (hs : 0 < size) : ((List.range (pkM b.length size)).map (pkP b size)).flatten = b := by
  rw [pkP_join, List.take_of_length_le]
  unfold pkM
  by_cases h : b.length = 0
  · omega
  · have h1 : b.length ≤ (b.length + size - 1) / size * size := by
      have := Nat.lt_div_mul_add (a := b.length + size - 1) hs
      omega
    exact Nat.le_trans h1 (Nat.mul_le_mul_right _ (by omega))

/-- The part of that number in a box. -/
def lkP : List (Nat × List UInt8) → Nat → Option (List UInt8)
  | [], _ => none
  | (k, p) :: r, i => if k = i then some p else lkP r i
/-- One part more, at its place. -/
def insP : List (Nat × List UInt8) → Nat → List UInt8 → List (Nat × List UInt8)
  | [], i, p => [(i, p)]
  | (k, q) :: r, i, p => if k < i then (k, q) :: insP r i p else (i, p) :: (k, q) :: r
/-- Parts rise by their numbers. -/
def RsP : List (Nat × List UInt8) → Prop := List.Pairwise (fun a b => a.1 < b.1)
theorem lkP_mem {ps : List (Nat × List UInt8)} {i : Nat} {p : List UInt8} (h : lkP ps i = some p) : (i, p) ∈ ps := by
  induction ps with
  | nil => cases h
  | cons a r ih =>
    obtain ⟨k, q⟩ := a
    unfold lkP at h
    split at h
    · rename_i e
      subst e
      obtain rfl := Option.some.inj h
      exact .head _
    · exact .tail _ (ih h)
theorem lkP_of_mem {ps : List (Nat × List UInt8)} (hr : RsP ps) {i : Nat} {p : List UInt8} (h : (i, p) ∈ ps) : lkP ps i = some p := by
  induction ps with
  | nil => cases h
  | cons a r ih =>
    obtain ⟨k, q⟩ := a
    unfold lkP
    obtain ⟨h1, h2⟩ := List.pairwise_cons.1 hr
    rcases List.mem_cons.1 h with e | e
    · obtain ⟨rfl, rfl⟩ := Prod.mk.inj e
      rw [if_pos rfl]
    · have := h1 _ e
      simp only [] at this
      rw [if_neg (by omega)]
      exact ih h2 e
theorem lkP_ins {ps : List (Nat × List UInt8)} {i : Nat} (p : List UInt8) (hn : lkP ps i = none) (j : Nat) : lkP (insP ps i p) j = if j = i then some p else lkP ps j := by
  induction ps with
  | nil =>
    simp only [insP, lkP]
    by_cases e : i = j
    · subst e; simp
    · rw [if_neg e, if_neg (fun q => e q.symm)]
  | cons a r ih =>
    obtain ⟨k, q⟩ := a
    unfold lkP at hn
    split at hn
    · cases hn
    · rename_i hk
      unfold insP
      split
      · simp only [lkP]
        rw [ih hn]
        by_cases e : k = j
        · subst e
          rw [if_pos rfl, if_neg hk, if_pos rfl]
        · rw [if_neg e, if_neg e]
      · simp only [lkP]
        by_cases e : i = j
        · subst e; simp
        · rw [if_neg e, if_neg (show ¬ j = i from fun q => e q.symm)]
theorem insP_len (ps : List (Nat × List UInt8)) (i : Nat) (p : List UInt8) : (insP ps i p).length = ps.length + 1 := by
  induction ps with
  | nil => rfl
  | cons a r ih =>
    obtain ⟨k, q⟩ := a
    unfold insP
    split <;> simp [ih]
theorem insP_mem (ps : List (Nat × List UInt8)) (i : Nat) (p : List UInt8) (x : Nat × List UInt8) : x ∈ insP ps i p ↔ x = (i, p) ∨ x ∈ ps := by
  induction ps with
  | nil => simp [insP]
  | cons a r ih =>
    obtain ⟨k, q⟩ := a
    unfold insP
    split
    · rw [List.mem_cons, ih, List.mem_cons]
      constructor
      · rintro (h | h | h)
        · exact .inr (.inl h)
        · exact .inl h
        · exact .inr (.inr h)
      · rintro (h | h | h)
        · exact .inr (.inl h)
        · exact .inl h
        · exact .inr (.inr h)
    · rw [List.mem_cons]
theorem insP_rises {ps : List (Nat × List UInt8)} (hr : RsP ps) {i : Nat} (p : List UInt8) (hn : lkP ps i = none) : RsP (insP ps i p) := by
  induction ps with
  | nil => exact List.pairwise_singleton ..
  | cons a r ih =>
    obtain ⟨k, q⟩ := a
    obtain ⟨h1, h2⟩ := List.pairwise_cons.1 hr
    unfold lkP at hn
    split at hn
    · cases hn
    · rename_i hk
      unfold insP
      split
      · rename_i hlt
        refine List.pairwise_cons.2 ⟨fun x hx => ?_, ih h2 hn⟩
        rcases (insP_mem r i p x).1 hx with rfl | hx
        · exact hlt
        · exact h1 x hx
      · rename_i hlt
        refine List.pairwise_cons.2 ⟨fun x hx => ?_, hr⟩
        rcases List.mem_cons.1 hx with rfl | hx
        · show i < k; omega
        · have := h1 x hx
          simp only [] at this ⊢
          omega
/-- Rising numbers below m, m of them: they are 0, 1, 2, .. -/
theorem rsP_full {ps : List (Nat × List UInt8)} {m : Nat} (hr : RsP ps) (hb : ∀ x ∈ ps, x.1 < m) (hl : ps.length = m) (j : Nat) (x : Nat × List UInt8) (h : ps[j]? = some x) : x.1 = j := by
  have lo : ∀ (qs : List (Nat × List UInt8)) (a : Nat), RsP qs → (∀ x ∈ qs, a ≤ x.1) → ∀ j x, qs[j]? = some x → a + j ≤ x.1 := by
    intro qs
    induction qs with
    | nil => intro a _ _ j x h; simp at h
    | cons y r ih =>
      intro a hq ha j x h
      obtain ⟨h1, h2⟩ := List.pairwise_cons.1 hq
      cases j with
      | zero =>
        simp only [List.getElem?_cons_zero, Option.some.injEq] at h
        subst h
        exact ha _ (.head _)
      | succ j =>
        rw [List.getElem?_cons_succ] at h
        have := ih (y.1 + 1) h2 (fun z hz => h1 z hz) j x h
        have := ha y (.head _)
        omega
  have hi : ∀ (qs : List (Nat × List UInt8)) (b : Nat), RsP qs → (∀ x ∈ qs, x.1 < b) → ∀ j x, qs[j]? = some x → x.1 + (qs.length - j) ≤ b := by
    intro qs
    induction qs with
    | nil => intro b _ _ j x h; simp at h
    | cons y r ih =>
      intro b hq hb j x h
      obtain ⟨h1, h2⟩ := List.pairwise_cons.1 hq
      cases j with
      | zero =>
        simp only [List.getElem?_cons_zero, Option.some.injEq] at h
        subst h
        by_cases e : r = []
        · subst e
          have := hb y (.head _)
          simp; omega
        · obtain ⟨z, hz⟩ : ∃ z, r[0]? = some z := by
            cases r with
            | nil => exact absurd rfl e
            | cons z r => exact ⟨z, rfl⟩
          have := ih b h2 (fun x hx => hb x (.tail _ hx)) 0 z hz
          have := h1 z (List.mem_of_getElem? hz)
          simp only [List.length_cons, Nat.sub_zero] at *
          omega
      | succ j =>
        rw [List.getElem?_cons_succ] at h
        have := ih b h2 (fun x hx => hb x (.tail _ hx)) j x h
        simp only [List.length_cons]
        omega
  have h1 := lo ps 0 hr (fun _ _ => Nat.zero_le _) j x h
  have h2 := hi ps m hr hb j x h
  have := (List.getElem?_eq_some_iff.1 h).1
  omega
end Go.Proofs.Ytlajncjamafomaa
