/- Plain mathematics: what was written is read again. No program is named here. -/
import Derived.Test.YtnenfflkldpbgaaG1
import Derived.ProofKit
import Derived.OpenShut
import Derived.ChangeOld
import Derived.SizedLaws
import Derived.Lib.Bytealg
import Derived.Laws.Entries
import Derived.Laws.BytesArg
import Derived.Laws.Cells
import Derived.Shelf.SlSortCmp.WholeK
import Derived.WalkKit
import Derived.Test.YtnenfflkldpbgaaProg
import Derived.Lib.SliceRun
namespace Go.Proofs.Ytnenfflkldpbgaa.M
set_option maxRecDepth 100000

theorem num_cons (x : UInt8) (l : List UInt8) : num (x :: l) = x.toNat * 256 ^ l.length + num l := by
  have : ∀ (l : List UInt8) (n : Nat), l.foldl (fun n x => n * 256 + x.toNat) n = n * 256 ^ l.length + num l := by
    intro l
    induction l with
    | nil => intro n; simp [num]
    | cons y l ih =>
      intro n
      have e : num (y :: l) = y.toNat * 256 ^ l.length + num l := by
        show List.foldl (fun n x => n * 256 + x.toNat) (0 * 256 + y.toNat) l = _
        rw [ih]; simp
      rw [List.foldl_cons, ih, List.length_cons, Nat.pow_succ', e]
      simp only [Nat.add_mul, Nat.mul_assoc, Nat.add_assoc]
  rw [num, List.foldl_cons, this]
  simp
theorem num_be (k n : Nat) (h : n < 256 ^ k) : num (be k n) = n := by
  suffices H : ∀ k n, num (be k n) = n % 256 ^ k by rw [H, Nat.mod_eq_of_lt h]
  intro k
  induction k with
  | zero => intro n; simp [be, num]; omega
  | succ k ih =>
    intro n
    have e8 : (2 : Nat) ^ (8 * k) = 256 ^ k := by rw [Nat.pow_mul]
    have em : n % (256 ^ k * 256) = n % 256 ^ k + 256 ^ k * (n / 256 ^ k % 256) := Nat.mod_mul
    have hu : (UInt8.ofNat (n / 256 ^ k)).toNat = n / 256 ^ k % 256 := by rw [UInt8.toNat_ofNat']
    rw [be, num_cons, ih, be_length, e8, hu, Nat.pow_succ, em, Nat.mul_comm, Nat.add_comm]
theorem num_inj (a b : List UInt8) (h : a.length = b.length) (e : num a = num b) : a = b := by
  induction a generalizing b with
  | nil => exact (List.length_eq_zero_iff.1 (by simpa using h.symm)).symm
  | cons x a ih =>
    cases b with
    | nil => simp at h
    | cons y b =>
      have hl : a.length = b.length := by simpa using h
      rw [num_cons, num_cons, hl] at e
      have h1 := num_lt a
      have h2 := num_lt b
      rw [hl] at h1
      generalize 256 ^ b.length = P at *
      have hx : x.toNat = y.toNat := by
        rcases Nat.lt_trichotomy x.toNat y.toNat with q | q | q
        · have : (x.toNat + 1) * P ≤ y.toNat * P := Nat.mul_le_mul_right _ q
          rw [Nat.add_mul] at this; omega
        · exact q
        · have : (y.toNat + 1) * P ≤ x.toNat * P := Nat.mul_le_mul_right _ q
          rw [Nat.add_mul] at this; omega
      rw [hx] at e
      rw [UInt8.toNat_inj.1 hx, ih b hl (by omega)]

/-- What is written of a number, seen as it is read. -/
theorem viF_read (k n : Nat) (r : List UInt8) (hn : n < qb k) (hk : k ≤ 9) :
    ∃ s, s ≤ k ∧ (viF k n).length = s + 1 ∧ cont (k + 1) (viF k n ++ r) = s ∧ val (viF k n) = n ∧ (viF k n).getD s 0 = UInt8.ofNat (n / 128 ^ s) ∧ n / 128 ^ s < 128 ∧ (0 < s → n / 128 ^ s ≠ 0) := by
  have base : ∀ m n, n < 128 → ∃ s, s ≤ m ∧ ([UInt8.ofNat n]).length = s + 1 ∧ cont (m + 1) ([UInt8.ofNat n] ++ r) = s ∧ val [UInt8.ofNat n] = n ∧ ([UInt8.ofNat n]).getD s 0 = UInt8.ofNat (n / 128 ^ s) ∧ n / 128 ^ s < 128 ∧ (0 < s → n / 128 ^ s ≠ 0) := by
    intro m n h
    have e : (UInt8.ofNat n).toNat = n := by rw [UInt8.toNat_ofNat']; omega
    refine ⟨0, Nat.zero_le _, rfl, ?_, ?_, by simp, by simpa using h, fun h => absurd h (Nat.lt_irrefl _)⟩
    · simp only [List.singleton_append, cont]; rw [e, if_neg (by omega)]
    · simp only [val]; rw [e]; omega
  induction k generalizing n with
  | zero =>
    have : n < 128 := by rw [qb_zero] at hn; omega
    exact base 0 n this
  | succ k ih =>
    by_cases h : n < 128
    · rw [viF, if_pos h]
      exact base (k + 1) n h
    · have hq : n / 128 < qb k := by rw [qb_succ k hk] at hn; omega
      obtain ⟨s, h1, h2, h3, h4, h5, h6, h7⟩ := ih (n / 128) hq (by omega)
      rw [viF, if_neg h]
      have e : (UInt8.ofNat (n % 128 + 128)).toNat = n % 128 + 128 := by rw [UInt8.toNat_ofNat']; omega
      refine ⟨s + 1, by omega, by simp [h2], ?_, ?_, ?_, ?_, ?_⟩
      · simp only [List.cons_append, cont]; rw [e, if_pos (by omega), h3]
      · rw [val, e, h4]; omega
      · rw [List.getD_cons_succ, h5, Nat.div_div_eq_div_mul, Nat.pow_succ, Nat.mul_comm]
      · rw [Nat.pow_succ, Nat.mul_comm, ← Nat.div_div_eq_div_mul]; exact h6
      · intro _
        rw [Nat.pow_succ, Nat.mul_comm, ← Nat.div_div_eq_div_mul]
        by_cases hs : 0 < s
        · exact h7 hs
        · obtain rfl : s = 0 := by omega
          simp; omega

theorem tv_vi (n : Nat) (r : List UInt8) (h : n < 18446744073709551616) : tv (vi n ++ r) = (n, r, 0) := by
  obtain ⟨s, h1, h2, h3, h4, h5, h6, h7⟩ := viF_read 9 n r (by simpa [qb] using h) (Nat.le_refl _)
  have hlen : (vi n).length = s + 1 := h2
  have hg : (vi n ++ r).getD s 0 = UInt8.ofNat (n / 128 ^ s) := by
    rw [← h5, List.getD_eq_getElem?_getD, List.getElem?_append_left (by omega), ← List.getD_eq_getElem?_getD]; rfl
  have e : (UInt8.ofNat (n / 128 ^ s)).toNat = n / 128 ^ s := by rw [UInt8.toNat_ofNat']; exact Nat.mod_eq_of_lt (Nat.lt_trans h6 (by decide))
  unfold tv
  simp only []
  rw [show cont 10 (vi n ++ r) = s from h3, if_neg (by omega), if_neg (by simp; omega), hg, e, if_neg, List.take_left' hlen, List.drop_left' hlen]
  · rw [show val (vi n) = n from h4]
  · rintro (⟨q1, q2⟩ | ⟨q1, q2⟩)
    · exact h7 q1 q2
    · subst q1
      have : n / 128 ^ 9 < 2 := Nat.div_lt_of_lt_mul (by have : (128 : Nat) ^ 9 * 2 = 18446744073709551616 := by decide
                                                         omega)
      omega

/-- A frame whose sum or text was turned is refused by its sum. -/
theorem tf_turned (n : Nat) (u body : List UInt8) (hn : n < 18446744073709551616) (hu : u.length = 4) (hb : body.length = n) (hne : crc body ≠ num u) : tf (vi n ++ (u ++ body)) = ([], [], 11) := by
  unfold tf
  simp only []
  rw [tv_vi n _ hn]
  simp only [ne_eq, not_true_eq_false, if_false]
  have h4 : (u ++ body).drop 4 = body := List.drop_left' hu
  have t4 : (u ++ body).take 4 = u := List.take_left' hu
  rw [if_neg (by simp; omega), h4, t4, if_neg (by omega), List.take_of_length_le (by omega), if_pos hne]
theorem tf_back (b r : List UInt8) (h : b.length < 18446744073709551616) : tf (frame b ++ r) = (b, r, 0) := by
  unfold frame tf
  simp only []
  rw [List.append_assoc, List.append_assoc, tv_vi _ _ h]
  simp only [ne_eq, not_true_eq_false, if_false]
  have h4 : (be 4 (crc b) ++ (b ++ r)).drop 4 = b ++ r := List.drop_left' (be_length 4 _)
  have t4 : (be 4 (crc b) ++ (b ++ r)).take 4 = be 4 (crc b) := List.take_left' (be_length 4 _)
  rw [if_neg (by simp [be_length]), h4, t4, if_neg (by simp), List.take_left' rfl, List.drop_left' rfl, num_be 4 _ (by have := crc_lt b; simpa using this), if_neg (by simp)]

theorem zx_self (l : List UInt8) : zx l l = List.replicate l.length 0 := by
  induction l with
  | nil => rfl
  | cons x l ih =>
    show (x ^^^ x) :: zx l l = _
    rw [ih, List.length_cons, List.replicate_succ, UInt8.xor_self]
theorem zx_app (a b c d : List UInt8) (h : a.length = b.length) : zx (a ++ c) (b ++ d) = zx a b ++ zx c d := by
  unfold zx; exact List.zipWith_append h
theorem zx_mid (a b b' c : List UInt8) (h : b.length = b'.length) : zx (a ++ b ++ c) (a ++ b' ++ c) = List.replicate a.length 0 ++ zx b b' ++ List.replicate c.length 0 := by
  rw [zx_app _ _ _ _ (by simp [h]), zx_app _ _ _ _ rfl, zx_self, zx_self]
theorem zx_zx (a b : List UInt8) (h : a.length = b.length) : zx (zx a b) a = b := by
  induction a generalizing b with
  | nil => exact (List.length_eq_zero_iff.1 (by simpa using h.symm)).symm
  | cons x a ih =>
    cases b with
    | nil => simp at h
    | cons y b =>
      show ((x ^^^ y) ^^^ x) :: zx (zx a b) a = y :: b
      rw [ih b (by simpa using h), UInt8.xor_comm x y, UInt8.xor_assoc, UInt8.xor_self, UInt8.xor_zero]
theorem zx_len (a b : List UInt8) (h : a.length = b.length) : (zx a b).length = a.length := by simp [zx, h]
end Go.Proofs.Ytnenfflkldpbgaa.M

/- Lists of wide elements as cells, and how a row of the call's own reads. Nothing of the program is named here. -/
namespace Go.Proofs.Ytnenfflkldpbgaa
open Go.RowKit
set_option linter.unusedVariables false
set_option maxRecDepth 100000

section
variable {α : Type} {f : α → List Value} {n : Nat}
theorem fm_len (hf : ∀ x, (f x).length = n) (l : List α) : (l.flatMap f).length = l.length * n := by
  induction l with
  | nil => simp
  | cons x l ih => rw [List.flatMap_cons, List.length_append, ih, hf, List.length_cons, Nat.add_mul]; omega
theorem fm_at (hf : ∀ x, (f x).length = n) (l : List α) (i j : Nat) (x : α) (e : l[i]? = some x) (hj : j < n) : (l.flatMap f)[i * n + j]? = (f x)[j]? := by
  induction l generalizing i with
  | nil => simp at e
  | cons y l ih =>
    cases i with
    | zero => simp at e; subst e; rw [List.flatMap_cons, Nat.zero_mul, Nat.zero_add, List.getElem?_append_left (by rw [hf]; exact hj)]
    | succ i =>
      have := ih i (by simpa using e)
      rw [List.flatMap_cons, List.getElem?_append_right (by rw [hf, Nat.add_mul]; omega), hf, ← this]
      congr 1
      rw [Nat.add_mul]; omega
theorem fm_take (hf : ∀ x, (f x).length = n) (l : List α) (k : Nat) : (l.flatMap f).take (k * n) = (l.take k).flatMap f := by
  induction l generalizing k with
  | nil => simp
  | cons x l ih =>
    cases k with
    | zero => simp
    | succ k => rw [List.take_succ_cons, List.flatMap_cons, List.flatMap_cons, ← ih k, List.take_append, hf, show (k + 1) * n - n = k * n by rw [Nat.add_mul]; omega, List.take_of_length_le (by rw [hf, Nat.add_mul]; omega)]
theorem fm_drop (hf : ∀ x, (f x).length = n) (l : List α) (k : Nat) : (l.flatMap f).drop (k * n) = (l.drop k).flatMap f := by
  induction l generalizing k with
  | nil => simp
  | cons x l ih =>
    cases k with
    | zero => simp
    | succ k => rw [List.drop_succ_cons, List.flatMap_cons, ← ih k, List.drop_append, hf, show (k + 1) * n - n = k * n by rw [Nat.add_mul]; omega, List.drop_of_length_le (by rw [hf, Nat.add_mul]; omega), List.nil_append]
end

section
variable {w : World}
/-- How a row of the call's own reads. -/
theorem row_reads {B : Nat} {e : TypeId} {size k : Nat} {v : Value} {xs : List Value} (h : w.ownsRow B e size v k xs) : ∃ a c, v = .slice a k c ∧ k ≤ c ∧ c ≤ maxLen ∧ (a = none → c = 0) ∧ ∀ j u, xs[j]? = some u → ∃ g, a = some ⟨g, 0, none⟩ ∧ w.cell? ⟨g, j, none⟩ = some u := by
  rcases h.2 with ⟨q, q0⟩ | ⟨g, cap, cur, q, hB, hg, q1, q2, q3, q4⟩
  · refine ⟨none, 0, by rw [q, q0], by omega, by simp, fun _ => rfl, fun j u e => ?_⟩
    have h1 := h.1
    have := (List.getElem?_eq_some_iff.1 e).1
    rw [h1, q0, Nat.zero_mul] at this
    omega
  · refine ⟨some ⟨g, 0, none⟩, cap, q, q1, q2, (fun e => by cases e), fun j u e => ⟨g, rfl, ?_⟩⟩
    have := h.cells (g := g) (by rw [q]; rfl) j u e
    rw [Addr.add_lit, Nat.zero_add] at this
    exact this
end
end Go.Proofs.Ytnenfflkldpbgaa

/- What the law's own Num answers. -/
namespace Go.Proofs.Ytnenfflkldpbgaa
open Go.RowKit
set_option linter.unusedVariables false
theorem lnum_any (z : Int) (w : World) : Calls Try.prog 18 #[.int .i64 z] w fun e w' => e = .returned (.int .i64 z) ∧ w' = w := by
  go_enter Try.func18, Try.ntmps18
  go_wp2
  go_ret
  exact ⟨rfl, rfl⟩
end Go.Proofs.Ytnenfflkldpbgaa

/- What Varint makes: the bytes of 'vi', in new memory. -/
namespace Go.Proofs.Ytnenfflkldpbgaa
open Go.RowKit
set_option linter.unusedVariables false

set_option maxRecDepth 100000 in
theorem varint_any (n : Nat) (w : World) (hn : n < 18446744073709551616) :
    Calls Try.prog 39 #[.int .u64 n] w fun e w' => ∃ v, e = .returned v ∧ Ow w.heap.size w' v (M.vi n) ∧ Below w.heap.size w w' := by
  go_enter Try.func39, Try.ntmps39
  go_wp2
  go_loopw [0, 3] (fun m out wr => ∃ (k q : Nat), k ≤ 9 ∧ m = .int .u64 q ∧ q < M.qb k ∧ Below w.heap.size w wr ∧ ∃ done, done.length + k = 9 ∧ Ow w.heap.size wr out done ∧ done ++ M.viF k q = M.vi n) (fun m _ _ => (intOf m).toNat)
  case atStart => exact ⟨9, n, Nat.le_refl _, rfl, by simpa [M.qb] using hn, Below.refl _ _, [], rfl, Ow.nil _ _, rfl⟩
  case round =>
    obtain ⟨k, q, hk, rfl, hq, hb, done, hdl, ho, hd⟩ := hrel
    have HD : Hid _ := hd
    have HQ : Hid _ := hq
    have HL : Hid _ := hdl
    clear hd hq hdl
    have hq : q < 18446744073709551616 := by
      exact Nat.lt_of_lt_of_le HQ.out (M.qb_le k)
    by_cases hlt : q < 128
    · go_wp2_with (first | (at_builtin; refine wpList_app rfl _ _ rfl w.heap.size _ done rfl (ho.alloc _) _ [UInt8.ofNat q] rfl (rd_one _ _ _ ?hz _) ?hB ?hlen ?_; rotate_right; intro v' w' ho' hb' hg') | fail)
      case hz => rw [M.u8_ofNat]; omega
      case hB => have := hb.size; simp; omega
      case hlen => have := HL.out; simp; omega
      go_ret
      refine ⟨_, rfl, ?_, hb.trans (((Below.refl _ _).alloc hb.size _).trans hb')⟩
      have e : M.viF k q = [UInt8.ofNat q] := by
        cases k with
        | zero => rfl
        | succ k => simp only [M.viF]; rw [if_pos hlt]
      rw [← HD.out, e]; exact ho'
    · have hlt' : 128 ≤ q := by omega
      have HV : Hid (1 ≤ k ∧ q / 128 < M.qb (k - 1) ∧ M.viF k q = UInt8.ofNat (q % 128 + 128) :: M.viF (k - 1) (q / 128)) := by
        cases k with
        | zero => have := HQ.out; rw [M.qb_zero] at this; omega
        | succ k =>
          refine ⟨by omega, ?_, ?_⟩
          · have := HQ.out; rw [M.qb_succ k hk] at this; simp only [Nat.add_sub_cancel]; omega
          · rw [M.viF, if_neg hlt]; rfl
      go_wp2_with (first | (at_builtin; refine wpList_app rfl _ _ rfl w.heap.size _ done rfl (ho.alloc _) _ [UInt8.ofNat (q % 128 + 128)] rfl (rd_one _ _ _ ?hz _) ?hB ?hlen ?_; rotate_right; intro v' w' ho' hb' hg') | fail)
      case hz =>
        rw [M.u8_ofNat, show ((q : Int) % 256) = ((q % 256 : Nat) : Int) by omega, show (128 : Int) = ((128 : Nat) : Int) from rfl, u8_or_nat _ _ (by omega) (by decide), M.or128 _ (by omega)]
        omega
      case hB => have := hb.size; simp; omega
      case hlen => have := HL.out; simp; omega
      refine ⟨⟨k - 1, q / 128, by omega, by go_num, ?_, hb.trans (((Below.refl _ _).alloc hb.size _).trans hb'), done ++ [UInt8.ofNat (q % 128 + 128)], ?_, ho', ?_⟩, by simp [intOf]; omega⟩
      · exact (HV.out).2.1
      · have := HL.out; have := (HV.out).1; simp; omega
      · rw [← HD.out, (HV.out).2.2]; simp

end Go.Proofs.Ytnenfflkldpbgaa

/- Plain mathematics of ordered texts: groups of eight with a byte behind each. No program is named here. -/
namespace Go.Proofs.Ytnenfflkldpbgaa.M
set_option maxRecDepth 100000

/-- The last group. -/
def pad (l : List UInt8) : List UInt8 := l ++ List.replicate (8 - l.length) 0 ++ [UInt8.ofNat (247 + l.length)]
def obF : Nat → List UInt8 → List UInt8
  | 0, l => pad l
  | k + 1, l => if l.length < 8 then pad l else l.take 8 ++ [255] ++ obF k (l.drop 8)
/-- A text in a form whose order is that of the texts. -/
def ob (l : List UInt8) : List UInt8 := obF (l.length / 8) l
def key (l : List UInt8) (n : Nat) : List UInt8 := ob l ++ be 8 (18446744073709551615 - n)

theorem pad_length (l : List UInt8) (h : l.length < 8) : (pad l).length = 9 := by simp [pad]; omega
theorem obF_length (k : Nat) (l : List UInt8) (h : l.length < 8 * (k + 1)) : (obF k l).length = 9 * (l.length / 8 + 1) := by
  induction k generalizing l with
  | zero => rw [obF, pad_length l (by omega)]; omega
  | succ k ih =>
    rw [obF]
    split
    · rename_i h1; rw [pad_length l h1]; omega
    · rename_i h1
      have := ih (l.drop 8) (by simp; omega)
      simp only [List.length_append, List.length_take, List.length_singleton, this, List.length_drop]
      omega
theorem ob_length (l : List UInt8) : (ob l).length = 9 * (l.length / 8 + 1) := obF_length _ l (by omega)
theorem obF_short (k : Nat) (l : List UInt8) (h : l.length < 8) : obF k l = pad l := by
  cases k with
  | zero => rfl
  | succ k => rw [obF, if_pos h]
theorem obF_long (k : Nat) (l : List UInt8) (h : 8 ≤ l.length) (hk : l.length < 8 * (k + 1)) : ∃ k', k = k' + 1 ∧ obF k l = l.take 8 ++ [255] ++ obF k' (l.drop 8) ∧ (l.drop 8).length < 8 * (k' + 1) := by
  cases k with
  | zero => omega
  | succ k => exact ⟨k, rfl, by rw [obF, if_neg (by omega)], by simp; omega⟩
theorem key_length (l : List UInt8) (n : Nat) : (key l n).length = 9 * (l.length / 8 + 1) + 8 := by simp [key, ob_length, be_length]

/-- One group read: what of it was not filled up, and the error. -/
def tg (l : List UInt8) : List UInt8 × Nat :=
  if l.length < 9 then ([], 10) else if (l.getD 8 0).toNat < 247 then ([], 12)
  else if ((l.take 8).drop ((l.getD 8 0).toNat - 247)).all (fun x => x == 0) then (l.take ((l.getD 8 0).toNat - 247), 0) else ([], 12)
/-- Group by group, behind what was read so far. -/
def tbA : Nat → List UInt8 → List UInt8 → List UInt8 × List UInt8 × Nat
  | 0, _, _ => ([], [], 10)
  | k + 1, acc, l => if (tg l).2 ≠ 0 then ([], [], (tg l).2) else if (tg l).1.length < 8 then (acc ++ (tg l).1, l.drop 9, 0) else tbA k (acc ++ (tg l).1) (l.drop 9)
def tb (l : List UInt8) : List UInt8 × List UInt8 × Nat := tbA (l.length + 1) [] l

theorem tg_ok (l : List UInt8) (h : (tg l).2 = 0) : 9 ≤ l.length ∧ 247 ≤ (l.getD 8 0).toNat ∧ (tg l).1 = l.take ((l.getD 8 0).toNat - 247) ∧ ((l.take 8).drop ((l.getD 8 0).toNat - 247)).all (fun x => x == 0) = true := by
  unfold tg at h ⊢
  by_cases h1 : l.length < 9
  · rw [if_pos h1] at h; cases h
  · rw [if_neg h1] at h ⊢
    by_cases h2 : (l.getD 8 0).toNat < 247
    · rw [if_pos h2] at h; cases h
    · rw [if_neg h2] at h ⊢
      by_cases h3 : ((l.take 8).drop ((l.getD 8 0).toNat - 247)).all (fun x => x == 0) = true
      · rw [if_pos h3]; exact ⟨Nat.not_lt.1 h1, Nat.not_lt.1 h2, rfl, h3⟩
      · rw [if_neg h3] at h; cases h
theorem tg_len (l : List UInt8) (h : (tg l).2 = 0) : (tg l).1.length = (l.getD 8 0).toNat - 247 ∧ (tg l).1.length ≤ 8 := by
  obtain ⟨h1, h2, h3, _⟩ := tg_ok l h
  have := (l.getD 8 0).toNat_lt
  rw [h3, List.length_take]
  omega
theorem tbA_len (k : Nat) (acc l : List UInt8) : (tbA k acc l).1.length ≤ acc.length + l.length ∧ (tbA k acc l).2.1.length ≤ l.length := by
  induction k generalizing acc l with
  | zero => simp [tbA]
  | succ k ih =>
    rw [tbA]
    by_cases h1 : (tg l).2 ≠ 0
    · rw [if_pos h1]; simp
    · rw [if_neg h1]
      have hz : (tg l).2 = 0 := by simpa using h1
      have hl := tg_len l hz
      have h9 := (tg_ok l hz).1
      by_cases h2 : (tg l).1.length < 8
      · rw [if_pos h2]; simp; omega
      · rw [if_neg h2]
        have := ih (acc ++ (tg l).1) (l.drop 9)
        simp only [List.length_append, List.length_drop] at this
        omega
/-- What a key is read as: the key, the time, the error. -/
def tk (l : List UInt8) : List UInt8 × Nat × Nat :=
  let r := tb l
  if r.2.2 ≠ 0 then ([], 0, r.2.2) else if r.2.1.length < 8 then ([], 0, 10) else if r.2.1.length ≠ 8 then ([], 0, 12) else (r.1, 18446744073709551615 - num (r.2.1.take 8), 0)
end Go.Proofs.Ytnenfflkldpbgaa.M

/- How an argument that came in is read: a slice of bytes as 'Rd', with the form's own bound on its length. -/
namespace Go.Proofs.Ytnenfflkldpbgaa
open Go.ChangeShapes Go.WideShapes Go.ChangeAt Go.RowKit
set_option linter.unusedVariables false
set_option maxRecDepth 100000

theorem Try.bytes5 : Try.prog.bytesOf 5 = 1 := by kernel_rfl

/-- A slice of bytes that came in. -/
theorem open_bytes {H : Type} {enc : TypeId × Value → H} {W : World} {a0 : Option Addr} {len cap : Nat} {d : DataW H} {p : List MemPlace} (h : DataW.Trod enc Try.prog W 0 (fun _ => true) true 23 (.slice a0 len cap) d p) :
    ∃ l : List UInt8, Rd W (.slice a0 len cap) l ∧ l.length = len ∧ ∃ zs : List Int, (a0 = none ∧ len = 0) ∨ d = .slice (lits .u8 (zs.take len)) (lits .u8 (zs.drop len)) ∧ zs.length = cap ∧ len ≤ cap := by
  obtain ⟨fuel, hf⟩ := h
  rcases open_ints Try.underlying23 Try.underlying5 (by kernel_rfl) hf with ⟨hcs, _⟩ | ⟨x, n, c, zs, hcs, _, hl, hm, hz, hd, hcell, hwz⟩
  · simp [Value.cells] at hcs
    obtain ⟨rfl, rfl, rfl⟩ := hcs
    exact ⟨[], Rd.nil _, rfl, [], .inl ⟨rfl, rfl⟩⟩
  · simp [Value.cells] at hcs
    obtain ⟨rfl, rfl, rfl⟩ := hcs
    have hz' : zs.length = cap := by simpa using hz
    have hlen : ((zs.take len).map (fun z => UInt8.ofNat z.toNat)).length = len := by simp; omega
    refine ⟨(zs.take len).map (fun z => UInt8.ofNat z.toNat), Rd.mk hlen.symm (by omega) hm (fun i hi => ?_), hlen, zs, .inr ⟨?_, hz', hl⟩⟩
    · have hi' : i < zs.length := by omega
      rw [hcell i hi']
      have hw := hwz (zs[i]) (List.getElem_mem hi')
      have hx : 0 ≤ zs[i] ∧ zs[i] ≤ 255 := by simpa [Lit.wf, IntKind.min, IntKind.max, IntKind.signed, IntKind.bits] using hw
      have e : zs.getD i 0 = zs[i] := by simp [hi']
      rw [e]
      simp only [List.getElem_map, List.getElem_take]
      rw [M.u8_ofNat]
      congr 2
      omega
    · simp only [Prod.mk.injEq] at hd
      exact hd.1

end Go.Proofs.Ytnenfflkldpbgaa

/- Plain mathematics: the order of texts, of ordered texts and of numbers in bytes. No program is named here. -/
namespace Go.Proofs.Ytnenfflkldpbgaa.M
set_option maxRecDepth 100000

/-- -1, 0, 1: byte by byte, the shorter one first. -/
def cmpL : List UInt8 → List UInt8 → Int
  | [], [] => 0
  | [], _ :: _ => -1
  | _ :: _, [] => 1
  | x :: r, y :: s => if x = y then cmpL r s else if x < y then -1 else 1

theorem cmpL_self (l : List UInt8) : cmpL l l = 0 := by
  induction l with
  | nil => rfl
  | cons x l ih => simp [cmpL, ih]
theorem cmpL_zero {a b : List UInt8} (h : cmpL a b = 0) : a = b := by
  induction a generalizing b with
  | nil => cases b with
    | nil => rfl
    | cons y s => simp [cmpL] at h
  | cons x r ih => cases b with
    | nil => simp [cmpL] at h
    | cons y s =>
      simp only [cmpL] at h
      by_cases hxy : x = y
      · rw [if_pos hxy] at h; rw [hxy, ih h]
      · rw [if_neg hxy] at h; split at h <;> omega
theorem cmpL_iff (a b : List UInt8) : cmpL a b = 0 ↔ a = b := ⟨cmpL_zero, fun h => h ▸ cmpL_self a⟩

/-- Of the same length ahead. -/
theorem cmpL_app (p q x y : List UInt8) (h : p.length = q.length) : cmpL (p ++ x) (q ++ y) = if p = q then cmpL x y else cmpL p q := by
  induction p generalizing q with
  | nil =>
    obtain rfl : q = [] := List.length_eq_zero_iff.1 (by simpa using h.symm)
    simp
  | cons a p ih =>
    cases q with
    | nil => simp at h
    | cons b q =>
      simp only [List.cons_append, cmpL]
      by_cases hab : a = b
      · rw [if_pos hab, if_pos hab, ih q (by simpa using h)]
        simp [hab]
      · have hn : ¬ (a :: p = b :: q) := by simp [hab]
        rw [if_neg hab, if_neg hn, if_neg hab]

theorem cmpL_take (n : Nat) (a b : List UInt8) : cmpL a b = if a.take n = b.take n then cmpL (a.drop n) (b.drop n) else cmpL (a.take n) (b.take n) := by
  induction n generalizing a b with
  | zero => simp
  | succ n ih =>
    cases a with
    | nil => cases b with
      | nil => simp
      | cons y s => simp [cmpL]
    | cons x r => cases b with
      | nil => simp [cmpL]
      | cons y s =>
        simp only [List.take_succ_cons, List.drop_succ_cons, cmpL]
        by_cases hxy : x = y
        · rw [if_pos hxy, ih r s]; simp [hxy]
        · have hn : ¬ (x :: r.take n = y :: s.take n) := by simp [hxy]
          rw [if_neg hxy, if_neg hn, if_neg hxy]

/-- Filled up with zeros to n. -/
def zn (n : Nat) (l : List UInt8) : List UInt8 := l ++ List.replicate (n - l.length) 0

theorem u8_pos (y : UInt8) (h : y ≠ 0) : (0 : UInt8) < y := by
  rw [UInt8.lt_iff_toNat_lt]
  have : y.toNat ≠ 0 := fun e => h (UInt8.toNat_inj.1 (by simpa using e))
  simpa using Nat.pos_of_ne_zero this

theorem zn_nil_lt (n : Nat) (m : List UInt8) (c d : UInt8) (hm : m.length ≤ n) (hcd : c < d) : cmpL (zn n [] ++ [c]) (zn n m ++ [d]) = -1 := by
  induction n generalizing m with
  | zero =>
    obtain rfl : m = [] := List.length_eq_zero_iff.1 (by omega)
    have : c ≠ d := fun e => by rw [e] at hcd; exact absurd hcd (UInt8.lt_irrefl _)
    simp [zn, cmpL, this, hcd]
  | succ n ih =>
    cases m with
    | nil =>
      have := ih [] (by simp)
      simpa [zn, List.replicate_succ, cmpL] using this
    | cons y s =>
      have e1 : zn (n + 1) [] = 0 :: zn n [] := by simp [zn, List.replicate_succ]
      have e2 : zn (n + 1) (y :: s) = y :: zn n s := by simp [zn]
      rw [e1, e2]
      simp only [List.cons_append, cmpL]
      by_cases hy : (0 : UInt8) = y
      · rw [if_pos hy]; exact ih s (by simpa using hm)
      · rw [if_neg hy, if_pos (u8_pos y (fun e => hy e.symm))]
theorem zn_nil_gt (n : Nat) (m : List UInt8) (c d : UInt8) (hm : m.length ≤ n) (hcd : c < d) : cmpL (zn n m ++ [d]) (zn n [] ++ [c]) = 1 := by
  induction n generalizing m with
  | zero =>
    obtain rfl : m = [] := List.length_eq_zero_iff.1 (by omega)
    have h1 : d ≠ c := fun e => by rw [e] at hcd; exact absurd hcd (UInt8.lt_irrefl _)
    have h2 : ¬ d < c := UInt8.lt_asymm hcd
    simp [zn, cmpL, h1, h2]
  | succ n ih =>
    cases m with
    | nil =>
      have := ih [] (by simp)
      simpa [zn, List.replicate_succ, cmpL] using this
    | cons y s =>
      have e1 : zn (n + 1) [] = 0 :: zn n [] := by simp [zn, List.replicate_succ]
      have e2 : zn (n + 1) (y :: s) = y :: zn n s := by simp [zn]
      rw [e1, e2]
      simp only [List.cons_append, cmpL]
      by_cases hy : y = 0
      · rw [if_pos hy]; exact ih s (by simpa using hm)
      · rw [if_neg hy, if_neg (UInt8.lt_asymm (u8_pos y hy))]

theorem u8_lt (a b : Nat) (h : a < b) (hb : b < 256) : UInt8.ofNat a < UInt8.ofNat b := by
  rw [UInt8.lt_iff_toNat_lt, UInt8.toNat_ofNat', UInt8.toNat_ofNat']; omega

/-- A group is in the order of what it holds. -/
theorem grp_cmp (n c : Nat) (l m : List UInt8) (hl : l.length ≤ n) (hm : m.length ≤ n) (hc : c + n < 256) :
    cmpL (zn n l ++ [UInt8.ofNat (c + l.length)]) (zn n m ++ [UInt8.ofNat (c + m.length)]) = cmpL l m := by
  induction l generalizing m n c with
  | nil =>
    cases m with
    | nil => rw [cmpL_self, cmpL_self]
    | cons y s => rw [zn_nil_lt n (y :: s) _ _ hm (u8_lt _ _ (by simp) (by omega))]; rfl
  | cons x r ih =>
    cases m with
    | nil => rw [zn_nil_gt n (x :: r) _ _ hl (u8_lt _ _ (by simp) (by omega))]; rfl
    | cons y s =>
      obtain ⟨n, rfl⟩ : ∃ k, n = k + 1 := ⟨n - 1, by simp at hl; omega⟩
      have e1 : zn (n + 1) (x :: r) = x :: zn n r := by simp [zn]
      have e2 : zn (n + 1) (y :: s) = y :: zn n s := by simp [zn]
      rw [e1, e2]
      simp only [List.cons_append, cmpL, List.length_cons]
      by_cases hxy : x = y
      · rw [if_pos hxy, if_pos hxy]
        have := ih n (c + 1) s (by simpa using hl) (by simpa using hm) (by omega)
        rw [show c + (r.length + 1) = c + 1 + r.length by omega, show c + (s.length + 1) = c + 1 + s.length by omega]
        exact this
      · rw [if_neg hxy, if_neg hxy]

/-- An ordered text, group by group. -/
theorem ob_grp (l : List UInt8) : ob l = (zn 8 (l.take 8) ++ [UInt8.ofNat (247 + (l.take 8).length)]) ++ (if 8 ≤ l.length then ob (l.drop 8) else []) := by
  by_cases h : 8 ≤ l.length
  · rw [if_pos h]
    obtain ⟨k', e, e1, e2⟩ := obF_long (l.length / 8) l h (by omega)
    rw [ob, e1]
    have hk : k' = (l.drop 8).length / 8 := by simp; omega
    have h8 : (l.take 8).length = 8 := by simp; omega
    rw [hk, show obF ((l.drop 8).length / 8) (l.drop 8) = ob (l.drop 8) from rfl]
    simp only [zn, h8, Nat.sub_self, List.replicate_zero, List.append_nil]
    rfl
  · rw [if_neg h, ob, obF_short _ l (by omega), List.take_of_length_le (by omega), List.append_nil]
    rfl

theorem grp_len (l : List UInt8) : (zn 8 (l.take 8) ++ [UInt8.ofNat (247 + (l.take 8).length)]).length = 9 := by simp [zn]; omega
theorem take8_le (l : List UInt8) : (l.take 8).length ≤ 8 := by simp; omega

theorem ob_cmp (a b : List UInt8) : cmpL (ob a) (ob b) = cmpL a b := by
  obtain ⟨n, hn⟩ : ∃ n, a.length ≤ n := ⟨_, Nat.le_refl _⟩
  induction n using Nat.strongRecOn generalizing a b with
  | ind n ih =>
    rw [ob_grp a, ob_grp b, cmpL_app _ _ _ _ (by rw [grp_len, grp_len]), grp_cmp 8 247 _ _ (take8_le a) (take8_le b) (by decide), cmpL_take 8 a b]
    by_cases h : a.take 8 = b.take 8
    · rw [if_pos (by rw [h]), if_pos h]
      have hlen := congrArg List.length h
      simp only [List.length_take] at hlen
      by_cases ha : 8 ≤ a.length
      · have hb : 8 ≤ b.length := by omega
        rw [if_pos ha, if_pos hb]
        exact ih (n - 8) (by omega) (a.drop 8) (b.drop 8) (by simp; omega)
      · have hb : ¬ 8 ≤ b.length := by omega
        rw [if_neg ha, if_neg hb, List.drop_eq_nil_of_le (by omega), List.drop_eq_nil_of_le (by omega)]
    · have hg : ¬ (zn 8 (a.take 8) ++ [UInt8.ofNat (247 + (a.take 8).length)]) = zn 8 (b.take 8) ++ [UInt8.ofNat (247 + (b.take 8).length)] := by
        intro e
        have := grp_cmp 8 247 _ _ (take8_le a) (take8_le b) (by decide)
        rw [e, cmpL_self] at this
        exact h (cmpL_zero this.symm)
      rw [if_neg hg, if_neg h]

/-- None is the beginning of another. -/
theorem ob_free (a b x : List UInt8) (h : ob b = ob a ++ x) : a = b := by
  obtain ⟨n, hn⟩ : ∃ n, a.length ≤ n := ⟨_, Nat.le_refl _⟩
  induction n using Nat.strongRecOn generalizing a b with
  | ind n ih =>
    rw [ob_grp a, ob_grp b] at h
    have hi := List.append_inj (h.trans (List.append_assoc _ _ _)) (by rw [grp_len, grp_len])
    have h8 : a.take 8 = b.take 8 := by
      have := grp_cmp 8 247 _ _ (take8_le a) (take8_le b) (by decide)
      rw [hi.1, cmpL_self] at this
      exact cmpL_zero this.symm
    have hlen := congrArg List.length h8
    simp only [List.length_take] at hlen
    by_cases ha : 8 ≤ a.length
    · have hb : 8 ≤ b.length := by omega
      have h2 := hi.2
      rw [if_pos ha, if_pos hb] at h2
      have := ih (n - 8) (by omega) (a.drop 8) (b.drop 8) h2 (by simp; omega)
      rw [← List.take_append_drop 8 a, ← List.take_append_drop 8 b, h8, this]
    · have hb : ¬ 8 ≤ b.length := by omega
      rwa [List.take_of_length_le (by omega), List.take_of_length_le (by omega)] at h8

/-- Where none is the beginning of the other, what stands behind turns nothing. -/
theorem cmpL_free (p q x y : List UInt8) (h1 : ∀ z, q ≠ p ++ z) (h2 : ∀ z, p ≠ q ++ z) : cmpL (p ++ x) (q ++ y) = cmpL p q := by
  induction p generalizing q with
  | nil => exact absurd rfl (h1 q)
  | cons a p ih =>
    cases q with
    | nil => exact absurd rfl (h2 (a :: p))
    | cons b q =>
      simp only [List.cons_append, cmpL]
      by_cases hab : a = b
      · rw [if_pos hab, if_pos hab]
        exact ih q (fun z e => h1 z (by rw [hab, e]; rfl)) (fun z e => h2 z (by rw [hab, e]; rfl))
      · rw [if_neg hab, if_neg hab]

def cmpN (s t : Nat) : Int := if s < t then -1 else if t < s then 1 else 0

theorem be_mod (k n : Nat) : be k n = be k (n % 2 ^ (8 * k)) := by
  suffices H : ∀ j, j ≤ k → be j n = be j (n % 2 ^ (8 * k)) from H k (Nat.le_refl _)
  intro j
  induction j with
  | zero => intro _; rfl
  | succ j ih =>
    intro hj
    rw [be, be, ih (by omega)]
    congr 1
    apply UInt8.toNat_inj.1
    rw [UInt8.toNat_ofNat', UInt8.toNat_ofNat']
    have e : 2 ^ (8 * k) = 2 ^ (8 * j) * (256 * 2 ^ (8 * (k - j - 1))) := by
      rw [show (256 : Nat) = 2 ^ 8 from rfl, ← Nat.pow_add, ← Nat.pow_add]
      congr 1; omega
    rw [e, Nat.mod_mul_right_div_self]
    rw [Nat.mod_mul_right_mod]

theorem be_cmp (k s t : Nat) (hs : s < 2 ^ (8 * k)) (ht : t < 2 ^ (8 * k)) : cmpL (be k s) (be k t) = cmpN s t := by
  induction k generalizing s t with
  | zero =>
    have h1 : s = 0 := by simpa using hs
    have h2 : t = 0 := by simpa using ht
    subst h1; subst h2; rfl
  | succ k ih =>
    have hP : 0 < 2 ^ (8 * k) := Nat.pow_pos (by decide)
    have e : 2 ^ (8 * (k + 1)) = 2 ^ (8 * k) * 256 := by rw [show 8 * (k + 1) = 8 * k + 8 by omega, Nat.pow_add]
    rw [e] at hs ht
    have hs1 : s / 2 ^ (8 * k) < 256 := Nat.div_lt_of_lt_mul hs
    have ht1 : t / 2 ^ (8 * k) < 256 := Nat.div_lt_of_lt_mul ht
    rw [be, be, cmpL, be_mod k s, be_mod k t, ih _ _ (Nat.mod_lt _ hP) (Nat.mod_lt _ hP)]
    have ds := Nat.div_add_mod s (2 ^ (8 * k))
    have dt := Nat.div_add_mod t (2 ^ (8 * k))
    have ms := Nat.mod_lt s hP
    have mt := Nat.mod_lt t hP
    generalize s / 2 ^ (8 * k) = a at *
    generalize t / 2 ^ (8 * k) = b at *
    generalize s % 2 ^ (8 * k) = c at *
    generalize t % 2 ^ (8 * k) = d at *
    generalize 2 ^ (8 * k) = P at *
    by_cases hab : a = b
    · subst hab
      rw [if_pos rfl]
      unfold cmpN
      by_cases h1 : c < d
      · have h3 : s < t := by omega
        rw [if_pos h1, if_pos h3]
      · have h3 : ¬ s < t := by omega
        rw [if_neg h1, if_neg h3]
        by_cases h2 : d < c
        · have h4 : t < s := by omega
          rw [if_pos h2, if_pos h4]
        · have h4 : ¬ t < s := by omega
          rw [if_neg h2, if_neg h4]
    · have hne : ¬ UInt8.ofNat a = UInt8.ofNat b := fun e => by
        have := congrArg UInt8.toNat e
        rw [UInt8.toNat_ofNat', UInt8.toNat_ofNat'] at this
        omega
      rw [if_neg hne]
      unfold cmpN
      by_cases hlt : a < b
      · have hm : P * a + P ≤ P * b := by rw [← Nat.mul_succ]; exact Nat.mul_le_mul_left _ hlt
        rw [if_pos (u8_lt a b hlt ht1), if_pos (by omega)]
      · have hlt' : b < a := by omega
        have hm : P * b + P ≤ P * a := by rw [← Nat.mul_succ]; exact Nat.mul_le_mul_left _ hlt'
        rw [if_neg (UInt8.lt_asymm (u8_lt b a hlt' hs1)), if_neg (by omega), if_pos (by omega)]
end Go.Proofs.Ytnenfflkldpbgaa.M

/- What bytes.Compare answers of two slices of bytes: -1, 0, 1, byte by byte, the shorter one first. -/
namespace Go.Proofs.Ytnenfflkldpbgaa
open Go.RowKit
set_option linter.unusedVariables false
set_option maxRecDepth 100000

theorem cmpL_lib : ∀ (a b : List UInt8), Lib.compareBytes a b = M.cmpL a b
  | [], [] => rfl
  | [], _ :: _ => rfl
  | _ :: _, [] => rfl
  | x :: r, y :: s => by
    rw [Lib.compareBytes, M.cmpL, cmpL_lib r s]
    by_cases h : x = y
    · subst h
      rw [if_neg (UInt8.lt_irrefl _), if_neg (UInt8.lt_irrefl _), if_pos rfl]
    · rw [if_neg h]
      by_cases h1 : x < y
      · rw [if_pos h1, if_pos h1]
      · have h2 : y < x := by
          rw [UInt8.lt_iff_toNat_lt] at h1 ⊢
          have : x.toNat ≠ y.toNat := fun e => h (UInt8.toNat_inj.1 e)
          omega
        rw [if_neg h1, if_neg h1, if_pos h2]

theorem run_loadL {P : Program} (w : World) : ∀ (l : List UInt8) (a : Addr) (acc : ByteArray), (∀ j x, l[j]? = some x → w.cell? (a.add j) = some (.int .u8 (x.toNat : Int))) →
    (Extern.Bytes.loadBytes a l.length acc).run P w = .ok ⟨acc.data ++ l.toArray⟩ w
  | [], a, acc, _ => by simp [Extern.Bytes.loadBytes]
  | x :: l, a, acc, h => by
    have h0 : w.cell? a = some (.int .u8 (x.toNat : Int)) := by
      have := h 0 x rfl
      simpa [Addr.add] using this
    have ih := run_loadL (P := P) w l (a.add 1) (acc.push x) (fun j y hy => by
      have := h (j + 1) y (by simpa using hy)
      have e : (a.add 1).add j = a.add (j + 1) := by
        unfold Addr.add
        by_cases hj : j = 0
        · subst hj; simp
        · simp [hj]; omega
      rw [e]; exact this)
    have hx : (((x.toNat : Nat) : Int).toNat.toUInt8) = x := by simp
    simp only [List.length_cons, Extern.Bytes.loadBytes, Sem.run_bind, run_load, h0, Result.andThen, hx]
    rw [ih]
    congr 1
    apply ByteArray.ext
    simp [ByteArray.push]

theorem run_bytesOfL {P : Program} {w : World} {v : Value} {l : List UInt8} (h : Rd w v l) : (Extern.Bytes.bytesOf v).run P w = .ok ⟨l.toArray⟩ w := by
  rcases h.two with ⟨rfl, rfl⟩ | ⟨a, c, rfl, h1, h2, h3⟩
  · simp only [Extern.Bytes.bytesOf, Sem.run_pure]; rfl
  · simp only [Extern.Bytes.bytesOf]
    rw [run_loadL w l a .empty (fun j x hj => by
      obtain ⟨hl, rfl⟩ := List.getElem?_eq_some_iff.1 hj
      exact h3 j hl)]
    congr 1
    apply ByteArray.ext
    show (#[] : Array UInt8) ++ l.toArray = l.toArray
    simp

theorem run_compareL {P : Program} {w : World} {v u : Value} {l m : List UInt8} (h : Rd w v l) (k : Rd w u m) : (Extern.BytealgCompare.compare #[v, u]).run P w = .ok (.int .i64 (M.cmpL l m)) w := by
  change Sem.run P (do pure (goInt (Extern.BytealgCompare.cmp (← Extern.Bytes.bytesOf v) (← Extern.Bytes.bytesOf u)))) w = _
  simp only [Sem.run_bind, Sem.run_pure, run_bytesOfL h, run_bytesOfL k, Result.andThen]
  rw [Lib.cmp_eq]
  show Result.ok (goInt (Lib.compareBytes l m)) w = _
  rw [cmpL_lib]
  rfl

theorem bcompare_any {va vb : Value} {la lb : List UInt8} {w : World} (ha : Rd w va la) (hb : Rd w vb lb) :
    Calls Try.prog 48 #[va, vb] w fun e w' => e = .returned (.int .i64 (M.cmpL la lb)) ∧ w' = w := by
  have hr := run_compareL (P := Try.prog) ha hb
  obtain ⟨ao, ca, rfl, _⟩ := ha
  obtain ⟨bo, cb, rfl, _⟩ := hb
  go_enter Try.func48, Try.ntmps48
  go_wp2
  rw [run_callFunc_extern Try.func76 (by kernel_rfl) (by kernel_rfl) (by kernel_rfl) (e := Extern.BytealgCompare.compare) (by kernel_rfl), hr]
  simp only [Result.andThen]
  rw [Oper.upon_value]
  go_wp2
  go_ret
  exact ⟨rfl, rfl⟩
end Go.Proofs.Ytnenfflkldpbgaa

/- What bytes.Equal answers of two slices of bytes. -/
namespace Go.Proofs.Ytnenfflkldpbgaa
open Go.RowKit
set_option linter.unusedVariables false
set_option maxRecDepth 100000

theorem fold_bytes (l : List UInt8) (s : ByteArray) : (l.map (fun x => (x.toNat : Int))).foldl (fun r n => r.push (UInt8.ofNat n.toNat)) s = ⟨s.data ++ l.toArray⟩ := by
  induction l generalizing s with
  | nil => simp
  | cons x l ih =>
    rw [List.map_cons, List.foldl_cons, ih]
    apply ByteArray.ext
    simp [ByteArray.push]
theorem run_convL {P : Program} {w : World} {v : Value} {l : List UInt8} (h : Rd w v l) (src e dst : TypeId) (hs : P.underlying src = some (.slice e)) (he : P.underlying e = some (.int .u8)) (hd : P.underlying dst = some .string) : (convert src dst v).run P w = .ok (.string ⟨l.toArray⟩) w := by
  rcases h.two with ⟨rfl, rfl⟩ | ⟨a, c, rfl, h1, h2, h3⟩
  · rw [run_convert_bytes_nil w src e hs he 0 0 dst hd]; rfl
  · rw [run_convert_bytes_string w src dst e _ _ _ hs he hd, run_bytesToString w a l.length c (l.map (fun x => (x.toNat : Int))), fold_bytes]
    · congr 2
      apply ByteArray.ext
      show (#[] : Array UInt8) ++ l.toArray = l.toArray
      simp
    · rw [run_loadCells w a l.length (fun j => .int .u8 ((l[j]?.getD 0).toNat : Int)) (fun j hj => by rw [h3 j hj]; simp [hj])]
      congr 1
      apply Array.ext'
      apply List.ext_getElem?
      intro j
      by_cases hj : j < l.length <;> simp [hj]
theorem bequal_any {va vb : Value} {la lb : List UInt8} {w : World} (ha : Rd w va la) (hb : Rd w vb lb) :
    Calls Try.prog 68 #[va, vb] w fun e w' => e = .returned (.bool (decide (la = lb))) ∧ w' = w := by
  have h1 := run_convL (P := Try.prog) ha 23 5 9 (by kernel_rfl) (by kernel_rfl) (by kernel_rfl)
  have h2 := run_convL (P := Try.prog) hb 23 5 9 (by kernel_rfl) (by kernel_rfl) (by kernel_rfl)
  have h3 : (la == lb) = decide (la = lb) := by
    by_cases e : la = lb
    · subst e; simp
    · rw [decide_eq_false e]; simp [e]
  have HB : Hid _ := h3
  clear h3
  obtain ⟨ao, ca, rfl, _⟩ := ha
  obtain ⟨bo, cb, rfl, _⟩ := hb
  go_enter Try.func68, Try.ntmps68
  go_wp2_with fail
  go_ret
  refine ⟨?_, rfl⟩
  show Ending.returned (.bool (la == lb)) = _
  rw [HB.out]
end Go.Proofs.Ytnenfflkldpbgaa

/- The library's slices.SortFunc at this program's spans: the shelf's laying, in plain words. -/
namespace Go.Proofs.Ytnenfflkldpbgaa
open Go.RowKit Go.Shelf

def Try.sortS_ren : Go.Shelf.Ren := ⟨fun | 6 => 66 | 15 => 85 | 14 => 84 | 28 => 99 | 29 => 100 | 20 => 91 | 21 => 92 | 22 => 93 | 23 => 94 | 24 => 95 | 25 => 96 | 26 => 97 | 27 => 98 | 46 => 103 | 47 => 104 | 48 => 105 | 49 => 106 | 50 => 107 | 57 => 116 | n => n, fun | 22 => 91 | 24 => 94 | 25 => 95 | 3 => 3 | 39 => 97 | 0 => 0 | 53 => 132 | 55 => 22 | 4 => 4 | 46 => 125 | 45 => 124 | 50 => 129 | 5 => 5 | 9 => 9 | 66 => 136 | 70 => 140 | 76 => 147 | 77 => 148 | n => n, fun | n => n⟩
theorem Try.sortS : Go.Proofs.SlLaysF0.n6 Try.prog Try.sortS_ren := {
  mixed := by kernel_rfl
  f6 := ⟨Try.f66.name, by decide, Try.func66.trans (congrArg some (by kernel_rfl))⟩
  f14 := ⟨Try.f84.name, by decide, Try.func84.trans (congrArg some (by kernel_rfl))⟩
  f15 := Try.func85.trans (congrArg some (by kernel_rfl))
  f20 := ⟨Try.f91.name, by decide, Try.func91.trans (congrArg some (by kernel_rfl))⟩
  f21 := ⟨Try.f92.name, by decide, Try.func92.trans (congrArg some (by kernel_rfl))⟩
  f22 := ⟨Try.f93.name, by decide, Try.func93.trans (congrArg some (by kernel_rfl))⟩
  f23 := ⟨Try.f94.name, by decide, Try.func94.trans (congrArg some (by kernel_rfl))⟩
  f24 := ⟨Try.f95.name, by decide, Try.func95.trans (congrArg some (by kernel_rfl))⟩
  f25 := ⟨Try.f96.name, by decide, Try.func96.trans (congrArg some (by kernel_rfl))⟩
  f26 := ⟨Try.f97.name, by decide, Try.func97.trans (congrArg some (by kernel_rfl))⟩
  f27 := ⟨Try.f98.name, by decide, Try.func98.trans (congrArg some (by kernel_rfl))⟩
  f28 := Try.func99.trans (congrArg some (by kernel_rfl))
  f29 := Try.func100.trans (congrArg some (by kernel_rfl))
  f46 := ⟨Try.f103.name, by decide, Try.func103.trans (congrArg some (by kernel_rfl))⟩
  f47 := Try.func104.trans (congrArg some (by kernel_rfl))
  f48 := Try.func105.trans (congrArg some (by kernel_rfl))
  f49 := ⟨Try.f106.name, by decide, Try.func106.trans (congrArg some (by kernel_rfl))⟩
  f50 := ⟨Try.f107.name, by decide, Try.func107.trans (congrArg some (by kernel_rfl))⟩
  f57 := ⟨Try.f116.name, by decide, Try.func116.trans (congrArg some (by kernel_rfl))⟩
  t0 := Try.underlying0
  a0 := Try.isAgg0
  z0 := Try.sizeOf0
  v0 := Try.zeroValue0
  t3 := Try.underlying3
  a3 := Try.isAgg3
  z3 := Try.sizeOf3
  v3 := Try.zeroValue3
  t4 := Try.underlying4
  a4 := Try.isAgg4
  z4 := Try.sizeOf4
  v4 := Try.zeroValue4
  t5 := Try.underlying5
  a5 := Try.isAgg5
  z5 := Try.sizeOf5
  v5 := Try.zeroValue5
  t9 := Try.underlying9
  a9 := Try.isAgg9
  z9 := Try.sizeOf9
  v9 := Try.zeroValue9
  t22 := Try.underlying91
  a22 := Try.isAgg91
  z22 := Try.sizeOf91
  v22 := Try.zeroValue91
  t25 := Try.underlying95
  a25 := Try.isAgg95
  z25 := Try.sizeOf95
  v25 := Try.zeroValue95
  t39 := Try.underlying97
  a39 := Try.isAgg97
  z39 := Try.sizeOf97
  v39 := Try.zeroValue97
  t45 := Try.underlying124
  a45 := Try.isAgg124
  z45 := Try.sizeOf124
  v45 := Try.zeroValue124
  t46 := Try.underlying125
  a46 := Try.isAgg125
  z46 := Try.sizeOf125
  v46 := Try.zeroValue125
  t50 := Try.underlying129
  a50 := Try.isAgg129
  z50 := Try.sizeOf129
  v50 := Try.zeroValue129
  t53 := Try.underlying132
  a53 := Try.isAgg132
  z53 := Try.sizeOf132
  v53 := Try.zeroValue132
  t55 := Try.underlying22
  a55 := Try.isAgg22
  z55 := Try.sizeOf22
  v55 := Try.zeroValue22
  t66 := Try.underlying136
  a66 := Try.isAgg136
  z66 := Try.sizeOf136
  v66 := Try.zeroValue136
  t70 := Try.underlying140
  a70 := Try.isAgg140
  z70 := Try.sizeOf140
  v70 := Try.zeroValue140
  t76 := Try.underlying147
  a76 := Try.isAgg147
  z76 := Try.sizeOf147
  v76 := Try.zeroValue147
  t77 := Try.underlying148
  a77 := Try.isAgg148
  z77 := Try.sizeOf148
  v77 := Try.zeroValue148 }

end Go.Proofs.Ytnenfflkldpbgaa

/- What the document's own Varint makes. -/
namespace Go.Proofs.Ytnenfflkldpbgaa
open Go.RowKit
set_option linter.unusedVariables false

set_option maxRecDepth 100000 in
theorem rvarint_any (n : Nat) (w : World) (hn : n < 18446744073709551616) :
    Calls Try.prog 56 #[.int .u64 n] w fun e w' => ∃ v, e = .returned v ∧ Ow w.heap.size w' v (M.vi n) ∧ Below w.heap.size w w' := by
  go_enter Try.func56, Try.ntmps56
  go_wp2
  go_loopw [0, 3] (fun m out wr => ∃ (k q : Nat), k ≤ 9 ∧ m = .int .u64 q ∧ q < M.qb k ∧ Below w.heap.size w wr ∧ ∃ done, done.length + k = 9 ∧ Ow w.heap.size wr out done ∧ done ++ M.viF k q = M.vi n) (fun m _ _ => (intOf m).toNat)
  case atStart => exact ⟨9, n, Nat.le_refl _, rfl, by simpa [M.qb] using hn, Below.refl _ _, [], rfl, Ow.nil _ _, rfl⟩
  case round =>
    obtain ⟨k, q, hk, rfl, hq, hb, done, hdl, ho, hd⟩ := hrel
    have HD : Hid _ := hd
    have HQ : Hid _ := hq
    have HL : Hid _ := hdl
    clear hd hq hdl
    have hq : q < 18446744073709551616 := by
      exact Nat.lt_of_lt_of_le HQ.out (M.qb_le k)
    by_cases hlt : q < 128
    · go_wp2_with (first | (at_builtin; refine wpList_app rfl _ _ rfl w.heap.size _ done rfl (ho.alloc _) _ [UInt8.ofNat q] rfl (rd_one _ _ _ ?hz _) ?hB ?hlen ?_; rotate_right; intro v' w' ho' hb' hg') | fail)
      case hz => rw [M.u8_ofNat]; omega
      case hB => have := hb.size; simp; omega
      case hlen => have := HL.out; simp; omega
      go_ret
      refine ⟨_, rfl, ?_, hb.trans (((Below.refl _ _).alloc hb.size _).trans hb')⟩
      have e : M.viF k q = [UInt8.ofNat q] := by
        cases k with
        | zero => rfl
        | succ k => simp only [M.viF]; rw [if_pos hlt]
      rw [← HD.out, e]; exact ho'
    · have hlt' : 128 ≤ q := by omega
      have HV : Hid (1 ≤ k ∧ q / 128 < M.qb (k - 1) ∧ M.viF k q = UInt8.ofNat (q % 128 + 128) :: M.viF (k - 1) (q / 128)) := by
        cases k with
        | zero => have := HQ.out; rw [M.qb_zero] at this; omega
        | succ k =>
          refine ⟨by omega, ?_, ?_⟩
          · have := HQ.out; rw [M.qb_succ k hk] at this; simp only [Nat.add_sub_cancel]; omega
          · rw [M.viF, if_neg hlt]; rfl
      go_wp2_with (first | (at_builtin; refine wpList_app rfl _ _ rfl w.heap.size _ done rfl (ho.alloc _) _ [UInt8.ofNat (q % 128 + 128)] rfl (rd_one _ _ _ ?hz _) ?hB ?hlen ?_; rotate_right; intro v' w' ho' hb' hg') | fail)
      case hz => rw [M.u8_ofNat]; omega
      case hB => have := hb.size; simp; omega
      case hlen => have := HL.out; simp; omega
      refine ⟨⟨k - 1, q / 128, by omega, by go_num, ?_, hb.trans (((Below.refl _ _).alloc hb.size _).trans hb'), done ++ [UInt8.ofNat (q % 128 + 128)], ?_, ho', ?_⟩, by simp [intOf]; omega⟩
      · exact (HV.out).2.1
      · have := HL.out; have := (HV.out).1; simp; omega
      · rw [← HD.out, (HV.out).2.2]; simp

end Go.Proofs.Ytnenfflkldpbgaa

/- What bytes.Clone answers of any bytes. -/
namespace Go.Proofs.Ytnenfflkldpbgaa
open Go.RowKit
set_option linter.unusedVariables false
set_option maxRecDepth 100000

theorem take_snoc (l : List UInt8) (k : Nat) (h : k < l.length) : l.take (k + 1) = l.take k ++ [l[k]] := by
  rw [List.take_succ_eq_append_getElem h]
theorem clone_any {v : Value} {l : List UInt8} {w : World} (hr : Rd w v l) (hl : l.length ≤ 140737488355328) :
    Calls Try.prog 62 #[v] w fun e w' => ∃ v', e = .returned v' ∧ Ow w.heap.size w' v' l ∧ Below w.heap.size w w' := by
  have q : ∀ (w : World) (a : Option Addr) (n c n' c' : Nat), (binOp .eql 23 (.slice a n c) (.slice none n' c')).run Try.prog w = .ok (.bool a.isNone) w := fun w a n c n' c' => Lib.run_eql_slice_nil w _ _ a n c n' c' Try.underlying23
  rcases hr.two with ⟨rfl, rfl⟩ | ⟨a, c, hv, h1, h2, h3⟩
  · go_enter Try.func62, Try.ntmps62
    go_wp2
    go_ret
    exact ⟨_, rfl, Ow.nil _ _, Below.refl _ _⟩
  · subst hv
    go_enter Try.func62, Try.ntmps62
    go_wp2_with (first | (at_builtin; refine wpList_app rfl _ _ rfl w.heap.size _ [] rfl (Ow.lit0 _ _ (Nat.le_refl _)) _ l rfl (hr.alloc _) (by simp) (by simpa using hl) ?_; intro v' w' ho' hb' hg') | fail)
    go_ret
    exact ⟨_, rfl, ho', ((Below.refl _ _).alloc (Nat.le_refl _) _).trans hb'⟩
end Go.Proofs.Ytnenfflkldpbgaa
