/- Plain mathematics of bytes and numbers: what the codec's calls answer, as functions on lists of bytes. No program is named here. -/
import Derived.Test.YtkgpgfpclcibmaaRows
import Derived.WalkKit
import Derived.WalkSpells
import Derived.WalkLawsBesides
import Derived.BigQuiet
import Derived.Deep.QuietTactic
import Derived.Laws.AppendOwnNone
import Derived.Maps.OwnSet
import Derived.StringKeys
import Derived.Carry
import Derived.Laws.EntriesVeiled
import Derived.Lib.SliceRun
namespace Go.Proofs.Ytkgpgfpclcibmaa.M

/-- The lowest k bytes of n, the highest first. -/
def be : Nat → Nat → List UInt8
  | 0, _ => []
  | k + 1, n => UInt8.ofNat (n / 2 ^ (8 * k)) :: be k n

theorem be_length (k n : Nat) : (be k n).length = k := by
  induction k with
  | zero => rfl
  | succ k ih => simp [be, ih]

theorem u8_ofNat (n : Nat) : ((UInt8.ofNat n).toNat : Int) = (n : Int) % 256 := by
  rw [UInt8.toNat_ofNat']; omega

/-- n in as few bytes as can be, seven bits a byte, the lowest first; at most k + 1 bytes. -/
def viF : Nat → Nat → List UInt8
  | 0, n => [UInt8.ofNat n]
  | k + 1, n => if n < 128 then [UInt8.ofNat n] else UInt8.ofNat (n % 128 + 128) :: viF k (n / 128)
def vi (n : Nat) : List UInt8 := viF 9 n

theorem viF_length (k n : Nat) : (viF k n).length ≤ k + 1 := by
  induction k generalizing n with
  | zero => simp [viF]
  | succ k ih =>
    unfold viF
    split
    · simp
    · have := ih (n / 128); simp only [List.length_cons]; omega

/-- More rounds than are needed turn nothing. -/
theorem viF_more (k n : Nat) (h : n < 128 ^ (k + 1)) : viF (k + 1) n = viF k n := by
  induction k generalizing n with
  | zero => simp only [viF]; rw [if_pos (by simpa using h)]
  | succ k ih =>
    rw [viF]; conv => rhs; rw [viF]
    split
    · rfl
    · rw [ih]
      rw [Nat.pow_succ] at h
      exact Nat.div_lt_of_lt_mul (by rw [Nat.mul_comm]; exact h)

/-- What is left of a number of 64 bits ahead of its last k + 1 bytes of seven bits. -/
def qb (k : Nat) : Nat := 2 ^ (64 - 7 * (9 - k))
theorem qb_le (k : Nat) : qb k ≤ 18446744073709551616 := Nat.pow_le_pow_right (by decide) (show 64 - 7 * (9 - k) ≤ 64 by omega)
theorem qb_zero : qb 0 = 2 := rfl
theorem qb_succ (k : Nat) (h : k + 1 ≤ 9) : qb (k + 1) = qb k * 128 := by
  unfold qb
  rw [show 64 - 7 * (9 - (k + 1)) = 64 - 7 * (9 - k) + 7 by omega, Nat.pow_add]

theorem not64 (n : Nat) (h : n < 18446744073709551616) : 18446744073709551615 ^^^ n = 18446744073709551615 - n := by
  have e : (BitVec.allOnes 64 ^^^ BitVec.ofNat 64 n).toNat = (~~~ (BitVec.ofNat 64 n)).toNat := by rw [BitVec.allOnes_xor]
  rw [BitVec.toNat_xor, BitVec.toNat_not, BitVec.toNat_ofNat, BitVec.toNat_allOnes, Nat.mod_eq_of_lt (by simpa using h)] at e
  simpa using e

theorem or128 (x : Nat) (h : x < 256) : x ||| 128 = x % 128 + 128 := by
  have : ∀ y : Fin 256, y.val ||| 128 = y.val % 128 + 128 := by decide +kernel
  exact this ⟨x, h⟩

/-- The number whose bytes these are, the highest first. -/
def num (l : List UInt8) : Nat := l.foldl (fun n x => n * 256 + x.toNat) 0
theorem num_snoc (l : List UInt8) (x : UInt8) : num (l ++ [x]) = num l * 256 + x.toNat := by simp [num]
theorem num_lt_from (l : List UInt8) : ∀ n, l.foldl (fun n x => n * 256 + x.toNat) n < (n + 1) * 256 ^ l.length := by
  induction l with
  | nil => intro n; simp
  | cons x l ih =>
    intro n
    rw [List.foldl_cons]
    refine Nat.lt_of_lt_of_le (ih _) ?_
    rw [List.length_cons, Nat.pow_succ', ← Nat.mul_assoc]
    exact Nat.mul_le_mul_right _ (by have := x.toNat_lt; omega)
theorem num_lt (l : List UInt8) : num l < 256 ^ l.length := by simpa [num] using num_lt_from l 0

/-- The number of seven bits a byte, the lowest first. -/
def val : List UInt8 → Nat
  | [] => 0
  | x :: r => x.toNat % 128 + 128 * val r
theorem val_lt (l : List UInt8) : val l < 128 ^ l.length := by
  induction l with
  | nil => simp [val]
  | cons x l ih =>
    rw [val, List.length_cons, Nat.pow_succ']
    omega
theorem val_append (a b : List UInt8) : val (a ++ b) = val a + 128 ^ a.length * val b := by
  induction a with
  | nil => simp [val]
  | cons x a ih =>
    rw [List.cons_append, val, val, ih, List.length_cons, Nat.pow_succ', Nat.mul_add, Nat.mul_assoc]
    omega

/-- How many of the first k bytes are followed by another one. -/
def cont : Nat → List UInt8 → Nat
  | 0, _ => 0
  | _ + 1, [] => 0
  | k + 1, x :: r => if 128 ≤ x.toNat then cont k r + 1 else 0

theorem cont_le (k : Nat) (l : List UInt8) : cont k l ≤ k ∧ cont k l ≤ l.length := by
  induction k generalizing l with
  | zero => simp [cont]
  | succ k ih =>
    cases l with
    | nil => simp [cont]
    | cons x l =>
      have := ih l
      simp only [cont, List.length_cons]
      split <;> omega

/-- It is k, if the first k are so, and there is no other one, or it is not. -/
theorem cont_eq (m k : Nat) (l : List UInt8) (hk : k ≤ m) (hl : k ≤ l.length) (h1 : ∀ j, (h : j < k) → 128 ≤ (l[j]'(by omega)).toNat) (h2 : k = m ∨ k = l.length ∨ ∃ h : k < l.length, l[k].toNat < 128) : cont m l = k := by
  induction k generalizing m l with
  | zero =>
    cases m with
    | zero => rfl
    | succ m =>
      cases l with
      | nil => rfl
      | cons x l =>
        rcases h2 with h2 | h2 | ⟨_, h2⟩
        · omega
        · simp at h2
        · simp only [cont]; rw [if_neg]; simp at h2; omega
  | succ k ih =>
    obtain ⟨m, rfl⟩ : ∃ m', m = m' + 1 := ⟨m - 1, by omega⟩
    cases l with
    | nil => simp at hl
    | cons x l =>
      have hx := h1 0 (by omega)
      simp at hx
      simp only [cont]
      rw [if_pos hx, ih m l (by omega) (by simpa using hl) (fun j hj => by have := h1 (j + 1) (by omega); simpa using this)]
      rcases h2 with h2 | h2 | ⟨h, h2⟩
      · exact .inl (by omega)
      · exact .inr (.inl (by simpa using h2))
      · exact .inr (.inr ⟨by simpa using h, by simpa using h2⟩)

/-- What a number of seven bits a byte is read as: the number, what stands behind, the error (0: none; 10: too short; 12: not the form). -/
def tv (l : List UInt8) : Nat × List UInt8 × Nat :=
  let s := cont 10 l
  if s = 10 then (0, [], 12)
  else if l.length ≤ s then (0, [], 10)
  else if 0 < s ∧ (l.getD s 0).toNat = 0 ∨ s = 9 ∧ 1 < (l.getD s 0).toNat then (0, [], 12)
  else (val (l.take (s + 1)), l.drop (s + 1), 0)

/-- One round of the sum. -/
def st (c : Nat) : Nat := (c / 2) ^^^ (c % 2 * 3988292384)
def st8 (c : Nat) : Nat := st (st (st (st (st (st (st (st c)))))))
def crcF (c : Nat) (l : List UInt8) : Nat := l.foldl (fun c x => st8 (c ^^^ x.toNat)) c
def crc (l : List UInt8) : Nat := 4294967295 ^^^ crcF 4294967295 l

def stN : Nat → Nat → Nat
  | 0, c => c
  | k + 1, c => stN k (st c)
theorem stN_eight (c : Nat) : stN 8 c = st8 c := rfl
theorem st_lt (c : Nat) (h : c < 4294967296) : st c < 4294967296 := by
  unfold st
  refine Nat.xor_lt_two_pow (n := 32) (by omega) ?_
  have : c % 2 < 2 := Nat.mod_lt _ (by decide)
  omega
theorem st8_lt (c : Nat) (h : c < 4294967296) : st8 c < 4294967296 := by
  unfold st8
  repeat (apply st_lt)
  exact h
theorem xor_lt (c x : Nat) (h : c < 4294967296) (hx : x < 256) : c ^^^ x < 4294967296 := Nat.xor_lt_two_pow (n := 32) h (by omega)
theorem crcF_lt (l : List UInt8) : ∀ c, c < 4294967296 → crcF c l < 4294967296 := by
  induction l with
  | nil => intro c h; exact h
  | cons x l ih =>
    intro c h
    exact ih _ (st8_lt _ (xor_lt _ _ h x.toNat_lt))
theorem crc_lt (l : List UInt8) : crc l < 4294967296 := Nat.xor_lt_two_pow (n := 32) (by decide) (crcF_lt l _ (by decide))
theorem crcF_snoc (c : Nat) (l : List UInt8) (x : UInt8) : crcF c (l ++ [x]) = st8 (crcF c l ^^^ x.toNat) := by simp [crcF]

/-- A frame, and what is read out of one: the bytes, what stands behind, the error. -/
def frame (l : List UInt8) : List UInt8 := vi l.length ++ be 4 (crc l) ++ l
def part (l : List UInt8) (n : Nat) : List UInt8 × List UInt8 × Nat := if l.length < n then ([], [], 10) else (l.take n, l.drop n, 0)
def tf (l : List UInt8) : List UInt8 × List UInt8 × Nat :=
  let r := tv l
  if r.2.2 ≠ 0 then ([], [], r.2.2)
  else if r.2.1.length < 4 then ([], [], 10)
  else if (r.2.1.drop 4).length < r.1 then ([], [], 10)
  else if crc ((r.2.1.drop 4).take r.1) ≠ num (r.2.1.take 4) then ([], [], 11)
  else ((r.2.1.drop 4).take r.1, (r.2.1.drop 4).drop r.1, 0)

end Go.Proofs.Ytkgpgfpclcibmaa.M

/- My own words for memory, used by all walks of this seat: 'Rd w v l': the slice value v reads in the world w as the bytes l. Nothing of the program is named here. -/
namespace Go.Proofs.Ytkgpgfpclcibmaa
open Go.RowKit
set_option linter.unusedVariables false

/-- The cells of a list of bytes. -/
def cel (l : List UInt8) : List Value := l.map fun x => Value.int .u8 (x.toNat : Int)

theorem cel_length (l : List UInt8) : (cel l).length = l.length := by simp [cel]
theorem cel_append (a b : List UInt8) : cel (a ++ b) = cel a ++ cel b := by simp [cel]
theorem cel_get (l : List UInt8) (i : Nat) (h : i < l.length) : (cel l)[i]? = some (.int .u8 (l[i].toNat : Int)) := by simp [cel, h]
theorem cel_one (l : List UInt8) : ∀ u ∈ cel l, u.oneCell' = true := by
  intro u hu
  obtain ⟨_, _, rfl⟩ := List.mem_map.1 hu
  rfl

/-- The slice value v reads as the bytes l. -/
def Rd (w : World) (v : Value) (l : List UInt8) : Prop :=
  ∃ ao c, v = .slice ao l.length c ∧ l.length ≤ c ∧ c ≤ maxLen ∧ (ao = none → c = 0) ∧ ∀ i, (h : i < l.length) → ∃ a, ao = some a ∧ w.cell? (a.add i) = some (.int .u8 (l[i].toNat : Int))

theorem Rd.two {w : World} {v : Value} {l : List UInt8} (h : Rd w v l) :
    (v = .slice none 0 0 ∧ l = []) ∨ ∃ a c, v = .slice (some a) l.length c ∧ l.length ≤ c ∧ c ≤ maxLen ∧ ∀ i, (h : i < l.length) → w.cell? (a.add i) = some (.int .u8 (l[i].toNat : Int)) := by
  obtain ⟨ao, c, hv, h1, h2, h3, h4⟩ := h
  cases ao with
  | none =>
    have hc := h3 rfl
    have hl : l = [] := List.length_eq_zero_iff.1 (by omega)
    subst hl; subst hc
    exact .inl ⟨hv, rfl⟩
  | some a =>
    refine .inr ⟨a, c, hv, h1, h2, fun i hi => ?_⟩
    obtain ⟨a', e, hc⟩ := h4 i hi
    obtain rfl := Option.some.inj e
    exact hc

theorem Rd.mk {w : World} {a : Addr} {n c : Nat} {l : List UInt8} (hn : n = l.length) (h1 : l.length ≤ c) (h2 : c ≤ maxLen) (h3 : ∀ i, (h : i < l.length) → w.cell? (a.add i) = some (.int .u8 (l[i].toNat : Int))) : Rd w (.slice (some a) n c) l :=
  ⟨some a, c, by rw [hn], h1, h2, (fun h => by cases h), fun i hi => ⟨a, rfl, h3 i hi⟩⟩

theorem Rd.nil (w : World) : Rd w (.slice none 0 0) [] := ⟨none, 0, rfl, by simp, by simp, fun _ => rfl, fun i hi => by simp at hi⟩

theorem add_zero (a : Addr) : a.add 0 = a := rfl
theorem map_add_zero (ao : Option Addr) : ao.map (fun a => a.add 0) = ao := by cases ao <;> rfl

/-- A slice of the call's own, in new memory from block B on. -/
def Ow (B : Nat) (w : World) (v : Value) (l : List UInt8) : Prop := w.ownsRow B 5 1 v l.length (cel l)

/-- Two values that own no block together. -/
def Apart (v u : Value) : Prop := v.ownBlock = none ∨ v.ownBlock ≠ u.ownBlock

theorem Rd.len {w : World} {v : Value} {l : List UInt8} (h : Rd w v l) : l.length ≤ maxLen := by
  obtain ⟨ao, c, _, h1, h2, _⟩ := h
  omega

theorem add_block (a : Addr) (i : Nat) : (a.add i).block = a.block := by
  unfold Addr.add; split <;> rfl

theorem Rd.below {B : Nat} {w w' : World} {v : Value} {l : List UInt8} (h : Rd w v l) (hb : Below B w w') (hB : w.heap.size ≤ B) : Rd w' v l := by
  obtain ⟨ao, c, h0, h1, h2, h3, h4⟩ := h
  refine ⟨ao, c, h0, h1, h2, h3, fun i hi => ?_⟩
  obtain ⟨a, e, hc⟩ := h4 i hi
  have hlt := World.block_lt_of_cell? w _ hc
  exact ⟨a, e, by rw [hb.cell (by omega)]; exact hc⟩

/-- What two worlds with the same memory read is the same. -/
theorem Rd.drewN {w : World} {v : Value} {l : List UInt8} (h : Rd w v l) (n : Nat) : Rd (w.drewN n) v l := h.below (below_drewN (Below.refl _ _) n) (Nat.le_refl _)
theorem Rd.redrew {w : World} {n : Nat} {v : Value} {l : List UInt8} (h : Rd (w.drewN n) v l) (m : Nat) : Rd (w.drewN m) v l := h
theorem Rd.alloc {w : World} {v : Value} {l : List UInt8} (h : Rd w v l) (o : Obj) : Rd (w.alloc o) v l := h.below ((Below.refl _ _).alloc (Nat.le_refl _) o) (Nat.le_refl _)

/-- A piece of what is read: v[i:j]. -/
theorem Rd.piece {w : World} {ao : Option Addr} {n c : Nat} {l : List UInt8} (h : Rd w (.slice ao n c) l) (i j : Nat) (hij : i ≤ j) (hj : j ≤ l.length) (ao' : Option Addr)
    (ha : (c = i → ao' = ao) ∧ (¬ c = i → ao' = ao.map (fun a => a.add i))) : Rd w (.slice ao' (j - i) (c - i)) ((l.take j).drop i) := by
  obtain ⟨ao0, c0, e, h1, h2, h3, h4⟩ := h
  simp only [Value.slice.injEq] at e
  obtain ⟨rfl, rfl, rfl⟩ := e
  have hlen : ((l.take j).drop i).length = j - i := by simp; omega
  refine ⟨ao', c - i, by rw [hlen], by rw [hlen]; omega, by omega, fun hn => ?_, fun k hk => ?_⟩
  · by_cases hc : c = i
    · omega
    · rw [ha.2 hc] at hn
      have : ao = none := by cases ao <;> simp_all
      have := h3 this; omega
  · rw [hlen] at hk
    obtain ⟨a, rfl, hc⟩ := h4 (i + k) (by omega)
    have hne : ¬ c = i := by omega
    refine ⟨a.add i, by rw [ha.2 hne]; rfl, ?_⟩
    have e2 : (a.add i).add k = a.add (i + k) := by
      unfold Addr.add
      by_cases hi : i = 0
      · subst hi; simp
      · by_cases hk0 : k = 0
        · subst hk0; simp
        · simp only [hi, hk0, if_false]
          rw [if_neg (by omega)]
          simp
    rw [e2, hc]
    simp

theorem Rd.pre {w : World} {ao : Option Addr} {n c : Nat} {l : List UInt8} (h : Rd w (.slice ao n c) l) (j : Nat) (hj : j ≤ l.length) : Rd w (.slice ao j c) (l.take j) := by
  have := h.piece 0 j (Nat.zero_le _) hj ao ⟨fun _ => rfl, fun _ => (map_add_zero ao).symm⟩
  simpa using this
theorem Rd.post {w : World} {ao : Option Addr} {n c : Nat} {l : List UInt8} (h : Rd w (.slice ao n c) l) (i : Nat) (hi : i ≤ l.length) (ao' : Option Addr)
    (ha : (c = i → ao' = ao) ∧ (¬ c = i → ao' = ao.map (fun a => a.add i))) : Rd w (.slice ao' (l.length - i) (c - i)) (l.drop i) := by
  have := h.piece i l.length hi (Nat.le_refl _) ao' ha
  simpa using this

theorem Rd.cong {w : World} {x x' : Option Addr} {n n' c c' : Nat} {l : List UInt8} (h : Rd w (.slice x n c) l) (hx : x' = x) (hn : n' = n) (hc : c' = c) : Rd w (.slice x' n' c') l := by
  subst hx; subst hn; subst hc; exact h

theorem Ow.rd {B : Nat} {w : World} {v : Value} {l : List UInt8} (h : Ow B w v l) : Rd w v l := by
  have h' := h
  obtain ⟨_, h2⟩ := h
  rcases h2 with ⟨hv, h0⟩ | ⟨g, cap, cur, hv, hg, hh, hn, hcap, hsz, htake⟩
  · obtain rfl := List.length_eq_zero_iff.1 h0
    subst hv
    exact Rd.nil _
  · subst hv
    refine Rd.mk rfl hn hcap (fun i hi => ?_)
    rw [Addr.add_lit, Nat.zero_add]
    unfold Ow at h'
    rw [h'.cellAt i (by omega), cel_get l i hi]

theorem Ow.below {B C : Nat} {w w' : World} {v : Value} {l : List UInt8} (h : Ow B w v l) (hb : Below C w w') (hC : w.heap.size ≤ C) : Ow B w' v l := by
  obtain ⟨h1, h2⟩ := h
  refine ⟨h1, ?_⟩
  rcases h2 with h2 | ⟨g, cap, cur, hv, hg, hh, r⟩
  · exact .inl h2
  · refine .inr ⟨g, cap, cur, hv, hg, ?_, r⟩
    have hlt : g < w.heap.size := (Array.getElem?_eq_some_iff.1 hh).1
    rw [hb.block g (by omega)]; exact hh

theorem Ow.apart {B B' : Nat} {w w' : World} {v u : Value} {l m : List UInt8} (h : Ow B w v l) (k : Ow B' w' u m) (hB : w.heap.size ≤ B') : Apart v u := by
  by_cases e : v.ownBlock = none
  · exact .inl e
  · refine .inr fun e2 => ?_
    obtain ⟨b, hb⟩ := Option.ne_none_iff_exists'.1 e
    have h1 := (World.ownsRow.lt h b hb).2
    have h2 := (World.ownsRow.lt k b (by rw [← e2]; exact hb)).1
    omega
theorem Ow.mono {B B' : Nat} {w : World} {v : Value} {l : List UInt8} (h : Ow B w v l) (hB : B' ≤ B) : Ow B' w v l := by
  obtain ⟨h1, h2⟩ := h
  refine ⟨h1, ?_⟩
  rcases h2 with h2 | ⟨g, cap, cur, hv, hg, r⟩
  · exact .inl h2
  · exact .inr ⟨g, cap, cur, hv, by omega, r⟩

theorem Ow.alloc {B : Nat} {w : World} {v : Value} {l : List UInt8} (h : Ow B w v l) (o : Obj) : Ow B (w.alloc o) v l := World.ownsRow.alloc h o
theorem Ow.drew {B : Nat} {w : World} {v : Value} {l : List UInt8} (h : Ow B w v l) : Ow B w.drew v l := World.ownsRow.drew h
theorem Ow.nil (B : Nat) (w : World) : Ow B w (.slice none 0 0) [] := World.ownsRow_nil _ _ _ _

theorem Ow.lit0 (B : Nat) (w : World) (hB : B ≤ w.heap.size) : Ow B (w.alloc (.cells #[] 5)) (.slice (some ⟨w.heap.size, 0, none⟩) 0 0) [] := World.ownsRow_made w #[] 0 hB (by simp) rfl
theorem ret_int {k : IntKind} {a b : Int} (h : a = b) : Ending.returned (.int k a) = .returned (.int k b) := by rw [h]

theorem Below.tr {w w' w'' : World} (h : Below w.heap.size w w') (k : Below w'.heap.size w' w'') : Below w.heap.size w w'' := h.trans (k.mono h.size)

theorem Below.drN {B : Nat} {a w : World} (h : Below B a w) (n : Nat) : Below B a (w.drewN n) := below_drewN h n

theorem Try.cells5 : Try.prog.cellsOf 5 = 1 := by kernel_rfl
theorem Try.info5 : (Try.prog.info? 5).map (fun i => (i.zero, i.size, i.bytes)) = some (some (.int .u8 0), 1, 1) := by kernel_rfl


/-- What is read in a slice of one new cell. -/
theorem rd_one (w : World) (z : Int) (b : UInt8) (hz : z = (b.toNat : Int)) (t : TypeId) : Rd (w.alloc (.cells #[.int .u8 z] t)) (.slice (some ⟨w.heap.size, 0, none⟩) 1 1) [b] := by
  refine Rd.mk rfl (by simp) (by simp [maxLen]) (fun i hi => ?_)
  obtain rfl : i = 0 := by simpa using hi
  rw [show (⟨w.heap.size, 0, none⟩ : Addr).add 0 = ⟨w.heap.size, 0, none⟩ from rfl, World.cell?_alloc_at _ _ _ _ rfl]
  subst hz
  rfl

/-- 'append(out, x...)' of bytes, out the call's own. -/
theorem wpList_app {w : World} {ops : Array Oper} {rest : List Oper} {o : Oper} {a : Act} {Q : Exit → Act → World → Prop} (hgd : o.guard = none) (s x : Operand)
    (ho : o.op = .call { callee := .builtin .append, args := #[s, x], argTypes := #[29, 29] })
    (B : Nat) (v : Value) (l : List UInt8) (hs : a.eval s = v) (hown : Ow B w v l) (vx : Value) (m : List UInt8) (hx : a.eval x = vx) (hm : Rd w vx m)
    (hB : B ≤ w.heap.size) (hlen : l.length + m.length ≤ 140737488355328)
    (h : ∀ v' w', Ow B w' v' (l ++ m) → Below B w w' → w.grownBy w' v.ownBlock → wpList Try.prog ops Q rest (a.put o.dst v') w') : wpList Try.prog ops Q (o :: rest) a w := by
  obtain ⟨i, hi, hz0, hz1, hz2⟩ := info_parts Try.info5
  have hbel : ∀ {w'}, w.grownBy w' v.ownBlock → Below B w w' := fun hg => (Below.refl B w).grown hg hB (fun k hk => (hown.lt k hk).1)
  rcases hm.two with ⟨rfl, rfl⟩ | ⟨ad, c, rfl, h1, h2, h3⟩
  · refine wpList_append_own_none hgd s x 29 ho B 5 i 1 Try.underlying29 hi _ _ _ hs hown hx ?_
    exact h v w (by simpa using hown) (Below.refl _ _) (World.grownBy.refl _ _)
  · refine wpList_append_own w hgd s x 29 ho B 5 i _ 1 1 Try.underlying29 hi hz0 hz1 hz2 rfl (by decide) v l.length (cel l) hs hown ad m.length c (cel m) hx (by simp [cel_length]) ?_ (cel_one m) (by unfold maxLen; omega) (by omega) hB ?_
    · intro j u hu
      have hj : j < m.length := by have := (List.getElem?_eq_some_iff.1 hu).1; simpa [cel_length] using this
      rw [h3 j hj]; rw [cel_get m j hj] at hu; exact hu
    · intro v' w' ho' hg' _
      refine h v' w' ?_ (hbel hg') hg'
      unfold Ow; rw [cel_append, List.length_append]; exact ho'

end Go.Proofs.Ytkgpgfpclcibmaa

/- A word for what a call turns: of what was there only blocks of S. Nothing of the program is named here. -/
namespace Go.Proofs.Ytkgpgfpclcibmaa
open Go.RowKit
set_option linter.unusedVariables false
set_option maxRecDepth 100000

theorem grown_set0 (w : World) (g i : Nat) (u : Value) : w.grownBy (w.setCell ⟨g, i, none⟩ u) (some g) :=
  ⟨rfl, rfl, rfl, by simp, fun k _ hk => heap_setCell_other w ⟨g, i, none⟩ k u (fun e => hk (by simp [e]))⟩

/-- Of what was there only blocks of S have turned. -/
structure Chg (S : Nat → Prop) (w w' : World) : Prop where
  os : w'.os = w.os
  tape : w'.tape = w.tape
  output : w'.output = w.output
  size : w.heap.size ≤ w'.heap.size
  block : ∀ b, b < w.heap.size → ¬ S b → w'.heap[b]? = w.heap[b]?

theorem Chg.of_grown {S : Nat → Prop} {w w' : World} {r : Option Nat} (h : w.grownBy w' r) (hr : ∀ b, r = some b → b < w.heap.size → S b) : Chg S w w' :=
  ⟨h.os, h.tape, h.output, h.size, fun b hb hs => h.block b hb (fun e => hs (hr b e.symm hb))⟩
theorem Chg.trans {S : Nat → Prop} {w w' w'' : World} (h : Chg S w w') (k : Chg (fun b => S b ∨ w.heap.size ≤ b) w' w'') : Chg S w w'' :=
  ⟨k.os.trans h.os, k.tape.trans h.tape, k.output.trans h.output, Nat.le_trans h.size k.size, fun b hb hs => (k.block b (Nat.lt_of_lt_of_le hb h.size) (by rintro (e | e); exact hs e; omega)).trans (h.block b hb hs)⟩
theorem Chg.below {S : Nat → Prop} {B : Nat} {w w' : World} (h : Chg S w w') (hS : ∀ b, S b → B ≤ b) (hB : B ≤ w.heap.size) : Below B w w' :=
  ⟨h.os, h.tape, h.output, h.size, fun b hb => h.block b (by omega) (fun e => by have := hS b e; omega)⟩
theorem Chg.mono {S S' : Nat → Prop} {w w' : World} (h : Chg S w w') (hS : ∀ b, b < w.heap.size → S b → S' b) : Chg S' w w' := ⟨h.os, h.tape, h.output, h.size, fun b hb hs => h.block b hb (fun e => hs (hS b hb e))⟩

theorem Rd.keptC {S : Nat → Prop} {w w' : World} {v : Value} {l : List UInt8} (h : Rd w v l) (hg : Chg S w w') (hne : ∀ b, v.ownBlock = some b → ¬ S b) : Rd w' v l := by
  obtain ⟨ao, c, rfl, h1, h2, h3, h4⟩ := h
  refine ⟨ao, c, rfl, h1, h2, h3, fun i hi => ?_⟩
  obtain ⟨a, rfl, hc⟩ := h4 i hi
  have hlt := World.block_lt_of_cell? w _ hc
  rw [add_block] at hlt
  refine ⟨a, rfl, ?_⟩
  rw [World.cell?_of_block (w := w) (by rw [add_block]; exact hg.block a.block hlt (hne a.block rfl))]
  exact hc
theorem ownsRow_keptC {S : Nat → Prop} {w w' : World} {B : Nat} {e : TypeId} {size n : Nat} {v : Value} {xs : List Value} (h : w.ownsRow B e size v n xs) (hg : Chg S w w') (hne : ∀ b, v.ownBlock = some b → ¬ S b) : w'.ownsRow B e size v n xs := by
  refine ⟨h.1, ?_⟩
  rcases h.2 with h2 | ⟨g, cap, cur, rfl, hb, hh, r⟩
  · exact .inl h2
  · exact .inr ⟨g, cap, cur, rfl, hb, by rw [hg.block g (Array.getElem?_eq_some_iff.1 hh).1 (hne g rfl)]; exact hh, r⟩
theorem Ow.keptC {S : Nat → Prop} {w w' : World} {B : Nat} {v : Value} {l : List UInt8} (h : Ow B w v l) (hg : Chg S w w') (hne : ∀ b, v.ownBlock = some b → ¬ S b) : Ow B w' v l := ownsRow_keptC h hg hne

theorem Chg.alloc {S : Nat → Prop} {w w' : World} (h : Chg S w w') (o : Obj) : Chg S w (w'.alloc o) :=
  h.trans ⟨rfl, rfl, rfl, by simp, fun b hb _ => Below.heap_alloc _ _ _ hb⟩
theorem Chg.put {S : Nat → Prop} {w w' : World} (h : Chg S w w') (g i : Nat) (u : Value) (hg : S g) : Chg S w (w'.setCell ⟨g, i, none⟩ u) :=
  h.trans (Chg.of_grown (grown_set0 w' g i u) (fun b e _ => by obtain rfl := Option.some.inj e; exact .inl hg))
theorem Chg.refl (S : Nat → Prop) (w : World) : Chg S w w := ⟨rfl, rfl, rfl, Nat.le_refl _, fun _ _ _ => rfl⟩

theorem Chg.of_below {B : Nat} {w w' : World} (h : Below B w w') : Chg (fun b => B ≤ b) w w' := ⟨h.os, h.tape, h.output, h.size, fun b hb hs => h.block b (by omega)⟩
end Go.Proofs.Ytkgpgfpclcibmaa

/- What 'Same' of two byte slices answers: whether they read as the same bytes. -/
namespace Go.Proofs.Ytkgpgfpclcibmaa
open Go.RowKit
set_option linter.unusedVariables false

set_option maxHeartbeats 400000 in
theorem same_core (a b : Addr) (n ca cb : Nat) (f g : Nat → UInt8) (w : World) (hl : n ≤ maxLen)
    (ha : ∀ i, i < n → w.cell? (a.add i) = some (.int .u8 ((f i).toNat : Int))) (hb : ∀ i, i < n → w.cell? (b.add i) = some (.int .u8 ((g i).toNat : Int))) :
    Calls Try.prog 30 #[.slice (some a) n ca, .slice (some b) n cb] w fun e w' => (∃ r, e = .returned (.bool r) ∧ (r = true ↔ ∀ i, i < n → f i = g i)) ∧ ∃ k, w' = w.drewN k := by
  unfold maxLen at hl
  go_enter Try.func30, Try.ntmps30
  go_wp2
  go_loopw [5] (fun i wr => ∃ k : Nat, k ≤ n ∧ i = .int .i64 k ∧ (∀ j, j < k → f j = g j) ∧ ∃ m, wr = w.drewN m) (fun i _ => n - (intOf i).toNat)
  case atStart => exact ⟨0, Nat.zero_le _, rfl, fun j hj => by omega, 0, rfl⟩
  case round =>
    obtain ⟨k, hk, rfl, hs, m, rfl⟩ := hrel
    by_cases hlt : k < n
    · have h1 := ha k hlt
      have h2 := hb k hlt
      clear ha hb
      go_wp2
      go_region
      all_goals go_wp2
      · go_ret
        refine ⟨⟨false, rfl, ?_⟩, _, rfl⟩
        simp only [Bool.false_eq_true, false_iff]
        intro hh
        have := hh k hlt
        simp_all
      · rename_i hne
        have he : f k = g k := by
          have : ((f k).toNat : Int) = ((g k).toNat : Int) := by simpa using hne
          exact UInt8.toNat_inj.1 (by omega)
        refine ⟨⟨k + 1, by omega, by go_num, fun j hj => ?_, _, rfl⟩, by simp [intOf]; omega⟩
        by_cases hj' : j < k
        · exact hs j hj'
        · obtain rfl : j = k := by omega
          exact he
    · go_wp2
      go_ret
      exact ⟨⟨true, rfl, by simp; intro i hi; exact hs i (by omega)⟩, _, rfl⟩

/-- 'Same' of two byte slices: whether they are the same bytes; memory stands. -/
theorem same_any {va vb : Value} {la lb : List UInt8} {w : World} (ha : Rd w va la) (hb : Rd w vb lb) :
    Calls Try.prog 30 #[va, vb] w fun e w' => e = .returned (.bool (decide (la = lb))) ∧ ∃ n, w' = w.drewN n := by
  by_cases hn : la.length = lb.length
  · rcases ha.two with ⟨rfl, rfl⟩ | ⟨a, ca, rfl, h1, h2, h3⟩
    · obtain rfl : lb = [] := List.length_eq_zero_iff.1 (by simpa using hn.symm)
      obtain ⟨b, cb, rfl⟩ : ∃ b cb, vb = .slice b 0 cb := by
        rcases hb.two with ⟨rfl, _⟩ | ⟨b, cb, rfl, _⟩
        · exact ⟨_, _, rfl⟩
        · exact ⟨_, _, rfl⟩
      clear hb hn
      go_enter Try.func30, Try.ntmps30
      go_wp2
      refine wp_loop_rounds 1 ?_
      rw [rounds_succ]
      go_wp2
      go_ret
      exact ⟨by simp, 0, rfl⟩
    · rcases hb.two with ⟨rfl, rfl⟩ | ⟨b, cb, rfl, k1, k2, k3⟩
      · obtain rfl : la = [] := List.length_eq_zero_iff.1 (by simpa using hn)
        clear h1 h2 h3 hn
        go_enter Try.func30, Try.ntmps30
        go_wp2
        refine wp_loop_rounds 1 ?_
        rw [rounds_succ]
        go_wp2
        go_ret
        exact ⟨by simp, 0, rfl⟩
      · rw [← hn]
        refine (same_core a b la.length ca cb (fun i => la.getD i 0) (fun i => lb.getD i 0) w (by omega) (fun i hi => ?_) (fun i hi => ?_)).mono ?_
        · rw [h3 i hi]; simp [hi]
        · rw [k3 i (by omega)]; simp [show i < lb.length by omega]
        · rintro e w' ⟨⟨r, rfl, hr⟩, hw⟩
          refine ⟨?_, hw⟩
          have : r = decide (la = lb) := by
            rw [Bool.eq_iff_iff, hr, decide_eq_true_iff]
            constructor
            · intro h
              refine List.ext_getElem hn fun i hi hi' => ?_
              have := h i hi
              simpa [hi, hi'] using this
            · rintro rfl i _; rfl
          rw [this]
  · have hd : decide (la = lb) = false := by
      simp only [decide_eq_false_iff_not]; rintro rfl; exact hn rfl
    rw [hd]
    obtain ⟨a, ca, rfl⟩ : ∃ a ca, va = .slice a la.length ca := by
      rcases ha.two with ⟨rfl, rfl⟩ | ⟨a, ca, rfl, _⟩
      · exact ⟨_, _, rfl⟩
      · exact ⟨_, _, rfl⟩
    obtain ⟨b, cb, rfl⟩ : ∃ a ca, vb = .slice a lb.length ca := by
      rcases hb.two with ⟨rfl, rfl⟩ | ⟨a, ca, rfl, _⟩
      · exact ⟨_, _, rfl⟩
      · exact ⟨_, _, rfl⟩
    clear ha hb hd
    have hne : (((la.length : Nat) : Int) != ((lb.length : Nat) : Int)) = true := by simp; omega
    clear hn
    go_enter Try.func30, Try.ntmps30
    go_wp2
    go_ret
    exact ⟨rfl, 0, rfl⟩
end Go.Proofs.Ytkgpgfpclcibmaa

/- One element appended to a slice of the call's own: as the library's law says it, and besides: the row stays in its block or goes to a new one. -/
namespace Go.Proofs.Ytkgpgfpclcibmaa
open Go.RowKit
set_option linter.unusedVariables false

theorem run_app1 {P : Program} (w : World) (base : Nat) (t ty e : TypeId) (z : Value) (bytes : Nat) (ht : P.underlying t = some (.slice e)) (hinf : (P.info? e).map (fun i => (i.zero, i.size, i.bytes)) = some (some z, 1, bytes)) (hzs : z.cells.size = 1)
    (v : Value) (n : Nat) (xs : List Value) (hown : w.ownsRow base e 1 v n xs) (a : Addr) (c : Nat) (u : Value) (hu : w.cell? a = some u) (h1 : u.oneCell' = true)
    (h63 : n + 1 ≤ maxLen) (hb : (n + 1) * bytes ≤ 140737488355328) (hbase : base ≤ w.heap.size) :
    ∃ v' w', (Builtin.append_ #[t, t] ty #[v, .slice (some a) 1 c]).run P w = .ok v' w' ∧ w'.ownsRow base e 1 v' (n + 1) (xs ++ [u]) ∧ w.grownBy w' v.ownBlock ∧ (v'.ownBlock = v.ownBlock ∨ v'.ownBlock = some w.heap.size) := by
  obtain ⟨i, hi, hz0, hz1, hz2⟩ := info_parts hinf
  have hnews : ∀ j x, [u][j]? = some x → w.cell? (a.add j) = some x := by
    intro j x hx
    cases j with
    | zero => simp at hx; subst hx; exact hu
    | succ j => simp at hx
  have hone : ∀ x ∈ [u], x.oneCell' = true := by intro x hx; simp at hx; subst hx; exact h1
  obtain ⟨v', w', hr, ho, hg, _⟩ := run_append_own (P := P) w base t ty e i z 1 bytes ht hi hz0 hz1 hz2 hzs (by decide) v n xs hown a 1 c [u] rfl hnews hone h63 hb hbase
  refine ⟨v', w', hr, ho, hg, ?_⟩
  have hlen : [u].length = 1 * i.size := by rw [hz1]; rfl
  have hm : n + 1 ≤ 9223372036854775807 := by unfold maxLen at h63; omega
  rcases hown.2 with ⟨rfl, rfl⟩ | ⟨g, cap, cur, rfl, hbg, hh, hnc, hcm, hcs, htake⟩
  · have hr2 := run_append_nil (P := P) w t ty e i z ht hi hz0 a 1 c [u] hlen hnews (by decide) (by omega) (by rw [hz2]; omega)
    rw [hr2] at hr
    simp only [Result.ok.injEq] at hr
    right; rw [← hr.1]; rfl
  · by_cases hroom : n + 1 ≤ cap
    · have hr2 := run_append_room (P := P) w t ty e i ht hi g n cap cur hh a 1 c [u] hlen hnews hone hroom (by rw [hz1, List.length_singleton]; omega)
      rw [hr2] at hr
      simp only [Result.ok.injEq] at hr
      left; rw [← hr.1]; rfl
    · have holds : ∀ j x, xs[j]? = some x → w.cell? ((⟨g, 0, none⟩ : Addr).add j) = some x := hown.cells (g := g) rfl
      have hr2 := run_append_grow (P := P) w t ty e i z ht hi hz0 ⟨g, 0, none⟩ n cap xs (by rw [hz1]; exact hown.1) holds a 1 c [u] hlen hnews (by omega) (by omega) (by rw [hz2]; exact growslice_fits (by omega) hb)
      rw [hr2] at hr
      simp only [Result.ok.injEq] at hr
      right; rw [← hr.1]; rfl

theorem wpList_app1 {P : Program} {w : World} {ops : Array Oper} {rest : List Oper} {o : Oper} {a : Act} {Q : Exit → Act → World → Prop} (hgd : o.guard = none) (s x : Operand) (t : TypeId)
    (ho : o.op = .call { callee := .builtin .append, args := #[s, x], argTypes := #[t, t] })
    (base : Nat) (e : TypeId) (z : Value) (bytes : Nat) (ht : P.underlying t = some (.slice e)) (hinf : (P.info? e).map (fun i => (i.zero, i.size, i.bytes)) = some (some z, 1, bytes)) (hzs : z.cells.size = 1)
    (v : Value) (n : Nat) (xs : List Value) (hs : a.eval s = v) (hown : w.ownsRow base e 1 v n xs) (ad : Addr) (c : Nat) (u : Value) (hx : a.eval x = .slice (some ad) 1 c) (hu : w.cell? ad = some u) (h1 : u.oneCell' = true)
    (h63 : n + 1 ≤ maxLen) (hb : (n + 1) * bytes ≤ 140737488355328) (hbase : base ≤ w.heap.size)
    (h : ∀ v' w', w'.ownsRow base e 1 v' (n + 1) (xs ++ [u]) → w.grownBy w' v.ownBlock → (v'.ownBlock = v.ownBlock ∨ v'.ownBlock = some w.heap.size) → wpList P ops Q rest (a.put o.dst v') w') : wpList P ops Q (o :: rest) a w := by
  refine wpList_plain hgd fun K hK => ?_
  obtain ⟨v', w', hr, h2, h3, h4⟩ := run_app1 (P := P) w base t o.type e z bytes ht hinf hzs v n xs hown ad c u hu h1 h63 hb hbase
  unfold Oper.wp execOp
  simp only [ho, resolve, invoke, builtin, Sem.run_bind, Sem.run_pure, Result.andThen_ok, List.map_toArray, List.map_cons, List.map_nil, hs, hx, hr]
  exact hK _ _ (h v' w' h2 h3 h4)
end Go.Proofs.Ytkgpgfpclcibmaa

/- Bytes appended to a slice of the call's own: as wpList_app says it, and besides: the row stays in its block or goes to a new one. -/
namespace Go.Proofs.Ytkgpgfpclcibmaa
open Go.RowKit
set_option linter.unusedVariables false

theorem run_appN {P : Program} (w : World) (base : Nat) (t ty e : TypeId) (z : Value) (bytes : Nat) (ht : P.underlying t = some (.slice e)) (hinf : (P.info? e).map (fun i => (i.zero, i.size, i.bytes)) = some (some z, 1, bytes)) (hzs : z.cells.size = 1)
    (v : Value) (n : Nat) (xs : List Value) (hown : w.ownsRow base e 1 v n xs) (a : Addr) (m c : Nat) (news : List Value) (hnl : news.length = m) (hnews : ∀ j u, news[j]? = some u → w.cell? (a.add j) = some u) (hone : ∀ u ∈ news, u.oneCell' = true)
    (h63 : n + m ≤ maxLen) (hb : (n + m) * bytes ≤ 140737488355328) (hbase : base ≤ w.heap.size) :
    ∃ v' w', (Builtin.append_ #[t, t] ty #[v, .slice (some a) m c]).run P w = .ok v' w' ∧ w'.ownsRow base e 1 v' (n + m) (xs ++ news) ∧ w.grownBy w' v.ownBlock ∧ (v'.ownBlock = v.ownBlock ∨ v'.ownBlock = some w.heap.size) := by
  obtain ⟨i, hi, hz0, hz1, hz2⟩ := info_parts hinf
  obtain ⟨v', w', hr, ho, hg, hnil⟩ := run_append_own (P := P) w base t ty e i z 1 bytes ht hi hz0 hz1 hz2 hzs (by decide) v n xs hown a m c news (by rw [hnl, Nat.mul_one]) hnews hone h63 hb hbase
  refine ⟨v', w', hr, ho, hg, ?_⟩
  have hlen : news.length = m * i.size := by rw [hz1, Nat.mul_one]; exact hnl
  have hm : n + m ≤ 9223372036854775807 := by unfold maxLen at h63; omega
  rcases hown.2 with ⟨rfl, rfl⟩ | ⟨g, cap, cur, rfl, hbg, hh, hnc, hcm, hcs, htake⟩
  · by_cases h0 : m = 0
    · left; rw [hnil.2 ⟨rfl, h0⟩]
    · have hr2 := run_append_nil (P := P) w t ty e i z ht hi hz0 a m c news hlen hnews (by omega) (by omega) (by rw [hz2]; simp only [Nat.zero_add] at hb; omega)
      rw [hr2] at hr
      simp only [Result.ok.injEq] at hr
      right; rw [← hr.1]; rfl
  · by_cases hroom : n + m ≤ cap
    · have hr2 := run_append_room (P := P) w t ty e i ht hi g n cap cur hh a m c news hlen hnews hone hroom (by rw [hz1, hnl]; omega)
      rw [hr2] at hr
      simp only [Result.ok.injEq] at hr
      left; rw [← hr.1]; rfl
    · have holds : ∀ j x, xs[j]? = some x → w.cell? ((⟨g, 0, none⟩ : Addr).add j) = some x := hown.cells (g := g) rfl
      have hr2 := run_append_grow (P := P) w t ty e i z ht hi hz0 ⟨g, 0, none⟩ n cap xs (by rw [hz1]; exact hown.1) holds a m c news hlen hnews (by omega) (by omega) (by rw [hz2]; exact growslice_fits (by omega) hb)
      rw [hr2] at hr
      simp only [Result.ok.injEq] at hr
      right; rw [← hr.1]; rfl

/-- 'append(out, x...)' of bytes, out the call's own. -/
theorem wpList_appN {w : World} {ops : Array Oper} {rest : List Oper} {o : Oper} {a : Act} {Q : Exit → Act → World → Prop} (hgd : o.guard = none) (s x : Operand)
    (ho : o.op = .call { callee := .builtin .append, args := #[s, x], argTypes := #[29, 29] })
    (B : Nat) (v : Value) (l : List UInt8) (hs : a.eval s = v) (hown : Ow B w v l) (vx : Value) (m : List UInt8) (hx : a.eval x = vx) (hm : Rd w vx m)
    (hB : B ≤ w.heap.size) (hlen : l.length + m.length ≤ 140737488355328)
    (h : ∀ v' w', Ow B w' v' (l ++ m) → w.grownBy w' v.ownBlock → (v'.ownBlock = v.ownBlock ∨ v'.ownBlock = some w.heap.size) → wpList Try.prog ops Q rest (a.put o.dst v') w') : wpList Try.prog ops Q (o :: rest) a w := by
  obtain ⟨i, hi, hz0, hz1, hz2⟩ := info_parts Try.info5
  rcases hm.two with ⟨rfl, rfl⟩ | ⟨ad, c, rfl, h1, h2, h3⟩
  · refine wpList_append_own_none hgd s x 29 ho B 5 i 1 Try.underlying29 hi _ _ _ hs hown hx ?_
    exact h v w (by simpa using hown) (World.grownBy.refl _ _) (.inl rfl)
  · refine wpList_plain hgd fun K hK => ?_
    obtain ⟨v', w', hr, q2, q3, q4⟩ := run_appN (P := Try.prog) w B 29 o.type 5 (.int .u8 0) 1 Try.underlying29 Try.info5 rfl v l.length (cel l) hown ad m.length c (cel m) (by simp [cel_length]) (by
      intro j u hu
      have hj : j < m.length := by have := (List.getElem?_eq_some_iff.1 hu).1; simpa [cel_length] using this
      rw [h3 j hj]; rw [cel_get m j hj] at hu; exact hu) (cel_one m) (by unfold maxLen; omega) (by omega) hB
    unfold Oper.wp execOp
    simp only [ho, resolve, invoke, builtin, Sem.run_bind, Sem.run_pure, Result.andThen_ok, List.map_toArray, List.map_cons, List.map_nil, hs, hx, hr]
    exact hK _ _ (h v' w' (by unfold Ow; rw [cel_append, List.length_append]; exact q2) q3 q4)
end Go.Proofs.Ytkgpgfpclcibmaa

/- My own words for a disk in memory: 'Dk': a Disk struct in block d whose map holds just the files of st, each with its bytes in memory of its own. -/
namespace Go.Proofs.Ytkgpgfpclcibmaa
open Go.RowKit Go.ChangeMaps Go.WideShapes
set_option linter.unusedVariables false
set_option maxRecDepth 100000

abbrev Nm := List UInt8
/-- What a block of the disk is for. -/
inductive Role where
  | disk
  | map
  | file (n : Nm)
  | data (n : Nm)

/-- How a pointer to a file reads. -/
def flE : Value → Option (DataW Unit × List MemPlace)
  | .pointer none => some (.nil, [])
  | .pointer (some ⟨b, 0, none⟩) => some (.lit (.int .u64 (b : Int)), [])
  | _ => none
theorem flE_nil {v : Value} {ps : List MemPlace} (h : flE v = some (.nil, ps)) : v = .pointer none := by
  unfold flE at h
  split at h <;> simp at h
  rfl
theorem flE_at {v : Value} {ps : List MemPlace} {b : Nat} (h : flE v = some (.lit (.int .u64 (b : Int)), ps)) : v = .pointer (some ⟨b, 0, none⟩) := by
  unfold flE at h
  split at h <;> simp at h
  have h := h.1
  congr
  omega

theorem Try.strKeyed : Maps.Keyed Try.prog 9 := Maps.string_keyed Try.underlying9
theorem Try.zeroFile (w : World) : (zeroValue 124).run Try.prog w = .ok (.pointer none) w := by kernel_rfl

/-- The disk's memory, all of it by name. -/
structure DkI (B d n m : Nat) (D : DataW Unit) (fb : Nm → Nat) (fv : Nm → Value) (own : Nat → Option Role) (st : Nm → Option (List UInt8 × Nat)) (sz : Nat) (may : Value) (left : Int) (w : World) : Prop where
  cell : w.heap[d]? = some (.cells #[.map (some m), .int .i64 (sz : Int), may, .int .i64 left] 79 (0, 0))
  map : w.ownsMap Try.prog 9 flE m n D
  has : ∀ nm f, st nm = some f → D.atKey (.string nm) .nil = .lit (.int .u64 (fb nm : Int))
  hasnt : ∀ nm, st nm = none → Maps.has D (.string nm) = false
  file : ∀ nm f, st nm = some f → w.heap[fb nm]? = some (.cells #[fv nm, .int .i64 (f.2 : Int)] 126 (0, 0)) ∧ Ow B w (fv nm) f.1 ∧ f.2 ≤ f.1.length
  od : own d = some .disk
  om : own m = some .map
  ofl : ∀ nm f, st nm = some f → own (fb nm) = some (.file nm)
  ov : ∀ nm f b, st nm = some f → (fv nm).ownBlock = some b → own b = some (.data nm)
  lo : ∀ b, own b ≠ none → B ≤ b ∧ b < w.heap.size

/-- The disk. -/
def Dk (B d n : Nat) (own : Nat → Option Role) (st : Nm → Option (List UInt8 × Nat)) (sz : Nat) (may : Value) (left : Int) (w : World) : Prop :=
  ∃ m D fb fv, DkI B d n m D fb fv own st sz may left w

theorem DkI.next {B d n m : Nat} {D : DataW Unit} {fb : Nm → Nat} {fv : Nm → Value} {own : Nat → Option Role} {st : Nm → Option (List UInt8 × Nat)} {sz : Nat} {may : Value} {left : Int} {w w' : World} {S : Nat → Prop}
    (h : DkI B d n m D fb fv own st sz may left w) (hc : Chg S w w') (hS : ∀ b, own b ≠ none → ¬ S b) : DkI B d n m D fb fv own st sz may left w' := by
  have kp : ∀ b, own b ≠ none → w'.heap[b]? = w.heap[b]? := fun b hb => hc.block b (h.lo b hb).2 (hS b hb)
  refine ⟨by rw [kp d (by rw [h.od]; simp)]; exact h.cell, ?_, h.has, h.hasnt, fun nm f e => ?_, h.od, h.om, h.ofl, h.ov, fun b hb => ⟨(h.lo b hb).1, Nat.lt_of_lt_of_le (h.lo b hb).2 hc.size⟩⟩
  · obtain ⟨es, clock, hb, r⟩ := h.map
    exact ⟨es, clock, by rw [kp m (by rw [h.om]; simp)]; exact hb, r⟩
  · obtain ⟨h1, h2, h3⟩ := h.file nm f e
    refine ⟨by rw [kp _ (by rw [h.ofl nm f e]; simp)]; exact h1, h2.keptC hc (fun b hb => hS b (by rw [h.ov nm f b e hb]; simp)), h3⟩

theorem Dk.next {B d n : Nat} {own : Nat → Option Role} {st : Nm → Option (List UInt8 × Nat)} {sz : Nat} {may : Value} {left : Int} {w w' : World} {S : Nat → Prop}
    (h : Dk B d n own st sz may left w) (hc : Chg S w w') (hS : ∀ b, own b ≠ none → ¬ S b) : Dk B d n own st sz may left w' := by
  obtain ⟨m, D, fb, fv, h⟩ := h
  exact ⟨m, D, fb, fv, h.next hc hS⟩

/-- A look-up of a file that is there, and of one that isn't. -/
theorem DkI.look {B d n m : Nat} {D : DataW Unit} {fb : Nm → Nat} {fv : Nm → Value} {own : Nat → Option Role} {st : Nm → Option (List UInt8 × Nat)} {sz : Nat} {may : Value} {left : Int} {w : World}
    (h : DkI B d n m D fb fv own st sz may left w) (s : ByteArray) (hs : s.size ≤ maxLen) (f : List UInt8 × Nat) (e : st s.data.toList = some f) :
    (Instr.lookup 75 (.map (some m)) (.string s) false).run Try.prog w = .ok (.pointer (some ⟨fb s.data.toList, 0, none⟩)) w := by
  obtain ⟨v, ps, hrun, hv⟩ := h.map.lookup (t := 75) Try.strKeyed Try.underlying75 (Try.zeroFile w) (zd := .nil) (zp := []) rfl (key := .string s) (WideMaps.keyOf_string_mk Try.underlying9 hs)
  rw [h.has _ f e] at hv
  rw [hrun, flE_at hv]
theorem DkI.look_no {B d n m : Nat} {D : DataW Unit} {fb : Nm → Nat} {fv : Nm → Value} {own : Nat → Option Role} {st : Nm → Option (List UInt8 × Nat)} {sz : Nat} {may : Value} {left : Int} {w : World}
    (h : DkI B d n m D fb fv own st sz may left w) (s : ByteArray) (hs : s.size ≤ maxLen) (e : st s.data.toList = none) :
    (Instr.lookup 75 (.map (some m)) (.string s) false).run Try.prog w = .ok (.pointer none) w := by
  obtain ⟨v, ps, hrun, hv⟩ := h.map.lookup (t := 75) Try.strKeyed Try.underlying75 (Try.zeroFile w) (zd := .nil) (zp := []) rfl (key := .string s) (WideMaps.keyOf_string_mk Try.underlying9 hs)
  rw [Maps.atKey_of_not_has (h.hasnt _ e)] at hv
  rw [hrun, flE_nil hv]

/-- The value of the method 'alive' of the disk in block d. -/
def alive (d : Nat) : Value := .func (.func 35) #[.pointer (some ⟨d, 0, none⟩)] #[]

theorem alive_any (d : Nat) (x y : Int) (w : World) : Calls Try.prog 35 #[.pointer (some ⟨d, 0, none⟩), .int .i64 x, .int .i64 y] w fun e w' => e = .returned (.int .i64 y) ∧ w' = w := by
  go_enter Try.func35, Try.ntmps35
  go_wp2
  go_ret
  exact ⟨rfl, rfl⟩
end Go.Proofs.Ytkgpgfpclcibmaa

/- What becomes of a disk in memory where a file's cells, the disk's own cells, or the map are written. -/
namespace Go.Proofs.Ytkgpgfpclcibmaa
open Go.RowKit
set_option linter.unusedVariables false
set_option maxRecDepth 100000

def setF (st : Nm → Option (List UInt8 × Nat)) (nm : Nm) (x : Option (List UInt8 × Nat)) : Nm → Option (List UInt8 × Nat) := fun n => if n = nm then x else st n
theorem setF_same (st : Nm → Option (List UInt8 × Nat)) (nm : Nm) (x : Option (List UInt8 × Nat)) : setF st nm x nm = x := by simp [setF]
theorem setF_other (st : Nm → Option (List UInt8 × Nat)) {nm n : Nm} (x : Option (List UInt8 × Nat)) (h : n ≠ nm) : setF st nm x n = st n := by simp [setF, h]

section
variable {B d n m : Nat} {D : DataW Unit} {fb : Nm → Nat} {fv : Nm → Value} {own : Nat → Option Role} {st : Nm → Option (List UInt8 × Nat)} {sz : Nat} {may : Value} {left : Int} {w w' : World}

/-- A file is another one now. -/
theorem DkI.upd {nm : Nm} {f : List UInt8 × Nat} {bytes' : List UInt8} {s' : Nat} {fv' : Value} (h : DkI B d n m D fb fv own st sz may left w) (e : st nm = some f)
    (hc : Chg (fun b => own b = some (.file nm) ∨ own b = some (.data nm)) w w') (hb : w'.heap[fb nm]? = some (.cells #[fv', .int .i64 (s' : Int)] 126 (0, 0))) (ho : Ow B w' fv' bytes') (hs : s' ≤ bytes'.length)
    (hv : ∀ b, fv'.ownBlock = some b → own b = some (.data nm) ∨ w.heap.size ≤ b) :
    DkI B d n m D fb (fun x => if x = nm then fv' else fv x) (fun b => if fv'.ownBlock = some b then some (.data nm) else own b) (setF st nm (some (bytes', s'))) sz may left w' := by
  have hne : ∀ b r, own b = some r → r ≠ .data nm → fv'.ownBlock ≠ some b := fun b r hr hrn q => by
    rcases hv b q with q2 | q2
    · rw [hr] at q2; exact hrn (Option.some.inj q2)
    · have := (h.lo b (by rw [hr]; simp)).2; omega
  have kp : ∀ b r, own b = some r → r ≠ .file nm → r ≠ .data nm → w'.heap[b]? = w.heap[b]? := fun b r hr h1 h2 => hc.block b (h.lo b (by rw [hr]; simp)).2 (by
    rintro (q | q)
    · rw [hr] at q; exact h1 (Option.some.inj q)
    · rw [hr] at q; exact h2 (Option.some.inj q))
  refine ⟨by rw [kp d _ h.od (by simp) (by simp)]; exact h.cell, ?_, fun x g hx => ?_, fun x hx => ?_, fun x g hx => ?_, ?_, ?_, fun x g hx => ?_, fun x g b hx q => ?_, fun b hb' => ?_⟩
  · obtain ⟨es, clock, hmb, r⟩ := h.map
    exact ⟨es, clock, by rw [kp m _ h.om (by simp) (by simp)]; exact hmb, r⟩
  · by_cases q : x = nm
    · subst q; exact h.has _ f e
    · rw [setF_other _ _ q] at hx; exact h.has x g hx
  · by_cases q : x = nm
    · subst q; rw [setF_same] at hx; cases hx
    · rw [setF_other _ _ q] at hx; exact h.hasnt x hx
  · by_cases q : x = nm
    · subst q
      rw [setF_same] at hx
      obtain rfl := Option.some.inj hx
      simp only [if_true]
      exact ⟨hb, ho, hs⟩
    · rw [setF_other _ _ q] at hx
      simp only [if_neg q]
      obtain ⟨q1, q2, q3⟩ := h.file x g hx
      refine ⟨by rw [kp _ _ (h.ofl x g hx) (by simpa using q) (by simp)]; exact q1, q2.keptC hc (fun b hb2 q4 => ?_), q3⟩
      have q5 := h.ov x g b hx hb2
      rcases q4 with q4 | q4
      · rw [q5] at q4; cases q4
      · rw [q5] at q4; injection q4 with q4; injection q4 with q4; exact q q4
  · rw [if_neg (hne d _ h.od (by simp))]; exact h.od
  · rw [if_neg (hne m _ h.om (by simp))]; exact h.om
  · have : ∃ g', st x = some g' := by
      by_cases q : x = nm
      · subst q; exact ⟨f, e⟩
      · rw [setF_other _ _ q] at hx; exact ⟨g, hx⟩
    obtain ⟨g', hg'⟩ := this
    rw [if_neg (hne _ _ (h.ofl x g' hg') (by simp))]; exact h.ofl x g' hg'
  · by_cases q2 : x = nm
    · subst q2
      simp only [if_true] at q
      rw [if_pos q]
    · rw [setF_other _ _ q2] at hx
      simp only [if_neg q2] at q
      have q3 := h.ov x g b hx q
      rw [if_neg (hne b _ q3 (by simpa using q2))]; exact q3
  · by_cases q : fv'.ownBlock = some b
    · exact World.ownsRow.lt ho b q
    · rw [if_neg q] at hb'
      exact ⟨(h.lo b hb').1, Nat.lt_of_lt_of_le (h.lo b hb').2 hc.size⟩

/-- The disk's own cells are written. -/
theorem DkI.setDisk {sz' : Nat} {may' : Value} {left' : Int} (h : DkI B d n m D fb fv own st sz may left w) (hc : Chg (fun b => b = d) w w')
    (hb : w'.heap[d]? = some (.cells #[.map (some m), .int .i64 (sz' : Int), may', .int .i64 left'] 79 (0, 0))) : DkI B d n m D fb fv own st sz' may' left' w' := by
  have hnd : ∀ b r, own b = some r → r ≠ .disk → b ≠ d := fun b r hr hrn q => by
    subst q; rw [h.od] at hr; exact hrn (Option.some.inj hr).symm
  have kp : ∀ b r, own b = some r → r ≠ .disk → w'.heap[b]? = w.heap[b]? := fun b r hr h1 => hc.block b (h.lo b (by rw [hr]; simp)).2 (hnd b r hr h1)
  refine ⟨hb, ?_, h.has, h.hasnt, fun x g hx => ?_, h.od, h.om, h.ofl, h.ov, fun b hb' => ⟨(h.lo b hb').1, Nat.lt_of_lt_of_le (h.lo b hb').2 hc.size⟩⟩
  · obtain ⟨es, clock, hmb, r⟩ := h.map
    exact ⟨es, clock, by rw [kp m _ h.om (by simp)]; exact hmb, r⟩
  · obtain ⟨q1, q2, q3⟩ := h.file x g hx
    exact ⟨by rw [kp _ _ (h.ofl x g hx) (by simp)]; exact q1, q2.keptC hc (fun b hb2 => hnd b _ (h.ov x g b hx hb2) (by simp)), q3⟩

/-- A new file: its cells in the new block g, and the map written. -/
theorem DkI.add {nm : Nm} {g : Nat} {w1 : World} (h : DkI B d n m D fb fv own st sz may left w) (e : st nm = none) (hsz : nm.length ≤ maxLen) (hg : w.heap.size ≤ g) (hB : B ≤ w.heap.size)
    (hc : Chg (fun b => b = m) w w') (hm : w'.ownsMap Try.prog 9 flE m (n + 1) (D.put (.string nm) (.lit (.int .u64 (g : Int))))) (hb : w'.heap[g]? = some (.cells #[.slice none 0 0, .int .i64 0] 126 (0, 0))) :
    DkI B d (n + 1) m (D.put (.string nm) (.lit (.int .u64 (g : Int)))) (fun x => if x = nm then g else fb x) (fun x => if x = nm then .slice none 0 0 else fv x) (fun b => if b = g then some (.file nm) else own b) (setF st nm (some ([], 0))) sz may left w' := by
  have hog : own g = none := by
    by_cases q : own g = none
    · exact q
    · have := (h.lo g q).2; omega
  have hne : ∀ b r, own b = some r → b ≠ g := fun b r hr q => by rw [q, hog] at hr; cases hr
  have hnm : ∀ b r, own b = some r → r ≠ .map → b ≠ m := fun b r hr hrn q => by
    subst q; rw [h.om] at hr; exact hrn (Option.some.inj hr).symm
  have kp : ∀ b r, own b = some r → r ≠ .map → w'.heap[b]? = w.heap[b]? := fun b r hr h1 => hc.block b (h.lo b (by rw [hr]; simp)).2 (hnm b r hr h1)
  have hglt : g < w'.heap.size := (Array.getElem?_eq_some_iff.1 hb).1
  refine ⟨by rw [kp d _ h.od (by simp)]; exact h.cell, hm, fun x f hx => ?_, fun x hx => ?_, fun x f hx => ?_, ?_, ?_, fun x f hx => ?_, fun x f b hx q => ?_, fun b hb' => ?_⟩
  · by_cases q : x = nm
    · subst q
      simp only [if_true]
      exact Maps.atKey_put_same h.map.isMap (by trivial) _ _
    · rw [setF_other _ _ q] at hx
      simp only [if_neg q]
      rw [Maps.atKey_put_other (by simpa using q)]; exact h.has x f hx
  · by_cases q : x = nm
    · subst q; rw [setF_same] at hx; cases hx
    · rw [setF_other _ _ q] at hx
      rw [Maps.has_put_other (by simpa using q)]; exact h.hasnt x hx
  · by_cases q : x = nm
    · subst q
      rw [setF_same] at hx
      obtain rfl := Option.some.inj hx
      simp only [if_true]
      exact ⟨hb, Ow.nil _ _, by simp⟩
    · rw [setF_other _ _ q] at hx
      simp only [if_neg q]
      obtain ⟨q1, q2, q3⟩ := h.file x f hx
      exact ⟨by rw [kp _ _ (h.ofl x f hx) (by simp)]; exact q1, q2.keptC hc (fun b hb2 => hnm b _ (h.ov x f b hx hb2) (by simp)), q3⟩
  · rw [if_neg (hne d _ h.od)]; exact h.od
  · rw [if_neg (hne m _ h.om)]; exact h.om
  · by_cases q : x = nm
    · subst q; simp
    · rw [setF_other _ _ q] at hx
      simp only [if_neg q]
      rw [if_neg (hne _ _ (h.ofl x f hx))]; exact h.ofl x f hx
  · by_cases q2 : x = nm
    · subst q2; simp [Value.ownBlock] at q
    · rw [setF_other _ _ q2] at hx
      simp only [if_neg q2] at q
      rw [if_neg (hne b _ (h.ov x f b hx q))]; exact h.ov x f b hx q
  · by_cases q : b = g
    · subst q; exact ⟨by omega, hglt⟩
    · rw [if_neg q] at hb'
      exact ⟨(h.lo b hb').1, Nat.lt_of_lt_of_le (h.lo b hb').2 hc.size⟩
end
end Go.Proofs.Ytkgpgfpclcibmaa

/- What New, refuseFile, refuseWrite, Dead, Sync and Read of a disk that is alive do. -/
namespace Go.Proofs.Ytkgpgfpclcibmaa
open Go.RowKit
set_option linter.unusedVariables false
set_option maxRecDepth 100000

theorem dclone_any {v : Value} {l : List UInt8} {w : World} (hr : Rd w v l) (hl : l.length ≤ 140737488355328) :
    Calls Try.prog 64 #[v] w fun e w' => ∃ v', e = .returned v' ∧ Ow w.heap.size w' v' l ∧ Below w.heap.size w w' := by
  have q : ∀ (w : World) (a : Option Addr) (n c n' c' : Nat), (binOp .eql 29 (.slice a n c) (.slice none n' c')).run Try.prog w = .ok (.bool a.isNone) w := fun w a n c n' c' => Lib.run_eql_slice_nil w _ _ a n c n' c' Try.underlying29
  rcases hr.two with ⟨rfl, rfl⟩ | ⟨a, c, hv, h1, h2, h3⟩
  · go_enter Try.func64, Try.ntmps64
    go_wp2
    go_ret
    exact ⟨_, rfl, Ow.nil _ _, Below.refl _ _⟩
  · subst hv
    go_enter Try.func64, Try.ntmps64
    go_wp2_with (first | (at_builtin; refine wpList_app rfl _ _ rfl w.heap.size _ [] rfl (Ow.lit0 _ _ (Nat.le_refl _)) _ l rfl (hr.alloc _) (by simp) (by simpa using hl) ?_; intro v' w' ho' hb' hg') | fail)
    go_ret
    exact ⟨_, rfl, ho', ((Below.refl _ _).alloc (Nat.le_refl _) _).trans hb'⟩

theorem Below.dN (w : World) (n : Nat) : Below w.heap.size w (w.drewN n) := below_drewN (Below.refl _ _) n

section
variable {B d n : Nat} {own : Nat → Option Role} {st : Nm → Option (List UInt8 × Nat)} {sz : Nat} {may : Value} {left : Int} {w : World}

theorem ba_loop (s : ByteArray) : ∀ (k i : Nat) (r : List UInt8), s.size - i ≤ k → r ≠ [] → ByteArray.toList.loop s i r ≠ [] := by
  intro k
  induction k with
  | zero =>
    intro i r hk hr
    rw [ByteArray.toList.loop, if_neg (by omega)]
    simpa using hr
  | succ k ih =>
    intro i r hk hr
    rw [ByteArray.toList.loop]
    split
    · exact ih (i + 1) _ (by omega) (by simp)
    · simpa using hr
theorem ba_empty (s : ByteArray) : s.toList.isEmpty = decide (s.size = 0) := by
  unfold ByteArray.toList
  rw [ByteArray.toList.loop]
  by_cases h : 0 < s.size
  · rw [if_pos h]
    have := ba_loop s s.size 1 [s.get! 0] (by omega) (by simp)
    rw [decide_eq_false (by omega)]
    simpa using this
  · rw [if_neg h, decide_eq_true (by omega)]; rfl
theorem goodName_any (s : ByteArray) (w : World) : Calls Try.prog 92 #[.string s] w fun e w' => e = .returned (.bool (decide (1 ≤ s.size ∧ s.size ≤ 64))) ∧ w' = w := by
  go_enter Try.func92, Try.ntmps92
  go_wp2
  all_goals go_ret
  all_goals refine ⟨?_, rfl⟩
  all_goals congr 2
  all_goals (try rename_i hh)
  all_goals (try (rw [ba_empty]; by_cases h0 : s.size = 0 <;> by_cases h64 : s.size ≤ 64 <;> simp [h0, h64] <;> omega))
  all_goals (have he := ba_empty s; simp_all)

theorem refuseFile_any (h : Dk B d n own st sz may left w) (s : ByteArray) (hs : s.size ≤ maxLen) :
    Calls Try.prog 73 #[.pointer (some ⟨d, 0, none⟩), .string s] w fun e w' => e = .returned (.int .i64 (if st s.data.toList = none then 20 else 0)) ∧ ∃ k, w' = w.drewN k := by
  obtain ⟨m, D, fb, fv, h⟩ := h
  have c0 : w.cell? ⟨d, 0, none⟩ = some (.map (some m)) := by rw [cell_of_row _ _ _ _ _ _ h.cell]; rfl
  cases e : st s.data.toList with
  | none =>
    have hrun := h.look_no s hs e
    go_enter Try.func73, Try.ntmps73
    go_wp2
    go_ret
    exact ⟨by simp, 0, rfl⟩
  | some f =>
    have hrun := h.look s hs f e
    go_enter Try.func73, Try.ntmps73
    go_wp2
    go_ret
    exact ⟨by simp, 0, rfl⟩

/-- What Write would answer. -/
def wErr (s : ByteArray) (k sz : Nat) : Nat := if ¬ (1 ≤ s.size ∧ s.size ≤ 64) then 1 else if 16777216 < sz + k then 2 else 0

theorem refuseWrite_any (h : Dk B d n own st sz may left w) (s : ByteArray) (k : Nat) (hk : k ≤ 1099511627776) (hz : sz ≤ 16777216) :
    Calls Try.prog 72 #[.pointer (some ⟨d, 0, none⟩), .string s, .int .i64 (k : Int)] w fun e w' => e = .returned (.int .i64 (wErr s k sz : Int)) ∧ ∃ q, w' = w.drewN q := by
  obtain ⟨m, D, fb, fv, h⟩ := h
  have c1 : w.cell? ⟨d, 1, none⟩ = some (.int .i64 (sz : Int)) := by rw [cell_of_row _ _ _ _ _ _ h.cell]; rfl
  unfold wErr
  by_cases hg : 1 ≤ s.size ∧ s.size ≤ 64
  · rw [if_neg (by simpa using hg)]
    have hgn := goodName_any s w
    rw [decide_eq_true hg] at hgn
    by_cases hf : 16777216 < sz + k
    · rw [if_pos hf]
      go_enter Try.func72, Try.ntmps72
      go_wp2_with (first | (go_at_call 92; refine hgn.mono ?_; rintro e w' ⟨rfl, rfl⟩) | fail)
      go_ret
      exact ⟨rfl, 0, rfl⟩
    · rw [if_neg hf]
      go_enter Try.func72, Try.ntmps72
      go_wp2_with (first | (go_at_call 92; refine hgn.mono ?_; rintro e w' ⟨rfl, rfl⟩) | fail)
      go_ret
      exact ⟨rfl, 0, rfl⟩
  · rw [if_pos hg]
    have hgn := goodName_any s w
    rw [decide_eq_false hg] at hgn
    go_enter Try.func72, Try.ntmps72
    go_wp2_with (first | (go_at_call 92; refine hgn.mono ?_; rintro e w' ⟨rfl, rfl⟩) | fail)
    go_ret
    exact ⟨rfl, 0, rfl⟩

theorem Dk.drN (h : Dk B d n own st sz may left w) (q : Nat) : Dk B d n own st sz may left (w.drewN q) := by
  refine h.next (Chg.of_below (Below.dN w q)) (fun b hb => ?_)
  obtain ⟨_, _, _, _, h⟩ := h
  have := (h.lo b hb).2
  omega
theorem DkI.drN {m : Nat} {D : DataW Unit} {fb : Nm → Nat} {fv : Nm → Value} (h : DkI B d n m D fb fv own st sz may left w) (q : Nat) : DkI B d n m D fb fv own st sz may left (w.drewN q) := by
  refine h.next (Chg.of_below (Below.dN w q)) (fun b hb => ?_)
  have := (h.lo b hb).2
  omega
theorem Chg.dN {S : Nat → Prop} {w w' : World} (h : Chg S w w') (q : Nat) : Chg S w (w'.drewN q) := h.trans ((Chg.of_below (Below.dN w' q)).mono (fun b hb hb2 => by omega))

/-- A file's two cells. -/
theorem DkI.fcell {m : Nat} {D : DataW Unit} {fb : Nm → Nat} {fv : Nm → Value} (h : DkI B d n m D fb fv own st sz may left w) {nm : Nm} {f : List UInt8 × Nat} (e : st nm = some f) :
    ∃ a c, fv nm = .slice a f.1.length c ∧ f.1.length ≤ 9223372036854775807 ∧ w.cell? ⟨fb nm, 0, none⟩ = some (.slice a f.1.length c) ∧ w.cell? ⟨fb nm, 1, none⟩ = some (.int .i64 (f.2 : Int)) ∧ (∀ i, w.frozen? ⟨fb nm, i, none⟩ = false) ∧ Rd w (.slice a f.1.length c) f.1 := by
  obtain ⟨h1, h2, h3⟩ := h.file nm f e
  obtain ⟨a, c, e1, q1, q2, _, _⟩ := h2.rd
  have hr := h2.rd
  unfold maxLen at q2
  rw [e1] at h1 hr
  exact ⟨a, c, e1, by omega, by rw [cell_of_row _ _ _ _ _ _ h1]; rfl, by rw [cell_of_row _ _ _ _ _ _ h1]; rfl, fun i => frozen_of_row _ _ _ _ _ h1, hr⟩

/-- The count of synced bytes is written. -/
theorem DkI.setSync {m : Nat} {D : DataW Unit} {fb : Nm → Nat} {fv : Nm → Value} (h : DkI B d n m D fb fv own st sz may left w) {nm : Nm} {f : List UInt8 × Nat} (e : st nm = some f) (k : Nat) (hk : k ≤ f.1.length) :
    (∃ own', Dk B d n own' (setF st nm (some (f.1, k))) sz may left (w.setCell ⟨fb nm, 1, none⟩ (.int .i64 (k : Int))) ∧ ∀ b, own' b ≠ none → own b ≠ none ∨ w.heap.size ≤ b) ∧ Chg (fun b => own b ≠ none) w (w.setCell ⟨fb nm, 1, none⟩ (.int .i64 (k : Int))) := by
  obtain ⟨h1, h2, h3⟩ := h.file nm f e
  have hof := h.ofl nm f e
  have hc : Chg (fun b => own b = some (.file nm) ∨ own b = some (.data nm)) w (w.setCell ⟨fb nm, 1, none⟩ (.int .i64 (k : Int))) := (Chg.refl _ w).put (fb nm) 1 _ (.inl hof)
  have hc2 : Chg (fun b => b = fb nm) w (w.setCell ⟨fb nm, 1, none⟩ (.int .i64 (k : Int))) := (Chg.refl _ w).put (fb nm) 1 _ rfl
  refine ⟨⟨_, ⟨m, D, fb, _, h.upd e hc (fv' := fv nm) (bytes' := f.1) (s' := k) (by rw [heap_setCell_same w _ 1 _ _ _ h1]; rfl) (h2.keptC hc2 (fun b hb q => ?_)) hk (fun b hb => .inl (h.ov nm f b e hb))⟩, fun b hb => ?_⟩, (Chg.refl _ w).put (fb nm) 1 _ (by rw [hof]; simp)⟩
  · have := h.ov nm f b e hb
    rw [q, hof] at this; cases this
  · left
    by_cases q : (fv nm).ownBlock = some b
    · rw [h.ov nm f b e q]; simp
    · rw [if_neg q] at hb; exact hb

/-- Sync of a file that is there. -/
theorem sync_alive (h : Dk B d n own st sz (alive d) left w) (s : ByteArray) (hs : s.size ≤ maxLen) (f : List UInt8 × Nat) (e : st s.data.toList = some f) :
    Calls Try.prog 32 #[.pointer (some ⟨d, 0, none⟩), .string s] w fun e w' => e = .returned (.int .i64 0) ∧ (∃ own', Dk B d n own' (setF st s.data.toList (some (f.1, f.1.length))) sz (alive d) left w' ∧ ∀ b, own' b ≠ none → own b ≠ none ∨ w.heap.size ≤ b) ∧ Chg (fun b => own b ≠ none) w w' := by
  have hrf := fun q => refuseFile_any (h.drN q) s hs
  simp only [e, if_neg (show ¬ (some f = none) by simp)] at hrf
  obtain ⟨m, D, fb, fv, h⟩ := h
  have c0 : w.cell? ⟨d, 0, none⟩ = some (.map (some m)) := by rw [cell_of_row _ _ _ _ _ _ h.cell]; rfl
  have c2 : w.cell? ⟨d, 2, none⟩ = some (.func (.func 35) #[.pointer (some ⟨d, 0, none⟩)] #[]) := by rw [cell_of_row _ _ _ _ _ _ h.cell]; rfl
  have hrun := fun q => (h.drN q).look s hs f e
  obtain ⟨fa, fc, efv, hln, f0, f1, hfz, hrd⟩ := h.fcell e
  have hfz1 := hfz 1
  have H : Hid _ := And.intro h (And.intro efv hrd)
  clear h hfz efv hrd
  generalize hnm : s.data.toList = nm at *
  generalize hg : fb nm = g at *
  have HG : Hid _ := hg
  clear hg
  go_enter Try.func32, Try.ntmps32
  go_wp2_with fail
  go_quiet (first | (go_at_call 73; refine Calls.quiet_of (v := .int .i64 0) (hrf _)) | (go_at_call 35; refine Calls.quiet_of_same (v := .int .i64 0) (alive_any _ _ _ _)) | fail)
  go_wp2_with fail
  go_ret
  subst hnm
  have h0 := H.out.1.setSync e f.1.length (Nat.le_refl _)
  rw [HG.out] at h0
  obtain ⟨⟨own', q1, q2⟩, q3⟩ := h0
  exact ⟨rfl, ⟨own', q1.drN nq, q2⟩, q3.dN nq⟩

/-- Read of a file that is there. -/
theorem read_alive (h : Dk B d n own st sz (alive d) left w) (s : ByteArray) (hs : s.size ≤ maxLen) (f : List UInt8 × Nat) (e : st s.data.toList = some f) (hl : f.1.length ≤ 140737488355328) :
    Calls Try.prog 34 #[.pointer (some ⟨d, 0, none⟩), .string s] w fun e w' => ∃ v, e = .returned (.tuple #[v, .int .i64 0]) ∧ Ow w.heap.size w' v f.1 ∧ Below w.heap.size w w' := by
  have hrf := fun q => refuseFile_any (h.drN q) s hs
  simp only [e, if_neg (show ¬ (some f = none) by simp)] at hrf
  obtain ⟨m, D, fb, fv, h⟩ := h
  have c0 : w.cell? ⟨d, 0, none⟩ = some (.map (some m)) := by rw [cell_of_row _ _ _ _ _ _ h.cell]; rfl
  have c2 : w.cell? ⟨d, 2, none⟩ = some (.func (.func 35) #[.pointer (some ⟨d, 0, none⟩)] #[]) := by rw [cell_of_row _ _ _ _ _ _ h.cell]; rfl
  have hrun := fun q => (h.drN q).look s hs f e
  obtain ⟨fa, fc, efv, hln, f0, f1, hfz, hrd⟩ := h.fcell e
  clear h hfz efv
  generalize fb s.data.toList = g at *
  go_enter Try.func34, Try.ntmps34
  go_wp2_with fail
  go_quiet (first | (go_at_call 73; refine Calls.quiet_of (v := .int .i64 0) (hrf _)) | (go_at_call 35; refine Calls.quiet_of_same (v := .int .i64 0) (alive_any _ _ _ _)) | fail)
  go_wp2_with fail
  refine (dclone_any (hrd.drewN nq) hl).mono ?_
  rintro e w2 ⟨v2, rfl, ho2, hb2⟩
  go_wp2_with fail
  go_ret2
  exact ⟨_, rfl, ho2, Below.tr (Below.dN w nq) hb2⟩

/-- Dead of a disk that is alive. -/
theorem dead_alive (h : Dk B d n own st sz (alive d) left w) :
    Calls Try.prog 54 #[.pointer (some ⟨d, 0, none⟩)] w fun e w' => e = .returned (.bool false) ∧ ∃ q, w' = w.drewN q := by
  obtain ⟨m, D, fb, fv, h⟩ := h
  have c2 : w.cell? ⟨d, 2, none⟩ = some (.func (.func 35) #[.pointer (some ⟨d, 0, none⟩)] #[]) := by rw [cell_of_row _ _ _ _ _ _ h.cell]; rfl
  go_enter Try.func54, Try.ntmps54
  go_wp2_with fail
  refine (alive_any _ _ _ _).mono ?_
  rintro e w1 ⟨rfl, rfl⟩
  go_wp2_with fail
  go_ret
  exact ⟨rfl, 0, rfl⟩
end
end Go.Proofs.Ytkgpgfpclcibmaa

/- A new disk. -/
namespace Go.Proofs.Ytkgpgfpclcibmaa
open Go.RowKit
set_option linter.unusedVariables false
set_option maxRecDepth 100000

theorem new_block (w : World) (o : Obj) : ((w.alloc (.map #[] 0)).alloc o).heap[w.heap.size + 1]? = some o := by
  show ((w.heap.push _).push _)[_]? = _
  rw [Array.getElem?_push]
  simp

/-- What New lays. -/
theorem new_dk (w : World) (v : Value) : Dk w.heap.size (w.heap.size + 1) 0 (fun b => if b = w.heap.size then some .map else if b = w.heap.size + 1 then some .disk else none) (fun _ => none) 0 v 0
    ((w.alloc (.map #[] 0)).alloc (.cells #[.map (some w.heap.size), .int .i64 0, v, .int .i64 0] 79)) := by
  refine ⟨w.heap.size, .map [], fun _ => 0, fun _ => .slice none 0 0, new_block w _, (World.ownsMap_made w _ _ _).alloc _, fun nm f e => by simp at e, fun nm e => rfl, fun nm f e => by simp at e, by simp, by simp, fun nm f e => by simp at e, fun nm f b e => by simp at e, fun b hb => ?_⟩
  have : b = w.heap.size ∨ b = w.heap.size + 1 := by
    by_cases q : b = w.heap.size
    · exact .inl q
    · rw [if_neg q] at hb
      by_cases q2 : b = w.heap.size + 1
      · exact .inr q2
      · rw [if_neg q2] at hb; exact absurd rfl hb
  simp
  omega

/-- A new disk. -/
theorem new_any (w : World) :
    Calls Try.prog 10 #[] w fun e w' => ∃ d own, e = .returned (.pointer (some ⟨d, 0, none⟩)) ∧ Dk w.heap.size d 0 own (fun _ => none) 0 (alive d) 0 w' ∧ Below w.heap.size w w' := by
  have hmk := fun w => run_makeMap (P := Try.prog) 75 w
  go_enter Try.func10, Try.ntmps10
  go_wp2_with fail
  go_ret
  exact ⟨w.heap.size + 1, _, rfl, new_dk w _, ((Below.refl w.heap.size w).alloc (Nat.le_refl _) _).alloc (by simp) _⟩
end Go.Proofs.Ytkgpgfpclcibmaa

/- What tear leaves of a file. -/
namespace Go.Proofs.Ytkgpgfpclcibmaa
open Go.RowKit
set_option linter.unusedVariables false
set_option maxRecDepth 100000

/-- How many bytes stay of what is loose. -/
def stays (k : Int) (loose : Nat) : Nat := min k.toNat loose

section
variable {B d n m : Nat} {D : DataW Unit} {fb : Nm → Nat} {fv : Nm → Value} {own : Nat → Option Role} {st : Nm → Option (List UInt8 × Nat)} {sz : Nat} {may : Value} {left : Int} {w : World}

theorem Ow.pre {B : Nat} {w : World} {a : Option Addr} {c : Nat} {l : List UInt8} (h : Ow B w (.slice a l.length c) l) (k : Nat) (hk : k ≤ l.length) : Ow B w (.slice a k c) (l.take k) := by
  have hlen : (l.take k).length = k := by rw [List.length_take]; omega
  obtain ⟨h1, h2⟩ := h
  refine ⟨by simp [cel_length, hlen], ?_⟩
  rw [hlen]
  rcases h2 with ⟨q, q0⟩ | ⟨g, cap, cur, hv, hg, hh, hn, hcap, hsz, ht⟩
  · left
    injection q with q1 q2 q3
    subst q1; subst q3
    exact ⟨by rw [show k = 0 by omega], by omega⟩
  · right
    injection hv with q1 q2 q3
    subst q1; subst q3
    refine ⟨g, c, cur, rfl, hg, hh, by omega, hcap, hsz, ?_⟩
    have : cel (l.take k) = (cel l).take k := by simp [cel]
    rw [this, ← ht, List.take_take]
    congr 1
    simp only [Nat.mul_one]
    omega

theorem DkI.torn (h : DkI B d n m D fb fv own st sz may left w) {nm : Nm} {f : List UInt8 × Nat} (e : st nm = some f) {a : Option Addr} {c : Nat} (efv : fv nm = .slice a f.1.length c) (k : Nat) (hk : k ≤ f.1.length) :
    (∃ own', Dk B d n own' (setF st nm (some (f.1.take k, k))) sz may left ((w.setCell ⟨fb nm, 1, none⟩ (.int .i64 (k : Int))).setCell ⟨fb nm, 0, none⟩ (.slice a k c)) ∧ ∀ b, own' b ≠ none → own b ≠ none ∨ w.heap.size ≤ b) ∧
      Chg (fun b => own b ≠ none) w ((w.setCell ⟨fb nm, 1, none⟩ (.int .i64 (k : Int))).setCell ⟨fb nm, 0, none⟩ (.slice a k c)) := by
  obtain ⟨h1, h2, h3⟩ := h.file nm f e
  have hof := h.ofl nm f e
  rw [efv] at h1 h2
  have hc : Chg (fun b => own b = some (.file nm) ∨ own b = some (.data nm)) w ((w.setCell ⟨fb nm, 1, none⟩ (.int .i64 (k : Int))).setCell ⟨fb nm, 0, none⟩ (.slice a k c)) := ((Chg.refl _ w).put (fb nm) 1 _ (.inl hof)).put (fb nm) 0 _ (.inl hof)
  have hc2 : Chg (fun b => b = fb nm) w ((w.setCell ⟨fb nm, 1, none⟩ (.int .i64 (k : Int))).setCell ⟨fb nm, 0, none⟩ (.slice a k c)) := ((Chg.refl (fun b => b = fb nm) w).put (fb nm) 1 _ rfl).put (fb nm) 0 _ rfl
  have hov : ∀ b, (Value.slice a k c).ownBlock = some b → own b = some (.data nm) := fun b hb => h.ov nm f b e (by rw [efv]; cases a <;> exact hb)
  have hb1 : (w.setCell ⟨fb nm, 1, none⟩ (.int .i64 (k : Int))).heap[fb nm]? = some (.cells #[.slice a f.1.length c, .int .i64 (k : Int)] 126 (0, 0)) := by
    rw [heap_setCell_same w _ 1 _ _ _ h1]; rfl
  refine ⟨⟨_, ⟨m, D, fb, _, h.upd e hc (fv' := .slice a k c) (bytes' := f.1.take k) (s' := k) (by rw [heap_setCell_same _ _ 0 _ _ _ hb1]; rfl) ((h2.pre k hk).keptC hc2 (fun b hb q => ?_)) (by rw [List.length_take]; omega) (fun b hb => .inl (hov b hb))⟩, fun b hb => ?_⟩, hc.mono (fun b _ q => by rcases q with q | q <;> rw [q] <;> simp)⟩
  · have := hov b hb
    rw [q, hof] at this; cases this
  · left
    by_cases q : (Value.slice a k c).ownBlock = some b
    · rw [hov b q]; simp
    · rw [if_neg q] at hb; exact hb

set_option maxHeartbeats 1000000 in
theorem tear_any (h : DkI B d n m D fb fv own st sz may left w) {nm : Nm} {f : List UInt8 × Nat} (e : st nm = some f) (hlt : f.2 < f.1.length) (hfl : f.1.length ≤ 16777216) (k : Int) (hk : -9223372036854775808 ≤ k ∧ k ≤ 9223372036854775807) :
    Calls Try.prog 75 #[.pointer (some ⟨fb nm, 0, none⟩), .int .i64 k] w fun e w' => e = .returned (.int .i64 ((f.1.length - f.2 - stays k (f.1.length - f.2) : Nat) : Int)) ∧
      (∃ own', Dk B d n own' (setF st nm (some (f.1.take (f.2 + stays k (f.1.length - f.2)), f.2 + stays k (f.1.length - f.2)))) sz may left w' ∧ ∀ b, own' b ≠ none → own b ≠ none ∨ w.heap.size ≤ b) ∧ Chg (fun b => own b ≠ none) w w' := by
  obtain ⟨fa, fc, efv, hln, f0, f1, hfz, hrd⟩ := h.fcell e
  have hfz0 := hfz 0
  have hfz1 := hfz 1
  generalize hg : fb nm = g at *
  obtain ⟨fl, fs⟩ := f
  simp only [] at *
  obtain ⟨ad, rfl⟩ : ∃ ad, fa = some ad := by
    obtain ⟨ao, c, q, _, _, q3, q4⟩ := hrd
    obtain ⟨a, qa, _⟩ := q4 0 (by omega)
    injection q with q1
    exact ⟨a, by rw [q1]; exact qa⟩
  have hcap : fl.length ≤ fc ∧ fc ≤ 9223372036854775807 := by
    obtain ⟨ao, c, q, q1, q2, _, _⟩ := hrd
    injection q with _ _ q5
    unfold maxLen at q2
    omega
  obtain ⟨q, hq⟩ : ∃ q, stays k (fl.length - fs) = q := ⟨_, rfl⟩
  have hq3 : k < 0 ∧ q = 0 ∨ 0 ≤ k ∧ k ≤ (fl.length : Int) - (fs : Int) ∧ k = (q : Int) ∨ 0 ≤ k ∧ (fl.length : Int) - (fs : Int) < k ∧ q = fl.length - fs := by
    unfold stays at hq
    omega
  rw [hq]
  clear hq
  have hqb : fs + q ≤ fl.length := by omega
  have HS : Hid _ := h
  have hbk : w.heap[g]? = some (.cells #[.slice (some ad) fl.length fc, .int .i64 (fs : Int)] 126 (0, 0)) := by
    have := (h.file nm _ e).1
    rw [hg, efv] at this
    exact this
  have hW : ∀ j, ((w.drewN j).setCell ⟨g, 1, none⟩ (.int .i64 ((fs + q : Nat) : Int))).heap[g]? = some (.cells #[.slice (some ad) fl.length fc, .int .i64 ((fs + q : Nat) : Int)] 126 (0, 0)) := fun j => by
    rw [heap_setCell_same (w.drewN j) g 1 _ _ _ hbk]; rfl
  have HW : Hid _ := hW
  clear hW hbk
  go_enter Try.func75, Try.ntmps75
  rcases hq3 with ⟨k1, rfl⟩ | ⟨k1, k2, rfl⟩ | ⟨k1, k2, rfl⟩
  all_goals
    go_wp2_with fail
    go_quiet (fail)
    go_wp2_with fail
    go_region
    all_goals go_wp2_with fail
    all_goals go_ret
    all_goals
      have ht := ((HS.out.drN nq).torn e efv (fs + _) hqb)
      rw [hg] at ht
      obtain ⟨⟨own', x1, x2⟩, x3⟩ := ht
      have x1' := x1.drN 1
      have x3' := x3.dN 1
      have hd0 : Chg (fun b => own b ≠ none) w (w.drewN nq) := (Chg.of_below (Below.dN w nq)).mono (fun b hb q => by omega)
      refine ⟨ret_int (by omega), ⟨own', ?_, x2⟩, hd0.trans ((?_ : Chg (fun b => own b ≠ none) _ _).mono (fun b _ q => Or.inl q))⟩
      · first | exact x1' | (simp only [Int.natCast_add] at x1' ⊢; exact x1') | (simp only [Int.natCast_add, show ((fl.length - fs : Nat) : Int) = (fl.length : Int) - (fs : Int) by omega] at x1'; exact x1')
      · first | exact x3' | (simp only [Int.natCast_add] at x3'; exact x3') | (simp only [Int.natCast_add, show ((fl.length - fs : Nat) : Int) = (fl.length : Int) - (fs : Int) by omega] at x3'; exact x3')
end
end Go.Proofs.Ytkgpgfpclcibmaa

/- What Write of a living disk does, where it answers OK. -/
namespace Go.Proofs.Ytkgpgfpclcibmaa
open Go.RowKit
set_option linter.unusedVariables false
set_option maxRecDepth 100000

/-- What Write leaves of a file. -/
def wrF (o : Option (List UInt8 × Nat)) (l : List UInt8) : List UInt8 × Nat := match o with | some f => (f.1 ++ l, f.2) | none => (l, 0)

theorem Below.heap_dN (w : World) (q : Nat) : (w.drewN q).heap = w.heap := rfl

section
variable {B d n m : Nat} {D : DataW Unit} {fb : Nm → Nat} {fv : Nm → Value} {own : Nat → Option Role} {st : Nm → Option (List UInt8 × Nat)} {sz : Nat} {may : Value} {left : Int} {w w3 : World}

theorem DkI.mono (h : DkI B d n m D fb fv own st sz may left w) {n' : Nat} (hn : n ≤ n') : DkI B d n' m D fb fv own st sz may left w :=
  ⟨h.cell, h.map.mono hn, h.has, h.hasnt, h.file, h.od, h.om, h.ofl, h.ov, h.lo⟩

/-- Behind the append: what the walk asks of the two blocks. -/
theorem DkI.grew (h : DkI B d n m D fb fv own st sz may left w) {nm : Nm} {f : List UInt8 × Nat} (e : st nm = some f) (hg : w.grownBy w3 (fv nm).ownBlock) :
    (∃ u, w3.cell? ⟨fb nm, 0, none⟩ = some u) ∧ w3.frozen? ⟨fb nm, 0, none⟩ = false ∧ ∀ v, (w3.setCell ⟨fb nm, 0, none⟩ v).cell? ⟨d, 1, none⟩ = some (.int .i64 (sz : Int)) ∧ (w3.setCell ⟨fb nm, 0, none⟩ v).frozen? ⟨d, 1, none⟩ = false := by
  obtain ⟨h1, h2, h3⟩ := h.file nm f e
  have hof := h.ofl nm f e
  have hod := h.od
  have k1 : w3.heap[fb nm]? = w.heap[fb nm]? := hg.block _ (h.lo _ (by rw [hof]; simp)).2 (fun q => by have := h.ov nm f _ e q.symm; rw [hof] at this; cases this)
  have k2 : w3.heap[d]? = w.heap[d]? := hg.block _ (h.lo _ (by rw [hod]; simp)).2 (fun q => by have := h.ov nm f _ e q.symm; rw [hod] at this; cases this)
  rw [h1] at k1
  rw [h.cell] at k2
  have hdf : d ≠ fb nm := fun q => by rw [← q, hod] at hof; cases hof
  have k3 : ∀ v, (w3.setCell ⟨fb nm, 0, none⟩ v).heap[d]? = some (.cells #[.map (some m), .int .i64 (sz : Int), may, .int .i64 left] 79 (0, 0)) := fun v => by
    rw [Below.heap_setCell _ _ _ _ hdf]; exact k2
  exact ⟨⟨_, by rw [cell_of_row _ _ _ _ _ _ k1]; rfl⟩, frozen_of_row _ _ _ _ _ k1, fun v => ⟨by rw [cell_of_row _ _ _ _ _ _ (k3 v)]; rfl, frozen_of_row _ _ _ _ _ (k3 v)⟩⟩

/-- Behind all of it. -/
theorem DkI.wrote (h : DkI B d n m D fb fv own st sz may left w) {nm : Nm} {f : List UInt8 × Nat} {v3 : Value} {l : List UInt8} (e : st nm = some f) (hg : w.grownBy w3 (fv nm).ownBlock) (ho : Ow B w3 v3 (f.1 ++ l)) (hv : v3.ownBlock = (fv nm).ownBlock ∨ v3.ownBlock = some w.heap.size) :
    (∃ own', Dk B d n own' (setF st nm (some (f.1 ++ l, f.2))) (sz + l.length) may left ((w3.setCell ⟨fb nm, 0, none⟩ v3).setCell ⟨d, 1, none⟩ (.int .i64 ((sz + l.length : Nat) : Int))) ∧ ∀ b, own' b ≠ none → own b ≠ none ∨ w.heap.size ≤ b) ∧
      Chg (fun b => own b ≠ none) w ((w3.setCell ⟨fb nm, 0, none⟩ v3).setCell ⟨d, 1, none⟩ (.int .i64 ((sz + l.length : Nat) : Int))) := by
  obtain ⟨h1, h2, h3⟩ := h.file nm f e
  have hof := h.ofl nm f e
  have hod := h.od
  have k1 : w3.heap[fb nm]? = w.heap[fb nm]? := hg.block _ (h.lo _ (by rw [hof]; simp)).2 (fun q => by have := h.ov nm f _ e q.symm; rw [hof] at this; cases this)
  rw [h1] at k1
  have hfb := (h.lo _ (show own (fb nm) ≠ none by rw [hof]; simp))
  have c1 : Chg (fun b => own b = some (.file nm) ∨ own b = some (.data nm)) w (w3.setCell ⟨fb nm, 0, none⟩ v3) := (Chg.of_grown hg (fun b q _ => .inr (h.ov nm f b e q))).put (fb nm) 0 v3 (.inl hof)
  have hvb : ∀ b, v3.ownBlock = some b → own b = some (.data nm) ∨ w.heap.size ≤ b := fun b q => by
    rcases hv with q2 | q2
    · rw [q2] at q; exact .inl (h.ov nm f b e q)
    · rw [q2] at q; exact .inr (by have := Option.some.inj q; omega)
  have ho4 : Ow B (w3.setCell ⟨fb nm, 0, none⟩ v3) v3 (f.1 ++ l) := by
    refine ho.keptC (Chg.of_grown (S := fun b => b = fb nm) (grown_set0 w3 (fb nm) 0 v3) (fun b q _ => (Option.some.inj q).symm)) (fun b q q2 => ?_)
    rcases hvb b q with q3 | q3
    · rw [q2, hof] at q3; cases q3
    · omega
  have hu := h.upd e c1 (fv' := v3) (bytes' := f.1 ++ l) (s' := f.2) (by rw [heap_setCell_same w3 _ 0 _ _ _ k1]; rfl) ho4 (by rw [List.length_append]; omega) hvb
  refine ⟨⟨_, ⟨m, D, fb, _, hu.setDisk ((Chg.refl _ _).put d 1 _ rfl) (by rw [heap_setCell_same _ _ 1 _ _ _ hu.cell]; rfl)⟩, fun b hb => ?_⟩, ?_⟩
  · by_cases q : v3.ownBlock = some b
    · rcases hvb b q with q3 | q3
      · left; rw [q3]; simp
      · exact .inr q3
    · rw [if_neg q] at hb; exact .inl hb
  · refine (c1.mono (fun b _ q => ?_)).put d 1 _ (by rw [hod]; simp)
    rcases q with q | q <;> rw [q] <;> simp

theorem cell_no_map {w : World} {mb : Nat} {es : Array MapEntry} {clock : Nat} (h : w.heap[mb]? = some (.map es clock)) (a : Addr) (ha : a.block = mb) : w.cell? a = none := by
  subst ha
  simp [World.cell?, h]

theorem Rd.offMap {mb : Nat} {es : Array MapEntry} {clock : Nat} {w w' : World} {v : Value} {l : List UInt8} (h : Rd w v l) (hm : w.heap[mb]? = some (.map es clock)) (hc : Chg (fun b => b = mb) w w') : Rd w' v l := by
  obtain ⟨ao, c, rfl, h1, h2, h3, h4⟩ := h
  refine ⟨ao, c, rfl, h1, h2, h3, fun i hi => ?_⟩
  obtain ⟨a, rfl, hce⟩ := h4 i hi
  have hlt := World.block_lt_of_cell? w _ hce
  refine ⟨a, rfl, ?_⟩
  rw [World.cell?_of_block (w := w) (hc.block _ hlt (fun q => by rw [cell_no_map hm _ q] at hce; cases hce))]
  exact hce

/-- A new file in the map. -/
theorem DkI.put1 (h : DkI B d n m D fb fv own st sz may left w) {nm : Nm} (e : st nm = none) (hsz : nm.length ≤ maxLen) (q : Nat) {w2 : World} (hown2 : w2.ownsMap Try.prog 9 flE m (n + 1) (D.put (.string nm) (.lit (.int .u64 (w.heap.size : Int)))))
    (hg2 : ((w.drewN q).alloc (.cells #[.slice none 0 0, .int .i64 0] 126)).grownBy w2 (some m)) :
    DkI B d (n + 1) m (D.put (.string nm) (.lit (.int .u64 (w.heap.size : Int)))) (fun x => if x = nm then w.heap.size else fb x) (fun x => if x = nm then .slice none 0 0 else fv x) (fun b => if b = w.heap.size then some (.file nm) else own b) (setF st nm (some ([], 0))) sz may left w2 ∧
      w2.cell? ⟨w.heap.size, 0, none⟩ = some (.slice none 0 0) ∧ Chg (fun b => b = m) w w2 ∧ B ≤ w2.heap.size ∧ ∀ v l, Rd w v l → Rd w2 v l := by
  have hd := h.lo d (by rw [h.od]; simp)
  have hm := h.lo m (by rw [h.om]; simp)
  have hc1 : Chg (fun b => b = m) w ((w.drewN q).alloc (.cells #[.slice none 0 0, .int .i64 0] 126)) := ((Chg.of_below (Below.dN w q)).mono (S' := fun b => b = m) (fun b hb q => by omega)).alloc _
  have hc : Chg (fun b => b = m) w w2 := hc1.trans (Chg.of_grown hg2 (fun b q _ => .inl (Option.some.inj q).symm))
  have hblk : w2.heap[w.heap.size]? = some (.cells #[.slice none 0 0, .int .i64 0] 126 (0, 0)) := by
    rw [hg2.block _ (by simp) (fun q => by have := Option.some.inj q; omega)]
    show ((w.drewN q).heap.push _)[(w.drewN q).heap.size]? = _
    simp
  refine ⟨h.add (w1 := w) e hsz (Nat.le_refl _) (by omega) hc hown2 hblk, by rw [cell_of_row _ _ _ _ _ _ hblk]; rfl, hc, by have := hc.size; omega, fun v l hr => ?_⟩
  obtain ⟨es, clock, hmb, _⟩ := h.map
  exact hr.offMap hmb hc

theorem setF_setF (st : Nm → Option (List UInt8 × Nat)) (nm : Nm) (x y : Option (List UInt8 × Nat)) : setF (setF st nm x) nm y = setF st nm y := by
  funext k
  by_cases h : k = nm
  · subst h; rw [setF_same, setF_same]
  · rw [setF_other _ _ h, setF_other _ _ h, setF_other _ _ h]

/-- A new file, and its first bytes. -/
theorem DkI.first (h : DkI B d n m D fb fv own st sz may left w) {nm : Nm} (e : st nm = none) (hsz : nm.length ≤ maxLen) (q : Nat) {w2 : World} (hown2 : w2.ownsMap Try.prog 9 flE m (n + 1) (D.put (.string nm) (.lit (.int .u64 (w.heap.size : Int)))))
    (hg2 : ((w.drewN q).alloc (.cells #[.slice none 0 0, .int .i64 0] 126)).grownBy w2 (some m)) (w3 : World) (hg : w2.grownBy w3 none) :
    ((∃ u, w3.cell? ⟨w.heap.size, 0, none⟩ = some u) ∧ w3.frozen? ⟨w.heap.size, 0, none⟩ = false ∧ ∀ v, (w3.setCell ⟨w.heap.size, 0, none⟩ v).cell? ⟨d, 1, none⟩ = some (.int .i64 (sz : Int)) ∧ (w3.setCell ⟨w.heap.size, 0, none⟩ v).frozen? ⟨d, 1, none⟩ = false) ∧
    ∀ v3 l, Ow B w3 v3 l → (v3.ownBlock = none ∨ v3.ownBlock = some w2.heap.size) →
      (∃ own', Dk B d (n + 1) own' (setF st nm (some (l, 0))) (sz + l.length) may left ((w3.setCell ⟨w.heap.size, 0, none⟩ v3).setCell ⟨d, 1, none⟩ (.int .i64 ((sz + l.length : Nat) : Int))) ∧ ∀ b, own' b ≠ none → own b ≠ none ∨ w.heap.size ≤ b) ∧
      Chg (fun b => own b ≠ none) w ((w3.setCell ⟨w.heap.size, 0, none⟩ v3).setCell ⟨d, 1, none⟩ (.int .i64 ((sz + l.length : Nat) : Int))) := by
  obtain ⟨h2, _, hc2, hB2, _⟩ := h.put1 e hsz q hown2 hg2
  have hg' : w2.grownBy w3 ((fun x => if x = nm then Value.slice none 0 0 else fv x) nm).ownBlock := by simp only [↓reduceIte]; exact hg
  have g := h2.grew (setF_same _ _ _) hg'
  simp only [↓reduceIte] at g
  refine ⟨g, fun v3 l ho hv => ?_⟩
  have x := h2.wrote (setF_same _ _ _) (v3 := v3) (l := l) hg' (by simpa using ho) (by simp only [↓reduceIte]; exact hv)
  simp only [↓reduceIte, List.nil_append, setF_setF] at x
  obtain ⟨⟨own', x1, x2⟩, x3⟩ := x
  have s2 := hc2.size
  refine ⟨⟨own', x1, fun b hb => ?_⟩, (hc2.mono (fun b _ q => by rw [q, h.om]; simp)).trans (x3.mono (fun b hb q => ?_))⟩
  · rcases x2 b hb with q | q
    · by_cases q2 : b = w.heap.size
      · exact .inr (by omega)
      · rw [if_neg q2] at q; exact .inl q
    · exact .inr (by omega)
  · by_cases q2 : b = w.heap.size
    · exact .inr (by omega)
    · rw [if_neg q2] at q; exact .inl q
end
end Go.Proofs.Ytkgpgfpclcibmaa
