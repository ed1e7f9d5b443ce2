/- Plain mathematics of bytes and numbers: what the codec's calls answer, as functions on lists of bytes. No program is named here. -/
import Derived.Test.YtpieehbikmmifaaRows
import Derived.WalkKit
import Derived.WalkSpells
import Derived.WalkLawsBesides
import Derived.BigQuiet
import Derived.Deep.QuietTactic
import Derived.Laws.AppendOwnNone
import Derived.Maps.OwnSet
import Derived.DeepKeys4
import Derived.Maps.Keyed
import Derived.Laws.EntriesVeiled
import Derived.Carry
import Derived.Handy
import Derived.Deep.RegionHeld3
import Derived.Deep.RegionLaw
namespace Go.Proofs.Ytpieehbikmmifaa.M

/-- The lowest k bytes of n, the highest first. -/
def be : Nat → Nat → List UInt8
  | 0, _ => []
  | k + 1, n => UInt8.ofNat (n / 2 ^ (8 * k)) :: be k n

theorem be_length (k n : Nat) : (be k n).length = k := by
  induction k with
  | zero => rfl
  | succ k ih => simp [be, ih]

theorem u8_ofNat (n : Nat) : ((UInt8.ofNat n).toNat : Int) = (n : Int) % 256 := by
  rw [UInt8.toNat_ofNat']; omega

/-- n in as few bytes as can be, seven bits a byte, the lowest first; at most k + 1 bytes. -/
def viF : Nat → Nat → List UInt8
  | 0, n => [UInt8.ofNat n]
  | k + 1, n => if n < 128 then [UInt8.ofNat n] else UInt8.ofNat (n % 128 + 128) :: viF k (n / 128)
def vi (n : Nat) : List UInt8 := viF 9 n

theorem viF_length (k n : Nat) : (viF k n).length ≤ k + 1 := by
  induction k generalizing n with
  | zero => simp [viF]
  | succ k ih =>
    unfold viF
    split
    · simp
    · have := ih (n / 128); simp only [List.length_cons]; omega

/-- More rounds than are needed turn nothing. -/
theorem viF_more (k n : Nat) (h : n < 128 ^ (k + 1)) : viF (k + 1) n = viF k n := by
  induction k generalizing n with
  | zero => simp only [viF]; rw [if_pos (by simpa using h)]
  | succ k ih =>
    rw [viF]; conv => rhs; rw [viF]
    split
    · rfl
    · rw [ih]
      rw [Nat.pow_succ] at h
      exact Nat.div_lt_of_lt_mul (by rw [Nat.mul_comm]; exact h)

/-- What is left of a number of 64 bits ahead of its last k + 1 bytes of seven bits. -/
def qb (k : Nat) : Nat := 2 ^ (64 - 7 * (9 - k))
theorem qb_le (k : Nat) : qb k ≤ 18446744073709551616 := Nat.pow_le_pow_right (by decide) (show 64 - 7 * (9 - k) ≤ 64 by omega)
theorem qb_zero : qb 0 = 2 := rfl
theorem qb_succ (k : Nat) (h : k + 1 ≤ 9) : qb (k + 1) = qb k * 128 := by
  unfold qb
  rw [show 64 - 7 * (9 - (k + 1)) = 64 - 7 * (9 - k) + 7 by omega, Nat.pow_add]

theorem not64 (n : Nat) (h : n < 18446744073709551616) : 18446744073709551615 ^^^ n = 18446744073709551615 - n := by
  have e : (BitVec.allOnes 64 ^^^ BitVec.ofNat 64 n).toNat = (~~~ (BitVec.ofNat 64 n)).toNat := by rw [BitVec.allOnes_xor]
  rw [BitVec.toNat_xor, BitVec.toNat_not, BitVec.toNat_ofNat, BitVec.toNat_allOnes, Nat.mod_eq_of_lt (by simpa using h)] at e
  simpa using e

theorem or128 (x : Nat) (h : x < 256) : x ||| 128 = x % 128 + 128 := by
  have : ∀ y : Fin 256, y.val ||| 128 = y.val % 128 + 128 := by decide +kernel
  exact this ⟨x, h⟩

/-- The number whose bytes these are, the highest first. -/
def num (l : List UInt8) : Nat := l.foldl (fun n x => n * 256 + x.toNat) 0
theorem num_snoc (l : List UInt8) (x : UInt8) : num (l ++ [x]) = num l * 256 + x.toNat := by simp [num]
theorem num_lt_from (l : List UInt8) : ∀ n, l.foldl (fun n x => n * 256 + x.toNat) n < (n + 1) * 256 ^ l.length := by
  induction l with
  | nil => intro n; simp
  | cons x l ih =>
    intro n
    rw [List.foldl_cons]
    refine Nat.lt_of_lt_of_le (ih _) ?_
    rw [List.length_cons, Nat.pow_succ', ← Nat.mul_assoc]
    exact Nat.mul_le_mul_right _ (by have := x.toNat_lt; omega)
theorem num_lt (l : List UInt8) : num l < 256 ^ l.length := by simpa [num] using num_lt_from l 0

/-- The number of seven bits a byte, the lowest first. -/
def val : List UInt8 → Nat
  | [] => 0
  | x :: r => x.toNat % 128 + 128 * val r
theorem val_lt (l : List UInt8) : val l < 128 ^ l.length := by
  induction l with
  | nil => simp [val]
  | cons x l ih =>
    rw [val, List.length_cons, Nat.pow_succ']
    omega
theorem val_append (a b : List UInt8) : val (a ++ b) = val a + 128 ^ a.length * val b := by
  induction a with
  | nil => simp [val]
  | cons x a ih =>
    rw [List.cons_append, val, val, ih, List.length_cons, Nat.pow_succ', Nat.mul_add, Nat.mul_assoc]
    omega

/-- How many of the first k bytes are followed by another one. -/
def cont : Nat → List UInt8 → Nat
  | 0, _ => 0
  | _ + 1, [] => 0
  | k + 1, x :: r => if 128 ≤ x.toNat then cont k r + 1 else 0

theorem cont_le (k : Nat) (l : List UInt8) : cont k l ≤ k ∧ cont k l ≤ l.length := by
  induction k generalizing l with
  | zero => simp [cont]
  | succ k ih =>
    cases l with
    | nil => simp [cont]
    | cons x l =>
      have := ih l
      simp only [cont, List.length_cons]
      split <;> omega

/-- It is k, if the first k are so, and there is no other one, or it is not. -/
theorem cont_eq (m k : Nat) (l : List UInt8) (hk : k ≤ m) (hl : k ≤ l.length) (h1 : ∀ j, (h : j < k) → 128 ≤ (l[j]'(by omega)).toNat) (h2 : k = m ∨ k = l.length ∨ ∃ h : k < l.length, l[k].toNat < 128) : cont m l = k := by
  induction k generalizing m l with
  | zero =>
    cases m with
    | zero => rfl
    | succ m =>
      cases l with
      | nil => rfl
      | cons x l =>
        rcases h2 with h2 | h2 | ⟨_, h2⟩
        · omega
        · simp at h2
        · simp only [cont]; rw [if_neg]; simp at h2; omega
  | succ k ih =>
    obtain ⟨m, rfl⟩ : ∃ m', m = m' + 1 := ⟨m - 1, by omega⟩
    cases l with
    | nil => simp at hl
    | cons x l =>
      have hx := h1 0 (by omega)
      simp at hx
      simp only [cont]
      rw [if_pos hx, ih m l (by omega) (by simpa using hl) (fun j hj => by have := h1 (j + 1) (by omega); simpa using this)]
      rcases h2 with h2 | h2 | ⟨h, h2⟩
      · exact .inl (by omega)
      · exact .inr (.inl (by simpa using h2))
      · exact .inr (.inr ⟨by simpa using h, by simpa using h2⟩)

/-- What a number of seven bits a byte is read as: the number, what stands behind, the error (0: none; 10: too short; 12: not the form). -/
def tv (l : List UInt8) : Nat × List UInt8 × Nat :=
  let s := cont 10 l
  if s = 10 then (0, [], 12)
  else if l.length ≤ s then (0, [], 10)
  else if 0 < s ∧ (l.getD s 0).toNat = 0 ∨ s = 9 ∧ 1 < (l.getD s 0).toNat then (0, [], 12)
  else (val (l.take (s + 1)), l.drop (s + 1), 0)

/-- One round of the sum. -/
def st (c : Nat) : Nat := (c / 2) ^^^ (c % 2 * 3988292384)
def st8 (c : Nat) : Nat := st (st (st (st (st (st (st (st c)))))))
def crcF (c : Nat) (l : List UInt8) : Nat := l.foldl (fun c x => st8 (c ^^^ x.toNat)) c
def crc (l : List UInt8) : Nat := 4294967295 ^^^ crcF 4294967295 l

def stN : Nat → Nat → Nat
  | 0, c => c
  | k + 1, c => stN k (st c)
theorem stN_eight (c : Nat) : stN 8 c = st8 c := rfl
theorem st_lt (c : Nat) (h : c < 4294967296) : st c < 4294967296 := by
  unfold st
  refine Nat.xor_lt_two_pow (n := 32) (by omega) ?_
  have : c % 2 < 2 := Nat.mod_lt _ (by decide)
  omega
theorem st8_lt (c : Nat) (h : c < 4294967296) : st8 c < 4294967296 := by
  unfold st8
  repeat (apply st_lt)
  exact h
theorem xor_lt (c x : Nat) (h : c < 4294967296) (hx : x < 256) : c ^^^ x < 4294967296 := Nat.xor_lt_two_pow (n := 32) h (by omega)
theorem crcF_lt (l : List UInt8) : ∀ c, c < 4294967296 → crcF c l < 4294967296 := by
  induction l with
  | nil => intro c h; exact h
  | cons x l ih =>
    intro c h
    exact ih _ (st8_lt _ (xor_lt _ _ h x.toNat_lt))
theorem crc_lt (l : List UInt8) : crc l < 4294967296 := Nat.xor_lt_two_pow (n := 32) (by decide) (crcF_lt l _ (by decide))
theorem crcF_snoc (c : Nat) (l : List UInt8) (x : UInt8) : crcF c (l ++ [x]) = st8 (crcF c l ^^^ x.toNat) := by simp [crcF]

/-- A frame, and what is read out of one: the bytes, what stands behind, the error. -/
def frame (l : List UInt8) : List UInt8 := vi l.length ++ be 4 (crc l) ++ l
def part (l : List UInt8) (n : Nat) : List UInt8 × List UInt8 × Nat := if l.length < n then ([], [], 10) else (l.take n, l.drop n, 0)
def tf (l : List UInt8) : List UInt8 × List UInt8 × Nat :=
  let r := tv l
  if r.2.2 ≠ 0 then ([], [], r.2.2)
  else if r.2.1.length < 4 then ([], [], 10)
  else if (r.2.1.drop 4).length < r.1 then ([], [], 10)
  else if crc ((r.2.1.drop 4).take r.1) ≠ num (r.2.1.take 4) then ([], [], 11)
  else ((r.2.1.drop 4).take r.1, (r.2.1.drop 4).drop r.1, 0)

end Go.Proofs.Ytpieehbikmmifaa.M

/- My own words for memory, used by all walks of this seat: 'Rd w v l': the slice value v reads in the world w as the bytes l. Nothing of the program is named here. -/
namespace Go.Proofs.Ytpieehbikmmifaa
open Go.RowKit
set_option linter.unusedVariables false

/-- The cells of a list of bytes. -/
def cel (l : List UInt8) : List Value := l.map fun x => Value.int .u8 (x.toNat : Int)

theorem cel_length (l : List UInt8) : (cel l).length = l.length := by simp [cel]
theorem cel_append (a b : List UInt8) : cel (a ++ b) = cel a ++ cel b := by simp [cel]
theorem cel_get (l : List UInt8) (i : Nat) (h : i < l.length) : (cel l)[i]? = some (.int .u8 (l[i].toNat : Int)) := by simp [cel, h]
theorem cel_one (l : List UInt8) : ∀ u ∈ cel l, u.oneCell' = true := by
  intro u hu
  obtain ⟨_, _, rfl⟩ := List.mem_map.1 hu
  rfl

/-- The slice value v reads as the bytes l. -/
def Rd (w : World) (v : Value) (l : List UInt8) : Prop :=
  ∃ ao c, v = .slice ao l.length c ∧ l.length ≤ c ∧ c ≤ maxLen ∧ (ao = none → c = 0) ∧ ∀ i, (h : i < l.length) → ∃ a, ao = some a ∧ w.cell? (a.add i) = some (.int .u8 (l[i].toNat : Int))

theorem Rd.two {w : World} {v : Value} {l : List UInt8} (h : Rd w v l) :
    (v = .slice none 0 0 ∧ l = []) ∨ ∃ a c, v = .slice (some a) l.length c ∧ l.length ≤ c ∧ c ≤ maxLen ∧ ∀ i, (h : i < l.length) → w.cell? (a.add i) = some (.int .u8 (l[i].toNat : Int)) := by
  obtain ⟨ao, c, hv, h1, h2, h3, h4⟩ := h
  cases ao with
  | none =>
    have hc := h3 rfl
    have hl : l = [] := List.length_eq_zero_iff.1 (by omega)
    subst hl; subst hc
    exact .inl ⟨hv, rfl⟩
  | some a =>
    refine .inr ⟨a, c, hv, h1, h2, fun i hi => ?_⟩
    obtain ⟨a', e, hc⟩ := h4 i hi
    obtain rfl := Option.some.inj e
    exact hc

theorem Rd.mk {w : World} {a : Addr} {n c : Nat} {l : List UInt8} (hn : n = l.length) (h1 : l.length ≤ c) (h2 : c ≤ maxLen) (h3 : ∀ i, (h : i < l.length) → w.cell? (a.add i) = some (.int .u8 (l[i].toNat : Int))) : Rd w (.slice (some a) n c) l :=
  ⟨some a, c, by rw [hn], h1, h2, (fun h => by cases h), fun i hi => ⟨a, rfl, h3 i hi⟩⟩

theorem Rd.nil (w : World) : Rd w (.slice none 0 0) [] := ⟨none, 0, rfl, by simp, by simp, fun _ => rfl, fun i hi => by simp at hi⟩

theorem add_zero (a : Addr) : a.add 0 = a := rfl
theorem map_add_zero (ao : Option Addr) : ao.map (fun a => a.add 0) = ao := by cases ao <;> rfl

/-- A slice of the call's own, in new memory from block B on. -/
def Ow (B : Nat) (w : World) (v : Value) (l : List UInt8) : Prop := w.ownsRow B 5 1 v l.length (cel l)

/-- Two values that own no block together. -/
def Apart (v u : Value) : Prop := v.ownBlock = none ∨ v.ownBlock ≠ u.ownBlock

theorem Rd.len {w : World} {v : Value} {l : List UInt8} (h : Rd w v l) : l.length ≤ maxLen := by
  obtain ⟨ao, c, _, h1, h2, _⟩ := h
  omega

theorem add_block (a : Addr) (i : Nat) : (a.add i).block = a.block := by
  unfold Addr.add; split <;> rfl

theorem Rd.below {B : Nat} {w w' : World} {v : Value} {l : List UInt8} (h : Rd w v l) (hb : Below B w w') (hB : w.heap.size ≤ B) : Rd w' v l := by
  obtain ⟨ao, c, h0, h1, h2, h3, h4⟩ := h
  refine ⟨ao, c, h0, h1, h2, h3, fun i hi => ?_⟩
  obtain ⟨a, e, hc⟩ := h4 i hi
  have hlt := World.block_lt_of_cell? w _ hc
  exact ⟨a, e, by rw [hb.cell (by omega)]; exact hc⟩

/-- What two worlds with the same memory read is the same. -/
theorem Rd.drewN {w : World} {v : Value} {l : List UInt8} (h : Rd w v l) (n : Nat) : Rd (w.drewN n) v l := h.below (below_drewN (Below.refl _ _) n) (Nat.le_refl _)
theorem Rd.redrew {w : World} {n : Nat} {v : Value} {l : List UInt8} (h : Rd (w.drewN n) v l) (m : Nat) : Rd (w.drewN m) v l := h
theorem Rd.alloc {w : World} {v : Value} {l : List UInt8} (h : Rd w v l) (o : Obj) : Rd (w.alloc o) v l := h.below ((Below.refl _ _).alloc (Nat.le_refl _) o) (Nat.le_refl _)

/-- A piece of what is read: v[i:j]. -/
theorem Rd.piece {w : World} {ao : Option Addr} {n c : Nat} {l : List UInt8} (h : Rd w (.slice ao n c) l) (i j : Nat) (hij : i ≤ j) (hj : j ≤ l.length) (ao' : Option Addr)
    (ha : (c = i → ao' = ao) ∧ (¬ c = i → ao' = ao.map (fun a => a.add i))) : Rd w (.slice ao' (j - i) (c - i)) ((l.take j).drop i) := by
  obtain ⟨ao0, c0, e, h1, h2, h3, h4⟩ := h
  simp only [Value.slice.injEq] at e
  obtain ⟨rfl, rfl, rfl⟩ := e
  have hlen : ((l.take j).drop i).length = j - i := by simp; omega
  refine ⟨ao', c - i, by rw [hlen], by rw [hlen]; omega, by omega, fun hn => ?_, fun k hk => ?_⟩
  · by_cases hc : c = i
    · omega
    · rw [ha.2 hc] at hn
      have : ao = none := by cases ao <;> simp_all
      have := h3 this; omega
  · rw [hlen] at hk
    obtain ⟨a, rfl, hc⟩ := h4 (i + k) (by omega)
    have hne : ¬ c = i := by omega
    refine ⟨a.add i, by rw [ha.2 hne]; rfl, ?_⟩
    have e2 : (a.add i).add k = a.add (i + k) := by
      unfold Addr.add
      by_cases hi : i = 0
      · subst hi; simp
      · by_cases hk0 : k = 0
        · subst hk0; simp
        · simp only [hi, hk0, if_false]
          rw [if_neg (by omega)]
          simp
    rw [e2, hc]
    simp

theorem Rd.pre {w : World} {ao : Option Addr} {n c : Nat} {l : List UInt8} (h : Rd w (.slice ao n c) l) (j : Nat) (hj : j ≤ l.length) : Rd w (.slice ao j c) (l.take j) := by
  have := h.piece 0 j (Nat.zero_le _) hj ao ⟨fun _ => rfl, fun _ => (map_add_zero ao).symm⟩
  simpa using this
theorem Rd.post {w : World} {ao : Option Addr} {n c : Nat} {l : List UInt8} (h : Rd w (.slice ao n c) l) (i : Nat) (hi : i ≤ l.length) (ao' : Option Addr)
    (ha : (c = i → ao' = ao) ∧ (¬ c = i → ao' = ao.map (fun a => a.add i))) : Rd w (.slice ao' (l.length - i) (c - i)) (l.drop i) := by
  have := h.piece i l.length hi (Nat.le_refl _) ao' ha
  simpa using this

theorem Rd.cong {w : World} {x x' : Option Addr} {n n' c c' : Nat} {l : List UInt8} (h : Rd w (.slice x n c) l) (hx : x' = x) (hn : n' = n) (hc : c' = c) : Rd w (.slice x' n' c') l := by
  subst hx; subst hn; subst hc; exact h

theorem Ow.rd {B : Nat} {w : World} {v : Value} {l : List UInt8} (h : Ow B w v l) : Rd w v l := by
  have h' := h
  obtain ⟨_, h2⟩ := h
  rcases h2 with ⟨hv, h0⟩ | ⟨g, cap, cur, hv, hg, hh, hn, hcap, hsz, htake⟩
  · obtain rfl := List.length_eq_zero_iff.1 h0
    subst hv
    exact Rd.nil _
  · subst hv
    refine Rd.mk rfl hn hcap (fun i hi => ?_)
    rw [Addr.add_lit, Nat.zero_add]
    unfold Ow at h'
    rw [h'.cellAt i (by omega), cel_get l i hi]

theorem Ow.below {B C : Nat} {w w' : World} {v : Value} {l : List UInt8} (h : Ow B w v l) (hb : Below C w w') (hC : w.heap.size ≤ C) : Ow B w' v l := by
  obtain ⟨h1, h2⟩ := h
  refine ⟨h1, ?_⟩
  rcases h2 with h2 | ⟨g, cap, cur, hv, hg, hh, r⟩
  · exact .inl h2
  · refine .inr ⟨g, cap, cur, hv, hg, ?_, r⟩
    have hlt : g < w.heap.size := (Array.getElem?_eq_some_iff.1 hh).1
    rw [hb.block g (by omega)]; exact hh

theorem Ow.apart {B B' : Nat} {w w' : World} {v u : Value} {l m : List UInt8} (h : Ow B w v l) (k : Ow B' w' u m) (hB : w.heap.size ≤ B') : Apart v u := by
  by_cases e : v.ownBlock = none
  · exact .inl e
  · refine .inr fun e2 => ?_
    obtain ⟨b, hb⟩ := Option.ne_none_iff_exists'.1 e
    have h1 := (World.ownsRow.lt h b hb).2
    have h2 := (World.ownsRow.lt k b (by rw [← e2]; exact hb)).1
    omega
theorem Ow.mono {B B' : Nat} {w : World} {v : Value} {l : List UInt8} (h : Ow B w v l) (hB : B' ≤ B) : Ow B' w v l := by
  obtain ⟨h1, h2⟩ := h
  refine ⟨h1, ?_⟩
  rcases h2 with h2 | ⟨g, cap, cur, hv, hg, r⟩
  · exact .inl h2
  · exact .inr ⟨g, cap, cur, hv, by omega, r⟩

theorem Ow.alloc {B : Nat} {w : World} {v : Value} {l : List UInt8} (h : Ow B w v l) (o : Obj) : Ow B (w.alloc o) v l := World.ownsRow.alloc h o
theorem Ow.drew {B : Nat} {w : World} {v : Value} {l : List UInt8} (h : Ow B w v l) : Ow B w.drew v l := World.ownsRow.drew h
theorem Ow.nil (B : Nat) (w : World) : Ow B w (.slice none 0 0) [] := World.ownsRow_nil _ _ _ _

theorem Ow.lit0 (B : Nat) (w : World) (hB : B ≤ w.heap.size) : Ow B (w.alloc (.cells #[] 5)) (.slice (some ⟨w.heap.size, 0, none⟩) 0 0) [] := World.ownsRow_made w #[] 0 hB (by simp) rfl
theorem ret_int {k : IntKind} {a b : Int} (h : a = b) : Ending.returned (.int k a) = .returned (.int k b) := by rw [h]

theorem Below.tr {w w' w'' : World} (h : Below w.heap.size w w') (k : Below w'.heap.size w' w'') : Below w.heap.size w w'' := h.trans (k.mono h.size)

theorem Below.drN {B : Nat} {a w : World} (h : Below B a w) (n : Nat) : Below B a (w.drewN n) := below_drewN h n

theorem Try.cells5 : Try.prog.cellsOf 5 = 1 := by kernel_rfl
theorem Try.info5 : (Try.prog.info? 5).map (fun i => (i.zero, i.size, i.bytes)) = some (some (.int .u8 0), 1, 1) := by kernel_rfl


/-- What is read in a slice of one new cell. -/
theorem rd_one (w : World) (z : Int) (b : UInt8) (hz : z = (b.toNat : Int)) (t : TypeId) : Rd (w.alloc (.cells #[.int .u8 z] t)) (.slice (some ⟨w.heap.size, 0, none⟩) 1 1) [b] := by
  refine Rd.mk rfl (by simp) (by simp [maxLen]) (fun i hi => ?_)
  obtain rfl : i = 0 := by simpa using hi
  rw [show (⟨w.heap.size, 0, none⟩ : Addr).add 0 = ⟨w.heap.size, 0, none⟩ from rfl, World.cell?_alloc_at _ _ _ _ rfl]
  subst hz
  rfl

/-- 'append(out, x...)' of bytes, out the call's own. -/
theorem wpList_app {w : World} {ops : Array Oper} {rest : List Oper} {o : Oper} {a : Act} {Q : Exit → Act → World → Prop} (hgd : o.guard = none) (s x : Operand)
    (ho : o.op = .call { callee := .builtin .append, args := #[s, x], argTypes := #[33, 33] })
    (B : Nat) (v : Value) (l : List UInt8) (hs : a.eval s = v) (hown : Ow B w v l) (vx : Value) (m : List UInt8) (hx : a.eval x = vx) (hm : Rd w vx m)
    (hB : B ≤ w.heap.size) (hlen : l.length + m.length ≤ 140737488355328)
    (h : ∀ v' w', Ow B w' v' (l ++ m) → Below B w w' → w.grownBy w' v.ownBlock → wpList Try.prog ops Q rest (a.put o.dst v') w') : wpList Try.prog ops Q (o :: rest) a w := by
  obtain ⟨i, hi, hz0, hz1, hz2⟩ := info_parts Try.info5
  have hbel : ∀ {w'}, w.grownBy w' v.ownBlock → Below B w w' := fun hg => (Below.refl B w).grown hg hB (fun k hk => (hown.lt k hk).1)
  rcases hm.two with ⟨rfl, rfl⟩ | ⟨ad, c, rfl, h1, h2, h3⟩
  · refine wpList_append_own_none hgd s x 33 ho B 5 i 1 Try.underlying33 hi _ _ _ hs hown hx ?_
    exact h v w (by simpa using hown) (Below.refl _ _) (World.grownBy.refl _ _)
  · refine wpList_append_own w hgd s x 33 ho B 5 i _ 1 1 Try.underlying33 hi hz0 hz1 hz2 rfl (by decide) v l.length (cel l) hs hown ad m.length c (cel m) hx (by simp [cel_length]) ?_ (cel_one m) (by unfold maxLen; omega) (by omega) hB ?_
    · intro j u hu
      have hj : j < m.length := by have := (List.getElem?_eq_some_iff.1 hu).1; simpa [cel_length] using this
      rw [h3 j hj]; rw [cel_get m j hj] at hu; exact hu
    · intro v' w' ho' hg' _
      refine h v' w' ?_ (hbel hg') hg'
      unfold Ow; rw [cel_append, List.length_append]; exact ho'

end Go.Proofs.Ytpieehbikmmifaa

/- A word for what a call turns: of what was there only blocks of S. Nothing of the program is named here. -/
namespace Go.Proofs.Ytpieehbikmmifaa
open Go.RowKit
set_option linter.unusedVariables false
set_option maxRecDepth 100000

theorem grown_set0 (w : World) (g i : Nat) (u : Value) : w.grownBy (w.setCell ⟨g, i, none⟩ u) (some g) :=
  ⟨rfl, rfl, rfl, by simp, fun k _ hk => heap_setCell_other w ⟨g, i, none⟩ k u (fun e => hk (by simp [e]))⟩

/-- Of what was there only blocks of S have turned. -/
structure Chg (S : Nat → Prop) (w w' : World) : Prop where
  os : w'.os = w.os
  tape : w'.tape = w.tape
  output : w'.output = w.output
  size : w.heap.size ≤ w'.heap.size
  block : ∀ b, b < w.heap.size → ¬ S b → w'.heap[b]? = w.heap[b]?

theorem Chg.of_grown {S : Nat → Prop} {w w' : World} {r : Option Nat} (h : w.grownBy w' r) (hr : ∀ b, r = some b → b < w.heap.size → S b) : Chg S w w' :=
  ⟨h.os, h.tape, h.output, h.size, fun b hb hs => h.block b hb (fun e => hs (hr b e.symm hb))⟩
theorem Chg.trans {S : Nat → Prop} {w w' w'' : World} (h : Chg S w w') (k : Chg (fun b => S b ∨ w.heap.size ≤ b) w' w'') : Chg S w w'' :=
  ⟨k.os.trans h.os, k.tape.trans h.tape, k.output.trans h.output, Nat.le_trans h.size k.size, fun b hb hs => (k.block b (Nat.lt_of_lt_of_le hb h.size) (by rintro (e | e); exact hs e; omega)).trans (h.block b hb hs)⟩
theorem Chg.below {S : Nat → Prop} {B : Nat} {w w' : World} (h : Chg S w w') (hS : ∀ b, S b → B ≤ b) (hB : B ≤ w.heap.size) : Below B w w' :=
  ⟨h.os, h.tape, h.output, h.size, fun b hb => h.block b (by omega) (fun e => by have := hS b e; omega)⟩
theorem Chg.mono {S S' : Nat → Prop} {w w' : World} (h : Chg S w w') (hS : ∀ b, b < w.heap.size → S b → S' b) : Chg S' w w' := ⟨h.os, h.tape, h.output, h.size, fun b hb hs => h.block b hb (fun e => hs (hS b hb e))⟩

theorem Rd.keptC {S : Nat → Prop} {w w' : World} {v : Value} {l : List UInt8} (h : Rd w v l) (hg : Chg S w w') (hne : ∀ b, v.ownBlock = some b → ¬ S b) : Rd w' v l := by
  obtain ⟨ao, c, rfl, h1, h2, h3, h4⟩ := h
  refine ⟨ao, c, rfl, h1, h2, h3, fun i hi => ?_⟩
  obtain ⟨a, rfl, hc⟩ := h4 i hi
  have hlt := World.block_lt_of_cell? w _ hc
  rw [add_block] at hlt
  refine ⟨a, rfl, ?_⟩
  rw [World.cell?_of_block (w := w) (by rw [add_block]; exact hg.block a.block hlt (hne a.block rfl))]
  exact hc
theorem ownsRow_keptC {S : Nat → Prop} {w w' : World} {B : Nat} {e : TypeId} {size n : Nat} {v : Value} {xs : List Value} (h : w.ownsRow B e size v n xs) (hg : Chg S w w') (hne : ∀ b, v.ownBlock = some b → ¬ S b) : w'.ownsRow B e size v n xs := by
  refine ⟨h.1, ?_⟩
  rcases h.2 with h2 | ⟨g, cap, cur, rfl, hb, hh, r⟩
  · exact .inl h2
  · exact .inr ⟨g, cap, cur, rfl, hb, by rw [hg.block g (Array.getElem?_eq_some_iff.1 hh).1 (hne g rfl)]; exact hh, r⟩
theorem Ow.keptC {S : Nat → Prop} {w w' : World} {B : Nat} {v : Value} {l : List UInt8} (h : Ow B w v l) (hg : Chg S w w') (hne : ∀ b, v.ownBlock = some b → ¬ S b) : Ow B w' v l := ownsRow_keptC h hg hne

theorem Chg.alloc {S : Nat → Prop} {w w' : World} (h : Chg S w w') (o : Obj) : Chg S w (w'.alloc o) :=
  h.trans ⟨rfl, rfl, rfl, by simp, fun b hb _ => Below.heap_alloc _ _ _ hb⟩
theorem Chg.put {S : Nat → Prop} {w w' : World} (h : Chg S w w') (g i : Nat) (u : Value) (hg : S g) : Chg S w (w'.setCell ⟨g, i, none⟩ u) :=
  h.trans (Chg.of_grown (grown_set0 w' g i u) (fun b e _ => by obtain rfl := Option.some.inj e; exact .inl hg))
theorem Chg.refl (S : Nat → Prop) (w : World) : Chg S w w := ⟨rfl, rfl, rfl, Nat.le_refl _, fun _ _ _ => rfl⟩

theorem Chg.of_below {B : Nat} {w w' : World} (h : Below B w w') : Chg (fun b => B ≤ b) w w' := ⟨h.os, h.tape, h.output, h.size, fun b hb hs => h.block b (by omega)⟩
end Go.Proofs.Ytpieehbikmmifaa

/- What 'Same' of two byte slices answers: whether they read as the same bytes. -/
namespace Go.Proofs.Ytpieehbikmmifaa
open Go.RowKit
set_option linter.unusedVariables false

set_option maxHeartbeats 400000 in
theorem same_core (a b : Addr) (n ca cb : Nat) (f g : Nat → UInt8) (w : World) (hl : n ≤ maxLen)
    (ha : ∀ i, i < n → w.cell? (a.add i) = some (.int .u8 ((f i).toNat : Int))) (hb : ∀ i, i < n → w.cell? (b.add i) = some (.int .u8 ((g i).toNat : Int))) :
    Calls Try.prog 23 #[.slice (some a) n ca, .slice (some b) n cb] w fun e w' => (∃ r, e = .returned (.bool r) ∧ (r = true ↔ ∀ i, i < n → f i = g i)) ∧ ∃ k, w' = w.drewN k := by
  unfold maxLen at hl
  go_enter Try.func23, Try.ntmps23
  go_wp2
  go_loopw [5] (fun i wr => ∃ k : Nat, k ≤ n ∧ i = .int .i64 k ∧ (∀ j, j < k → f j = g j) ∧ ∃ m, wr = w.drewN m) (fun i _ => n - (intOf i).toNat)
  case atStart => exact ⟨0, Nat.zero_le _, rfl, fun j hj => by omega, 0, rfl⟩
  case round =>
    obtain ⟨k, hk, rfl, hs, m, rfl⟩ := hrel
    by_cases hlt : k < n
    · have h1 := ha k hlt
      have h2 := hb k hlt
      clear ha hb
      go_wp2
      go_region
      all_goals go_wp2
      · go_ret
        refine ⟨⟨false, rfl, ?_⟩, _, rfl⟩
        simp only [Bool.false_eq_true, false_iff]
        intro hh
        have := hh k hlt
        simp_all
      · rename_i hne
        have he : f k = g k := by
          have : ((f k).toNat : Int) = ((g k).toNat : Int) := by simpa using hne
          exact UInt8.toNat_inj.1 (by omega)
        refine ⟨⟨k + 1, by omega, by go_num, fun j hj => ?_, _, rfl⟩, by simp [intOf]; omega⟩
        by_cases hj' : j < k
        · exact hs j hj'
        · obtain rfl : j = k := by omega
          exact he
    · go_wp2
      go_ret
      exact ⟨⟨true, rfl, by simp; intro i hi; exact hs i (by omega)⟩, _, rfl⟩

/-- 'Same' of two byte slices: whether they are the same bytes; memory stands. -/
theorem same_any {va vb : Value} {la lb : List UInt8} {w : World} (ha : Rd w va la) (hb : Rd w vb lb) :
    Calls Try.prog 23 #[va, vb] w fun e w' => e = .returned (.bool (decide (la = lb))) ∧ ∃ n, w' = w.drewN n := by
  by_cases hn : la.length = lb.length
  · rcases ha.two with ⟨rfl, rfl⟩ | ⟨a, ca, rfl, h1, h2, h3⟩
    · obtain rfl : lb = [] := List.length_eq_zero_iff.1 (by simpa using hn.symm)
      obtain ⟨b, cb, rfl⟩ : ∃ b cb, vb = .slice b 0 cb := by
        rcases hb.two with ⟨rfl, _⟩ | ⟨b, cb, rfl, _⟩
        · exact ⟨_, _, rfl⟩
        · exact ⟨_, _, rfl⟩
      clear hb hn
      go_enter Try.func23, Try.ntmps23
      go_wp2
      refine wp_loop_rounds 1 ?_
      rw [rounds_succ]
      go_wp2
      go_ret
      exact ⟨by simp, 0, rfl⟩
    · rcases hb.two with ⟨rfl, rfl⟩ | ⟨b, cb, rfl, k1, k2, k3⟩
      · obtain rfl : la = [] := List.length_eq_zero_iff.1 (by simpa using hn)
        clear h1 h2 h3 hn
        go_enter Try.func23, Try.ntmps23
        go_wp2
        refine wp_loop_rounds 1 ?_
        rw [rounds_succ]
        go_wp2
        go_ret
        exact ⟨by simp, 0, rfl⟩
      · rw [← hn]
        refine (same_core a b la.length ca cb (fun i => la.getD i 0) (fun i => lb.getD i 0) w (by omega) (fun i hi => ?_) (fun i hi => ?_)).mono ?_
        · rw [h3 i hi]; simp [hi]
        · rw [k3 i (by omega)]; simp [show i < lb.length by omega]
        · rintro e w' ⟨⟨r, rfl, hr⟩, hw⟩
          refine ⟨?_, hw⟩
          have : r = decide (la = lb) := by
            rw [Bool.eq_iff_iff, hr, decide_eq_true_iff]
            constructor
            · intro h
              refine List.ext_getElem hn fun i hi hi' => ?_
              have := h i hi
              simpa [hi, hi'] using this
            · rintro rfl i _; rfl
          rw [this]
  · have hd : decide (la = lb) = false := by
      simp only [decide_eq_false_iff_not]; rintro rfl; exact hn rfl
    rw [hd]
    obtain ⟨a, ca, rfl⟩ : ∃ a ca, va = .slice a la.length ca := by
      rcases ha.two with ⟨rfl, rfl⟩ | ⟨a, ca, rfl, _⟩
      · exact ⟨_, _, rfl⟩
      · exact ⟨_, _, rfl⟩
    obtain ⟨b, cb, rfl⟩ : ∃ a ca, vb = .slice a lb.length ca := by
      rcases hb.two with ⟨rfl, rfl⟩ | ⟨a, ca, rfl, _⟩
      · exact ⟨_, _, rfl⟩
      · exact ⟨_, _, rfl⟩
    clear ha hb hd
    have hne : (((la.length : Nat) : Int) != ((lb.length : Nat) : Int)) = true := by simp; omega
    clear hn
    go_enter Try.func23, Try.ntmps23
    go_wp2
    go_ret
    exact ⟨rfl, 0, rfl⟩
end Go.Proofs.Ytpieehbikmmifaa

/- One element appended to a slice of the call's own: as the library's law says it, and besides: the row stays in its block or goes to a new one. -/
namespace Go.Proofs.Ytpieehbikmmifaa
open Go.RowKit
set_option linter.unusedVariables false

theorem run_app1 {P : Program} (w : World) (base : Nat) (t ty e : TypeId) (z : Value) (bytes : Nat) (ht : P.underlying t = some (.slice e)) (hinf : (P.info? e).map (fun i => (i.zero, i.size, i.bytes)) = some (some z, 1, bytes)) (hzs : z.cells.size = 1)
    (v : Value) (n : Nat) (xs : List Value) (hown : w.ownsRow base e 1 v n xs) (a : Addr) (c : Nat) (u : Value) (hu : w.cell? a = some u) (h1 : u.oneCell' = true)
    (h63 : n + 1 ≤ maxLen) (hb : (n + 1) * bytes ≤ 140737488355328) (hbase : base ≤ w.heap.size) :
    ∃ v' w', (Builtin.append_ #[t, t] ty #[v, .slice (some a) 1 c]).run P w = .ok v' w' ∧ w'.ownsRow base e 1 v' (n + 1) (xs ++ [u]) ∧ w.grownBy w' v.ownBlock ∧ (v'.ownBlock = v.ownBlock ∨ v'.ownBlock = some w.heap.size) := by
  obtain ⟨i, hi, hz0, hz1, hz2⟩ := info_parts hinf
  have hnews : ∀ j x, [u][j]? = some x → w.cell? (a.add j) = some x := by
    intro j x hx
    cases j with
    | zero => simp at hx; subst hx; exact hu
    | succ j => simp at hx
  have hone : ∀ x ∈ [u], x.oneCell' = true := by intro x hx; simp at hx; subst hx; exact h1
  obtain ⟨v', w', hr, ho, hg, _⟩ := run_append_own (P := P) w base t ty e i z 1 bytes ht hi hz0 hz1 hz2 hzs (by decide) v n xs hown a 1 c [u] rfl hnews hone h63 hb hbase
  refine ⟨v', w', hr, ho, hg, ?_⟩
  have hlen : [u].length = 1 * i.size := by rw [hz1]; rfl
  have hm : n + 1 ≤ 9223372036854775807 := by unfold maxLen at h63; omega
  rcases hown.2 with ⟨rfl, rfl⟩ | ⟨g, cap, cur, rfl, hbg, hh, hnc, hcm, hcs, htake⟩
  · have hr2 := run_append_nil (P := P) w t ty e i z ht hi hz0 a 1 c [u] hlen hnews (by decide) (by omega) (by rw [hz2]; omega)
    rw [hr2] at hr
    simp only [Result.ok.injEq] at hr
    right; rw [← hr.1]; rfl
  · by_cases hroom : n + 1 ≤ cap
    · have hr2 := run_append_room (P := P) w t ty e i ht hi g n cap cur hh a 1 c [u] hlen hnews hone hroom (by rw [hz1, List.length_singleton]; omega)
      rw [hr2] at hr
      simp only [Result.ok.injEq] at hr
      left; rw [← hr.1]; rfl
    · have holds : ∀ j x, xs[j]? = some x → w.cell? ((⟨g, 0, none⟩ : Addr).add j) = some x := hown.cells (g := g) rfl
      have hr2 := run_append_grow (P := P) w t ty e i z ht hi hz0 ⟨g, 0, none⟩ n cap xs (by rw [hz1]; exact hown.1) holds a 1 c [u] hlen hnews (by omega) (by omega) (by rw [hz2]; exact growslice_fits (by omega) hb)
      rw [hr2] at hr
      simp only [Result.ok.injEq] at hr
      right; rw [← hr.1]; rfl

theorem wpList_app1 {P : Program} {w : World} {ops : Array Oper} {rest : List Oper} {o : Oper} {a : Act} {Q : Exit → Act → World → Prop} (hgd : o.guard = none) (s x : Operand) (t : TypeId)
    (ho : o.op = .call { callee := .builtin .append, args := #[s, x], argTypes := #[t, t] })
    (base : Nat) (e : TypeId) (z : Value) (bytes : Nat) (ht : P.underlying t = some (.slice e)) (hinf : (P.info? e).map (fun i => (i.zero, i.size, i.bytes)) = some (some z, 1, bytes)) (hzs : z.cells.size = 1)
    (v : Value) (n : Nat) (xs : List Value) (hs : a.eval s = v) (hown : w.ownsRow base e 1 v n xs) (ad : Addr) (c : Nat) (u : Value) (hx : a.eval x = .slice (some ad) 1 c) (hu : w.cell? ad = some u) (h1 : u.oneCell' = true)
    (h63 : n + 1 ≤ maxLen) (hb : (n + 1) * bytes ≤ 140737488355328) (hbase : base ≤ w.heap.size)
    (h : ∀ v' w', w'.ownsRow base e 1 v' (n + 1) (xs ++ [u]) → w.grownBy w' v.ownBlock → (v'.ownBlock = v.ownBlock ∨ v'.ownBlock = some w.heap.size) → wpList P ops Q rest (a.put o.dst v') w') : wpList P ops Q (o :: rest) a w := by
  refine wpList_plain hgd fun K hK => ?_
  obtain ⟨v', w', hr, h2, h3, h4⟩ := run_app1 (P := P) w base t o.type e z bytes ht hinf hzs v n xs hown ad c u hu h1 h63 hb hbase
  unfold Oper.wp execOp
  simp only [ho, resolve, invoke, builtin, Sem.run_bind, Sem.run_pure, Result.andThen_ok, List.map_toArray, List.map_cons, List.map_nil, hs, hx, hr]
  exact hK _ _ (h v' w' h2 h3 h4)
end Go.Proofs.Ytpieehbikmmifaa

/- Bytes appended to a slice of the call's own: as wpList_app says it, and besides: the row stays in its block or goes to a new one. -/
namespace Go.Proofs.Ytpieehbikmmifaa
open Go.RowKit
set_option linter.unusedVariables false

theorem run_appN {P : Program} (w : World) (base : Nat) (t ty e : TypeId) (z : Value) (bytes : Nat) (ht : P.underlying t = some (.slice e)) (hinf : (P.info? e).map (fun i => (i.zero, i.size, i.bytes)) = some (some z, 1, bytes)) (hzs : z.cells.size = 1)
    (v : Value) (n : Nat) (xs : List Value) (hown : w.ownsRow base e 1 v n xs) (a : Addr) (m c : Nat) (news : List Value) (hnl : news.length = m) (hnews : ∀ j u, news[j]? = some u → w.cell? (a.add j) = some u) (hone : ∀ u ∈ news, u.oneCell' = true)
    (h63 : n + m ≤ maxLen) (hb : (n + m) * bytes ≤ 140737488355328) (hbase : base ≤ w.heap.size) :
    ∃ v' w', (Builtin.append_ #[t, t] ty #[v, .slice (some a) m c]).run P w = .ok v' w' ∧ w'.ownsRow base e 1 v' (n + m) (xs ++ news) ∧ w.grownBy w' v.ownBlock ∧ (v'.ownBlock = v.ownBlock ∨ v'.ownBlock = some w.heap.size) := by
  obtain ⟨i, hi, hz0, hz1, hz2⟩ := info_parts hinf
  obtain ⟨v', w', hr, ho, hg, hnil⟩ := run_append_own (P := P) w base t ty e i z 1 bytes ht hi hz0 hz1 hz2 hzs (by decide) v n xs hown a m c news (by rw [hnl, Nat.mul_one]) hnews hone h63 hb hbase
  refine ⟨v', w', hr, ho, hg, ?_⟩
  have hlen : news.length = m * i.size := by rw [hz1, Nat.mul_one]; exact hnl
  have hm : n + m ≤ 9223372036854775807 := by unfold maxLen at h63; omega
  rcases hown.2 with ⟨rfl, rfl⟩ | ⟨g, cap, cur, rfl, hbg, hh, hnc, hcm, hcs, htake⟩
  · by_cases h0 : m = 0
    · left; rw [hnil.2 ⟨rfl, h0⟩]
    · have hr2 := run_append_nil (P := P) w t ty e i z ht hi hz0 a m c news hlen hnews (by omega) (by omega) (by rw [hz2]; simp only [Nat.zero_add] at hb; omega)
      rw [hr2] at hr
      simp only [Result.ok.injEq] at hr
      right; rw [← hr.1]; rfl
  · by_cases hroom : n + m ≤ cap
    · have hr2 := run_append_room (P := P) w t ty e i ht hi g n cap cur hh a m c news hlen hnews hone hroom (by rw [hz1, hnl]; omega)
      rw [hr2] at hr
      simp only [Result.ok.injEq] at hr
      left; rw [← hr.1]; rfl
    · have holds : ∀ j x, xs[j]? = some x → w.cell? ((⟨g, 0, none⟩ : Addr).add j) = some x := hown.cells (g := g) rfl
      have hr2 := run_append_grow (P := P) w t ty e i z ht hi hz0 ⟨g, 0, none⟩ n cap xs (by rw [hz1]; exact hown.1) holds a m c news hlen hnews (by omega) (by omega) (by rw [hz2]; exact growslice_fits (by omega) hb)
      rw [hr2] at hr
      simp only [Result.ok.injEq] at hr
      right; rw [← hr.1]; rfl

/-- 'append(out, x...)' of bytes, out the call's own. -/
theorem wpList_appN {w : World} {ops : Array Oper} {rest : List Oper} {o : Oper} {a : Act} {Q : Exit → Act → World → Prop} (hgd : o.guard = none) (s x : Operand)
    (ho : o.op = .call { callee := .builtin .append, args := #[s, x], argTypes := #[33, 33] })
    (B : Nat) (v : Value) (l : List UInt8) (hs : a.eval s = v) (hown : Ow B w v l) (vx : Value) (m : List UInt8) (hx : a.eval x = vx) (hm : Rd w vx m)
    (hB : B ≤ w.heap.size) (hlen : l.length + m.length ≤ 140737488355328)
    (h : ∀ v' w', Ow B w' v' (l ++ m) → w.grownBy w' v.ownBlock → (v'.ownBlock = v.ownBlock ∨ v'.ownBlock = some w.heap.size) → wpList Try.prog ops Q rest (a.put o.dst v') w') : wpList Try.prog ops Q (o :: rest) a w := by
  obtain ⟨i, hi, hz0, hz1, hz2⟩ := info_parts Try.info5
  rcases hm.two with ⟨rfl, rfl⟩ | ⟨ad, c, rfl, h1, h2, h3⟩
  · refine wpList_append_own_none hgd s x 33 ho B 5 i 1 Try.underlying33 hi _ _ _ hs hown hx ?_
    exact h v w (by simpa using hown) (World.grownBy.refl _ _) (.inl rfl)
  · refine wpList_plain hgd fun K hK => ?_
    obtain ⟨v', w', hr, q2, q3, q4⟩ := run_appN (P := Try.prog) w B 33 o.type 5 (.int .u8 0) 1 Try.underlying33 Try.info5 rfl v l.length (cel l) hown ad m.length c (cel m) (by simp [cel_length]) (by
      intro j u hu
      have hj : j < m.length := by have := (List.getElem?_eq_some_iff.1 hu).1; simpa [cel_length] using this
      rw [h3 j hj]; rw [cel_get m j hj] at hu; exact hu) (cel_one m) (by unfold maxLen; omega) (by omega) hB
    unfold Oper.wp execOp
    simp only [ho, resolve, invoke, builtin, Sem.run_bind, Sem.run_pure, Result.andThen_ok, List.map_toArray, List.map_cons, List.map_nil, hs, hx, hr]
    exact hK _ _ (h v' w' (by unfold Ow; rw [cel_append, List.length_append]; exact q2) q3 q4)
end Go.Proofs.Ytpieehbikmmifaa

/- Pairs of actors as keys of a map. -/
namespace Go.Proofs.Ytpieehbikmmifaa
open Go.RowKit
set_option linter.unusedVariables false
set_option maxRecDepth 100000

def I64 (a : Int) : Prop := -9223372036854775808 ≤ a ∧ a ≤ 9223372036854775807
theorem Try.laidOutN : laidOutB Try.prog = true := by kernel_rfl
theorem Try.rowPair : (84 : TypeId) < Try.prog.types.size := of_decide_eq_true (by kernel_rfl)
theorem Try.widePair : (match Try.prog.underlying 84 with | some (.array _ _) | some (.struct _) => true | _ => false) = true := by rw [Try.underlying84]
theorem Try.lawPair : WideMaps.KeyLaw Try.prog 84 := deep_law_laid Try.laidOutN (m := 2) (by omega) Try.rowPair (by kernel_rfl) Try.widePair
theorem Try.keyedPair : Maps.Keyed Try.prog 84 := Maps.Keyed.of_law Try.lawPair

def prV (a b : Int) : Value := .agg #[.int .i64 a, .int .i64 b]
def prK (a b : Int) : Lit := .string (keyBytes [.int .i64 a, .int .i64 b])
theorem keyOf_pr (a b : Int) (ha : I64 a) (hb : I64 b) : keyOf Try.prog 84 (prV a b) = some (prK a b) := by
  rw [keyOf.eq_1, Try.underlying84]
  simp only []
  rw [if_pos (by kernel_rfl)]
  obtain ⟨d, hd⟩ := Nat.exists_eq_succ_of_ne_zero (Nat.ne_zero_of_lt Try.rowPair)
  rw [hd]
  have w1 : (Lit.int .i64 a).wf = true := by simpa [Lit.wf, IntKind.min, IntKind.max, IntKind.signed, IntKind.bits, I64] using ha
  have w2 : (Lit.int .i64 b).wf = true := by simpa [Lit.wf, IntKind.min, IntKind.max, IntKind.signed, IntKind.bits, I64] using hb
  have c1 : Try.prog.cellsOf 3 = 1 := by kernel_rfl
  have c2 : Try.prog.cellsOf 84 = 2 := by kernel_rfl
  simp [Program.keyLits, Try.underlying84, Try.underlying3, prV, prK, Value.cells, c1, c2, w1, w2]
theorem Try.tiledPair : Try.prog.tiled 2 84 = true := tiled_of_laidOut Try.laidOutN 2 _ (by kernel_rfl) (by kernel_rfl)
theorem prK_inj {a b c d : Int} (ha : I64 a) (hb : I64 b) (hc : I64 c) (hd : I64 d) (e : prK a b = prK c d) : a = c ∧ b = d := by
  have h1 := keyOf_pr a b ha hb
  have h2 := keyOf_pr c d hc hd
  rw [e] at h1
  have := keyOf_inj_deep Try.tiledPair Try.widePair h1 h2
  simp only [prV, Value.agg.injEq, Array.mk.injEq, List.cons.injEq, Value.int.injEq, true_and, and_true] at this
  exact this
theorem Try.zeroUnit (w : World) : (zeroValue 81).run Try.prog w = .ok (.agg #[]) w := by kernel_rfl
end Go.Proofs.Ytpieehbikmmifaa

/- My own words for a net in memory: 'Nt': a Net struct in block x whose messages are the list M, in an array of its own, and whose map holds just the pairs of C. -/
namespace Go.Proofs.Ytpieehbikmmifaa
open Go.RowKit Go.Maps
set_option linter.unusedVariables false
set_option maxRecDepth 100000

/-- A message: its number, from, to, its bytes. -/
abbrev Pk := Nat × Nat × Nat × List UInt8
def pkC (x : Pk × Value) : List Value := [.int .i64 (x.1.1 : Int), .int .i64 (x.1.2.1 : Int), .int .i64 (x.1.2.2.1 : Int), x.2]
def pkCs (P : List (Pk × Value)) : List Value := P.flatMap pkC
theorem pkCs_cons (x : Pk × Value) (P : List (Pk × Value)) : pkCs (x :: P) = pkC x ++ pkCs P := rfl
theorem pkCs_app (P Q : List (Pk × Value)) : pkCs (P ++ Q) = pkCs P ++ pkCs Q := by simp [pkCs]
theorem pkCs_length (P : List (Pk × Value)) : (pkCs P).length = P.length * 4 := by
  induction P with
  | nil => rfl
  | cons x P ih => rw [pkCs_cons, List.length_append, ih]; simp [pkC]; omega
theorem pkCs_at (P : List (Pk × Value)) (i : Nat) (x : Pk × Value) (e : P[i]? = some x) : (pkCs P)[i * 4]? = some (.int .i64 (x.1.1 : Int)) ∧ (pkCs P)[i * 4 + 1]? = some (.int .i64 (x.1.2.1 : Int)) ∧ (pkCs P)[i * 4 + 2]? = some (.int .i64 (x.1.2.2.1 : Int)) ∧ (pkCs P)[i * 4 + 3]? = some x.2 := by
  induction P generalizing i with
  | nil => simp at e
  | cons y P ih =>
    cases i with
    | zero => simp at e; subst e; simp [pkCs_cons, pkC]
    | succ i =>
      have := ih i (by simpa using e)
      have h3 : ∀ j, (pkCs (y :: P))[4 + j]? = (pkCs P)[j]? := fun j => by
        rw [pkCs_cons, List.getElem?_append_right (by simp [pkC])]
        simp [pkC]
      refine ⟨?_, ?_, ?_, ?_⟩
      · rw [show (i + 1) * 4 = 4 + i * 4 by omega, h3]; exact this.1
      · rw [show (i + 1) * 4 + 1 = 4 + (i * 4 + 1) by omega, h3]; exact this.2.1
      · rw [show (i + 1) * 4 + 2 = 4 + (i * 4 + 2) by omega, h3]; exact this.2.2.1
      · rw [show (i + 1) * 4 + 3 = 4 + (i * 4 + 3) by omega, h3]; exact this.2.2.2
theorem pkCs_take (P : List (Pk × Value)) (k : Nat) : (pkCs P).take (k * 4) = pkCs (P.take k) := by
  induction P generalizing k with
  | nil => simp [pkCs]
  | cons x P ih =>
    cases k with
    | zero => simp [pkCs]
    | succ k =>
      rw [List.take_succ_cons, pkCs_cons, pkCs_cons, ← ih k, List.take_append, show (k + 1) * 4 - (pkC x).length = k * 4 by simp [pkC]; omega, List.take_of_length_le (by simp [pkC]; omega)]
theorem pkCs_drop (P : List (Pk × Value)) (k : Nat) : (pkCs P).drop (k * 4) = pkCs (P.drop k) := by
  induction P generalizing k with
  | nil => simp [pkCs]
  | cons x P ih =>
    cases k with
    | zero => simp [pkCs]
    | succ k =>
      rw [List.drop_succ_cons, pkCs_cons, ← ih k, List.drop_append, show (k + 1) * 4 - (pkC x).length = k * 4 by simp [pkC]; omega, List.drop_of_length_le (by simp [pkC]; omega), List.nil_append]

/-- Which pairs are cut off: of any two numbers, the lower one first. -/
abbrev Ct := Int → Int → Bool
/-- The net's memory, all of it by name. -/
structure NtI (B x A last : Nat) (uv : Value) (P : List (Pk × Value)) (m n : Nat) (D : DataW Unit) (C : Ct) (S : Nat → Prop) (w : World) : Prop where
  cell : w.heap[x]? = some (.cells #[.int .i64 (A : Int), .int .i64 (last : Int), uv, .map (some m)] 61 (0, 0))
  row : w.ownsRow B 46 4 uv P.length (pkCs P)
  data : ∀ p ∈ P, Rd w p.2 p.1.2.2.2
  map : w.ownsMap Try.prog 84 (unitElem (H := Unit)) m n D
  cut : ∀ a b, I64 a → I64 b → Maps.has D (prK a b) = C a b
  sx : S x
  sm : S m
  xm : x ≠ m
  sf : ∀ b, uv.ownBlock = some b → S b ∧ b ≠ x ∧ b ≠ m
  sd : ∀ p ∈ P, ∀ b, p.2.ownBlock = some b → S b ∧ b ≠ x ∧ b ≠ m ∧ uv.ownBlock ≠ some b
  lo : ∀ b, S b → B ≤ b ∧ b < w.heap.size
/-- The net: A actors, the last number, the messages M, who is cut off C; in at most n steps. -/
def Nt (B x A last n : Nat) (S : Nat → Prop) (M : List Pk) (C : Ct) (w : World) : Prop := ∃ uv P m D, P.map (·.1) = M ∧ NtI B x A last uv P m n D C S w

section
variable {B x A last m n : Nat} {uv : Value} {P : List (Pk × Value)} {D : DataW Unit} {M : List Pk} {C : Ct} {S : Nat → Prop} {w w' : World}

theorem Below.al (w : World) (o : Obj) : Below w.heap.size w (w.alloc o) := (Below.refl _ _).alloc (Nat.le_refl _) o
theorem ownsMap_keptC {T : Nat → Prop} (h : w.ownsMap Try.prog 84 (unitElem (H := Unit)) m n D) (hc : Chg T w w') (hm : ¬ T m) : w'.ownsMap Try.prog 84 (unitElem (H := Unit)) m n D := by
  obtain ⟨es, clock, hb, r⟩ := h
  exact ⟨es, clock, by rw [hc.block m (Array.getElem?_eq_some_iff.1 hb).1 hm]; exact hb, r⟩
theorem NtI.next {T : Nat → Prop} (h : NtI B x A last uv P m n D C S w) (hc : Chg T w w') (hT : ∀ b, S b → ¬ T b) : NtI B x A last uv P m n D C S w' :=
  ⟨by rw [hc.block x (h.lo x h.sx).2 (hT x h.sx)]; exact h.cell, ownsRow_keptC h.row hc (fun b hb => hT b (h.sf b hb).1), fun p hp => (h.data p hp).keptC hc (fun b hb => hT b (h.sd p hp b hb).1), ownsMap_keptC h.map hc (hT m h.sm), h.cut, h.sx, h.sm, h.xm, h.sf, h.sd, fun b hb => ⟨(h.lo b hb).1, Nat.lt_of_lt_of_le (h.lo b hb).2 hc.size⟩⟩
theorem Nt.next {T : Nat → Prop} (h : Nt B x A last n S M C w) (hc : Chg T w w') (hT : ∀ b, S b → ¬ T b) : Nt B x A last n S M C w' := by
  obtain ⟨uv, P, m, D, e, h⟩ := h
  exact ⟨uv, P, m, D, e, h.next hc hT⟩
theorem Nt.lt (h : Nt B x A last n S M C w) : ∀ b, S b → B ≤ b ∧ b < w.heap.size := by obtain ⟨_, _, _, _, _, h⟩ := h; exact h.lo
theorem Nt.leB (h : Nt B x A last n S M C w) : B ≤ w.heap.size := by obtain ⟨_, _, _, _, _, h⟩ := h; have := h.lo x h.sx; omega
theorem Nt.below (h : Nt B x A last n S M C w) (hb : Below w.heap.size w w') : Nt B x A last n S M C w' := h.next (Chg.of_below hb) (fun b hs q => by have := (h.lt b hs).2; omega)
theorem Nt.chg (h : Nt B x A last n S M C w) (hc : Chg S w w') : Below B w w' := hc.below (fun b hb => (h.lt b hb).1) h.leB
/-- How the net's own cells read. -/
theorem NtI.cells (h : NtI B x A last uv P m n D C S w) : w.cell? ⟨x, 0, none⟩ = some (.int .i64 (A : Int)) ∧ w.cell? ⟨x, 1, none⟩ = some (.int .i64 (last : Int)) ∧ w.cell? ⟨x, 2, none⟩ = some uv ∧ w.cell? ⟨x, 3, none⟩ = some (.map (some m)) ∧ ∀ i, w.frozen? ⟨x, i, none⟩ = false :=
  ⟨by rw [cell_of_row _ _ _ _ _ _ h.cell]; rfl, by rw [cell_of_row _ _ _ _ _ _ h.cell]; rfl, by rw [cell_of_row _ _ _ _ _ _ h.cell]; rfl, by rw [cell_of_row _ _ _ _ _ _ h.cell]; rfl, fun i => frozen_of_row _ _ _ _ _ h.cell⟩
theorem Nt.cells (h : Nt B x A last n S M C w) : ∃ uv m, w.cell? ⟨x, 0, none⟩ = some (.int .i64 (A : Int)) ∧ w.cell? ⟨x, 2, none⟩ = some uv ∧ (∃ a c, uv = .slice a M.length c ∧ M.length ≤ c ∧ c ≤ maxLen) ∧ w.cell? ⟨x, 3, none⟩ = some (.map (some m)) := by
  obtain ⟨uv, P, m, D, rfl, h⟩ := h
  obtain ⟨c0, c1, c2, c3, _⟩ := h.cells
  refine ⟨uv, m, c0, c2, ?_, c3⟩
  rw [List.length_map]
  rcases h.row.2 with ⟨q, q0⟩ | ⟨g, cap, cur, q, hB, hg, q1, q2, q3, q4⟩
  · exact ⟨none, 0, by rw [q, q0], by omega, by simp⟩
  · exact ⟨_, cap, q, q1, q2⟩

/-- Is a number an actor? -/
def isAct (A : Nat) (a : Int) : Bool := decide (1 ≤ a ∧ a ≤ (A : Int))
theorem isActor_any (h : Nt B x A last n S M C w) (a : Int) : Calls Try.prog 36 #[.pointer (some ⟨x, 0, none⟩), .int .i64 a] w fun e w' => e = .returned (.bool (isAct A a)) ∧ w' = w := by
  obtain ⟨uv, m, c0, c2, _, c3⟩ := h.cells
  unfold isAct
  by_cases h1 : 1 ≤ a
  · go_enter Try.func36, Try.ntmps36
    go_wp2_with fail
    go_ret
    exact ⟨by simp [h1], rfl⟩
  · go_enter Try.func36, Try.ntmps36
    go_wp2_with fail
    go_ret
    exact ⟨by rw [decide_eq_false (show ¬ 1 ≤ a by omega)]; rfl, rfl⟩
theorem full_any (h : Nt B x A last n S M C w) : Calls Try.prog 37 #[.pointer (some ⟨x, 0, none⟩)] w fun e w' => e = .returned (.bool (decide (256 ≤ M.length))) ∧ w' = w := by
  obtain ⟨uv, m, c0, c2, ⟨a, c, rfl, q1, q2⟩, c3⟩ := h.cells
  unfold maxLen at q2
  go_enter Try.func37, Try.ntmps37
  go_wp2_with fail
  go_ret
  refine ⟨?_, rfl⟩
  have e : decide ((256 : Int) ≤ (M.length : Int)) = decide (256 ≤ M.length) := decide_eq_decide.2 (by omega)
  rw [← e]
  rfl
theorem pairOf_any (a b : Int) (w : World) : Calls Try.prog 41 #[.int .i64 a, .int .i64 b] w fun e w' => e = .returned (prV (min a b) (max a b)) ∧ Below w.heap.size w w' := by
  go_enter Try.func41, Try.ntmps41
  go_wp2_with fail
  all_goals go_returns
  all_goals first
    | exact ⟨by rw [show min a b = a by omega, show max a b = a by omega]; rfl, Below.al w _⟩
    | exact ⟨by rw [show min a b = a by omega, show max a b = b by omega]; rfl, Below.al w _⟩
    | exact ⟨by rw [show min a b = b by omega, show max a b = a by omega]; rfl, Below.al w _⟩
end
end Go.Proofs.Ytpieehbikmmifaa

/- Cut, Join, Heal, IsCut of a net. -/
namespace Go.Proofs.Ytpieehbikmmifaa
open Go.RowKit Go.Maps
set_option linter.unusedVariables false
set_option maxRecDepth 100000

section
variable {B x A last m n : Nat} {uv : Value} {P : List (Pk × Value)} {D : DataW Unit} {M : List Pk} {C : Ct} {S : Nat → Prop} {w w' : World}

theorem I64.min {a b : Int} (ha : I64 a) (hb : I64 b) : I64 (min a b) := by unfold I64 at *; omega
theorem I64.max {a b : Int} (ha : I64 a) (hb : I64 b) : I64 (max a b) := by unfold I64 at *; omega
theorem NtI.look (h : NtI B x A last uv P m n D C S w) (a b : Int) (ha : I64 a) (hb : I64 b) : (Instr.lookup 59 (.map (some m)) (prV a b) true).run Try.prog w = .ok (.tuple #[.agg #[], .bool (C a b)]) w := by
  obtain ⟨v, ps, hr, hv⟩ := h.map.look_ok Try.keyedPair Try.underlying59 (Try.zeroUnit w) (zd := .agg []) (zp := []) unitElem_mk (keyOf_pr a b ha hb)
  obtain ⟨rfl, _⟩ := unitElem_inv hv
  rw [hr, h.cut a b ha hb]

theorem isCut_any (h : Nt B x A last n S M C w) (a b : Int) (ha : I64 a) (hb : I64 b) : Calls Try.prog 18 #[.pointer (some ⟨x, 0, none⟩), .int .i64 a, .int .i64 b] w fun e w' => e = .returned (.bool (C (min a b) (max a b))) ∧ Below w.heap.size w w' := by
  obtain ⟨uv, P, m, D, rfl, h⟩ := h
  obtain ⟨c0, c1, c2, c3, cz⟩ := h.cells
  have hxl := (h.lo x h.sx).2
  have hlook := fun (W : World) (hW : Below w.heap.size w W) => (h.next (Chg.of_below hW) (fun b hs q => by have := (h.lo b hs).2; omega)).look (min a b) (max a b) (ha.min hb) (ha.max hb)
  go_enter Try.func18, Try.ntmps18
  go_wp2_with fail
  go_region_held3 (fun w' => w'.cell? ⟨x, 3, none⟩ = some (.map (some m))) (go_keep) (first
    | (go_at_call 41; refine (pairOf_any a b _).mono ?_; rintro e w1 ⟨rfl, hb1⟩; have hB1 : Below w.heap.size w w1 := (by first | exact Below.tr (below_drewN (Below.refl w.heap.size w) _) hb1 | exact Below.tr (Below.tr (below_drewN (Below.refl w.heap.size w) _) (Below.al _ _)) hb1); have k3 : w1.cell? ⟨x, 3, none⟩ = some (.map (some m)) := (by rw [hB1.cell hxl]; exact c3); have hlk := hlook w1 hB1; have hlk2 := hlook (w1.alloc (.cells #[] 81)) (Below.tr hB1 (Below.al w1 _)))
    | fail)
  all_goals go_wp2_with fail
  all_goals go_ret
  all_goals first
    | exact ⟨rfl, hB1⟩
    | exact ⟨rfl, Below.tr hB1 (Below.al w1 _)⟩
/-- Are the two a pair that may be cut off? -/
def isPr (A : Nat) (a b : Int) : Bool := isAct A a && isAct A b && !(a == b)
theorem isPair_any (h : Nt B x A last n S M C w) (a b : Int) : Calls Try.prog 42 #[.pointer (some ⟨x, 0, none⟩), .int .i64 a, .int .i64 b] w fun e w' => e = .returned (.bool (isPr A a b)) ∧ w' = w := by
  have h1 := isActor_any h a
  have h2 := isActor_any h b
  unfold isPr
  generalize isAct A a = p at *
  generalize isAct A b = q at *
  cases p with
  | false =>
    go_enter Try.func42, Try.ntmps42
    go_wp2_with fail
    refine h1.mono ?_
    rintro e w1 ⟨rfl, rfl⟩
    go_wp2_with fail
    go_ret
    exact ⟨rfl, rfl⟩
  | true =>
    cases q with
    | false =>
      go_enter Try.func42, Try.ntmps42
      go_wp2_with fail
      refine h1.mono ?_
      rintro e w1 ⟨rfl, rfl⟩
      go_wp2_with fail
      refine h2.mono ?_
      rintro e w2 ⟨rfl, rfl⟩
      go_wp2_with fail
      go_ret
      exact ⟨rfl, rfl⟩
    | true =>
      go_enter Try.func42, Try.ntmps42
      go_wp2_with fail
      refine h1.mono ?_
      rintro e w1 ⟨rfl, rfl⟩
      go_wp2_with fail
      refine h2.mono ?_
      rintro e w2 ⟨rfl, rfl⟩
      go_wp2_with fail
      go_ret
      exact ⟨rfl, rfl⟩

/-- Who is cut off behind a Cut, a Join. -/
def setC (C : Ct) (a b : Int) (v : Bool) : Ct := fun p q => if p = a ∧ q = b then v else C p q
theorem isKey (a b : Int) : WideAt.IsKeyLit (prK a b) := by trivial
theorem NtI.turnMap (h : NtI B x A last uv P m n D C S w) {w2 : World} {n' : Nat} {D' : DataW Unit} {C' : Ct} (hmap : w2.ownsMap Try.prog 84 (unitElem (H := Unit)) m n' D') (hc : Chg (fun b => b = m) w w2) (hC : ∀ a b, I64 a → I64 b → Maps.has D' (prK a b) = C' a b) : NtI B x A last uv P m n' D' C' S w2 :=
  ⟨by rw [hc.block x (h.lo x h.sx).2 h.xm]; exact h.cell, ownsRow_keptC h.row hc (fun b hb e => (h.sf b hb).2.2 e), fun p hp => (h.data p hp).keptC hc (fun b hb e => (h.sd p hp b hb).2.2.1 e), hmap, hC, h.sx, h.sm, h.xm, h.sf, h.sd, fun b hb => ⟨(h.lo b hb).1, Nat.lt_of_lt_of_le (h.lo b hb).2 hc.size⟩⟩
theorem NtI.putC (h : NtI B x A last uv P m n D C S w) (hn : n < maxLen) (a b : Int) (ha : I64 a) (hb : I64 b) : ∃ w2, (Instr.mapUpdate 59 (.map (some m)) (prV a b) (.agg #[])).run Try.prog w = .ok () w2 ∧ (∃ D', NtI B x A last uv P m (n + 1) D' (setC C a b true) S w2) ∧ Chg (fun b => b = m) w w2 := by
  obtain ⟨w2, hr, hown, ht⟩ := h.map.store Try.keyedPair Try.underlying59 hn (keyOf_pr a b ha hb) (unitElem_mk (H := Unit))
  have hc : Chg (fun b => b = m) w w2 := Chg.of_grown ht.grown (fun b e _ => (Option.some.inj e).symm)
  refine ⟨w2, hr, ⟨_, h.turnMap hown hc (fun p q hp hq => ?_)⟩, hc⟩
  unfold setC
  by_cases e : p = a ∧ q = b
  · obtain ⟨rfl, rfl⟩ := e
    rw [if_pos ⟨rfl, rfl⟩]
    exact Maps.has_put_same h.map.isMap (isKey _ _) _
  · rw [if_neg e, Maps.has_put_other (fun e2 => e (prK_inj hp hq ha hb e2))]
    exact h.cut p q hp hq
theorem NtI.delC (h : NtI B x A last uv P m n D C S w) (a b : Int) (ha : I64 a) (hb : I64 b) (ty : TypeId) : ∃ w2, (Builtin.delete_ #[59, 84] ty #[.map (some m), prV a b]).run Try.prog w = .ok (.tuple #[]) w2 ∧ (∃ D', NtI B x A last uv P m n D' (setC C a b false) S w2) ∧ Chg (fun b => b = m) w w2 := by
  obtain ⟨w2, hr, hown, ht⟩ := h.map.drop Try.keyedPair Try.underlying59 (keyOf_pr a b ha hb) ty
  have hc : Chg (fun b => b = m) w w2 := Chg.of_grown ht.grown (fun b e _ => (Option.some.inj e).symm)
  refine ⟨w2, hr, ⟨_, h.turnMap hown hc (fun p q hp hq => ?_)⟩, hc⟩
  unfold setC
  by_cases e : p = a ∧ q = b
  · obtain ⟨rfl, rfl⟩ := e
    rw [if_pos ⟨rfl, rfl⟩]
    exact Maps.has_del_same
  · rw [if_neg e, Maps.has_del_other (fun e2 => e (prK_inj hp hq ha hb e2))]
    exact h.cut p q hp hq
theorem NtI.chgM (h : NtI B x A last uv P m n D C S w) {w2 : World} (hc : Chg (fun b => b = m) w w2) : Chg S w w2 := hc.mono (fun b _ q => by rw [q]; exact h.sm)

theorem cut_no (h : Nt B x A last n S M C w) (a b : Int) (hp : isPr A a b = false) : Calls Try.prog 20 #[.pointer (some ⟨x, 0, none⟩), .int .i64 a, .int .i64 b] w fun e w' => e = .returned (.int .i64 1) ∧ w' = w := by
  have h1 := isPair_any h a b
  rw [hp] at h1
  go_enter Try.func20, Try.ntmps20
  go_wp2_with fail
  refine h1.mono ?_
  rintro e w1 ⟨rfl, rfl⟩
  go_wp2_with fail
  go_ret
  exact ⟨rfl, rfl⟩
theorem cut_ok (h : Nt B x A last n S M C w) (hn : n < 1099511627776) (a b : Int) (ha : I64 a) (hb : I64 b) (hp : isPr A a b = true) : Calls Try.prog 20 #[.pointer (some ⟨x, 0, none⟩), .int .i64 a, .int .i64 b] w fun e w' => e = .returned (.int .i64 0) ∧ Nt B x A last (n + 1) S M (setC C (min a b) (max a b) true) w' ∧ Chg S w w' := by
  have h1 := isPair_any h a b
  rw [hp] at h1
  obtain ⟨uv, P, m, D, rfl, h⟩ := h
  obtain ⟨c0, c1, c2, c3, cz⟩ := h.cells
  have hxl := (h.lo x h.sx).2
  have hput := fun (W : World) (hW : Below w.heap.size w W) => (h.next (Chg.of_below hW) (fun b hs q => by have := (h.lo b hs).2; omega)).putC (by unfold maxLen; omega) (min a b) (max a b) (ha.min hb) (ha.max hb)
  go_enter Try.func20, Try.ntmps20
  go_wp2_with fail
  refine h1.mono ?_
  rintro e w0 ⟨rfl, rfl⟩
  go_wp2_with fail
  go_region_held3 (fun w' => w'.cell? ⟨x, 3, none⟩ = some (.map (some m))) (go_keep) (first
    | (go_at_call 41; refine (pairOf_any a b _).mono ?_; rintro e w1 ⟨rfl, hb1⟩; have hB1 := Below.tr (below_drewN (Below.refl _ _) _) hb1; have k3 : w1.cell? ⟨x, 3, none⟩ = some (.map (some m)) := (by rw [hB1.cell hxl]; exact c3); obtain ⟨w2, hup, ⟨D2, hI2⟩, hc2⟩ := hput w1 hB1; have k4 := hI2.cells.2.2.2.1)
    | fail)
  all_goals go_wp2_with fail
  all_goals go_ret
  all_goals exact ⟨rfl, ⟨_, _, _, _, rfl, hI2⟩, ((Chg.of_below hB1).mono (fun b hb q => by omega)).trans (hc2.mono (fun b _ q => .inl (by rw [q]; exact h.sm)))⟩
theorem join_no (h : Nt B x A last n S M C w) (a b : Int) (hp : isPr A a b = false) : Calls Try.prog 21 #[.pointer (some ⟨x, 0, none⟩), .int .i64 a, .int .i64 b] w fun e w' => e = .returned (.int .i64 1) ∧ w' = w := by
  have h1 := isPair_any h a b
  rw [hp] at h1
  go_enter Try.func21, Try.ntmps21
  go_wp2_with fail
  refine h1.mono ?_
  rintro e w1 ⟨rfl, rfl⟩
  go_wp2_with fail
  go_ret
  exact ⟨rfl, rfl⟩
theorem join_ok (h : Nt B x A last n S M C w) (a b : Int) (ha : I64 a) (hb : I64 b) (hp : isPr A a b = true) : Calls Try.prog 21 #[.pointer (some ⟨x, 0, none⟩), .int .i64 a, .int .i64 b] w fun e w' => e = .returned (.int .i64 0) ∧ Nt B x A last n S M (setC C (min a b) (max a b) false) w' ∧ Chg S w w' := by
  have h1 := isPair_any h a b
  rw [hp] at h1
  obtain ⟨uv, P, m, D, rfl, h⟩ := h
  obtain ⟨c0, c1, c2, c3, cz⟩ := h.cells
  have hxl := (h.lo x h.sx).2
  have hput := fun (W : World) (hW : Below w.heap.size w W) => (h.next (Chg.of_below hW) (fun b hs q => by have := (h.lo b hs).2; omega)).delC (min a b) (max a b) (ha.min hb) (ha.max hb) 0
  go_enter Try.func21, Try.ntmps21
  go_wp2_with fail
  refine h1.mono ?_
  rintro e w0 ⟨rfl, rfl⟩
  go_wp2_with fail
  go_region_held3 (fun w' => w'.cell? ⟨x, 3, none⟩ = some (.map (some m))) (go_keep) (first
    | (go_at_call 41; refine (pairOf_any a b _).mono ?_; rintro e w1 ⟨rfl, hb1⟩; have hB1 := Below.tr (below_drewN (Below.refl _ _) _) hb1; have k3 : w1.cell? ⟨x, 3, none⟩ = some (.map (some m)) := (by rw [hB1.cell hxl]; exact c3); obtain ⟨w2, hup, ⟨D2, hI2⟩, hc2⟩ := hput w1 hB1; have k4 := hI2.cells.2.2.2.1)
    | fail)
  all_goals go_wp2_with fail
  all_goals go_ret
  all_goals exact ⟨rfl, ⟨_, _, _, _, rfl, hI2⟩, ((Chg.of_below hB1).mono (fun b hb q => by omega)).trans (hc2.mono (fun b _ q => .inl (by rw [q]; exact h.sm)))⟩
end
end Go.Proofs.Ytpieehbikmmifaa

/- Messages appended to a list of messages of the call's own. -/
namespace Go.Proofs.Ytpieehbikmmifaa
open Go.RowKit
set_option linter.unusedVariables false
set_option maxRecDepth 100000

theorem Try.infoPk : (Try.prog.info? 46).map (fun i => (i.zero, i.size, i.bytes)) = some (some (.agg #[.int .i64 0, .int .i64 0, .int .i64 0, .slice none 0 0]), 4, 48) := by kernel_rfl
theorem run_appW {P : Program} (w : World) (base : Nat) (t ty e : TypeId) (z : Value) (size bytes : Nat) (ht : P.underlying t = some (.slice e)) (hinf : (P.info? e).map (fun i => (i.zero, i.size, i.bytes)) = some (some z, size, bytes)) (hzs : z.cells.size = size) (hs0 : 0 < size)
    (v : Value) (n : Nat) (xs : List Value) (hown : w.ownsRow base e size v n xs) (a : Addr) (m c : Nat) (news : List Value) (hnl : news.length = m * size) (hnews : ∀ j u, news[j]? = some u → w.cell? (a.add j) = some u) (hone : ∀ u ∈ news, u.oneCell' = true)
    (h63 : n + m ≤ maxLen) (hb : (n + m) * bytes ≤ 140737488355328) (hbase : base ≤ w.heap.size) :
    ∃ v' w', (Builtin.append_ #[t, t] ty #[v, .slice (some a) m c]).run P w = .ok v' w' ∧ w'.ownsRow base e size v' (n + m) (xs ++ news) ∧ w.grownBy w' v.ownBlock ∧ (v'.ownBlock = v.ownBlock ∨ v'.ownBlock = some w.heap.size) := by
  obtain ⟨i, hi, hz0, hz1, hz2⟩ := info_parts hinf
  obtain ⟨v', w', hr, ho, hg, hnil⟩ := run_append_own (P := P) w base t ty e i z size bytes ht hi hz0 hz1 hz2 hzs hs0 v n xs hown a m c news hnl hnews hone h63 hb hbase
  refine ⟨v', w', hr, ho, hg, ?_⟩
  have hlen : news.length = m * i.size := by rw [hz1]; exact hnl
  have hm : n + m ≤ 9223372036854775807 := by unfold maxLen at h63; omega
  rcases hown.2 with ⟨rfl, rfl⟩ | ⟨g, cap, cur, rfl, hbg, hh, hnc, hcm, hcs, htake⟩
  · by_cases h0 : m = 0
    · left; rw [hnil.2 ⟨rfl, h0⟩]
    · have hr2 := run_append_nil (P := P) w t ty e i z ht hi hz0 a m c news hlen hnews (by omega) (by omega) (by rw [hz2]; simp only [Nat.zero_add] at hb; omega)
      rw [hr2] at hr
      simp only [Result.ok.injEq] at hr
      right; rw [← hr.1]; rfl
  · by_cases hroom : n + m ≤ cap
    · have hfit : n * i.size + news.length ≤ cur.size := by rw [hcs, hz1, hnl, ← Nat.add_mul]; exact Nat.mul_le_mul_right _ hroom
      have hr2 := run_append_room (P := P) w t ty e i ht hi g n cap cur hh a m c news hlen hnews hone hroom hfit
      rw [hr2] at hr
      simp only [Result.ok.injEq] at hr
      left; rw [← hr.1]; rfl
    · have holds : ∀ j x, xs[j]? = some x → w.cell? ((⟨g, 0, none⟩ : Addr).add j) = some x := hown.cells (g := g) rfl
      have hr2 := run_append_grow (P := P) w t ty e i z ht hi hz0 ⟨g, 0, none⟩ n cap xs (by rw [hz1]; exact hown.1) holds a m c news hlen hnews (by omega) (by omega) (by rw [hz2]; exact growslice_fits (by omega) hb)
      rw [hr2] at hr
      simp only [Result.ok.injEq] at hr
      right; rw [← hr.1]; rfl

/-- The slice value v reads as these messages. -/
def RdP (w : World) (v : Value) (P : List (Pk × Value)) : Prop :=
  ∃ ao c, v = .slice ao P.length c ∧ (ao = none → c = 0 ∧ P = []) ∧ (∀ x ∈ P, ∃ b m k, x.2 = .slice b m k) ∧ ∀ j u, (pkCs P)[j]? = some u → ∃ a, ao = some a ∧ w.cell? (a.add j) = some u
theorem pkCs_one {P : List (Pk × Value)} (h : ∀ x ∈ P, ∃ b m k, x.2 = .slice b m k) : ∀ u ∈ pkCs P, u.oneCell' = true := by
  intro u hu
  obtain ⟨x, hx, hu⟩ := List.mem_flatMap.1 hu
  obtain ⟨b, m, k, e⟩ := h x hx
  simp only [pkC, List.mem_cons, List.not_mem_nil, or_false] at hu
  rcases hu with rfl | rfl | rfl | rfl
  · rfl
  · rfl
  · rfl
  · rw [e]; rfl
theorem rdP_one (w : World) (x : Pk × Value) (hx : ∃ b m k, x.2 = .slice b m k) {cs : Array Value} (hcs : cs = (pkC x).toArray) (t : TypeId) : RdP (w.alloc (.cells cs t)) (.slice (some ⟨w.heap.size, 0, none⟩) 1 1) [x] := by
  subst hcs
  refine ⟨some ⟨w.heap.size, 0, none⟩, 1, rfl, (fun e => by cases e), fun y hy => by rw [List.mem_singleton.1 hy]; exact hx, fun j u hu => ⟨_, rfl, ?_⟩⟩
  rw [Addr.add_lit, Nat.zero_add, World.cell?_alloc_at _ _ _ _ rfl]
  simp only [pkCs, List.flatMap_cons, List.flatMap_nil, List.append_nil] at hu
  simpa using hu
/-- 'append(out, x...)' of messages: what the operation does. -/
theorem run_appP (w : World) (ty : TypeId) (B : Nat) (v : Value) (l : List (Pk × Value)) (hown : w.ownsRow B 46 4 v l.length (pkCs l)) (vx : Value) (m : List (Pk × Value)) (hm : RdP w vx m) (hB : B ≤ w.heap.size) (hlen : l.length + m.length ≤ 1099511627776) :
    ∃ v' w', (Builtin.append_ #[39, 39] ty #[v, vx]).run Try.prog w = .ok v' w' ∧ w'.ownsRow B 46 4 v' (l ++ m).length (pkCs (l ++ m)) ∧ w.grownBy w' v.ownBlock ∧ (v'.ownBlock = v.ownBlock ∨ v'.ownBlock = some w.heap.size) := by
  obtain ⟨i, hi, hz0, hz1, hz2⟩ := info_parts Try.infoPk
  obtain ⟨ao, c, rfl, h0, h1, h3⟩ := hm
  cases ao with
  | none =>
    obtain ⟨rfl, rfl⟩ := h0 rfl
    exact ⟨v, w, run_append_owned_none (P := Try.prog) (w := w) B 39 ty 46 i 4 Try.underlying39 hi v l.length (pkCs l) hown, by simpa using hown, World.grownBy.refl _ _, .inl rfl⟩
  | some ad =>
    obtain ⟨v', w', hr, q2, q3, q4⟩ := run_appW (P := Try.prog) w B 39 ty 46 _ 4 48 Try.underlying39 Try.infoPk rfl (by decide) v l.length (pkCs l) hown ad m.length c (pkCs m) (pkCs_length m) (by
      intro j u hu
      obtain ⟨a', e, hc⟩ := h3 j u hu
      obtain rfl := Option.some.inj e
      exact hc) (pkCs_one h1) (by unfold maxLen; omega) (by omega) hB
    exact ⟨v', w', hr, by rw [pkCs_app, List.length_append]; exact q2, q3, q4⟩
theorem step_appP {ops : Array Oper} {o : Oper} {a : Act} {w : World} {K : Act → World → Prop} {Q : Exit → Act → World → Prop} {E : Prop} (hgd : o.guard = none) (s x : Operand)
    (ho : o.op = .call { callee := .builtin .append, args := #[s, x], argTypes := #[39, 39] })
    (B : Nat) (v : Value) (l : List (Pk × Value)) (hs : a.eval s = v) (hown : w.ownsRow B 46 4 v l.length (pkCs l)) (vx : Value) (m : List (Pk × Value)) (hx : a.eval x = vx) (hm : RdP w vx m) (hB : B ≤ w.heap.size) (hlen : l.length + m.length ≤ 1099511627776)
    (hK : ∀ v' w', w'.ownsRow B 46 4 v' (l ++ m).length (pkCs (l ++ m)) → w.grownBy w' v.ownBlock → (v'.ownBlock = v.ownBlock ∨ v'.ownBlock = some w.heap.size) → K (a.put o.dst v') w') : if Region.wanted o (yielded ops a.tmps) = true then Oper.wp Try.prog o a w K Q else E := by
  have hw : Region.wanted o (yielded ops a.tmps) = true := by simp [Region.wanted, hgd]
  rw [if_pos hw]
  obtain ⟨v', w', hr, q2, q3, q4⟩ := run_appP w o.type B v l hown vx m hm hB hlen
  unfold Oper.wp execOp
  simp only [ho, resolve, invoke, builtin, Sem.run_bind, Sem.run_pure, Result.andThen_ok, List.map_toArray, List.map_cons, List.map_nil, hs, hx, hr]
  exact hK v' w' q2 q3 q4
theorem wpList_appP {w : World} {ops : Array Oper} {rest : List Oper} {o : Oper} {a : Act} {Q : Exit → Act → World → Prop} (hgd : o.guard = none) (s x : Operand)
    (ho : o.op = .call { callee := .builtin .append, args := #[s, x], argTypes := #[39, 39] })
    (B : Nat) (v : Value) (l : List (Pk × Value)) (hs : a.eval s = v) (hown : w.ownsRow B 46 4 v l.length (pkCs l)) (vx : Value) (m : List (Pk × Value)) (hx : a.eval x = vx) (hm : RdP w vx m) (hB : B ≤ w.heap.size) (hlen : l.length + m.length ≤ 1099511627776)
    (h : ∀ v' w', w'.ownsRow B 46 4 v' (l ++ m).length (pkCs (l ++ m)) → w.grownBy w' v.ownBlock → (v'.ownBlock = v.ownBlock ∨ v'.ownBlock = some w.heap.size) → wpList Try.prog ops Q rest (a.put o.dst v') w') : wpList Try.prog ops Q (o :: rest) a w := by
  refine wpList_plain hgd fun K hK => ?_
  obtain ⟨v', w', hr, q2, q3, q4⟩ := run_appP w o.type B v l hown vx m hm hB hlen
  unfold Oper.wp execOp
  simp only [ho, resolve, invoke, builtin, Sem.run_bind, Sem.run_pure, Result.andThen_ok, List.map_toArray, List.map_cons, List.map_nil, hs, hx, hr]
  exact hK _ _ (h v' w' q2 q3 q4)
end Go.Proofs.Ytpieehbikmmifaa

/- The place of a message in a net. -/
namespace Go.Proofs.Ytpieehbikmmifaa
open Go.RowKit Go.Maps
set_option linter.unusedVariables false
set_option maxRecDepth 100000

/-- The place of a number in messages that rise. -/
def plN : List Pk → Int → Nat
  | [], _ => 0
  | x :: r, id => if (x.1 : Int) < id then plN r id + 1 else 0
/-- They rise by number. -/
def Rise (M : List Pk) : Prop := M.Pairwise (fun p q => p.1 < q.1)
theorem plN_le (M : List Pk) (id : Int) : plN M id ≤ M.length := by
  induction M with
  | nil => exact Nat.le_refl _
  | cons x r ih => simp only [plN]; split <;> simp <;> omega
theorem plN_lt {M : List Pk} {id : Int} {i : Nat} {x : Pk} (h : i < plN M id) (e : M[i]? = some x) : (x.1 : Int) < id := by
  induction M generalizing i with
  | nil => simp at e
  | cons y r ih =>
    simp only [plN] at h
    split at h
    · cases i with
      | zero => simp at e; subst e; assumption
      | succ i => exact ih (i := i) (by omega) (by simpa using e)
    · omega
theorem plN_ge {M : List Pk} {id : Int} {x : Pk} (e : M[plN M id]? = some x) : ¬ (x.1 : Int) < id := by
  induction M with
  | nil => simp at e
  | cons y r ih =>
    simp only [plN] at e
    split at e
    · exact ih (by simpa using e)
    · simp at e; subst e; assumption
theorem plN_eq {M : List Pk} {id : Int} {i : Nat} (h1 : ∀ k x, k < i → M[k]? = some x → (x.1 : Int) < id) (h2 : ∀ x, M[i]? = some x → ¬ (x.1 : Int) < id) (h3 : i ≤ M.length) : plN M id = i := by
  rcases Nat.lt_trichotomy (plN M id) i with q | q | q
  · have hl : plN M id < M.length := by omega
    exact absurd (h1 _ _ q (List.getElem?_eq_getElem hl)) (plN_ge (List.getElem?_eq_getElem hl))
  · exact q
  · have hl : i < M.length := by have := plN_le M id; omega
    exact absurd (plN_lt q (List.getElem?_eq_getElem hl)) (h2 _ (List.getElem?_eq_getElem hl))
/-- Is the message there? -/
def isN (M : List Pk) (id : Int) : Bool := match M[plN M id]? with | some x => (x.1 : Int) == id | none => false

theorem compare_any (a b : Int) (w : World) : Calls Try.prog 50 #[.int .i64 a, .int .i64 b] w fun e w' => e = .returned (.int .i64 (if a < b then -1 else if b < a then 1 else 0)) ∧ w' = w := by
  by_cases h1 : a < b
  · rw [if_pos h1]
    go_enter Try.func50, Try.ntmps50
    go_wp2
    go_ret
    exact ⟨rfl, rfl⟩
  · rw [if_neg h1]
    by_cases h2 : b < a
    · rw [if_pos h2]
      go_enter Try.func50, Try.ntmps50
      go_wp2
      go_ret
      exact ⟨rfl, rfl⟩
    · rw [if_neg h2]
      go_enter Try.func50, Try.ntmps50
      go_wp2
      go_ret
      exact ⟨rfl, rfl⟩
theorem find1_any (a b c id : Int) (v : Value) (hv : ∃ p q r, v = .slice p q r) (w : World) : Calls Try.prog 49 #[.agg #[.int .i64 a, .int .i64 b, .int .i64 c, v], .int .i64 id] w fun e w' => e = .returned (.int .i64 (if a < id then -1 else if id < a then 1 else 0)) ∧ Below w.heap.size w w' := by
  obtain ⟨p, q, r, rfl⟩ := hv
  have hcmp := compare_any a id
  generalize (if a < id then (-1 : Int) else if id < a then 1 else 0) = z at *
  go_enter Try.func49, Try.ntmps49
  go_wp2_with fail
  refine (hcmp _).mono ?_
  rintro e w1 ⟨rfl, rfl⟩
  go_wp2_with fail
  go_ret
  exact ⟨rfl, Below.al w _⟩

section
variable {B x A last m n : Nat} {uv : Value} {P : List (Pk × Value)} {D : DataW Unit} {M : List Pk} {C : Ct} {S : Nat → Prop} {w w' : World}
/-- How the messages' array reads. -/
theorem NtI.shape (h : NtI B x A last uv P m n D C S w) : ∃ a c, uv = .slice a P.length c ∧ P.length ≤ c ∧ c ≤ maxLen ∧ (a = none → c = 0) ∧ ∀ i p, P[i]? = some p → ∃ g, a = some ⟨g, 0, none⟩ ∧ w.cell? ⟨g, i * 4, none⟩ = some (.int .i64 (p.1.1 : Int)) ∧ w.cell? ⟨g, i * 4 + 1, none⟩ = some (.int .i64 (p.1.2.1 : Int)) ∧ w.cell? ⟨g, i * 4 + 2, none⟩ = some (.int .i64 (p.1.2.2.1 : Int)) ∧ w.cell? ⟨g, i * 4 + 3, none⟩ = some p.2 ∧ ∀ j, w.frozen? ⟨g, j, none⟩ = false := by
  rcases h.row.2 with ⟨q, q0⟩ | ⟨g, cap, cur, q, hB, hg, q1, q2, q3, q4⟩
  · refine ⟨none, 0, by rw [q, q0], by omega, by simp, fun _ => rfl, fun i x e => ?_⟩
    have := (List.getElem?_eq_some_iff.1 e).1
    omega
  · refine ⟨some ⟨g, 0, none⟩, cap, q, q1, q2, (fun e => by cases e), fun i x e => ⟨g, rfl, ?_⟩⟩
    have hc : ∀ j u, (pkCs P)[j]? = some u → w.cell? ⟨g, j, none⟩ = some u := fun j u hu => by
      have := h.row.cells (g := g) (by rw [q]; rfl) j u hu
      rw [Addr.add_lit, Nat.zero_add] at this
      exact this
    obtain ⟨e1, e2, e3, e4⟩ := pkCs_at P i x e
    exact ⟨hc _ _ e1, hc _ _ e2, hc _ _ e3, hc _ _ e4, fun j => frozen_of_row _ _ _ _ _ hg⟩

set_option maxHeartbeats 1000000 in
theorem search_any (h : NtI B x A last uv P m n D C S w) (hU : Rise (P.map (·.1))) (hl : P.length ≤ 1048576) (id : Int) :
    Calls Try.prog 48 #[uv, .int .i64 id, .func (.func 49) #[] #[]] w fun e w' => e = .returned (.tuple #[.int .i64 (plN (P.map (·.1)) id : Int), .bool (isN (P.map (·.1)) id)]) ∧ Below w.heap.size w w' := by
  obtain ⟨a, c, rfl, h1, h2, h3, h4⟩ := h.shape
  unfold maxLen at h2
  go_enter Try.func48, Try.ntmps48
  go_wp2_with fail
  go_loopw [9, 10] (fun i j wr => ∃ (i0 j0 : Nat), i0 ≤ j0 ∧ j0 ≤ P.length ∧ i = .int .i64 i0 ∧ j = .int .i64 j0 ∧ (∀ k p, k < i0 → P[k]? = some p → (p.1.1 : Int) < id) ∧ (∀ k p, j0 ≤ k → P[k]? = some p → id ≤ (p.1.1 : Int)) ∧ Below w.heap.size w wr) (fun i j _ => (intOf j).toNat - (intOf i).toNat)
  case atStart => exact ⟨0, P.length, by omega, by omega, rfl, rfl, (fun k p q => by omega), (fun k p q e => by have := (List.getElem?_eq_some_iff.1 e).1; omega), Below.refl _ _⟩
  case round =>
    obtain ⟨i0, j0, hij, hjn, rfl, rfl, hlo, hhi, hb⟩ := hrel
    by_cases hlt : i0 < j0
    · obtain ⟨k, hk⟩ : ∃ k, (i0 + j0) / 2 = k := ⟨_, rfl⟩
      have hkl : k < P.length := by omega
      obtain ⟨⟨⟨id0, fr, to_, da⟩, dv⟩, hp⟩ : ∃ p, P[k]? = some p := ⟨P[k], List.getElem?_eq_getElem hkl⟩
      obtain ⟨g, rfl, g0, g1, g2, g3, gz⟩ := h4 k _ hp
      have hdat := h.data _ (List.mem_of_getElem? hp)
      simp only [] at hdat g0 g1 g2 g3
      have hv : ∃ p q r, dv = .slice p q r := by obtain ⟨ad, cd, e, _⟩ := hdat; exact ⟨_, _, _, e⟩
      clear h4 hdat gz
      have cr : ∀ j u, w.cell? ⟨g, j, none⟩ = some u → wr.cell? ⟨g, j, none⟩ = some u := fun j u q => by rw [hb.cell (World.block_lt_of_cell? w _ q)]; exact q
      have r0 := cr _ _ g0
      have r1 := cr _ _ g1
      have r2 := cr _ _ g2
      have r3 := cr _ _ g3
      clear cr g0 g1 g2 g3
      have hki : ((i0 : Int) + (j0 : Int)) / 2 = (k : Int) := by omega
      have hk1 : i0 ≤ k ∧ k < j0 := by omega
      have HR : Hid _ := And.intro hU hp
      have HL : Hid _ := And.intro hlo hhi
      clear hU hp hlo hhi hk h
      have hf := find1_any (id0 : Int) (fr : Int) (to_ : Int) id dv hv
      by_cases hlt2 : (id0 : Int) < id
      · rw [if_pos hlt2] at hf
        go_wp2_with fail
        refine (hf _).mono ?_
        rintro e w1 ⟨rfl, hb1⟩
        go_wp2_with fail
        refine ⟨⟨k + 1, j0, by omega, hjn, by go_num, rfl, fun k' p hk' e => ?_, HL.out.2, Below.tr hb hb1⟩, by simp [intOf]; omega⟩
        rcases Nat.lt_or_ge k' k with q | q
        · have h1 : k' < P.length := by omega
          have h2 := List.pairwise_iff_getElem.1 HR.out.1 k' k (by simpa using h1) (by simpa using hkl) q
          obtain ⟨e1, e2⟩ := List.getElem?_eq_some_iff.1 e
          obtain ⟨e3, e4⟩ := List.getElem?_eq_some_iff.1 HR.out.2
          simp only [List.getElem_map, e2, e4] at h2
          omega
        · obtain rfl : k' = k := by omega
          rw [HR.out.2] at e
          obtain rfl := Option.some.inj e
          exact hlt2
      · rw [if_neg hlt2] at hf
        generalize hz : (if id < (id0 : Int) then (1 : Int) else 0) = z at *
        have hz0 : 0 ≤ z := by rw [← hz]; split <;> omega
        have hzd : decide (z < 0) = false := decide_eq_false (by omega)
        clear hz
        go_wp2_with fail
        refine (hf _).mono ?_
        rintro e w1 ⟨rfl, hb1⟩
        go_wp2_with fail
        refine ⟨⟨i0, k, by omega, by omega, rfl, by go_num, HL.out.1, fun k' p hk' e => ?_, Below.tr hb hb1⟩, by simp [intOf]; omega⟩
        rcases Nat.lt_or_ge k k' with q | q
        · have h1 : k' < P.length := (List.getElem?_eq_some_iff.1 e).1
          have h2 := List.pairwise_iff_getElem.1 HR.out.1 k k' (by simpa using hkl) (by simpa using h1) q
          obtain ⟨e1, e2⟩ := List.getElem?_eq_some_iff.1 e
          obtain ⟨e3, e4⟩ := List.getElem?_eq_some_iff.1 HR.out.2
          simp only [List.getElem_map, e2, e4] at h2
          omega
        · obtain rfl : k' = k := by omega
          rw [HR.out.2] at e
          obtain rfl := Option.some.inj e
          exact hlt2
    · obtain rfl : i0 = j0 := by omega
      have hpl : plN (P.map (·.1)) id = i0 := plN_eq (fun k x hk e => by
          rw [List.getElem?_map] at e
          obtain ⟨y, hy, rfl⟩ := Option.map_eq_some_iff.1 e
          exact hlo k y hk hy) (fun x e => by
          rw [List.getElem?_map] at e
          obtain ⟨y, hy, rfl⟩ := Option.map_eq_some_iff.1 e
          exact Int.not_lt.2 (hhi i0 y (Nat.le_refl _) hy)) (by simpa using hjn)
      by_cases hlt3 : i0 < P.length
      · obtain ⟨⟨⟨id0, fr, to_, da⟩, dv⟩, hp⟩ : ∃ p, P[i0]? = some p := ⟨P[i0], List.getElem?_eq_getElem hlt3⟩
        obtain ⟨g, rfl, g0, g1, g2, g3, gz⟩ := h4 i0 _ hp
        have hdat := h.data _ (List.mem_of_getElem? hp)
        simp only [] at hdat g0 g1 g2 g3
        have hv : ∃ p q r, dv = .slice p q r := by obtain ⟨ad, cd, e, _⟩ := hdat; exact ⟨_, _, _, e⟩
        clear h4 hdat gz
        have cr : ∀ j u, w.cell? ⟨g, j, none⟩ = some u → wr.cell? ⟨g, j, none⟩ = some u := fun j u q => by rw [hb.cell (World.block_lt_of_cell? w _ q)]; exact q
        have r0 := cr _ _ g0
        have r1 := cr _ _ g1
        have r2 := cr _ _ g2
        have r3 := cr _ _ g3
        clear cr g0 g1 g2 g3
        have hge : ¬ (id0 : Int) < id := Int.not_lt.2 (hhi i0 _ (Nat.le_refl _) hp)
        have hf := find1_any (id0 : Int) (fr : Int) (to_ : Int) id dv hv
        rw [if_neg hge] at hf
        have hisN : isN (P.map (·.1)) id = ((id0 : Int) == id) := by unfold isN; rw [hpl, List.getElem?_map, hp]; rfl
        have hzz : ((if id < (id0 : Int) then (1 : Int) else 0) == 0) = ((id0 : Int) == id) := by
          split
          · rw [show ((1 : Int) == 0) = false from rfl, eq_comm, beq_eq_false_iff_ne]; omega
          · rw [show ((0 : Int) == 0) = true from rfl, eq_comm, beq_iff_eq]; omega
        generalize (if id < (id0 : Int) then (1 : Int) else 0) = z at *
        have HP : Hid _ := And.intro hpl hisN
        clear hpl hisN hlo hhi hU h hp
        go_wp2_with fail
        refine (hf _).mono ?_
        rintro e w1 ⟨rfl, hb1⟩
        go_wp2_with fail
        go_ret2
        rw [HP.out.1, HP.out.2]
        exact ⟨by simp, Below.tr hb hb1⟩
      · have hisN : isN (P.map (·.1)) id = false := by unfold isN; rw [hpl, List.getElem?_map, List.getElem?_eq_none (by omega)]; rfl
        have HP : Hid _ := And.intro hpl hisN
        clear hpl hisN hlo hhi hU h h4
        go_wp2_with fail
        go_ret2
        rw [HP.out.1, HP.out.2]
        exact ⟨rfl, hb⟩
theorem find_any (h : Nt B x A last n S M C w) (hU : Rise M) (hl : M.length ≤ 1048576) (id : Int) :
    Calls Try.prog 39 #[.pointer (some ⟨x, 0, none⟩), .int .i64 id] w fun e w' => e = .returned (.tuple #[.int .i64 (plN M id : Int), .bool (isN M id)]) ∧ Below w.heap.size w w' := by
  obtain ⟨uv, P, m, D, rfl, h⟩ := h
  obtain ⟨c0, c1, c2, c3, cz⟩ := h.cells
  rw [List.length_map] at hl
  have hs := search_any h hU hl id
  go_enter Try.func39, Try.ntmps39
  go_wp2_with fail
  refine hs.mono ?_
  rintro e w1 ⟨rfl, hb1⟩
  go_wp2_with fail
  go_ret2
  exact ⟨rfl, hb1⟩
end
end Go.Proofs.Ytpieehbikmmifaa

/- One more message in a net. -/
namespace Go.Proofs.Ytpieehbikmmifaa
open Go.RowKit Go.Maps
set_option linter.unusedVariables false
set_option maxRecDepth 100000

theorem rowP_shape {w : World} {B : Nat} {e : TypeId} {size n : Nat} {v : Value} {xs : List Value} (h : w.ownsRow B e size v n xs) : ∃ a m c, v = .slice a m c := by
  rcases h.2 with ⟨q, q0⟩ | ⟨g, cap, cur, q, _⟩
  · exact ⟨_, _, _, q⟩
  · exact ⟨_, _, _, q⟩
theorem block_new (w : World) (o : Obj) : (w.alloc o).heap[w.heap.size]? = some o := by
  show (w.heap.push _)[_]? = _
  simp

section
variable {B x A last m n : Nat} {uv : Value} {P : List (Pk × Value)} {D : DataW Unit} {M : List Pk} {C : Ct} {S : Nat → Prop} {w w' : World}

/-- The net with another list and another last number. -/
theorem NtI.newRow (h : NtI B x A last uv P m n D C S w) {we : World} {last' : Nat} {uv' : Value} {Q : List (Pk × Value)} {S' : Nat → Prop} (hc : Chg (fun b => b = x ∨ uv.ownBlock = some b) w we) (hx : we.heap[x]? = some (.cells #[.int .i64 (A : Int), .int .i64 (last' : Int), uv, .map (some m)] 61 (0, 0)))
    (ho : we.ownsRow B 46 4 uv' Q.length (pkCs Q)) (hu : uv'.ownBlock = uv.ownBlock ∨ ∀ b, uv'.ownBlock = some b → w.heap.size ≤ b) (hQ : ∀ p ∈ Q, Rd w p.2 p.1.2.2.2 ∧ ∀ b, p.2.ownBlock = some b → S' b ∧ b < w.heap.size ∧ b ≠ x ∧ b ≠ m ∧ uv.ownBlock ≠ some b) (hS : ∀ b, S b → S' b) (hSu : ∀ b, uv'.ownBlock = some b → S' b) (hlo : ∀ b, S' b → B ≤ b ∧ b < we.heap.size) :
    NtI B x A last' uv' Q m n D C S' (we.setCell ⟨x, 2, none⟩ uv') ∧ Chg S w (we.setCell ⟨x, 2, none⟩ uv') := by
  have hxl := (h.lo x h.sx).2
  have hml := (h.lo m h.sm).2
  have hux : ∀ b, uv'.ownBlock = some b → b ≠ x ∧ b ≠ m := fun b e => by
    rcases hu with q | q
    · exact (h.sf b (by rw [← q]; exact e)).2
    · have := q b e; omega
  have hc2 : Chg (fun b => b = x) we (we.setCell ⟨x, 2, none⟩ uv') := (Chg.refl (fun b => b = x) we).put x 2 uv' rfl
  have hcx : Chg (fun b => b = x ∨ uv.ownBlock = some b) w (we.setCell ⟨x, 2, none⟩ uv') := hc.trans (hc2.mono (fun b _ q => .inl (.inl q)))
  refine ⟨⟨by rw [heap_setCell_same _ _ 2 _ _ _ hx]; rfl, ownsRow_keptC ho hc2 (fun b e => (hux b e).1), fun p hp => (hQ p hp).1.keptC hcx (fun b e q => ?_), ownsMap_keptC h.map hcx (fun q => ?_), h.cut, hS _ h.sx, hS _ h.sm, h.xm, fun b e => ⟨hSu b e, hux b e⟩, fun p hp b e => ?_, fun b hb => ⟨(hlo b hb).1, by have := (hlo b hb).2; simpa using this⟩⟩, hcx.mono (fun b _ q => ?_)⟩
  · obtain ⟨_, _, q1, _, q2⟩ := (hQ p hp).2 b e
    rcases q with q | q
    · exact q1 q
    · exact q2 q
  · rcases q with q | q
    · exact h.xm q.symm
    · exact (h.sf m q).2.2 rfl
  · obtain ⟨q0, q1, q2, q3, q4⟩ := (hQ p hp).2 b e
    refine ⟨q0, q2, q3, fun q => ?_⟩
    rcases hu with q5 | q5
    · exact q4 (by rw [← q5]; exact q)
    · have := q5 b q; omega
  · rcases q with q | q
    · rw [q]; exact h.sx
    · exact (h.sf b q).1

set_option maxHeartbeats 2000000 in
theorem add_any (h : NtI B x A last uv P m n D C S w) (hl : P.length ≤ 1048576) (hlast : last ≤ 1099511627776) (i0 : Int) (fr to_ : Nat) {da : List UInt8} {dv : Value} (hd : Rd w dv da) (hdb : ∀ b, dv.ownBlock = some b → (B ≤ b ∧ b < w.heap.size) ∧ b ≠ x ∧ b ≠ m ∧ uv.ownBlock ≠ some b) :
    Calls Try.prog 38 #[.pointer (some ⟨x, 0, none⟩), .agg #[.int .i64 i0, .int .i64 (fr : Int), .int .i64 (to_ : Int), dv]] w fun e w' => e = .returned (.int .i64 ((last + 1 : Nat) : Int)) ∧ (∃ S', Nt B x A (last + 1) n S' ((P ++ [((last + 1, fr, to_, da), dv)]).map (·.1)) C w' ∧ ∀ b, S' b → S b ∨ dv.ownBlock = some b ∨ w.heap.size ≤ b) ∧ Chg S w w' := by
  obtain ⟨c0, c1, c2, c3, cz⟩ := h.cells
  have z1 := cz 1
  have z2 := cz 2
  have hxl := (h.lo x h.sx).2
  have hxF : x ≠ w.heap.size := by omega
  obtain ⟨L1, hL1⟩ : ∃ L1, last + 1 = L1 := ⟨_, rfl⟩
  rw [hL1]
  have hls : (last : Int) + 1 = (L1 : Int) := by omega
  have hrg : (last : Int) ≤ 9223372036854775806 := by omega
  have HL : Hid _ := hL1
  clear hL1
  obtain ⟨ad, cd, rfl, d1, d2, d3⟩ := id hd
  unfold maxLen at d2
  clear d3
  go_enter Try.func38, Try.ntmps38
  go_wp2_with fail
  have hcc : Chg (fun b => b = x) w ((w.setCell ⟨x, 1, none⟩ (.int .i64 (L1 : Int))).alloc (.cells #[.int .i64 (L1 : Int), .int .i64 (fr : Int), .int .i64 (to_ : Int), .slice ad da.length cd] 46)) := ((Chg.refl (fun b => b = x) w).put x 1 _ rfl).alloc _
  have hcx : ((w.setCell ⟨x, 1, none⟩ (.int .i64 (L1 : Int))).alloc (.cells #[.int .i64 (L1 : Int), .int .i64 (fr : Int), .int .i64 (to_ : Int), .slice ad da.length cd] 46)).heap[x]? = some (.cells #[.int .i64 (A : Int), .int .i64 (L1 : Int), uv, .map (some m)] 61 (0, 0)) := by
    rw [Below.heap_alloc _ _ _ (by simpa using hxl), heap_setCell_same _ _ 1 _ _ _ h.cell]; rfl
  have hcF : ((w.setCell ⟨x, 1, none⟩ (.int .i64 (L1 : Int))).alloc (.cells #[.int .i64 (L1 : Int), .int .i64 (fr : Int), .int .i64 (to_ : Int), .slice ad da.length cd] 46)).heap[w.heap.size]? = some (.cells #[.int .i64 (L1 : Int), .int .i64 (fr : Int), .int .i64 (to_ : Int), .slice ad da.length cd] 46 (0, 0)) := by
    have := block_new (w.setCell ⟨x, 1, none⟩ (.int .i64 (L1 : Int))) (.cells #[.int .i64 (L1 : Int), .int .i64 (fr : Int), .int .i64 (to_ : Int), .slice ad da.length cd] 46)
    simpa using this
  generalize hwc : (w.setCell ⟨x, 1, none⟩ (.int .i64 (L1 : Int))).alloc (.cells #[.int .i64 (L1 : Int), .int .i64 (fr : Int), .int .i64 (to_ : Int), .slice ad da.length cd] 46) = wc at *
  clear hwc
  have hsc := hcc.size
  have hFl : w.heap.size < wc.heap.size := (Array.getElem?_eq_some_iff.1 hcF).1
  have hrow : wc.ownsRow B 46 4 uv P.length (pkCs P) := ownsRow_keptC h.row hcc (fun b hb e => (h.sf b hb).2.1 e)
  have hrow1 : (wc.alloc (.cells #[.int .i64 (L1 : Int), .int .i64 (fr : Int), .int .i64 (to_ : Int), .slice ad da.length cd] 46)).drew.ownsRow B 46 4 uv P.length (pkCs P) := World.ownsRow.drew (World.ownsRow.alloc hrow _)
  have hxc : x ≠ wc.heap.size := by omega
  have hFc : w.heap.size ≠ wc.heap.size := by omega
  have hBw : B ≤ w.heap.size := by have := (h.lo x h.sx).1; omega
  have hB1 : B ≤ (wc.alloc (.cells #[.int .i64 (L1 : Int), .int .i64 (fr : Int), .int .i64 (to_ : Int), .slice ad da.length cd] 46)).drew.heap.size := by
    have e : (wc.alloc (.cells #[.int .i64 (L1 : Int), .int .i64 (fr : Int), .int .i64 (to_ : Int), .slice ad da.length cd] 46)).drew.heap.size = wc.heap.size + 1 := by simp
    omega
  have hux : some x ≠ uv.ownBlock := fun e => (h.sf x e.symm).2.1 rfl
  have huF : some w.heap.size ≠ uv.ownBlock := fun e => by have := (h.lo _ (h.sf _ e.symm).1).2; omega
  have hxn : RdP ((wc.alloc (.cells #[.int .i64 (L1 : Int), .int .i64 (fr : Int), .int .i64 (to_ : Int), .slice ad da.length cd] 46)).drew) (.slice (some ⟨wc.heap.size, 0, none⟩) 1 1) [((L1, fr, to_, da), .slice ad da.length cd)] := rdP_one wc ((L1, fr, to_, da), .slice ad da.length cd) ⟨_, _, _, rfl⟩ rfl _
  have hlen : P.length + [((L1, fr, to_, da), Value.slice ad da.length cd)].length ≤ 1099511627776 := by simp; omega
  have k2 : wc.cell? ⟨x, 2, none⟩ = some uv := by rw [cell_of_row _ _ _ _ _ _ hcx]; rfl
  have k2a : (wc.alloc (.cells #[.int .i64 (L1 : Int), .int .i64 (fr : Int), .int .i64 (to_ : Int), .slice ad da.length cd] 46)).cell? ⟨x, 2, none⟩ = some uv := by rw [World.cell?_of_block (w := wc) (Below.heap_alloc wc _ _ (by show x < wc.heap.size; omega))]; exact k2
  have k2b : (wc.alloc (.cells #[.int .i64 (L1 : Int), .int .i64 (fr : Int), .int .i64 (to_ : Int), .slice ad da.length cd] 46)).drew.cell? ⟨x, 2, none⟩ = some uv := k2a
  have kz2 : wc.frozen? ⟨x, 2, none⟩ = false := frozen_of_row _ _ _ _ _ hcx
  have f0 : wc.cell? ⟨w.heap.size, 0, none⟩ = some (.int .i64 (L1 : Int)) := by rw [cell_of_row _ _ _ _ _ _ hcF]; rfl
  have f1 : wc.cell? ⟨w.heap.size, 1, none⟩ = some (.int .i64 (fr : Int)) := by rw [cell_of_row _ _ _ _ _ _ hcF]; rfl
  have f2 : wc.cell? ⟨w.heap.size, 2, none⟩ = some (.int .i64 (to_ : Int)) := by rw [cell_of_row _ _ _ _ _ _ hcF]; rfl
  have f3 : wc.cell? ⟨w.heap.size, 3, none⟩ = some (.slice ad da.length cd) := by rw [cell_of_row _ _ _ _ _ _ hcF]; rfl
  have hmid : ∀ we, ((wc.alloc (.cells #[.int .i64 (L1 : Int), .int .i64 (fr : Int), .int .i64 (to_ : Int), .slice ad da.length cd] 46)).drew).grownBy we uv.ownBlock → we.heap[x]? = wc.heap[x]? ∧ we.heap[w.heap.size]? = wc.heap[w.heap.size]? ∧ Chg (fun b => b = x ∨ uv.ownBlock = some b) w we := fun we hg => by
    have e : ∀ b, b < wc.heap.size → ((wc.alloc (.cells #[.int .i64 (L1 : Int), .int .i64 (fr : Int), .int .i64 (to_ : Int), .slice ad da.length cd] 46)).drew).heap[b]? = wc.heap[b]? := fun b hb => Below.heap_alloc wc _ _ hb
    have es : ((wc.alloc (.cells #[.int .i64 (L1 : Int), .int .i64 (fr : Int), .int .i64 (to_ : Int), .slice ad da.length cd] 46)).drew).heap.size = wc.heap.size + 1 := by simp
    refine ⟨(hg.block x (by omega) hux).trans (e x (by omega)), (hg.block _ (by omega) huF).trans (e _ hFl), ?_⟩
    have h1 : Chg (fun b => b = x ∨ uv.ownBlock = some b) w ((wc.alloc (.cells #[.int .i64 (L1 : Int), .int .i64 (fr : Int), .int .i64 (to_ : Int), .slice ad da.length cd] 46)).drew) := ((hcc.mono (fun b _ q => Or.inl q)).alloc _).trans ((Chg.of_below (below_drewN (Below.refl (wc.alloc (.cells #[.int .i64 (L1 : Int), .int .i64 (fr : Int), .int .i64 (to_ : Int), .slice ad da.length cd] 46)).heap.size _) 1)).mono (fun b hb q => absurd hb (Nat.not_lt.2 q)))
    exact h1.trans ((Chg.of_grown (S := fun b => b = x ∨ uv.ownBlock = some b) hg (fun b e _ => .inr e)).mono (fun b _ q => .inl q))
  have H : Hid _ := And.intro h (And.intro hd hdb)
  clear h hd hdb hcc
  go_region_law
    ((first
    | (refine step_appP rfl _ _ rfl B uv P rfl hrow1 _ [((L1, fr, to_, da), .slice ad da.length cd)] rfl hxn hB1 hlen ?_; intro v5 w5 ho5 hg5 hv5; obtain ⟨a5, n5, c5, rfl⟩ := rowP_shape ho5; obtain ⟨q1, q2, q3⟩ := hmid w5 hg5; have t2 : w5.cell? ⟨x, 2, none⟩ = some uv := (by rw [World.cell?_of_block q1]; exact k2); have tz2 : w5.frozen? ⟨x, 2, none⟩ = false := (by rw [World.frozen?_of_block q1]; exact kz2); have u0 : w5.cell? ⟨w.heap.size, 0, none⟩ = some (.int .i64 (L1 : Int)) := (by rw [World.cell?_of_block q2]; exact f0))
    | fail))
  all_goals go_wp2_with fail
  all_goals go_ret
  all_goals
    obtain ⟨h, hd, hdb⟩ := H.out
    have hz5 := q3.size
    have hN := h.newRow (S' := fun b => (S b ∨ (Value.slice ad da.length cd).ownBlock = some b) ∨ (Value.slice a5 n5 c5).ownBlock = some b) (last' := L1) q3 (by rw [q1]; exact hcx) ho5 (by
        rcases hv5 with q | q
        · exact .inl q
        · refine .inr (fun b e => ?_)
          rw [q] at e
          have e2 := Option.some.inj e
          simp at e2
          omega) (fun p hp => by
        rcases List.mem_append.1 hp with q | q
        · exact ⟨h.data p q, fun b e => ⟨.inl (.inl (h.sd p q b e).1), (h.lo b (h.sd p q b e).1).2, (h.sd p q b e).2⟩⟩
        · rw [List.mem_singleton.1 q]
          exact ⟨hd, fun b e => ⟨.inl (.inr e), (hdb b e).1.2, (hdb b e).2⟩⟩) (fun b q => .inl (.inl q)) (fun b q => .inr q) (fun b q => by
        rcases q with (q | q) | q
        · exact ⟨(h.lo b q).1, Nat.lt_of_lt_of_le (h.lo b q).2 hz5⟩
        · exact ⟨(hdb b q).1.1, Nat.lt_of_lt_of_le (hdb b q).1.2 hz5⟩
        · exact World.ownsRow.lt ho5 b q)
    refine ⟨rfl, ⟨_, ⟨_, _, _, _, rfl, hN.1⟩, fun b q => ?_⟩, hN.2⟩
    rcases q with (q | q) | q
    · exact .inl q
    · exact .inr (.inl q)
    · rcases hv5 with q2 | q2
      · exact .inl (h.sf b (by rw [← q2]; exact q)).1
      · rw [q2] at q
        have e2 := Option.some.inj q
        simp at e2
        exact .inr (.inr (by omega))
end
end Go.Proofs.Ytpieehbikmmifaa
