/- Plain mathematics of bytes and numbers: what the codec's calls answer, as functions on lists of bytes. No program is named here. -/
import Derived.Test.YtedfjacmaidhkaaGreatRows
import Derived.WalkKit
import Derived.WalkSpells
import Derived.WalkLawsBesides
import Derived.BigQuiet
import Derived.Deep.QuietTactic
import Derived.Laws.AppendOwnNone
import Derived.Laws.BytesArg
import Derived.Laws.Cells
import Derived.ProofKit
import Derived.OpenShut
import Derived.ChangeOld
import Derived.SizedLaws
import Derived.JoinedCond
namespace Go.Proofs.YtedfjacmaidhkaaGreat.M

/-- The lowest k bytes of n, the highest first. -/
def be : Nat → Nat → List UInt8
  | 0, _ => []
  | k + 1, n => UInt8.ofNat (n / 2 ^ (8 * k)) :: be k n

theorem be_length (k n : Nat) : (be k n).length = k := by
  induction k with
  | zero => rfl
  | succ k ih => simp [be, ih]

theorem u8_ofNat (n : Nat) : ((UInt8.ofNat n).toNat : Int) = (n : Int) % 256 := by
  rw [UInt8.toNat_ofNat']; omega

/-- n in as few bytes as can be, seven bits a byte, the lowest first; at most k + 1 bytes. -/
def viF : Nat → Nat → List UInt8
  | 0, n => [UInt8.ofNat n]
  | k + 1, n => if n < 128 then [UInt8.ofNat n] else UInt8.ofNat (n % 128 + 128) :: viF k (n / 128)
def vi (n : Nat) : List UInt8 := viF 9 n

theorem viF_length (k n : Nat) : (viF k n).length ≤ k + 1 := by
  induction k generalizing n with
  | zero => simp [viF]
  | succ k ih =>
    unfold viF
    split
    · simp
    · have := ih (n / 128); simp only [List.length_cons]; omega

/-- More rounds than are needed turn nothing. -/
theorem viF_more (k n : Nat) (h : n < 128 ^ (k + 1)) : viF (k + 1) n = viF k n := by
  induction k generalizing n with
  | zero => simp only [viF]; rw [if_pos (by simpa using h)]
  | succ k ih =>
    rw [viF]; conv => rhs; rw [viF]
    split
    · rfl
    · rw [ih]
      rw [Nat.pow_succ] at h
      exact Nat.div_lt_of_lt_mul (by rw [Nat.mul_comm]; exact h)

/-- What is left of a number of 64 bits ahead of its last k + 1 bytes of seven bits. -/
def qb (k : Nat) : Nat := 2 ^ (64 - 7 * (9 - k))
theorem qb_le (k : Nat) : qb k ≤ 18446744073709551616 := Nat.pow_le_pow_right (by decide) (show 64 - 7 * (9 - k) ≤ 64 by omega)
theorem qb_zero : qb 0 = 2 := rfl
theorem qb_succ (k : Nat) (h : k + 1 ≤ 9) : qb (k + 1) = qb k * 128 := by
  unfold qb
  rw [show 64 - 7 * (9 - (k + 1)) = 64 - 7 * (9 - k) + 7 by omega, Nat.pow_add]

theorem not64 (n : Nat) (h : n < 18446744073709551616) : 18446744073709551615 ^^^ n = 18446744073709551615 - n := by
  have e : (BitVec.allOnes 64 ^^^ BitVec.ofNat 64 n).toNat = (~~~ (BitVec.ofNat 64 n)).toNat := by rw [BitVec.allOnes_xor]
  rw [BitVec.toNat_xor, BitVec.toNat_not, BitVec.toNat_ofNat, BitVec.toNat_allOnes, Nat.mod_eq_of_lt (by simpa using h)] at e
  simpa using e

theorem or128 (x : Nat) (h : x < 256) : x ||| 128 = x % 128 + 128 := by
  have : ∀ y : Fin 256, y.val ||| 128 = y.val % 128 + 128 := by decide +kernel
  exact this ⟨x, h⟩

/-- The number whose bytes these are, the highest first. -/
def num (l : List UInt8) : Nat := l.foldl (fun n x => n * 256 + x.toNat) 0
theorem num_snoc (l : List UInt8) (x : UInt8) : num (l ++ [x]) = num l * 256 + x.toNat := by simp [num]
theorem num_lt_from (l : List UInt8) : ∀ n, l.foldl (fun n x => n * 256 + x.toNat) n < (n + 1) * 256 ^ l.length := by
  induction l with
  | nil => intro n; simp
  | cons x l ih =>
    intro n
    rw [List.foldl_cons]
    refine Nat.lt_of_lt_of_le (ih _) ?_
    rw [List.length_cons, Nat.pow_succ', ← Nat.mul_assoc]
    exact Nat.mul_le_mul_right _ (by have := x.toNat_lt; omega)
theorem num_lt (l : List UInt8) : num l < 256 ^ l.length := by simpa [num] using num_lt_from l 0

/-- The number of seven bits a byte, the lowest first. -/
def val : List UInt8 → Nat
  | [] => 0
  | x :: r => x.toNat % 128 + 128 * val r
theorem val_lt (l : List UInt8) : val l < 128 ^ l.length := by
  induction l with
  | nil => simp [val]
  | cons x l ih =>
    rw [val, List.length_cons, Nat.pow_succ']
    omega
theorem val_append (a b : List UInt8) : val (a ++ b) = val a + 128 ^ a.length * val b := by
  induction a with
  | nil => simp [val]
  | cons x a ih =>
    rw [List.cons_append, val, val, ih, List.length_cons, Nat.pow_succ', Nat.mul_add, Nat.mul_assoc]
    omega

/-- How many of the first k bytes are followed by another one. -/
def cont : Nat → List UInt8 → Nat
  | 0, _ => 0
  | _ + 1, [] => 0
  | k + 1, x :: r => if 128 ≤ x.toNat then cont k r + 1 else 0

theorem cont_le (k : Nat) (l : List UInt8) : cont k l ≤ k ∧ cont k l ≤ l.length := by
  induction k generalizing l with
  | zero => simp [cont]
  | succ k ih =>
    cases l with
    | nil => simp [cont]
    | cons x l =>
      have := ih l
      simp only [cont, List.length_cons]
      split <;> omega

/-- It is k, if the first k are so, and there is no other one, or it is not. -/
theorem cont_eq (m k : Nat) (l : List UInt8) (hk : k ≤ m) (hl : k ≤ l.length) (h1 : ∀ j, (h : j < k) → 128 ≤ (l[j]'(by omega)).toNat) (h2 : k = m ∨ k = l.length ∨ ∃ h : k < l.length, l[k].toNat < 128) : cont m l = k := by
  induction k generalizing m l with
  | zero =>
    cases m with
    | zero => rfl
    | succ m =>
      cases l with
      | nil => rfl
      | cons x l =>
        rcases h2 with h2 | h2 | ⟨_, h2⟩
        · omega
        · simp at h2
        · simp only [cont]; rw [if_neg]; simp at h2; omega
  | succ k ih =>
    obtain ⟨m, rfl⟩ : ∃ m', m = m' + 1 := ⟨m - 1, by omega⟩
    cases l with
    | nil => simp at hl
    | cons x l =>
      have hx := h1 0 (by omega)
      simp at hx
      simp only [cont]
      rw [if_pos hx, ih m l (by omega) (by simpa using hl) (fun j hj => by have := h1 (j + 1) (by omega); simpa using this)]
      rcases h2 with h2 | h2 | ⟨h, h2⟩
      · exact .inl (by omega)
      · exact .inr (.inl (by simpa using h2))
      · exact .inr (.inr ⟨by simpa using h, by simpa using h2⟩)

/-- What a number of seven bits a byte is read as: the number, what stands behind, the error (0: none; 10: too short; 12: not the form). -/
def tv (l : List UInt8) : Nat × List UInt8 × Nat :=
  let s := cont 10 l
  if s = 10 then (0, [], 12)
  else if l.length ≤ s then (0, [], 10)
  else if 0 < s ∧ (l.getD s 0).toNat = 0 ∨ s = 9 ∧ 1 < (l.getD s 0).toNat then (0, [], 12)
  else (val (l.take (s + 1)), l.drop (s + 1), 0)

/-- One round of the sum. -/
def st (c : Nat) : Nat := (c / 2) ^^^ (c % 2 * 3988292384)
def st8 (c : Nat) : Nat := st (st (st (st (st (st (st (st c)))))))
def crcF (c : Nat) (l : List UInt8) : Nat := l.foldl (fun c x => st8 (c ^^^ x.toNat)) c
def crc (l : List UInt8) : Nat := 4294967295 ^^^ crcF 4294967295 l

def stN : Nat → Nat → Nat
  | 0, c => c
  | k + 1, c => stN k (st c)
theorem stN_eight (c : Nat) : stN 8 c = st8 c := rfl
theorem st_lt (c : Nat) (h : c < 4294967296) : st c < 4294967296 := by
  unfold st
  refine Nat.xor_lt_two_pow (n := 32) (by omega) ?_
  have : c % 2 < 2 := Nat.mod_lt _ (by decide)
  omega
theorem st8_lt (c : Nat) (h : c < 4294967296) : st8 c < 4294967296 := by
  unfold st8
  repeat (apply st_lt)
  exact h
theorem xor_lt (c x : Nat) (h : c < 4294967296) (hx : x < 256) : c ^^^ x < 4294967296 := Nat.xor_lt_two_pow (n := 32) h (by omega)
theorem crcF_lt (l : List UInt8) : ∀ c, c < 4294967296 → crcF c l < 4294967296 := by
  induction l with
  | nil => intro c h; exact h
  | cons x l ih =>
    intro c h
    exact ih _ (st8_lt _ (xor_lt _ _ h x.toNat_lt))
theorem crc_lt (l : List UInt8) : crc l < 4294967296 := Nat.xor_lt_two_pow (n := 32) (by decide) (crcF_lt l _ (by decide))
theorem crcF_snoc (c : Nat) (l : List UInt8) (x : UInt8) : crcF c (l ++ [x]) = st8 (crcF c l ^^^ x.toNat) := by simp [crcF]

/-- A frame, and what is read out of one: the bytes, what stands behind, the error. -/
def frame (l : List UInt8) : List UInt8 := vi l.length ++ be 4 (crc l) ++ l
def part (l : List UInt8) (n : Nat) : List UInt8 × List UInt8 × Nat := if l.length < n then ([], [], 10) else (l.take n, l.drop n, 0)
def tf (l : List UInt8) : List UInt8 × List UInt8 × Nat :=
  let r := tv l
  if r.2.2 ≠ 0 then ([], [], r.2.2)
  else if r.2.1.length < 4 then ([], [], 10)
  else if (r.2.1.drop 4).length < r.1 then ([], [], 10)
  else if crc ((r.2.1.drop 4).take r.1) ≠ num (r.2.1.take 4) then ([], [], 11)
  else ((r.2.1.drop 4).take r.1, (r.2.1.drop 4).drop r.1, 0)

end Go.Proofs.YtedfjacmaidhkaaGreat.M

/- My own words for memory that name no type of the program. -/
namespace Go.Proofs.YtedfjacmaidhkaaGreat
open Go.RowKit
set_option linter.unusedVariables false

/-- The cells of a list of bytes. -/
def cel (l : List UInt8) : List Value := l.map fun x => Value.int .u8 (x.toNat : Int)
theorem cel_length (l : List UInt8) : (cel l).length = l.length := by simp [cel]
theorem cel_append (a b : List UInt8) : cel (a ++ b) = cel a ++ cel b := by simp [cel]
theorem cel_get (l : List UInt8) (i : Nat) (h : i < l.length) : (cel l)[i]? = some (.int .u8 (l[i].toNat : Int)) := by simp [cel, h]
theorem cel_one (l : List UInt8) : ∀ u ∈ cel l, u.oneCell' = true := by
  intro u hu
  obtain ⟨_, _, rfl⟩ := List.mem_map.1 hu
  rfl
/-- The slice value v reads as the bytes l. -/
def Rd (w : World) (v : Value) (l : List UInt8) : Prop :=
  ∃ ao c, v = .slice ao l.length c ∧ l.length ≤ c ∧ c ≤ maxLen ∧ (ao = none → c = 0) ∧ ∀ i, (h : i < l.length) → ∃ a, ao = some a ∧ w.cell? (a.add i) = some (.int .u8 (l[i].toNat : Int))
theorem Rd.two {w : World} {v : Value} {l : List UInt8} (h : Rd w v l) :
    (v = .slice none 0 0 ∧ l = []) ∨ ∃ a c, v = .slice (some a) l.length c ∧ l.length ≤ c ∧ c ≤ maxLen ∧ ∀ i, (h : i < l.length) → w.cell? (a.add i) = some (.int .u8 (l[i].toNat : Int)) := by
  obtain ⟨ao, c, hv, h1, h2, h3, h4⟩ := h
  cases ao with
  | none =>
    have hc := h3 rfl
    have hl : l = [] := List.length_eq_zero_iff.1 (by omega)
    subst hl; subst hc
    exact .inl ⟨hv, rfl⟩
  | some a =>
    refine .inr ⟨a, c, hv, h1, h2, fun i hi => ?_⟩
    obtain ⟨a', e, hc⟩ := h4 i hi
    obtain rfl := Option.some.inj e
    exact hc
theorem Rd.mk {w : World} {a : Addr} {n c : Nat} {l : List UInt8} (hn : n = l.length) (h1 : l.length ≤ c) (h2 : c ≤ maxLen) (h3 : ∀ i, (h : i < l.length) → w.cell? (a.add i) = some (.int .u8 (l[i].toNat : Int))) : Rd w (.slice (some a) n c) l :=
  ⟨some a, c, by rw [hn], h1, h2, (fun h => by cases h), fun i hi => ⟨a, rfl, h3 i hi⟩⟩
theorem Rd.nil (w : World) : Rd w (.slice none 0 0) [] := ⟨none, 0, rfl, by simp, by simp, fun _ => rfl, fun i hi => by simp at hi⟩
theorem add_zero (a : Addr) : a.add 0 = a := rfl
theorem map_add_zero (ao : Option Addr) : ao.map (fun a => a.add 0) = ao := by cases ao <;> rfl
/-- Two values that own no block together. -/
def Apart (v u : Value) : Prop := v.ownBlock = none ∨ v.ownBlock ≠ u.ownBlock
theorem Rd.len {w : World} {v : Value} {l : List UInt8} (h : Rd w v l) : l.length ≤ maxLen := by
  obtain ⟨ao, c, _, h1, h2, _⟩ := h
  omega
theorem add_block (a : Addr) (i : Nat) : (a.add i).block = a.block := by
  unfold Addr.add; split <;> rfl
theorem Rd.below {B : Nat} {w w' : World} {v : Value} {l : List UInt8} (h : Rd w v l) (hb : Below B w w') (hB : w.heap.size ≤ B) : Rd w' v l := by
  obtain ⟨ao, c, h0, h1, h2, h3, h4⟩ := h
  refine ⟨ao, c, h0, h1, h2, h3, fun i hi => ?_⟩
  obtain ⟨a, e, hc⟩ := h4 i hi
  have hlt := World.block_lt_of_cell? w _ hc
  exact ⟨a, e, by rw [hb.cell (by omega)]; exact hc⟩
/-- What two worlds with the same memory read is the same. -/
theorem Rd.drewN {w : World} {v : Value} {l : List UInt8} (h : Rd w v l) (n : Nat) : Rd (w.drewN n) v l := h.below (below_drewN (Below.refl _ _) n) (Nat.le_refl _)
theorem Rd.redrew {w : World} {n : Nat} {v : Value} {l : List UInt8} (h : Rd (w.drewN n) v l) (m : Nat) : Rd (w.drewN m) v l := h
theorem Rd.alloc {w : World} {v : Value} {l : List UInt8} (h : Rd w v l) (o : Obj) : Rd (w.alloc o) v l := h.below ((Below.refl _ _).alloc (Nat.le_refl _) o) (Nat.le_refl _)
/-- A piece of what is read: v[i:j]. -/
theorem Rd.piece {w : World} {ao : Option Addr} {n c : Nat} {l : List UInt8} (h : Rd w (.slice ao n c) l) (i j : Nat) (hij : i ≤ j) (hj : j ≤ l.length) (ao' : Option Addr)
    (ha : (c = i → ao' = ao) ∧ (¬ c = i → ao' = ao.map (fun a => a.add i))) : Rd w (.slice ao' (j - i) (c - i)) ((l.take j).drop i) := by
  obtain ⟨ao0, c0, e, h1, h2, h3, h4⟩ := h
  simp only [Value.slice.injEq] at e
  obtain ⟨rfl, rfl, rfl⟩ := e
  have hlen : ((l.take j).drop i).length = j - i := by simp; omega
  refine ⟨ao', c - i, by rw [hlen], by rw [hlen]; omega, by omega, fun hn => ?_, fun k hk => ?_⟩
  · by_cases hc : c = i
    · omega
    · rw [ha.2 hc] at hn
      have : ao = none := by cases ao <;> simp_all
      have := h3 this; omega
  · rw [hlen] at hk
    obtain ⟨a, rfl, hc⟩ := h4 (i + k) (by omega)
    have hne : ¬ c = i := by omega
    refine ⟨a.add i, by rw [ha.2 hne]; rfl, ?_⟩
    have e2 : (a.add i).add k = a.add (i + k) := by
      unfold Addr.add
      by_cases hi : i = 0
      · subst hi; simp
      · by_cases hk0 : k = 0
        · subst hk0; simp
        · simp only [hi, hk0, if_false]
          rw [if_neg (by omega)]
          simp
    rw [e2, hc]
    simp
theorem Rd.pre {w : World} {ao : Option Addr} {n c : Nat} {l : List UInt8} (h : Rd w (.slice ao n c) l) (j : Nat) (hj : j ≤ l.length) : Rd w (.slice ao j c) (l.take j) := by
  have := h.piece 0 j (Nat.zero_le _) hj ao ⟨fun _ => rfl, fun _ => (map_add_zero ao).symm⟩
  simpa using this
theorem Rd.post {w : World} {ao : Option Addr} {n c : Nat} {l : List UInt8} (h : Rd w (.slice ao n c) l) (i : Nat) (hi : i ≤ l.length) (ao' : Option Addr)
    (ha : (c = i → ao' = ao) ∧ (¬ c = i → ao' = ao.map (fun a => a.add i))) : Rd w (.slice ao' (l.length - i) (c - i)) (l.drop i) := by
  have := h.piece i l.length hi (Nat.le_refl _) ao' ha
  simpa using this
theorem Rd.cong {w : World} {x x' : Option Addr} {n n' c c' : Nat} {l : List UInt8} (h : Rd w (.slice x n c) l) (hx : x' = x) (hn : n' = n) (hc : c' = c) : Rd w (.slice x' n' c') l := by
  subst hx; subst hn; subst hc; exact h
theorem ret_int {k : IntKind} {a b : Int} (h : a = b) : Ending.returned (.int k a) = .returned (.int k b) := by rw [h]
theorem Below.tr {w w' w'' : World} (h : Below w.heap.size w w') (k : Below w'.heap.size w' w'') : Below w.heap.size w w'' := h.trans (k.mono h.size)
theorem Below.drN {B : Nat} {a w : World} (h : Below B a w) (n : Nat) : Below B a (w.drewN n) := below_drewN h n
/-- What is read in a slice of one new cell. -/
theorem rd_one (w : World) (z : Int) (b : UInt8) (hz : z = (b.toNat : Int)) (t : TypeId) : Rd (w.alloc (.cells #[.int .u8 z] t)) (.slice (some ⟨w.heap.size, 0, none⟩) 1 1) [b] := by
  refine Rd.mk rfl (by simp) (by simp [maxLen]) (fun i hi => ?_)
  obtain rfl : i = 0 := by simpa using hi
  rw [show (⟨w.heap.size, 0, none⟩ : Addr).add 0 = ⟨w.heap.size, 0, none⟩ from rfl, World.cell?_alloc_at _ _ _ _ rfl]
  subst hz
  rfl
end Go.Proofs.YtedfjacmaidhkaaGreat

/- My own words for memory, used by all walks of this seat: 'Rd w v l': the slice value v reads in the world w as the bytes l. Nothing of the program is named here. -/
namespace Go.Proofs.YtedfjacmaidhkaaGreat
open Go.RowKit
set_option linter.unusedVariables false

/-- A slice of the call's own, in new memory from block B on. -/
def Ow (B : Nat) (w : World) (v : Value) (l : List UInt8) : Prop := w.ownsRow B 5 1 v l.length (cel l)
theorem Ow.rd {B : Nat} {w : World} {v : Value} {l : List UInt8} (h : Ow B w v l) : Rd w v l := by
  have h' := h
  obtain ⟨_, h2⟩ := h
  rcases h2 with ⟨hv, h0⟩ | ⟨g, cap, cur, hv, hg, hh, hn, hcap, hsz, htake⟩
  · obtain rfl := List.length_eq_zero_iff.1 h0
    subst hv
    exact Rd.nil _
  · subst hv
    refine Rd.mk rfl hn hcap (fun i hi => ?_)
    rw [Addr.add_lit, Nat.zero_add]
    unfold Ow at h'
    rw [h'.cellAt i (by omega), cel_get l i hi]
theorem Ow.below {B C : Nat} {w w' : World} {v : Value} {l : List UInt8} (h : Ow B w v l) (hb : Below C w w') (hC : w.heap.size ≤ C) : Ow B w' v l := by
  obtain ⟨h1, h2⟩ := h
  refine ⟨h1, ?_⟩
  rcases h2 with h2 | ⟨g, cap, cur, hv, hg, hh, r⟩
  · exact .inl h2
  · refine .inr ⟨g, cap, cur, hv, hg, ?_, r⟩
    have hlt : g < w.heap.size := (Array.getElem?_eq_some_iff.1 hh).1
    rw [hb.block g (by omega)]; exact hh
theorem Ow.apart {B B' : Nat} {w w' : World} {v u : Value} {l m : List UInt8} (h : Ow B w v l) (k : Ow B' w' u m) (hB : w.heap.size ≤ B') : Apart v u := by
  by_cases e : v.ownBlock = none
  · exact .inl e
  · refine .inr fun e2 => ?_
    obtain ⟨b, hb⟩ := Option.ne_none_iff_exists'.1 e
    have h1 := (World.ownsRow.lt h b hb).2
    have h2 := (World.ownsRow.lt k b (by rw [← e2]; exact hb)).1
    omega
theorem Ow.mono {B B' : Nat} {w : World} {v : Value} {l : List UInt8} (h : Ow B w v l) (hB : B' ≤ B) : Ow B' w v l := by
  obtain ⟨h1, h2⟩ := h
  refine ⟨h1, ?_⟩
  rcases h2 with h2 | ⟨g, cap, cur, hv, hg, r⟩
  · exact .inl h2
  · exact .inr ⟨g, cap, cur, hv, by omega, r⟩
theorem Ow.alloc {B : Nat} {w : World} {v : Value} {l : List UInt8} (h : Ow B w v l) (o : Obj) : Ow B (w.alloc o) v l := World.ownsRow.alloc h o
theorem Ow.drew {B : Nat} {w : World} {v : Value} {l : List UInt8} (h : Ow B w v l) : Ow B w.drew v l := World.ownsRow.drew h
theorem Ow.nil (B : Nat) (w : World) : Ow B w (.slice none 0 0) [] := World.ownsRow_nil _ _ _ _
theorem Ow.lit0 (B : Nat) (w : World) (hB : B ≤ w.heap.size) : Ow B (w.alloc (.cells #[] 5)) (.slice (some ⟨w.heap.size, 0, none⟩) 0 0) [] := World.ownsRow_made w #[] 0 hB (by simp) rfl
theorem Tryz.cells5 : Tryz.prog.cellsOf 5 = 1 := by kernel_rfl
theorem Tryz.info5 : (Tryz.prog.info? 5).map (fun i => (i.zero, i.size, i.bytes)) = some (some (.int .u8 0), 1, 1) := by kernel_rfl
/-- 'append(out, x...)' of bytes, out the call's own. -/
theorem wpList_app {w : World} {ops : Array Oper} {rest : List Oper} {o : Oper} {a : Act} {Q : Exit → Act → World → Prop} (hgd : o.guard = none) (s x : Operand)
    (ho : o.op = .call { callee := .builtin .append, args := #[s, x], argTypes := #[35, 35] })
    (B : Nat) (v : Value) (l : List UInt8) (hs : a.eval s = v) (hown : Ow B w v l) (vx : Value) (m : List UInt8) (hx : a.eval x = vx) (hm : Rd w vx m)
    (hB : B ≤ w.heap.size) (hlen : l.length + m.length ≤ 140737488355328)
    (h : ∀ v' w', Ow B w' v' (l ++ m) → Below B w w' → w.grownBy w' v.ownBlock → wpList Tryz.prog ops Q rest (a.put o.dst v') w') : wpList Tryz.prog ops Q (o :: rest) a w := by
  obtain ⟨i, hi, hz0, hz1, hz2⟩ := info_parts Tryz.info5
  have hbel : ∀ {w'}, w.grownBy w' v.ownBlock → Below B w w' := fun hg => (Below.refl B w).grown hg hB (fun k hk => (hown.lt k hk).1)
  rcases hm.two with ⟨rfl, rfl⟩ | ⟨ad, c, rfl, h1, h2, h3⟩
  · refine wpList_append_own_none hgd s x 35 ho B 5 i 1 Tryz.underlying35 hi _ _ _ hs hown hx ?_
    exact h v w (by simpa using hown) (Below.refl _ _) (World.grownBy.refl _ _)
  · refine wpList_append_own w hgd s x 35 ho B 5 i _ 1 1 Tryz.underlying35 hi hz0 hz1 hz2 rfl (by decide) v l.length (cel l) hs hown ad m.length c (cel m) hx (by simp [cel_length]) ?_ (cel_one m) (by unfold maxLen; omega) (by omega) hB ?_
    · intro j u hu
      have hj : j < m.length := by have := (List.getElem?_eq_some_iff.1 hu).1; simpa [cel_length] using this
      rw [h3 j hj]; rw [cel_get m j hj] at hu; exact hu
    · intro v' w' ho' hg' _
      refine h v' w' ?_ (hbel hg') hg'
      unfold Ow; rw [cel_append, List.length_append]; exact ho'
end Go.Proofs.YtedfjacmaidhkaaGreat

/- One element appended to a slice of the call's own: as the library's law says it, and besides: the row stays in its block or goes to a new one. -/
namespace Go.Proofs.YtedfjacmaidhkaaGreat
open Go.RowKit
set_option linter.unusedVariables false

theorem run_app1 {P : Program} (w : World) (base : Nat) (t ty e : TypeId) (z : Value) (bytes : Nat) (ht : P.underlying t = some (.slice e)) (hinf : (P.info? e).map (fun i => (i.zero, i.size, i.bytes)) = some (some z, 1, bytes)) (hzs : z.cells.size = 1)
    (v : Value) (n : Nat) (xs : List Value) (hown : w.ownsRow base e 1 v n xs) (a : Addr) (c : Nat) (u : Value) (hu : w.cell? a = some u) (h1 : u.oneCell' = true)
    (h63 : n + 1 ≤ maxLen) (hb : (n + 1) * bytes ≤ 140737488355328) (hbase : base ≤ w.heap.size) :
    ∃ v' w', (Builtin.append_ #[t, t] ty #[v, .slice (some a) 1 c]).run P w = .ok v' w' ∧ w'.ownsRow base e 1 v' (n + 1) (xs ++ [u]) ∧ w.grownBy w' v.ownBlock ∧ (v'.ownBlock = v.ownBlock ∨ v'.ownBlock = some w.heap.size) := by
  obtain ⟨i, hi, hz0, hz1, hz2⟩ := info_parts hinf
  have hnews : ∀ j x, [u][j]? = some x → w.cell? (a.add j) = some x := by
    intro j x hx
    cases j with
    | zero => simp at hx; subst hx; exact hu
    | succ j => simp at hx
  have hone : ∀ x ∈ [u], x.oneCell' = true := by intro x hx; simp at hx; subst hx; exact h1
  obtain ⟨v', w', hr, ho, hg, _⟩ := run_append_own (P := P) w base t ty e i z 1 bytes ht hi hz0 hz1 hz2 hzs (by decide) v n xs hown a 1 c [u] rfl hnews hone h63 hb hbase
  refine ⟨v', w', hr, ho, hg, ?_⟩
  have hlen : [u].length = 1 * i.size := by rw [hz1]; rfl
  have hm : n + 1 ≤ 9223372036854775807 := by unfold maxLen at h63; omega
  rcases hown.2 with ⟨rfl, rfl⟩ | ⟨g, cap, cur, rfl, hbg, hh, hnc, hcm, hcs, htake⟩
  · have hr2 := run_append_nil (P := P) w t ty e i z ht hi hz0 a 1 c [u] hlen hnews (by decide) (by omega) (by rw [hz2]; omega)
    rw [hr2] at hr
    simp only [Result.ok.injEq] at hr
    right; rw [← hr.1]; rfl
  · by_cases hroom : n + 1 ≤ cap
    · have hr2 := run_append_room (P := P) w t ty e i ht hi g n cap cur hh a 1 c [u] hlen hnews hone hroom (by rw [hz1, List.length_singleton]; omega)
      rw [hr2] at hr
      simp only [Result.ok.injEq] at hr
      left; rw [← hr.1]; rfl
    · have holds : ∀ j x, xs[j]? = some x → w.cell? ((⟨g, 0, none⟩ : Addr).add j) = some x := hown.cells (g := g) rfl
      have hr2 := run_append_grow (P := P) w t ty e i z ht hi hz0 ⟨g, 0, none⟩ n cap xs (by rw [hz1]; exact hown.1) holds a 1 c [u] hlen hnews (by omega) (by omega) (by rw [hz2]; exact growslice_fits (by omega) hb)
      rw [hr2] at hr
      simp only [Result.ok.injEq] at hr
      right; rw [← hr.1]; rfl

theorem wpList_app1 {P : Program} {w : World} {ops : Array Oper} {rest : List Oper} {o : Oper} {a : Act} {Q : Exit → Act → World → Prop} (hgd : o.guard = none) (s x : Operand) (t : TypeId)
    (ho : o.op = .call { callee := .builtin .append, args := #[s, x], argTypes := #[t, t] })
    (base : Nat) (e : TypeId) (z : Value) (bytes : Nat) (ht : P.underlying t = some (.slice e)) (hinf : (P.info? e).map (fun i => (i.zero, i.size, i.bytes)) = some (some z, 1, bytes)) (hzs : z.cells.size = 1)
    (v : Value) (n : Nat) (xs : List Value) (hs : a.eval s = v) (hown : w.ownsRow base e 1 v n xs) (ad : Addr) (c : Nat) (u : Value) (hx : a.eval x = .slice (some ad) 1 c) (hu : w.cell? ad = some u) (h1 : u.oneCell' = true)
    (h63 : n + 1 ≤ maxLen) (hb : (n + 1) * bytes ≤ 140737488355328) (hbase : base ≤ w.heap.size)
    (h : ∀ v' w', w'.ownsRow base e 1 v' (n + 1) (xs ++ [u]) → w.grownBy w' v.ownBlock → (v'.ownBlock = v.ownBlock ∨ v'.ownBlock = some w.heap.size) → wpList P ops Q rest (a.put o.dst v') w') : wpList P ops Q (o :: rest) a w := by
  refine wpList_plain hgd fun K hK => ?_
  obtain ⟨v', w', hr, h2, h3, h4⟩ := run_app1 (P := P) w base t o.type e z bytes ht hinf hzs v n xs hown ad c u hu h1 h63 hb hbase
  unfold Oper.wp execOp
  simp only [ho, resolve, invoke, builtin, Sem.run_bind, Sem.run_pure, Result.andThen_ok, List.map_toArray, List.map_cons, List.map_nil, hs, hx, hr]
  exact hK _ _ (h v' w' h2 h3 h4)
end Go.Proofs.YtedfjacmaidhkaaGreat

/- Elements appended to a row of the call's own: the row stays in its block or goes to a new one. -/
namespace Go.Proofs.YtedfjacmaidhkaaGreat
open Go.RowKit
set_option linter.unusedVariables false

theorem run_appN {P : Program} (w : World) (base : Nat) (t ty e : TypeId) (z : Value) (bytes : Nat) (ht : P.underlying t = some (.slice e)) (hinf : (P.info? e).map (fun i => (i.zero, i.size, i.bytes)) = some (some z, 1, bytes)) (hzs : z.cells.size = 1)
    (v : Value) (n : Nat) (xs : List Value) (hown : w.ownsRow base e 1 v n xs) (a : Addr) (m c : Nat) (news : List Value) (hnl : news.length = m) (hnews : ∀ j u, news[j]? = some u → w.cell? (a.add j) = some u) (hone : ∀ u ∈ news, u.oneCell' = true)
    (h63 : n + m ≤ maxLen) (hb : (n + m) * bytes ≤ 140737488355328) (hbase : base ≤ w.heap.size) :
    ∃ v' w', (Builtin.append_ #[t, t] ty #[v, .slice (some a) m c]).run P w = .ok v' w' ∧ w'.ownsRow base e 1 v' (n + m) (xs ++ news) ∧ w.grownBy w' v.ownBlock ∧ (v'.ownBlock = v.ownBlock ∨ v'.ownBlock = some w.heap.size) := by
  obtain ⟨i, hi, hz0, hz1, hz2⟩ := info_parts hinf
  obtain ⟨v', w', hr, ho, hg, hnil⟩ := run_append_own (P := P) w base t ty e i z 1 bytes ht hi hz0 hz1 hz2 hzs (by decide) v n xs hown a m c news (by rw [hnl, Nat.mul_one]) hnews hone h63 hb hbase
  refine ⟨v', w', hr, ho, hg, ?_⟩
  have hlen : news.length = m * i.size := by rw [hz1, Nat.mul_one]; exact hnl
  have hm : n + m ≤ 9223372036854775807 := by unfold maxLen at h63; omega
  rcases hown.2 with ⟨rfl, rfl⟩ | ⟨g, cap, cur, rfl, hbg, hh, hnc, hcm, hcs, htake⟩
  · by_cases h0 : m = 0
    · left; rw [hnil.2 ⟨rfl, h0⟩]
    · have hr2 := run_append_nil (P := P) w t ty e i z ht hi hz0 a m c news hlen hnews (by omega) (by omega) (by rw [hz2]; simp only [Nat.zero_add] at hb; omega)
      rw [hr2] at hr
      simp only [Result.ok.injEq] at hr
      right; rw [← hr.1]; rfl
  · by_cases hroom : n + m ≤ cap
    · have hr2 := run_append_room (P := P) w t ty e i ht hi g n cap cur hh a m c news hlen hnews hone hroom (by rw [hz1, hnl]; omega)
      rw [hr2] at hr
      simp only [Result.ok.injEq] at hr
      left; rw [← hr.1]; rfl
    · have holds : ∀ j x, xs[j]? = some x → w.cell? ((⟨g, 0, none⟩ : Addr).add j) = some x := hown.cells (g := g) rfl
      have hr2 := run_append_grow (P := P) w t ty e i z ht hi hz0 ⟨g, 0, none⟩ n cap xs (by rw [hz1]; exact hown.1) holds a m c news hlen hnews (by omega) (by omega) (by rw [hz2]; exact growslice_fits (by omega) hb)
      rw [hr2] at hr
      simp only [Result.ok.injEq] at hr
      right; rw [← hr.1]; rfl
end Go.Proofs.YtedfjacmaidhkaaGreat

/- Elements of any width appended to a row of the call's own: as the library's law says it, and besides: the row stays in its block or goes to a new one. -/
namespace Go.Proofs.YtedfjacmaidhkaaGreat
open Go.RowKit
set_option linter.unusedVariables false

theorem run_appW {P : Program} (w : World) (base : Nat) (t ty e : TypeId) (z : Value) (size bytes : Nat) (ht : P.underlying t = some (.slice e)) (hinf : (P.info? e).map (fun i => (i.zero, i.size, i.bytes)) = some (some z, size, bytes)) (hzs : z.cells.size = size) (hs0 : 0 < size)
    (v : Value) (n : Nat) (xs : List Value) (hown : w.ownsRow base e size v n xs) (a : Addr) (m c : Nat) (news : List Value) (hnl : news.length = m * size) (hnews : ∀ j u, news[j]? = some u → w.cell? (a.add j) = some u) (hone : ∀ u ∈ news, u.oneCell' = true)
    (h63 : n + m ≤ maxLen) (hb : (n + m) * bytes ≤ 140737488355328) (hbase : base ≤ w.heap.size) :
    ∃ v' w', (Builtin.append_ #[t, t] ty #[v, .slice (some a) m c]).run P w = .ok v' w' ∧ w'.ownsRow base e size v' (n + m) (xs ++ news) ∧ w.grownBy w' v.ownBlock ∧ (v'.ownBlock = v.ownBlock ∨ v'.ownBlock = some w.heap.size) := by
  obtain ⟨i, hi, hz0, hz1, hz2⟩ := info_parts hinf
  obtain ⟨v', w', hr, ho, hg, hnil⟩ := run_append_own (P := P) w base t ty e i z size bytes ht hi hz0 hz1 hz2 hzs hs0 v n xs hown a m c news hnl hnews hone h63 hb hbase
  refine ⟨v', w', hr, ho, hg, ?_⟩
  have hlen : news.length = m * i.size := by rw [hz1]; exact hnl
  have hm : n + m ≤ 9223372036854775807 := by unfold maxLen at h63; omega
  rcases hown.2 with ⟨rfl, rfl⟩ | ⟨g, cap, cur, rfl, hbg, hh, hnc, hcm, hcs, htake⟩
  · by_cases h0 : m = 0
    · left; rw [hnil.2 ⟨rfl, h0⟩]
    · have hr2 := run_append_nil (P := P) w t ty e i z ht hi hz0 a m c news hlen hnews (by omega) (by omega) (by rw [hz2]; simp only [Nat.zero_add] at hb; omega)
      rw [hr2] at hr
      simp only [Result.ok.injEq] at hr
      right; rw [← hr.1]; rfl
  · by_cases hroom : n + m ≤ cap
    · have hfit : n * i.size + news.length ≤ cur.size := by rw [hcs, hz1, hnl, ← Nat.add_mul]; exact Nat.mul_le_mul_right _ hroom
      have hr2 := run_append_room (P := P) w t ty e i ht hi g n cap cur hh a m c news hlen hnews hone hroom hfit
      rw [hr2] at hr
      simp only [Result.ok.injEq] at hr
      left; rw [← hr.1]; rfl
    · have holds : ∀ j x, xs[j]? = some x → w.cell? ((⟨g, 0, none⟩ : Addr).add j) = some x := hown.cells (g := g) rfl
      have hr2 := run_append_grow (P := P) w t ty e i z ht hi hz0 ⟨g, 0, none⟩ n cap xs (by rw [hz1]; exact hown.1) holds a m c news hlen hnews (by omega) (by omega) (by rw [hz2]; exact growslice_fits (by omega) hb)
      rw [hr2] at hr
      simp only [Result.ok.injEq] at hr
      right; rw [← hr.1]; rfl
end Go.Proofs.YtedfjacmaidhkaaGreat

/- What bytes.Equal answers of two slices of bytes. -/
namespace Go.Proofs.YtedfjacmaidhkaaGreat
open Go.RowKit
set_option linter.unusedVariables false
set_option maxRecDepth 100000

theorem fold_bytes (l : List UInt8) (s : ByteArray) : (l.map (fun x => (x.toNat : Int))).foldl (fun r n => r.push (UInt8.ofNat n.toNat)) s = ⟨s.data ++ l.toArray⟩ := by
  induction l generalizing s with
  | nil => simp
  | cons x l ih =>
    rw [List.map_cons, List.foldl_cons, ih]
    apply ByteArray.ext
    simp [ByteArray.push]
theorem run_convL {P : Program} {w : World} {v : Value} {l : List UInt8} (h : Rd w v l) (src e dst : TypeId) (hs : P.underlying src = some (.slice e)) (he : P.underlying e = some (.int .u8)) (hd : P.underlying dst = some .string) : (convert src dst v).run P w = .ok (.string ⟨l.toArray⟩) w := by
  rcases h.two with ⟨rfl, rfl⟩ | ⟨a, c, rfl, h1, h2, h3⟩
  · rw [run_convert_bytes_nil w src e hs he 0 0 dst hd]; rfl
  · rw [run_convert_bytes_string w src dst e _ _ _ hs he hd, run_bytesToString w a l.length c (l.map (fun x => (x.toNat : Int))), fold_bytes]
    · congr 2
      apply ByteArray.ext
      show (#[] : Array UInt8) ++ l.toArray = l.toArray
      simp
    · rw [run_loadCells w a l.length (fun j => .int .u8 ((l[j]?.getD 0).toNat : Int)) (fun j hj => by rw [h3 j hj]; simp [hj])]
      congr 1
      apply Array.ext'
      apply List.ext_getElem?
      intro j
      by_cases hj : j < l.length <;> simp [hj]
theorem bequal_any {va vb : Value} {la lb : List UInt8} {w : World} (ha : Rd w va la) (hb : Rd w vb lb) :
    Calls Tryz.prog 51 #[va, vb] w fun e w' => e = .returned (.bool (decide (la = lb))) ∧ w' = w := by
  have h1 := run_convL (P := Tryz.prog) ha 35 5 9 (by kernel_rfl) (by kernel_rfl) (by kernel_rfl)
  have h2 := run_convL (P := Tryz.prog) hb 35 5 9 (by kernel_rfl) (by kernel_rfl) (by kernel_rfl)
  have h3 : (la == lb) = decide (la = lb) := by
    by_cases e : la = lb
    · subst e; simp
    · rw [decide_eq_false e]; simp [e]
  have HB : Hid _ := h3
  clear h3
  obtain ⟨ao, ca, rfl, _⟩ := ha
  obtain ⟨bo, cb, rfl, _⟩ := hb
  go_enter Tryz.func51, Tryz.ntmps51
  go_wp2_with fail
  go_ret
  refine ⟨?_, rfl⟩
  show Ending.returned (.bool (la == lb)) = _
  rw [HB.out]
end Go.Proofs.YtedfjacmaidhkaaGreat

/- What draws leave. -/
namespace Go.Proofs.YtedfjacmaidhkaaGreat
open Go.RowKit
set_option linter.unusedVariables false
set_option maxRecDepth 100000

theorem Below.dN (w : World) (n : Nat) : Below w.heap.size w (w.drewN n) := below_drewN (Below.refl _ _) n
end Go.Proofs.YtedfjacmaidhkaaGreat

/- What the bound on an input's bulk gives: a bound on lengths. -/
namespace Go.Proofs.YtedfjacmaidhkaaGreat
open Go.ChangeShapes Go.WideShapes Go.ChangeAt Go.RowKit

theorem bulk_pos {H : Type} (d : DataW H) : 1 ≤ Rows.uptoBulk d := by
  cases d with
  | lit x => cases x <;> simp [Rows.uptoBulk]
  | nil => simp [Rows.uptoBulk]
  | ptr d => simp [Rows.uptoBulk]
  | slice a b => simp [Rows.uptoBulk]
  | agg a => simp [Rows.uptoBulk]
  | iface t d => simp [Rows.uptoBulk]
  | map a => simp [Rows.uptoBulk]
  | held h => simp [Rows.uptoBulk]
theorem bulk_ge {H : Type} (ds : List (DataW H)) : ds.length ≤ Rows.uptoBulkAll ds := by
  induction ds with
  | nil => simp [Rows.uptoBulkAll]
  | cons d ds ih =>
    have := bulk_pos d
    simp only [Rows.uptoBulkAll, List.length_cons]
    omega
end Go.Proofs.YtedfjacmaidhkaaGreat

/- What has turned between two worlds. -/
namespace Go.Proofs.YtedfjacmaidhkaaGreat
open Go.RowKit
set_option linter.unusedVariables false
set_option maxRecDepth 100000

theorem grown_set0 (w : World) (g i : Nat) (u : Value) : w.grownBy (w.setCell ⟨g, i, none⟩ u) (some g) :=
  ⟨rfl, rfl, rfl, by simp, fun k _ hk => heap_setCell_other w ⟨g, i, none⟩ k u (fun e => hk (by simp [e]))⟩
/-- Of what was there only blocks of S have turned. -/
structure Chg (S : Nat → Prop) (w w' : World) : Prop where
  os : w'.os = w.os
  tape : w'.tape = w.tape
  output : w'.output = w.output
  size : w.heap.size ≤ w'.heap.size
  block : ∀ b, b < w.heap.size → ¬ S b → w'.heap[b]? = w.heap[b]?
theorem Chg.of_grown {S : Nat → Prop} {w w' : World} {r : Option Nat} (h : w.grownBy w' r) (hr : ∀ b, r = some b → b < w.heap.size → S b) : Chg S w w' :=
  ⟨h.os, h.tape, h.output, h.size, fun b hb hs => h.block b hb (fun e => hs (hr b e.symm hb))⟩
theorem Chg.trans {S : Nat → Prop} {w w' w'' : World} (h : Chg S w w') (k : Chg (fun b => S b ∨ w.heap.size ≤ b) w' w'') : Chg S w w'' :=
  ⟨k.os.trans h.os, k.tape.trans h.tape, k.output.trans h.output, Nat.le_trans h.size k.size, fun b hb hs => (k.block b (Nat.lt_of_lt_of_le hb h.size) (by rintro (e | e); exact hs e; omega)).trans (h.block b hb hs)⟩
theorem Chg.below {S : Nat → Prop} {B : Nat} {w w' : World} (h : Chg S w w') (hS : ∀ b, S b → B ≤ b) (hB : B ≤ w.heap.size) : Below B w w' :=
  ⟨h.os, h.tape, h.output, h.size, fun b hb => h.block b (by omega) (fun e => by have := hS b e; omega)⟩
theorem Chg.mono {S S' : Nat → Prop} {w w' : World} (h : Chg S w w') (hS : ∀ b, b < w.heap.size → S b → S' b) : Chg S' w w' := ⟨h.os, h.tape, h.output, h.size, fun b hb hs => h.block b hb (fun e => hs (hS b hb e))⟩
theorem Rd.keptC {S : Nat → Prop} {w w' : World} {v : Value} {l : List UInt8} (h : Rd w v l) (hg : Chg S w w') (hne : ∀ b, v.ownBlock = some b → ¬ S b) : Rd w' v l := by
  obtain ⟨ao, c, rfl, h1, h2, h3, h4⟩ := h
  refine ⟨ao, c, rfl, h1, h2, h3, fun i hi => ?_⟩
  obtain ⟨a, rfl, hc⟩ := h4 i hi
  have hlt := World.block_lt_of_cell? w _ hc
  rw [add_block] at hlt
  refine ⟨a, rfl, ?_⟩
  rw [World.cell?_of_block (w := w) (by rw [add_block]; exact hg.block a.block hlt (hne a.block rfl))]
  exact hc
theorem ownsRow_keptC {S : Nat → Prop} {w w' : World} {B : Nat} {e : TypeId} {size n : Nat} {v : Value} {xs : List Value} (h : w.ownsRow B e size v n xs) (hg : Chg S w w') (hne : ∀ b, v.ownBlock = some b → ¬ S b) : w'.ownsRow B e size v n xs := by
  refine ⟨h.1, ?_⟩
  rcases h.2 with h2 | ⟨g, cap, cur, rfl, hb, hh, r⟩
  · exact .inl h2
  · exact .inr ⟨g, cap, cur, rfl, hb, by rw [hg.block g (Array.getElem?_eq_some_iff.1 hh).1 (hne g rfl)]; exact hh, r⟩
theorem Chg.alloc {S : Nat → Prop} {w w' : World} (h : Chg S w w') (o : Obj) : Chg S w (w'.alloc o) :=
  h.trans ⟨rfl, rfl, rfl, by simp, fun b hb _ => Below.heap_alloc _ _ _ hb⟩
theorem Chg.put {S : Nat → Prop} {w w' : World} (h : Chg S w w') (g i : Nat) (u : Value) (hg : S g) : Chg S w (w'.setCell ⟨g, i, none⟩ u) :=
  h.trans (Chg.of_grown (grown_set0 w' g i u) (fun b e _ => by obtain rfl := Option.some.inj e; exact .inl hg))
theorem Chg.refl (S : Nat → Prop) (w : World) : Chg S w w := ⟨rfl, rfl, rfl, Nat.le_refl _, fun _ _ _ => rfl⟩
theorem Chg.of_below {B : Nat} {w w' : World} (h : Below B w w') : Chg (fun b => B ≤ b) w w' := ⟨h.os, h.tape, h.output, h.size, fun b hb hs => h.block b (by omega)⟩
end Go.Proofs.YtedfjacmaidhkaaGreat

/- A word for what a call turns: of what was there only blocks of S. Nothing of the program is named here. -/
namespace Go.Proofs.YtedfjacmaidhkaaGreat
open Go.RowKit
set_option linter.unusedVariables false
set_option maxRecDepth 100000

theorem Ow.keptC {S : Nat → Prop} {w w' : World} {B : Nat} {v : Value} {l : List UInt8} (h : Ow B w v l) (hg : Chg S w w') (hne : ∀ b, v.ownBlock = some b → ¬ S b) : Ow B w' v l := ownsRow_keptC h hg hne
end Go.Proofs.YtedfjacmaidhkaaGreat

/- cmp.Compare at int. -/
namespace Go.Proofs.YtedfjacmaidhkaaGreat
open Go.RowKit
set_option linter.unusedVariables false
set_option maxRecDepth 100000

def cmpI (x y : Int) : Int := if x < y then -1 else if y < x then 1 else 0
theorem isNaNI_any (x : Int) (w : World) : Calls Tryz.prog 108 #[.int .i64 x] w fun e w' => e = .returned (.bool false) ∧ w' = w := by
  go_enter Tryz.func108, Tryz.ntmps108
  go_wp2_with fail
  go_ret
  exact ⟨by simp, rfl⟩
theorem compareI_any (a b : Int) (w : World) : Calls Tryz.prog 100 #[.int .i64 a, .int .i64 b] w fun e w' => e = .returned (.int .i64 (cmpI a b)) ∧ w' = w := by
  have h0 := fun z W => isNaNI_any z W
  have hc : cmpI a b = if a < b then -1 else if b < a then 1 else 0 := rfl
  generalize cmpI a b = r at *
  have HC : Hid _ := hc
  clear hc
  go_enter Tryz.func100, Tryz.ntmps100
  go_wp2_with fail
  refine (h0 _ _).mono ?_
  rintro e w1 ⟨rfl, rfl⟩
  go_wp2_with fail
  refine (h0 _ _).mono ?_
  rintro e w1 ⟨rfl, rfl⟩
  by_cases h1 : a < b
  · have HR : Hid (r = -1) := by show _ = _; rw [HC.out, if_pos h1]
    go_wp2_with fail
    go_ret
    exact ⟨by rw [HR.out]; rfl, rfl⟩
  · by_cases h2 : b < a
    · have HR : Hid (r = 1) := by show _ = _; rw [HC.out, if_neg h1, if_pos h2]
      go_wp2_with fail
      go_ret
      exact ⟨by rw [HR.out]; rfl, rfl⟩
    · have HR : Hid (r = 0) := by show _ = _; rw [HC.out, if_neg h1, if_neg h2]
      go_wp2_with fail
      go_ret
      exact ⟨by rw [HR.out]; rfl, rfl⟩
end Go.Proofs.YtedfjacmaidhkaaGreat
