/- My own words for memory that name no type of the program. -/
import Derived.Test.YtefhinopppdjbaaGreatRows
import Derived.WalkKit
import Derived.WalkSpells
import Derived.WalkLawsBesides
import Derived.BigQuiet
import Derived.Deep.QuietTactic
import Derived.Laws.AppendOwnNone
import Derived.Test.YtefhinopppdjbaaGreatG1
namespace Go.Proofs.YtefhinopppdjbaaGreat
open Go.RowKit
set_option linter.unusedVariables false

/-- The cells of a list of bytes. -/
def cel (l : List UInt8) : List Value := l.map fun x => Value.int .u8 (x.toNat : Int)
theorem cel_length (l : List UInt8) : (cel l).length = l.length := by simp [cel]
theorem cel_append (a b : List UInt8) : cel (a ++ b) = cel a ++ cel b := by simp [cel]
theorem cel_get (l : List UInt8) (i : Nat) (h : i < l.length) : (cel l)[i]? = some (.int .u8 (l[i].toNat : Int)) := by simp [cel, h]
theorem cel_one (l : List UInt8) : ∀ u ∈ cel l, u.oneCell' = true := by
  intro u hu
  obtain ⟨_, _, rfl⟩ := List.mem_map.1 hu
  rfl
/-- The slice value v reads as the bytes l. -/
def Rd (w : World) (v : Value) (l : List UInt8) : Prop :=
  ∃ ao c, v = .slice ao l.length c ∧ l.length ≤ c ∧ c ≤ maxLen ∧ (ao = none → c = 0) ∧ ∀ i, (h : i < l.length) → ∃ a, ao = some a ∧ w.cell? (a.add i) = some (.int .u8 (l[i].toNat : Int))
theorem Rd.two {w : World} {v : Value} {l : List UInt8} (h : Rd w v l) :
    (v = .slice none 0 0 ∧ l = []) ∨ ∃ a c, v = .slice (some a) l.length c ∧ l.length ≤ c ∧ c ≤ maxLen ∧ ∀ i, (h : i < l.length) → w.cell? (a.add i) = some (.int .u8 (l[i].toNat : Int)) := by
  obtain ⟨ao, c, hv, h1, h2, h3, h4⟩ := h
  cases ao with
  | none =>
    have hc := h3 rfl
    have hl : l = [] := List.length_eq_zero_iff.1 (by omega)
    subst hl; subst hc
    exact .inl ⟨hv, rfl⟩
  | some a =>
    refine .inr ⟨a, c, hv, h1, h2, fun i hi => ?_⟩
    obtain ⟨a', e, hc⟩ := h4 i hi
    obtain rfl := Option.some.inj e
    exact hc
theorem Rd.mk {w : World} {a : Addr} {n c : Nat} {l : List UInt8} (hn : n = l.length) (h1 : l.length ≤ c) (h2 : c ≤ maxLen) (h3 : ∀ i, (h : i < l.length) → w.cell? (a.add i) = some (.int .u8 (l[i].toNat : Int))) : Rd w (.slice (some a) n c) l :=
  ⟨some a, c, by rw [hn], h1, h2, (fun h => by cases h), fun i hi => ⟨a, rfl, h3 i hi⟩⟩
theorem Rd.nil (w : World) : Rd w (.slice none 0 0) [] := ⟨none, 0, rfl, by simp, by simp, fun _ => rfl, fun i hi => by simp at hi⟩
theorem add_zero (a : Addr) : a.add 0 = a := rfl
theorem map_add_zero (ao : Option Addr) : ao.map (fun a => a.add 0) = ao := by cases ao <;> rfl
/-- Two values that own no block together. -/
def Apart (v u : Value) : Prop := v.ownBlock = none ∨ v.ownBlock ≠ u.ownBlock
theorem Rd.len {w : World} {v : Value} {l : List UInt8} (h : Rd w v l) : l.length ≤ maxLen := by
  obtain ⟨ao, c, _, h1, h2, _⟩ := h
  omega
theorem add_block (a : Addr) (i : Nat) : (a.add i).block = a.block := by
  unfold Addr.add; split <;> rfl
theorem Rd.below {B : Nat} {w w' : World} {v : Value} {l : List UInt8} (h : Rd w v l) (hb : Below B w w') (hB : w.heap.size ≤ B) : Rd w' v l := by
  obtain ⟨ao, c, h0, h1, h2, h3, h4⟩ := h
  refine ⟨ao, c, h0, h1, h2, h3, fun i hi => ?_⟩
  obtain ⟨a, e, hc⟩ := h4 i hi
  have hlt := World.block_lt_of_cell? w _ hc
  exact ⟨a, e, by rw [hb.cell (by omega)]; exact hc⟩
/-- What two worlds with the same memory read is the same. -/
theorem Rd.drewN {w : World} {v : Value} {l : List UInt8} (h : Rd w v l) (n : Nat) : Rd (w.drewN n) v l := h.below (below_drewN (Below.refl _ _) n) (Nat.le_refl _)
theorem Rd.redrew {w : World} {n : Nat} {v : Value} {l : List UInt8} (h : Rd (w.drewN n) v l) (m : Nat) : Rd (w.drewN m) v l := h
theorem Rd.alloc {w : World} {v : Value} {l : List UInt8} (h : Rd w v l) (o : Obj) : Rd (w.alloc o) v l := h.below ((Below.refl _ _).alloc (Nat.le_refl _) o) (Nat.le_refl _)
/-- A piece of what is read: v[i:j]. -/
theorem Rd.piece {w : World} {ao : Option Addr} {n c : Nat} {l : List UInt8} (h : Rd w (.slice ao n c) l) (i j : Nat) (hij : i ≤ j) (hj : j ≤ l.length) (ao' : Option Addr)
    (ha : (c = i → ao' = ao) ∧ (¬ c = i → ao' = ao.map (fun a => a.add i))) : Rd w (.slice ao' (j - i) (c - i)) ((l.take j).drop i) := by
  obtain ⟨ao0, c0, e, h1, h2, h3, h4⟩ := h
  simp only [Value.slice.injEq] at e
  obtain ⟨rfl, rfl, rfl⟩ := e
  have hlen : ((l.take j).drop i).length = j - i := by simp; omega
  refine ⟨ao', c - i, by rw [hlen], by rw [hlen]; omega, by omega, fun hn => ?_, fun k hk => ?_⟩
  · by_cases hc : c = i
    · omega
    · rw [ha.2 hc] at hn
      have : ao = none := by cases ao <;> simp_all
      have := h3 this; omega
  · rw [hlen] at hk
    obtain ⟨a, rfl, hc⟩ := h4 (i + k) (by omega)
    have hne : ¬ c = i := by omega
    refine ⟨a.add i, by rw [ha.2 hne]; rfl, ?_⟩
    have e2 : (a.add i).add k = a.add (i + k) := by
      unfold Addr.add
      by_cases hi : i = 0
      · subst hi; simp
      · by_cases hk0 : k = 0
        · subst hk0; simp
        · simp only [hi, hk0, if_false]
          rw [if_neg (by omega)]
          simp
    rw [e2, hc]
    simp
theorem Rd.pre {w : World} {ao : Option Addr} {n c : Nat} {l : List UInt8} (h : Rd w (.slice ao n c) l) (j : Nat) (hj : j ≤ l.length) : Rd w (.slice ao j c) (l.take j) := by
  have := h.piece 0 j (Nat.zero_le _) hj ao ⟨fun _ => rfl, fun _ => (map_add_zero ao).symm⟩
  simpa using this
theorem Rd.post {w : World} {ao : Option Addr} {n c : Nat} {l : List UInt8} (h : Rd w (.slice ao n c) l) (i : Nat) (hi : i ≤ l.length) (ao' : Option Addr)
    (ha : (c = i → ao' = ao) ∧ (¬ c = i → ao' = ao.map (fun a => a.add i))) : Rd w (.slice ao' (l.length - i) (c - i)) (l.drop i) := by
  have := h.piece i l.length hi (Nat.le_refl _) ao' ha
  simpa using this
theorem Rd.cong {w : World} {x x' : Option Addr} {n n' c c' : Nat} {l : List UInt8} (h : Rd w (.slice x n c) l) (hx : x' = x) (hn : n' = n) (hc : c' = c) : Rd w (.slice x' n' c') l := by
  subst hx; subst hn; subst hc; exact h
theorem ret_int {k : IntKind} {a b : Int} (h : a = b) : Ending.returned (.int k a) = .returned (.int k b) := by rw [h]
theorem Below.tr {w w' w'' : World} (h : Below w.heap.size w w') (k : Below w'.heap.size w' w'') : Below w.heap.size w w'' := h.trans (k.mono h.size)
theorem Below.drN {B : Nat} {a w : World} (h : Below B a w) (n : Nat) : Below B a (w.drewN n) := below_drewN h n
/-- What is read in a slice of one new cell. -/
theorem rd_one (w : World) (z : Int) (b : UInt8) (hz : z = (b.toNat : Int)) (t : TypeId) : Rd (w.alloc (.cells #[.int .u8 z] t)) (.slice (some ⟨w.heap.size, 0, none⟩) 1 1) [b] := by
  refine Rd.mk rfl (by simp) (by simp [maxLen]) (fun i hi => ?_)
  obtain rfl : i = 0 := by simpa using hi
  rw [show (⟨w.heap.size, 0, none⟩ : Addr).add 0 = ⟨w.heap.size, 0, none⟩ from rfl, World.cell?_alloc_at _ _ _ _ rfl]
  subst hz
  rfl
end Go.Proofs.YtefhinopppdjbaaGreat
