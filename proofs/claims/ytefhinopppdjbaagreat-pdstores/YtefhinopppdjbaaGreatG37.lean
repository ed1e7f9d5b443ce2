/- slices.Sorted(maps.Keys(m)) at a map from int: the iterator, what is collected of it, sorted. -/
import Derived.Test.YtefhinopppdjbaaGreatG36
import Derived.Test.YtefhinopppdjbaaGreatG7
import Derived.Test.YtefhinopppdjbaaGreatG32
import Derived.Test.YtefhinopppdjbaaGreatG16
import Derived.Laws.EntriesVeiled
import Derived.RangeFuncSeq
import Derived.Sort.MapsRangeIn
import Derived.Sort.KeysCollected
import Derived.Maps.OwnIn
import Derived.Maps.OwnSet
import Derived.Maps.Keyed
import Derived.OwnWalkIn
import Derived.TacticsInMore
import Derived.RegionIn
import Derived.LoopNIn
import Derived.LoopIn
namespace Go.Proofs.YtefhinopppdjbaaGreat
open Go.RowKit Go.Maps Go.Shelf
set_option linter.unusedVariables false
set_option maxRecDepth 100000
attribute [local go_sem] Oper.semAt_some

def kI (x : Int) : Lit := .int .i64 x
theorem kI_inj {x y : Int} (h : kI x = kI y) : x = y := by simpa [kI] using h
theorem Tryz.keyedI : Maps.Keyed Tryz.prog 3 := Maps.int_keyed Tryz.underlying3
theorem keyI_inv {key : Value} {kl : Lit} (h : keyOf Tryz.prog 3 key = some kl) : ∃ x : Int, key = .int .i64 x ∧ kl = kI x := by
  simp only [keyOf, Tryz.underlying3] at h
  cases key <;> simp [mapKey, Tryz.underlying3] at h
  obtain ⟨⟨rfl, _⟩, rfl⟩ := h
  exact ⟨_, rfl, rfl⟩
section
variable {T : Type} {D : DataW T} {left : Lit → Bool} {ss : List Int}
/-- These keys have come. -/
def ColI (D : DataW T) (left : Lit → Bool) (ss : List Int) : Prop := ss.Nodup ∧ ∀ x, x ∈ ss ↔ (Maps.has D (kI x) = true ∧ left (kI x) = false)
theorem ColI.start (D : DataW T) : ColI D (Maps.has D) [] := ⟨List.nodup_nil, fun x => by cases Maps.has D (kI x) <;> simp⟩
theorem ColI.step (h : ColI D left ss) {x : Int} {y : DataW T} (hlk : left (kI x) = true) (hat : ∀ zd, D.atKey (kI x) zd = y) : ColI D (fun z => left z && !z.sameKey (kI x)) (ss ++ [x]) := by
  have hhas : Maps.has D (kI x) = true := has_true_of_atKey hat
  have hnew : x ∉ ss := fun hx => by have := ((h.2 x).1 hx).2; rw [hlk] at this; cases this
  refine ⟨List.nodup_append.2 ⟨h.1, by simp, fun a ha b hb => by simp at hb; subst hb; exact fun e => hnew (e ▸ ha)⟩, fun y => ?_⟩
  by_cases hy : y = x
  · subst hy
    unfold kI at hhas
    simp [hhas, kI, Lit.sameKey]
  · rw [List.mem_append, List.mem_singleton, h.2 y]
    simp [kI, hy, Lit.sameKey]
end
/-- What the iterator wants kept by its rounds: maps and iterators, but for the loop's own object. -/
def KpW (C : Nat) (A B : World) : Prop := A.heap.size ≤ B.heap.size ∧ ∀ (k : Nat) (o : Obj), k ≠ C + 1 → A.heap[k]? = some o → o.isWalk = true → B.heap[k]? = some o
theorem ranges_kp {T : Type} {P : Program} {k : TypeId} {R : Value → Option (DataW T × List MemPlace)} {w w' : World} {b r n C : Nat} {D : DataW T} {left : Lit → Bool} {cnt : Nat} (h : w.ranges P k R b r n D left cnt) (hk : KpW C w w') (hb : b ≠ C + 1) (hr : r ≠ C + 1) : w'.ranges P k R b r n D left cnt := by
  obtain ⟨es, clock, since, seen, c0, hb', F, hs, hD, hr', rest⟩ := h
  exact ⟨es, clock, since, seen, c0, hk.2 b _ hb hb' rfl, F, hs, hD, hk.2 r _ hr hr' rfl, rest⟩
set_option maxHeartbeats 1000000 in
theorem keysI_told {T : Type} (F : Fence) (n : Nat) (hF1 : F.fn 31) (hro : F.round = none) (hn : 1 ≤ n) {C Bm b nn : Nat} {D : DataW T} {R : Value → Option (DataW T × List MemPlace)} {I : List Int → World → Prop} {K : World → Prop}
    (hI : ∀ s W W' row, I s W → W.grownBy W' row → (∀ r, row = some r → C + 2 ≤ r ∧ ∃ o : Obj, W.heap[r]? = some o ∧ o.isWalk = true) → I s W') (hIC : ∀ s W, I s W → C + 2 ≤ W.heap.size) (hK : ∀ A B, K A → KB C A B → K B) (l : Nat) (W : World) (hbC : b ≠ C + 1)
    (hm : W.cell? ⟨Bm, 0, none⟩ = some (.map (some b))) (hown : W.ownsMap Tryz.prog 3 R b nn D) (h0 : I [] W) (hK0 : K W)
    (hY : ∀ pre x W1, I pre W1 → pre.length < Maps.size D → K W1 → YieldAt F (n - 1) Tryz.prog l #[.int .i64 x] W1 fun e W' => e = .returned (.bool true) ∧ I (pre ++ [x]) W' ∧ KpW C W1 W' ∧ K W') :
    CallsIn F n Tryz.prog 31 #[.func (.yield l) #[] #[], .pointer (some ⟨Bm, 0, none⟩)] W fun e W' => (∃ v, e = .returned v) ∧ ∃ xs : List Int, (xs.Nodup ∧ (∀ x, x ∈ xs ↔ Maps.has D (kI x) = true) ∧ xs.length ≤ Maps.size D) ∧ I xs W' ∧ K W' := by
  have hWC := hIC _ _ h0
  refine callsIn_of_wp Tryz.func31 rfl hF1 ?_ hro
  simp only [Tryz.ntmps31, List.size_toArray, List.length_cons, List.length_nil, Nat.reduceAdd, Nat.reduceSub, Array.replicate_succ, Array.replicate_zero, List.push_toArray, List.append_toArray, List.nil_append, List.cons_append]
  gi_wp2_with (first
    | (gi_at_range; refine wpListIn_range_own _ rfl _ 46 rfl 3 23 Tryz.keyedI Tryz.underlying46 R b nn D rfl hown ?_; intro w0 hrg0 hg0 hs0)
    | gi_in)
  have hI0 := hI [] W w0 none h0 hg0 (fun r e => by cases e)
  have hK0' : K w0 := hK _ _ hK0 ⟨hg0.block C (by omega) (by simp), hg0.block (C + 1) (by omega) (by simp)⟩
  go_frame
  gi_loopw [3] (fun _ wr => ∃ (left : Lit → Bool) (cnt : Nat) (ss : List Int), wr.ranges Tryz.prog 3 R b W.heap.size nn D left cnt ∧ ss.length + cnt ≤ Maps.size D ∧ ColI D left ss ∧ I ss wr ∧ K wr)
    (fun _ wr => wr.rangeLeft b W.heap.size)
  case atStart => exact ⟨_, _, [], hrg0, by simp, ColI.start D, hI0, hK0'⟩
  case round =>
    obtain ⟨left, cnt, ss, hrg, hcs, hC, hIs, hKs⟩ := hrel
    gi_wp2_with (first
      | (gi_at_next; refine wpListIn_next_ranges _ rfl _ rfl 3 Tryz.keyedI R (fun x : Int => Value.int .i64 x) id (fun key kl hk => by obtain ⟨x, hx, _⟩ := keyI_inv hk; exact ⟨x, hx⟩) (fun v _ _ => ⟨v, rfl⟩) b W.heap.size nn D left cnt rfl hrg ?_ ?_)
      | gi_in)
    · intro hc0 hl0
      gi_wp2
      go_end0
      exact ⟨⟨_, rfl⟩, ss, ⟨hC.1, fun x => by rw [hC.2 x, hl0]; simp, by omega⟩, hIs, hKs⟩
    · intro x c kl yd yp w2 cnt2 hkey hlk hv hat hrg2 hlt hg2 hs2 hen
      obtain ⟨x', ex, rfl⟩ := keyI_inv hkey
      obtain rfl : x = x' := by simpa using ex
      have hwr := hIC _ _ hIs
      have hI2 : I ss w2 := hI ss wr w2 (some W.heap.size) hIs hg2 (fun r e => by cases e; exact ⟨hWC, hrg.iter_walk⟩)
      have hK2 : K w2 := hK _ _ hKs ⟨hg2.block C (by omega) (by simp; omega), hg2.block (C + 1) (by omega) (by simp; omega)⟩
      obtain ⟨fn, tmps, assign, body, hy, hR⟩ := hY ss x w2 hI2 (by omega) hK2
      clear hs2
      gi_wp2
      refine hR.mono ?_
      rintro e W3 ⟨rfl, hI3, hk3, hK3⟩
      gi_wp2
      have hrg3 := ranges_kp hrg2 hk3 hbC (by omega)
      go_roundw
      case rel => exact ⟨_, cnt2, ss ++ [x], hrg3, by simp; omega, hC.step hlk hat, hI3, hK3⟩
      case measure => rw [hrg3.left_eq, hrg.left_eq]; exact hlt
theorem keysI_any (b : Nat) (w : World) : Calls Tryz.prog 16 #[.map (some b)] w fun e w' => e = .returned (.func (.func 31) #[] #[.pointer (some ⟨w.heap.size, 0, none⟩)]) ∧ w' = w.alloc (.cells #[.map (some b)] 46) := by
  have hmf : ∀ (fn : Fn) (first cap : Array Value) (w : World), (Instr.makeFunc fn first cap).run Tryz.prog w = .ok (.func fn first cap) w := fun _ _ _ _ => rfl
  go_enter Tryz.func16, Tryz.ntmps16
  go_wp2_with fail
  go_ret
  exact ⟨rfl, rfl⟩
end Go.Proofs.YtefhinopppdjbaaGreat
