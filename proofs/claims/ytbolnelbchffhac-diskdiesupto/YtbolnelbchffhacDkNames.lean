/- The names of a disk's files, sorted. -/
import Derived.Test.YtbolnelbchffhacDkOps
import Derived.Test.YtbolnelbchffhacIter
import Derived.Sort.KeysCollected
namespace Go.Proofs.Ytbolnelbchffhac
open Go.RowKit Go.Maps
set_option linter.unusedVariables false
set_option maxRecDepth 100000

section
variable {B d n m : Nat} {D : DataW Unit} {fb : Nm → Nat} {fv : Nm → Value} {own : Nat → Option Role} {st : Nm → Option (List UInt8 × Nat)} {sz : Nat} {may : Value} {left : Int} {w : World}

/-- L is the names of all files, rising. -/
structure NamesOf (st : Nm → Option (List UInt8 × Nat)) (L : List Nm) : Prop where
  mem : ∀ nm, nm ∈ L ↔ st nm ≠ none
  nodup : L.Nodup
  up : L.Pairwise (fun x y => leB x y = true)

theorem DkI.has_iff (h : DkI B d n m D fb fv own st sz may left w) (nm : Nm) : Maps.has D (.string nm) = true ↔ st nm ≠ none := by
  constructor
  · intro q e
    rw [h.hasnt nm e] at q; cases q
  · intro q
    obtain ⟨f, hf⟩ := Option.ne_none_iff_exists'.1 q
    have ha := h.has nm f hf
    by_cases q2 : Maps.has D (.string nm) = true
    · exact q2
    · have := Maps.atKey_of_not_has (D := D) (k := .string nm) (by simpa using q2) (.nil : DataW Unit)
      rw [this] at ha; cases ha

theorem DkI.sorted (h : DkI B d n m D fb fv own st sz may left w) {L : List Nm} (hL : NamesOf st L) {ss : List (List UInt8)} (hp : ss.Perm (strKeys D)) : ss.mergeSort leB = L ∧ ss.length = L.length := by
  obtain ⟨es, e, hk⟩ := h.map.keysOf
  obtain ⟨es2, e2, ht⟩ := h.map.tidy Try.strKeyed
  rw [e] at e2
  injection e2 with e2
  subst e2
  have hks : ∀ p ∈ es, ∃ x, p.1 = .string x := fun p hp' => by
    obtain ⟨v, hv⟩ := hk p hp'
    obtain ⟨x, _, hx, _⟩ := Maps.keyOf_str Try.underlying9 hv
    exact ⟨x, hx⟩
  have hperm : L.Perm (strKeys D) := by
    rw [e]
    exact perm_strKeys ht hks hL.nodup (fun x => by rw [hL.mem x, ← h.has_iff x, e])
  have hsl : ss.Perm L := hp.trans hperm.symm
  refine ⟨?_, hsl.length_eq⟩
  rw [mergeSort_of_perm hsl]
  exact List.mergeSort_of_pairwise hL.up

theorem names_any (h : Dk B d n own st sz may left w) {L : List Nm} (hL : NamesOf st L) (hn : n ≤ 1099511627776) :
    Calls Try.prog 41 #[.pointer (some ⟨d, 0, none⟩)] w fun e w' => ∃ v, e = .returned v ∧ w'.ownsRow w.heap.size 9 1 v L.length (L.map encStr) ∧ Below w.heap.size w w' := by
  obtain ⟨m, D, fb, fv, h⟩ := h
  have c0 : w.cell? ⟨d, 0, none⟩ = some (.map (some m)) := by rw [cell_of_row _ _ _ _ _ _ h.cell]; rfl
  have hsz := h.map.size_le
  have hk := fun W => callsIn_wide.1 (Try.maps_Keys_53 (some m) W)
  have hs := callsIn_wide.1 (Try.slices_Sorted_keys_52_53 m n D flE w h.map (by unfold maxLen; omega) (by omega))
  go_enter Try.func41, Try.ntmps41
  go_wp2_with fail
  refine (hk _).mono ?_
  rintro e w1 ⟨rfl, rfl⟩
  go_wp2_with fail
  refine hs.mono ?_
  rintro e w2 ⟨v, ss, rfl, hp, hrow, _, hb⟩
  obtain ⟨q1, q2⟩ := h.sorted hL hp
  go_wp2_with fail
  go_ret
  refine ⟨_, rfl, ?_, ((Below.refl w.heap.size w).alloc (Nat.le_refl _) _).trans (hb.mono (by simp))⟩
  have q1' : ss.mergeSort (fun x y => decide (x ≤ y)) = L := q1
  rw [q1', q2] at hrow
  obtain ⟨r1, r2⟩ := hrow
  refine ⟨r1, ?_⟩
  rcases r2 with r2 | ⟨g, cap, cur, hv, hg, r⟩
  · exact .inl r2
  · exact .inr ⟨g, cap, cur, hv, by simp at hg; omega, r⟩
end
end Go.Proofs.Ytbolnelbchffhac
