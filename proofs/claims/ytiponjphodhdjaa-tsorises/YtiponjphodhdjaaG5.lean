/- An oracle in memory: its two numbers, and the closure that it was made with; the document's oracle. -/
import Derived.Test.YtiponjphodhdjaaG4
namespace Go.Proofs.Ytiponjphodhdjaa
open Go.RowKit
set_option linter.unusedVariables false
set_option maxRecDepth 100000

theorem ts_al (w : World) (o : Obj) : Below w.heap.size w (w.alloc o) := (Below.refl _ _).alloc (Nat.le_refl _) o
theorem ts_new (w : World) (o : Obj) : (w.alloc o).heap[w.heap.size]? = some o := by
  show (w.heap.push o)[w.heap.size]? = some o
  simp
theorem ts_old (w : World) (o : Obj) (b : Nat) (h : b < w.heap.size) : (w.alloc o).heap[b]? = w.heap[b]? := Below.heap_alloc _ _ _ h

/-- What Take answers: its error's number. -/
def tkN (l m : Nat) (k : Int) : Int := if k < 1 ∨ 1024 < k then 1 else if m < l + k.toNat then 150 else 0
def tkV (l m : Nat) (k : Int) : Nat := if tkN l m k = 0 then l + 1 else 0
def tkL (l m : Nat) (k : Int) : Nat := if tkN l m k = 0 then l + k.toNat else l
def wnB (l m : Nat) (k : Int) : Bool := decide (tkN l m k = 150)
def wnV (l m : Nat) (k : Int) : Nat := if tkN l m k = 150 then l + k.toNat + 1024 else 0
theorem tkN_arg {l m : Nat} {k : Int} (h : k < 1 ∨ 1024 < k) : tkN l m k = 1 := by unfold tkN; rw [if_pos h]
theorem tkN_win {l m : Nat} {k : Int} (h : 1 ≤ k ∧ k ≤ 1024) (h2 : m < l + k.toNat) : tkN l m k = 150 := by unfold tkN; rw [if_neg (by omega), if_pos h2]
theorem tkN_ok {l m : Nat} {k : Int} (h : 1 ≤ k ∧ k ≤ 1024) (h2 : l + k.toNat ≤ m) : tkN l m k = 0 := by unfold tkN; rw [if_neg (by omega), if_neg (by omega)]
theorem tkL_le {l m : Nat} {k : Int} (h : l ≤ m) : tkL l m k ≤ m := by
  unfold tkL
  split
  · rename_i q
    unfold tkN at q
    split at q
    · omega
    · split at q <;> omega
  · exact h

/-- The program's oracle. -/
structure Orc (x c l m : Nat) (w : World) : Prop where
  cell : w.heap[x]? = some (.cells #[.int .u64 (l : Int), .int .u64 (m : Int), .func (.func 18) #[] #[.pointer (some ⟨c, 0, none⟩)]] 49 (0, 0))
  cap : w.heap[c]? = some (.cells #[.pointer (some ⟨x, 0, none⟩)] 25 (0, 0))
  le : l ≤ m
  top : m ≤ 4611686018427387904
/-- The document's oracle. -/
structure Ord (y l m : Nat) (w : World) : Prop where
  cell : w.heap[y]? = some (.cells #[.int .u64 (l : Int), .int .u64 (m : Int)] 40 (0, 0))
  le : l ≤ m
  top : m ≤ 4611686018427387904
section
variable {x c y l m : Nat} {w w' : World}
theorem Orc.lt (h : Orc x c l m w) : x < w.heap.size ∧ c < w.heap.size := ⟨(Array.getElem?_eq_some_iff.1 h.cell).1, (Array.getElem?_eq_some_iff.1 h.cap).1⟩
theorem Ord.lt (h : Ord y l m w) : y < w.heap.size := (Array.getElem?_eq_some_iff.1 h.cell).1
theorem blk_ne {w : World} {x y : Nat} {cs cs' : Array Value} {t t' : TypeId} {fr fr' : Nat × Nat} (h : w.heap[x]? = some (.cells cs t fr)) (h' : w.heap[y]? = some (.cells cs' t' fr')) (ht : t ≠ t') : x ≠ y := by
  rintro rfl
  rw [h] at h'
  have := Option.some.inj h'
  simp only [Obj.cells.injEq] at this
  exact ht this.2.1
theorem Orc.ne (h : Orc x c l m w) : c ≠ x := blk_ne h.cap h.cell (by decide)
theorem Orc.next {S : Nat → Prop} (h : Orc x c l m w) (hc : Chg S w w') (h1 : ¬ S x) (h2 : ¬ S c) : Orc x c l m w' :=
  ⟨by rw [hc.block x h.lt.1 h1]; exact h.cell, by rw [hc.block c h.lt.2 h2]; exact h.cap, h.le, h.top⟩
theorem Ord.next {S : Nat → Prop} (h : Ord y l m w) (hc : Chg S w w') (h1 : ¬ S y) : Ord y l m w' :=
  ⟨by rw [hc.block y h.lt h1]; exact h.cell, h.le, h.top⟩
theorem Orc.ned {l' m' : Nat} (h : Orc x c l m w) (k : Ord y l' m' w) : x ≠ y ∧ c ≠ y := ⟨blk_ne h.cell k.cell (by decide), blk_ne h.cap k.cell (by decide)⟩
theorem Orc.drewN (h : Orc x c l m w) (n : Nat) : Orc x c l m (w.drewN n) := ⟨h.cell, h.cap, h.le, h.top⟩
theorem Ord.drewN (h : Ord y l m w) (n : Nat) : Ord y l m (w.drewN n) := ⟨h.cell, h.le, h.top⟩
theorem Orc.cells (h : Orc x c l m w) : w.cell? ⟨x, 0, none⟩ = some (.int .u64 (l : Int)) ∧ w.cell? ⟨x, 1, none⟩ = some (.int .u64 (m : Int)) ∧ w.cell? ⟨x, 2, none⟩ = some (.func (.func 18) #[] #[.pointer (some ⟨c, 0, none⟩)]) ∧ w.cell? ⟨c, 0, none⟩ = some (.pointer (some ⟨x, 0, none⟩)) ∧ ∀ i, w.frozen? ⟨x, i, none⟩ = false :=
  ⟨by rw [cell_of_row _ _ _ _ _ _ h.cell]; rfl, by rw [cell_of_row _ _ _ _ _ _ h.cell]; rfl, by rw [cell_of_row _ _ _ _ _ _ h.cell]; rfl, by rw [cell_of_row _ _ _ _ _ _ h.cap]; rfl, fun i => frozen_of_row _ _ _ _ _ h.cell⟩
theorem Ord.cells (h : Ord y l m w) : w.cell? ⟨y, 0, none⟩ = some (.int .u64 (l : Int)) ∧ w.cell? ⟨y, 1, none⟩ = some (.int .u64 (m : Int)) ∧ ∀ i, w.frozen? ⟨y, i, none⟩ = false :=
  ⟨by rw [cell_of_row _ _ _ _ _ _ h.cell]; rfl, by rw [cell_of_row _ _ _ _ _ _ h.cell]; rfl, fun i => frozen_of_row _ _ _ _ _ h.cell⟩
theorem Orc.setL {l' : Nat} (h : Orc x c l m w) (hl : l' ≤ m) : Orc x c l' m (w.setCell ⟨x, 0, none⟩ (.int .u64 (l' : Int))) :=
  ⟨by rw [heap_setCell_same _ _ 0 _ _ _ h.cell]; rfl, by rw [heap_setCell_other _ _ _ _ h.ne]; exact h.cap, hl, h.top⟩
theorem Orc.setM {m' : Nat} (h : Orc x c l m w) (hl : l ≤ m') (ht : m' ≤ 4611686018427387904) : Orc x c l m' (w.setCell ⟨x, 1, none⟩ (.int .u64 (m' : Int))) :=
  ⟨by rw [heap_setCell_same _ _ 1 _ _ _ h.cell]; rfl, by rw [heap_setCell_other _ _ _ _ h.ne]; exact h.cap, hl, ht⟩
theorem Ord.setL {l' : Nat} (h : Ord y l m w) (hl : l' ≤ m) : Ord y l' m (w.setCell ⟨y, 0, none⟩ (.int .u64 (l' : Int))) :=
  ⟨by rw [heap_setCell_same _ _ 0 _ _ _ h.cell]; rfl, hl, h.top⟩
theorem Ord.setM {m' : Nat} (h : Ord y l m w) (hl : l ≤ m') (ht : m' ≤ 4611686018427387904) : Ord y l m' (w.setCell ⟨y, 1, none⟩ (.int .u64 (m' : Int))) :=
  ⟨by rw [heap_setCell_same _ _ 1 _ _ _ h.cell]; rfl, hl, ht⟩
theorem chg_put (x i : Nat) (u : Value) (w : World) : Chg (fun b => b = x) w (w.setCell ⟨x, i, none⟩ u) := (Chg.refl _ w).put x i u rfl
theorem chg_drewN (S : Nat → Prop) (w : World) (n : Nat) : Chg S w (w.drewN n) := (Chg.of_below (below_drewN (Below.refl w.heap.size w) n)).mono (fun b hb h => by omega)
end
end Go.Proofs.Ytiponjphodhdjaa
