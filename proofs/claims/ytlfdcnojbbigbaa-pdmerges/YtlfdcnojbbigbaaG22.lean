/- What a sort leaves. -/
import Derived.Test.YtlfdcnojbbigbaaG9
import Derived.Shelf.Lay
import Derived.Shelf.LaySoft
import Derived.Shelf.SlSortCmp.WholeK
namespace Go.Proofs.Ytlfdcnojbbigbaa
open Go.RowKit Go.Shelf Go.Lib
open Go.Sort hiding Below
set_option linter.unusedVariables false
set_option maxRecDepth 100000

theorem sort_chg {α : Type} [Inhabited α] (enc : α → List Value) (k : Nat) (w : World) (blk off n : Nat) (d : Array α) (os : Array Obj) : Chg (fun b => b = blk) w (sortWorldK enc k w blk off n d os) := by
  have e : (sortWorldK enc k w blk off n d os).heap = w.heap.modify blk (onCells (putCells id off (flatK enc k d))) ++ os := rfl
  refine ⟨rfl, rfl, rfl, ?_, fun b hb hne => ?_⟩
  · rw [e]; simp
  · rw [e, Array.getElem?_append_left (by simpa using hb), Array.getElem?_modify, if_neg (fun q => hne q.symm)]
theorem Rd.keptE {S : Nat → Prop} {w w' : World} {v : Value} {l : List UInt8} (h : Rd w v l) (hg : Chg S w w') (hne : ∀ b, v.ownBlock = some b → S b → l = []) : Rd w' v l := by
  by_cases hl : l = []
  · subst hl
    obtain ⟨ao, c, h0, h1, h2, h3, _⟩ := h
    exact ⟨ao, c, h0, h1, h2, h3, fun i hi => by simp at hi⟩
  · exact h.keptC hg (fun b e q => hl (hne b e q))
theorem Rd.blk {w : World} {v : Value} {l : List UInt8} (h : Rd w v l) (hl : l ≠ []) {b : Nat} (hb : v.ownBlock = some b) : b < w.heap.size := by
  obtain ⟨ao, c, rfl, h1, h2, h3, h4⟩ := h
  obtain ⟨a, rfl, hc⟩ := h4 0 (List.length_pos_iff.2 hl)
  have := World.block_lt_of_cell? w _ hc
  have e : a.block = b := Option.some.inj hb
  rw [← e]
  exact this
end Go.Proofs.Ytlfdcnojbbigbaa
