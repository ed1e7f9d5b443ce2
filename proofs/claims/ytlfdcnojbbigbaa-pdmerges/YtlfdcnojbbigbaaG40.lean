/- What PdMerges asks of its regions; the command and the results in memory. -/
import Derived.Test.YtlfdcnojbbigbaaG33
import Derived.Test.YtlfdcnojbbigbaaG39
import Derived.Test.YtlfdcnojbbigbaaG36
import Derived.Test.YtlfdcnojbbigbaaG37
namespace Go.Proofs.Ytlfdcnojbbigbaa
open Go.RowKit Go.Maps
set_option linter.unusedVariables false
set_option linter.unusedSimpArgs false
set_option maxRecDepth 100000

def Pe1 : Pe := ((1 : UInt64), (1 : Int), false)
def Pe8 : Pe := ((8 : UInt64), (1 : Int), false)
theorem pm_cmp0 (k : List UInt8) : 0 ≤ M.cmpL k [] := by cases k <;> simp [M.cmpL]
theorem pm_chk0 : chkE 1 [] [] [Pe1] = 0 := by decide +kernel
theorem pm_grp1 : grpF [Pe1] = true := by decide +kernel
theorem pm_grp8 : grpF [Pe8] = true := by decide +kernel
theorem pm_csp (key : List UInt8) : cspE 1 7 1 [] [] key [Pe1] [8] = if key.length = 0 then 101 else if 64 < key.length then 1 else 0 := by
  have hc : cov [] [] key = true := by simp [cov, pm_cmp0]
  unfold cspE
  rw [pm_chk0]
  simp only [ne_eq, not_true_eq_false, if_false, hc, Bool.true_eq_false]
  by_cases hk : key = []
  · subst hk; rfl
  · have hk' : ¬ key.length = 0 := fun q => hk (List.length_eq_zero_iff.1 q)
    rw [if_neg hk]
    by_cases hk2 : 64 < key.length
    · rw [if_pos (show cspB 1 7 1 key [Pe1] [8] from .inl hk2), if_neg hk', if_pos hk2]
    · rw [if_neg (show ¬ cspB 1 7 1 key [Pe1] [8] from ?_), if_neg hk', if_neg hk2]
      rintro (q | q | q | q | q | q)
      · exact hk2 q
      · revert q; decide
      · revert q; decide
      · exact q rfl
      · revert q; decide
      · revert q; decide
theorem pm_chkA {key : List UInt8} (h0 : key.length ≠ 0) (h : key.length ≤ 64) : chkE 1 [] key [Pe1] = 0 := by
  unfold chkE
  rw [if_neg (by rintro (q | q | q); revert q; decide; simp at q; omega), if_neg, if_neg (by rw [pm_grp1]; simp)]
  cases key with
  | nil => simp at h0
  | cons x r => simp [cov, M.cmpL]
theorem pm_chkB {key : List UInt8} (h : key.length ≤ 64) : chkE 7 key [] [Pe8] = 0 := by
  unfold chkE
  rw [if_neg (by rintro (q | q | q); revert q; decide; omega; simp at q), if_neg (by simp [cov, M.cmpL_self]), if_neg (by rw [pm_grp8]; simp)]
/-- A command in a block. -/
def Cm (o : Nat) (c : PC) (w : World) : Prop := w.heap[o]? = some (.cells (pcA c) 40 (0, 0))
/-- A result in a block. -/
def Rz (g : Nat) (er n st : Int) (w : World) : Prop := w.heap[g]? = some (.cells #[.int .i64 er, .int .u64 n, .int .i64 st] 42 (0, 0))
section
variable {S : Nat → Prop} {o g : Nat} {c : PC} {w w' : World} {er n st : Int}
theorem Cm.lt (h : Cm o c w) : o < w.heap.size := (Array.getElem?_eq_some_iff.1 h).1
theorem Cm.next (h : Cm o c w) (hc : Chg S w w') (hp : ¬ S o) : Cm o c w' := by unfold Cm; rw [hc.block o h.lt hp]; exact h
theorem Cm.at_ (h : Cm o c w) {i : Nat} {v : Value} (hv : (pcA c)[i]? = some v) : w.cell? ⟨o, i, none⟩ = some v := by rw [cell_of_row _ _ _ _ _ _ h]; exact hv
theorem Cm.froz (h : Cm o c w) (i : Nat) : w.frozen? ⟨o, i, none⟩ = false := frozen_of_row _ _ _ _ _ h
theorem Cm.setN (h : Cm o c w) (x : Nat) : Cm o { c with n := x } (w.setCell ⟨o, 1, none⟩ (.int .u64 (x : Int))) := by
  unfold Cm; rw [heap_setCell_same _ _ 1 _ _ _ h]; rfl
theorem Rz.lt (h : Rz g er n st w) : g < w.heap.size := (Array.getElem?_eq_some_iff.1 h).1
theorem Rz.next (h : Rz g er n st w) (hc : Chg S w w') (hp : ¬ S g) : Rz g er n st w' := by unfold Rz; rw [hc.block g h.lt hp]; exact h
theorem Rz.cells (h : Rz g er n st w) : w.cell? ⟨g, 0, none⟩ = some (.int .i64 er) ∧ w.cell? ⟨g, 1, none⟩ = some (.int .u64 n) ∧ w.cell? ⟨g, 2, none⟩ = some (.int .i64 st) := by
  obtain ⟨a, b, c, _⟩ := cells3 h; exact ⟨a, b, c⟩
theorem Cm.all (h : Cm o c w) : w.cell? ⟨o, 0, none⟩ = some (.int .i64 c.kind) ∧ w.cell? ⟨o, 1, none⟩ = some (.int .u64 (c.n : Int)) ∧ w.cell? ⟨o, 2, none⟩ = some (.int .u64 (c.ts : Int)) ∧ w.cell? ⟨o, 3, none⟩ = some (.int .u64 (c.ttl : Int)) ∧ w.cell? ⟨o, 4, none⟩ = some (.int .i64 c.store) ∧ w.cell? ⟨o, 5, none⟩ = some (.int .u64 (c.rid : Int)) ∧ w.cell? ⟨o, 6, none⟩ = some (.slice c.rs.1 c.rs.2.1 c.rs.2.2) ∧ w.cell? ⟨o, 7, none⟩ = some (.slice c.re.1 c.re.2.1 c.re.2.2) ∧ w.cell? ⟨o, 8, none⟩ = some (.int .u64 (c.rcf : Int)) ∧ w.cell? ⟨o, 9, none⟩ = some (.int .u64 (c.rvr : Int)) ∧ w.cell? ⟨o, 10, none⟩ = some (.slice c.rp.1 c.rp.2.1 c.rp.2.2) ∧ w.cell? ⟨o, 11, none⟩ = some (.int .u64 (c.oid : Int)) ∧ w.cell? ⟨o, 12, none⟩ = some (.slice c.os.1 c.os.2.1 c.os.2.2) ∧ w.cell? ⟨o, 13, none⟩ = some (.slice c.oe.1 c.oe.2.1 c.oe.2.2) ∧ w.cell? ⟨o, 14, none⟩ = some (.int .u64 (c.ocf : Int)) ∧ w.cell? ⟨o, 15, none⟩ = some (.int .u64 (c.ovr : Int)) ∧ w.cell? ⟨o, 16, none⟩ = some (.slice c.op.1 c.op.2.1 c.op.2.2) ∧ w.cell? ⟨o, 17, none⟩ = some (.bool c.cm) :=
  ⟨h.at_ rfl, h.at_ rfl, h.at_ rfl, h.at_ rfl, h.at_ rfl, h.at_ rfl, h.at_ rfl, h.at_ rfl, h.at_ rfl, h.at_ rfl, h.at_ rfl, h.at_ rfl, h.at_ rfl, h.at_ rfl, h.at_ rfl, h.at_ rfl, h.at_ rfl, h.at_ rfl⟩
end
theorem OwC.rd {B : Nat} {w : World} {r : RC} {s e : List UInt8} {ps : List Pe} (h : OwC B w r s e ps) (h1 : s.length ≤ 64) (h2 : e.length ≤ 64) (h3 : ps.length ≤ 9) : RdC w r s e ps := ⟨h.s.rd, h.e.rd, h.p.rd, by omega, by omega, by omega⟩
theorem Gs.made (w : World) (m : Nat) (h : w.heap[m]? = some (.map #[] 0)) : Gs m 0 (fun _ => false) 0 w := by
  obtain ⟨es, ck, hh, r⟩ := World.ownsMap_made (H := Unit) w Try.prog 22 unitElem
  rw [heap_new] at hh
  cases hh
  exact ⟨.map [], ⟨#[], 0, h, r⟩, fun x => rfl, rfl⟩
theorem Mm.made (w : World) (m : Nat) (h : w.heap[m]? = some (.map #[] 0)) : Mm m 0 (fun _ => none) w := by
  obtain ⟨es, ck, hh, r⟩ := World.ownsMap_made (H := Value) w Try.prog 22 elM
  rw [heap_new] at hh
  cases hh
  exact ⟨.map [], ⟨#[], 0, h, r⟩, fun x => rfl, fun x v e => by cases e⟩
end Go.Proofs.Ytlfdcnojbbigbaa
