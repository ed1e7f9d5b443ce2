/- What drop does: a file is gone, if it is there. -/
import Derived.Test.YtbolnelbchffhacDkDel
import Derived.Test.YtbolnelbchffhacDkCrash
namespace Go.Proofs.Ytbolnelbchffhac
open Go.RowKit
set_option linter.unusedVariables false
set_option maxRecDepth 100000

section
variable {B d n : Nat} {own : Nat → Option Role} {st : Nm → Option (List UInt8 × Nat)} {sz : Nat} {may : Value} {left : Int} {w : World}

set_option maxHeartbeats 1000000 in
theorem drop_there (h : Dk B d n own st sz may left w) (s : ByteArray) (hs : s.size ≤ maxLen) (f : List UInt8 × Nat) (e : st s.data.toList = some f) (hf : f.1.length ≤ sz) (hz : sz ≤ 1099511627776) :
    Calls Try.prog 45 #[.pointer (some ⟨d, 0, none⟩), .string s] w fun e w' => (∃ v, e = .returned v) ∧ Dk B d n (strike own s.data.toList) (setF st s.data.toList none) (sz - f.1.length) may left w' ∧ Chg (fun b => own b = some .disk ∨ own b = some .map) w w' := by
  obtain ⟨m, D, fb, fv, h⟩ := h
  have c0 : w.cell? ⟨d, 0, none⟩ = some (.map (some m)) := by rw [cell_of_row _ _ _ _ _ _ h.cell]; rfl
  have c1 : w.cell? ⟨d, 1, none⟩ = some (.int .i64 (sz : Int)) := by rw [cell_of_row _ _ _ _ _ _ h.cell]; rfl
  have z1 : w.frozen? ⟨d, 1, none⟩ = false := frozen_of_row _ _ _ _ _ h.cell
  have hrun := h.look s hs f e
  obtain ⟨fa, fc, efv, hln, f0, f1, hfz, hrd⟩ := h.fcell e
  clear hfz efv hrd f1
  have hkey := WideMaps.keyOf_string_mk (P := Try.prog) (k := 9) Try.underlying9 hs
  have hdm : m ≠ d := fun q => by have := h.od; rw [← q, h.om] at this; cases this
  have hmap : ∀ v, (w.setCell ⟨d, 1, none⟩ v).drew.ownsMap Try.prog 9 flE m n D := fun v => (h.map.setCell (a := ⟨d, 1, none⟩) hdm v).drew
  have hset := h.setDisk (sz' := sz - f.1.length) (may' := may) (left' := left) ((Chg.refl (fun b => b = d) w).put d 1 (.int .i64 ((sz - f.1.length : Nat) : Int)) rfl) (by rw [heap_setCell_same _ _ 1 _ _ _ h.cell]; rfl)
  have H : Hid _ := And.intro hset (And.intro h.od h.om)
  have ez : ((sz : Int) - (f.1.length : Int)) = ((sz - f.1.length : Nat) : Int) := by omega
  clear h hset
  generalize fb s.data.toList = g at *
  go_enter Try.func45, Try.ntmps45
  go_wp2_with fail
  go_region
  all_goals go_wp2_with (first | (at_delete; refine wpList_delete_own _ rfl _ _ 51 9 rfl 72 Try.strKeyed Try.underlying51 flE m n D rfl (hmap _) _ _ rfl hkey ?_; intro w1 hown1 hturn1) | fail)
  all_goals go_end0
  all_goals
    have hd := (H.out.1.drN 1).del s.data.toList (Chg.of_grown hturn1.grown (fun b q _ => (Option.some.inj q).symm)) hown1
    refine ⟨⟨_, rfl⟩, ⟨_, _, _, _, hd⟩, ?_⟩
    have hc1 : Chg (fun b => own b = some .disk ∨ own b = some .map) w ((w.setCell ⟨d, 1, none⟩ (.int .i64 ((sz - f.1.length : Nat) : Int))).drewN 1) := ((Chg.refl _ w).put d 1 _ (Or.inl H.out.2.1)).dN 1
    exact hc1.trans (Chg.of_grown hturn1.grown (fun b q _ => by obtain rfl := Option.some.inj q; exact Or.inl (Or.inr H.out.2.2)))

theorem drop_not (h : Dk B d n own st sz may left w) (s : ByteArray) (hs : s.size ≤ maxLen) (e : st s.data.toList = none) :
    Calls Try.prog 45 #[.pointer (some ⟨d, 0, none⟩), .string s] w fun e w' => (∃ v, e = .returned v) ∧ ∃ q, w' = w.drewN q := by
  obtain ⟨m, D, fb, fv, h⟩ := h
  have c0 : w.cell? ⟨d, 0, none⟩ = some (.map (some m)) := by rw [cell_of_row _ _ _ _ _ _ h.cell]; rfl
  have hrun := h.look_no s hs e
  go_enter Try.func45, Try.ntmps45
  go_wp2_with fail
  go_end0
  exact ⟨⟨_, rfl⟩, 0, rfl⟩

/-- What Rename would answer. -/
def rErr (st : Nm → Option (List UInt8 × Nat)) (s t : ByteArray) : Nat := if st s.data.toList = none then 20 else if ¬ (1 ≤ t.size ∧ t.size ≤ 64) then 1 else 0

theorem refuseRename_any (h : Dk B d n own st sz may left w) (s t : ByteArray) (hs : s.size ≤ maxLen) :
    Calls Try.prog 46 #[.pointer (some ⟨d, 0, none⟩), .string s, .string t] w fun e w' => e = .returned (.int .i64 (rErr st s t : Int)) ∧ ∃ q, w' = w.drewN q := by
  have hrf := refuseFile_any h s hs
  unfold rErr
  by_cases e : st s.data.toList = none
  · rw [if_pos e] at hrf
    rw [if_pos e]
    go_enter Try.func46, Try.ntmps46
    go_wp2_with fail
    refine hrf.mono ?_
    rintro e w1 ⟨rfl, q1, rfl⟩
    go_wp2_with fail
    go_ret
    exact ⟨rfl, _, rfl⟩
  · rw [if_neg e] at hrf
    rw [if_neg e]
    have hgn := fun w => goodName_any t w
    by_cases hg : 1 ≤ t.size ∧ t.size ≤ 64
    · rw [if_neg (by simpa using hg)]
      simp only [decide_eq_true hg] at hgn
      go_enter Try.func46, Try.ntmps46
      go_wp2_with fail
      refine hrf.mono ?_
      rintro e w1 ⟨rfl, q1, rfl⟩
      go_wp2_with fail
      refine (hgn _).mono ?_
      rintro e w2 ⟨rfl, rfl⟩
      go_wp2_with fail
      go_ret
      exact ⟨rfl, _, rfl⟩
    · rw [if_pos hg]
      simp only [decide_eq_false hg] at hgn
      go_enter Try.func46, Try.ntmps46
      go_wp2_with fail
      refine hrf.mono ?_
      rintro e w1 ⟨rfl, q1, rfl⟩
      go_wp2_with fail
      refine (hgn _).mono ?_
      rintro e w2 ⟨rfl, rfl⟩
      go_wp2_with fail
      go_ret
      exact ⟨rfl, _, rfl⟩

theorem size_alive (h : Dk B d n own st sz (alive d) left w) :
    Calls Try.prog 23 #[.pointer (some ⟨d, 0, none⟩)] w fun e w' => e = .returned (.int .i64 (sz : Int)) ∧ ∃ q, w' = w.drewN q := by
  have hc := h.cell1.1
  go_enter Try.func23, Try.ntmps23
  go_wp2_with fail
  refine (dead_alive h).mono ?_
  rintro e w1 ⟨rfl, q1, rfl⟩
  go_wp2_with fail
  go_ret
  exact ⟨rfl, _, rfl⟩
end
end Go.Proofs.Ytbolnelbchffhac
