/- What becomes of a disk in memory where a file's cells, the disk's own cells, or the map are written. -/
import Derived.Test.YtbolnelbchffhacDk
namespace Go.Proofs.Ytbolnelbchffhac
open Go.RowKit
set_option linter.unusedVariables false
set_option maxRecDepth 100000

def setF (st : Nm → Option (List UInt8 × Nat)) (nm : Nm) (x : Option (List UInt8 × Nat)) : Nm → Option (List UInt8 × Nat) := fun n => if n = nm then x else st n
theorem setF_same (st : Nm → Option (List UInt8 × Nat)) (nm : Nm) (x : Option (List UInt8 × Nat)) : setF st nm x nm = x := by simp [setF]
theorem setF_other (st : Nm → Option (List UInt8 × Nat)) {nm n : Nm} (x : Option (List UInt8 × Nat)) (h : n ≠ nm) : setF st nm x n = st n := by simp [setF, h]

section
variable {B d n m : Nat} {D : DataW Unit} {fb : Nm → Nat} {fv : Nm → Value} {own : Nat → Option Role} {st : Nm → Option (List UInt8 × Nat)} {sz : Nat} {may : Value} {left : Int} {w w' : World}

/-- A file is another one now. -/
theorem DkI.upd {nm : Nm} {f : List UInt8 × Nat} {bytes' : List UInt8} {s' : Nat} {fv' : Value} (h : DkI B d n m D fb fv own st sz may left w) (e : st nm = some f)
    (hc : Chg (fun b => own b = some (.file nm) ∨ own b = some (.data nm)) w w') (hb : w'.heap[fb nm]? = some (.cells #[fv', .int .i64 (s' : Int)] 74 (0, 0))) (ho : Ow B w' fv' bytes') (hs : s' ≤ bytes'.length)
    (hv : ∀ b, fv'.ownBlock = some b → own b = some (.data nm) ∨ w.heap.size ≤ b) :
    DkI B d n m D fb (fun x => if x = nm then fv' else fv x) (fun b => if fv'.ownBlock = some b then some (.data nm) else own b) (setF st nm (some (bytes', s'))) sz may left w' := by
  have hne : ∀ b r, own b = some r → r ≠ .data nm → fv'.ownBlock ≠ some b := fun b r hr hrn q => by
    rcases hv b q with q2 | q2
    · rw [hr] at q2; exact hrn (Option.some.inj q2)
    · have := (h.lo b (by rw [hr]; simp)).2; omega
  have kp : ∀ b r, own b = some r → r ≠ .file nm → r ≠ .data nm → w'.heap[b]? = w.heap[b]? := fun b r hr h1 h2 => hc.block b (h.lo b (by rw [hr]; simp)).2 (by
    rintro (q | q)
    · rw [hr] at q; exact h1 (Option.some.inj q)
    · rw [hr] at q; exact h2 (Option.some.inj q))
  refine ⟨by rw [kp d _ h.od (by simp) (by simp)]; exact h.cell, ?_, fun x g hx => ?_, fun x hx => ?_, fun x g hx => ?_, ?_, ?_, fun x g hx => ?_, fun x g b hx q => ?_, fun b hb' => ?_⟩
  · obtain ⟨es, clock, hmb, r⟩ := h.map
    exact ⟨es, clock, by rw [kp m _ h.om (by simp) (by simp)]; exact hmb, r⟩
  · by_cases q : x = nm
    · subst q; exact h.has _ f e
    · rw [setF_other _ _ q] at hx; exact h.has x g hx
  · by_cases q : x = nm
    · subst q; rw [setF_same] at hx; cases hx
    · rw [setF_other _ _ q] at hx; exact h.hasnt x hx
  · by_cases q : x = nm
    · subst q
      rw [setF_same] at hx
      obtain rfl := Option.some.inj hx
      simp only [if_true]
      exact ⟨hb, ho, hs⟩
    · rw [setF_other _ _ q] at hx
      simp only [if_neg q]
      obtain ⟨q1, q2, q3⟩ := h.file x g hx
      refine ⟨by rw [kp _ _ (h.ofl x g hx) (by simpa using q) (by simp)]; exact q1, q2.keptC hc (fun b hb2 q4 => ?_), q3⟩
      have q5 := h.ov x g b hx hb2
      rcases q4 with q4 | q4
      · rw [q5] at q4; cases q4
      · rw [q5] at q4; injection q4 with q4; injection q4 with q4; exact q q4
  · rw [if_neg (hne d _ h.od (by simp))]; exact h.od
  · rw [if_neg (hne m _ h.om (by simp))]; exact h.om
  · have : ∃ g', st x = some g' := by
      by_cases q : x = nm
      · subst q; exact ⟨f, e⟩
      · rw [setF_other _ _ q] at hx; exact ⟨g, hx⟩
    obtain ⟨g', hg'⟩ := this
    rw [if_neg (hne _ _ (h.ofl x g' hg') (by simp))]; exact h.ofl x g' hg'
  · by_cases q2 : x = nm
    · subst q2
      simp only [if_true] at q
      rw [if_pos q]
    · rw [setF_other _ _ q2] at hx
      simp only [if_neg q2] at q
      have q3 := h.ov x g b hx q
      rw [if_neg (hne b _ q3 (by simpa using q2))]; exact q3
  · by_cases q : fv'.ownBlock = some b
    · exact World.ownsRow.lt ho b q
    · rw [if_neg q] at hb'
      exact ⟨(h.lo b hb').1, Nat.lt_of_lt_of_le (h.lo b hb').2 hc.size⟩

/-- The disk's own cells are written. -/
theorem DkI.setDisk {sz' : Nat} {may' : Value} {left' : Int} (h : DkI B d n m D fb fv own st sz may left w) (hc : Chg (fun b => b = d) w w')
    (hb : w'.heap[d]? = some (.cells #[.map (some m), .int .i64 (sz' : Int), may', .int .i64 left'] 55 (0, 0))) : DkI B d n m D fb fv own st sz' may' left' w' := by
  have hnd : ∀ b r, own b = some r → r ≠ .disk → b ≠ d := fun b r hr hrn q => by
    subst q; rw [h.od] at hr; exact hrn (Option.some.inj hr).symm
  have kp : ∀ b r, own b = some r → r ≠ .disk → w'.heap[b]? = w.heap[b]? := fun b r hr h1 => hc.block b (h.lo b (by rw [hr]; simp)).2 (hnd b r hr h1)
  refine ⟨hb, ?_, h.has, h.hasnt, fun x g hx => ?_, h.od, h.om, h.ofl, h.ov, fun b hb' => ⟨(h.lo b hb').1, Nat.lt_of_lt_of_le (h.lo b hb').2 hc.size⟩⟩
  · obtain ⟨es, clock, hmb, r⟩ := h.map
    exact ⟨es, clock, by rw [kp m _ h.om (by simp)]; exact hmb, r⟩
  · obtain ⟨q1, q2, q3⟩ := h.file x g hx
    exact ⟨by rw [kp _ _ (h.ofl x g hx) (by simp)]; exact q1, q2.keptC hc (fun b hb2 => hnd b _ (h.ov x g b hx hb2) (by simp)), q3⟩

/-- A new file: its cells in the new block g, and the map written. -/
theorem DkI.add {nm : Nm} {g : Nat} {w1 : World} (h : DkI B d n m D fb fv own st sz may left w) (e : st nm = none) (hsz : nm.length ≤ maxLen) (hg : w.heap.size ≤ g) (hB : B ≤ w.heap.size)
    (hc : Chg (fun b => b = m) w w') (hm : w'.ownsMap Try.prog 9 flE m (n + 1) (D.put (.string nm) (.lit (.int .u64 (g : Int))))) (hb : w'.heap[g]? = some (.cells #[.slice none 0 0, .int .i64 0] 74 (0, 0))) :
    DkI B d (n + 1) m (D.put (.string nm) (.lit (.int .u64 (g : Int)))) (fun x => if x = nm then g else fb x) (fun x => if x = nm then .slice none 0 0 else fv x) (fun b => if b = g then some (.file nm) else own b) (setF st nm (some ([], 0))) sz may left w' := by
  have hog : own g = none := by
    by_cases q : own g = none
    · exact q
    · have := (h.lo g q).2; omega
  have hne : ∀ b r, own b = some r → b ≠ g := fun b r hr q => by rw [q, hog] at hr; cases hr
  have hnm : ∀ b r, own b = some r → r ≠ .map → b ≠ m := fun b r hr hrn q => by
    subst q; rw [h.om] at hr; exact hrn (Option.some.inj hr).symm
  have kp : ∀ b r, own b = some r → r ≠ .map → w'.heap[b]? = w.heap[b]? := fun b r hr h1 => hc.block b (h.lo b (by rw [hr]; simp)).2 (hnm b r hr h1)
  have hglt : g < w'.heap.size := (Array.getElem?_eq_some_iff.1 hb).1
  refine ⟨by rw [kp d _ h.od (by simp)]; exact h.cell, hm, fun x f hx => ?_, fun x hx => ?_, fun x f hx => ?_, ?_, ?_, fun x f hx => ?_, fun x f b hx q => ?_, fun b hb' => ?_⟩
  · by_cases q : x = nm
    · subst q
      simp only [if_true]
      exact Maps.atKey_put_same h.map.isMap (by trivial) _ _
    · rw [setF_other _ _ q] at hx
      simp only [if_neg q]
      rw [Maps.atKey_put_other (by simpa using q)]; exact h.has x f hx
  · by_cases q : x = nm
    · subst q; rw [setF_same] at hx; cases hx
    · rw [setF_other _ _ q] at hx
      rw [Maps.has_put_other (by simpa using q)]; exact h.hasnt x hx
  · by_cases q : x = nm
    · subst q
      rw [setF_same] at hx
      obtain rfl := Option.some.inj hx
      simp only [if_true]
      exact ⟨hb, Ow.nil _ _, by simp⟩
    · rw [setF_other _ _ q] at hx
      simp only [if_neg q]
      obtain ⟨q1, q2, q3⟩ := h.file x f hx
      exact ⟨by rw [kp _ _ (h.ofl x f hx) (by simp)]; exact q1, q2.keptC hc (fun b hb2 => hnm b _ (h.ov x f b hx hb2) (by simp)), q3⟩
  · rw [if_neg (hne d _ h.od)]; exact h.od
  · rw [if_neg (hne m _ h.om)]; exact h.om
  · by_cases q : x = nm
    · subst q; simp
    · rw [setF_other _ _ q] at hx
      simp only [if_neg q]
      rw [if_neg (hne _ _ (h.ofl x f hx))]; exact h.ofl x f hx
  · by_cases q2 : x = nm
    · subst q2; simp [Value.ownBlock] at q
    · rw [setF_other _ _ q2] at hx
      simp only [if_neg q2] at q
      rw [if_neg (hne b _ (h.ov x f b hx q))]; exact h.ov x f b hx q
  · by_cases q : b = g
    · subst q; exact ⟨by omega, hglt⟩
    · rw [if_neg q] at hb'
      exact ⟨(h.lo b hb').1, Nat.lt_of_lt_of_le (h.lo b hb').2 hc.size⟩
end
end Go.Proofs.Ytbolnelbchffhac
