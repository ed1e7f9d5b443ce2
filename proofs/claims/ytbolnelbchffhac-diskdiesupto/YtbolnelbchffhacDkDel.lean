/- What becomes of a disk in memory where a file is taken out of the map, and where one that lies in memory is put into it. -/
import Derived.Test.YtbolnelbchffhacDkWrite
namespace Go.Proofs.Ytbolnelbchffhac
open Go.RowKit
set_option linter.unusedVariables false
set_option maxRecDepth 100000

/-- The roles without those of one file. -/
def strike (own : Nat → Option Role) (nm : Nm) : Nat → Option Role := fun b =>
  match own b with
  | some (.file k) => if k = nm then none else some (.file k)
  | some (.data k) => if k = nm then none else some (.data k)
  | r => r
theorem strike_keep {own : Nat → Option Role} {nm : Nm} {b : Nat} {r : Role} (h : own b = some r) (h1 : r ≠ .file nm) (h2 : r ≠ .data nm) : strike own nm b = some r := by
  unfold strike
  rw [h]
  cases r with
  | disk => rfl
  | map => rfl
  | file k => simp only []; rw [if_neg (fun q => h1 (by rw [q]))]
  | data k => simp only []; rw [if_neg (fun q => h2 (by rw [q]))]
theorem strike_sub {own : Nat → Option Role} {nm : Nm} {b : Nat} (h : strike own nm b ≠ none) : own b ≠ none := by
  intro q
  apply h
  unfold strike
  rw [q]
theorem strike_file {own : Nat → Option Role} {nm : Nm} {b : Nat} (h : own b = some (.file nm)) : strike own nm b = none := by
  unfold strike; rw [h]; simp
theorem strike_data {own : Nat → Option Role} {nm : Nm} {b : Nat} (h : own b = some (.data nm)) : strike own nm b = none := by
  unfold strike; rw [h]; simp

section
variable {B d n m : Nat} {D : DataW Unit} {fb : Nm → Nat} {fv : Nm → Value} {own : Nat → Option Role} {st : Nm → Option (List UInt8 × Nat)} {sz : Nat} {may : Value} {left : Int} {w w' : World}

theorem DkI.del (h : DkI B d n m D fb fv own st sz may left w) (nm : Nm) (hc : Chg (fun b => b = m) w w') (hm : w'.ownsMap Try.prog 9 flE m n (D.del (.string nm))) :
    DkI B d n m (D.del (.string nm)) fb fv (strike own nm) (setF st nm none) sz may left w' := by
  have hnm : ∀ b r, own b = some r → r ≠ .map → b ≠ m := fun b r hr hrn q => by
    subst q; rw [h.om] at hr; exact hrn (Option.some.inj hr).symm
  have kp : ∀ b r, own b = some r → r ≠ .map → w'.heap[b]? = w.heap[b]? := fun b r hr h1 => hc.block b (h.lo b (by rw [hr]; simp)).2 (hnm b r hr h1)
  have hx : ∀ x f, setF st nm none x = some f → x ≠ nm ∧ st x = some f := fun x f e => by
    by_cases q : x = nm
    · subst q; rw [setF_same] at e; cases e
    · rw [setF_other _ _ q] at e; exact ⟨q, e⟩
  refine ⟨by rw [kp d _ h.od (by simp)]; exact h.cell, hm, fun x f e => ?_, fun x e => ?_, fun x f e => ?_, strike_keep h.od (by simp) (by simp), strike_keep h.om (by simp) (by simp), fun x f e => ?_, fun x f b e q => ?_, fun b hb => ?_⟩
  · obtain ⟨q, e'⟩ := hx x f e
    rw [Maps.atKey_del_other (by simpa using q)]; exact h.has x f e'
  · by_cases q : x = nm
    · subst q; exact Maps.has_del_same
    · rw [setF_other _ _ q] at e
      rw [Maps.has_del_other (by simpa using q)]; exact h.hasnt x e
  · obtain ⟨q, e'⟩ := hx x f e
    obtain ⟨q1, q2, q3⟩ := h.file x f e'
    exact ⟨by rw [kp _ _ (h.ofl x f e') (by simp)]; exact q1, q2.keptC hc (fun b hb2 => hnm b _ (h.ov x f b e' hb2) (by simp)), q3⟩
  · obtain ⟨q, e'⟩ := hx x f e
    exact strike_keep (h.ofl x f e') (by simpa using q) (by simp)
  · obtain ⟨q2, e'⟩ := hx x f e
    exact strike_keep (h.ov x f b e' q) (by simp) (by simpa using q2)
  · have := h.lo b (strike_sub hb)
    exact ⟨this.1, Nat.lt_of_lt_of_le this.2 hc.size⟩

theorem DkI.link (h : DkI B d n m D fb fv own st sz may left w) {nm : Nm} (e : st nm = none) {g : Nat} {v : Value} {bytes : List UInt8} {s : Nat} (hg : own g = none) (hgB : B ≤ g)
    (hcell : w.heap[g]? = some (.cells #[v, .int .i64 (s : Int)] 74 (0, 0))) (ho : Ow B w v bytes) (hv : ∀ b, v.ownBlock = some b → own b = none ∧ b ≠ g) (hs : s ≤ bytes.length)
    (hc : Chg (fun b => b = m) w w') (hm : w'.ownsMap Try.prog 9 flE m (n + 1) (D.put (.string nm) (.lit (.int .u64 (g : Int))))) :
    DkI B d (n + 1) m (D.put (.string nm) (.lit (.int .u64 (g : Int)))) (fun x => if x = nm then g else fb x) (fun x => if x = nm then v else fv x) (fun b => if b = g then some (.file nm) else if v.ownBlock = some b then some (.data nm) else own b) (setF st nm (some (bytes, s))) sz may left w' := by
  have hnm : ∀ b r, own b = some r → r ≠ .map → b ≠ m := fun b r hr hrn q => by
    subst q; rw [h.om] at hr; exact hrn (Option.some.inj hr).symm
  have kp : ∀ b r, own b = some r → r ≠ .map → w'.heap[b]? = w.heap[b]? := fun b r hr h1 => hc.block b (h.lo b (by rw [hr]; simp)).2 (hnm b r hr h1)
  have hom : ∀ b, own b = none → b ≠ m := fun b q q2 => by rw [q2, h.om] at q; cases q
  have hk : ∀ b r, own b = some r → (if b = g then some (Role.file nm) else if v.ownBlock = some b then some (.data nm) else own b) = some r := fun b r hr => by
    rw [if_neg (fun q => by rw [q, hg] at hr; cases hr), if_neg (fun q => by rw [(hv b q).1] at hr; cases hr)]; exact hr
  have hgl : g < w.heap.size := (Array.getElem?_eq_some_iff.1 hcell).1
  have hx : ∀ x f, x ≠ nm → setF st nm (some (bytes, s)) x = some f → st x = some f := fun x f q e => by rw [setF_other _ _ q] at e; exact e
  have ho' : Ow B w' v bytes := ho.keptC hc (fun b hb => hom b (hv b hb).1)
  refine ⟨by rw [kp d _ h.od (by simp)]; exact h.cell, hm, fun x f e1 => ?_, fun x e1 => ?_, fun x f e1 => ?_, hk d _ h.od, hk m _ h.om, fun x f e1 => ?_, fun x f b e1 q => ?_, fun b hb => ?_⟩
  · by_cases q : x = nm
    · subst q
      simp only [if_true]
      exact Maps.atKey_put_same h.map.isMap (by trivial) _ _
    · simp only [if_neg q]
      rw [Maps.atKey_put_other (by simpa using q)]; exact h.has x f (hx x f q e1)
  · by_cases q : x = nm
    · subst q; rw [setF_same] at e1; cases e1
    · rw [setF_other _ _ q] at e1
      rw [Maps.has_put_other (by simpa using q)]; exact h.hasnt x e1
  · by_cases q : x = nm
    · subst q
      rw [setF_same] at e1
      obtain rfl := Option.some.inj e1
      simp only [if_true]
      exact ⟨by rw [hc.block g hgl (hom g hg)]; exact hcell, ho', hs⟩
    · simp only [if_neg q]
      obtain ⟨q1, q2, q3⟩ := h.file x f (hx x f q e1)
      exact ⟨by rw [kp _ _ (h.ofl x f (hx x f q e1)) (by simp)]; exact q1, q2.keptC hc (fun b hb2 => hnm b _ (h.ov x f b (hx x f q e1) hb2) (by simp)), q3⟩
  · by_cases q : x = nm
    · subst q; simp
    · simp only [if_neg q]; exact hk _ _ (h.ofl x f (hx x f q e1))
  · by_cases q2 : x = nm
    · subst q2
      simp only [if_true] at q
      rw [if_neg (hv b q).2, if_pos q]
    · simp only [if_neg q2] at q; exact hk b _ (h.ov x f b (hx x f q2 e1) q)
  · by_cases q : b = g
    · subst q; exact ⟨hgB, Nat.lt_of_lt_of_le hgl hc.size⟩
    · rw [if_neg q] at hb
      by_cases q2 : v.ownBlock = some b
      · exact World.ownsRow.lt ho' b q2
      · rw [if_neg q2] at hb
        exact ⟨(h.lo b hb).1, Nat.lt_of_lt_of_le (h.lo b hb).2 hc.size⟩
end
end Go.Proofs.Ytbolnelbchffhac
