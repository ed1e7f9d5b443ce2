/- What Write of a living disk does, where it answers OK. -/
import Derived.Test.YtbolnelbchffhacDkOps
import Derived.Test.YtbolnelbchffhacAppN
namespace Go.Proofs.Ytbolnelbchffhac
open Go.RowKit
set_option linter.unusedVariables false
set_option maxRecDepth 100000

/-- What Write leaves of a file. -/
def wrF (o : Option (List UInt8 × Nat)) (l : List UInt8) : List UInt8 × Nat := match o with | some f => (f.1 ++ l, f.2) | none => (l, 0)

theorem Below.heap_dN (w : World) (q : Nat) : (w.drewN q).heap = w.heap := rfl

section
variable {B d n m : Nat} {D : DataW Unit} {fb : Nm → Nat} {fv : Nm → Value} {own : Nat → Option Role} {st : Nm → Option (List UInt8 × Nat)} {sz : Nat} {may : Value} {left : Int} {w w3 : World}

theorem DkI.mono (h : DkI B d n m D fb fv own st sz may left w) {n' : Nat} (hn : n ≤ n') : DkI B d n' m D fb fv own st sz may left w :=
  ⟨h.cell, h.map.mono hn, h.has, h.hasnt, h.file, h.od, h.om, h.ofl, h.ov, h.lo⟩

/-- Behind the append: what the walk asks of the two blocks. -/
theorem DkI.grew (h : DkI B d n m D fb fv own st sz may left w) {nm : Nm} {f : List UInt8 × Nat} (e : st nm = some f) (hg : w.grownBy w3 (fv nm).ownBlock) :
    (∃ u, w3.cell? ⟨fb nm, 0, none⟩ = some u) ∧ w3.frozen? ⟨fb nm, 0, none⟩ = false ∧ ∀ v, (w3.setCell ⟨fb nm, 0, none⟩ v).cell? ⟨d, 1, none⟩ = some (.int .i64 (sz : Int)) ∧ (w3.setCell ⟨fb nm, 0, none⟩ v).frozen? ⟨d, 1, none⟩ = false := by
  obtain ⟨h1, h2, h3⟩ := h.file nm f e
  have hof := h.ofl nm f e
  have hod := h.od
  have k1 : w3.heap[fb nm]? = w.heap[fb nm]? := hg.block _ (h.lo _ (by rw [hof]; simp)).2 (fun q => by have := h.ov nm f _ e q.symm; rw [hof] at this; cases this)
  have k2 : w3.heap[d]? = w.heap[d]? := hg.block _ (h.lo _ (by rw [hod]; simp)).2 (fun q => by have := h.ov nm f _ e q.symm; rw [hod] at this; cases this)
  rw [h1] at k1
  rw [h.cell] at k2
  have hdf : d ≠ fb nm := fun q => by rw [← q, hod] at hof; cases hof
  have k3 : ∀ v, (w3.setCell ⟨fb nm, 0, none⟩ v).heap[d]? = some (.cells #[.map (some m), .int .i64 (sz : Int), may, .int .i64 left] 55 (0, 0)) := fun v => by
    rw [Below.heap_setCell _ _ _ _ hdf]; exact k2
  exact ⟨⟨_, by rw [cell_of_row _ _ _ _ _ _ k1]; rfl⟩, frozen_of_row _ _ _ _ _ k1, fun v => ⟨by rw [cell_of_row _ _ _ _ _ _ (k3 v)]; rfl, frozen_of_row _ _ _ _ _ (k3 v)⟩⟩

/-- Behind all of it. -/
theorem DkI.wrote (h : DkI B d n m D fb fv own st sz may left w) {nm : Nm} {f : List UInt8 × Nat} {v3 : Value} {l : List UInt8} (e : st nm = some f) (hg : w.grownBy w3 (fv nm).ownBlock) (ho : Ow B w3 v3 (f.1 ++ l)) (hv : v3.ownBlock = (fv nm).ownBlock ∨ v3.ownBlock = some w.heap.size) :
    (∃ own', Dk B d n own' (setF st nm (some (f.1 ++ l, f.2))) (sz + l.length) may left ((w3.setCell ⟨fb nm, 0, none⟩ v3).setCell ⟨d, 1, none⟩ (.int .i64 ((sz + l.length : Nat) : Int))) ∧ ∀ b, own' b ≠ none → own b ≠ none ∨ w.heap.size ≤ b) ∧
      Chg (fun b => own b ≠ none) w ((w3.setCell ⟨fb nm, 0, none⟩ v3).setCell ⟨d, 1, none⟩ (.int .i64 ((sz + l.length : Nat) : Int))) := by
  obtain ⟨h1, h2, h3⟩ := h.file nm f e
  have hof := h.ofl nm f e
  have hod := h.od
  have k1 : w3.heap[fb nm]? = w.heap[fb nm]? := hg.block _ (h.lo _ (by rw [hof]; simp)).2 (fun q => by have := h.ov nm f _ e q.symm; rw [hof] at this; cases this)
  rw [h1] at k1
  have hfb := (h.lo _ (show own (fb nm) ≠ none by rw [hof]; simp))
  have c1 : Chg (fun b => own b = some (.file nm) ∨ own b = some (.data nm)) w (w3.setCell ⟨fb nm, 0, none⟩ v3) := (Chg.of_grown hg (fun b q _ => .inr (h.ov nm f b e q))).put (fb nm) 0 v3 (.inl hof)
  have hvb : ∀ b, v3.ownBlock = some b → own b = some (.data nm) ∨ w.heap.size ≤ b := fun b q => by
    rcases hv with q2 | q2
    · rw [q2] at q; exact .inl (h.ov nm f b e q)
    · rw [q2] at q; exact .inr (by have := Option.some.inj q; omega)
  have ho4 : Ow B (w3.setCell ⟨fb nm, 0, none⟩ v3) v3 (f.1 ++ l) := by
    refine ho.keptC (Chg.of_grown (S := fun b => b = fb nm) (grown_set0 w3 (fb nm) 0 v3) (fun b q _ => (Option.some.inj q).symm)) (fun b q q2 => ?_)
    rcases hvb b q with q3 | q3
    · rw [q2, hof] at q3; cases q3
    · omega
  have hu := h.upd e c1 (fv' := v3) (bytes' := f.1 ++ l) (s' := f.2) (by rw [heap_setCell_same w3 _ 0 _ _ _ k1]; rfl) ho4 (by rw [List.length_append]; omega) hvb
  refine ⟨⟨_, ⟨m, D, fb, _, hu.setDisk ((Chg.refl _ _).put d 1 _ rfl) (by rw [heap_setCell_same _ _ 1 _ _ _ hu.cell]; rfl)⟩, fun b hb => ?_⟩, ?_⟩
  · by_cases q : v3.ownBlock = some b
    · rcases hvb b q with q3 | q3
      · left; rw [q3]; simp
      · exact .inr q3
    · rw [if_neg q] at hb; exact .inl hb
  · refine (c1.mono (fun b _ q => ?_)).put d 1 _ (by rw [hod]; simp)
    rcases q with q | q <;> rw [q] <;> simp

theorem cell_no_map {w : World} {mb : Nat} {es : Array MapEntry} {clock : Nat} (h : w.heap[mb]? = some (.map es clock)) (a : Addr) (ha : a.block = mb) : w.cell? a = none := by
  subst ha
  simp [World.cell?, h]

theorem Rd.offMap {mb : Nat} {es : Array MapEntry} {clock : Nat} {w w' : World} {v : Value} {l : List UInt8} (h : Rd w v l) (hm : w.heap[mb]? = some (.map es clock)) (hc : Chg (fun b => b = mb) w w') : Rd w' v l := by
  obtain ⟨ao, c, rfl, h1, h2, h3, h4⟩ := h
  refine ⟨ao, c, rfl, h1, h2, h3, fun i hi => ?_⟩
  obtain ⟨a, rfl, hce⟩ := h4 i hi
  have hlt := World.block_lt_of_cell? w _ hce
  refine ⟨a, rfl, ?_⟩
  rw [World.cell?_of_block (w := w) (hc.block _ hlt (fun q => by rw [cell_no_map hm _ q] at hce; cases hce))]
  exact hce

/-- A new file in the map. -/
theorem DkI.put1 (h : DkI B d n m D fb fv own st sz may left w) {nm : Nm} (e : st nm = none) (hsz : nm.length ≤ maxLen) (q : Nat) {w2 : World} (hown2 : w2.ownsMap Try.prog 9 flE m (n + 1) (D.put (.string nm) (.lit (.int .u64 (w.heap.size : Int)))))
    (hg2 : ((w.drewN q).alloc (.cells #[.slice none 0 0, .int .i64 0] 74)).grownBy w2 (some m)) :
    DkI B d (n + 1) m (D.put (.string nm) (.lit (.int .u64 (w.heap.size : Int)))) (fun x => if x = nm then w.heap.size else fb x) (fun x => if x = nm then .slice none 0 0 else fv x) (fun b => if b = w.heap.size then some (.file nm) else own b) (setF st nm (some ([], 0))) sz may left w2 ∧
      w2.cell? ⟨w.heap.size, 0, none⟩ = some (.slice none 0 0) ∧ Chg (fun b => b = m) w w2 ∧ B ≤ w2.heap.size ∧ ∀ v l, Rd w v l → Rd w2 v l := by
  have hd := h.lo d (by rw [h.od]; simp)
  have hm := h.lo m (by rw [h.om]; simp)
  have hc1 : Chg (fun b => b = m) w ((w.drewN q).alloc (.cells #[.slice none 0 0, .int .i64 0] 74)) := ((Chg.of_below (Below.dN w q)).mono (S' := fun b => b = m) (fun b hb q => by omega)).alloc _
  have hc : Chg (fun b => b = m) w w2 := hc1.trans (Chg.of_grown hg2 (fun b q _ => .inl (Option.some.inj q).symm))
  have hblk : w2.heap[w.heap.size]? = some (.cells #[.slice none 0 0, .int .i64 0] 74 (0, 0)) := by
    rw [hg2.block _ (by simp) (fun q => by have := Option.some.inj q; omega)]
    show ((w.drewN q).heap.push _)[(w.drewN q).heap.size]? = _
    simp
  refine ⟨h.add (w1 := w) e hsz (Nat.le_refl _) (by omega) hc hown2 hblk, by rw [cell_of_row _ _ _ _ _ _ hblk]; rfl, hc, by have := hc.size; omega, fun v l hr => ?_⟩
  obtain ⟨es, clock, hmb, _⟩ := h.map
  exact hr.offMap hmb hc

theorem setF_setF (st : Nm → Option (List UInt8 × Nat)) (nm : Nm) (x y : Option (List UInt8 × Nat)) : setF (setF st nm x) nm y = setF st nm y := by
  funext k
  by_cases h : k = nm
  · subst h; rw [setF_same, setF_same]
  · rw [setF_other _ _ h, setF_other _ _ h, setF_other _ _ h]

/-- A new file, and its first bytes. -/
theorem DkI.first (h : DkI B d n m D fb fv own st sz may left w) {nm : Nm} (e : st nm = none) (hsz : nm.length ≤ maxLen) (q : Nat) {w2 : World} (hown2 : w2.ownsMap Try.prog 9 flE m (n + 1) (D.put (.string nm) (.lit (.int .u64 (w.heap.size : Int)))))
    (hg2 : ((w.drewN q).alloc (.cells #[.slice none 0 0, .int .i64 0] 74)).grownBy w2 (some m)) (w3 : World) (hg : w2.grownBy w3 none) :
    ((∃ u, w3.cell? ⟨w.heap.size, 0, none⟩ = some u) ∧ w3.frozen? ⟨w.heap.size, 0, none⟩ = false ∧ ∀ v, (w3.setCell ⟨w.heap.size, 0, none⟩ v).cell? ⟨d, 1, none⟩ = some (.int .i64 (sz : Int)) ∧ (w3.setCell ⟨w.heap.size, 0, none⟩ v).frozen? ⟨d, 1, none⟩ = false) ∧
    ∀ v3 l, Ow B w3 v3 l → (v3.ownBlock = none ∨ v3.ownBlock = some w2.heap.size) →
      (∃ own', Dk B d (n + 1) own' (setF st nm (some (l, 0))) (sz + l.length) may left ((w3.setCell ⟨w.heap.size, 0, none⟩ v3).setCell ⟨d, 1, none⟩ (.int .i64 ((sz + l.length : Nat) : Int))) ∧ ∀ b, own' b ≠ none → own b ≠ none ∨ w.heap.size ≤ b) ∧
      Chg (fun b => own b ≠ none) w ((w3.setCell ⟨w.heap.size, 0, none⟩ v3).setCell ⟨d, 1, none⟩ (.int .i64 ((sz + l.length : Nat) : Int))) := by
  obtain ⟨h2, _, hc2, hB2, _⟩ := h.put1 e hsz q hown2 hg2
  have hg' : w2.grownBy w3 ((fun x => if x = nm then Value.slice none 0 0 else fv x) nm).ownBlock := by simp only [↓reduceIte]; exact hg
  have g := h2.grew (setF_same _ _ _) hg'
  simp only [↓reduceIte] at g
  refine ⟨g, fun v3 l ho hv => ?_⟩
  have x := h2.wrote (setF_same _ _ _) (v3 := v3) (l := l) hg' (by simpa using ho) (by simp only [↓reduceIte]; exact hv)
  simp only [↓reduceIte, List.nil_append, setF_setF] at x
  obtain ⟨⟨own', x1, x2⟩, x3⟩ := x
  have s2 := hc2.size
  refine ⟨⟨own', x1, fun b hb => ?_⟩, (hc2.mono (fun b _ q => by rw [q, h.om]; simp)).trans (x3.mono (fun b hb q => ?_))⟩
  · rcases x2 b hb with q | q
    · by_cases q2 : b = w.heap.size
      · exact .inr (by omega)
      · rw [if_neg q2] at q; exact .inl q
    · exact .inr (by omega)
  · by_cases q2 : b = w.heap.size
    · exact .inr (by omega)
    · rw [if_neg q2] at q; exact .inl q
end
end Go.Proofs.Ytbolnelbchffhac
