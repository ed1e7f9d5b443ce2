/- What Crash leaves of a disk. -/
import Derived.Test.YtbolnelbchffhacDkTear
import Derived.Test.YtbolnelbchffhacDkNames
namespace Go.Proofs.Ytbolnelbchffhac
open Go.RowKit Go.Maps
set_option linter.unusedVariables false
set_option maxRecDepth 100000

/-- The slice value v reads as these integers. -/
def RdI (w : World) (v : Value) (ks : List Int) : Prop :=
  ∃ ao c, v = .slice ao ks.length c ∧ ks.length ≤ c ∧ c ≤ maxLen ∧ ∀ i, (h : i < ks.length) → ∃ a, ao = some a ∧ w.cell? (a.add i) = some (.int .i64 ks[i])
theorem RdI.keptC {S : Nat → Prop} {w w' : World} {v : Value} {ks : List Int} (h : RdI w v ks) (hg : Chg S w w') (hne : ∀ b, v.ownBlock = some b → ¬ S b) : RdI w' v ks := by
  obtain ⟨ao, c, rfl, h1, h2, h4⟩ := h
  refine ⟨ao, c, rfl, h1, h2, fun i hi => ?_⟩
  obtain ⟨a, rfl, hc⟩ := h4 i hi
  have hlt := World.block_lt_of_cell? w _ hc
  rw [add_block] at hlt
  refine ⟨a, rfl, ?_⟩
  rw [World.cell?_of_block (w := w) (by rw [add_block]; exact hg.block a.block hlt (hne a.block rfl))]
  exact hc

/-- All bytes of the files that are named. -/
def sumB (st : Nm → Option (List UInt8 × Nat)) : List Nm → Nat
  | [] => 0
  | nm :: r => (match st nm with | some f => f.1.length | none => 0) + sumB st r
def keepAt (ks : List Int) (t : Nat) : Int := ks.getD t 0
/-- What a crash leaves, file by file. -/
def crashF : List Nm → List Int → Nat → (Nm → Option (List UInt8 × Nat)) → Nat → (Nm → Option (List UInt8 × Nat)) × Nat
  | [], _, _, st, sz => (st, sz)
  | nm :: r, ks, t, st, sz =>
    match st nm with
    | none => crashF r ks t st sz
    | some f => if f.2 = f.1.length then crashF r ks t st sz
      else crashF r ks (t + 1) (setF st nm (some (f.1.take (f.2 + stays (keepAt ks t) (f.1.length - f.2)), f.2 + stays (keepAt ks t) (f.1.length - f.2)))) (sz - (f.1.length - f.2 - stays (keepAt ks t) (f.1.length - f.2)))

theorem sumB_out (st : Nm → Option (List UInt8 × Nat)) (nm : Nm) (x : Option (List UInt8 × Nat)) : ∀ L : List Nm, nm ∉ L → sumB (setF st nm x) L = sumB st L
  | [], _ => rfl
  | k :: r, h => by
    have h1 : k ≠ nm := fun q => h (by rw [q]; exact List.mem_cons_self ..)
    simp only [sumB, setF_other _ _ h1, sumB_out st nm x r (fun q => h (List.mem_cons_of_mem _ q))]
theorem sumB_set (st : Nm → Option (List UInt8 × Nat)) (nm : Nm) (f g : List UInt8 × Nat) (e : st nm = some f) : ∀ L : List Nm, L.Nodup → nm ∈ L → sumB (setF st nm (some g)) L + f.1.length = sumB st L + g.1.length
  | [], _, h => by cases h
  | k :: r, hn, h => by
    have hn' := List.nodup_cons.1 hn
    by_cases q : k = nm
    · subst q
      simp only [sumB, setF_same, e, sumB_out st k _ r hn'.1]
      omega
    · have := sumB_set st nm f g e r hn'.2 (by rcases List.mem_cons.1 h with q2 | q2; exact absurd q2.symm q; exact q2)
      simp only [sumB, setF_other _ _ q]
      omega

section
variable {B d n m : Nat} {D : DataW Unit} {fb : Nm → Nat} {fv : Nm → Value} {own : Nat → Option Role} {st : Nm → Option (List UInt8 × Nat)} {sz : Nat} {may : Value} {left : Int} {w : World}

theorem DkI.name_le (h : DkI B d n m D fb fv own st sz may left w) {nm : Nm} (e : st nm ≠ none) : nm.length ≤ maxLen := by
  have hh := (h.has_iff nm).2 e
  obtain ⟨es, e1, hk⟩ := h.map.keysOf
  rw [e1, Maps.has_eq, List.any_eq_true] at hh
  obtain ⟨p, hp, hs⟩ := hh
  obtain ⟨v, hv⟩ := hk p hp
  obtain ⟨x, _, hx, hl⟩ := Maps.keyOf_str Try.underlying9 hv
  rw [hx] at hs
  have : x = nm := by simpa [Lit.sameKey] using hs
  rw [← this]; exact hl

theorem Dk.cell1 (h : Dk B d n own st sz may left w) : w.cell? ⟨d, 1, none⟩ = some (.int .i64 (sz : Int)) ∧ w.frozen? ⟨d, 1, none⟩ = false := by
  obtain ⟨m, D, fb, fv, h⟩ := h
  exact ⟨by rw [cell_of_row _ _ _ _ _ _ h.cell]; rfl, frozen_of_row _ _ _ _ _ h.cell⟩
theorem Dk.setSize (h : Dk B d n own st sz may left w) (k : Nat) : Dk B d n own st k may left (w.setCell ⟨d, 1, none⟩ (.int .i64 (k : Int))) ∧ Chg (fun b => own b ≠ none) w (w.setCell ⟨d, 1, none⟩ (.int .i64 (k : Int))) := by
  obtain ⟨m, D, fb, fv, h⟩ := h
  exact ⟨⟨m, D, fb, fv, h.setDisk ((Chg.refl (fun b => b = d) w).put d 1 _ rfl) (by rw [heap_setCell_same _ _ 1 _ _ _ h.cell]; rfl)⟩, (Chg.refl _ w).put d 1 _ (by rw [h.od]; simp)⟩

theorem own_cell0 {w : World} {B : Nat} {e : TypeId} {n : Nat} {v : Value} {xs : List Value} (h : w.ownsRow B e 1 v n xs) (i : Nat) (hi : i < n) : ∃ g c, v = .slice (some ⟨g, 0, none⟩) n c ∧ w.cell? ⟨g, i, none⟩ = xs[i]? := by
  rcases h.2 with ⟨_, e0⟩ | ⟨g, cap, cur, e, _⟩
  · omega
  · subst e
    exact ⟨g, cap, rfl, h.cellAt i (by omega)⟩
theorem encStr_string (l : List UInt8) : ∃ s : ByteArray, encStr l = .string s ∧ s.data.toList = l ∧ s.size = l.length := ⟨⟨l.toArray⟩, rfl, by simp, by simp [ByteArray.size]⟩

/-- What stands between two rounds. -/
structure CrashI (B d n : Nat) (own : Nat → Option Role) (st : Nm → Option (List UInt8 × Nat)) (may : Value) (left : Int) (L : List Nm) (ks : List Int) (fin : (Nm → Option (List UInt8 × Nat)) × Nat) (w1 : World) (k t : Nat) (own' : Nat → Option Role) (st' : Nm → Option (List UInt8 × Nat)) (sz' : Nat) (wr : World) : Prop where
  dk : Dk B d n own' st' sz' may left wr
  ext : ∀ b, own' b ≠ none → own b ≠ none ∨ w1.heap.size ≤ b
  chg : Chg (fun b => own b ≠ none) w1 wr
  fin : crashF (L.drop k) ks t st' sz' = fin
  dom : ∀ nm, st' nm ≠ none ↔ st nm ≠ none
  sum : sumB st' L = sz'
  small : ∀ nm f, st' nm = some f → f.1.length ≤ 16777216
  top : sz' ≤ 1099511627776

theorem CrashI.drN {L : List Nm} {ks : List Int} {fin : (Nm → Option (List UInt8 × Nat)) × Nat} {w1 wr : World} {k t : Nat} {own' : Nat → Option Role} {st' : Nm → Option (List UInt8 × Nat)} {sz' : Nat}
    (h : CrashI B d n own st may left L ks fin w1 k t own' st' sz' wr) (q : Nat) : CrashI B d n own st may left L ks fin w1 k t own' st' sz' (wr.drewN q) :=
  ⟨h.dk.drN q, h.ext, h.chg.dN q, h.fin, h.dom, h.sum, h.small, h.top⟩

/-- A file all of which is synced. -/
theorem CrashI.skip {L : List Nm} {ks : List Int} {fin : (Nm → Option (List UInt8 × Nat)) × Nat} {w1 wr : World} {k t : Nat} {own' : Nat → Option Role} {st' : Nm → Option (List UInt8 × Nat)} {sz' : Nat}
    (h : CrashI B d n own st may left L ks fin w1 k t own' st' sz' wr) (hk : k < L.length) {f : List UInt8 × Nat} (e : st' L[k] = some f) (hf : f.2 = f.1.length) : CrashI B d n own st may left L ks fin w1 (k + 1) t own' st' sz' wr := by
  refine ⟨h.dk, h.ext, h.chg, ?_, h.dom, h.sum, h.small, h.top⟩
  have := h.fin
  rw [List.drop_eq_getElem_cons hk, crashF, e] at this
  simp only [hf, if_true] at this
  exact this

/-- A file that is torn. -/
theorem CrashI.tear {L : List Nm} {ks : List Int} {fin : (Nm → Option (List UInt8 × Nat)) × Nat} {w1 wr w2 : World} {k t : Nat} {own' own2 : Nat → Option Role} {st' : Nm → Option (List UInt8 × Nat)} {sz' : Nat}
    (h : CrashI B d n own st may left L ks fin w1 k t own' st' sz' wr) (hL : L.Nodup) (hk : k < L.length) {f : List UInt8 × Nat} (e : st' L[k] = some f) (hf : f.2 < f.1.length)
    (hd : Dk B d n own2 (setF st' L[k] (some (f.1.take (f.2 + stays (keepAt ks t) (f.1.length - f.2)), f.2 + stays (keepAt ks t) (f.1.length - f.2)))) (sz' - (f.1.length - f.2 - stays (keepAt ks t) (f.1.length - f.2))) may left w2)
    (hx : ∀ b, own2 b ≠ none → own' b ≠ none ∨ wr.heap.size ≤ b) (hc : Chg (fun b => own' b ≠ none) wr w2) :
    CrashI B d n own st may left L ks fin w1 (k + 1) (t + 1) own2 (setF st' L[k] (some (f.1.take (f.2 + stays (keepAt ks t) (f.1.length - f.2)), f.2 + stays (keepAt ks t) (f.1.length - f.2)))) (sz' - (f.1.length - f.2 - stays (keepAt ks t) (f.1.length - f.2))) w2 := by
  have s1 := h.chg.size
  have hst : stays (keepAt ks t) (f.1.length - f.2) ≤ f.1.length - f.2 := by unfold stays; omega
  refine ⟨hd, fun b hb => ?_, h.chg.trans (hc.mono (fun b _ q => h.ext b q)), ?_, fun nm => ?_, ?_, fun nm g hg => ?_, by have := h.top; omega⟩
  · rcases hx b hb with q | q
    · exact h.ext b q
    · exact .inr (by omega)
  · have := h.fin
    rw [List.drop_eq_getElem_cons hk, crashF, e] at this
    simp only [if_neg (show ¬ f.2 = f.1.length by omega)] at this
    exact this
  · by_cases q : nm = L[k]
    · rw [q, setF_same, ← h.dom]; simp [e]
    · rw [setF_other _ _ q]; exact h.dom nm
  · have := sumB_set st' L[k] f (f.1.take (f.2 + stays (keepAt ks t) (f.1.length - f.2)), f.2 + stays (keepAt ks t) (f.1.length - f.2)) e L hL (List.getElem_mem hk)
    simp only [List.length_take] at this
    rw [h.sum] at this
    omega
  · by_cases q : nm = L[k]
    · rw [q, setF_same] at hg
      obtain rfl := Option.some.inj hg
      have := h.small _ f e
      simp only [List.length_take]; omega
    · rw [setF_other _ _ q] at hg; exact h.small nm g hg
end
end Go.Proofs.Ytbolnelbchffhac
