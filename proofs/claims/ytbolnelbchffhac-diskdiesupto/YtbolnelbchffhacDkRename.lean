/- What Rename of a living disk does, where it answers OK. -/
import Derived.Test.YtbolnelbchffhacDkDrop
namespace Go.Proofs.Ytbolnelbchffhac
open Go.RowKit
set_option linter.unusedVariables false
set_option maxRecDepth 100000

section
variable {B d n m : Nat} {D : DataW Unit} {fb : Nm → Nat} {fv : Nm → Value} {own : Nat → Option Role} {st : Nm → Option (List UInt8 × Nat)} {sz : Nat} {may : Value} {left : Int} {w : World}

theorem strike_none {own : Nat → Option Role} {nm : Nm} {b : Nat} (h : own b = none) : strike own nm b = none := by
  by_cases q : strike own nm b = none
  · exact q
  · exact absurd h (strike_sub q)
theorem strike_role {own : Nat → Option Role} {nm : Nm} {b : Nat} {r : Role} (h : strike own nm b = some r) : own b = some r := by
  unfold strike at h
  split at h
  · rename_i k e
    split at h
    · cases h
    · rw [e]; exact h
  · rename_i k e
    split at h
    · cases h
    · rw [e]; exact h
  · exact h

/-- A file that has been taken out of the map still lies in memory. -/
structure Loose (B : Nat) (own : Nat → Option Role) (g : Nat) (v : Value) (f : List UInt8 × Nat) (w : World) : Prop where
  cell : w.heap[g]? = some (.cells #[v, .int .i64 (f.2 : Int)] 74 (0, 0))
  ow : Ow B w v f.1
  le : f.2 ≤ f.1.length
  lo : B ≤ g
  out : own g = none
  vout : ∀ b, v.ownBlock = some b → own b = none ∧ b ≠ g

theorem Loose.next {own own' : Nat → Option Role} {g : Nat} {v : Value} {f : List UInt8 × Nat} {w w' : World} {S : Nat → Prop} (h : Loose B own g v f w) (hc : Chg S w w') (hS : ∀ b, own b = none → ¬ S b) (ho : ∀ b, own b = none → own' b = none) : Loose B own' g v f w' :=
  ⟨by rw [hc.block g (Array.getElem?_eq_some_iff.1 h.cell).1 (hS g h.out)]; exact h.cell, h.ow.keptC hc (fun b hb => hS b (h.vout b hb).1), h.le, h.lo, ho g h.out, fun b hb => ⟨ho b (h.vout b hb).1, (h.vout b hb).2⟩⟩

theorem Chg.dN0 (w : World) (q : Nat) : Chg (fun _ => False) w (w.drewN q) := ⟨rfl, rfl, rfl, Nat.le_refl _, fun _ _ _ => rfl⟩

theorem DkI.loose (h : DkI B d n m D fb fv own st sz may left w) {nm : Nm} {f : List UInt8 × Nat} (e : st nm = some f) {w' : World} (hc : Chg (fun b => b = m) w w') : Loose B (strike own nm) (fb nm) (fv nm) f w' := by
  obtain ⟨h1, h2, h3⟩ := h.file nm f e
  have hof := h.ofl nm f e
  have hgm : fb nm ≠ m := fun q => by rw [q, h.om] at hof; cases hof
  refine ⟨by rw [hc.block _ (h.lo _ (by rw [hof]; simp)).2 hgm]; exact h1, h2.keptC hc (fun b hb q => ?_), h3, (h.lo _ (by rw [hof]; simp)).1, strike_file hof, fun b hb => ⟨strike_data (h.ov nm f b e hb), fun q => ?_⟩⟩
  · have := h.ov nm f b e hb
    rw [q, h.om] at this; cases this
  · have := h.ov nm f b e hb
    rw [q, hof] at this; cases this

/-- What the last store of Rename leaves. -/
theorem Loose.link {own : Nat → Option Role} {st : Nm → Option (List UInt8 × Nat)} {g : Nat} {v : Value} {f : List UInt8 × Nat} {w w' : World} {nm : Nm} (hl : Loose B own g v f w) (h : DkI B d n m D fb fv own st sz may left w) (e : st nm = none)
    (hc : Chg (fun b => b = m) w w') (hm : w'.ownsMap Try.prog 9 flE m (n + 1) (D.put (.string nm) (.lit (.int .u64 (g : Int))))) :
    Dk B d (n + 1) (fun b => if b = g then some (.file nm) else if v.ownBlock = some b then some (.data nm) else own b) (setF st nm (some f)) sz may left w' :=
  ⟨_, _, _, _, h.link e hl.out hl.lo hl.cell hl.ow hl.vout hl.le hc hm⟩

set_option maxHeartbeats 2000000 in
theorem rename_new (h : Dk B d n own st sz (alive d) left w) (s t : ByteArray) (hs : s.size ≤ maxLen) (ht1 : 1 ≤ t.size) (ht2 : t.size ≤ 64) (f : List UInt8 × Nat) (e : st s.data.toList = some f) (et : setF st s.data.toList none t.data.toList = none) (hn : n ≤ 1099511627776) :
    Calls Try.prog 21 #[.pointer (some ⟨d, 0, none⟩), .string s, .string t] w fun e w' => e = .returned (.int .i64 0) ∧ (∃ own', Dk B d (n + 1) own' (setF (setF st s.data.toList none) t.data.toList (some f)) sz (alive d) left w' ∧ ∀ b, own' b ≠ none → own b ≠ none ∨ w.heap.size ≤ b) ∧ Chg (fun b => own b ≠ none) w w' := by
  have e0 := e
  have htl : t.size ≤ maxLen := by unfold maxLen; omega
  have hrf := fun q => refuseRename_any (h.drN q) s t hs
  have hr0 : rErr st s t = 0 := by unfold rErr; rw [if_neg (by rw [e]; simp), if_neg (by simp; omega)]
  simp only [hr0] at hrf
  clear hr0
  obtain ⟨m, D, fb, fv, h⟩ := h
  have hnm : n < maxLen := by unfold maxLen; omega
  have c0 : w.cell? ⟨d, 0, none⟩ = some (.map (some m)) := by rw [cell_of_row _ _ _ _ _ _ h.cell]; rfl
  have c2 : w.cell? ⟨d, 2, none⟩ = some (.func (.func 24) #[.pointer (some ⟨d, 0, none⟩)] #[]) := by rw [cell_of_row _ _ _ _ _ _ h.cell]; rfl
  have hrun := fun q => (h.drN q).look s hs f e
  have hkey := WideMaps.keyOf_string_mk (P := Try.prog) (k := 9) Try.underlying9 hs
  have hkeyt := WideMaps.keyOf_string_mk (P := Try.prog) (k := 9) Try.underlying9 htl
  have hmap : ∀ q, (w.drewN q).ownsMap Try.prog 9 flE m n D := fun q => (h.drN q).map
  have H : Hid _ := h
  have hof := h.ofl _ f e
  clear h
  generalize hg : fb s.data.toList = g at *
  go_enter Try.func21, Try.ntmps21
  go_wp2_with fail
  go_quiet (first | (go_at_call 46; refine Calls.quiet_of (v := .int .i64 0) (hrf _)) | (go_at_call 24; refine Calls.quiet_of_same (v := .int .i64 0) (alive_any _ _ _ _)) | fail)
  go_wp2_with (first | (at_delete; refine wpList_delete_own _ rfl _ _ 51 9 rfl 72 Try.strKeyed Try.underlying51 flE m n D rfl (hmap _) _ _ rfl hkey ?_; intro w1 hown1 hturn1) | fail)
  have hc1 : Chg (fun b => b = m) (w.drewN nq) w1 := Chg.of_grown hturn1.grown (fun b q _ => (Option.some.inj q).symm)
  have h1 := (H.out.drN nq).del s.data.toList hc1 hown1
  have l1 := (H.out.drN nq).loose e hc1
  refine (drop_not ⟨_, _, _, _, h1⟩ t htl et).mono ?_
  rintro e w2 ⟨⟨v2, rfl⟩, q2, rfl⟩
  have h2 := h1.drN q2
  have l2 := l1.next (own' := strike own s.data.toList) (Chg.dN0 w1 q2) (fun _ _ q => q) (fun b q => q)
  have c02 : w1.cell? ⟨d, 0, none⟩ = some (.map (some m)) := by rw [cell_of_row _ _ _ _ _ _ h1.cell]; rfl
  have hmap2 := h2.map
  have H2 : Hid _ := And.intro h2 l2
  clear h2 l2 h1 l1 hown1 hturn1
  go_wp2_with (first | (at_mapUpdate; refine wpList_mapUpdate_own _ rfl _ _ _ 51 rfl 9 72 Try.strKeyed Try.underlying51 flE m n _ rfl hmap2 hnm _ _ _ rfl rfl hkeyt (.lit (.int .u64 (g : Int))) [] rfl ?_; intro w3 hown3 hg3) | fail)
  go_ret
  have hc3 : Chg (fun b => b = m) (w1.drewN q2) w3 := Chg.of_grown hg3 (fun b q _ => (Option.some.inj q).symm)
  rw [hg] at H2
  have hfin := H2.out.2.link H2.out.1 et hc3 hown3
  have hmo : own m ≠ none := by rw [H.out.om]; simp
  have d0 : Chg (fun b => own b ≠ none) w (w.drewN nq) := (Chg.dN0 w nq).mono (fun _ _ q => q.elim)
  have d1 : Chg (fun b => own b ≠ none) w w1 := d0.trans (hc1.mono (fun b _ q => Or.inl (by rw [q]; exact hmo)))
  have d2 : Chg (fun b => own b ≠ none) w (w1.drewN q2) := d1.dN q2
  refine ⟨rfl, ⟨_, hfin, fun b hb => Or.inl ?_⟩, d2.trans (hc3.mono (fun b _ q => Or.inl (by rw [q]; exact hmo)))⟩
  by_cases q : b = g
  · rw [q, hof]; simp
  · rw [if_neg q] at hb
    by_cases q3 : (fv s.data.toList).ownBlock = some b
    · rw [H.out.ov _ f b e0 q3]; simp
    · rw [if_neg q3] at hb; exact strike_sub hb

set_option maxHeartbeats 2000000 in
theorem rename_over (h : Dk B d n own st sz (alive d) left w) (s t : ByteArray) (hs : s.size ≤ maxLen) (ht1 : 1 ≤ t.size) (ht2 : t.size ≤ 64) (f f2 : List UInt8 × Nat) (e : st s.data.toList = some f) (et : setF st s.data.toList none t.data.toList = some f2) (hn : n ≤ 1099511627776) (hf2 : f2.1.length ≤ sz) (hz : sz ≤ 1099511627776) :
    Calls Try.prog 21 #[.pointer (some ⟨d, 0, none⟩), .string s, .string t] w fun e w' => e = .returned (.int .i64 0) ∧ (∃ own', Dk B d (n + 1) own' (setF (setF st s.data.toList none) t.data.toList (some f)) (sz - f2.1.length) (alive d) left w' ∧ ∀ b, own' b ≠ none → own b ≠ none ∨ w.heap.size ≤ b) ∧ Chg (fun b => own b ≠ none) w w' := by
  have e0 := e
  have htl : t.size ≤ maxLen := by unfold maxLen; omega
  have hrf := fun q => refuseRename_any (h.drN q) s t hs
  have hr0 : rErr st s t = 0 := by unfold rErr; rw [if_neg (by rw [e]; simp), if_neg (by simp; omega)]
  simp only [hr0] at hrf
  clear hr0
  obtain ⟨m, D, fb, fv, h⟩ := h
  have hnm : n < maxLen := by unfold maxLen; omega
  have c0 : w.cell? ⟨d, 0, none⟩ = some (.map (some m)) := by rw [cell_of_row _ _ _ _ _ _ h.cell]; rfl
  have c2 : w.cell? ⟨d, 2, none⟩ = some (.func (.func 24) #[.pointer (some ⟨d, 0, none⟩)] #[]) := by rw [cell_of_row _ _ _ _ _ _ h.cell]; rfl
  have hrun := fun q => (h.drN q).look s hs f e
  have hkey := WideMaps.keyOf_string_mk (P := Try.prog) (k := 9) Try.underlying9 hs
  have hkeyt := WideMaps.keyOf_string_mk (P := Try.prog) (k := 9) Try.underlying9 htl
  have hmap : ∀ q, (w.drewN q).ownsMap Try.prog 9 flE m n D := fun q => (h.drN q).map
  have H : Hid _ := h
  have hof := h.ofl _ f e
  clear h
  generalize hg : fb s.data.toList = g at *
  go_enter Try.func21, Try.ntmps21
  go_wp2_with fail
  go_quiet (first | (go_at_call 46; refine Calls.quiet_of (v := .int .i64 0) (hrf _)) | (go_at_call 24; refine Calls.quiet_of_same (v := .int .i64 0) (alive_any _ _ _ _)) | fail)
  go_wp2_with (first | (at_delete; refine wpList_delete_own _ rfl _ _ 51 9 rfl 72 Try.strKeyed Try.underlying51 flE m n D rfl (hmap _) _ _ rfl hkey ?_; intro w1 hown1 hturn1) | fail)
  have hc1 : Chg (fun b => b = m) (w.drewN nq) w1 := Chg.of_grown hturn1.grown (fun b q _ => (Option.some.inj q).symm)
  have h1 := (H.out.drN nq).del s.data.toList hc1 hown1
  have l1 := (H.out.drN nq).loose e hc1
  refine (drop_there ⟨_, _, _, _, h1⟩ t htl f2 et hf2 hz).mono ?_
  rintro e w2 ⟨⟨v2, rfl⟩, ⟨m2, D2, fb2, fv2, h2⟩, hc2⟩
  have l2 := l1.next (own' := strike (strike own s.data.toList) t.data.toList) hc2 (fun b q q2 => by rcases q2 with q2 | q2 <;> rw [q] at q2 <;> cases q2) (fun b q => strike_none q)
  have c02 : w2.cell? ⟨d, 0, none⟩ = some (.map (some m2)) := by rw [cell_of_row _ _ _ _ _ _ h2.cell]; rfl
  have hmap2 := h2.map
  have hm2 : own m2 ≠ none := by rw [strike_role (strike_role h2.om)]; simp
  have H2 : Hid _ := And.intro h2 l2
  clear h2 l2 h1 l1 hown1 hturn1
  go_wp2_with (first | (at_mapUpdate; refine wpList_mapUpdate_own _ rfl _ _ _ 51 rfl 9 72 Try.strKeyed Try.underlying51 flE m2 n D2 rfl hmap2 hnm _ _ _ rfl rfl hkeyt (.lit (.int .u64 (g : Int))) [] rfl ?_; intro w3 hown3 hg3) | fail)
  go_ret
  have hc3 : Chg (fun b => b = m2) w2 w3 := Chg.of_grown hg3 (fun b q _ => (Option.some.inj q).symm)
  rw [hg] at H2
  have hfin := H2.out.2.link H2.out.1 (setF_same _ _ _) hc3 hown3
  rw [setF_setF] at hfin
  have hmo : own m ≠ none := by rw [H.out.om]; simp
  have d0 : Chg (fun b => own b ≠ none) w (w.drewN nq) := (Chg.dN0 w nq).mono (fun _ _ q => q.elim)
  have d1 : Chg (fun b => own b ≠ none) w w1 := d0.trans (hc1.mono (fun b _ q => Or.inl (by rw [q]; exact hmo)))
  have d2 : Chg (fun b => own b ≠ none) w w2 := d1.trans (hc2.mono (fun b _ q => Or.inl (by rcases q with q | q <;> rw [strike_role q] <;> simp)))
  refine ⟨rfl, ⟨_, hfin, fun b hb => Or.inl ?_⟩, d2.trans (hc3.mono (fun b _ q => Or.inl (by rw [q]; exact hm2)))⟩
  by_cases q : b = g
  · rw [q, hof]; simp
  · rw [if_neg q] at hb
    by_cases q3 : (fv s.data.toList).ownBlock = some b
    · rw [H.out.ov _ f b e0 q3]; simp
    · rw [if_neg q3] at hb; exact strike_sub (strike_sub hb)
end
end Go.Proofs.Ytbolnelbchffhac
