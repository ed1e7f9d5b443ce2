/- Remove of an armed disk. -/
import Derived.Test.YtkgpgfpclcibmaaG2
import Derived.Test.YtkgpgfpclcibmaaG1
import Derived.Lib.SliceRun
import Derived.Laws.CopyOwn
import Derived.ProofKit
import Derived.OpenShut
import Derived.ChangeOld
import Derived.SizedLaws
namespace Go.Proofs.Ytkgpgfpclcibmaa
open Go.RowKit
set_option linter.unusedVariables false
set_option maxRecDepth 100000

section
variable {B d n : Nat} {own : Nat → Option Role} {st : Nm → Option (List UInt8 × Nat)} {sz : Nat} {left : Int} {w : World}

theorem remove_err (h : Dk B d n own st sz (armed d) left w) (s : ByteArray) (hs : s.size ≤ maxLen) (e : st s.data.toList = none) :
    Calls Try.prog 41 #[.pointer (some ⟨d, 0, none⟩), .string s] w fun e w' => e = .returned (.int .i64 20) ∧ ∃ q, w' = w.drewN q := by
  have hrf := fun q => refuseFile_any (h.drN q) s hs
  simp only [e, if_true] at hrf
  obtain ⟨_, _, c2, _⟩ := h.cell3
  unfold armed at c2
  go_enter Try.func41, Try.ntmps41
  go_wp2_with fail
  go_quiet (first | (go_at_call 73; refine Calls.quiet_of (v := .int .i64 20) (hrf _)) | (go_at_call 82; refine Calls.quiet_of_same (v := .int .i64 20) (armed_pass _ _ _ _ (Or.inr (by decide)))) | fail)
  go_wp2_with fail
  go_ret
  exact ⟨rfl, _, rfl⟩

theorem remove_dies (h : Dk B d n own st sz (armed d) 0 w) (s : ByteArray) (hs : s.size ≤ maxLen) (f : List UInt8 × Nat) (e : st s.data.toList = some f) :
    Calls Try.prog 41 #[.pointer (some ⟨d, 0, none⟩), .string s] w fun e w' => e = .returned (.int .i64 21) ∧ Dk B d n own st sz (dead d) 0 w' ∧ Chg (fun b => own b ≠ none) w w' := by
  have hrf := fun q => refuseFile_any (h.drN q) s hs
  simp only [e, if_neg (show ¬ (some f = none) by simp)] at hrf
  obtain ⟨_, _, c2, _⟩ := h.cell3
  unfold armed at c2
  have hds := fun q => gate_dies h q
  go_enter Try.func41, Try.ntmps41
  go_wp2_with fail
  go_region_with (first | (go_at_call 73; refine (hrf _).mono ?_; rintro e w1 ⟨rfl, k1, rfl⟩) | (go_at_call 82; refine (hds _).mono ?_; rintro e w2 ⟨rfl, hd2, hc2⟩) | fail)
  all_goals go_wp2_with fail
  all_goals go_ret
  all_goals exact ⟨rfl, hd2, hc2⟩

theorem remove_ok {L : Nat} (h : Dk B d n own st sz (armed d) ((L + 1 : Nat) : Int) w) (hL : L ≤ 9223372036854775806) (s : ByteArray) (hs : s.size ≤ maxLen) (f : List UInt8 × Nat) (e : st s.data.toList = some f) (hf : f.1.length ≤ sz) (hz : sz ≤ 1099511627776) :
    Calls Try.prog 41 #[.pointer (some ⟨d, 0, none⟩), .string s] w fun e w' => e = .returned (.int .i64 0) ∧ (∃ own', Dk B d n own' (setF st s.data.toList none) (sz - f.1.length) (armed d) (L : Int) w' ∧ ∀ b, own' b ≠ none → own b ≠ none ∨ w.heap.size ≤ b) ∧ Chg (fun b => own b ≠ none) w w' := by
  have hrf := fun q => refuseFile_any (h.drN q) s hs
  simp only [e, if_neg (show ¬ (some f = none) by simp)] at hrf
  obtain ⟨_, _, c2, _⟩ := h.cell3
  unfold armed at c2
  obtain ⟨W, hD, hcW, hsW, hgt⟩ := gate_ok h hL
  clear h
  go_enter Try.func41, Try.ntmps41
  go_wp2_with fail
  go_region_with (first | (go_at_call 73; refine (hrf _).mono ?_; rintro e w1 ⟨rfl, k1, rfl⟩) | (go_at_call 82; refine (hgt _).mono ?_; rintro e w2 ⟨rfl, nq, rfl⟩) | fail)
  all_goals go_wp2_with fail
  all_goals refine (drop_there (hD.drN nq) s hs f e hf hz).mono ?_
  all_goals rintro e w3 ⟨⟨v3, rfl⟩, hd3, hc3⟩
  all_goals go_wp2_with fail
  all_goals go_ret
  all_goals exact ⟨rfl, ⟨_, hd3, fun b hb => Or.inl (strike_sub hb)⟩, (hcW.dN nq).trans (hc3.mono (fun b _ q => Or.inl (by rcases q with q | q <;> rw [q] <;> simp)))⟩
end
end Go.Proofs.Ytkgpgfpclcibmaa

/- Write of an armed disk, where it answers OK. -/
namespace Go.Proofs.Ytkgpgfpclcibmaa
open Go.RowKit
set_option linter.unusedVariables false
set_option maxRecDepth 100000

section
variable {B d n : Nat} {own : Nat → Option Role} {st : Nm → Option (List UInt8 × Nat)} {sz : Nat} {left : Int} {w : World}

set_option maxHeartbeats 1000000 in
theorem write_okT {L : Nat} (h : Dk B d n own st sz (armed d) ((L + 1 : Nat) : Int) w) (hL : L ≤ 9223372036854775806) (s : ByteArray) (hs1 : 1 ≤ s.size) (hs2 : s.size ≤ 64) (f : List UInt8 × Nat) (e : st s.data.toList = some f) {vb : Value} {l : List UInt8} (hrB : ∀ W, Chg (fun b => own b ≠ none) w W → Rd W vb l) (hz : sz + l.length ≤ 16777216) (hf : f.1.length ≤ 16777216) :
    Calls Try.prog 31 #[.pointer (some ⟨d, 0, none⟩), .string s, vb] w fun e w' => e = .returned (.int .i64 0) ∧ (∃ own', Dk B d n own' (setF st s.data.toList (some (f.1 ++ l, f.2))) (sz + l.length) (armed d) (L : Int) w' ∧ ∀ b, own' b ≠ none → own b ≠ none ∨ w.heap.size ≤ b) ∧ Chg (fun b => own b ≠ none) w w' := by
  have hml : s.size ≤ maxLen := by unfold maxLen; omega
  have hrf := fun q => refuseWrite_any (h.drN q) s l.length (by omega) (by omega)
  have hw0 : wErr s l.length sz = 0 := by unfold wErr; rw [if_neg (by simp; omega), if_neg (by omega)]
  simp only [hw0] at hrf
  clear hw0
  obtain ⟨_, _, c2, _⟩ := h.cell3
  unfold armed at c2
  obtain ⟨W, hD, hcW, hsW, hgt⟩ := gate_ok h hL
  have HSW : Hid _ := hsW
  clear hsW
  have hr : Rd W vb l := hrB W hcW
  clear h
  obtain ⟨m, D, fb, fv, h⟩ := hD
  have c0 : W.cell? ⟨d, 0, none⟩ = some (.map (some m)) := by rw [cell_of_row _ _ _ _ _ _ h.cell]; rfl
  have hrun := fun q => (h.drN q).look s hml f e
  obtain ⟨fa, fc, efv, hln, f0, f1, hfz, hrd⟩ := h.fcell e
  have hB : B ≤ W.heap.size := by have := h.lo d (by rw [h.od]; simp); omega
  have how : Ow B W (.slice fa f.1.length fc) f.1 := by rw [← efv]; exact (h.file _ f e).2.1
  have hgrew := fun q w3 (hg : (W.drewN q).grownBy w3 (Value.slice fa f.1.length fc).ownBlock) => (h.drN q).grew e (w3 := w3) (by rw [efv]; exact hg)
  have hwrote := fun q w3 v3 (hg : (W.drewN q).grownBy w3 (Value.slice fa f.1.length fc).ownBlock) (ho : Ow B w3 v3 (f.1 ++ l)) (hv : v3.ownBlock = (Value.slice fa f.1.length fc).ownBlock ∨ v3.ownBlock = some (W.drewN q).heap.size) => (h.drN q).wrote e (w3 := w3) (v3 := v3) (l := l) (by rw [efv]; exact hg) ho (by rw [efv]; exact hv)
  have H : Hid _ := And.intro hgrew hwrote
  clear h hfz efv hgrew hwrote
  have hr' := hr
  obtain ⟨av, cv, rfl, _, hcv, _, _⟩ := hr
  unfold maxLen at hcv
  generalize hnm : s.data.toList = nm at *
  generalize hg : fb nm = g at *
  go_enter Try.func31, Try.ntmps31
  go_wp2_with fail
  go_region_with (first | (go_at_call 72; refine (hrf _).mono ?_; rintro e w1 ⟨rfl, k1, rfl⟩) | (go_at_call 82; refine (hgt _).mono ?_; rintro e w2 ⟨rfl, nq, rfl⟩) | fail)
  all_goals
    go_wp2_with (first | (at_builtin; refine wpList_appN rfl _ _ rfl B _ f.1 rfl (how.below (Below.dN W nq) (Nat.le_refl _)) _ l rfl (hr'.drewN nq) hB (by omega) ?_; intro v3 w3 ho3 hg3 hw3; obtain ⟨a3, c3, ev3, _⟩ := ho3.rd; obtain ⟨⟨u0, q0⟩, q1, q2⟩ := H.out.1 nq w3 hg3; have q3 := fun v => (q2 v).1; have q4 := fun v => (q2 v).2; clear q2; subst ev3) | fail)
    go_ret
    obtain ⟨⟨own', x1, x2⟩, x3⟩ := H.out.2 nq w3 _ hg3 ho3 hw3
    simp only [List.length_append, Int.natCast_add] at x1 x3
    have hd0 : Chg (fun b => own b ≠ none) w (W.drewN nq) := hcW.dN nq
    exact ⟨rfl, ⟨own', x1, fun b hb => by rcases x2 b hb with q | q; exact Or.inl q; exact Or.inr (by have : W.heap.size ≤ b := q; have := HSW.out; omega)⟩, hd0.trans (x3.mono (fun b _ q => Or.inl q))⟩

set_option maxHeartbeats 1000000 in
theorem write_okN {L : Nat} (h : Dk B d n own st sz (armed d) ((L + 1 : Nat) : Int) w) (hL : L ≤ 9223372036854775806) (s : ByteArray) (hs1 : 1 ≤ s.size) (hs2 : s.size ≤ 64) (e : st s.data.toList = none) {vb : Value} {l : List UInt8} (hrB : ∀ W, Chg (fun b => own b ≠ none) w W → Rd W vb l) (hz : sz + l.length ≤ 16777216) (hn : n ≤ 1099511627776) :
    Calls Try.prog 31 #[.pointer (some ⟨d, 0, none⟩), .string s, vb] w fun e w' => e = .returned (.int .i64 0) ∧ (∃ own', Dk B d (n + 1) own' (setF st s.data.toList (some (l, 0))) (sz + l.length) (armed d) (L : Int) w' ∧ ∀ b, own' b ≠ none → own b ≠ none ∨ w.heap.size ≤ b) ∧ Chg (fun b => own b ≠ none) w w' := by
  have hml : s.size ≤ maxLen := by unfold maxLen; omega
  have hrf := fun q => refuseWrite_any (h.drN q) s l.length (by omega) (by omega)
  have hw0 : wErr s l.length sz = 0 := by unfold wErr; rw [if_neg (by simp; omega), if_neg (by omega)]
  simp only [hw0] at hrf
  clear hw0
  obtain ⟨_, _, c2, _⟩ := h.cell3
  unfold armed at c2
  obtain ⟨W, hD, hcW, hsW, hgt⟩ := gate_ok h hL
  have HSW : Hid _ := hsW
  clear hsW
  have hr : Rd W vb l := hrB W hcW
  clear h
  obtain ⟨m, D, fb, fv, h⟩ := hD
  have hdlt := (h.lo d (by rw [h.od]; simp)).2
  have hmlt := (h.lo m (by rw [h.om]; simp)).2
  have hdm : d ≠ m := fun q => by have := h.od; rw [q, h.om] at this; cases this
  have c0 : W.cell? ⟨d, 0, none⟩ = some (.map (some m)) := by rw [cell_of_row _ _ _ _ _ _ h.cell]; rfl
  have c0' : ∀ q o, ((W.drewN q).alloc o).cell? ⟨d, 0, none⟩ = some (.map (some m)) := fun q o => by rw [World.cell?_of_block (w := W) (Below.heap_alloc (W.drewN q) o d hdlt)]; exact c0
  have hrun := fun q => (h.drN q).look_no s hml e
  have hB : B ≤ W.heap.size := by have := h.lo d (by rw [h.od]; simp); omega
  have hmap := fun q o => (h.drN q).map.alloc o
  have HM : Hid _ := hmap
  clear hmap
  have H : Hid _ := h
  clear h
  have hkey := WideMaps.keyOf_string_mk (P := Try.prog) (k := 9) Try.underlying9 hml
  have hr' := hr
  obtain ⟨av, cv, rfl, _, hcv, _, _⟩ := hr
  unfold maxLen at hcv
  have hnlen : s.data.toList.length ≤ maxLen := by rw [Array.length_toList]; exact hml
  have hnm : n < maxLen := by unfold maxLen; omega
  go_enter Try.func31, Try.ntmps31
  go_wp2_with fail
  go_region_with (first | (go_at_call 72; refine (hrf _).mono ?_; rintro e w1 ⟨rfl, k1, rfl⟩) | (go_at_call 82; refine (hgt _).mono ?_; rintro e w2 ⟨rfl, nq, rfl⟩) | fail)
  all_goals
    go_wp2_with (first | (at_mapUpdate; refine wpList_mapUpdate_own _ rfl _ _ _ 75 rfl 9 124 Try.strKeyed Try.underlying75 flE m n D rfl (HM.out nq _) hnm _ _ _ rfl rfl hkey (.lit (.int .u64 (W.heap.size : Int))) [] rfl ?_; intro w2 hown2 hg2; obtain ⟨_, f0, _, hB2, hrd2⟩ := H.out.put1 e hnlen nq hown2 hg2; have hr2 := hrd2 _ _ hr'; have H2 : Hid _ := H.out.first e hnlen nq hown2 hg2; clear hrd2 hown2 hg2 hr' HM) | (at_builtin; refine wpList_appN rfl _ _ rfl B (.slice none 0 0) [] rfl (Ow.nil _ _) _ l rfl hr2 hB2 (by simp; omega) ?_; intro v3 w3 ho3 hg3 hw3; obtain ⟨a3, c3, ev3, _⟩ := ho3.rd; obtain ⟨⟨⟨u0, q0⟩, q1, q2⟩, x0⟩ := H2.out w3 hg3; have q3 := fun v => (q2 v).1; have q4 := fun v => (q2 v).2; have HX : Hid _ := x0 v3 l ho3 hw3; clear q2 x0; subst ev3) | fail)
    go_ret
    obtain ⟨⟨own', x1, x2⟩, x3⟩ := HX.out
    simp only [List.length_append, List.length_nil, Nat.zero_add, Int.natCast_add] at x1 x3
    exact ⟨rfl, ⟨own', x1, fun b hb => by rcases x2 b hb with q | q; exact Or.inl q; exact Or.inr (by have := HSW.out; omega)⟩, hcW.trans (x3.mono (fun b _ q => Or.inl q))⟩
end
end Go.Proofs.Ytkgpgfpclcibmaa

/- Write of an armed disk. -/
namespace Go.Proofs.Ytkgpgfpclcibmaa
open Go.RowKit
set_option linter.unusedVariables false
set_option maxRecDepth 100000

section
variable {B d n : Nat} {own : Nat → Option Role} {st : Nm → Option (List UInt8 × Nat)} {sz : Nat} {left : Int} {w : World}

theorem write_err (h : Dk B d n own st sz (armed d) left w) (s : ByteArray) {vb : Value} {l : List UInt8} (hr : Rd w vb l) (hl : l.length ≤ 1099511627776) (hz : sz ≤ 16777216) (e : wErr s l.length sz ≠ 0) :
    Calls Try.prog 31 #[.pointer (some ⟨d, 0, none⟩), .string s, vb] w fun e w' => e = .returned (.int .i64 (wErr s l.length sz : Int)) ∧ ∃ q, w' = w.drewN q := by
  have hrf := fun q => refuseWrite_any (h.drN q) s l.length hl hz
  obtain ⟨_, _, c2, _⟩ := h.cell3
  unfold armed at c2
  obtain ⟨av, cv, rfl, _, hcv, _, _⟩ := hr
  unfold maxLen at hcv
  have hne : ((wErr s l.length sz : Nat) : Int) ≠ 0 := by omega
  have hne2 : (((wErr s l.length sz : Nat) : Int) != 0) = true := by simpa using hne
  generalize ((wErr s l.length sz : Nat) : Int) = v at *
  go_enter Try.func31, Try.ntmps31
  go_wp2_with fail
  go_quiet (first | (go_at_call 72; refine Calls.quiet_of (v := .int .i64 v) (hrf _)) | (go_at_call 82; refine Calls.quiet_of_same (v := .int .i64 v) (armed_pass _ _ _ _ (Or.inr hne))) | fail)
  go_wp2_with fail
  go_ret
  exact ⟨rfl, _, rfl⟩

theorem write_dies (h : Dk B d n own st sz (armed d) 0 w) (s : ByteArray) {vb : Value} {l : List UInt8} (hr : Rd w vb l) (hl : l.length ≤ 1099511627776) (hz : sz ≤ 16777216) (e : wErr s l.length sz = 0) :
    Calls Try.prog 31 #[.pointer (some ⟨d, 0, none⟩), .string s, vb] w fun e w' => e = .returned (.int .i64 21) ∧ Dk B d n own st sz (dead d) 0 w' ∧ Chg (fun b => own b ≠ none) w w' := by
  have hrf := fun q => refuseWrite_any (h.drN q) s l.length hl hz
  simp only [e] at hrf
  obtain ⟨_, _, c2, _⟩ := h.cell3
  unfold armed at c2
  obtain ⟨av, cv, rfl, _, hcv, _, _⟩ := hr
  unfold maxLen at hcv
  have hds := fun q => gate_dies h q
  go_enter Try.func31, Try.ntmps31
  go_wp2_with fail
  go_region_with (first | (go_at_call 72; refine (hrf _).mono ?_; rintro e w1 ⟨rfl, k1, rfl⟩) | (go_at_call 82; refine (hds _).mono ?_; rintro e w2 ⟨rfl, hd2, hc2⟩) | fail)
  all_goals go_wp2_with fail
  all_goals go_ret
  all_goals exact ⟨rfl, hd2, hc2⟩
end
end Go.Proofs.Ytkgpgfpclcibmaa

/- What Rename of a living disk does, where it answers OK. -/
namespace Go.Proofs.Ytkgpgfpclcibmaa
open Go.RowKit
set_option linter.unusedVariables false
set_option maxRecDepth 100000

section
variable {B d n m : Nat} {D : DataW Unit} {fb : Nm → Nat} {fv : Nm → Value} {own : Nat → Option Role} {st : Nm → Option (List UInt8 × Nat)} {sz : Nat} {may : Value} {left : Int} {w : World}

theorem strike_none {own : Nat → Option Role} {nm : Nm} {b : Nat} (h : own b = none) : strike own nm b = none := by
  by_cases q : strike own nm b = none
  · exact q
  · exact absurd h (strike_sub q)
theorem strike_role {own : Nat → Option Role} {nm : Nm} {b : Nat} {r : Role} (h : strike own nm b = some r) : own b = some r := by
  unfold strike at h
  split at h
  · rename_i k e
    split at h
    · cases h
    · rw [e]; exact h
  · rename_i k e
    split at h
    · cases h
    · rw [e]; exact h
  · exact h

/-- A file that has been taken out of the map still lies in memory. -/
structure Loose (B : Nat) (own : Nat → Option Role) (g : Nat) (v : Value) (f : List UInt8 × Nat) (w : World) : Prop where
  cell : w.heap[g]? = some (.cells #[v, .int .i64 (f.2 : Int)] 126 (0, 0))
  ow : Ow B w v f.1
  le : f.2 ≤ f.1.length
  lo : B ≤ g
  out : own g = none
  vout : ∀ b, v.ownBlock = some b → own b = none ∧ b ≠ g

theorem Loose.next {own own' : Nat → Option Role} {g : Nat} {v : Value} {f : List UInt8 × Nat} {w w' : World} {S : Nat → Prop} (h : Loose B own g v f w) (hc : Chg S w w') (hS : ∀ b, own b = none → ¬ S b) (ho : ∀ b, own b = none → own' b = none) : Loose B own' g v f w' :=
  ⟨by rw [hc.block g (Array.getElem?_eq_some_iff.1 h.cell).1 (hS g h.out)]; exact h.cell, h.ow.keptC hc (fun b hb => hS b (h.vout b hb).1), h.le, h.lo, ho g h.out, fun b hb => ⟨ho b (h.vout b hb).1, (h.vout b hb).2⟩⟩

theorem Chg.dN0 (w : World) (q : Nat) : Chg (fun _ => False) w (w.drewN q) := ⟨rfl, rfl, rfl, Nat.le_refl _, fun _ _ _ => rfl⟩

theorem DkI.loose (h : DkI B d n m D fb fv own st sz may left w) {nm : Nm} {f : List UInt8 × Nat} (e : st nm = some f) {w' : World} (hc : Chg (fun b => b = m) w w') : Loose B (strike own nm) (fb nm) (fv nm) f w' := by
  obtain ⟨h1, h2, h3⟩ := h.file nm f e
  have hof := h.ofl nm f e
  have hgm : fb nm ≠ m := fun q => by rw [q, h.om] at hof; cases hof
  refine ⟨by rw [hc.block _ (h.lo _ (by rw [hof]; simp)).2 hgm]; exact h1, h2.keptC hc (fun b hb q => ?_), h3, (h.lo _ (by rw [hof]; simp)).1, strike_file hof, fun b hb => ⟨strike_data (h.ov nm f b e hb), fun q => ?_⟩⟩
  · have := h.ov nm f b e hb
    rw [q, h.om] at this; cases this
  · have := h.ov nm f b e hb
    rw [q, hof] at this; cases this

/-- What the last store of Rename leaves. -/
theorem Loose.link {own : Nat → Option Role} {st : Nm → Option (List UInt8 × Nat)} {g : Nat} {v : Value} {f : List UInt8 × Nat} {w w' : World} {nm : Nm} (hl : Loose B own g v f w) (h : DkI B d n m D fb fv own st sz may left w) (e : st nm = none)
    (hc : Chg (fun b => b = m) w w') (hm : w'.ownsMap Try.prog 9 flE m (n + 1) (D.put (.string nm) (.lit (.int .u64 (g : Int))))) :
    Dk B d (n + 1) (fun b => if b = g then some (.file nm) else if v.ownBlock = some b then some (.data nm) else own b) (setF st nm (some f)) sz may left w' :=
  ⟨_, _, _, _, h.link e hl.out hl.lo hl.cell hl.ow hl.vout hl.le hc hm⟩

set_option maxHeartbeats 2000000 in
theorem rename_new (h : Dk B d n own st sz (alive d) left w) (s t : ByteArray) (hs : s.size ≤ maxLen) (ht1 : 1 ≤ t.size) (ht2 : t.size ≤ 64) (f : List UInt8 × Nat) (e : st s.data.toList = some f) (et : setF st s.data.toList none t.data.toList = none) (hn : n ≤ 1099511627776) :
    Calls Try.prog 43 #[.pointer (some ⟨d, 0, none⟩), .string s, .string t] w fun e w' => e = .returned (.int .i64 0) ∧ (∃ own', Dk B d (n + 1) own' (setF (setF st s.data.toList none) t.data.toList (some f)) sz (alive d) left w' ∧ ∀ b, own' b ≠ none → own b ≠ none ∨ w.heap.size ≤ b) ∧ Chg (fun b => own b ≠ none) w w' := by
  have e0 := e
  have htl : t.size ≤ maxLen := by unfold maxLen; omega
  have hrf := fun q => refuseRename_any (h.drN q) s t hs
  have hr0 : rErr st s t = 0 := by unfold rErr; rw [if_neg (by rw [e]; simp), if_neg (by simp; omega)]
  simp only [hr0] at hrf
  clear hr0
  obtain ⟨m, D, fb, fv, h⟩ := h
  have hnm : n < maxLen := by unfold maxLen; omega
  have c0 : w.cell? ⟨d, 0, none⟩ = some (.map (some m)) := by rw [cell_of_row _ _ _ _ _ _ h.cell]; rfl
  have c2 : w.cell? ⟨d, 2, none⟩ = some (.func (.func 35) #[.pointer (some ⟨d, 0, none⟩)] #[]) := by rw [cell_of_row _ _ _ _ _ _ h.cell]; rfl
  have hrun := fun q => (h.drN q).look s hs f e
  have hkey := WideMaps.keyOf_string_mk (P := Try.prog) (k := 9) Try.underlying9 hs
  have hkeyt := WideMaps.keyOf_string_mk (P := Try.prog) (k := 9) Try.underlying9 htl
  have hmap : ∀ q, (w.drewN q).ownsMap Try.prog 9 flE m n D := fun q => (h.drN q).map
  have H : Hid _ := h
  have hof := h.ofl _ f e
  clear h
  generalize hg : fb s.data.toList = g at *
  go_enter Try.func43, Try.ntmps43
  go_wp2_with fail
  go_quiet (first | (go_at_call 81; refine Calls.quiet_of (v := .int .i64 0) (hrf _)) | (go_at_call 35; refine Calls.quiet_of_same (v := .int .i64 0) (alive_any _ _ _ _)) | fail)
  go_wp2_with (first | (at_delete; refine wpList_delete_own _ rfl _ _ 75 9 rfl 124 Try.strKeyed Try.underlying75 flE m n D rfl (hmap _) _ _ rfl hkey ?_; intro w1 hown1 hturn1) | fail)
  have hc1 : Chg (fun b => b = m) (w.drewN nq) w1 := Chg.of_grown hturn1.grown (fun b q _ => (Option.some.inj q).symm)
  have h1 := (H.out.drN nq).del s.data.toList hc1 hown1
  have l1 := (H.out.drN nq).loose e hc1
  refine (drop_not ⟨_, _, _, _, h1⟩ t htl et).mono ?_
  rintro e w2 ⟨⟨v2, rfl⟩, q2, rfl⟩
  have h2 := h1.drN q2
  have l2 := l1.next (own' := strike own s.data.toList) (Chg.dN0 w1 q2) (fun _ _ q => q) (fun b q => q)
  have c02 : w1.cell? ⟨d, 0, none⟩ = some (.map (some m)) := by rw [cell_of_row _ _ _ _ _ _ h1.cell]; rfl
  have hmap2 := h2.map
  have H2 : Hid _ := And.intro h2 l2
  clear h2 l2 h1 l1 hown1 hturn1
  go_wp2_with (first | (at_mapUpdate; refine wpList_mapUpdate_own _ rfl _ _ _ 75 rfl 9 124 Try.strKeyed Try.underlying75 flE m n _ rfl hmap2 hnm _ _ _ rfl rfl hkeyt (.lit (.int .u64 (g : Int))) [] rfl ?_; intro w3 hown3 hg3) | fail)
  go_ret
  have hc3 : Chg (fun b => b = m) (w1.drewN q2) w3 := Chg.of_grown hg3 (fun b q _ => (Option.some.inj q).symm)
  rw [hg] at H2
  have hfin := H2.out.2.link H2.out.1 et hc3 hown3
  have hmo : own m ≠ none := by rw [H.out.om]; simp
  have d0 : Chg (fun b => own b ≠ none) w (w.drewN nq) := (Chg.dN0 w nq).mono (fun _ _ q => q.elim)
  have d1 : Chg (fun b => own b ≠ none) w w1 := d0.trans (hc1.mono (fun b _ q => Or.inl (by rw [q]; exact hmo)))
  have d2 : Chg (fun b => own b ≠ none) w (w1.drewN q2) := d1.dN q2
  refine ⟨rfl, ⟨_, hfin, fun b hb => Or.inl ?_⟩, d2.trans (hc3.mono (fun b _ q => Or.inl (by rw [q]; exact hmo)))⟩
  by_cases q : b = g
  · rw [q, hof]; simp
  · rw [if_neg q] at hb
    by_cases q3 : (fv s.data.toList).ownBlock = some b
    · rw [H.out.ov _ f b e0 q3]; simp
    · rw [if_neg q3] at hb; exact strike_sub hb

set_option maxHeartbeats 2000000 in
theorem rename_over (h : Dk B d n own st sz (alive d) left w) (s t : ByteArray) (hs : s.size ≤ maxLen) (ht1 : 1 ≤ t.size) (ht2 : t.size ≤ 64) (f f2 : List UInt8 × Nat) (e : st s.data.toList = some f) (et : setF st s.data.toList none t.data.toList = some f2) (hn : n ≤ 1099511627776) (hf2 : f2.1.length ≤ sz) (hz : sz ≤ 1099511627776) :
    Calls Try.prog 43 #[.pointer (some ⟨d, 0, none⟩), .string s, .string t] w fun e w' => e = .returned (.int .i64 0) ∧ (∃ own', Dk B d (n + 1) own' (setF (setF st s.data.toList none) t.data.toList (some f)) (sz - f2.1.length) (alive d) left w' ∧ ∀ b, own' b ≠ none → own b ≠ none ∨ w.heap.size ≤ b) ∧ Chg (fun b => own b ≠ none) w w' := by
  have e0 := e
  have htl : t.size ≤ maxLen := by unfold maxLen; omega
  have hrf := fun q => refuseRename_any (h.drN q) s t hs
  have hr0 : rErr st s t = 0 := by unfold rErr; rw [if_neg (by rw [e]; simp), if_neg (by simp; omega)]
  simp only [hr0] at hrf
  clear hr0
  obtain ⟨m, D, fb, fv, h⟩ := h
  have hnm : n < maxLen := by unfold maxLen; omega
  have c0 : w.cell? ⟨d, 0, none⟩ = some (.map (some m)) := by rw [cell_of_row _ _ _ _ _ _ h.cell]; rfl
  have c2 : w.cell? ⟨d, 2, none⟩ = some (.func (.func 35) #[.pointer (some ⟨d, 0, none⟩)] #[]) := by rw [cell_of_row _ _ _ _ _ _ h.cell]; rfl
  have hrun := fun q => (h.drN q).look s hs f e
  have hkey := WideMaps.keyOf_string_mk (P := Try.prog) (k := 9) Try.underlying9 hs
  have hkeyt := WideMaps.keyOf_string_mk (P := Try.prog) (k := 9) Try.underlying9 htl
  have hmap : ∀ q, (w.drewN q).ownsMap Try.prog 9 flE m n D := fun q => (h.drN q).map
  have H : Hid _ := h
  have hof := h.ofl _ f e
  clear h
  generalize hg : fb s.data.toList = g at *
  go_enter Try.func43, Try.ntmps43
  go_wp2_with fail
  go_quiet (first | (go_at_call 81; refine Calls.quiet_of (v := .int .i64 0) (hrf _)) | (go_at_call 35; refine Calls.quiet_of_same (v := .int .i64 0) (alive_any _ _ _ _)) | fail)
  go_wp2_with (first | (at_delete; refine wpList_delete_own _ rfl _ _ 75 9 rfl 124 Try.strKeyed Try.underlying75 flE m n D rfl (hmap _) _ _ rfl hkey ?_; intro w1 hown1 hturn1) | fail)
  have hc1 : Chg (fun b => b = m) (w.drewN nq) w1 := Chg.of_grown hturn1.grown (fun b q _ => (Option.some.inj q).symm)
  have h1 := (H.out.drN nq).del s.data.toList hc1 hown1
  have l1 := (H.out.drN nq).loose e hc1
  refine (drop_there ⟨_, _, _, _, h1⟩ t htl f2 et hf2 hz).mono ?_
  rintro e w2 ⟨⟨v2, rfl⟩, ⟨m2, D2, fb2, fv2, h2⟩, hc2⟩
  have l2 := l1.next (own' := strike (strike own s.data.toList) t.data.toList) hc2 (fun b q q2 => by rcases q2 with q2 | q2 <;> rw [q] at q2 <;> cases q2) (fun b q => strike_none q)
  have c02 : w2.cell? ⟨d, 0, none⟩ = some (.map (some m2)) := by rw [cell_of_row _ _ _ _ _ _ h2.cell]; rfl
  have hmap2 := h2.map
  have hm2 : own m2 ≠ none := by rw [strike_role (strike_role h2.om)]; simp
  have H2 : Hid _ := And.intro h2 l2
  clear h2 l2 h1 l1 hown1 hturn1
  go_wp2_with (first | (at_mapUpdate; refine wpList_mapUpdate_own _ rfl _ _ _ 75 rfl 9 124 Try.strKeyed Try.underlying75 flE m2 n D2 rfl hmap2 hnm _ _ _ rfl rfl hkeyt (.lit (.int .u64 (g : Int))) [] rfl ?_; intro w3 hown3 hg3) | fail)
  go_ret
  have hc3 : Chg (fun b => b = m2) w2 w3 := Chg.of_grown hg3 (fun b q _ => (Option.some.inj q).symm)
  rw [hg] at H2
  have hfin := H2.out.2.link H2.out.1 (setF_same _ _ _) hc3 hown3
  rw [setF_setF] at hfin
  have hmo : own m ≠ none := by rw [H.out.om]; simp
  have d0 : Chg (fun b => own b ≠ none) w (w.drewN nq) := (Chg.dN0 w nq).mono (fun _ _ q => q.elim)
  have d1 : Chg (fun b => own b ≠ none) w w1 := d0.trans (hc1.mono (fun b _ q => Or.inl (by rw [q]; exact hmo)))
  have d2 : Chg (fun b => own b ≠ none) w w2 := d1.trans (hc2.mono (fun b _ q => Or.inl (by rcases q with q | q <;> rw [strike_role q] <;> simp)))
  refine ⟨rfl, ⟨_, hfin, fun b hb => Or.inl ?_⟩, d2.trans (hc3.mono (fun b _ q => Or.inl (by rw [q]; exact hm2)))⟩
  by_cases q : b = g
  · rw [q, hof]; simp
  · rw [if_neg q] at hb
    by_cases q3 : (fv s.data.toList).ownBlock = some b
    · rw [H.out.ov _ f b e0 q3]; simp
    · rw [if_neg q3] at hb; exact strike_sub (strike_sub hb)
end
end Go.Proofs.Ytkgpgfpclcibmaa

/- Rename of an armed disk, where it answers OK. -/
namespace Go.Proofs.Ytkgpgfpclcibmaa
open Go.RowKit
set_option linter.unusedVariables false
set_option maxRecDepth 100000

section
variable {B d n : Nat} {own : Nat → Option Role} {st : Nm → Option (List UInt8 × Nat)} {sz : Nat} {left : Int} {w : World}

set_option maxHeartbeats 2000000 in
theorem rename_okN {L : Nat} (h : Dk B d n own st sz (armed d) ((L + 1 : Nat) : Int) w) (hL : L ≤ 9223372036854775806) (s t : ByteArray) (hs : s.size ≤ maxLen) (ht1 : 1 ≤ t.size) (ht2 : t.size ≤ 64) (f : List UInt8 × Nat) (e : st s.data.toList = some f) (et : setF st s.data.toList none t.data.toList = none) (hn : n ≤ 1099511627776) :
    Calls Try.prog 43 #[.pointer (some ⟨d, 0, none⟩), .string s, .string t] w fun e w' => e = .returned (.int .i64 0) ∧ (∃ own', Dk B d (n + 1) own' (setF (setF st s.data.toList none) t.data.toList (some f)) sz (armed d) (L : Int) w' ∧ ∀ b, own' b ≠ none → own b ≠ none ∨ w.heap.size ≤ b) ∧ Chg (fun b => own b ≠ none) w w' := by
  have e0 := e
  have htl : t.size ≤ maxLen := by unfold maxLen; omega
  have hrf := fun q => refuseRename_any (h.drN q) s t hs
  have hr0 : rErr st s t = 0 := by unfold rErr; rw [if_neg (by rw [e]; simp), if_neg (by simp; omega)]
  simp only [hr0] at hrf
  clear hr0
  obtain ⟨_, _, c2, _⟩ := h.cell3
  unfold armed at c2
  obtain ⟨W, hD, hcW, hsW, hgt⟩ := gate_ok h hL
  clear h
  obtain ⟨m, D, fb, fv, h⟩ := hD
  have hnm : n < maxLen := by unfold maxLen; omega
  have c0 : W.cell? ⟨d, 0, none⟩ = some (.map (some m)) := by rw [cell_of_row _ _ _ _ _ _ h.cell]; rfl
  have hrun := fun q => (h.drN q).look s hs f e
  have hkey := WideMaps.keyOf_string_mk (P := Try.prog) (k := 9) Try.underlying9 hs
  have hkeyt := WideMaps.keyOf_string_mk (P := Try.prog) (k := 9) Try.underlying9 htl
  have hmap : ∀ q, (W.drewN q).ownsMap Try.prog 9 flE m n D := fun q => (h.drN q).map
  have H : Hid _ := h
  have hof := h.ofl _ f e
  clear h
  generalize hg : fb s.data.toList = g at *
  go_enter Try.func43, Try.ntmps43
  go_wp2_with fail
  go_region_with (first | (go_at_call 81; refine (hrf _).mono ?_; rintro e w1 ⟨rfl, k1, rfl⟩) | (go_at_call 82; refine (hgt _).mono ?_; rintro e w2 ⟨rfl, nq, rfl⟩) | fail)
  all_goals
    go_wp2_with (first | (at_delete; refine wpList_delete_own _ rfl _ _ 75 9 rfl 124 Try.strKeyed Try.underlying75 flE m n D rfl (hmap _) _ _ rfl hkey ?_; intro w1 hown1 hturn1) | fail)
    have hc1 : Chg (fun b => b = m) (W.drewN nq) w1 := Chg.of_grown hturn1.grown (fun b q _ => (Option.some.inj q).symm)
    have h1 := (H.out.drN nq).del s.data.toList hc1 hown1
    have l1 := (H.out.drN nq).loose e hc1
    refine (drop_not ⟨_, _, _, _, h1⟩ t htl et).mono ?_
    rintro e w2 ⟨⟨v2, rfl⟩, q2, rfl⟩
    have h2 := h1.drN q2
    have l2 := l1.next (own' := strike own s.data.toList) (Chg.dN0 w1 q2) (fun _ _ q => q) (fun b q => q)
    have c02 : w1.cell? ⟨d, 0, none⟩ = some (.map (some m)) := by rw [cell_of_row _ _ _ _ _ _ h1.cell]; rfl
    have hmap2 := h2.map
    have H2 : Hid _ := And.intro h2 l2
    clear h2 l2 h1 l1 hown1 hturn1
    go_wp2_with (first | (at_mapUpdate; refine wpList_mapUpdate_own _ rfl _ _ _ 75 rfl 9 124 Try.strKeyed Try.underlying75 flE m n _ rfl hmap2 hnm _ _ _ rfl rfl hkeyt (.lit (.int .u64 (g : Int))) [] rfl ?_; intro w3 hown3 hg3) | fail)
    go_ret
    have hc3 : Chg (fun b => b = m) (w1.drewN q2) w3 := Chg.of_grown hg3 (fun b q _ => (Option.some.inj q).symm)
    rw [hg] at H2
    have hfin := H2.out.2.link H2.out.1 et hc3 hown3
    have hmo : own m ≠ none := by rw [H.out.om]; simp
    have d0 : Chg (fun b => own b ≠ none) W (W.drewN nq) := (Chg.dN0 W nq).mono (fun _ _ q => q.elim)
    have d1 : Chg (fun b => own b ≠ none) W w1 := d0.trans (hc1.mono (fun b _ q => Or.inl (by rw [q]; exact hmo)))
    have d2 : Chg (fun b => own b ≠ none) W (w1.drewN q2) := d1.dN q2
    refine ⟨rfl, ⟨_, hfin, fun b hb => Or.inl ?_⟩, (hcW.trans (d2.mono (fun b _ q => Or.inl q))).trans (hc3.mono (fun b _ q => Or.inl (by rw [q]; exact hmo)))⟩
    by_cases q : b = g
    · rw [q, hof]; simp
    · rw [if_neg q] at hb
      by_cases q3 : (fv s.data.toList).ownBlock = some b
      · rw [H.out.ov _ f b e0 q3]; simp
      · rw [if_neg q3] at hb; exact strike_sub hb

set_option maxHeartbeats 2000000 in
theorem rename_okO {L : Nat} (h : Dk B d n own st sz (armed d) ((L + 1 : Nat) : Int) w) (hL : L ≤ 9223372036854775806) (s t : ByteArray) (hs : s.size ≤ maxLen) (ht1 : 1 ≤ t.size) (ht2 : t.size ≤ 64) (f f2 : List UInt8 × Nat) (e : st s.data.toList = some f) (et : setF st s.data.toList none t.data.toList = some f2) (hn : n ≤ 1099511627776) (hf2 : f2.1.length ≤ sz) (hz : sz ≤ 1099511627776) :
    Calls Try.prog 43 #[.pointer (some ⟨d, 0, none⟩), .string s, .string t] w fun e w' => e = .returned (.int .i64 0) ∧ (∃ own', Dk B d (n + 1) own' (setF (setF st s.data.toList none) t.data.toList (some f)) (sz - f2.1.length) (armed d) (L : Int) w' ∧ ∀ b, own' b ≠ none → own b ≠ none ∨ w.heap.size ≤ b) ∧ Chg (fun b => own b ≠ none) w w' := by
  have e0 := e
  have htl : t.size ≤ maxLen := by unfold maxLen; omega
  have hrf := fun q => refuseRename_any (h.drN q) s t hs
  have hr0 : rErr st s t = 0 := by unfold rErr; rw [if_neg (by rw [e]; simp), if_neg (by simp; omega)]
  simp only [hr0] at hrf
  clear hr0
  obtain ⟨_, _, c2, _⟩ := h.cell3
  unfold armed at c2
  obtain ⟨W, hD, hcW, hsW, hgt⟩ := gate_ok h hL
  clear h
  obtain ⟨m, D, fb, fv, h⟩ := hD
  have hnm : n < maxLen := by unfold maxLen; omega
  have c0 : W.cell? ⟨d, 0, none⟩ = some (.map (some m)) := by rw [cell_of_row _ _ _ _ _ _ h.cell]; rfl
  have hrun := fun q => (h.drN q).look s hs f e
  have hkey := WideMaps.keyOf_string_mk (P := Try.prog) (k := 9) Try.underlying9 hs
  have hkeyt := WideMaps.keyOf_string_mk (P := Try.prog) (k := 9) Try.underlying9 htl
  have hmap : ∀ q, (W.drewN q).ownsMap Try.prog 9 flE m n D := fun q => (h.drN q).map
  have H : Hid _ := h
  have hof := h.ofl _ f e
  clear h
  generalize hg : fb s.data.toList = g at *
  go_enter Try.func43, Try.ntmps43
  go_wp2_with fail
  go_region_with (first | (go_at_call 81; refine (hrf _).mono ?_; rintro e w1 ⟨rfl, k1, rfl⟩) | (go_at_call 82; refine (hgt _).mono ?_; rintro e w2 ⟨rfl, nq, rfl⟩) | fail)
  all_goals
    go_wp2_with (first | (at_delete; refine wpList_delete_own _ rfl _ _ 75 9 rfl 124 Try.strKeyed Try.underlying75 flE m n D rfl (hmap _) _ _ rfl hkey ?_; intro w1 hown1 hturn1) | fail)
    have hc1 : Chg (fun b => b = m) (W.drewN nq) w1 := Chg.of_grown hturn1.grown (fun b q _ => (Option.some.inj q).symm)
    have h1 := (H.out.drN nq).del s.data.toList hc1 hown1
    have l1 := (H.out.drN nq).loose e hc1
    refine (drop_there ⟨_, _, _, _, h1⟩ t htl f2 et hf2 hz).mono ?_
    rintro e w2 ⟨⟨v2, rfl⟩, ⟨m2, D2, fb2, fv2, h2⟩, hc2⟩
    have l2 := l1.next (own' := strike (strike own s.data.toList) t.data.toList) hc2 (fun b q q2 => by rcases q2 with q2 | q2 <;> rw [q] at q2 <;> cases q2) (fun b q => strike_none q)
    have c02 : w2.cell? ⟨d, 0, none⟩ = some (.map (some m2)) := by rw [cell_of_row _ _ _ _ _ _ h2.cell]; rfl
    have hmap2 := h2.map
    have hm2 : own m2 ≠ none := by rw [strike_role (strike_role h2.om)]; simp
    have H2 : Hid _ := And.intro h2 l2
    clear h2 l2 h1 l1 hown1 hturn1
    go_wp2_with (first | (at_mapUpdate; refine wpList_mapUpdate_own _ rfl _ _ _ 75 rfl 9 124 Try.strKeyed Try.underlying75 flE m2 n D2 rfl hmap2 hnm _ _ _ rfl rfl hkeyt (.lit (.int .u64 (g : Int))) [] rfl ?_; intro w3 hown3 hg3) | fail)
    go_ret
    have hc3 : Chg (fun b => b = m2) w2 w3 := Chg.of_grown hg3 (fun b q _ => (Option.some.inj q).symm)
    rw [hg] at H2
    have hfin := H2.out.2.link H2.out.1 (setF_same _ _ _) hc3 hown3
    rw [setF_setF] at hfin
    have hmo : own m ≠ none := by rw [H.out.om]; simp
    have d0 : Chg (fun b => own b ≠ none) W (W.drewN nq) := (Chg.dN0 W nq).mono (fun _ _ q => q.elim)
    have d1 : Chg (fun b => own b ≠ none) W w1 := d0.trans (hc1.mono (fun b _ q => Or.inl (by rw [q]; exact hmo)))
    have d2 : Chg (fun b => own b ≠ none) W w2 := d1.trans (hc2.mono (fun b _ q => Or.inl (by rcases q with q | q <;> rw [strike_role q] <;> simp)))
    refine ⟨rfl, ⟨_, hfin, fun b hb => Or.inl ?_⟩, (hcW.trans (d2.mono (fun b _ q => Or.inl q))).trans (hc3.mono (fun b _ q => Or.inl (by rw [q]; exact hm2)))⟩
    by_cases q : b = g
    · rw [q, hof]; simp
    · rw [if_neg q] at hb
      by_cases q3 : (fv s.data.toList).ownBlock = some b
      · rw [H.out.ov _ f b e0 q3]; simp
      · rw [if_neg q3] at hb; exact strike_sub (strike_sub hb)
end
end Go.Proofs.Ytkgpgfpclcibmaa

/- Rename of an armed disk. -/
namespace Go.Proofs.Ytkgpgfpclcibmaa
open Go.RowKit
set_option linter.unusedVariables false
set_option maxRecDepth 100000

section
variable {B d n : Nat} {own : Nat → Option Role} {st : Nm → Option (List UInt8 × Nat)} {sz : Nat} {left : Int} {w : World}

theorem rename_err (h : Dk B d n own st sz (armed d) left w) (s t : ByteArray) (hs : s.size ≤ maxLen) (e : rErr st s t ≠ 0) :
    Calls Try.prog 43 #[.pointer (some ⟨d, 0, none⟩), .string s, .string t] w fun e w' => e = .returned (.int .i64 (rErr st s t : Int)) ∧ ∃ q, w' = w.drewN q := by
  have hrf := fun q => refuseRename_any (h.drN q) s t hs
  obtain ⟨_, _, c2, _⟩ := h.cell3
  unfold armed at c2
  have hne : ((rErr st s t : Nat) : Int) ≠ 0 := by omega
  have hne2 : (((rErr st s t : Nat) : Int) != 0) = true := by simpa using hne
  generalize ((rErr st s t : Nat) : Int) = v at *
  go_enter Try.func43, Try.ntmps43
  go_wp2_with fail
  go_quiet (first | (go_at_call 81; refine Calls.quiet_of (v := .int .i64 v) (hrf _)) | (go_at_call 82; refine Calls.quiet_of_same (v := .int .i64 v) (armed_pass _ _ _ _ (Or.inr hne))) | fail)
  go_wp2_with fail
  go_ret
  exact ⟨rfl, _, rfl⟩

theorem rename_dies (h : Dk B d n own st sz (armed d) 0 w) (s t : ByteArray) (hs : s.size ≤ maxLen) (e : rErr st s t = 0) :
    Calls Try.prog 43 #[.pointer (some ⟨d, 0, none⟩), .string s, .string t] w fun e w' => e = .returned (.int .i64 21) ∧ Dk B d n own st sz (dead d) 0 w' ∧ Chg (fun b => own b ≠ none) w w' := by
  have hrf := fun q => refuseRename_any (h.drN q) s t hs
  simp only [e] at hrf
  obtain ⟨_, _, c2, _⟩ := h.cell3
  unfold armed at c2
  have hds := fun q => gate_dies h q
  go_enter Try.func43, Try.ntmps43
  go_wp2_with fail
  go_region_with (first | (go_at_call 81; refine (hrf _).mono ?_; rintro e w1 ⟨rfl, k1, rfl⟩) | (go_at_call 82; refine (hds _).mono ?_; rintro e w2 ⟨rfl, hd2, hc2⟩) | fail)
  all_goals go_wp2_with fail
  all_goals go_ret
  all_goals exact ⟨rfl, hd2, hc2⟩
end
end Go.Proofs.Ytkgpgfpclcibmaa

/- The bytes of all files together, whatever is written, removed and renamed. -/
namespace Go.Proofs.Ytkgpgfpclcibmaa
set_option linter.unusedVariables false

def lenO (x : Option (List UInt8 × Nat)) : Nat := match x with | some f => f.1.length | none => 0

theorem sumB_cons (st : Nm → Option (List UInt8 × Nat)) (k : Nm) (r : List Nm) : sumB st (k :: r) = lenO (st k) + sumB st r := rfl
theorem sumB_setO (st : Nm → Option (List UInt8 × Nat)) (nm : Nm) (x : Option (List UInt8 × Nat)) : ∀ L : List Nm, L.Nodup → nm ∈ L → sumB (setF st nm x) L + lenO (st nm) = sumB st L + lenO x
  | [], _, h => by cases h
  | k :: r, hn, h => by
    have hn' := List.nodup_cons.1 hn
    by_cases q : k = nm
    · subst q
      rw [sumB_cons, sumB_cons, setF_same, sumB_out st k _ r hn'.1]
      omega
    · have := sumB_setO st nm x r hn'.2 (by rcases List.mem_cons.1 h with q2 | q2; exact absurd q2.symm q; exact q2)
      rw [sumB_cons, sumB_cons, setF_other _ _ q]
      omega

/-- sz is the bytes of all files of st together, and fits. -/
def Sum (st : Nm → Option (List UInt8 × Nat)) (sz : Nat) : Prop := ∃ L : List Nm, L.Nodup ∧ (∀ nm, st nm ≠ none → nm ∈ L) ∧ sumB st L = sz

theorem Sum.with {st : Nm → Option (List UInt8 × Nat)} {sz : Nat} (h : Sum st sz) (nm : Nm) : ∃ L : List Nm, L.Nodup ∧ (∀ k, st k ≠ none → k ∈ L) ∧ sumB st L = sz ∧ nm ∈ L := by
  obtain ⟨L, h1, h2, h3⟩ := h
  by_cases q : nm ∈ L
  · exact ⟨L, h1, h2, h3, q⟩
  · have hn : st nm = none := by
      by_cases e : st nm = none
      · exact e
      · exact absurd (h2 nm e) q
    exact ⟨nm :: L, List.nodup_cons.2 ⟨q, h1⟩, fun k hk => List.mem_cons_of_mem _ (h2 k hk), by rw [sumB_cons, hn, h3]; simp [lenO], List.mem_cons_self ..⟩
theorem Sum.le {st : Nm → Option (List UInt8 × Nat)} {sz : Nat} (h : Sum st sz) (nm : Nm) : lenO (st nm) ≤ sz := by
  obtain ⟨L, h1, h2, h3, h4⟩ := h.with nm
  have := sumB_setO st nm none L h1 h4
  simp only [lenO] at this ⊢
  omega
theorem Sum.set {st : Nm → Option (List UInt8 × Nat)} {sz sz' : Nat} (h : Sum st sz) (nm : Nm) (x : Option (List UInt8 × Nat)) (hs : sz' + lenO (st nm) = sz + lenO x) : Sum (setF st nm x) sz' := by
  obtain ⟨L, h1, h2, h3, h4⟩ := h.with nm
  refine ⟨L, h1, fun k hk => ?_, ?_⟩
  · by_cases q : k = nm
    · subst q; exact h4
    · rw [setF_other _ _ q] at hk; exact h2 k hk
  · have := sumB_setO st nm x L h1 h4
    omega
theorem Sum.none0 : Sum (fun _ => none) 0 := ⟨[], List.nodup_nil, fun _ h => absurd rfl h, rfl⟩
end Go.Proofs.Ytkgpgfpclcibmaa

/- Plain mathematics: a disk's files as a rising list, and the same files by name. -/
namespace Go.Proofs.Ytkgpgfpclcibmaa
set_option linter.unusedVariables false
set_option maxRecDepth 100000

abbrev Fl := Nm × (List UInt8 × Nat)
/-- The files by name. -/
def stOf : List Fl → St
  | [] => fun _ => none
  | x :: r => setF (stOf r) x.1 (some x.2)
/-- They rise by name. -/
def Up (L : List Fl) : Prop := L.Pairwise (fun x y => x.1 < y.1)
/-- The place of a name. -/
def place : List Fl → Nm → Nat
  | [], _ => 0
  | x :: r, nm => if x.1 < nm then place r nm + 1 else 0
def putL (L : List Fl) (nm : Nm) (f : List UInt8 × Nat) : List Fl := L.take (place L nm) ++ (nm, f) :: L.drop (place L nm)
def dropL (L : List Fl) (i : Nat) : List Fl := L.take i ++ L.drop (i + 1)
def sumL (L : List Fl) : Nat := (L.map (fun x => x.2.1.length)).sum
def namesL (L : List Fl) : List Nm := L.map (·.1)

theorem lt_self (a : Nm) (h : a < a) : False := List.lt_irrefl a h
theorem lt_two {a b : Nm} (h : a < b) (h2 : b < a) : False := lt_self a (List.lt_trans h h2)
theorem lt_tri {a b : Nm} (h : ¬ a < b) (h2 : a ≠ b) : b < a := Std.lt_of_le_of_ne h (Ne.symm h2)

theorem setF_comm (st : St) {a b : Nm} (h : a ≠ b) (x y : Option (List UInt8 × Nat)) : setF (setF st a x) b y = setF (setF st b y) a x := by
  funext k
  unfold setF
  by_cases h1 : k = a
  · subst h1; simp [h]
  · simp [h1]
theorem setF_twice (st : St) (a : Nm) (x y : Option (List UInt8 × Nat)) : setF (setF st a x) a y = setF st a y := by
  funext k
  unfold setF
  by_cases h1 : k = a <;> simp [h1]
theorem setF_id (st : St) (a : Nm) (x : Option (List UInt8 × Nat)) (h : st a = x) : setF st a x = st := by
  funext k
  unfold setF
  by_cases h1 : k = a
  · subst h1; simp [h]
  · simp [h1]

theorem stOf_low {L : List Fl} {nm : Nm} (h : ∀ x ∈ L, nm < x.1) : stOf L nm = none := by
  induction L with
  | nil => rfl
  | cons x r ih =>
    have hx := h x (List.mem_cons_self ..)
    show setF (stOf r) x.1 _ nm = none
    rw [setF_other _ _ (fun e => by subst e; exact lt_self _ hx)]
    exact ih (fun y hy => h y (List.mem_cons_of_mem _ hy))
theorem place_le (L : List Fl) (nm : Nm) : place L nm ≤ L.length := by
  induction L with
  | nil => exact Nat.le_refl _
  | cons x r ih => simp only [place]; split <;> simp <;> omega
theorem place_lt {L : List Fl} {nm : Nm} {i : Nat} {x : Fl} (h : i < place L nm) (e : L[i]? = some x) : x.1 < nm := by
  induction L generalizing i with
  | nil => simp at e
  | cons y r ih =>
    simp only [place] at h
    split at h
    · cases i with
      | zero => simp at e; subst e; assumption
      | succ i => exact ih (i := i) (by omega) (by simpa using e)
    · omega
theorem place_ge {L : List Fl} {nm : Nm} {x : Fl} (e : L[place L nm]? = some x) : ¬ x.1 < nm := by
  induction L with
  | nil => simp at e
  | cons y r ih =>
    simp only [place] at e
    split at e
    · exact ih (by simpa using e)
    · simp at e; subst e; assumption
/-- The place is told by what stands below and at it. -/
theorem place_eq {L : List Fl} {nm : Nm} {i : Nat} (h1 : ∀ k x, k < i → L[k]? = some x → x.1 < nm) (h2 : ∀ x, L[i]? = some x → ¬ x.1 < nm) (h3 : i ≤ L.length) : place L nm = i := by
  rcases Nat.lt_trichotomy (place L nm) i with q | q | q
  · have hl : place L nm < L.length := by omega
    exact absurd (h1 _ _ q (List.getElem?_eq_getElem hl)) (place_ge (List.getElem?_eq_getElem hl))
  · exact q
  · have hl : i < L.length := by have := place_le L nm; omega
    exact absurd (place_lt q (List.getElem?_eq_getElem hl)) (h2 _ (List.getElem?_eq_getElem hl))

theorem Up.tail {x : Fl} {r : List Fl} (h : Up (x :: r)) : Up r := (List.pairwise_cons.1 h).2
theorem Up.head {x : Fl} {r : List Fl} (h : Up (x :: r)) : ∀ y ∈ r, x.1 < y.1 := (List.pairwise_cons.1 h).1
/-- A file is there just if it stands at its place. -/
theorem stOf_at {L : List Fl} (h : Up L) (nm : Nm) (f : List UInt8 × Nat) : stOf L nm = some f ↔ L[place L nm]? = some (nm, f) := by
  induction L with
  | nil => simp [stOf, place]
  | cons x r ih =>
    obtain ⟨k, g⟩ := x
    simp only [place]
    by_cases hlt : k < nm
    · rw [if_pos hlt]
      show setF (stOf r) k _ nm = some f ↔ _
      rw [setF_other _ _ (fun e => by subst e; exact lt_self _ hlt), ih h.tail]
      simp
    · rw [if_neg hlt]
      by_cases he : nm = k
      · subst he
        show setF (stOf r) nm _ nm = some f ↔ _
        rw [setF_same]
        simp
      · have hn : stOf r nm = none := stOf_low (fun y hy => List.lt_trans (lt_tri hlt (fun e => he e.symm)) (h.head y hy))
        show setF (stOf r) k _ nm = some f ↔ _
        rw [setF_other _ _ he, hn]
        simp
        intro e
        exact absurd e.symm he
theorem stOf_none {L : List Fl} (h : Up L) (nm : Nm) : stOf L nm = none ↔ ∀ x, L[place L nm]? = some x → x.1 ≠ nm := by
  constructor
  · rintro e ⟨k, g⟩ hx rfl
    rw [(stOf_at h k g).2 hx] at e
    cases e
  · intro hx
    cases e : stOf L nm with
    | none => rfl
    | some f => exact absurd rfl (hx _ ((stOf_at h nm f).1 e))

theorem putL_st {L : List Fl} (nm : Nm) (f : List UInt8 × Nat) (h : Up L) (hn : stOf L nm = none) : stOf (putL L nm f) = setF (stOf L) nm (some f) ∧ Up (putL L nm f) := by
  induction L with
  | nil => exact ⟨rfl, by simp [putL, Up]⟩
  | cons x r ih =>
    obtain ⟨k, g⟩ := x
    have hk : nm ≠ k := by
      rintro rfl
      have : stOf ((nm, g) :: r) nm = some g := setF_same _ _ _
      rw [this] at hn; cases hn
    have hn' : stOf r nm = none := by
      have : stOf ((k, g) :: r) nm = stOf r nm := setF_other _ _ hk
      rw [← this]; exact hn
    by_cases hlt : k < nm
    · have e : putL ((k, g) :: r) nm f = (k, g) :: putL r nm f := by simp [putL, place, hlt]
      obtain ⟨i1, i2⟩ := ih h.tail hn'
      rw [e]
      refine ⟨?_, List.pairwise_cons.2 ⟨fun y hy => ?_, i2⟩⟩
      · show setF (stOf (putL r nm f)) k _ = setF (setF (stOf r) k _) nm _
        rw [i1, setF_comm _ hk]
      · unfold putL at hy
        rcases List.mem_append.1 hy with q | q
        · exact h.head y (List.mem_of_mem_take q)
        · rcases List.mem_cons.1 q with q | q
          · subst q; exact hlt
          · exact h.head y (List.mem_of_mem_drop q)
    · have e : putL ((k, g) :: r) nm f = (nm, f) :: (k, g) :: r := by simp [putL, place, hlt]
      have hl := lt_tri hlt (fun q => hk q.symm)
      rw [e]
      refine ⟨rfl, List.pairwise_cons.2 ⟨fun y hy => ?_, h⟩⟩
      rcases List.mem_cons.1 hy with q | q
      · subst q; exact hl
      · exact List.lt_trans hl (h.head y q)
theorem setL_st {L : List Fl} (i : Nat) (nm : Nm) (f g : List UInt8 × Nat) (h : Up L) (hi : L[i]? = some (nm, g)) : stOf (L.set i (nm, f)) = setF (stOf L) nm (some f) ∧ Up (L.set i (nm, f)) := by
  induction L generalizing i with
  | nil => simp at hi
  | cons x r ih =>
    cases i with
    | zero =>
      simp at hi; subst hi
      exact ⟨by show setF _ _ _ = setF (setF _ _ _) _ _; rw [setF_twice], List.pairwise_cons.2 ⟨fun y hy => h.head y hy, h.tail⟩⟩
    | succ i =>
      have hi' : r[i]? = some (nm, g) := by simpa using hi
      obtain ⟨i1, i2⟩ := ih i h.tail hi'
      have hx : x.1 < nm := h.head (nm, g) (List.mem_of_getElem? hi')
      refine ⟨?_, List.pairwise_cons.2 ⟨fun y hy => ?_, i2⟩⟩
      · show setF (stOf (r.set i (nm, f))) _ _ = setF (setF _ _ _) _ _
        rw [i1, setF_comm _ (fun e => by rw [e] at hx; exact lt_self _ hx)]
      · rcases List.mem_or_eq_of_mem_set hy with q | q
        · exact h.head y q
        · subst q; exact hx
theorem dropL_st {L : List Fl} (i : Nat) (nm : Nm) (g : List UInt8 × Nat) (h : Up L) (hi : L[i]? = some (nm, g)) : stOf (dropL L i) = setF (stOf L) nm none ∧ Up (dropL L i) := by
  induction L generalizing i with
  | nil => simp at hi
  | cons x r ih =>
    cases i with
    | zero =>
      simp at hi; subst hi
      refine ⟨?_, by simpa [dropL] using h.tail⟩
      show stOf (dropL ((nm, g) :: r) 0) = setF (setF (stOf r) nm (some g)) nm none
      rw [setF_twice, setF_id _ _ _ (stOf_low (fun y hy => h.head y hy))]
      simp [dropL]
    | succ i =>
      have hi' : r[i]? = some (nm, g) := by simpa using hi
      obtain ⟨i1, i2⟩ := ih i h.tail hi'
      have hx : x.1 < nm := h.head (nm, g) (List.mem_of_getElem? hi')
      have e : dropL (x :: r) (i + 1) = x :: dropL r i := by simp [dropL]
      rw [e]
      refine ⟨?_, List.pairwise_cons.2 ⟨fun y hy => ?_, i2⟩⟩
      · show setF (stOf (dropL r i)) _ _ = setF (setF _ _ _) _ _
        rw [i1, setF_comm _ (fun e => by rw [e] at hx; exact lt_self _ hx)]
      · unfold dropL at hy
        rcases List.mem_append.1 hy with q | q
        · exact h.head y (List.mem_of_mem_take q)
        · exact h.head y (List.mem_of_mem_drop q)

theorem namesL_of {L : List Fl} (h : Up L) : NamesOf (stOf L) (namesL L) := by
  refine ⟨fun nm => ?_, ?_, ?_⟩
  · induction L with
    | nil => simp [namesL, stOf]
    | cons x r ih =>
      have ih := ih h.tail
      show nm ∈ x.1 :: namesL r ↔ setF (stOf r) x.1 _ nm ≠ none
      rw [List.mem_cons, ih]
      by_cases e : nm = x.1
      · subst e; simp [setF_same]
      · rw [setF_other _ _ e]; simp [e]
  · unfold namesL
    exact List.pairwise_map.2 (h.imp (fun q e => by rw [e] at q; exact lt_self _ q))
  · unfold namesL
    exact List.pairwise_map.2 (h.imp (fun q => by simp only [leB, decide_eq_true_eq]; exact List.le_of_lt q))
theorem sumL_of {L : List Fl} (h : Up L) : sumB (stOf L) (namesL L) = sumL L := by
  induction L with
  | nil => rfl
  | cons x r ih =>
    have hnin : x.1 ∉ namesL r := fun hm => by
      obtain ⟨y, hy, e⟩ := List.mem_map.1 hm
      have := h.head y hy
      rw [e] at this
      exact lt_self _ this
    show sumB (setF (stOf r) x.1 (some x.2)) (x.1 :: namesL r) = _
    rw [sumB_cons, setF_same, sumB_out _ _ _ _ hnin, ih h.tail]
    simp [sumL, lenO]
end Go.Proofs.Ytkgpgfpclcibmaa

/- Plain mathematics: what a crash leaves of a rising list of files. -/
namespace Go.Proofs.Ytkgpgfpclcibmaa
set_option linter.unusedVariables false
set_option maxRecDepth 100000

def tornF (ks : List Int) (t : Nat) (f : List UInt8 × Nat) : List UInt8 × Nat := (f.1.take (f.2 + stays (keepAt ks t) (f.1.length - f.2)), f.2 + stays (keepAt ks t) (f.1.length - f.2))
/-- What a crash leaves, file by file. -/
def crashL : List Fl → List Int → Nat → List Fl
  | [], _, _ => []
  | x :: r, ks, t => if x.2.2 = x.2.1.length then x :: crashL r ks t else (x.1, tornF ks t x.2) :: crashL r ks (t + 1)

theorem crashL_names (L : List Fl) (ks : List Int) (t : Nat) : namesL (crashL L ks t) = namesL L := by
  induction L generalizing t with
  | nil => rfl
  | cons x r ih =>
    simp only [crashL]
    split
    · show x.1 :: namesL _ = x.1 :: namesL _; rw [ih]
    · show x.1 :: namesL _ = x.1 :: namesL _; rw [ih]
theorem up_names {L M : List Fl} (h : namesL M = namesL L) (hU : Up L) : Up M := by
  have h1 : (namesL L).Pairwise (· < ·) := List.pairwise_map.2 hU
  rw [← h] at h1
  exact List.pairwise_map.1 h1
theorem crashL_up {L : List Fl} (hU : Up L) (ks : List Int) (t : Nat) : Up (crashL L ks t) := up_names (crashL_names L ks t) hU
theorem crashL_len (L : List Fl) (ks : List Int) (t : Nat) : (crashL L ks t).length = L.length := by
  have := congrArg List.length (crashL_names L ks t)
  simpa [namesL] using this

/-- The files of L laid over others. -/
def ov (L : List Fl) (st : St) : St := L.foldr (fun x s => setF s x.1 (some x.2)) st
theorem ov_cons (x : Fl) (r : List Fl) (st : St) : ov (x :: r) st = setF (ov r st) x.1 (some x.2) := rfl
theorem ov_none (L : List Fl) : ov L (fun _ => none) = stOf L := by
  induction L with
  | nil => rfl
  | cons x r ih => rw [ov_cons, ih]; rfl
theorem ov_out (L : List Fl) (st : St) (nm : Nm) (y : Option (List UInt8 × Nat)) (h : nm ∉ namesL L) : ov L (setF st nm y) = setF (ov L st) nm y := by
  induction L with
  | nil => rfl
  | cons x r ih =>
    have h1 : nm ≠ x.1 := fun e => h (by rw [e]; exact List.mem_cons_self ..)
    have h2 : nm ∉ namesL r := fun e => h (List.mem_cons_of_mem _ e)
    rw [ov_cons, ov_cons, ih h2, setF_comm _ h1]
theorem torn_len (ks : List Int) (t : Nat) (f : List UInt8 × Nat) (h : f.2 ≤ f.1.length) : (tornF ks t f).1.length + (f.1.length - f.2 - stays (keepAt ks t) (f.1.length - f.2)) = f.1.length ∧ (tornF ks t f).2 ≤ (tornF ks t f).1.length := by
  have : stays (keepAt ks t) (f.1.length - f.2) ≤ f.1.length - f.2 := Nat.min_le_right _ _
  unfold tornF
  simp only [List.length_take]
  omega

theorem crashF_ov {L : List Fl} (hU : Up L) (ks : List Int) (t : Nat) (st : St) (sz : Nat) : (crashF (namesL L) ks t (ov L st) sz).1 = ov (crashL L ks t) st := by
  induction L generalizing t st sz with
  | nil => rfl
  | cons x r ih =>
    have hout : x.1 ∉ namesL r := fun hm => by
      obtain ⟨y, hy, e⟩ := List.mem_map.1 hm
      have := hU.head y hy
      rw [e] at this
      exact lt_self _ this
    have hx : ov (x :: r) st x.1 = some x.2 := setF_same _ _ _
    show (crashF (x.1 :: namesL r) ks t (ov (x :: r) st) sz).1 = _
    rw [crashF, hx]
    simp only [crashL]
    by_cases q : x.2.2 = x.2.1.length
    · rw [if_pos q, if_pos q, ov_cons, ← ov_out r st x.1 _ hout, ih hU.tail, ov_cons, ov_out _ _ _ _ (by rw [crashL_names]; exact hout)]
    · rw [if_neg q, if_neg q, ov_cons, setF_twice, ← ov_out r st x.1 _ hout, ih hU.tail, ov_cons, ov_out _ _ _ _ (by rw [crashL_names]; exact hout)]
      rfl
theorem crashF_sum {L : List Fl} (hU : Up L) (hk : ∀ x ∈ L, x.2.2 ≤ x.2.1.length) (ks : List Int) (t : Nat) (st : St) (sz : Nat) (hs : sumL L ≤ sz) : (crashF (namesL L) ks t (ov L st) sz).2 + sumL L = sz + sumL (crashL L ks t) := by
  induction L generalizing t st sz with
  | nil => rfl
  | cons x r ih =>
    have hout : x.1 ∉ namesL r := fun hm => by
      obtain ⟨y, hy, e⟩ := List.mem_map.1 hm
      have := hU.head y hy
      rw [e] at this
      exact lt_self _ this
    have hx : ov (x :: r) st x.1 = some x.2 := setF_same _ _ _
    have hsc : ∀ (y : Fl) (q : List Fl), sumL (y :: q) = y.2.1.length + sumL q := fun y q => by simp [sumL]
    have hkr : ∀ y ∈ r, y.2.2 ≤ y.2.1.length := fun y hy => hk y (List.mem_cons_of_mem _ hy)
    rw [hsc] at hs
    show (crashF (x.1 :: namesL r) ks t (ov (x :: r) st) sz).2 + _ = _
    rw [crashF, hx]
    simp only [crashL]
    by_cases q : x.2.2 = x.2.1.length
    · rw [if_pos q, if_pos q, ov_cons, ← ov_out r st x.1 _ hout]
      have := ih hU.tail hkr t (setF st x.1 (some x.2)) sz (by omega)
      rw [hsc, hsc]
      omega
    · rw [if_neg q, if_neg q, ov_cons, setF_twice, ← ov_out r st x.1 _ hout]
      have ht := (torn_len ks t x.2 (hk x (List.mem_cons_self ..))).1
      have := ih hU.tail hkr (t + 1) (setF st x.1 (some (tornF ks t x.2))) (sz - (x.2.1.length - x.2.2 - stays (keepAt ks t) (x.2.1.length - x.2.2))) (by omega)
      rw [hsc, hsc]
      unfold tornF at this ht ⊢
      simp only [] at this ht ⊢
      omega
/-- A crash by names is a crash by the list. -/
theorem crashF_is {L : List Fl} (hU : Up L) (hk : ∀ x ∈ L, x.2.2 ≤ x.2.1.length) (ks : List Int) : crashF (namesL L) ks 0 (stOf L) (sumL L) = (stOf (crashL L ks 0), sumL (crashL L ks 0)) := by
  have h1 := crashF_ov hU ks 0 (fun _ => none) (sumL L)
  have h2 := crashF_sum hU hk ks 0 (fun _ => none) (sumL L) (Nat.le_refl _)
  rw [ov_none, ov_none] at h1
  rw [ov_none] at h2
  exact Prod.ext h1 (by simp only []; omega)
theorem crashL_kept {L : List Fl} (hk : ∀ x ∈ L, x.2.2 ≤ x.2.1.length) (ks : List Int) (t : Nat) : ∀ x ∈ crashL L ks t, x.2.2 ≤ x.2.1.length := by
  induction L generalizing t with
  | nil => intro x hx; cases hx
  | cons y r ih =>
    have hkr : ∀ y ∈ r, y.2.2 ≤ y.2.1.length := fun y hy => hk y (List.mem_cons_of_mem _ hy)
    intro x hx
    simp only [crashL] at hx
    split at hx
    · rcases List.mem_cons.1 hx with q | q
      · subst q; exact hk _ (List.mem_cons_self ..)
      · exact ih hkr _ x q
    · rcases List.mem_cons.1 hx with q | q
      · subst q; exact (torn_len ks t y.2 (hk y (List.mem_cons_self ..))).2
      · exact ih hkr _ x q
theorem crashL_sum (L : List Fl) (hk : ∀ x ∈ L, x.2.2 ≤ x.2.1.length) (ks : List Int) (t : Nat) : sumL (crashL L ks t) ≤ sumL L := by
  induction L generalizing t with
  | nil => exact Nat.le_refl _
  | cons y r ih =>
    have hsc : ∀ (y : Fl) (q : List Fl), sumL (y :: q) = y.2.1.length + sumL q := fun y q => by simp [sumL]
    have hkr : ∀ y ∈ r, y.2.2 ≤ y.2.1.length := fun y hy => hk y (List.mem_cons_of_mem _ hy)
    simp only [crashL]
    split
    · rw [hsc, hsc]; have := ih hkr t; omega
    · rw [hsc, hsc]
      have := ih hkr (t + 1)
      have ht := (torn_len ks t y.2 (hk y (List.mem_cons_self ..))).1
      simp only []
      omega
end Go.Proofs.Ytkgpgfpclcibmaa

/- What the Lender's two methods do: Lend hands out a copy with marked room round it; Back answers true where nothing was written, and writes all of it over. -/
namespace Go.Proofs.Ytkgpgfpclcibmaa
open Go.RowKit
set_option linter.unusedVariables false
set_option maxRecDepth 100000

/-- Block g is just these bytes. -/
def Blk (w : World) (g : Nat) (L : List UInt8) : Prop := w.heap[g]? = some (.cells (cel L).toArray 5 (0, 0))

theorem Blk.cell {w : World} {g : Nat} {L : List UInt8} (h : Blk w g L) (i : Nat) (hi : i < L.length) : w.cell? ⟨g, i, none⟩ = some (.int .u8 (L[i].toNat : Int)) := by
  rw [cell_of_row _ _ _ _ _ _ h]
  simp [cel, hi]
theorem Blk.frozen {w : World} {g : Nat} {L : List UInt8} (h : Blk w g L) (i : Nat) : w.frozen? ⟨g, i, none⟩ = false := frozen_of_row w g i _ _ h
theorem Blk.lt {w : World} {g : Nat} {L : List UInt8} (h : Blk w g L) : g < w.heap.size := (Array.getElem?_eq_some_iff.1 h).1
theorem Blk.grown {w w' : World} {g : Nat} {L : List UInt8} {r : Option Nat} (h : Blk w g L) (hg : w.grownBy w' r) (hr : some g ≠ r) : Blk w' g L := by
  unfold Blk; rw [hg.block g h.lt hr]; exact h
theorem Blk.set {w : World} {g : Nat} {L : List UInt8} (h : Blk w g L) (i : Nat) (b : UInt8) (z : Int) (hz : z = (b.toNat : Int)) : Blk (w.setCell ⟨g, i, none⟩ (.int .u8 z)) g (L.set i b) := by
  subst hz
  have := heap_setCell_same w g i _ _ (.int .u8 (b.toNat : Int)) h
  unfold Blk; rw [this]
  simp [cel, List.map_set]
theorem Blk.rd {w : World} {g : Nat} {L : List UInt8} (h : Blk w g L) (off n c : Nat) (h1 : off + n ≤ L.length) (h2 : n ≤ c) (h3 : c ≤ maxLen) : Rd w (.slice (some ⟨g, off, none⟩) n c) ((L.drop off).take n) := by
  have hl : ((L.drop off).take n).length = n := by simp; omega
  refine Rd.mk hl.symm (by omega) h3 (fun i hi => ?_)
  rw [Addr.add_lit, h.cell (off + i) (by omega)]
  simp
theorem Blk.of_own {B : Nat} {w : World} {g n : Nat} {l : List UInt8} (h : Ow B w (.slice (some ⟨g, 0, none⟩) n n) l) : Blk w g l := by
  obtain ⟨_, h2⟩ := h
  rcases h2 with ⟨hv, _⟩ | ⟨g', cap, cur, hv, _, hh, hn, _, hsz, htake⟩
  · cases hv
  · simp only [Value.slice.injEq, Option.some.injEq, Addr.mk.injEq, and_true] at hv
    obtain ⟨rfl, rfl, rfl⟩ := hv
    unfold Blk; rw [hh]
    have : cur.toList = cel l := by
      rw [← htake, List.take_of_length_le (by simp; omega)]
    rw [← this]

/-- v reads as l in every world that is as w below B. -/
def RdB (B : Nat) (w : World) (v : Value) (l : List UInt8) : Prop := ∀ w', Below B w w' → Rd w' v l

theorem grown_set (w : World) (g i : Nat) (u : Value) : w.grownBy (w.setCell ⟨g, i, none⟩ u) (some g) :=
  ⟨rfl, rfl, rfl, by simp, fun k _ hk => heap_setCell_other w ⟨g, i, none⟩ k u (fun e => hk (by simp [e]))⟩
theorem grown_tr {w w' w'' : World} {r : Option Nat} (h : w.grownBy w' r) (k : w'.grownBy w'' r) : w.grownBy w'' r :=
  ⟨k.os.trans h.os, k.tape.trans h.tape, k.output.trans h.output, Nat.le_trans h.size k.size, fun b hb hr => (k.block b (Nat.lt_of_lt_of_le hb h.size) hr).trans (h.block b hb hr)⟩
theorem grown_new {w w' w'' : World} {r : Option Nat} {g : Nat} (h : w.grownBy w' r) (k : w'.grownBy w'' (some g)) (hg : w.heap.size ≤ g) : w.grownBy w'' r :=
  ⟨k.os.trans h.os, k.tape.trans h.tape, k.output.trans h.output, Nat.le_trans h.size k.size, fun b hb hr => (k.block b (Nat.lt_of_lt_of_le hb h.size) (by simp; omega)).trans (h.block b hb hr)⟩
theorem grown_any {w w' : World} (h : w.grownBy w' none) (r : Option Nat) : w.grownBy w' r := ⟨h.os, h.tape, h.output, h.size, fun b hb _ => h.block b hb (by simp)⟩
theorem grown_below {B : Nat} {w w' : World} {g : Nat} (h : w.grownBy w' (some g)) (hB : B ≤ g) (hB' : B ≤ w.heap.size) : Below B w w' := (Below.refl B w).grown h hB' (fun k e => by cases e; exact hB)
theorem below_grown {w w' : World} (h : Below w.heap.size w w') (r : Option Nat) : w.grownBy w' r := ⟨h.os, h.tape, h.output, h.size, fun b hb _ => h.block b hb⟩

/-- Bytes with the marked room round them. -/
def lent (l : List UInt8) : List UInt8 := List.replicate 8 165 ++ l ++ List.replicate 8 165
theorem lent_splice (l : List UInt8) : splice (cel (List.replicate (l.length + 16) 165)) 8 (cel l) = cel (lent l) := by
  unfold splice lent
  have e : ∀ n, cel (List.replicate n (165 : UInt8)) = List.replicate n (.int .u8 165) := fun n => by simp [cel]
  rw [cel_append, cel_append, e, e, cel_length, List.take_replicate, List.drop_replicate, show min 8 (l.length + 16) = 8 by omega, show l.length + 16 - (8 + l.length) = 8 by omega, List.append_assoc]

/-- What the Lender's own cells hold while it works. -/
structure LSt (w : World) (b g : Nat) (S y : Value) (L : List UInt8) (wr : World) : Prop where
  blk : Blk wr g L
  c0 : wr.cell? ⟨b, 0, none⟩ = some S
  c1 : wr.cell? ⟨b, 1, none⟩ = some y
  f0 : wr.frozen? ⟨b, 0, none⟩ = false
  f1 : wr.frozen? ⟨b, 1, none⟩ = false
  gr : w.grownBy wr (some b)

theorem LSt.put {w : World} {b g : Nat} {S y : Value} {L : List UInt8} {wr : World} (h : LSt w b g S y L wr) (hne : b ≠ g) (hg : w.heap.size ≤ g) (i : Nat) (x : UInt8) (z : Int) (hz : z = (x.toNat : Int)) :
    LSt w b g S y (L.set i x) (wr.setCell ⟨g, i, none⟩ (.int .u8 z)) := by
  have hne' : g ≠ b := fun e => hne e.symm
  refine ⟨h.blk.set i x z hz, ?_, ?_, ?_, ?_, grown_new h.gr (grown_set _ _ _ _) hg⟩
  · rw [World.cell?_setCell_other _ _ _ _ (by intro e; exact hne' (congrArg Addr.block e))]; exact h.c0
  · rw [World.cell?_setCell_other _ _ _ _ (by intro e; exact hne' (congrArg Addr.block e))]; exact h.c1
  · rw [World.frozen?_setCell]; exact h.f0
  · rw [World.frozen?_setCell]; exact h.f1

set_option maxHeartbeats 400000 in
theorem lend_any {B b : Nat} {v : Value} {l : List UInt8} {w : World} {x y : Value} (hr : RdB B w v l) (hl : l.length ≤ 140737488355000) (hB : B ≤ b)
    (hx : w.cell? ⟨b, 0, none⟩ = some x) (hy : w.cell? ⟨b, 1, none⟩ = some y) (fx : w.frozen? ⟨b, 0, none⟩ = false) (fy : w.frozen? ⟨b, 1, none⟩ = false) :
    Calls Try.prog 36 #[.pointer (some ⟨b, 0, none⟩), v] w fun e w' => e = .returned (.slice (some ⟨w.heap.size, 8, none⟩) l.length (l.length + 8)) ∧
      Blk w' w.heap.size (lent l) ∧ w'.cell? ⟨b, 0, none⟩ = some (.slice (some ⟨w.heap.size, 0, none⟩) (l.length + 16) (l.length + 16)) ∧ w'.cell? ⟨b, 1, none⟩ = some (.int .i64 l.length) ∧
      w'.frozen? ⟨b, 0, none⟩ = false ∧ w'.frozen? ⟨b, 1, none⟩ = false ∧ w.grownBy w' (some b) := by
  obtain ⟨i, hi, hz0, hz1, hz2⟩ := info_parts Try.info5
  have hbw := World.block_lt_of_cell? w _ hx
  have hrw := hr w (Below.refl _ _)
  obtain ⟨ao, c, rfl, h1, h2, _, _⟩ := hrw
  unfold maxLen at h2
  go_enter Try.func36, Try.ntmps36
  go_wp2_with (first | (at_make; refine wpList_make_full _ rfl _ _ 29 rfl w.heap.size 5 i _ 1 Try.underlying29 hi hz0 hz1 _ _ _ _ (l.length + 16) rfl rfl (by omega) (by omega) (by rw [hz2]; omega) (by unfold maxLen; omega) (Nat.le_refl _) ?_; intro w1 hown hgr; have hx1 := World.grownBy.cell hgr hx (by simp); have hy1 := World.grownBy.cell hgr hy (by simp); have fx1 := (World.frozen?_of_block (a := ⟨b, 0, none⟩) (hgr.block b hbw (by simp))).trans fx; have fy1 := (World.frozen?_of_block (a := ⟨b, 1, none⟩) (hgr.block b hbw (by simp))).trans fy) | fail)
  have hbl : Blk w1 w.heap.size (List.replicate (l.length + 16) 0) := by
    refine Blk.of_own (B := w.heap.size) (n := l.length + 16) ?_
    unfold Ow
    rw [List.length_replicate]
    have e : (madeCells (Value.int IntKind.u8 0).cells ((l.length + 16) * 1)).toList = cel (List.replicate (l.length + 16) 0) := by
      rw [show (Value.int IntKind.u8 0).cells = #[Value.int IntKind.u8 0] from rfl, toList_madeCells_one]
      simp [cel]
    rw [← e]; exact hown
  have hne : b ≠ w.heap.size := by omega
  have h0 : LSt w b w.heap.size (.slice (some ⟨w.heap.size, 0, none⟩) (l.length + 16) (l.length + 16)) y (List.replicate (l.length + 16) 0) (w1.setCell ⟨b, 0, none⟩ (.slice (some ⟨w.heap.size, 0, none⟩) (l.length + 16) (l.length + 16))) := by
    refine ⟨hbl.grown (grown_set _ _ _ _) (by simp; omega), World.cell?_setCell_same _ _ _ hx1, ?_, ?_, ?_, grown_tr (grown_any hgr _) (grown_set _ _ _ _)⟩
    · rw [World.cell?_setCell_other _ _ _ _ (by simp)]; exact hy1
    · rw [World.frozen?_setCell]; exact fx1
    · rw [World.frozen?_setCell]; exact fy1
  clear hx1 hy1 fx1 fy1 hown hbl hx hy fx fy
  go_loopw [5] (fun i wr => ∃ k : Nat, k ≤ l.length + 16 ∧ i = .int .i64 k ∧ LSt w b w.heap.size (.slice (some ⟨w.heap.size, 0, none⟩) (l.length + 16) (l.length + 16)) y (List.replicate k 165 ++ List.replicate (l.length + 16 - k) 0) wr) (fun i _ => l.length + 16 - (intOf i).toNat)
  case atStart => exact ⟨0, Nat.zero_le _, rfl, by simpa using h0⟩
  case round =>
    obtain ⟨k, hk, rfl, hst⟩ := hrel
    clear h0
    have q0 := hst.c0
    have q1 := hst.c1
    have p0 := hst.f0
    have p1 := hst.f1
    by_cases hlt : k < l.length + 16
    · have qk := hst.blk.cell k (by simp; omega)
      have pk := hst.blk.frozen k
      have hput := hst.put hne (Nat.le_refl _) k 165 165 rfl
      have e : (List.replicate k (165 : UInt8) ++ List.replicate (l.length + 16 - k) 0).set k 165 = List.replicate (k + 1) 165 ++ List.replicate (l.length + 16 - (k + 1)) 0 := by
        rw [show l.length + 16 - k = l.length + 16 - (k + 1) + 1 by omega, List.replicate_succ, List.set_append_right _ _ (by simp), List.length_replicate, Nat.sub_self, List.set_cons_zero, List.replicate_succ']
        simp
      rw [e] at hput
      have HP : Hid _ := hput
      clear hput hst e
      go_wp2
      exact ⟨⟨k + 1, by omega, by go_num, HP.out⟩, by simp [intOf]; omega⟩
    · obtain rfl : k = l.length + 16 := by omega
      rw [Nat.sub_self, List.replicate_zero, List.append_nil] at hst
      have h5 : LSt w b w.heap.size (.slice (some ⟨w.heap.size, 0, none⟩) (l.length + 16) (l.length + 16)) (.int .i64 l.length) (List.replicate (l.length + 16) 165) (wr.setCell ⟨b, 1, none⟩ (.int .i64 l.length)) := by
        refine ⟨hst.blk.grown (grown_set _ _ _ _) (by simp; omega), ?_, World.cell?_setCell_same _ _ _ q1, ?_, ?_, grown_tr hst.gr (grown_set _ _ _ _)⟩
        · rw [World.cell?_setCell_other _ _ _ _ (by simp)]; exact q0
        · rw [World.frozen?_setCell]; exact p0
        · rw [World.frozen?_setCell]; exact p1
      have hr5 := hr _ (grown_below h5.gr hB (by omega))
      obtain ⟨ao', c', ev, g1, g2, g3, g4⟩ := hr5
      simp only [Value.slice.injEq, true_and] at ev
      obtain ⟨rfl, rfl⟩ := ev
      have hcs : 0 < (cel l).length → (some (⟨w.heap.size, 8, none⟩ : Addr)) = some ⟨w.heap.size, 8, none⟩ ∧ ∃ ad, ao = some ad ∧ ∀ j v, (cel l)[j]? = some v → (wr.setCell ⟨b, 1, none⟩ (.int .i64 l.length)).cell? (ad.add j) = some v := by
        intro h0
        rw [cel_length] at h0
        obtain ⟨a, rfl, _⟩ := g4 0 h0
        refine ⟨rfl, a, rfl, fun j v hj => ?_⟩
        have hjl : j < l.length := by have := (List.getElem?_eq_some_iff.1 hj).1; simpa [cel_length] using this
        obtain ⟨a', e, hc⟩ := g4 j hjl
        obtain rfl := Option.some.inj e
        rw [hc]; rw [cel_get l j hjl] at hj; exact hj
      have HC : Hid _ := hcs
      have H5 : Hid _ := h5
      clear hcs h5 hst g4 hr
      go_wp2_with (first | (refine wpList_copy_splice rfl _ _ _ _ rfl 5 Try.underlying29 (by kernel_rfl) _ _ _ _ _ _ rfl rfl w.heap.size 8 (cel (List.replicate (l.length + 16) 165)) 5 H5.out.blk (cel l) ?hn HC.out ?hf (cel_one l) w.heap.size _ (Below.refl _ _) (Nat.le_refl _) ?_; rotate_right; intro w6 hg6 hb6; have e0 := (hb6.cell (p := ⟨b, 0, none⟩) hbw).trans H5.out.c0) | fail)
      case hn => simp [cel_length]
      case hf => simp [cel_length]; omega
      go_ret
      refine ⟨rfl, ?_, e0, (hb6.cell (p := ⟨b, 1, none⟩) hbw).trans H5.out.c1, (hb6.frozen (p := ⟨b, 0, none⟩) hbw).trans H5.out.f0, (hb6.frozen (p := ⟨b, 1, none⟩) hbw).trans H5.out.f1, ?_⟩
      · have := hg6.out
        rw [lent_splice] at this
        exact this
      · have hg := H5.out.gr
        exact ⟨hb6.os.trans hg.os, hb6.tape.trans hg.tape, hb6.output.trans hg.output, Nat.le_trans hg.size hb6.size, fun k hk hr => (hb6.block k hk).trans (hg.block k hk hr)⟩
end Go.Proofs.Ytkgpgfpclcibmaa

/- What the Lender's Back answers where nothing was written: true; and all that was lent is written over. -/
namespace Go.Proofs.Ytkgpgfpclcibmaa
open Go.RowKit
set_option linter.unusedVariables false
set_option maxRecDepth 100000

theorem lent_length (l : List UInt8) : (lent l).length = l.length + 16 := by simp [lent]
theorem lent_out (l : List UInt8) (k : Nat) (hk : k < l.length + 16) (h : k < 8 ∨ 8 + l.length ≤ k) : (lent l).getD k 0 = 165 := by
  unfold lent
  rw [List.getD_eq_getElem?_getD, List.append_assoc]
  rcases h with h | h
  · rw [List.getElem?_append_left (by simpa using h), List.getElem?_replicate, if_pos h]; rfl
  · rw [List.getElem?_append_right (by simp; omega), List.getElem?_append_right (by simp; omega)]
    simp only [List.length_replicate]
    rw [List.getElem?_replicate, if_pos (by omega)]; rfl
theorem lent_in (l : List UInt8) (k : Nat) (h : 8 ≤ k) (hk : k < 8 + l.length) : (lent l).getD k 0 = l[k - 8] := by
  unfold lent
  rw [List.getD_eq_getElem?_getD, List.append_assoc, List.getElem?_append_right (by simpa using h), List.getElem?_append_left (by simp; omega)]
  simp [show k - 8 < l.length by omega]

/-- What is left to be looked at. -/
structure BSt (w : World) (b g : Nat) (l : List UInt8) (k : Nat) (wr : World) : Prop where
  blk : ∃ L, L.length = l.length + 16 ∧ Blk wr g L ∧ ∀ j, k ≤ j → j < l.length + 16 → L.getD j 0 = (lent l).getD j 0
  c0 : wr.cell? ⟨b, 0, none⟩ = some (.slice (some ⟨g, 0, none⟩) (l.length + 16) (l.length + 16))
  gr : w.grownBy wr (some g)

theorem BSt.put {w : World} {b g : Nat} {l : List UInt8} {k : Nat} {wr : World} (h : BSt w b g l k wr) (hne : b ≠ g) (x : Nat) (hx : x < 256) :
    BSt w b g l (k + 1) ((wr.setCell ⟨g, k, none⟩ (.int .u8 (bits BinOp.xor IntKind.u8 (if IntKind.u8.signed = true then -1 else IntKind.u8.max) (x : Int)))).drew) := by
  obtain ⟨L, h1, h2, h3⟩ := h.blk
  have e : bits BinOp.xor IntKind.u8 (if IntKind.u8.signed = true then -1 else IntKind.u8.max) (x : Int) = ((UInt8.ofNat (255 ^^^ x)).toNat : Int) := by
    rw [show (if IntKind.u8.signed = true then (-1 : Int) else IntKind.u8.max) = ((255 : Nat) : Int) from rfl, u8_xor_nat _ _ (by decide) hx, M.u8_ofNat]
    have : 255 ^^^ x < 2 ^ 8 := Nat.xor_lt_two_pow (n := 8) (by decide) (by omega)
    omega
  have hg : wr.grownBy (wr.setCell ⟨g, k, none⟩ (.int .u8 (bits BinOp.xor IntKind.u8 (if IntKind.u8.signed = true then -1 else IntKind.u8.max) (x : Int)))).drew (some g) := by
    have := grown_set wr g k (.int .u8 (bits BinOp.xor IntKind.u8 (if IntKind.u8.signed = true then -1 else IntKind.u8.max) (x : Int)))
    exact ⟨this.os, this.tape, this.output, this.size, this.block⟩
  refine ⟨⟨L.set k (UInt8.ofNat (255 ^^^ x)), by simpa using h1, h2.set k _ _ e, fun j hj hj' => ?_⟩, ?_, grown_tr h.gr hg⟩
  · rw [List.getD_eq_getElem?_getD, List.getElem?_set_ne (by omega), ← List.getD_eq_getElem?_getD]
    exact h3 j (by omega) hj'
  · show (wr.setCell _ _).cell? _ = _
    rw [World.cell?_setCell_other _ _ _ _ (by intro e; exact hne (congrArg Addr.block e).symm)]; exact h.c0

set_option maxHeartbeats 1000000 in
theorem back_any {B b g : Nat} {v : Value} {l : List UInt8} {w : World} (hr : RdB B w v l) (hl : l.length ≤ 140737488355000) (hBg : B ≤ g) (hne : b ≠ g)
    (hbl : Blk w g (lent l)) (h0 : w.cell? ⟨b, 0, none⟩ = some (.slice (some ⟨g, 0, none⟩) (l.length + 16) (l.length + 16))) (h1 : w.cell? ⟨b, 1, none⟩ = some (.int .i64 l.length)) :
    Calls Try.prog 38 #[.pointer (some ⟨b, 0, none⟩), v] w fun e w' => e = .returned (.bool true) ∧ w.grownBy w' (some g) := by
  have hgw := hbl.lt
  have hrw := hr w (Below.refl _ _)
  obtain ⟨ao, c, rfl, h2, h3, _, _⟩ := hrw
  unfold maxLen at h3
  have hs0 : BSt w b g l 0 w := ⟨⟨lent l, lent_length l, hbl, fun _ _ _ => rfl⟩, h0, World.grownBy.refl _ _⟩
  have HS : Hid _ := hs0
  clear hs0 hbl
  go_enter Try.func38, Try.ntmps38
  go_wp2
  go_loopw [5, 6, 7] (fun ok i _ wr => ∃ k : Nat, k ≤ l.length + 16 ∧ i = .int .i64 k ∧ ok = .bool true ∧ BSt w b g l k wr) (fun _ i _ _ => l.length + 16 - (intOf i).toNat)
  case atStart => exact ⟨0, Nat.zero_le _, rfl, rfl, HS.out⟩
  case round =>
    obtain ⟨k, hk, rfl, rfl, hst⟩ := hrel
    clear HS h0 h1
    have q0 := hst.c0
    by_cases hlt : k < l.length + 16
    · obtain ⟨L, hL, hB, hg⟩ := hst.blk
      have qk := hB.cell k (by omega)
      have pk := hB.frozen k
      have hgk := hg k (Nat.le_refl _) hlt
      have eL : L.getD k 0 = L[k] := by simp [show k < L.length by omega]
      rw [eL] at hgk
      have HP : Hid (∀ x : Nat, x < 256 → _) := fun x hx => hst.put hne x hx
      have HG : Hid _ := hst.gr
      have hx := L[k].toNat_lt
      clear hg eL hst hB
      by_cases hin : 8 ≤ k ∧ k < 8 + l.length
      · have hv : L[k] = l[k - 8] := by rw [hgk]; exact lent_in l k hin.1 hin.2
        rw [hv] at qk
        rw [hv] at hx
        clear hgk hv
        obtain ⟨hi8, hi9⟩ := hin
        have hgb : Below B w wr := grown_below HG.out hBg (by omega)
        obtain ⟨ao', c', ev, _, _, _, g4⟩ := hr wr hgb
        simp only [Value.slice.injEq, true_and] at ev
        obtain ⟨rfl, rfl⟩ := ev
        obtain ⟨a, rfl, hc⟩ := g4 (k - 8) (by omega)
        clear g4 hgb hr
        have heq : (((l[k - 8]'(by omega)).toNat : Int) == ((l[k - 8]'(by omega)).toNat : Int)) = true := by simp
        go_wp2
        go_region
        all_goals go_wp2
        all_goals exact ⟨⟨k + 1, by omega, by go_num, rfl, HP.out _ hx⟩, by simp [intOf]; omega⟩
      · have hv : L[k] = 165 := by rw [hgk]; exact lent_out l k hlt (by omega)
        rw [hv] at qk
        have qk' : wr.cell? ⟨g, k, none⟩ = some (.int .u8 165) := qk
        clear hgk hv hx qk
        by_cases h8 : k < 8
        · clear hin
          go_wp2
          go_region
          all_goals go_wp2
          all_goals exact ⟨⟨k + 1, by omega, by go_num, rfl, HP.out 165 (by decide)⟩, by simp [intOf]; omega⟩
        · have h8' : ¬ k < 8 + l.length := by omega
          clear hin
          go_wp2
          go_region
          all_goals go_wp2
          all_goals exact ⟨⟨k + 1, by omega, by go_num, rfl, HP.out 165 (by decide)⟩, by simp [intOf]; omega⟩
    · go_wp2
      go_ret
      exact ⟨rfl, hst.gr⟩

theorem lent_mid (l : List UInt8) : ((lent l).drop 8).take l.length = l := by
  unfold lent
  rw [List.append_assoc, List.drop_left' (by simp), List.take_left' rfl]

theorem Ow.kept {B g : Nat} {w w' : World} {v : Value} {l : List UInt8} (h : Ow B w v l) (hg : w.grownBy w' (some g)) (hB : g < B) : Ow B w' v l := by
  refine World.ownsRow.kept h hg ?_
  by_cases e : v.ownBlock = none
  · exact .inl e
  · refine .inr fun e2 => ?_
    have := (World.ownsRow.lt h g e2).1
    omega

theorem RdB.of {w w' : World} {v : Value} {l : List UInt8} (h : Rd w v l) (hb : Below w.heap.size w w') : RdB w.heap.size w' v l := fun w'' h' => h.below (hb.trans h') (Nat.le_refl _)
theorem RdB.next {B : Nat} {w w' : World} {v : Value} {l : List UInt8} (h : RdB B w v l) (hb : Below B w w') : RdB B w' v l := fun w'' h' => h w'' (hb.trans h')
theorem RdB.now {B : Nat} {w : World} {v : Value} {l : List UInt8} (h : RdB B w v l) : Rd w v l := h w (Below.refl _ _)

/-- The Lender in block b has lent l out of block g. -/
structure Lst (b g : Nat) (l : List UInt8) (w : World) : Prop where
  lt : b < g
  blk : Blk w g (lent l)
  c0 : w.cell? ⟨b, 0, none⟩ = some (.slice (some ⟨g, 0, none⟩) (l.length + 16) (l.length + 16))
  c1 : w.cell? ⟨b, 1, none⟩ = some (.int .i64 l.length)

theorem Lst.next {b g : Nat} {l : List UInt8} {w w' : World} (h : Lst b g l w) (hb : Below w.heap.size w w') : Lst b g l w' := by
  have h1 := h.blk.lt
  have h2 := h.lt
  refine ⟨h.lt, h.blk.grown (below_grown hb none) (by simp), ?_, ?_⟩
  · rw [hb.cell (by show b < _; omega)]; exact h.c0
  · rw [hb.cell (by show b < _; omega)]; exact h.c1

/-- Lend, of a new Lender. -/
theorem lend_new {B : Nat} {v : Value} {l : List UInt8} {w : World} (hr : RdB B w v l) (hl : l.length ≤ 140737488355000) (hB : B ≤ w.heap.size) (t : TypeId) :
    Calls Try.prog 36 #[.pointer (some ⟨w.heap.size, 0, none⟩), v] (w.alloc (.cells #[.slice none 0 0, .int .i64 0] t)) fun e w' =>
      ∃ p, e = .returned p ∧ Rd w' p l ∧ Lst w.heap.size (w.heap.size + 1) l w' ∧ Below w.heap.size w w' := by
  have c0 : (w.alloc (.cells #[.slice none 0 0, .int .i64 0] t)).cell? ⟨w.heap.size, 0, none⟩ = some (.slice none 0 0) := by rw [World.cell?_alloc_at _ _ _ _ rfl]; rfl
  have c1 : (w.alloc (.cells #[.slice none 0 0, .int .i64 0] t)).cell? ⟨w.heap.size, 1, none⟩ = some (.int .i64 0) := by rw [World.cell?_alloc_at _ _ _ _ rfl]; rfl
  have f0 : (w.alloc (.cells #[.slice none 0 0, .int .i64 0] t)).frozen? ⟨w.heap.size, 0, none⟩ = false := World.frozen?_alloc_at _ _ _ _ rfl
  have f1 : (w.alloc (.cells #[.slice none 0 0, .int .i64 0] t)).frozen? ⟨w.heap.size, 1, none⟩ = false := World.frozen?_alloc_at _ _ _ _ rfl
  have hal : Below w.heap.size w (w.alloc (.cells #[.slice none 0 0, .int .i64 0] t)) := (Below.refl _ _).alloc (Nat.le_refl _) _
  refine (lend_any (B := B) (hr.next (hal.mono hB)) hl hB c0 c1 f0 f1).mono ?_
  have es : (w.alloc (.cells #[.slice none 0 0, .int .i64 0] t)).heap.size = w.heap.size + 1 := by simp
  rw [es]
  rintro e w' ⟨rfl, hbl, d0, d1, _, _, hg⟩
  refine ⟨_, rfl, ?_, ⟨by omega, hbl, d0, d1⟩, hal.trans (grown_below hg (Nat.le_refl _) (by simp))⟩
  have := hbl.rd 8 l.length (l.length + 8) (by rw [lent_length]; omega) (by omega) (by unfold maxLen; omega)
  rw [lent_mid] at this
  exact this

/-- Back, of what was lent. -/
theorem back_new {B b g : Nat} {v : Value} {l : List UInt8} {w : World} (hs : Lst b g l w) (hr : RdB B w v l) (hl : l.length ≤ 140737488355000) (hB : B ≤ b) :
    Calls Try.prog 38 #[.pointer (some ⟨b, 0, none⟩), v] w fun e w' => e = .returned (.bool true) ∧ w.grownBy w' (some g) ∧ Below B w w' := by
  have h1 := hs.lt
  have h2 := hs.blk.lt
  refine (back_any hr hl (by omega) (by omega) hs.blk hs.c0 hs.c1).mono ?_
  rintro e w' ⟨rfl, hg⟩
  exact ⟨rfl, hg, grown_below hg (by omega) (by omega)⟩
end Go.Proofs.Ytkgpgfpclcibmaa

/- How an argument that came in is read: a slice of bytes as 'Rd', with the form's own bound on its length. -/
namespace Go.Proofs.Ytkgpgfpclcibmaa
open Go.ChangeShapes Go.WideShapes Go.ChangeAt Go.RowKit
set_option linter.unusedVariables false
set_option maxRecDepth 100000

theorem Try.bytes5 : Try.prog.bytesOf 5 = 1 := by kernel_rfl

/-- A slice of bytes that came in. -/
theorem open_bytes {H : Type} {enc : TypeId × Value → H} {W : World} {a0 : Option Addr} {len cap : Nat} {d : DataW H} {p : List MemPlace} (h : DataW.Trod enc Try.prog W 0 (fun _ => true) true 29 (.slice a0 len cap) d p) :
    ∃ l : List UInt8, Rd W (.slice a0 len cap) l ∧ l.length = len ∧ ∃ zs : List Int, (a0 = none ∧ len = 0) ∨ d = .slice (lits .u8 (zs.take len)) (lits .u8 (zs.drop len)) ∧ zs.length = cap ∧ len ≤ cap := by
  obtain ⟨fuel, hf⟩ := h
  rcases open_ints Try.underlying29 Try.underlying5 (by kernel_rfl) hf with ⟨hcs, _⟩ | ⟨x, n, c, zs, hcs, _, hl, hm, hz, hd, hcell, hwz⟩
  · simp [Value.cells] at hcs
    obtain ⟨rfl, rfl, rfl⟩ := hcs
    exact ⟨[], Rd.nil _, rfl, [], .inl ⟨rfl, rfl⟩⟩
  · simp [Value.cells] at hcs
    obtain ⟨rfl, rfl, rfl⟩ := hcs
    have hz' : zs.length = cap := by simpa using hz
    have hlen : ((zs.take len).map (fun z => UInt8.ofNat z.toNat)).length = len := by simp; omega
    refine ⟨(zs.take len).map (fun z => UInt8.ofNat z.toNat), Rd.mk hlen.symm (by omega) hm (fun i hi => ?_), hlen, zs, .inr ⟨?_, hz', hl⟩⟩
    · have hi' : i < zs.length := by omega
      rw [hcell i hi']
      have hw := hwz (zs[i]) (List.getElem_mem hi')
      have hx : 0 ≤ zs[i] ∧ zs[i] ≤ 255 := by simpa [Lit.wf, IntKind.min, IntKind.max, IntKind.signed, IntKind.bits] using hw
      have e : zs.getD i 0 = zs[i] := by simp [hi']
      rw [e]
      simp only [List.getElem_map, List.getElem_take]
      rw [M.u8_ofNat]
      congr 2
      omega
    · simp only [Prod.mk.injEq] at hd
      exact hd.1

end Go.Proofs.Ytkgpgfpclcibmaa
