/- Rename of an armed disk, where it answers OK. -/
import Derived.Test.YtbolnelbchffhacDkArm0
import Derived.Test.YtbolnelbchffhacDkAwake
import Derived.Test.YtbolnelbchffhacDkRename
namespace Go.Proofs.Ytbolnelbchffhac
open Go.RowKit
set_option linter.unusedVariables false
set_option maxRecDepth 100000

section
variable {B d n : Nat} {own : Nat → Option Role} {st : Nm → Option (List UInt8 × Nat)} {sz : Nat} {left : Int} {w : World}

set_option maxHeartbeats 2000000 in
theorem rename_okN {L : Nat} (h : Dk B d n own st sz (armed d) ((L + 1 : Nat) : Int) w) (hL : L ≤ 9223372036854775806) (s t : ByteArray) (hs : s.size ≤ maxLen) (ht1 : 1 ≤ t.size) (ht2 : t.size ≤ 64) (f : List UInt8 × Nat) (e : st s.data.toList = some f) (et : setF st s.data.toList none t.data.toList = none) (hn : n ≤ 1099511627776) :
    Calls Try.prog 21 #[.pointer (some ⟨d, 0, none⟩), .string s, .string t] w fun e w' => e = .returned (.int .i64 0) ∧ (∃ own', Dk B d (n + 1) own' (setF (setF st s.data.toList none) t.data.toList (some f)) sz (armed d) (L : Int) w' ∧ ∀ b, own' b ≠ none → own b ≠ none ∨ w.heap.size ≤ b) ∧ Chg (fun b => own b ≠ none) w w' := by
  have e0 := e
  have htl : t.size ≤ maxLen := by unfold maxLen; omega
  have hrf := fun q => refuseRename_any (h.drN q) s t hs
  have hr0 : rErr st s t = 0 := by unfold rErr; rw [if_neg (by rw [e]; simp), if_neg (by simp; omega)]
  simp only [hr0] at hrf
  clear hr0
  obtain ⟨_, _, c2, _⟩ := h.cell3
  unfold armed at c2
  obtain ⟨W, hD, hcW, hsW, hgt⟩ := gate_ok h hL
  clear h
  obtain ⟨m, D, fb, fv, h⟩ := hD
  have hnm : n < maxLen := by unfold maxLen; omega
  have c0 : W.cell? ⟨d, 0, none⟩ = some (.map (some m)) := by rw [cell_of_row _ _ _ _ _ _ h.cell]; rfl
  have hrun := fun q => (h.drN q).look s hs f e
  have hkey := WideMaps.keyOf_string_mk (P := Try.prog) (k := 9) Try.underlying9 hs
  have hkeyt := WideMaps.keyOf_string_mk (P := Try.prog) (k := 9) Try.underlying9 htl
  have hmap : ∀ q, (W.drewN q).ownsMap Try.prog 9 flE m n D := fun q => (h.drN q).map
  have H : Hid _ := h
  have hof := h.ofl _ f e
  clear h
  generalize hg : fb s.data.toList = g at *
  go_enter Try.func21, Try.ntmps21
  go_wp2_with fail
  go_region_with (first | (go_at_call 46; refine (hrf _).mono ?_; rintro e w1 ⟨rfl, k1, rfl⟩) | (go_at_call 44; refine (hgt _).mono ?_; rintro e w2 ⟨rfl, nq, rfl⟩) | fail)
  all_goals
    go_wp2_with (first | (at_delete; refine wpList_delete_own _ rfl _ _ 51 9 rfl 72 Try.strKeyed Try.underlying51 flE m n D rfl (hmap _) _ _ rfl hkey ?_; intro w1 hown1 hturn1) | fail)
    have hc1 : Chg (fun b => b = m) (W.drewN nq) w1 := Chg.of_grown hturn1.grown (fun b q _ => (Option.some.inj q).symm)
    have h1 := (H.out.drN nq).del s.data.toList hc1 hown1
    have l1 := (H.out.drN nq).loose e hc1
    refine (drop_not ⟨_, _, _, _, h1⟩ t htl et).mono ?_
    rintro e w2 ⟨⟨v2, rfl⟩, q2, rfl⟩
    have h2 := h1.drN q2
    have l2 := l1.next (own' := strike own s.data.toList) (Chg.dN0 w1 q2) (fun _ _ q => q) (fun b q => q)
    have c02 : w1.cell? ⟨d, 0, none⟩ = some (.map (some m)) := by rw [cell_of_row _ _ _ _ _ _ h1.cell]; rfl
    have hmap2 := h2.map
    have H2 : Hid _ := And.intro h2 l2
    clear h2 l2 h1 l1 hown1 hturn1
    go_wp2_with (first | (at_mapUpdate; refine wpList_mapUpdate_own _ rfl _ _ _ 51 rfl 9 72 Try.strKeyed Try.underlying51 flE m n _ rfl hmap2 hnm _ _ _ rfl rfl hkeyt (.lit (.int .u64 (g : Int))) [] rfl ?_; intro w3 hown3 hg3) | fail)
    go_ret
    have hc3 : Chg (fun b => b = m) (w1.drewN q2) w3 := Chg.of_grown hg3 (fun b q _ => (Option.some.inj q).symm)
    rw [hg] at H2
    have hfin := H2.out.2.link H2.out.1 et hc3 hown3
    have hmo : own m ≠ none := by rw [H.out.om]; simp
    have d0 : Chg (fun b => own b ≠ none) W (W.drewN nq) := (Chg.dN0 W nq).mono (fun _ _ q => q.elim)
    have d1 : Chg (fun b => own b ≠ none) W w1 := d0.trans (hc1.mono (fun b _ q => Or.inl (by rw [q]; exact hmo)))
    have d2 : Chg (fun b => own b ≠ none) W (w1.drewN q2) := d1.dN q2
    refine ⟨rfl, ⟨_, hfin, fun b hb => Or.inl ?_⟩, (hcW.trans (d2.mono (fun b _ q => Or.inl q))).trans (hc3.mono (fun b _ q => Or.inl (by rw [q]; exact hmo)))⟩
    by_cases q : b = g
    · rw [q, hof]; simp
    · rw [if_neg q] at hb
      by_cases q3 : (fv s.data.toList).ownBlock = some b
      · rw [H.out.ov _ f b e0 q3]; simp
      · rw [if_neg q3] at hb; exact strike_sub hb

set_option maxHeartbeats 2000000 in
theorem rename_okO {L : Nat} (h : Dk B d n own st sz (armed d) ((L + 1 : Nat) : Int) w) (hL : L ≤ 9223372036854775806) (s t : ByteArray) (hs : s.size ≤ maxLen) (ht1 : 1 ≤ t.size) (ht2 : t.size ≤ 64) (f f2 : List UInt8 × Nat) (e : st s.data.toList = some f) (et : setF st s.data.toList none t.data.toList = some f2) (hn : n ≤ 1099511627776) (hf2 : f2.1.length ≤ sz) (hz : sz ≤ 1099511627776) :
    Calls Try.prog 21 #[.pointer (some ⟨d, 0, none⟩), .string s, .string t] w fun e w' => e = .returned (.int .i64 0) ∧ (∃ own', Dk B d (n + 1) own' (setF (setF st s.data.toList none) t.data.toList (some f)) (sz - f2.1.length) (armed d) (L : Int) w' ∧ ∀ b, own' b ≠ none → own b ≠ none ∨ w.heap.size ≤ b) ∧ Chg (fun b => own b ≠ none) w w' := by
  have e0 := e
  have htl : t.size ≤ maxLen := by unfold maxLen; omega
  have hrf := fun q => refuseRename_any (h.drN q) s t hs
  have hr0 : rErr st s t = 0 := by unfold rErr; rw [if_neg (by rw [e]; simp), if_neg (by simp; omega)]
  simp only [hr0] at hrf
  clear hr0
  obtain ⟨_, _, c2, _⟩ := h.cell3
  unfold armed at c2
  obtain ⟨W, hD, hcW, hsW, hgt⟩ := gate_ok h hL
  clear h
  obtain ⟨m, D, fb, fv, h⟩ := hD
  have hnm : n < maxLen := by unfold maxLen; omega
  have c0 : W.cell? ⟨d, 0, none⟩ = some (.map (some m)) := by rw [cell_of_row _ _ _ _ _ _ h.cell]; rfl
  have hrun := fun q => (h.drN q).look s hs f e
  have hkey := WideMaps.keyOf_string_mk (P := Try.prog) (k := 9) Try.underlying9 hs
  have hkeyt := WideMaps.keyOf_string_mk (P := Try.prog) (k := 9) Try.underlying9 htl
  have hmap : ∀ q, (W.drewN q).ownsMap Try.prog 9 flE m n D := fun q => (h.drN q).map
  have H : Hid _ := h
  have hof := h.ofl _ f e
  clear h
  generalize hg : fb s.data.toList = g at *
  go_enter Try.func21, Try.ntmps21
  go_wp2_with fail
  go_region_with (first | (go_at_call 46; refine (hrf _).mono ?_; rintro e w1 ⟨rfl, k1, rfl⟩) | (go_at_call 44; refine (hgt _).mono ?_; rintro e w2 ⟨rfl, nq, rfl⟩) | fail)
  all_goals
    go_wp2_with (first | (at_delete; refine wpList_delete_own _ rfl _ _ 51 9 rfl 72 Try.strKeyed Try.underlying51 flE m n D rfl (hmap _) _ _ rfl hkey ?_; intro w1 hown1 hturn1) | fail)
    have hc1 : Chg (fun b => b = m) (W.drewN nq) w1 := Chg.of_grown hturn1.grown (fun b q _ => (Option.some.inj q).symm)
    have h1 := (H.out.drN nq).del s.data.toList hc1 hown1
    have l1 := (H.out.drN nq).loose e hc1
    refine (drop_there ⟨_, _, _, _, h1⟩ t htl f2 et hf2 hz).mono ?_
    rintro e w2 ⟨⟨v2, rfl⟩, ⟨m2, D2, fb2, fv2, h2⟩, hc2⟩
    have l2 := l1.next (own' := strike (strike own s.data.toList) t.data.toList) hc2 (fun b q q2 => by rcases q2 with q2 | q2 <;> rw [q] at q2 <;> cases q2) (fun b q => strike_none q)
    have c02 : w2.cell? ⟨d, 0, none⟩ = some (.map (some m2)) := by rw [cell_of_row _ _ _ _ _ _ h2.cell]; rfl
    have hmap2 := h2.map
    have hm2 : own m2 ≠ none := by rw [strike_role (strike_role h2.om)]; simp
    have H2 : Hid _ := And.intro h2 l2
    clear h2 l2 h1 l1 hown1 hturn1
    go_wp2_with (first | (at_mapUpdate; refine wpList_mapUpdate_own _ rfl _ _ _ 51 rfl 9 72 Try.strKeyed Try.underlying51 flE m2 n D2 rfl hmap2 hnm _ _ _ rfl rfl hkeyt (.lit (.int .u64 (g : Int))) [] rfl ?_; intro w3 hown3 hg3) | fail)
    go_ret
    have hc3 : Chg (fun b => b = m2) w2 w3 := Chg.of_grown hg3 (fun b q _ => (Option.some.inj q).symm)
    rw [hg] at H2
    have hfin := H2.out.2.link H2.out.1 (setF_same _ _ _) hc3 hown3
    rw [setF_setF] at hfin
    have hmo : own m ≠ none := by rw [H.out.om]; simp
    have d0 : Chg (fun b => own b ≠ none) W (W.drewN nq) := (Chg.dN0 W nq).mono (fun _ _ q => q.elim)
    have d1 : Chg (fun b => own b ≠ none) W w1 := d0.trans (hc1.mono (fun b _ q => Or.inl (by rw [q]; exact hmo)))
    have d2 : Chg (fun b => own b ≠ none) W w2 := d1.trans (hc2.mono (fun b _ q => Or.inl (by rcases q with q | q <;> rw [strike_role q] <;> simp)))
    refine ⟨rfl, ⟨_, hfin, fun b hb => Or.inl ?_⟩, (hcW.trans (d2.mono (fun b _ q => Or.inl q))).trans (hc3.mono (fun b _ q => Or.inl (by rw [q]; exact hm2)))⟩
    by_cases q : b = g
    · rw [q, hof]; simp
    · rw [if_neg q] at hb
      by_cases q3 : (fv s.data.toList).ownBlock = some b
      · rw [H.out.ov _ f b e0 q3]; simp
      · rw [if_neg q3] at hb; exact strike_sub (strike_sub hb)
end
end Go.Proofs.Ytbolnelbchffhac
