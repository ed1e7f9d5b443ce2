/- Write of an armed disk, where it answers OK. -/
import Derived.Test.YtbolnelbchffhacDkArm0
import Derived.Test.YtbolnelbchffhacDkAwake
namespace Go.Proofs.Ytbolnelbchffhac
open Go.RowKit
set_option linter.unusedVariables false
set_option maxRecDepth 100000

section
variable {B d n : Nat} {own : Nat → Option Role} {st : Nm → Option (List UInt8 × Nat)} {sz : Nat} {left : Int} {w : World}

set_option maxHeartbeats 1000000 in
theorem write_okT {L : Nat} (h : Dk B d n own st sz (armed d) ((L + 1 : Nat) : Int) w) (hL : L ≤ 9223372036854775806) (s : ByteArray) (hs1 : 1 ≤ s.size) (hs2 : s.size ≤ 64) (f : List UInt8 × Nat) (e : st s.data.toList = some f) {vb : Value} {l : List UInt8} (hrB : ∀ W, Below B w W → Rd W vb l) (hz : sz + l.length ≤ 16777216) (hf : f.1.length ≤ 16777216) :
    Calls Try.prog 12 #[.pointer (some ⟨d, 0, none⟩), .string s, vb] w fun e w' => e = .returned (.int .i64 0) ∧ (∃ own', Dk B d n own' (setF st s.data.toList (some (f.1 ++ l, f.2))) (sz + l.length) (armed d) (L : Int) w' ∧ ∀ b, own' b ≠ none → own b ≠ none ∨ w.heap.size ≤ b) ∧ Chg (fun b => own b ≠ none) w w' := by
  have hml : s.size ≤ maxLen := by unfold maxLen; omega
  have hrf := fun q => refuseWrite_any (h.drN q) s l.length (by omega) (by omega)
  have hw0 : wErr s l.length sz = 0 := by unfold wErr; rw [if_neg (by simp; omega), if_neg (by omega)]
  simp only [hw0] at hrf
  clear hw0
  obtain ⟨_, _, c2, _⟩ := h.cell3
  unfold armed at c2
  obtain ⟨W, hD, hcW, hsW, hgt⟩ := gate_ok h hL
  have HSW : Hid _ := hsW
  clear hsW
  have hr : Rd W vb l := hrB W (h.chg hcW)
  clear h
  obtain ⟨m, D, fb, fv, h⟩ := hD
  have c0 : W.cell? ⟨d, 0, none⟩ = some (.map (some m)) := by rw [cell_of_row _ _ _ _ _ _ h.cell]; rfl
  have hrun := fun q => (h.drN q).look s hml f e
  obtain ⟨fa, fc, efv, hln, f0, f1, hfz, hrd⟩ := h.fcell e
  have hB : B ≤ W.heap.size := by have := h.lo d (by rw [h.od]; simp); omega
  have how : Ow B W (.slice fa f.1.length fc) f.1 := by rw [← efv]; exact (h.file _ f e).2.1
  have hgrew := fun q w3 (hg : (W.drewN q).grownBy w3 (Value.slice fa f.1.length fc).ownBlock) => (h.drN q).grew e (w3 := w3) (by rw [efv]; exact hg)
  have hwrote := fun q w3 v3 (hg : (W.drewN q).grownBy w3 (Value.slice fa f.1.length fc).ownBlock) (ho : Ow B w3 v3 (f.1 ++ l)) (hv : v3.ownBlock = (Value.slice fa f.1.length fc).ownBlock ∨ v3.ownBlock = some (W.drewN q).heap.size) => (h.drN q).wrote e (w3 := w3) (v3 := v3) (l := l) (by rw [efv]; exact hg) ho (by rw [efv]; exact hv)
  have H : Hid _ := And.intro hgrew hwrote
  clear h hfz efv hgrew hwrote
  have hr' := hr
  obtain ⟨av, cv, rfl, _, hcv, _, _⟩ := hr
  unfold maxLen at hcv
  generalize hnm : s.data.toList = nm at *
  generalize hg : fb nm = g at *
  go_enter Try.func12, Try.ntmps12
  go_wp2_with fail
  go_region_with (first | (go_at_call 39; refine (hrf _).mono ?_; rintro e w1 ⟨rfl, k1, rfl⟩) | (go_at_call 44; refine (hgt _).mono ?_; rintro e w2 ⟨rfl, nq, rfl⟩) | fail)
  all_goals
    go_wp2_with (first | (at_builtin; refine wpList_appN rfl _ _ rfl B _ f.1 rfl (how.below (Below.dN W nq) (Nat.le_refl _)) _ l rfl (hr'.drewN nq) hB (by omega) ?_; intro v3 w3 ho3 hg3 hw3; obtain ⟨a3, c3, ev3, _⟩ := ho3.rd; obtain ⟨⟨u0, q0⟩, q1, q2⟩ := H.out.1 nq w3 hg3; have q3 := fun v => (q2 v).1; have q4 := fun v => (q2 v).2; clear q2; subst ev3) | fail)
    go_ret
    obtain ⟨⟨own', x1, x2⟩, x3⟩ := H.out.2 nq w3 _ hg3 ho3 hw3
    simp only [List.length_append, Int.natCast_add] at x1 x3
    have hd0 : Chg (fun b => own b ≠ none) w (W.drewN nq) := hcW.dN nq
    exact ⟨rfl, ⟨own', x1, fun b hb => by rcases x2 b hb with q | q; exact Or.inl q; exact Or.inr (by have : W.heap.size ≤ b := q; have := HSW.out; omega)⟩, hd0.trans (x3.mono (fun b _ q => Or.inl q))⟩

set_option maxHeartbeats 1000000 in
theorem write_okN {L : Nat} (h : Dk B d n own st sz (armed d) ((L + 1 : Nat) : Int) w) (hL : L ≤ 9223372036854775806) (s : ByteArray) (hs1 : 1 ≤ s.size) (hs2 : s.size ≤ 64) (e : st s.data.toList = none) {vb : Value} {l : List UInt8} (hrB : ∀ W, Below B w W → Rd W vb l) (hz : sz + l.length ≤ 16777216) (hn : n ≤ 1099511627776) :
    Calls Try.prog 12 #[.pointer (some ⟨d, 0, none⟩), .string s, vb] w fun e w' => e = .returned (.int .i64 0) ∧ (∃ own', Dk B d (n + 1) own' (setF st s.data.toList (some (l, 0))) (sz + l.length) (armed d) (L : Int) w' ∧ ∀ b, own' b ≠ none → own b ≠ none ∨ w.heap.size ≤ b) ∧ Chg (fun b => own b ≠ none) w w' := by
  have hml : s.size ≤ maxLen := by unfold maxLen; omega
  have hrf := fun q => refuseWrite_any (h.drN q) s l.length (by omega) (by omega)
  have hw0 : wErr s l.length sz = 0 := by unfold wErr; rw [if_neg (by simp; omega), if_neg (by omega)]
  simp only [hw0] at hrf
  clear hw0
  obtain ⟨_, _, c2, _⟩ := h.cell3
  unfold armed at c2
  obtain ⟨W, hD, hcW, hsW, hgt⟩ := gate_ok h hL
  have HSW : Hid _ := hsW
  clear hsW
  have hr : Rd W vb l := hrB W (h.chg hcW)
  clear h
  obtain ⟨m, D, fb, fv, h⟩ := hD
  have hdlt := (h.lo d (by rw [h.od]; simp)).2
  have hmlt := (h.lo m (by rw [h.om]; simp)).2
  have hdm : d ≠ m := fun q => by have := h.od; rw [q, h.om] at this; cases this
  have c0 : W.cell? ⟨d, 0, none⟩ = some (.map (some m)) := by rw [cell_of_row _ _ _ _ _ _ h.cell]; rfl
  have c0' : ∀ q o, ((W.drewN q).alloc o).cell? ⟨d, 0, none⟩ = some (.map (some m)) := fun q o => by rw [World.cell?_of_block (w := W) (Below.heap_alloc (W.drewN q) o d hdlt)]; exact c0
  have hrun := fun q => (h.drN q).look_no s hml e
  have hB : B ≤ W.heap.size := by have := h.lo d (by rw [h.od]; simp); omega
  have hmap := fun q o => (h.drN q).map.alloc o
  have HM : Hid _ := hmap
  clear hmap
  have H : Hid _ := h
  clear h
  have hkey := WideMaps.keyOf_string_mk (P := Try.prog) (k := 9) Try.underlying9 hml
  have hr' := hr
  obtain ⟨av, cv, rfl, _, hcv, _, _⟩ := hr
  unfold maxLen at hcv
  have hnlen : s.data.toList.length ≤ maxLen := by rw [Array.length_toList]; exact hml
  have hnm : n < maxLen := by unfold maxLen; omega
  go_enter Try.func12, Try.ntmps12
  go_wp2_with fail
  go_region_with (first | (go_at_call 39; refine (hrf _).mono ?_; rintro e w1 ⟨rfl, k1, rfl⟩) | (go_at_call 44; refine (hgt _).mono ?_; rintro e w2 ⟨rfl, nq, rfl⟩) | fail)
  all_goals
    go_wp2_with (first | (at_mapUpdate; refine wpList_mapUpdate_own _ rfl _ _ _ 51 rfl 9 72 Try.strKeyed Try.underlying51 flE m n D rfl (HM.out nq _) hnm _ _ _ rfl rfl hkey (.lit (.int .u64 (W.heap.size : Int))) [] rfl ?_; intro w2 hown2 hg2; obtain ⟨_, f0, _, hB2, hrd2⟩ := H.out.put1 e hnlen nq hown2 hg2; have hr2 := hrd2 _ _ hr'; have H2 : Hid _ := H.out.first e hnlen nq hown2 hg2; clear hrd2 hown2 hg2 hr' HM) | (at_builtin; refine wpList_appN rfl _ _ rfl B (.slice none 0 0) [] rfl (Ow.nil _ _) _ l rfl hr2 hB2 (by simp; omega) ?_; intro v3 w3 ho3 hg3 hw3; obtain ⟨a3, c3, ev3, _⟩ := ho3.rd; obtain ⟨⟨⟨u0, q0⟩, q1, q2⟩, x0⟩ := H2.out w3 hg3; have q3 := fun v => (q2 v).1; have q4 := fun v => (q2 v).2; have HX : Hid _ := x0 v3 l ho3 hw3; clear q2 x0; subst ev3) | fail)
    go_ret
    obtain ⟨⟨own', x1, x2⟩, x3⟩ := HX.out
    simp only [List.length_append, List.length_nil, Nat.zero_add, Int.natCast_add] at x1 x3
    exact ⟨rfl, ⟨own', x1, fun b hb => by rcases x2 b hb with q | q; exact Or.inl q; exact Or.inr (by have := HSW.out; omega)⟩, hcW.trans (x3.mono (fun b _ q => Or.inl q))⟩
end
end Go.Proofs.Ytbolnelbchffhac
