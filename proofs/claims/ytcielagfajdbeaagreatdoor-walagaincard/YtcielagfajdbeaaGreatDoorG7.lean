/- readLast of a log whose last segment has no record; Open on an empty disk. -/
import Derived.Test.YtcielagfajdbeaaGreatDoorG6
import Derived.Test.YtcielagfajdbeaaGreatDoorG2
import Derived.Test.YtcielagfajdbeaaGreatDoorG1
import Derived.Test.YtcielagfajdbeaaGreatDoorG5
import Derived.Test.YtcielagfajdbeaaGreatDoorG4
import Derived.Laws.BitsLemmas
namespace Go.Proofs.YtcielagfajdbeaaGreatDoor
open Go.RowKit
set_option linter.unusedVariables false
set_option maxRecDepth 100000

section
variable {B l d size : Nat} {nm : ByteArray} {sv : Value} {P : List (Sg × Value)} {U : Nat → List Value} {own : Nat → Option LRole} {n : Nat} {od : Nat → Option Role} {st : Nm → Option (List UInt8 × Nat)} {sz : Nat} {w w' : World}
set_option maxHeartbeats 1000000 in
theorem readLast_none (h : WI B l d size nm sv P U own n od st sz w) {k : Nat} (hk : P.length = k + 1) {p : Sg × Value} (e : P[k]? = some p) (h0 : p.1.2 = []) :
    Calls Tryz.prog 35 #[.pointer (some ⟨l, 0, none⟩)] w fun r w' => r = .returned (.int .i64 0) ∧ Below w.heap.size w w' := by
  obtain ⟨g, c, ev, h1, h2, s0, s1, _⟩ := h.lg.seg k p e
  have HLA : Hid (∀ W, Below w.heap.size w W → Calls Tryz.prog 39 #[.pointer (some ⟨l, 0, none⟩)] W fun e w' => e = .returned (.pointer (some ⟨g, k * 3, none⟩)) ∧ Below w.heap.size w w') := fun W hW => (last_any (h.lg.below hW) ev hk ⟨by omega, h2⟩).mono (by rintro e w' ⟨rfl, q, rfl⟩; exact ⟨rfl, below_drewN hW q⟩)
  have HRE : Hid (∀ W, Below w.heap.size w W → Calls Tryz.prog 65 #[.pointer (some ⟨l, 0, none⟩), .pointer (some ⟨g, k * 3, none⟩)] W fun r w' => ∃ v, r = .returned (.tuple #[v, .int .i64 0]) ∧ Rd w' v [] ∧ Below W.heap.size W w') := fun W hW => read_none (h.below hW) e h0 ev
  have hgl := World.block_lt_of_cell? _ _ s1
  have HC : Hid (∀ W, Below w.heap.size w W → W.cell? ⟨g, k * 3 + 1, none⟩ = some (.int .i64 0)) := fun W hW => by
    rw [hW.cell hgl, s1, h0]; rfl
  clear h ev hk e h1 h2 s0 s1 h0
  go_enter Tryz.func35, Tryz.ntmps35
  go_wp2_with fail
  refine (HLA.out w (Below.refl _ _)).mono ?_
  rintro e w1 ⟨rfl, hb1⟩
  go_wp2_with fail
  refine (HRE.out w1 hb1).mono ?_
  rintro e w2 ⟨v, rfl, hrd, hb2'⟩
  have hb2 : Below w.heap.size w w2 := hb1.trans (hb2'.mono hb1.size)
  obtain ⟨a, cc, rfl⟩ : ∃ a c, v = .slice a 0 c := by obtain ⟨a, c, e, _⟩ := hrd; exact ⟨a, c, e⟩
  go_wp2_with fail
  refine (HLA.out w2 hb2).mono ?_
  rintro e w3 ⟨rfl, hb3⟩
  have c1 := HC.out w3 hb3
  go_wp2_with fail
  go_ret
  exact ⟨rfl, hb3⟩

/-- A log that is being opened. -/
theorem LgI.new (w : World) (B d size : Nat) (nm : ByteArray) (U : Nat → List Value) (hB : B ≤ w.heap.size) : LgI B w.heap.size d size nm false (.slice none 0 0) [] U (fun b => if b = w.heap.size then some .log else none) (w.alloc (.cells #[.pointer (some ⟨d, 0, none⟩), .string nm, .int .i64 (size : Int), .slice none 0 0, .bool false] 71)) where
  cell := heap_alloc_new w _
  row := World.ownsRow_nil _ _ _ _
  recs := fun i p e => by simp at e
  data := fun i p j u r e => by simp at e
  ol := if_pos rfl
  os := fun b e => by simp [Value.ownBlock] at e
  orr := fun i p b e => by simp at e
  od := fun i p u b e => by simp at e
  lo := fun b hb => by
    have : b = w.heap.size := by
      apply Classical.byContradiction
      intro hn
      exact hb (if_neg hn)
    subst this
    exact ⟨hB, by simp⟩

set_option maxHeartbeats 4000000 in
theorem open_none (hd : Dk B d n od st sz (alive d) 0 w) (hst : ∀ s, st s = none) (hsz : sz = 0) (hn : n ≤ 1048575) (hB : B ≤ w.heap.size) (hnm : 0 < nm.size) (hns : nm.size ≤ 40) (hs1 : 1 ≤ size) (hs2 : size ≤ 9223372036854775807) :
    Calls Tryz.prog 10 #[.pointer (some ⟨d, 0, none⟩), .string nm, .int .i64 (size : Int)] w fun r w' => ∃ l sv U own od', r = .returned (.tuple #[.pointer (some ⟨l, 0, none⟩), .int .i64 0]) ∧ WI B l d size nm sv [sg0 1] U own (n + 1) od' (syF nm [sg0 1] (setF st (fname nm 1).data.toList (some ([], 0)))) sz w' ∧ Chg (fun b => od b ≠ none) w w' := by
  have hne0 : ¬ nm.toList = [] := fun h => by
    rw [ByteArray.toList_eq] at h
    have h2 : nm.size = nm.data.toList.length := by rw [Array.length_toList]; rfl
    rw [h, List.length_nil] at h2
    omega
  have hne1 : nm.toList.isEmpty = false := by cases hq : nm.toList with
    | nil => exact absurd hq hne0
    | cons a r => rfl
  have h40 : ¬ (40 : Int) < (nm.size : Int) := by omega
  have h1i : ¬ (size : Int) < 1 := by omega
  have hmf : ∀ (fn : Fn) (first cap : Array Value) (w : World), (Instr.makeFunc fn first cap).run Tryz.prog w = .ok (.func fn first cap) w := fun _ _ _ _ => rfl
  have hL := LgI.new w B d size nm (fun _ => []) hB
  have hbA : Below w.heap.size w (w.alloc (.cells #[.pointer (some ⟨d, 0, none⟩), .string nm, .int .i64 (size : Int), .slice none 0 0, .bool false] 71)) := bel_alW w _
  go_enter Tryz.func10, Tryz.ntmps10
  go_wp2_with fail
  refine wp_loop_rounds 6 ?_
  rw [rounds_succ]
  go_wp2_with fail
  have hbS : Below w.heap.size w ((w.alloc (.cells #[.pointer (some ⟨d, 0, none⟩), .string nm, .int .i64 (size : Int), .slice none 0 0, .bool false] 71)).alloc (.cells #[.func (.func 32) #[.pointer (some ⟨w.heap.size, 0, none⟩)] #[], .func (.func 33) #[.pointer (some ⟨w.heap.size, 0, none⟩)] #[], .func (.func 34) #[.pointer (some ⟨w.heap.size, 0, none⟩)] #[], .func (.func 35) #[.pointer (some ⟨w.heap.size, 0, none⟩)] #[], .func (.func 36) #[.pointer (some ⟨w.heap.size, 0, none⟩)] #[]] 42)) := hbA.alloc (by simp) _
  have hL1 := hL.below (bel_alW (w.alloc (.cells #[.pointer (some ⟨d, 0, none⟩), .string nm, .int .i64 (size : Int), .slice none 0 0, .bool false] 71)) (.cells #[.func (.func 32) #[.pointer (some ⟨w.heap.size, 0, none⟩)] #[], .func (.func 33) #[.pointer (some ⟨w.heap.size, 0, none⟩)] #[], .func (.func 34) #[.pointer (some ⟨w.heap.size, 0, none⟩)] #[], .func (.func 35) #[.pointer (some ⟨w.heap.size, 0, none⟩)] #[], .func (.func 36) #[.pointer (some ⟨w.heap.size, 0, none⟩)] #[]] 42))
  have hnS := heap_alloc_new (w.alloc (.cells #[.pointer (some ⟨d, 0, none⟩), .string nm, .int .i64 (size : Int), .slice none 0 0, .bool false] 71)) (.cells #[.func (.func 32) #[.pointer (some ⟨w.heap.size, 0, none⟩)] #[], .func (.func 33) #[.pointer (some ⟨w.heap.size, 0, none⟩)] #[], .func (.func 34) #[.pointer (some ⟨w.heap.size, 0, none⟩)] #[], .func (.func 35) #[.pointer (some ⟨w.heap.size, 0, none⟩)] #[], .func (.func 36) #[.pointer (some ⟨w.heap.size, 0, none⟩)] #[]] 42)
  rw [World.size_alloc] at hnS
  have hzS : ((w.alloc (.cells #[.pointer (some ⟨d, 0, none⟩), .string nm, .int .i64 (size : Int), .slice none 0 0, .bool false] 71)).alloc (.cells #[.func (.func 32) #[.pointer (some ⟨w.heap.size, 0, none⟩)] #[], .func (.func 33) #[.pointer (some ⟨w.heap.size, 0, none⟩)] #[], .func (.func 34) #[.pointer (some ⟨w.heap.size, 0, none⟩)] #[], .func (.func 35) #[.pointer (some ⟨w.heap.size, 0, none⟩)] #[], .func (.func 36) #[.pointer (some ⟨w.heap.size, 0, none⟩)] #[]] 42)).heap.size = w.heap.size + 1 + 1 := by simp
  generalize ((w.alloc (.cells #[.pointer (some ⟨d, 0, none⟩), .string nm, .int .i64 (size : Int), .slice none 0 0, .bool false] 71)).alloc (.cells #[.func (.func 32) #[.pointer (some ⟨w.heap.size, 0, none⟩)] #[], .func (.func 33) #[.pointer (some ⟨w.heap.size, 0, none⟩)] #[], .func (.func 34) #[.pointer (some ⟨w.heap.size, 0, none⟩)] #[], .func (.func 35) #[.pointer (some ⟨w.heap.size, 0, none⟩)] #[], .func (.func 36) #[.pointer (some ⟨w.heap.size, 0, none⟩)] #[]] 42)) = W1 at *
  have hd1 := hd.next (Chg.of_below hbS) (fun b hs q => by have := (hd.blo hs).2; omega)
  have hodS : od (w.heap.size + 1) = none := by
    cases hq : od (w.heap.size + 1) with
    | none => rfl
    | some r => have := (hd.blo (b := w.heap.size + 1) (by rw [hq]; simp)).2; omega
  have hodL : od w.heap.size = none := by
    cases hq : od w.heap.size with
    | none => rfl
    | some r => have := (hd.blo (b := w.heap.size) (by rw [hq]; simp)).2; omega
  have hap : ∀ b, (fun b => if b = w.heap.size then some LRole.log else none) b ≠ none → od b = none := fun b hb => by
    have : b = w.heap.size := by
      apply Classical.byContradiction
      intro hn
      exact hb (if_neg hn)
    rw [this]; exact hodL
  have HCS : Hid (∀ (W : World), W.heap[w.heap.size + 1]? = some (.cells #[.func (.func 32) #[.pointer (some ⟨w.heap.size, 0, none⟩)] #[], .func (.func 33) #[.pointer (some ⟨w.heap.size, 0, none⟩)] #[], .func (.func 34) #[.pointer (some ⟨w.heap.size, 0, none⟩)] #[], .func (.func 35) #[.pointer (some ⟨w.heap.size, 0, none⟩)] #[], .func (.func 36) #[.pointer (some ⟨w.heap.size, 0, none⟩)] #[]] 42 (0, 0)) → (∀ j u, #[Value.func (.func 32) #[.pointer (some ⟨w.heap.size, 0, none⟩)] #[], .func (.func 33) #[.pointer (some ⟨w.heap.size, 0, none⟩)] #[], .func (.func 34) #[.pointer (some ⟨w.heap.size, 0, none⟩)] #[], .func (.func 35) #[.pointer (some ⟨w.heap.size, 0, none⟩)] #[], .func (.func 36) #[.pointer (some ⟨w.heap.size, 0, none⟩)] #[]][j]? = some u → W.cell? ⟨w.heap.size + 1, j, none⟩ = some u)) := fun W hW j u hj => by rw [cell_of_row _ _ _ _ _ _ hW]; exact hj
  refine (tidy_any hL1 hd1 hns (hst _)).mono ?_
  rintro e w2 ⟨rfl, q2, rfl⟩
  have hL2 := hL1.drN q2
  have hd2 := hd1.drN q2
  have hS2 : (W1.drewN q2).heap[w.heap.size + 1]? = some (.cells #[.func (.func 32) #[.pointer (some ⟨w.heap.size, 0, none⟩)] #[], .func (.func 33) #[.pointer (some ⟨w.heap.size, 0, none⟩)] #[], .func (.func 34) #[.pointer (some ⟨w.heap.size, 0, none⟩)] #[], .func (.func 35) #[.pointer (some ⟨w.heap.size, 0, none⟩)] #[], .func (.func 36) #[.pointer (some ⟨w.heap.size, 0, none⟩)] #[]] 42 (0, 0)) := hnS
  have hb2 : Below w.heap.size w (W1.drewN q2) := below_drewN hbS q2
  have hz2 : (W1.drewN q2).heap.size = w.heap.size + 1 + 1 := hzS
  generalize (W1.drewN q2) = W2 at *
  have s1 := HCS.out W2 hS2 1 _ rfl
  clear hL hL1 hd1 hnS hbS hzS hbA hmf
  go_wp2_with fail
  rw [rounds_succ]
  go_wp2_with fail
  refine (find_none hL2 hd2 hap hst hns hsz (by omega) (by omega)).mono ?_
  rintro e w3 ⟨rfl, ⟨sv', own', od', hWI, hown3, hod3⟩, hch3⟩
  have hown4 : ∀ b, own' b ≠ none → w.heap.size ≤ b := fun b hb => by
    rcases hown3 b hb with q | q
    · apply Classical.byContradiction
      intro hn
      exact q (if_neg (by omega))
    · omega
  have hod4 : ∀ b, od' b ≠ none → od b ≠ none ∨ w.heap.size ≤ b := fun b hb => (hod3 b hb).imp id (fun q => by omega)
  clear hown3 hod3
  have hS3 : w3.heap[w.heap.size + 1]? = some (.cells #[.func (.func 32) #[.pointer (some ⟨w.heap.size, 0, none⟩)] #[], .func (.func 33) #[.pointer (some ⟨w.heap.size, 0, none⟩)] #[], .func (.func 34) #[.pointer (some ⟨w.heap.size, 0, none⟩)] #[], .func (.func 35) #[.pointer (some ⟨w.heap.size, 0, none⟩)] #[], .func (.func 36) #[.pointer (some ⟨w.heap.size, 0, none⟩)] #[]] 42 (0, 0)) := (hch3.block (w.heap.size + 1) (by omega) (fun q => q.elim (fun q => q (if_neg (by omega))) (fun q => q hodS))).trans hS2
  have hC3 : Chg (fun b => od b ≠ none) w w3 := ((Chg.of_below hb2).mono (fun b hb q => by omega)).trans (hch3.mono (fun b _ q => q.elim (fun q => .inr (by
    have : b = w.heap.size := by
      apply Classical.byContradiction
      intro hn
      exact q (if_neg hn)
    omega)) .inl))
  have hz3 := hch3.size
  have s2 := HCS.out w3 hS3 2 _ rfl
  have HWI : Hid (WI B w.heap.size d size nm sv' [sg0 1] (recSeg (fun _ => []) 0) own' (n + 1) od' (setF st (fname nm 1).data.toList (some ([], 0))) sz w3) := hWI
  obtain ⟨g, c, ev, _, _, _, _, _⟩ := hWI.lg.seg 0 (sg0 1) rfl
  clear hL2 hd2 hS2 s1 hch3 hap hb2 hz2
  go_wp2_with fail
  rw [rounds_succ]
  go_wp2_with fail
  refine (whole_one hWI.lg ev rfl).mono ?_
  rintro e w4 ⟨rfl, q4, rfl⟩
  have hWI4 := HWI.out.below (below_drewN (Below.refl w3.heap.size w3) q4)
  have hS4 : (w3.drewN q4).heap[w.heap.size + 1]? = some (.cells #[.func (.func 32) #[.pointer (some ⟨w.heap.size, 0, none⟩)] #[], .func (.func 33) #[.pointer (some ⟨w.heap.size, 0, none⟩)] #[], .func (.func 34) #[.pointer (some ⟨w.heap.size, 0, none⟩)] #[], .func (.func 35) #[.pointer (some ⟨w.heap.size, 0, none⟩)] #[], .func (.func 36) #[.pointer (some ⟨w.heap.size, 0, none⟩)] #[]] 42 (0, 0)) := hS3
  have hC4 : Chg (fun b => od b ≠ none) w (w3.drewN q4) := hC3.trans ((Chg.of_below (below_drewN (Below.refl w3.heap.size w3) q4)).mono (fun b hb q => by omega))
  have hz4 : W2.heap.size ≤ (w3.drewN q4).heap.size := hz3
  generalize (w3.drewN q4) = W4 at *
  have s3 := HCS.out W4 hS4 3 _ rfl
  clear hWI HWI hS3 hC3 s2
  go_wp2_with fail
  rw [rounds_succ]
  go_wp2_with fail
  refine (readLast_none hWI4 (k := 0) rfl (p := sg0 1) rfl rfl).mono ?_
  rintro e w5 ⟨rfl, hb5⟩
  have hWI5 := hWI4.below hb5
  have hS5 : w5.heap[w.heap.size + 1]? = some (.cells #[.func (.func 32) #[.pointer (some ⟨w.heap.size, 0, none⟩)] #[], .func (.func 33) #[.pointer (some ⟨w.heap.size, 0, none⟩)] #[], .func (.func 34) #[.pointer (some ⟨w.heap.size, 0, none⟩)] #[], .func (.func 35) #[.pointer (some ⟨w.heap.size, 0, none⟩)] #[], .func (.func 36) #[.pointer (some ⟨w.heap.size, 0, none⟩)] #[]] 42 (0, 0)) := (hb5.block _ (by have := (Array.getElem?_eq_some_iff.1 hS4).1; omega)).trans hS4
  have hC5 : Chg (fun b => od b ≠ none) w w5 := hC4.trans ((Chg.of_below hb5).mono (fun b hb q => by omega))
  have s4 := HCS.out w5 hS5 4 _ rfl
  clear hWI4 hS4 hC4 s3 hb5
  go_wp2_with fail
  rw [rounds_succ]
  go_wp2_with fail
  refine (sall_any hWI5).mono ?_
  rintro e w6 ⟨rfl, ⟨od6, hWI6, _⟩, hch6⟩
  have hC6 : Chg (fun b => od b ≠ none) w w6 := hC5.trans (hch6.mono (fun b _ q => q.elim (fun q => .inr (hown4 b q)) (fun q => hod4 b q)))
  clear hWI5 hS5 s4
  go_wp2_with fail
  rw [rounds_succ]
  go_wp2_with fail
  go_returns
  exact ⟨_, _, _, _, _, rfl, hWI6, hC6⟩
end
end Go.Proofs.YtcielagfajdbeaaGreatDoor

/- A program that is one: the first line of each statement about logs. -/
namespace Go.Proofs.YtcielagfajdbeaaGreatDoor
open Go.RowKit
set_option linter.unusedVariables false
set_option maxRecDepth 100000

section
variable {B l d size : Nat} {nm : ByteArray} {sv : Value} {P : List (Sg × Value)} {U : Nat → List Value} {own : Nat → Option LRole} {n : Nat} {od : Nat → Option Role} {st : Nm → Option (List UInt8 × Nat)} {sz : Nat} {w w' : World}
theorem WI.leB (h : WI B l d size nm sv P U own n od st sz w) : B ≤ w.heap.size := by
  have := h.lg.lo l (by rw [h.lg.ol]; simp)
  omega
theorem WI.chg (h : WI B l d size nm sv P U own n od st sz w) (hc : Chg (fun b => own b ≠ none ∨ od b ≠ none) w w') : Below B w w' :=
  hc.below (fun b q => q.elim (fun q => (h.lg.lo b q).1) (fun q => (h.dk.blo q).1)) h.leB
theorem WI.fresh (h : WI B l d size nm sv P U own n od st sz w) (i k : Nat) : ∀ q, (Value.slice (some ⟨w.heap.size, 0, none⟩) i k).ownBlock = some q → own q = none ∧ od q = none := fun q e => by
  have e2 : w.heap.size = q := by simpa [Value.ownBlock] using e
  constructor
  · by_cases r : own q = none
    · exact r
    · have := (h.lg.lo q r).2; omega
  · by_cases r : od q = none
    · exact r
    · have := (h.dk.blo r).2; omega
end
theorem rd_litW (w : World) (a : Int) (x : UInt8) (ha : a = (x.toNat : Int)) (t : TypeId) : Rd (w.alloc (.cells #[.int .u8 a] t)) (.slice (some ⟨w.heap.size, 0, none⟩) 1 1) [x] := by
  subst ha
  refine Rd.mk rfl (by simp) (by simp [maxLen]) (fun i hi => ?_)
  obtain rfl : i = 0 := by simpa using hi
  rw [Addr.add_lit, World.cell?_alloc_at _ _ _ _ rfl]; rfl
theorem segs_one {Q : List (Sg × Value)} {s : Sg} (h : Q.map (·.1) = [s]) : ∃ v, Q = [(s, v)] := by
  cases Q with
  | nil => simp at h
  | cons a r => cases r with
    | nil => simp at h; subst h; exact ⟨_, rfl⟩
    | cons b t => simp at h
theorem begins_one (p : Sg × Value) : Begins [p] := fun i j a b ha hb _ => by
  have h1 := (List.getElem?_eq_some_iff.1 ha).1
  have h2 := (List.getElem?_eq_some_iff.1 hb).1
  simp at h1 h2
  omega
theorem frame_one (x : UInt8) : (M.frame [x]).length = 6 := by
  have h2 := M.be_length 4 (M.crc [x])
  simp only [M.frame, List.length_append, h2]
  simp [M.vi, M.viF]

set_option maxHeartbeats 4000000 in
theorem wawake_any (w : World) : Calls Tryz.prog 8 #[] w fun e w' => e = .returned (.bool true) ∧ Below w.heap.size w w' := by
  go_enter Tryz.func8, Tryz.ntmps8
  go_wp2_with fail
  refine (new_any w).mono ?_
  rintro e w1 ⟨d, own, rfl, hd1, hb1⟩
  go_wp2_with fail
  refine (open_none (size := 8) (nm := ⟨#[119]⟩) hd1 (fun _ => rfl) rfl (by omega) hb1.size (by decide) (by decide) (by omega) (by omega)).mono ?_
  rintro e w2 ⟨l, sv, U, own2, od2, rfl, hI2, hc2⟩
  have hb2 : Below w.heap.size w w2 := hb1.trans (hc2.below (fun b q => (hd1.blo q).1) hb1.size)
  clear hc2 hd1 hb1
  go_wp2_with fail
  have hA2 : Below w.heap.size w (w2.alloc (.cells #[.int .u8 170] 5)) := hb2.trans ((bel_alW w2 _).mono hI2.leB)
  have hIA := hI2.below (bel_alW w2 (.cells #[.int .u8 170] 5))
  refine (append_there hIA (begins_one _) (k := 0) rfl rfl (by simp [sg0, frs]) (by omega) (rd_litW w2 170 170 rfl _) (hI2.fresh 1 1) (by simp) (by rw [frame_one]; omega) (by simp [sg0, sgNext]) (by simp [sg0])).mono ?_
  rintro e w3 ⟨he, ⟨sv3, Q3, U3, own3, n3, od3, st3, hI3, hQ3, hn3, _⟩, hc3⟩
  replace he : e = .returned (.tuple #[.int .u64 1, .int .i64 0]) := he
  subst he
  have hb3 : Below w.heap.size w w3 := hA2.trans (hIA.chg hc3)
  obtain ⟨v3, rfl⟩ := segs_one (s := (1, [[170]])) (by rw [hQ3]; simp [addS, sg0, frs])
  rw [frame_one] at hI3
  clear hc3 hIA hI2 hA2 hb2 hQ3
  go_wp2_with fail
  have hA3 : Below w.heap.size w (w3.alloc (.cells #[.int .u8 187] 5)) := hb3.trans ((bel_alW w3 _).mono hI3.leB)
  have hIA := hI3.below (bel_alW w3 (.cells #[.int .u8 187] 5))
  refine (append_there hIA (begins_one _) (k := 0) rfl rfl (by simp [frs, frame_one]) (by omega) (rd_litW w3 187 187 rfl _) (hI3.fresh 1 1) (by simp) (by rw [frame_one]; omega) (by simp [sgNext]) (by simp)).mono ?_
  rintro e w4 ⟨he, ⟨sv4, Q4, U4, own4, n4, od4, st4, hI4, hQ4, hn4, _⟩, hc4⟩
  replace he : e = .returned (.tuple #[.int .u64 2, .int .i64 0]) := he
  subst he
  have hb4 : Below w.heap.size w w4 := hA3.trans (hIA.chg hc4)
  obtain ⟨v4, rfl⟩ := segs_one (s := (1, [[170], [187]])) (by rw [hQ4]; simp [addS, frs, frame_one])
  clear hc4 hIA hI3 hA3 hb3 hQ4
  go_wp2_with fail
  refine (get_there hI4.lg (by simp) (fun i j p q hij hp hq => by have h1 := (List.getElem?_eq_some_iff.1 hq).1; simp at h1; omega) (fun i p q hp hq => by have h1 := (List.getElem?_eq_some_iff.1 hq).1; simp at h1) (k := 0) (j := 1) rfl (r := [187]) rfl (by simp [sgNext]) (by simp) (m := 0) rfl rfl (by simp [sgNext])).mono ?_
  rintro e w5 ⟨⟨v5, rfl, hv5⟩, hb5⟩
  have hI5 := hI4.below hb5
  have h05 : Below w.heap.size w w5 := hb4.trans (hb5.mono hI4.leB)
  clear hb5 hI4 hb4
  go_wp2_with fail
  have hA5 : Below w5.heap.size w5 (w5.alloc (.cells #[.int .u8 187] 5)) := bel_alW w5 _
  have hI6 := hI5.below hA5
  have h06 := h05.trans (hA5.mono h05.size)
  refine (same_any (hv5.rd.below hA5 (Nat.le_refl _)) (rd_litW w5 187 187 rfl _)).mono ?_
  rintro e w7 ⟨rfl, k7, rfl⟩
  rw [decide_eq_true rfl]
  have hd7 := below_drewN (Below.refl (w5.alloc (.cells #[.int .u8 187] 5)).heap.size (w5.alloc (.cells #[.int .u8 187] 5))) k7
  have hI7 := hI6.below hd7
  have h07 := h06.trans (hd7.mono h06.size)
  clear hI5 hI6 hv5 hA5 h05 h06 hd7
  go_wp2_with fail
  refine (lsync_any hI7 (k := 0) rfl rfl).mono ?_
  rintro e w8 ⟨rfl, _, hc8⟩
  have h08 := h07.trans (hI7.chg hc8)
  clear hI7 hc8 h07
  go_wp2_with fail
  go_ret
  exact ⟨rfl, h08⟩
end Go.Proofs.YtcielagfajdbeaaGreatDoor

/- A log into which records were appended, one by one. -/
namespace Go.Proofs.YtcielagfajdbeaaGreatDoor
open Go.RowKit
set_option linter.unusedVariables false
set_option maxRecDepth 100000

theorem frame_le (r : List UInt8) : (M.frame r).length ≤ r.length + 14 := by
  have h2 := vi_len r.length
  have h3 := M.be_length 4 (M.crc r)
  simp only [M.frame, List.length_append]
  omega
theorem vi_two (n : Nat) (h : n < 16384) : (M.vi n).length ≤ 2 := by
  show (M.viF (7 + 1 + 1) n).length ≤ 2
  rw [M.viF]
  split
  · simp
  · rw [M.viF, if_pos (by omega)]; simp
theorem frame_six (r : List UInt8) (h : r.length < 16384) : r.length < (M.frame r).length ∧ (M.frame r).length ≤ r.length + 6 := by
  have h2 := vi_two r.length h
  have h3 := M.be_length 4 (M.crc r)
  simp only [M.frame, List.length_append]
  omega
theorem sgs_at {P : List (Sg × Value)} {i : Nat} {p : Sg × Value} (e : P[i]? = some p) : (sgs P)[i]? = some p.1 := by rw [List.getElem?_map, e]; rfl
theorem at_sgs {P : List (Sg × Value)} {i : Nat} {s : Sg} (e : (sgs P)[i]? = some s) : ∃ p, P[i]? = some p ∧ p.1 = s := by
  rw [List.getElem?_map] at e
  cases h : P[i]? with
  | none => rw [h] at e; cases e
  | some p => rw [h] at e; exact ⟨p, rfl, Option.some.inj e⟩

/-- A log that holds these records, of segments of so many bytes; the disk's other files, N at most, with z0 bytes, are ex. -/
def Rot (B l d size : Nat) (nm : ByteArray) (N z0 : Nat) (ex : Nm → Option (List UInt8 × Nat)) (rs : List (List UInt8)) (sv : Value) (P : List (Sg × Value)) (U : Nat → List Value) (own : Nat → Option LRole) (n : Nat) (od : Nat → Option Role) (st : Nm → Option (List UInt8 × Nat)) (w : World) : Prop :=
  WI B l d size nm sv P U own n od st (z0 + (frs rs).length) w ∧ Chn size rs (sgs P) ∧ n ≤ N + rs.length ∧ (∀ b, b < 100 → st (fname nm b).data.toList ≠ none → ∃ (i : Nat) (p : Sg × Value), P[i]? = some p ∧ p.1.1 = b) ∧ ∀ f, (∀ b, b < 100 → f ≠ (fname nm b).data.toList) → st f = ex f
def RotE (B l d size : Nat) (nm : ByteArray) (N z0 : Nat) (ex : Nm → Option (List UInt8 × Nat)) (rs : List (List UInt8)) (w : World) : Prop :=
  ∃ sv P U own n od st, Rot B l d size nm N z0 ex rs sv P U own n od st w

section
variable {B l d size : Nat} {nm : ByteArray} {N z0 : Nat} {ex : Nm → Option (List UInt8 × Nat)} {rs : List (List UInt8)} {sv : Value} {P : List (Sg × Value)} {U : Nat → List Value} {own : Nat → Option LRole} {n : Nat} {od : Nat → Option Role} {st : Nm → Option (List UInt8 × Nat)} {w w' : World}
theorem Rot.below (h : Rot B l d size nm N z0 ex rs sv P U own n od st w) (hb : Below w.heap.size w w') : Rot B l d size nm N z0 ex rs sv P U own n od st w' := ⟨h.1.below hb, h.2⟩
theorem Rot.last (h : Rot B l d size nm N z0 ex rs sv P U own n od st w) : ∃ k p, P.length = k + 1 ∧ P[k]? = some p ∧ sgNext p.1 = 1 + rs.length := by
  have hne := h.1.ne
  obtain ⟨p, e⟩ : ∃ p, P[P.length - 1]? = some p := ⟨_, List.getElem?_eq_getElem (by omega)⟩
  exact ⟨P.length - 1, p, by omega, e, h.2.1.next (by simp; omega) p.1 (sgs_at e)⟩
theorem Rot.mono (h : Rot B l d size nm N z0 ex rs sv P U own n od st w) (hs : 0 < size) : ∀ (i j : Nat) p q, i < j → P[i]? = some p → P[j]? = some q → p.1.1 < q.1.1 := fun i j p q hij e1 e2 => h.2.1.mono hs i j p.1 q.1 hij (sgs_at e1) (sgs_at e2)
theorem Rot.chain (h : Rot B l d size nm N z0 ex rs sv P U own n od st w) : ∀ (i : Nat) p q, P[i]? = some p → P[i + 1]? = some q → q.1.1 = sgNext p.1 := fun i p q e1 e2 => h.2.1.chain i p.1 q.1 (sgs_at e1) (sgs_at e2)
theorem Rot.begins (h : Rot B l d size nm N z0 ex rs sv P U own n od st w) (hs : 0 < size) : Begins P := fun i j p q e1 e2 e => by
  rcases Nat.lt_trichotomy i j with a | a | a
  · have := h.mono hs i j p q a e1 e2; omega
  · exact a
  · have := h.mono hs j i q p a e2 e1; omega
theorem Chn.len {S : List Sg} (h : Chn size rs S) (hs : 0 < size) : S.length ≤ 1 + rs.length := by
  rcases Nat.lt_or_ge (1 + rs.length) S.length with a | a
  · have h1 : ∀ i, i < S.length → ∀ p, S[i]? = some p → i + 1 ≤ p.1 := by
      intro i
      induction i with
      | zero => intro hi p e; have := h.at_ 0 p e; omega
      | succ i ih =>
        intro hi p e
        obtain ⟨q, eq⟩ : ∃ q, S[i]? = some q := ⟨_, List.getElem?_eq_getElem (by omega)⟩
        have h2 := ih (by omega) q eq
        have h3 := h.step hs i q p eq e
        omega
    obtain ⟨p, e⟩ : ∃ p, S[S.length - 1]? = some p := ⟨_, List.getElem?_eq_getElem (by omega)⟩
    have h4 := h1 (S.length - 1) (by omega) p e
    have h5 := h.le _ p e
    unfold sgNext at h5
    omega
  · exact a
theorem seg_le {S : List Sg} (h : Chn size rs S) (i : Nat) (p : Sg) (e : S[i]? = some p) : (frs p.2).length ≤ (frs rs).length ∧ p.2.length ≤ rs.length := by
  have h1 := recsOf_drop S i p e
  have h2 : recsOf S = recsOf (S.take i) ++ recsOf (S.drop i) := by
    unfold recsOf
    rw [← List.flatMap_append, List.take_append_drop]
  rw [h.all, h1] at h2
  rw [h2, frs_app, frs_app]
  simp only [List.length_append]
  omega

set_option maxHeartbeats 1000000 in
theorem append_rot (h : Rot B l d size nm N z0 ex rs sv P U own n od st w) (hs0 : 0 < size) (hs : size ≤ 16777216) (hN : N ≤ 1000000) (hrs : rs.length < 98) {bv : Value} {r : List UInt8} (hr : Rd w bv r) (hkp : ∀ w3, Below B w w3 → Rd w3 bv r) (hbl : r.length ≤ 1048576) (hz : z0 + (frs rs).length + (M.frame r).length ≤ 16777216) :
    Calls Tryz.prog 11 #[.pointer (some ⟨l, 0, none⟩), bv] w fun e w' => e = .returned (.tuple #[.int .u64 ((rs.length + 1 : Nat) : Int), .int .i64 0]) ∧ RotE B l d size nm N z0 ex (rs ++ [r]) w' ∧ Below B w w' := by
  obtain ⟨k, p, hk, e, hnx⟩ := h.last
  have hI := h.1
  have hle := seg_le h.2.1 k p.1 (sgs_at e)
  have hln := h.2.1.len hs0
  have hfr : frs (rs ++ [r]) = frs rs ++ M.frame r := frs_snoc rs r
  have hkp2 : ∀ w3, Chg (fun q => own q ≠ none ∨ od q ≠ none) w w3 → Rd w3 bv r := fun w3 hc => hkp w3 (hI.chg hc)
  have hlen : P.length ≤ 100 := by have : (sgs P).length = P.length := by simp
                                   omega
  have fin : ∀ (w' : World) (r' : Ending), (r' = .returned (.tuple #[.int .u64 (sgNext p.1 : Int), .int .i64 0]) ∧ (∃ sv' Q U' own' n' od' st', WI B l d size nm sv' Q U' own' n' od' st' (z0 + (frs rs).length + (M.frame r).length) w' ∧ Q.map (·.1) = addS size P k p r ∧ n' ≤ n + 1 ∧ (∀ f, st' f ≠ none → st f ≠ none ∨ (size ≤ (frs p.1.2).length ∧ f = (fname nm (sgNext p.1)).data.toList)) ∧ ∀ f, (∀ b, b < 100 → f ≠ (fname nm b).data.toList) → st' f = st f) ∧ Chg (fun q => own q ≠ none ∨ od q ≠ none) w w') → r' = .returned (.tuple #[.int .u64 ((rs.length + 1 : Nat) : Int), .int .i64 0]) ∧ RotE B l d size nm N z0 ex (rs ++ [r]) w' ∧ Below B w w' := by
    rintro w' r' ⟨hr', ⟨sv', Q, U', own', n', od', st', hI', hQ, hn', hf1, hf2⟩, hc⟩
    refine ⟨by rw [hr', hnx, Nat.add_comm], ⟨sv', Q, U', own', n', od', st', ?_, ?_, ?_, ?_, ?_⟩, hI.chg hc⟩
    · rw [hfr, List.length_append, ← Nat.add_assoc]; exact hI'
    · show Chn size (rs ++ [r]) (Q.map (·.1))
      rw [hQ]
      unfold addS
      split
      · rename_i q
        exact h.2.1.there (by simp [hk]) p.1 (sgs_at e) r q
      · rename_i q
        exact h.2.1.new hs0 (by simp [hk]) p.1 (sgs_at e) r (by omega)
    · have := h.2.2.1; simp; omega
    · intro b hb q
      have hQi : ∀ (i : Nat) s, (Q.map (·.1))[i]? = some s → ∃ p, Q[i]? = some p ∧ p.1 = s := fun i s e => at_sgs e
      rcases hf1 _ q with a | ⟨a1, a2⟩
      · obtain ⟨i, p', ep, eb⟩ := h.2.2.2.1 b hb a
        have hil := (List.getElem?_eq_some_iff.1 ep).1
        have hQa : ∃ s, (addS size P k p r)[i]? = some s ∧ s.1 = b := by
          unfold addS
          split
          · by_cases hik : i = k
            · subst hik
              rw [e] at ep
              obtain rfl := Option.some.inj ep
              exact ⟨(p.1.1, p.1.2 ++ [r]), by rw [List.getElem?_set_self (by rw [List.length_map]; omega)], eb⟩
            · exact ⟨p'.1, by rw [List.getElem?_set_ne (fun q => hik q.symm), List.getElem?_map, ep]; rfl, eb⟩
          · exact ⟨p'.1, by rw [List.getElem?_append_left (by rw [List.length_map]; omega), List.getElem?_map, ep]; rfl, eb⟩
        obtain ⟨s, es, esb⟩ := hQa
        rw [← hQ] at es
        obtain ⟨p2, e2, e3⟩ := hQi i s es
        exact ⟨i, p2, e2, by rw [e3]; exact esb⟩
      · have hbn := fname_inj nm hb (by omega) a2
        have es : (addS size P k p r)[P.length]? = some (sgNext p.1, [r]) := by
          unfold addS
          rw [if_neg (by omega), List.getElem?_append_right (by rw [List.length_map]; exact Nat.le_refl _), List.length_map, Nat.sub_self]
          rfl
        rw [← hQ] at es
        obtain ⟨p2, e2, e3⟩ := hQi _ _ es
        exact ⟨_, p2, e2, by rw [e3]; exact hbn.symm⟩
    · intro f hf
      rw [hf2 f hf]; exact h.2.2.2.2 f hf
  by_cases hby : (frs p.1.2).length < size
  · exact (append_thereK hI (h.begins hs0) hk e hby hs hr hkp2 hbl hz (by omega) (by omega)).mono (fun r' w' q => fin w' r' q)
  · refine (append_newK hI (h.begins hs0) hk e (by omega) (by omega) (by have := h.2.2.1; omega) (by omega) ?_ hr hkp2 hbl hz (by omega) (by omega)).mono (fun r' w' q => fin w' r' q)
    by_cases q : st (fname nm (sgNext p.1)).data.toList = none
    · exact q
    · obtain ⟨i, p', ep, eb⟩ := h.2.2.2.1 _ (by omega) q
      have h2 : 0 < p.1.2.length := by
        rcases hp : p.1.2 with _ | ⟨a, b⟩
        · rw [hp] at hby; simp [frs] at hby; omega
        · simp
      have hil := (List.getElem?_eq_some_iff.1 ep).1
      have h3 : p'.1.1 ≤ p.1.1 := by
        rcases Nat.lt_or_ge i k with a | a
        · exact Nat.le_of_lt (h.mono hs0 i k p' p a ep e)
        · obtain rfl : i = k := by omega
          rw [e] at ep; obtain rfl := Option.some.inj ep; exact Nat.le_refl _
      unfold sgNext at eb
      omega
end
end Go.Proofs.YtcielagfajdbeaaGreatDoor

/- Calls of a log into which records were appended. -/
namespace Go.Proofs.YtcielagfajdbeaaGreatDoor
open Go.RowKit
set_option linter.unusedVariables false
set_option maxRecDepth 100000

/-- A number's lowest 62 bits. -/
theorem mask62 (p : Int) : ∃ a : Nat, bits .and .i64 p 4611686018427387903 = (a : Int) ∧ a ≤ 4611686018427387903 := by
  have hle : (BitVec.ofInt 64 p &&& BitVec.ofInt 64 4611686018427387903).toNat ≤ 4611686018427387903 := by
    rw [BitVec.toNat_and, show (BitVec.ofInt 64 4611686018427387903).toNat = 4611686018427387903 by decide]
    exact Nat.and_le_right
  refine ⟨(BitVec.ofInt 64 p &&& BitVec.ofInt 64 4611686018427387903).toNat, ?_, hle⟩
  show IntKind.i64.wrap ((BitVec.ofInt 64 p &&& BitVec.ofInt 64 4611686018427387903).toNat : Int) = _
  rw [IntKind.wrap_i64]
  omega
theorem mask_mod (p : Int) (n : Nat) (hn : 0 < n) : ∃ a : Nat, (bits .and .i64 p 4611686018427387903).tmod (n : Int) = (a : Int) ∧ a < n := by
  obtain ⟨a, e, _⟩ := mask62 p
  rw [e]
  exact ⟨a % n, rfl, Nat.mod_lt _ hn⟩
/-- The name that a statement makes of a segment's number. -/
theorem name_of (nm : ByteArray) (n : Nat) (hn : n < 100) : (nm ++ ⟨#[46]⟩) ++ lowD 20 n = fname nm n := by
  rw [lowD_name n hn]
  unfold fname
  rw [ByteArray.append_assoc (a := nm ++ ⟨#[46]⟩)]
theorem frs_le (L : List (List UInt8)) (c : Nat) (h : ∀ r ∈ L, r.length ≤ c) : (frs L).length ≤ L.length * (c + 14) := by
  induction L with
  | nil => simp [frs]
  | cons a t ih =>
    have h1 := ih (fun r hr => h r (List.mem_cons_of_mem _ hr))
    have h2 := h a List.mem_cons_self
    have h3 := frame_le a
    have h4 : frs (a :: t) = M.frame a ++ frs t := by simp [frs]
    rw [h4, List.length_append, List.length_cons, Nat.succ_mul]
    omega

section
variable {B l d size : Nat} {nm : ByteArray} {N z0 : Nat} {ex : Nm → Option (List UInt8 × Nat)} {rs : List (List UInt8)} {sv : Value} {P : List (Sg × Value)} {U : Nat → List Value} {own : Nat → Option LRole} {n : Nat} {od : Nat → Option Role} {st : Nm → Option (List UInt8 × Nat)} {w w' : World}
theorem open_rot (hd : Dk B d 0 od (fun _ => none) 0 (alive d) 0 w) (hB : B ≤ w.heap.size) (hnm : 0 < nm.size) (hns : nm.size ≤ 40) (hs1 : 1 ≤ size) (hs2 : size ≤ 9223372036854775807) :
    Calls Tryz.prog 10 #[.pointer (some ⟨d, 0, none⟩), .string nm, .int .i64 (size : Int)] w fun r w' => ∃ l, r = .returned (.tuple #[.pointer (some ⟨l, 0, none⟩), .int .i64 0]) ∧ RotE B l d size nm 1 0 (fun _ => none) [] w' ∧ Below B w w' := by
  refine (open_none hd (fun _ => rfl) rfl (by omega) hB hnm hns hs1 hs2).mono ?_
  rintro e w2 ⟨l, sv, U, own2, od2, rfl, hI, hc⟩
  have hsy : syF nm [sg0 1] (setF (fun _ => none) (fname nm 1).data.toList (some ([], 0))) = setF (setF (fun _ => none) (fname nm 1).data.toList (some ([], 0))) (fname nm 1).data.toList (some ([], 0)) := rfl
  refine ⟨l, rfl, ⟨sv, [sg0 1], U, own2, 0 + 1, od2, _, hI, Chn.start size, by simp, ?_, ?_⟩, hc.below (fun b q => (hd.blo q).1) hB⟩
  · intro b hb q
    rw [hsy] at q
    by_cases e : (fname nm b).data.toList = (fname nm 1).data.toList
    · exact ⟨0, sg0 1, rfl, (fname_inj nm hb (by omega) e).symm⟩
    · rw [setF_other _ _ e, setF_other _ _ e] at q; exact absurd rfl q
  · intro f hf
    have e := hf 1 (by omega)
    rw [hsy, setF_other _ _ e, setF_other _ _ e]
/-- A record that is there still, of a log whose first k segments may have gone. -/
theorem get_rot {k : Nat} (hL : LgI B l d size nm false sv (P.drop k) U own w) (hc : Chn size rs (sgs P)) (hs0 : 0 < size) (hrs : rs.length < 98) {p0 : Sg × Value} (e0 : P[k]? = some p0) {m : Nat} {r : List UInt8} (er : rs[m]? = some r) (hm : p0.1.1 ≤ m + 1) (hrl : r.length ≤ 16777216) :
    Calls Tryz.prog 29 #[.pointer (some ⟨l, 0, none⟩), .int .u64 ((m + 1 : Nat) : Int)] w fun x w' => (∃ v, x = .returned (.tuple #[v, .int .i64 0]) ∧ Ow w.heap.size w' v r) ∧ Below w.heap.size w w' := by
  have hk := (List.getElem?_eq_some_iff.1 e0).1
  have hln := hc.len hs0
  have hpl : (sgs P).length = P.length := by simp
  obtain ⟨i, s, j, es, ej, hij⟩ := hc.find m r er
  obtain ⟨p, ep, rfl⟩ := at_sgs es
  have hi := (List.getElem?_eq_some_iff.1 ep).1
  have hjl := (List.getElem?_eq_some_iff.1 ej).1
  have hki : k ≤ i := by
    rcases Nat.lt_or_ge i k with a | a
    · obtain ⟨q, eq⟩ : ∃ q, P[i + 1]? = some q := ⟨_, List.getElem?_eq_getElem (by omega)⟩
      have h1 := hc.chain i p.1 q.1 es (sgs_at eq)
      have h2 : q.1.1 ≤ p0.1.1 := by
        rcases Nat.lt_or_ge (i + 1) k with b | b
        · exact Nat.le_of_lt (hc.mono hs0 _ _ q.1 p0.1 b (sgs_at eq) (sgs_at e0))
        · obtain rfl : k = i + 1 := by omega
          rw [eq] at e0; obtain rfl := Option.some.inj e0; exact Nat.le_refl _
      unfold sgNext at h1
      omega
    · exact a
  have dr : ∀ (i : Nat) p, (P.drop k)[i]? = some p → P[k + i]? = some p := fun i p e => by rw [List.getElem?_drop] at e; exact e
  obtain ⟨pl, el⟩ : ∃ pl, P[P.length - 1]? = some pl := ⟨_, List.getElem?_eq_getElem (by omega)⟩
  have hnx := hc.le i p.1 es
  have hnl := hc.le (P.length - 1) pl.1 (sgs_at el)
  have := get_there hL (by rw [List.length_drop]; omega) (fun a b p q hab ha hb => hc.mono hs0 _ _ p.1 q.1 (show k + a < k + b by omega) (sgs_at (dr a p ha)) (sgs_at (dr b q hb))) (fun a p q ha hb => hc.chain (k + a) p.1 q.1 (sgs_at (dr a p ha)) (sgs_at (dr (a + 1) q hb))) (k := i - k) (j := j) (p := p) (by rw [List.getElem?_drop, show k + (i - k) = i by omega]; exact ep) ej (by omega) hrl (m := P.length - 1 - k) (by rw [List.length_drop]; omega) (pl := pl) (by rw [List.getElem?_drop, show k + (P.length - 1 - k) = P.length - 1 by omega]; exact el) (by omega)
  rw [hij] at this
  exact this
/-- A number read out of Segments' list. -/
theorem begins_cell {v : Value} {C : Nat} (h : w.ownsRow C 38 1 v P.length (begins P)) (hne : 0 < P.length) : ∃ g c, v = .slice (some ⟨g, 0, none⟩) P.length c ∧ P.length ≤ c ∧ c ≤ maxLen ∧ C ≤ g ∧ ∀ (i : Nat) p, P[i]? = some p → w.cell? ⟨g, i, none⟩ = some (.int .u64 (p.1.1 : Int)) := by
  obtain ⟨a, c, ev, h1, h2, _, h4⟩ := row_reads h
  have hb : ∀ (i : Nat) p, P[i]? = some p → (begins P)[i]? = some (.int .u64 (p.1.1 : Int)) := fun i p e => by unfold begins; rw [List.getElem?_map, e]; rfl
  obtain ⟨p, e⟩ : ∃ p, P[0]? = some p := ⟨_, List.getElem?_eq_getElem hne⟩
  obtain ⟨g, rfl, _⟩ := h4 0 _ (hb 0 p e)
  subst ev
  refine ⟨g, c, rfl, h1, h2, (World.ownsRow.lt h g rfl).1, fun i q eq => ?_⟩
  obtain ⟨g', eg, hc⟩ := h4 i _ (hb i q eq)
  simp only [Option.some.injEq, Addr.mk.injEq, and_true] at eg
  rw [eg]; exact hc
end
end Go.Proofs.YtcielagfajdbeaaGreatDoor

/- Append, with what it tells of the last segment; the segments of size one. -/
namespace Go.Proofs.YtcielagfajdbeaaGreatDoor
open Go.RowKit
set_option linter.unusedVariables false
set_option maxRecDepth 100000

/-- The last segment holds a record. -/
def Lst (S : List Sg) : Prop := ∃ s, S[S.length - 1]? = some s ∧ s.2 ≠ []
section
variable {B l d size : Nat} {nm : ByteArray} {N z0 : Nat} {ex : Nm → Option (List UInt8 × Nat)} {rs : List (List UInt8)} {sv : Value} {P : List (Sg × Value)} {U : Nat → List Value} {own : Nat → Option LRole} {n : Nat} {od : Nat → Option Role} {st : Nm → Option (List UInt8 × Nat)} {w w' : World}
set_option maxHeartbeats 1000000 in
theorem append_rotL (h : Rot B l d size nm N z0 ex rs sv P U own n od st w) (hs0 : 0 < size) (hs : size ≤ 16777216) (hN : N ≤ 1000000) (hrs : rs.length < 98) {bv : Value} {r : List UInt8} (hr : Rd w bv r) (hkp : ∀ w3, Below B w w3 → Rd w3 bv r) (hbl : r.length ≤ 1048576) (hz : z0 + (frs rs).length + (M.frame r).length ≤ 16777216) :
    Calls Tryz.prog 11 #[.pointer (some ⟨l, 0, none⟩), bv] w fun e w' => e = .returned (.tuple #[.int .u64 ((rs.length + 1 : Nat) : Int), .int .i64 0]) ∧ (∃ sv' P' U' own' n' od' st', Rot B l d size nm N z0 ex (rs ++ [r]) sv' P' U' own' n' od' st' w' ∧ Lst (sgs P')) ∧ Below B w w' := by
  obtain ⟨k, p, hk, e, hnx⟩ := h.last
  have hI := h.1
  have hle := seg_le h.2.1 k p.1 (sgs_at e)
  have hln := h.2.1.len hs0
  have hfr : frs (rs ++ [r]) = frs rs ++ M.frame r := frs_snoc rs r
  have hkp2 : ∀ w3, Chg (fun q => own q ≠ none ∨ od q ≠ none) w w3 → Rd w3 bv r := fun w3 hc => hkp w3 (hI.chg hc)
  have hlen : P.length ≤ 100 := by have : (sgs P).length = P.length := by simp
                                   omega
  have fin : ∀ (w' : World) (r' : Ending), (r' = .returned (.tuple #[.int .u64 (sgNext p.1 : Int), .int .i64 0]) ∧ (∃ sv' Q U' own' n' od' st', WI B l d size nm sv' Q U' own' n' od' st' (z0 + (frs rs).length + (M.frame r).length) w' ∧ Q.map (·.1) = addS size P k p r ∧ n' ≤ n + 1 ∧ (∀ f, st' f ≠ none → st f ≠ none ∨ (size ≤ (frs p.1.2).length ∧ f = (fname nm (sgNext p.1)).data.toList)) ∧ ∀ f, (∀ b, b < 100 → f ≠ (fname nm b).data.toList) → st' f = st f) ∧ Chg (fun q => own q ≠ none ∨ od q ≠ none) w w') → r' = .returned (.tuple #[.int .u64 ((rs.length + 1 : Nat) : Int), .int .i64 0]) ∧ (∃ sv' P' U' own' n' od' st', Rot B l d size nm N z0 ex (rs ++ [r]) sv' P' U' own' n' od' st' w' ∧ Lst (sgs P')) ∧ Below B w w' := by
    rintro w' r' ⟨hr', ⟨sv', Q, U', own', n', od', st', hI', hQ, hn', hf1, hf2⟩, hc⟩
    refine ⟨by rw [hr', hnx, Nat.add_comm], ⟨sv', Q, U', own', n', od', st', ⟨?_, ?_, ?_, ?_, ?_⟩, ?_⟩, hI.chg hc⟩
    · rw [hfr, List.length_append, ← Nat.add_assoc]; exact hI'
    · show Chn size (rs ++ [r]) (Q.map (·.1))
      rw [hQ]
      unfold addS
      split
      · rename_i q
        exact h.2.1.there (by simp [hk]) p.1 (sgs_at e) r q
      · rename_i q
        exact h.2.1.new hs0 (by simp [hk]) p.1 (sgs_at e) r (by omega)
    · have := h.2.2.1; simp; omega
    · intro b hb q
      have hQi : ∀ (i : Nat) s, (Q.map (·.1))[i]? = some s → ∃ p, Q[i]? = some p ∧ p.1 = s := fun i s e => at_sgs e
      rcases hf1 _ q with a | ⟨a1, a2⟩
      · obtain ⟨i, p', ep, eb⟩ := h.2.2.2.1 b hb a
        have hil := (List.getElem?_eq_some_iff.1 ep).1
        have hQa : ∃ s, (addS size P k p r)[i]? = some s ∧ s.1 = b := by
          unfold addS
          split
          · by_cases hik : i = k
            · subst hik
              rw [e] at ep
              obtain rfl := Option.some.inj ep
              exact ⟨(p.1.1, p.1.2 ++ [r]), by rw [List.getElem?_set_self (by rw [List.length_map]; omega)], eb⟩
            · exact ⟨p'.1, by rw [List.getElem?_set_ne (fun q => hik q.symm), List.getElem?_map, ep]; rfl, eb⟩
          · exact ⟨p'.1, by rw [List.getElem?_append_left (by rw [List.length_map]; omega), List.getElem?_map, ep]; rfl, eb⟩
        obtain ⟨s, es, esb⟩ := hQa
        rw [← hQ] at es
        obtain ⟨p2, e2, e3⟩ := hQi i s es
        exact ⟨i, p2, e2, by rw [e3]; exact esb⟩
      · have hbn := fname_inj nm hb (by omega) a2
        have es : (addS size P k p r)[P.length]? = some (sgNext p.1, [r]) := by
          unfold addS
          rw [if_neg (by omega), List.getElem?_append_right (by rw [List.length_map]; exact Nat.le_refl _), List.length_map, Nat.sub_self]
          rfl
        rw [← hQ] at es
        obtain ⟨p2, e2, e3⟩ := hQi _ _ es
        exact ⟨_, p2, e2, by rw [e3]; exact hbn.symm⟩
    · intro f hf
      rw [hf2 f hf]; exact h.2.2.2.2 f hf
    · show Lst (Q.map (·.1))
      rw [hQ]
      unfold addS
      split
      · exact ⟨(p.1.1, p.1.2 ++ [r]), by rw [List.length_set, List.length_map, hk, Nat.add_sub_cancel, List.getElem?_set_self (by rw [List.length_map]; omega)], by simp⟩
      · exact ⟨(sgNext p.1, [r]), by rw [List.length_append, List.length_map, List.length_singleton, Nat.add_sub_cancel, List.getElem?_append_right (by rw [List.length_map]; exact Nat.le_refl _), List.length_map, Nat.sub_self]; rfl, by simp⟩
  by_cases hby : (frs p.1.2).length < size
  · exact (append_thereK hI (h.begins hs0) hk e hby hs hr hkp2 hbl hz (by omega) (by omega)).mono (fun r' w' q => fin w' r' q)
  · refine (append_newK hI (h.begins hs0) hk e (by omega) (by omega) (by have := h.2.2.1; omega) (by omega) ?_ hr hkp2 hbl hz (by omega) (by omega)).mono (fun r' w' q => fin w' r' q)
    by_cases q : st (fname nm (sgNext p.1)).data.toList = none
    · exact q
    · obtain ⟨i, p', ep, eb⟩ := h.2.2.2.1 _ (by omega) q
      have h2 : 0 < p.1.2.length := by
        rcases hp : p.1.2 with _ | ⟨a, b⟩
        · rw [hp] at hby; simp [frs] at hby; omega
        · simp
      have hil := (List.getElem?_eq_some_iff.1 ep).1
      have h3 : p'.1.1 ≤ p.1.1 := by
        rcases Nat.lt_or_ge i k with a | a
        · exact Nat.le_of_lt (h.mono hs0 i k p' p a ep e)
        · obtain rfl : i = k := by omega
          rw [e] at ep; obtain rfl := Option.some.inj ep; exact Nat.le_refl _
      unfold sgNext at eb
      omega
end
theorem frs_consL (r : List UInt8) (t : List (List UInt8)) : frs (r :: t) = M.frame r ++ frs t := by simp [frs]
theorem one_each {rs : List (List UInt8)} {S : List Sg} (h : Chn 1 rs S) (hl : Lst S) (i : Nat) (p : Sg) (e : S[i]? = some p) : p.2.length = 1 := by
  have hil := (List.getElem?_eq_some_iff.1 e).1
  have hne : p.2 ≠ [] := by
    intro q
    by_cases hi : i + 1 < S.length
    · have := h.has (by omega) i p hi e
      rw [q] at this; simp at this
    · obtain ⟨s, es, hs⟩ := hl
      have : S.length - 1 = i := by omega
      rw [this, e] at es
      obtain rfl := Option.some.inj es
      exact hs q
  rcases h.small i p e with q | q
  · exact absurd q hne
  · have hd : p.2.dropLast = [] := by
      rcases hp : p.2.dropLast with _ | ⟨a, t⟩
      · rfl
      · rw [hp, frs_consL, List.length_append] at q
        have := M.frame_pos a
        omega
    have := congrArg List.length hd
    rw [List.length_dropLast, List.length_nil] at this
    have h0 : 0 < p.2.length := List.length_pos_iff.2 hne
    omega
theorem one_take {rs : List (List UInt8)} {S : List Sg} (h : Chn 1 rs S) (hl : Lst S) : ∀ i, i ≤ S.length → (recsOf (S.take i)).length = i
  | 0, _ => by simp [recsOf]
  | i + 1, hi => by
    obtain ⟨p, e⟩ : ∃ p, S[i]? = some p := ⟨_, List.getElem?_eq_getElem (by omega)⟩
    rw [recsOf_take S i p e, List.length_append, one_take h hl i (by omega), one_each h hl i p e]
theorem one_len {rs : List (List UInt8)} {S : List Sg} (h : Chn 1 rs S) (hl : Lst S) : S.length = rs.length := by
  have := one_take h hl S.length (Nat.le_refl _)
  rw [List.take_length, h.all] at this
  exact this.symm
theorem one_at {rs : List (List UInt8)} {S : List Sg} (h : Chn 1 rs S) (hl : Lst S) (i : Nat) (p : Sg) (e : S[i]? = some p) : p.1 = i + 1 ∧ ∃ r ∈ rs, p.2 = [r] := by
  have hil := (List.getElem?_eq_some_iff.1 e).1
  have h1 := h.at_ i p e
  rw [one_take h hl i (by omega)] at h1
  refine ⟨by omega, ?_⟩
  obtain ⟨r, hr⟩ := List.length_eq_one_iff.1 (one_each h hl i p e)
  have h2 := recsOf_at S i p 0 r e (by rw [hr]; rfl)
  rw [h.all] at h2
  exact ⟨r, List.mem_of_getElem? h2, hr⟩
/-- A short record's frame of which a byte behind its length is turned begins with no frame. -/
theorem turn_tkf (r : List UInt8) (hr : r.length < 128) (A : Nat) (h1 : 1 ≤ A) (h2 : A < (M.frame r).length) : M.tkf ((M.frame r).set A ((M.frame r)[A] ^^^ 16)) = none := by
  have hv : (M.vi r.length).length = 1 := by
    unfold M.vi
    rw [M.viF, if_pos hr]; rfl
  have hfl : (M.frame r).length = 1 + (4 + r.length) := by simp only [M.frame, List.length_append, M.be_length, hv]; omega
  obtain ⟨j, rfl⟩ : ∃ j, A = (M.vi r.length).length + j := ⟨A - 1, by omega⟩
  unfold M.tkf
  rw [turned_refused r j (by omega) 16 (by decide) (by omega) h2]
  rfl
theorem frame5 (r : List UInt8) : 5 ≤ (M.frame r).length := by
  have h4 := M.be_length 4 (M.crc r)
  have hv : 0 < (M.vi r.length).length := by
    unfold M.vi
    rw [M.viF]
    split <;> simp
  simp only [M.frame, List.length_append]
  omega
end Go.Proofs.YtcielagfajdbeaaGreatDoor

/- The log's takeFrame, at any bytes. -/
namespace Go.Proofs.YtcielagfajdbeaaGreatDoor
open Go.RowKit
set_option linter.unusedVariables false
set_option maxRecDepth 100000

set_option maxHeartbeats 2000000 in
theorem takeW_any {v : Value} {L : List UInt8} {w : World} (hr : Rd w v L) (hl : L.length ≤ 16777216) :
    Calls Tryz.prog 107 #[v] w fun e w' => ((∃ v1 r k, M.tkf L = some (r, k) ∧ e = .returned (.tuple #[v1, .int .i64 (k : Int)]) ∧ Ow w.heap.size w' v1 r) ∨ (M.tkf L = none ∧ e = .returned (.tuple #[.slice none 0 0, .int .i64 0]))) ∧ Below w.heap.size w w' := by
  rcases hr.two with ⟨rfl, h0⟩ | ⟨a, c, rfl, hc1, hc, _⟩
  · subst h0
    refine (take_none hr).mono ?_
    rintro e w' ⟨rfl, hb⟩
    exact ⟨.inr ⟨M.tkf_nil, rfl⟩, hb⟩
  · unfold maxLen at hc
    have HR : Hid (Rd w (.slice (some a) L.length c) L) := hr
    clear hr
    go_enter Tryz.func107, Tryz.ntmps107
    go_wp2_with fail
    go_loopw [4] (fun i wr => ∃ k : Nat, i = .int .i64 (k : Int) ∧ 1 ≤ k ∧ k ≤ 33554432 ∧ Below w.heap.size w wr) (fun i _ => 33554433 - (intOf i).toNat)
    case atStart => exact ⟨64, rfl, by omega, by omega, Below.refl _ _⟩
    case round =>
      obtain ⟨k, rfl, hk1, hk2, hb⟩ := hrel
      obtain ⟨s, hs⟩ : ∃ s, s = min k L.length := ⟨_, rfl⟩
      have hmin : min (k : Int) (L.length : Int) = (s : Int) := by omega
      have hsl : s ≤ L.length := by omega
      have hrs := (HR.out.below hb (Nat.le_refl _)).pre s hsl
      have htl : (L.take s).length = s := by rw [List.length_take]; omega
      have htf := tframe_any hrs (by omega)
      obtain ⟨t1, t2, t3⟩ := M.tkf_take L s hsl (by omega)
      obtain ⟨cd, hcd⟩ : ∃ cd, cd = (M.tf (L.take s)).2.2 := ⟨_, rfl⟩
      rw [← hcd] at htf t1 t2 t3
      have g1 : (s : Int) ≤ (L.length : Int) := by omega
      have g2 : (s : Int) ≤ (c : Int) := by omega
      have g3 : s ≤ c := by omega
      have H : Hid _ := And.intro t1 (And.intro t2 (And.intro t3 (And.intro hs hcd)))
      clear t1 t2 t3 hs hcd hrs htl
      by_cases h0 : cd = 0
      · subst h0
        go_wp2_with fail
        refine htf.mono ?_
        rintro e w1 ⟨v1, v2, rfl, o1, o2, _, hb1⟩
        have htk := H.out.1 (by simp)
        obtain ⟨a2, c2, e2, -⟩ := o2.rd
        subst e2
        have hle : (M.tf (L.take s)).2.1.length ≤ s := by
          have hf := M.tf_form (L.take s) H.out.2.2.2.2.symm
          have := congrArg List.length hf
          rw [List.length_append, List.length_take] at this
          omega
        have g4 : (s : Int) - ((M.tf (L.take s)).2.1.length : Int) = ((s - (M.tf (L.take s)).2.1.length : Nat) : Int) := by omega
        have HT : Hid _ := And.intro htk H.out.2.2.2.1
        obtain ⟨a1, c1, e1, -⟩ := o1.rd
        subst e1
        clear htk htf o2 H
        generalize (M.tf (L.take s)).2.1.length = m2 at *
        generalize s - m2 = sm at *
        go_wp2_with fail
        go_returns
        exact ⟨.inl ⟨_, _, _, HT.out.1, rfl, o1.mono hb.size⟩, Below.tr hb hb1⟩
      · have hcd0 : ((cd : Int) == 0) = false := by rw [beq_eq_false_iff_ne]; omega
        by_cases h10 : cd = 10
        · subst h10
          by_cases hsL : s = L.length
          · have g5 : ((s : Int) == (L.length : Int)) = true := by rw [beq_iff_eq]; omega
            have HSL : Hid _ := hsL
            clear hsL
            go_wp2_with fail
            refine htf.mono ?_
            rintro e w1 ⟨v1, v2, rfl, o1, o2, _, hb1⟩
            obtain ⟨a2, c2, e2, -⟩ := o2.rd
            subst e2
            obtain ⟨a1, c1, e1, -⟩ := o1.rd
            subst e1
            clear o1 o2 htf
            go_wp2_with fail
            go_returns
            exact ⟨.inr ⟨H.out.2.2.1 (by omega) HSL.out, rfl⟩, Below.tr hb hb1⟩
          · have g5 : ((s : Int) == (L.length : Int)) = false := by rw [beq_eq_false_iff_ne]; omega
            have HSL : Hid (s < L.length) := (by omega : s < L.length)
            clear hsL
            go_wp2_with fail
            refine htf.mono ?_
            rintro e w1 ⟨v1, v2, rfl, o1, o2, _, hb1⟩
            obtain ⟨a2, c2, e2, -⟩ := o2.rd
            subst e2
            obtain ⟨a1, c1, e1, -⟩ := o1.rd
            subst e1
            clear o1 o2 htf
            go_wp2_with fail
            refine ⟨⟨2 * s, ?_, ?_, ?_, Below.tr hb hb1⟩, ?_⟩
            · have := H.out.2.2.2.1; go_num
            · have := H.out.2.2.2.1; have := HSL.out; omega
            · have := H.out.2.2.2.1; have := HSL.out; omega
            · have := H.out.2.2.2.1; have := HSL.out; simp [intOf]; omega
        · have hcd1 : ((cd : Int) != 10) = true := by rw [bne_iff_ne]; omega
          go_wp2_with fail
          refine htf.mono ?_
          rintro e w1 ⟨v1, v2, rfl, o1, o2, _, hb1⟩
          obtain ⟨a2, c2, e2, -⟩ := o2.rd
          subst e2
          obtain ⟨a1, c1, e1, -⟩ := o1.rd
          subst e1
          clear o1 o2 htf
          go_wp2_with fail
          go_returns
          exact ⟨.inr ⟨H.out.2.1 h0 h10, rfl⟩, Below.tr hb hb1⟩
end Go.Proofs.YtcielagfajdbeaaGreatDoor

/- The walk over the frames of any bytes: what its rounds are told. -/
namespace Go.Proofs.YtcielagfajdbeaaGreatDoor
open Go.RowKit Go.Shelf
set_option linter.unusedVariables false
set_option maxRecDepth 100000
attribute [local go_sem] Oper.semAt_some

/-- A record, with the value that holds it. -/
abbrev VR := Value × List UInt8
/-- What the walk wants kept by its rounds. -/
def FrK (Bs g : Nat) (A B : World) : Prop := A.heap.size ≤ B.heap.size ∧ B.heap[Bs]? = A.heap[Bs]? ∧ B.heap[g]? = A.heap[g]?
/-- What a round may lean on: the record is the next one, in memory that is new since the invariant was met. -/
def FrOk (I : List VR → World → Prop) (rs : List (List UInt8)) (pre : List VR) (x : VR) (W : World) : Prop := ∃ W0, I pre W0 ∧ Below W0.heap.size W0 W ∧ Ow W0.heap.size W x.1 x.2 ∧ ∃ rest, rs = pre.map (·.2) ++ x.2 :: rest
def lenAt (w : World) (b : Nat) : Nat := match w.cell? ⟨b, 0, none⟩ with
  | some (.slice _ n _) => n
  | _ => 0
theorem Rd.ofBlock {g : Nat} {A B : World} {v : Value} {l : List UInt8} (h : Rd A v l) (hg : ∀ b, v.ownBlock = some b → b = g) (hb : B.heap[g]? = A.heap[g]?) : Rd B v l := by
  obtain ⟨ao, c, rfl, h1, h2, h3, h4⟩ := h
  refine ⟨ao, c, rfl, h1, h2, h3, fun i hi => ?_⟩
  obtain ⟨a, rfl, hc⟩ := h4 i hi
  have := hg a.block rfl
  refine ⟨a, rfl, ?_⟩
  rw [World.cell?_of_block (w := A) (by rw [add_block, this]; exact hb)]
  exact hc
theorem frs_cons (r : List UInt8) (rest : List (List UInt8)) : frs (r :: rest) = M.frame r ++ frs rest := by simp [frs]
theorem kb_cell {C : Nat} {W : World} {b : Nat} (v : Value) (h0 : b ≠ C) (h1 : b ≠ C + 1) (hC : C + 2 ≤ W.heap.size) : KB C W (W.setCell ⟨b, 0, none⟩ v) := by
  have hc : Chg (fun x => x = b) W (W.setCell ⟨b, 0, none⟩ v) := (Chg.refl (fun x => x = b) W).put b 0 _ rfl
  exact ⟨hc.block C (by omega) (fun q => h0 q.symm), hc.block (C + 1) (by omega) (fun q => h1 q.symm)⟩
theorem kb_below {C : Nat} {W W' : World} (h : Below W.heap.size W W') (hC : C + 2 ≤ W.heap.size) : KB C W W' := ⟨h.block C (by omega), h.block (C + 1) (by omega)⟩

set_option maxHeartbeats 1000000 in
theorem frames_toldF (F : Fence) (n : Nat) (hF1 : F.fn 106) (hF2 : F.fn 107) (hro : F.round = none) (hn : 1 ≤ n)
    (hT : ∀ {v : Value} {L : List UInt8} {W : World}, Rd W v L → L.length ≤ 16777216 → CallsIn F (n - 1) Tryz.prog 107 #[v] W fun e w' => ((∃ v1 r k, M.tkf L = some (r, k) ∧ e = .returned (.tuple #[v1, .int .i64 (k : Int)]) ∧ Ow W.heap.size w' v1 r) ∨ (M.tkf L = none ∧ e = .returned (.tuple #[.slice none 0 0, .int .i64 0]))) ∧ Below W.heap.size W w')
    {Bs g C : Nat} {rs : List (List UInt8)} {t : List UInt8} (ht : M.tkf t = none) (hlen : (frs rs ++ t).length ≤ 16777216) {I : List VR → World → Prop} {K : World → Prop}
    (hIs : ∀ s W bv, I s W → I s (W.setCell ⟨Bs, 0, none⟩ bv)) (hIb : ∀ s A B, I s A → Below A.heap.size A B → I s B) (hK : ∀ A B, K A → KB C A B → K B) (hIC : ∀ s W, I s W → C + 2 ≤ W.heap.size) (hBC : Bs < C) (l : Nat) (W : World) (hgB : g ≠ Bs) (hgl : g < W.heap.size)
    {bv : Value} (hBs : W.heap[Bs]? = some (.cells #[bv] 24 (0, 0))) (hrd : Rd W bv (frs rs ++ t)) (hg : ∀ b, bv.ownBlock = some b → b = g)
    (hY : ∀ pre x W1, I pre W1 → FrOk I rs pre x W1 → K W1 → YieldAt F (n - 1) Tryz.prog l #[x.1, .int .i64 ((M.frame x.2).length : Int)] W1 fun e W' => e = .returned (.bool true) ∧ I (pre ++ [x]) W' ∧ FrK Bs g W1 W' ∧ K W')
    (h0 : I [] W) (hK0 : K W) :
    CallsIn F n Tryz.prog 106 #[.func (.yield l) #[] #[], .pointer (some ⟨Bs, 0, none⟩)] W fun e W' => (∃ v, e = .returned v) ∧ ∃ xs : List VR, xs.map (·.2) = rs ∧ I xs W' ∧ K W' := by
  refine callsIn_of_wp Tryz.func106 rfl hF1 ?_ hro
  simp only [Tryz.ntmps106, List.size_toArray, List.length_cons, List.length_nil, Nat.reduceAdd, Nat.reduceSub, Array.replicate_succ, Array.replicate_zero, List.push_toArray, List.append_toArray, List.nil_append, List.cons_append]
  have H0 : Hid _ := And.intro h0 (And.intro hK0 (And.intro hBs (And.intro hrd hg)))
  clear h0 hK0 hBs hrd hg
  gi_wp2
  gi_loopw [3, 4] (fun _ _ wr => ∃ (pre : List VR) (rest : List (List UInt8)) (q : Value), wr.heap[Bs]? = some (.cells #[q] 24 (0, 0)) ∧ rs = pre.map (·.2) ++ rest ∧ Rd wr q (frs rest ++ t) ∧ (∀ b, q.ownBlock = some b → b = g) ∧ I pre wr ∧ K wr ∧ g < wr.heap.size) (fun _ _ wr => lenAt wr Bs)
  case atStart => exact ⟨[], rs, bv, H0.out.2.2.1, rfl, H0.out.2.2.2.1, H0.out.2.2.2.2, H0.out.1, H0.out.2.1, hgl⟩
  case round =>
    obtain ⟨pre, rest, q, hB, hx, hrd, hg, hI, hKr, hgr⟩ := hrel
    clear H0
    have hcB := (cell_one hB).1
    have hfB := (cell_one hB).2
    have hll : (frs rest ++ t).length ≤ 16777216 := by
      rw [hx, frs_app] at hlen
      simp only [List.length_append] at hlen ⊢
      omega
    have htk := hT hrd hll
    cases rest with
    | nil =>
      have htk2 : CallsIn F (n - 1) Tryz.prog 107 #[q] wr fun e w' => e = .returned (.tuple #[.slice none 0 0, .int .i64 0]) ∧ Below wr.heap.size wr w' := htk.mono (by
        rintro e w' ⟨⟨v1, r, k, e1, _⟩ | ⟨_, rfl⟩, hb⟩
        · simp only [frs, List.flatMap_nil, List.nil_append] at e1
          rw [ht] at e1; cases e1
        · exact ⟨rfl, hb⟩)
      obtain ⟨qa, qc, eq, -⟩ := id hrd
      subst eq
      have HX : Hid (rs = pre.map (·.2) ++ []) := hx
      clear htk hx hrd hT hY hll hlen
      generalize (frs [] ++ t).length = N at *
      gi_wp2_with (first | (gi_at_call 107; refine htk2.mono ?_; rintro e w1 ⟨rfl, hb1⟩) | fail)
      refine ⟨fun _ h => (by cases h), ?_⟩
      gi_wp2
      refine bodyPost_ret (results_none rfl _ _ _) rfl ?_
      exact ⟨⟨_, rfl⟩, pre, by rw [HX.out, List.append_nil], hIb _ _ _ hI hb1, hK _ _ hKr (kb_below hb1 (hIC _ _ hI))⟩
    | cons r rest =>
      have hrl : r.length < 18446744073709551616 := by
        have h1 : r.length ≤ (M.frame r).length := by unfold M.frame; simp only [List.length_append]; omega
        rw [frs_cons] at hll
        simp only [List.length_append] at hll
        omega
      have htk2 : CallsIn F (n - 1) Tryz.prog 107 #[q] wr fun e w' => ∃ v1, e = .returned (.tuple #[v1, .int .i64 ((M.frame r).length : Int)]) ∧ Ow wr.heap.size w' v1 r ∧ Below wr.heap.size wr w' := htk.mono (by
        rintro e w' ⟨⟨v1, r', k, e1, rfl, ho⟩ | ⟨e1, _⟩, hb⟩
        · rw [frs_cons, List.append_assoc, M.tkf_frame _ _ hrl] at e1
          obtain ⟨rfl, rfl⟩ := Prod.mk.inj (Option.some.inj e1)
          exact ⟨v1, rfl, ho, hb⟩
        · rw [frs_cons, List.append_assoc, M.tkf_frame _ _ hrl] at e1; cases e1)
      have hpos := M.frame_pos r
      have hle : (M.frame r).length ≤ (frs (r :: rest) ++ t).length := by rw [frs_cons]; simp only [List.length_append]; omega
      obtain ⟨qa, qc, eq, q1, q2, q3, q4⟩ := id hrd
      subst eq
      obtain ⟨a, ea, -⟩ := q4 0 (by omega)
      subst ea
      unfold maxLen at q2
      have hrd2 := fun (W3 : World) (hb : W3.heap[g]? = wr.heap[g]?) => hrd.ofBlock hg hb
      have hdr : (frs (r :: rest) ++ t).drop (M.frame r).length = frs rest ++ t := by rw [frs_cons, List.append_assoc, List.drop_left]
      have hdl : (frs (r :: rest) ++ t).length - (M.frame r).length = (frs rest ++ t).length := by rw [frs_cons]; simp only [List.length_append]; omega
      have hab : a.block = g := hg a.block rfl
      have hY1 := fun v1 w1 (hb : Below wr.heap.size wr w1) (ho : Ow wr.heap.size w1 v1 r) => hY pre (v1, r) w1 (hIb _ _ _ hI hb) ⟨wr, hI, hb, ho, rest, hx⟩ (hK _ _ hKr (kb_below hb (hIC _ _ hI)))
      dsimp only at hY1
      have H : Hid _ := And.intro hx (And.intro hrd2 (And.intro hdr (And.intro hdl hab)))
      have HB : Hid _ := hB
      have hlz : lenAt wr Bs = (frs (r :: rest) ++ t).length := by unfold lenAt; rw [hcB]
      have HLZ : Hid _ := hlz
      clear hT htk hx hrd hdr hdl hrd2 q3 q4 hY hg hab hlz hlen
      generalize (frs (r :: rest) ++ t).length = N at *
      generalize hkk : (M.frame r).length = k at *
      have HKK : Hid _ := hkk
      clear hkk
      have hk0 : ((k : Int) == 0) = false := by rw [beq_eq_false_iff_ne]; omega
      have hn1 : F.depth.isSome = true → 1 ≤ n := fun _ => hn
      gi_wp2_with (first | (gi_at_call 107; refine htk2.mono ?_; rintro e w1 ⟨v1, rfl, ho1, hb1⟩; obtain ⟨a1, c1, e1, _⟩ := ho1.rd; subst e1; obtain ⟨fn, tmps, assign, body, hy, hR⟩ := hY1 _ w1 hb1 ho1; try dsimp only at hy) | fail)
      refine hR.mono ?_
      rintro e W3 ⟨rfl, hI3, hk3, hK3⟩
      have hB3 : W3.heap[Bs]? = some (.cells #[.slice (some a) N qc] 24 (0, 0)) := by rw [hk3.2.1, hb1.block Bs (Array.getElem?_eq_some_iff.1 HB.out).1]; exact HB.out
      obtain ⟨cB3, fB3⟩ := cell_one hB3
      have hg3 : W3.heap[g]? = wr.heap[g]? := by rw [hk3.2.2, hb1.block g hgr]
      have hrd3 := H.out.2.1 W3 hg3
      have hkN : k ≤ N := hle
      have fin : ∀ (ao : Option Addr) (m cc : Nat), m = N - k → cc = qc - k → (qc = k → ao = some a) ∧ (¬ qc = k → ao = some (a.add k)) → (∃ (pre' : List VR) (rest' : List (List UInt8)) (q : Value), (W3.setCell ⟨Bs, 0, none⟩ (.slice ao m cc)).heap[Bs]? = some (.cells #[q] 24 (0, 0)) ∧ rs = pre'.map (·.2) ++ rest' ∧ Rd (W3.setCell ⟨Bs, 0, none⟩ (.slice ao m cc)) q (frs rest' ++ t) ∧ (∀ b, q.ownBlock = some b → b = g) ∧ I pre' (W3.setCell ⟨Bs, 0, none⟩ (.slice ao m cc)) ∧ K (W3.setCell ⟨Bs, 0, none⟩ (.slice ao m cc)) ∧ g < (W3.setCell ⟨Bs, 0, none⟩ (.slice ao m cc)).heap.size) ∧ lenAt (W3.setCell ⟨Bs, 0, none⟩ (.slice ao m cc)) Bs < lenAt wr Bs := by
        rintro ao m cc rfl rfl hao
        have hc : Chg (fun x => x = Bs) W3 (W3.setCell ⟨Bs, 0, none⟩ (.slice ao (N - k) (qc - k))) := (Chg.refl (fun x => x = Bs) W3).put Bs 0 _ rfl
        have hob : ∀ b, (Value.slice ao (N - k) (qc - k)).ownBlock = some b → b = g := by
          intro b hb
          by_cases hck : qc = k
          · rw [hao.1 hck] at hb
            exact (Option.some.inj hb).symm.trans H.out.2.2.2.2
          · rw [hao.2 hck] at hb
            have := Option.some.inj hb
            rw [add_block] at this
            exact this.symm.trans H.out.2.2.2.2
        have hsub : Rd W3 (.slice ao (N - k) (qc - k)) (frs rest ++ t) := by
          obtain ⟨_, _, e, _⟩ := id hrd3
          simp only [Value.slice.injEq] at e
          have h1 := hrd3.piece k N hkN (by rw [e.2.1]; exact Nat.le_refl _) ao ⟨fun h => hao.1 h, fun h => by rw [hao.2 h]; rfl⟩
          rw [List.take_of_length_le (by rw [e.2.1]; exact Nat.le_refl _), H.out.2.2.1] at h1
          exact h1
        refine ⟨⟨pre ++ [(_, r)], rest, _, by rw [heap_setCell_same _ _ 0 _ _ _ hB3]; rfl, by rw [H.out.1]; simp, hsub.keptC hc (fun b hb q => hgB ((hob b hb).symm.trans q)), hob, hIs _ _ _ hI3, hK _ _ hK3 (kb_cell _ (by omega) (by omega) (hIC _ _ hI3)), ?_⟩, ?_⟩
        · have h1 := hc.size; have h2 := hk3.1; have h3 := hb1.size; omega
        · have hl2 : lenAt (W3.setCell ⟨Bs, 0, none⟩ (.slice ao (N - k) (qc - k))) Bs = N - k := by
            unfold lenAt
            rw [World.cell?_setCell_same _ _ _ cB3]
          rw [hl2, HLZ.out]
          omega
      have HF : Hid _ := fin
      clear fin hI3 hk3 hK3 hrd3 hR hy hY1 htk2
      by_cases hck : qc = k
      · subst hck
        gi_wp2
        exact HF.out (some a) 0 0 (by omega) (by omega) ⟨fun _ => rfl, fun h => absurd (by simp) h⟩
      · gi_wp2
        exact HF.out _ _ _ rfl rfl ⟨fun h => absurd h hck, fun _ => rfl⟩
theorem frames_told (n : Nat) (hn : 1 ≤ n) {Bs g C : Nat} {rs : List (List UInt8)} {t : List UInt8} (ht : M.tkf t = none) (hlen : (frs rs ++ t).length ≤ 16777216) {I : List VR → World → Prop} {K : World → Prop}
    (hIs : ∀ s W bv, I s W → I s (W.setCell ⟨Bs, 0, none⟩ bv)) (hIb : ∀ s A B, I s A → Below A.heap.size A B → I s B) (hK : ∀ A B, K A → KB C A B → K B) (hIC : ∀ s W, I s W → C + 2 ≤ W.heap.size) (hBC : Bs < C) (l : Nat) (W : World) (hgB : g ≠ Bs) (hgl : g < W.heap.size)
    {bv : Value} (hBs : W.heap[Bs]? = some (.cells #[bv] 24 (0, 0))) (hrd : Rd W bv (frs rs ++ t)) (hg : ∀ b, bv.ownBlock = some b → b = g)
    (hY : ∀ pre x W1, I pre W1 → FrOk I rs pre x W1 → K W1 → YieldAt Fence.wide (n - 1) Tryz.prog l #[x.1, .int .i64 ((M.frame x.2).length : Int)] W1 fun e W' => e = .returned (.bool true) ∧ I (pre ++ [x]) W' ∧ FrK Bs g W1 W' ∧ K W')
    (h0 : I [] W) (hK0 : K W) :
    CallsIn Fence.wide n Tryz.prog 106 #[.func (.yield l) #[] #[], .pointer (some ⟨Bs, 0, none⟩)] W fun e W' => (∃ v, e = .returned v) ∧ ∃ xs : List VR, xs.map (·.2) = rs ∧ I xs W' ∧ K W' :=
  frames_toldF Fence.wide n trivial trivial rfl hn (fun hr hl => callsIn_wide.2 (takeW_any hr hl)) ht hlen hIs hIb hK hIC hBC l W hgB hgl hBs hrd hg hY h0 hK0
end Go.Proofs.YtcielagfajdbeaaGreatDoor

/- Log.read of a segment whose file holds frames, and something behind them. -/
namespace Go.Proofs.YtcielagfajdbeaaGreatDoor
open Go.RowKit Go.Shelf
set_option linter.unusedVariables false
set_option maxRecDepth 100000
attribute [local go_sem] Oper.semAt_some

/-- The log while a segment is read: so many of its records are there. -/
def RgI (B l d size : Nat) (nm : ByteArray) (sv : Value) (P : List (Sg × Value)) (own : Nat → Option LRole) (n : Nat) (od : Nat → Option Role) (st : Nm → Option (List UInt8 × Nat)) (sz k begin C Y : Nat) (w w3 : World) (pre : List VR) (W : World) : Prop :=
  ∃ rv U' own', LgI B l d size nm false sv (P.set k ((begin, pre.map (·.2)), rv)) U' own' W ∧ Dk B d n od st sz (alive d) 0 W ∧ (∀ b, own' b ≠ none → own b ≠ none ∨ C + 2 ≤ b) ∧ C + 2 ≤ W.heap.size ∧ (∀ b, w.heap.size ≤ b → b < Y → W.heap[b]? = w3.heap[b]?) ∧ Chg (fun b => own b ≠ none) w W
theorem chg_putObj (W : World) (l : Nat) (o' : Obj) : Chg (fun b => b = l) W (W.putObj l o') := Chg.of_grown (grownBy_putObj' W l o') (fun b e _ => (Option.some.inj e).symm)
section
variable {B l d size : Nat} {nm : ByteArray} {sv : Value} {P : List (Sg × Value)} {U : Nat → List Value} {own : Nat → Option LRole} {n : Nat} {od : Nat → Option Role} {st : Nm → Option (List UInt8 × Nat)} {sz k begin C Y : Nat} {w w3 W W' : World} {pre : List VR}
theorem RgI.below (h : RgI B l d size nm sv P own n od st sz k begin C Y w w3 pre W) (hw : w.heap.size ≤ C) (hY : Y ≤ C) (hb : Below W.heap.size W W') : RgI B l d size nm sv P own n od st sz k begin C Y w w3 pre W' := by
  obtain ⟨rv, U', own', h1, h2, h3, h4, h5, h6⟩ := h
  exact ⟨rv, U', own', h1.below hb, h2.next (Chg.of_below hb) (fun b hs q => by have := (h2.blo hs).2; omega), h3, Nat.le_trans h4 hb.size, fun b q1 q2 => by rw [hb.block b (by omega)]; exact h5 b q1 q2, h6.trans ((Chg.of_below hb).mono (fun b q1 q2 => .inr (by omega)))⟩
theorem RgI.next {y : Nat} (h : RgI B l d size nm sv P own n od st sz k begin C Y w w3 pre W) (hc : Chg (fun b => b = y) W W') (hy : w.heap.size ≤ y ∧ y < C + 2) (hyY : Y ≤ y) (hYC : Y ≤ C) (hw : ∀ b, own b ≠ none → b < w.heap.size) (hod : ∀ b, od b ≠ none → b < w.heap.size) : RgI B l d size nm sv P own n od st sz k begin C Y w w3 pre W' := by
  obtain ⟨rv, U', own', h1, h2, h3, h4, h5, h6⟩ := h
  have hn : ∀ b, own' b ≠ none → ¬ b = y := fun b hb q => by
    rcases h3 b hb with a | a
    · have := hw b a; omega
    · omega
  exact ⟨rv, U', own', h1.next hc hn, h2.next hc (fun b hb q => by have := hod b hb; omega), h3, Nat.le_trans h4 hc.size, fun b q1 q2 => by rw [hc.block b (by omega) (by omega)]; exact h5 b q1 q2, h6.trans (hc.mono (fun b hb q => .inr (by omega)))⟩

set_option maxHeartbeats 2000000 in
theorem read_any (hL : LgI B l d size nm false sv P U own w) (hd : Dk B d n od st sz (alive d) 0 w) (hap : ∀ b, own b ≠ none → od b = none) (hns : nm.size ≤ 40) {rv0 : Value} (e : P[k]? = some ((begin, []), rv0)) (hnb : begin < 100) {rs : List (List UInt8)} {t : List UInt8} {sy : Nat} (hst : st (fname nm begin).data.toList = some (frs rs ++ t, sy)) (ht : M.tkf t = none) (hlen : (frs rs ++ t).length ≤ 16777216) (hrl : rs.length ≤ 1048576) {g c : Nat} (hv : sv = .slice (some ⟨g, 0, none⟩) P.length c) :
    Calls Tryz.prog 65 #[.pointer (some ⟨l, 0, none⟩), .pointer (some ⟨g, k * 3, none⟩)] w fun r w' => ∃ v, r = .returned (.tuple #[v, .int .i64 0]) ∧ Rd w' v (frs rs ++ t) ∧ (∃ rv U' own', LgI B l d size nm false sv (P.set k ((begin, rs), rv)) U' own' w' ∧ ∀ b, own' b ≠ none → own b ≠ none ∨ w.heap.size ≤ b) ∧ Dk B d n od st sz (alive d) 0 w' ∧ Chg (fun b => own b ≠ none) w w' := by
  obtain ⟨g', c', ev, h1, h2, s0, _, _⟩ := hL.seg k _ e
  obtain ⟨rfl, rfl⟩ : g' = g ∧ c' = c := by
    rw [hv] at ev
    simp only [Value.slice.injEq, Option.some.injEq, Addr.mk.injEq, and_true, true_and] at ev
    exact ⟨ev.1.symm, ev.2.symm⟩
  have hkl := (List.getElem?_eq_some_iff.1 e).1
  have hls := fname_size nm begin hnb
  obtain ⟨c0, _, _, _, _, _⟩ := hL.cells
  have hlo := (hL.lo l (by rw [hL.ol]; simp)).2
  have hgl := World.block_lt_of_cell? _ _ s0
  have hbA : Below w.heap.size w (w.alloc (.cells #[.pointer (some ⟨g', k * 3, none⟩)] 74)) := bel_alW w _
  have HFI : Hid (∀ W, Below w.heap.size w W → Calls Tryz.prog 44 #[.pointer (some ⟨l, 0, none⟩), .int .u64 (begin : Int)] W fun e w' => e = .returned (.string (fname nm begin)) ∧ Below W.heap.size W w') := fun W hW => file_any (hL.below hW) begin hnb hns
  have HRE : Hid (∀ W, Below w.heap.size w W → Calls Tryz.prog 25 #[.pointer (some ⟨d, 0, none⟩), .string (fname nm begin)] W fun e w' => ∃ v, e = .returned (.tuple #[v, .int .i64 0]) ∧ Ow W.heap.size w' v (frs rs ++ t) ∧ Below W.heap.size W w') := fun W hW => read_alive (hd.next (Chg.of_below hW) (fun b hs q => by have := (hd.blo hs).2; omega)) (fname nm begin) (by unfold maxLen; omega) _ hst (show (frs rs ++ t).length ≤ _ by omega)
  have HK : Hid (∀ W, Below (w.heap.size + 1) (w.alloc (.cells #[.pointer (some ⟨g', k * 3, none⟩)] 74)) W → W.cell? ⟨l, 0, none⟩ = some (.pointer (some ⟨d, 0, none⟩)) ∧ W.cell? ⟨g', k * 3, none⟩ = some (.int .u64 (begin : Int)) ∧ W.cell? ⟨w.heap.size, 0, none⟩ = some (.pointer (some ⟨g', k * 3, none⟩)) ∧ Below w.heap.size w W ∧ W.heap[w.heap.size]? = some (.cells #[.pointer (some ⟨g', k * 3, none⟩)] 74 (0, 0))) := fun W hW => by
    have hB := hbA.trans (hW.mono (Nat.le_succ _))
    have hX : W.heap[w.heap.size]? = some (.cells #[.pointer (some ⟨g', k * 3, none⟩)] 74 (0, 0)) := by rw [hW.block _ (by omega)]; exact heap_alloc_new w _
    exact ⟨by rw [hB.cell hlo]; exact c0, by rw [hB.cell hgl]; exact s0, (cell_one hX).1, hB, hX⟩
  have hdr : Below (w.heap.size + 1) (w.alloc (.cells #[.pointer (some ⟨g', k * 3, none⟩)] 74)) (w.alloc (.cells #[.pointer (some ⟨g', k * 3, none⟩)] 74)).drew := below_drewN (Below.refl _ _) 1
  obtain ⟨k0, k1, k2, _⟩ := HK.out _ (Below.refl _ _)
  have HL : Hid (LgI B l d size nm false sv P U own w ∧ Dk B d n od st sz (alive d) 0 w) := ⟨hL, hd⟩
  have HAP : Hid (∀ b, own b ≠ none → ¬ od b ≠ none) := fun b hb q => q (hap b hb)
  have HE : Hid (P[k]? = some ((begin, []), rv0)) := e
  have HV : Hid _ := hv
  have HLN : Hid ((frs rs ++ t).length ≤ 16777216) := hlen
  have hsA : (w.alloc (.cells #[.pointer (some ⟨g', k * 3, none⟩)] 74)).heap.size = w.heap.size + 1 := by simp
  have HSA : Hid _ := hsA
  clear hap hL hd ev hst e hnb hls hns c0 s0 hv h1 h2 hlen hsA
  refine (callsIn_wide (n := 5)).1 ?_
  refine callsIn_of_wp_marks Tryz.func65 rfl trivial ?_ rfl
  simp only [Tryz.ntmps65, List.size_toArray, List.length_cons, List.length_nil, Nat.reduceAdd, Nat.reduceSub, Array.replicate_succ, Array.replicate_zero, List.push_toArray, List.append_toArray, List.nil_append, List.cons_append]
  refine wpIn_wide.2 ?_
  go_wp2_with fail
  generalize (w.alloc (.cells #[.pointer (some ⟨g', k * 3, none⟩)] 74)) = W0 at *
  have HUP : Hid (∀ {W W'}, Below (w.heap.size + 1) W0 W → Below W.heap.size W W' → Below (w.heap.size + 1) W0 W') := fun {W W'} h1 h2 => h1.trans (h2.mono (by have := h1.size; have := HSA.out; omega))
  obtain ⟨NN, hNN⟩ : ∃ NN, NN = (frs rs ++ t).length := ⟨_, rfl⟩
  have HNN : Hid _ := hNN
  have HSH : Hid (∀ (W : World) v, Ow W.heap.size W v (frs rs ++ t) ∨ True → ∀ W' C, Ow C W' v (frs rs ++ t) → ∃ a c, v = .slice a NN c) := fun W v _ W' C ho => by
    obtain ⟨a, c, e, _⟩ := ho.rd
    exact ⟨a, c, by rw [hNN]; exact e⟩
  clear hNN
  go_region_held3 (fun w' => w'.cell? ⟨l, 0, none⟩ = some (.pointer (some ⟨d, 0, none⟩)) ∧ w'.cell? ⟨g', k * 3, none⟩ = some (.int .u64 (begin : Int)) ∧ w'.cell? ⟨w.heap.size, 0, none⟩ = some (.pointer (some ⟨g', k * 3, none⟩))) (go_keep) (first
    | (go_at_call 25; refine (HRE.out w1 ((HK.out w1 hb1).2.2.2.1)).mono ?_; rintro e w2 ⟨v2, rfl, ho2, hb2'⟩; have hb2 := HUP.out hb1 hb2'; obtain ⟨q0, q1, q2, _⟩ := HK.out w2 hb2; obtain ⟨a2, c2', hv2⟩ := HSH.out w1 v2 (.inr trivial) w2 _ ho2; subst hv2)
    | (go_at_call 44; refine (HFI.out _ ((HK.out _ hdr).2.2.2.1)).mono ?_; rintro e w1 ⟨rfl, hb1'⟩; have hb1 := HUP.out hdr hb1'; obtain ⟨p0, p1, p2, _⟩ := HK.out w1 hb1)
    | fail)
  go_wp2_with fail
  refine frames_any.mono ?_
  rintro e w3 ⟨rfl, hw3⟩
  have hb3' : Below w2.heap.size w2 w3 := by rw [hw3]; exact bel_alW w2 _
  have hb3 := HUP.out hb2 hb3'
  have hBs3 : w3.heap[w2.heap.size]? = some (.cells #[.slice a2 NN c2'] 24 (0, 0)) := by rw [hw3]; exact heap_alloc_new w2 _
  have hz3 : w3.heap.size = w2.heap.size + 1 := by rw [hw3]; simp
  have hrd3 : Rd w3 (.slice a2 NN c2') (frs rs ++ t) := ho2.rd.below hb3' (Nat.le_refl _)
  have hX3 := (HK.out w3 hb3).2.2.2.2
  have hB3 := (HK.out w3 hb3).2.2.2.1
  have hw2 : w.heap.size < w2.heap.size := by have := hb2.size; have := HSA.out; omega
  obtain ⟨gb, hgb1, hgb2, hgb3⟩ : ∃ gb, (∀ b, (Value.slice a2 NN c2').ownBlock = some b → b = gb) ∧ w.heap.size ≤ gb ∧ gb < w2.heap.size := by
    cases a2 with
    | none => exact ⟨w.heap.size, (fun b hb => by cases hb), Nat.le_refl _, hw2⟩
    | some a =>
      refine ⟨a.block, fun b hb => (Option.some.inj hb).symm, ?_, ?_⟩
      · have h1 := (World.ownsRow.lt ho2 a.block rfl).1; have h2 := hb1.size; have := HSA.out; omega
      · exact (World.ownsRow.lt ho2 a.block rfl).2
  clear hw3 hb2' hb1' p0 p1 p2 q0 q1 q2 k0 k1 k2 ho2
  go_wp2_with fail
  have hown : ∀ b, own b ≠ none → b < w.heap.size := fun b hb => (HL.out.1.lo b hb).2
  have hodb : ∀ b, od b ≠ none → b < w.heap.size := fun b hb => (HL.out.2.blo hb).2
  have hset : P.set k ((begin, []), rv0) = P := by
    apply List.ext_getElem?
    intro i
    by_cases hi : i = k
    · subst hi; rw [List.getElem?_set_self hkl]; exact HE.out.symm
    · rw [List.getElem?_set_ne (fun q => hi q.symm)]
  have hBw : B ≤ w.heap.size := by have := HL.out.1.lo l (by rw [HL.out.1.ol]; simp); omega
  have hwC : w.heap.size + 1 < w3.heap.size := by omega
  have hI0 : ∀ o, RgI B l d size nm sv P own n od st sz k begin w3.heap.size w2.heap.size w w3 [] ((w3.alloc (.deferred (some []))).alloc o) := fun o => by
    have hb4 : Below w3.heap.size w3 ((w3.alloc (.deferred (some []))).alloc o) := Below.tr (bel_alW w3 _) (bel_alW _ _)
    have hbw := hB3.trans (hb4.mono hB3.size)
    refine ⟨rv0, U, own, by rw [show ([] : List VR).map (·.2) = [] from rfl, hset]; exact HL.out.1.below hbw, HL.out.2.next (Chg.of_below hbw) (fun b hs q => by have := hodb b hs; omega), fun b hb => .inl hb, by simp, fun b q1 q2 => hb4.block b (by omega), (Chg.of_below hbw).mono (fun b q1 q2 => by omega)⟩
  have HI0 : Hid _ := hI0
  have HSET : Hid _ := hset
  clear hI0 hset
  refine (wpIn_wide (n := 5)).1 ?_
  refine range_told (α := VR) (encs := fun x => #[x.1, .int .i64 ((M.frame x.2).length : Int)]) rfl (by omega) (gf := 106) (lb := #[.pointer (some ⟨w2.heap.size, 0, none⟩)]) rfl trivial (enters_of Tryz.func106 (by kernel_rfl) rfl) (fun x => rfl)
    (RgI B l d size nm sv P own n od st sz k begin w3.heap.size w2.heap.size w w3)
    (FrOk (RgI B l d size nm sv P own n od st sz k begin w3.heap.size w2.heap.size w w3) rs)
    (fun xs => xs.map (·.2) = rs) (FrK w2.heap.size gb)
    (fun {A B C} h1 h2 => ⟨Nat.le_trans h1.1 h2.1, h2.2.1.trans h1.2.1, h2.2.2.trans h1.2.2⟩)
    (fun W o' => ⟨(chg_putObj W _ o').size, World.putObj_heap_other (by omega), World.putObj_heap_other (by omega)⟩)
    (fun s W o' h => h.next (chg_putObj W _ o') ⟨by omega, by omega⟩ (by omega) (by omega) hown hodb)
    (fun o => HI0.out o) ?a1 ?assign ?body ?iter ?done
  case assign =>
    intro lp x W K hK
    gi_wp2
    exact hK
  case iter =>
    intro lp K W hK hbW hI hK0 hY
    have hbs : W.heap[w2.heap.size]? = some (.cells #[.slice a2 NN c2'] 24 (0, 0)) := by rw [hbW.block _ (by omega)]; exact hBs3
    exact frames_told 4 (by omega) (g := gb) (C := w3.heap.size) ht HLN.out (fun s W bv h => h.next ((Chg.refl (fun b => b = w2.heap.size) W).put w2.heap.size 0 _ rfl) ⟨by omega, by omega⟩ (by omega) (by omega) hown hodb) (fun s A B h hb => h.below (by omega) (by omega) hb) hK (fun s W h => by obtain ⟨_, _, _, _, _, _, h4, _⟩ := h; exact h4) (by omega) lp W (by omega) (by have := hbW.size; omega) hbs (hrd3.below hbW (Nat.le_refl _)) hgb1 hY hI hK0
  case done =>
    rintro xs W hxs hI hK
    have hrdW : Rd W (.slice a2 NN c2') (frs rs ++ t) := by
      obtain ⟨_, _, _, _, _, _, _, h5, _⟩ := hI
      exact hrd3.ofBlock hgb1 (h5 gb hgb2 hgb3)
    have hI2 := fun o' => hI.next (chg_putObj W w3.heap.size o') ⟨by omega, by omega⟩ (by omega) (by omega) hown hodb
    have hrd2 := fun o' => hrdW.keptC (chg_putObj W w3.heap.size o') (fun b hb q => by have := hgb1 b hb; omega)
    go_wp2_with fail
    refine ⟨by simp, .inl ⟨_, _, rfl, run_takeDeferred hK, ?_⟩⟩
    obtain ⟨rv, U', own', h1, h2, h3, h4, h5, h6⟩ := hI2 (.deferred none)
    rw [hxs] at h1
    refine ⟨.tuple #[.slice a2 NN c2', .int .i64 0], ?_, ⟨_, rfl, hrd2 _, ⟨rv, U', own', h1, fun b hb => ?_⟩, h2, h6⟩⟩
    · simp [results, Tryz.results65, go_sem]
    · rcases h3 b hb with a | a
      · exact .inl a
      · exact .inr (by omega)
  case body =>
    rintro lp pre x W o' ⟨Wp, hIp, hbp, hox, rest, hrs⟩
    obtain ⟨rv, U', own', h1, h2, h3, h4, h5, h6⟩ := hIp
    have hn1 : ∀ y, w.heap.size ≤ y → y < w3.heap.size + 2 → own' y = none := fun y q1 q2 => by
      by_cases q : own' y = none
      · exact q
      · rcases h3 y q with a | a
        · have := hown y a; omega
        · omega
    have hc2 := chg_putObj W (w3.heap.size + 1) o'
    have hL2 := (h1.below hbp).next hc2 (fun b hb q => hb (by rw [q]; exact hn1 _ (by omega) (by omega)))
    have hD2 := (h2.next (Chg.of_below hbp) (fun b hs q => by have := (h2.blo hs).2; omega)).next hc2 (fun b hb q => by have := hodb b hb; omega)
    have hsW := hbp.size
    have hs2 := hc2.size
    have hold : ∀ b, w.heap.size ≤ b → b < w2.heap.size → (W.putObj (w3.heap.size + 1) o').heap[b]? = w3.heap[b]? := fun b q1 q2 => by
      rw [hc2.block b (by omega) (by omega), hbp.block b (by omega)]; exact h5 b q1 q2
    have cX := (cell_one ((hold w.heap.size (Nat.le_refl _) hw2).trans hX3)).1
    have hox2 : Ow Wp.heap.size (W.putObj (w3.heap.size + 1) o') x.1 x.2 := ownsRow_keptC hox hc2 (fun b hb q => by have := (World.ownsRow.lt hox b hb).1; omega)
    have hlr := congrArg List.length hrs
    have hfl : (frs (pre.map (·.2))).length + (M.frame x.2).length ≤ 16777216 := by
      have h7 := HLN.out
      rw [hrs, frs_app, frs_cons] at h7
      simp only [List.length_append] at h7
      omega
    have hadd := segadd_any (k := k) (begin := begin) (rs := pre.map (·.2)) (r := x.2) (rv := rv) (v := x.1) hL2 (c := c') (g := g') (by rw [List.length_set]; exact HV.out) (by rw [List.getElem?_set_self hkl]) hox2.rd (fun b hb => by
      have := World.ownsRow.lt hox2 b hb
      refine ⟨?_, by omega, this.2⟩
      by_cases q : own' b = none
      · exact q
      · have := (h1.lo b q).2; omega) (by simp only [List.length_append, List.length_map] at hlr ⊢; omega) (by omega)
    have HADD : Hid _ := hadd
    have hch2 : Chg (fun b => own b ≠ none) w (W.putObj (w3.heap.size + 1) o') := (h6.trans ((Chg.of_below hbp).mono (fun b q1 q2 => .inr (by omega)))).trans (hc2.mono (fun b q1 q2 => .inr (by omega)))
    have hlo' : ∀ b, own' b ≠ none → b < Wp.heap.size := fun b q => (h1.lo b q).2
    have fin : ∀ w5 rv', LgI B l d size nm false sv ((P.set k ((begin, pre.map (·.2)), rv)).set k ((begin, pre.map (·.2) ++ [x.2]), rv')) (recAdd U' k x.1) (ownAdd own' k rv' x.1) w5 → (∀ b, rv'.ownBlock = some b → own' b = some (.recs k) ∨ (W.putObj (w3.heap.size + 1) o').heap.size ≤ b) → Chg (fun b => own' b ≠ none) (W.putObj (w3.heap.size + 1) o') w5 →
        KB w3.heap.size (W.putObj (w3.heap.size + 1) o') w5 ∧ FrK w2.heap.size gb (W.putObj (w3.heap.size + 1) o') w5 ∧ RgI B l d size nm sv P own n od st sz k begin w3.heap.size w2.heap.size w w3 (pre ++ [x]) w5 := by
      intro w5 rv' hL5 hrv5 hc5
      have hk5 : ∀ y, w.heap.size ≤ y → y < w3.heap.size + 2 → w5.heap[y]? = (W.putObj (w3.heap.size + 1) o').heap[y]? := fun y q1 q2 => hc5.block y (by omega) (by simp [hn1 y q1 q2])
      refine ⟨⟨hk5 _ (by omega) (by omega), hk5 _ (by omega) (by omega)⟩, ⟨hc5.size, hk5 _ (by omega) (by omega), hk5 _ (by omega) (by omega)⟩, rv', recAdd U' k x.1, ownAdd own' k rv' x.1, ?_, hD2.next hc5 (fun b hb q => ?_), fun b hb => ?_, by have := hc5.size; omega, fun b q1 q2 => by rw [hk5 b q1 (by omega)]; exact hold b q1 q2, ?_⟩
      · rw [List.set_set] at hL5
        rw [List.map_append]
        exact hL5
      · have h7 := hodb b hb
        rcases h3 b q with a | a
        · exact HAP.out b a hb
        · omega
      · unfold ownAdd at hb
        split at hb
        · rename_i q
          rcases hrv5 b q with a | a
          · exact h3 b (by rw [a]; simp)
          · exact .inr (by omega)
        · split at hb
          · rename_i q
            have := (World.ownsRow.lt hox2 b q).1
            exact .inr (by omega)
          · exact h3 b hb
      · exact hch2.trans (hc5.mono (fun b q1 q2 => by
          rcases h3 b q2 with a | a
          · exact .inl a
          · exact .inr (by omega)))
    have HF : Hid _ := fin
    clear fin hadd hch2 hold hox2 hox hL2 hD2 hn1 h1 h2 h3 h4 h5 h6 hc2 hbp hrs hlr hfl hsW hs2
    generalize W.putObj (w3.heap.size + 1) o' = W2 at *
    gi_wp2_with (refine ⟨trivial, ?_⟩; gi_at_call 40; refine (CallsIn.inRound lp (callsIn_wide.2 HADD.out)).mono ?_; rintro e w5 ⟨⟨u, rfl⟩, ⟨rv', hL5, hrv5⟩, hc5⟩)
    have hfin := HF.out w5 rv' hL5 hrv5 hc5
    rw [hz3] at hfin
    exact hfin
end
end Go.Proofs.YtcielagfajdbeaaGreatDoor
