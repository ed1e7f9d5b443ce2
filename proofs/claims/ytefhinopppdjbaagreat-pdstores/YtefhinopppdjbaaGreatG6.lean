/- cmp.Less and the insertion sort at int, over a row of the call's own; the plain functions are the library's (Derived.Sort). -/
import Derived.Test.YtefhinopppdjbaaGreatG4
import Derived.Test.YtefhinopppdjbaaGreatG3
import Derived.Test.YtefhinopppdjbaaGreatG1
import Derived.Sort.LotA
namespace Go.Proofs.YtefhinopppdjbaaGreat
open Go.RowKit Go.Sort
set_option linter.unusedVariables false
set_option maxRecDepth 100000

def ltI (x y : Int) : Bool := decide (x < y)

theorem lessI_any (x y : Int) (w : World) : Calls Tryz.prog 93 #[.int .i64 x, .int .i64 y] w fun e w' => e = .returned (.bool (ltI x y)) ∧ w' = w := by
  have hx : (x != x) = false := by simp
  have hn : ∀ W, Calls Tryz.prog 110 #[.int .i64 x] W fun e w' => e = .returned (.bool false) ∧ w' = W := fun W => by
    go_enter Tryz.func110, Tryz.ntmps110
    go_wp2_with fail
    go_ret
    exact ⟨rfl, rfl⟩
  go_enter Tryz.func93, Tryz.ntmps93
  go_wp2_with fail
  refine (hn w).mono ?_
  rintro e w1 ⟨rfl, rfl⟩
  go_wp2_with fail
  go_ret
  refine ⟨?_, rfl⟩
  simp [ltI]

/-- The row that is sorted: at the head of block g. -/
def RwI (B g c : Nat) (d : Array Int) (w : World) : Prop := Oj B w (.slice (some ⟨g, 0, none⟩) d.size c) d.toList
theorem RwI.cell {B g c : Nat} {d : Array Int} {w : World} (h : RwI B g c d w) (i : Nat) (hi : i < d.size) : w.cell? ⟨g, i, none⟩ = some (.int .i64 (d[i]!)) := by
  unfold RwI Oj at h
  rw [h.cellAt i (by simpa using hi), celJ_get _ _ (by simpa using hi)]
  simp [hi]
theorem RwI.froz {B g c : Nat} {d : Array Int} {w : World} (h : RwI B g c d w) (i : Nat) : w.frozen? ⟨g, i, none⟩ = false := Oj.froz h i
theorem RwI.drewN {B g c : Nat} {d : Array Int} {w : World} (h : RwI B g c d w) (n : Nat) : RwI B g c d (w.drewN n) := Oj.below h (Below.dN w n) (Nat.le_refl _)
theorem RwI.swp {B g c : Nat} {d : Array Int} {w : World} (h : RwI B g c d w) (i j : Nat) : RwI B g c (swp d i j) ((w.setCell ⟨g, i, none⟩ (.int .i64 (d[j]!))).setCell ⟨g, j, none⟩ (.int .i64 (d[i]!))) := by
  have h1 := Oj.put h (g := g) rfl i (d[j]!)
  have h2 := Oj.put h1 (g := g) rfl j (d[i]!)
  unfold RwI
  have e : (Sort.swp d i j).toList = (d.toList.set i d[j]!).set j d[i]! := by simp [Sort.swp]
  rw [e, swp_size]
  exact h2
theorem RwI.sz {B g c : Nat} {d : Array Int} {w : World} (h : RwI B g c d w) : d.size ≤ c ∧ c ≤ 9223372036854775807 ∧ B ≤ g ∧ g < w.heap.size := by
  rcases Oj.blk h with ⟨e, _⟩ | ⟨g', c', e, h1, h2, h3, h4, _⟩
  · cases e
  · simp only [Value.slice.injEq, Option.some.injEq, Addr.mk.injEq, and_true] at e
    obtain ⟨rfl, _, rfl⟩ := e
    unfold maxLen at h2
    exact ⟨by simpa using h1, by omega, h3, h4⟩
theorem chgI_swp {g : Nat} {w w' : World} (h : Chg (fun b => b = g) w w') (n i j : Nat) (x y : Value) : Chg (fun b => b = g) w (((w'.drewN n).setCell ⟨g, i, none⟩ x).setCell ⟨g, j, none⟩ y) :=
  ((h.trans ((Chg.of_below (Below.dN w' n)).mono (fun b h1 h2 => by omega))).put g i x rfl).put g j y rfl

section
variable (lt : Int → Int → Bool)
theorem insI_go (a j : Nat) (d : Array Int) (hj : a < j) (hl : lt d[j]! d[j - 1]! = true) : insInner lt a j d = insInner lt a (j - 1) (swp d j (j - 1)) := by
  obtain ⟨k, rfl⟩ : ∃ k, j = k + 1 := ⟨j - 1, by omega⟩
  rw [insInner, Nat.add_sub_cancel] at *
  rw [if_pos (by simp [hj, hl])]
theorem insI_stop (a j : Nat) (d : Array Int) (h : j ≤ a ∨ lt d[j]! d[j - 1]! = false) : insInner lt a j d = d := by
  cases j with
  | zero => rw [insInner]
  | succ k =>
    rw [insInner]
    rw [Nat.add_sub_cancel] at h
    rcases h with h | h
    · rw [if_neg (by simp; omega)]
    · rw [if_neg (by simp [h])]
end

set_option maxHeartbeats 2000000 in
theorem iins_any {B g c : Nat} {d : Array Int} {w : World} (h : RwI B g c d w) (a b : Nat) (hb : b ≤ d.size) (ha : a ≤ b) (hsz : d.size ≤ 4611686018427387904) :
    Calls Tryz.prog 87 #[.slice (some ⟨g, 0, none⟩) d.size c, .int .i64 a, .int .i64 b] w fun e w' => e = .returned (.tuple #[]) ∧ RwI B g c (insertionSort ltI d a b) w' ∧ Chg (fun x => x = g) w w' := by
  obtain ⟨z1, z2, z3, z4⟩ := h.sz
  unfold insertionSort
  generalize hR : insOuter ltI a b (a + 1) d = R
  have HR : Hid _ := hR
  clear hR
  go_enter Tryz.func87, Tryz.ntmps87
  go_wp2_with fail
  go_loopw [6, 7] (fun vi _ wr => ∃ (i : Nat) (dk : Array Int), vi = .int .i64 i ∧ a < i ∧ i ≤ b + 1 ∧ dk.size = d.size ∧ RwI B g c dk wr ∧ Hid (insOuter ltI a b i dk = R) ∧ Chg (fun x => x = g) w wr) (fun vi _ _ => b + 1 - (intOf vi).toNat)
  case atStart => exact ⟨a + 1, d, by go_num, by omega, by omega, rfl, h, HR, Chg.refl _ _⟩
  case round =>
    obtain ⟨i, dk, rfl, hai, hib, hdz, hk, HO, hch⟩ := hrel
    have HDZ : Hid _ := hdz
    clear hdz h HR
    by_cases hlt : i < b
    · have HO2 : Hid (insOuter ltI a b (i + 1) (insInner ltI a i dk) = R) := by
        have := HO.out
        rw [insOuter, if_pos hlt] at this
        exact this
      clear HO
      go_wp2_with fail
      generalize wr = wA at *
      go_loopw [7] (fun vj wr => ∃ (j : Nat) (dj : Array Int), vj = .int .i64 j ∧ a ≤ j ∧ j ≤ i ∧ Hid (dj.size = d.size) ∧ RwI B g c dj wr ∧ Hid (insInner ltI a j dj = insInner ltI a i dk) ∧ Chg (fun x => x = g) w wr) (fun vj _ => (intOf vj).toNat)
      case atStart => exact ⟨i, dk, rfl, by omega, Nat.le_refl _, HDZ, hk, rfl, hch⟩
      case round =>
        obtain ⟨j, dj, rfl, haj, hji, HJZ, hj, HI, hcj⟩ := hrel
        clear hk hch
        by_cases hja : a < j
        · have cj := hj.cell j (by rw [HJZ.out]; omega)
          have cj1 := hj.cell (j - 1) (by rw [HJZ.out]; omega)
          have fj := hj.froz j
          have fj1 := hj.froz (j - 1)
          have hs1 : IntKind.i64.wrap ((j : Int) - 1) = ((j - 1 : Nat) : Int) := by rw [IntKind.wrap_i64]; omega
          have hs2 : (j : Int) - 1 = ((j - 1 : Nat) : Int) := by omega
          have hd1 : decide ((j : Int) > (a : Int)) = true := by simp; omega
          have hd2 : decide (j > a) = true := by simp; omega
          have hd3 : decide (a < j) = true := by simp; omega
          have hl1 : (j : Int) < (d.size : Int) := by omega
          have hl2 : ((j - 1 : Nat) : Int) < (d.size : Int) := by omega
          have hless : ∀ q, Calls Tryz.prog 93 #[.int .i64 (dj[j]!), .int .i64 (dj[j - 1]!)] (wr.drewN q) fun e w' => e = .returned (.bool (ltI dj[j]! dj[j - 1]!)) ∧ ∃ n, w' = wr.drewN n := fun q => (lessI_any _ _ _).mono (by rintro e w' ⟨rfl, rfl⟩; exact ⟨rfl, q, rfl⟩)
          generalize hX : dj[j]! = X at *
          generalize hY : dj[j - 1]! = Y at *
          have HXY : Hid _ := And.intro hX hY
          clear hX hY
          cases hq : ltI X Y with
          | true =>
            rw [hq] at hless
            have HS : Hid (∀ n, RwI B g c (swp dj j (j - 1)) (((wr.drewN n).setCell ⟨g, j, none⟩ (.int .i64 Y)).setCell ⟨g, j - 1, none⟩ (.int .i64 X))) := fun n => by
              have := (hj.drewN n).swp j (j - 1)
              rw [HXY.out.1, HXY.out.2] at this
              exact this
            have HI2 : Hid (insInner ltI a (j - 1) (swp dj j (j - 1)) = insInner ltI a i dk) := by
              have := HI.out
              rw [insI_go ltI a j dj hja (by rw [HXY.out.1, HXY.out.2]; exact hq)] at this
              exact this
            clear hq HI
            go_wp2_with fail
            go_quiet (first | (go_at_call 93; exact hless _) | fail)
            go_wp2_with fail
            go_region
            go_wp2_with fail
            exact ⟨⟨j - 1, swp dj j (j - 1), by go_num, by omega, by omega, by show _ = _; rw [swp_size]; exact HJZ.out, HS.out _, HI2, chgI_swp hcj _ _ _ _ _⟩, by simp [intOf]; omega⟩
          | false =>
            rw [hq] at hless
            have HI2 : Hid (insInner ltI a i dk = dj) := by
              have := HI.out
              rw [insI_stop ltI a j dj (.inr (by rw [HXY.out.1, HXY.out.2]; exact hq))] at this
              exact this.symm
            clear hq HI
            go_wp2_with fail
            go_quiet (first | (go_at_call 93; exact hless _) | fail)
            go_wp2_with fail
            exact ⟨⟨i + 1, dj, by go_num, by omega, by omega, HJZ.out, hj.drewN _, by show insOuter ltI a b (i + 1) dj = R; rw [← HI2.out]; exact HO2.out, hcj.trans ((Chg.of_below (Below.dN wr _)).mono (fun b h1 h2 => by omega))⟩, by simp [intOf]; omega⟩
        · have HI2 : Hid (insInner ltI a i dk = dj) := by
            have := HI.out
            rw [insI_stop ltI a j dj (.inl (by omega))] at this
            exact this.symm
          have hd1 : decide ((j : Int) > (a : Int)) = false := by simp; omega
          go_wp2_with fail
          go_quiet (fail)
          go_wp2_with fail
          exact ⟨⟨i + 1, dj, by go_num, by omega, by omega, HJZ.out, hj.drewN _, by show insOuter ltI a b (i + 1) dj = R; rw [← HI2.out]; exact HO2.out, hcj.trans ((Chg.of_below (Below.dN wr _)).mono (fun b h1 h2 => by omega))⟩, by simp [intOf]; omega⟩
    · have HO2 : Hid (R = dk) := by
        have := HO.out
        rw [insOuter, if_neg hlt] at this
        exact this.symm
      obtain rfl := HO2.out
      go_wp2_with fail
      go_end0
      exact ⟨rfl, hk, hch⟩
end Go.Proofs.YtefhinopppdjbaaGreat
