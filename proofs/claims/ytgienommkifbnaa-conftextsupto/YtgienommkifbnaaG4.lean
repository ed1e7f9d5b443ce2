/- slices.Index, Contains, Equal, Clone at uint64; rises, Votes, Joint. -/
import Derived.Test.YtgienommkifbnaaG3
import Derived.Sort.LotA
import Derived.Lib.SliceRun
import Derived.Test.YtgienommkifbnaaG2
import Derived.Deep.RegionHeld3
import Derived.Maps.OwnSet
import Derived.Maps.Keyed
import Derived.Maps.OwnOps
import Derived.Maps.RangeWalk
import Derived.Maps.Views
namespace Go.Proofs.Ytgienommkifbnaa
open Go.RowKit
set_option linter.unusedVariables false
set_option maxRecDepth 100000

theorem u_inj {a b : UInt64} (h : (a.toNat : Int) = (b.toNat : Int)) : a = b := UInt64.toNat_inj.1 (by omega)

theorem uindex_any {v : Value} {l : List UInt64} {x : UInt64} {w : World} (hr : Ru w v l) :
    Calls Try.prog 80 #[v, .int .u64 (x.toNat : Int)] w fun e w' => ∃ r : Int, e = .returned (.int .i64 r) ∧ (0 ≤ r ↔ x ∈ l) ∧ w' = w := by
  obtain ⟨ao, c, rfl, h1, h2, h3, h4⟩ := hr
  unfold maxLen at h2
  go_enter Try.func80, Try.ntmps80
  go_wp2_with fail
  go_loopw [5, 8] (fun _ i wr => ∃ k : Nat, k ≤ l.length ∧ i = .int .i64 k ∧ Hid (x ∉ l.take k) ∧ wr = w) (fun _ i _ => l.length - (intOf i).toNat)
  case atStart => exact ⟨0, Nat.zero_le _, rfl, by show _ ∉ _; simp, rfl⟩
  case round =>
    obtain ⟨k, hk, rfl, HX, rfl⟩ := hrel
    by_cases hlt : k < l.length
    · obtain ⟨a, rfl, hc⟩ := h4 k hlt
      have HT : Hid _ := List.take_succ_eq_append_getElem hlt
      have HM : Hid (l[k] ∈ l) := List.getElem_mem hlt
      clear h4 h3
      generalize l[k] = y at *
      by_cases hxy : x = y
      · subst hxy
        have hq : ((x.toNat : Int) == (x.toNat : Int)) = true := by simp
        go_wp2_with fail
        go_ret
        exact ⟨_, rfl, ⟨fun _ => HM.out, fun _ => by omega⟩, rfl⟩
      · have hq : ((x.toNat : Int) == (y.toNat : Int)) = false := by
          simp only [beq_eq_false_iff_ne, ne_eq]
          exact fun e => hxy (u_inj e)
        go_wp2_with fail
        refine ⟨⟨k + 1, by omega, by go_num, ?_, trivial⟩, by simp [intOf]; omega⟩
        show _ ∉ _
        rw [HT.out]
        simp only [List.mem_append, List.mem_singleton, not_or]
        exact ⟨HX.out, hxy⟩
    · obtain rfl : k = l.length := by omega
      have HX2 : Hid (x ∉ l) := by have := HX.out; rw [List.take_length] at this; exact this
      clear h4 HX
      go_wp2_with fail
      go_ret
      exact ⟨_, rfl, ⟨fun h => by omega, fun h => absurd h HX2.out⟩, rfl⟩

theorem ucontains_any {v : Value} {l : List UInt64} {x : UInt64} {w : World} (hr : Ru w v l) :
    Calls Try.prog 51 #[v, .int .u64 (x.toNat : Int)] w fun e w' => e = .returned (.bool (decide (x ∈ l))) ∧ w' = w := by
  go_enter Try.func51, Try.ntmps51
  go_wp2_with fail
  refine (uindex_any hr).mono ?_
  rintro e w1 ⟨r, rfl, hi, rfl⟩
  go_wp2_with fail
  go_ret
  refine ⟨?_, rfl⟩
  by_cases h : x ∈ l
  · simp [h]
  · simp [h]

theorem ujoint_any {x y z : Value} {c : Cn} {w : World} (hr : Rc w x y z c) :
    Calls Try.prog 20 #[.agg #[x, y, z]] w fun e w' => e = .returned (.bool (decide (0 < c.2.1.length))) ∧ Below w.heap.size w w' := by
  obtain ⟨ay, cy, rfl⟩ := hr.2.1.shape
  go_enter Try.func20, Try.ntmps20
  go_wp2_with fail
  go_ret
  refine ⟨?_, u_al _ _⟩
  simp

theorem votes_any {x y z : Value} {c : Cn} {p : UInt64} {w : World} (hr : Rc w x y z c) :
    Calls Try.prog 23 #[.agg #[x, y, z], .int .u64 (p.toNat : Int)] w fun e w' => e = .returned (.bool (decide (p ∈ c.1) || decide (p ∈ c.2.1))) ∧ w' = w.alloc (.cells #[x, y, z] 24) := by
  have h1 := ucontains_any (x := p) (hr.1.alloc (.cells #[x, y, z] 24))
  have h2 := ucontains_any (x := p) (hr.2.1.alloc (.cells #[x, y, z] 24))
  obtain ⟨ax, cx, rfl⟩ := hr.1.shape
  obtain ⟨ay, cy, rfl⟩ := hr.2.1.shape
  obtain ⟨az, cz, rfl⟩ := hr.2.2.shape
  generalize decide (p ∈ c.1) = r1 at *
  generalize decide (p ∈ c.2.1) = r2 at *
  go_enter Try.func23, Try.ntmps23
  go_wp2_with fail
  refine h1.mono ?_
  rintro e w1 ⟨rfl, rfl⟩
  cases r1 with
  | true =>
    go_wp2_with fail
    go_ret
    exact ⟨by simp, rfl⟩
  | false =>
    go_wp2_with fail
    refine h2.mono ?_
    rintro e w1 ⟨rfl, rfl⟩
    go_wp2_with fail
    go_ret
    exact ⟨by simp, rfl⟩

/-- The numbers rise, and all are above n. -/
def risF : Nat → List UInt64 → Bool
  | _, [] => true
  | n, x :: r => decide (n < x.toNat) && risF x.toNat r

theorem urises_any {v : Value} {l : List UInt64} {w : World} (hr : Ru w v l) :
    Calls Try.prog 47 #[v] w fun e w' => e = .returned (.bool (risF 0 l)) ∧ w' = w := by
  obtain ⟨ao, c, rfl, h1, h2, h3, h4⟩ := hr
  unfold maxLen at h2
  generalize hR : risF 0 l = R
  have HR : Hid _ := hR
  clear hR
  go_enter Try.func47, Try.ntmps47
  go_wp2_with fail
  go_loopw [3, 5, 8] (fun last _ i wr => ∃ (k n : Nat), k ≤ l.length ∧ i = .int .i64 k ∧ last = .int .u64 n ∧ Hid (risF n (l.drop k) = R) ∧ wr = w) (fun _ _ i _ => l.length - (intOf i).toNat)
  case atStart => exact ⟨0, 0, Nat.zero_le _, rfl, rfl, by show risF 0 (l.drop 0) = R; rw [List.drop_zero]; exact HR.out, rfl⟩
  case round =>
    obtain ⟨k, n, hk, rfl, rfl, HX, rfl⟩ := hrel
    by_cases hlt : k < l.length
    · obtain ⟨a, rfl, hc⟩ := h4 k hlt
      have HX2 : Hid ((decide (n < (l[k]).toNat) && risF (l[k]).toNat (l.drop (k + 1))) = R) := by
        have := HX.out
        rw [List.drop_eq_getElem_cons hlt, risF] at this
        exact this
      clear h4 h3 HX
      generalize l[k] = y at *
      by_cases hny : n < y.toNat
      · have HX3 : Hid (risF y.toNat (l.drop (k + 1)) = R) := by
          have := HX2.out
          rw [decide_eq_true hny, Bool.true_and] at this
          exact this
        go_wp2_with fail
        exact ⟨⟨k + 1, y.toNat, by omega, by go_num, rfl, HX3, trivial⟩, by simp [intOf]; omega⟩
      · have hR : R = false := by
          have := HX2.out
          rw [decide_eq_false hny, Bool.false_and] at this
          exact this.symm
        subst hR
        go_wp2_with fail
        go_ret
        exact ⟨rfl, rfl⟩
    · obtain rfl : k = l.length := by omega
      have hR : R = true := by
        have := HX.out
        rw [List.drop_length] at this
        exact this.symm
      subst hR
      clear h4 HX
      go_wp2_with fail
      go_ret
      exact ⟨rfl, rfl⟩
end Go.Proofs.Ytgienommkifbnaa

/- cmp.Less and the insertion sort at uint64, over a row of the call's own; the plain functions are the library's (Derived.Sort). -/
namespace Go.Proofs.Ytgienommkifbnaa
open Go.RowKit Go.Sort
set_option linter.unusedVariables false
set_option maxRecDepth 100000

def ltU (x y : UInt64) : Bool := decide (x.toNat < y.toNat)

theorem less_any (x y : UInt64) (w : World) : Calls Try.prog 93 #[.int .u64 (x.toNat : Int), .int .u64 (y.toNat : Int)] w fun e w' => e = .returned (.bool (ltU x y)) ∧ w' = w := by
  have hx : ((x.toNat : Int) != (x.toNat : Int)) = false := by simp
  have hn : ∀ W, Calls Try.prog 104 #[.int .u64 (x.toNat : Int)] W fun e w' => e = .returned (.bool false) ∧ w' = W := fun W => by
    go_enter Try.func104, Try.ntmps104
    go_wp2_with fail
    go_ret
    exact ⟨rfl, rfl⟩
  go_enter Try.func93, Try.ntmps93
  go_wp2_with fail
  refine (hn w).mono ?_
  rintro e w1 ⟨rfl, rfl⟩
  go_wp2_with fail
  go_ret
  refine ⟨?_, rfl⟩
  simp [ltU]

/-- The row that is sorted: at the head of block g. -/
def Rw (B g c : Nat) (d : Array UInt64) (w : World) : Prop := Ou B w (.slice (some ⟨g, 0, none⟩) d.size c) d.toList
theorem Rw.cell {B g c : Nat} {d : Array UInt64} {w : World} (h : Rw B g c d w) (i : Nat) (hi : i < d.size) : w.cell? ⟨g, i, none⟩ = some (.int .u64 ((d[i]!).toNat : Int)) := by
  unfold Rw Ou at h
  rw [h.cellAt i (by simpa using hi), celU_get _ _ (by simpa using hi)]
  simp [hi]
theorem Rw.froz {B g c : Nat} {d : Array UInt64} {w : World} (h : Rw B g c d w) (i : Nat) : w.frozen? ⟨g, i, none⟩ = false := Ou.froz h i
theorem Rw.drewN {B g c : Nat} {d : Array UInt64} {w : World} (h : Rw B g c d w) (n : Nat) : Rw B g c d (w.drewN n) := Ou.below h (Below.dN w n) (Nat.le_refl _)
theorem Rw.swp {B g c : Nat} {d : Array UInt64} {w : World} (h : Rw B g c d w) (i j : Nat) : Rw B g c (swp d i j) ((w.setCell ⟨g, i, none⟩ (.int .u64 ((d[j]!).toNat : Int))).setCell ⟨g, j, none⟩ (.int .u64 ((d[i]!).toNat : Int))) := by
  have h1 := Ou.put h (g := g) rfl i (d[j]!)
  have h2 := Ou.put h1 (g := g) rfl j (d[i]!)
  unfold Rw
  have e : (Sort.swp d i j).toList = (d.toList.set i d[j]!).set j d[i]! := by simp [Sort.swp]
  rw [e, swp_size]
  exact h2
theorem Rw.sz {B g c : Nat} {d : Array UInt64} {w : World} (h : Rw B g c d w) : d.size ≤ c ∧ c ≤ 9223372036854775807 ∧ B ≤ g ∧ g < w.heap.size := by
  rcases Ou.blk h with ⟨e, _⟩ | ⟨g', c', e, h1, h2, h3, h4, _⟩
  · cases e
  · simp only [Value.slice.injEq, Option.some.injEq, Addr.mk.injEq, and_true] at e
    obtain ⟨rfl, _, rfl⟩ := e
    unfold maxLen at h2
    exact ⟨by simpa using h1, by omega, h3, h4⟩
theorem chg_swp {g : Nat} {w w' : World} (h : Chg (fun b => b = g) w w') (n i j : Nat) (x y : Value) : Chg (fun b => b = g) w (((w'.drewN n).setCell ⟨g, i, none⟩ x).setCell ⟨g, j, none⟩ y) :=
  ((h.trans ((Chg.of_below (Below.dN w' n)).mono (fun b h1 h2 => by omega))).put g i x rfl).put g j y rfl

section
variable (lt : UInt64 → UInt64 → Bool)
theorem ins_go (a j : Nat) (d : Array UInt64) (hj : a < j) (hl : lt d[j]! d[j - 1]! = true) : insInner lt a j d = insInner lt a (j - 1) (swp d j (j - 1)) := by
  obtain ⟨k, rfl⟩ : ∃ k, j = k + 1 := ⟨j - 1, by omega⟩
  rw [insInner, Nat.add_sub_cancel] at *
  rw [if_pos (by simp [hj, hl])]
theorem ins_stop (a j : Nat) (d : Array UInt64) (h : j ≤ a ∨ lt d[j]! d[j - 1]! = false) : insInner lt a j d = d := by
  cases j with
  | zero => rw [insInner]
  | succ k =>
    rw [insInner]
    rw [Nat.add_sub_cancel] at h
    rcases h with h | h
    · rw [if_neg (by simp; omega)]
    · rw [if_neg (by simp [h])]
end

set_option maxHeartbeats 2000000 in
theorem uins_any {B g c : Nat} {d : Array UInt64} {w : World} (h : Rw B g c d w) (a b : Nat) (hb : b ≤ d.size) (ha : a ≤ b) (hsz : d.size ≤ 4611686018427387904) :
    Calls Try.prog 87 #[.slice (some ⟨g, 0, none⟩) d.size c, .int .i64 a, .int .i64 b] w fun e w' => e = .returned (.tuple #[]) ∧ Rw B g c (insertionSort ltU d a b) w' ∧ Chg (fun x => x = g) w w' := by
  obtain ⟨z1, z2, z3, z4⟩ := h.sz
  unfold insertionSort
  generalize hR : insOuter ltU a b (a + 1) d = R
  have HR : Hid _ := hR
  clear hR
  go_enter Try.func87, Try.ntmps87
  go_wp2_with fail
  go_loopw [6, 7] (fun vi _ wr => ∃ (i : Nat) (dk : Array UInt64), vi = .int .i64 i ∧ a < i ∧ i ≤ b + 1 ∧ dk.size = d.size ∧ Rw B g c dk wr ∧ Hid (insOuter ltU a b i dk = R) ∧ Chg (fun x => x = g) w wr) (fun vi _ _ => b + 1 - (intOf vi).toNat)
  case atStart => exact ⟨a + 1, d, by go_num, by omega, by omega, rfl, h, HR, Chg.refl _ _⟩
  case round =>
    obtain ⟨i, dk, rfl, hai, hib, hdz, hk, HO, hch⟩ := hrel
    have HDZ : Hid _ := hdz
    clear hdz h HR
    by_cases hlt : i < b
    · have HO2 : Hid (insOuter ltU a b (i + 1) (insInner ltU a i dk) = R) := by
        have := HO.out
        rw [insOuter, if_pos hlt] at this
        exact this
      clear HO
      go_wp2_with fail
      generalize wr = wA at *
      go_loopw [7] (fun vj wr => ∃ (j : Nat) (dj : Array UInt64), vj = .int .i64 j ∧ a ≤ j ∧ j ≤ i ∧ Hid (dj.size = d.size) ∧ Rw B g c dj wr ∧ Hid (insInner ltU a j dj = insInner ltU a i dk) ∧ Chg (fun x => x = g) w wr) (fun vj _ => (intOf vj).toNat)
      case atStart => exact ⟨i, dk, rfl, by omega, Nat.le_refl _, HDZ, hk, rfl, hch⟩
      case round =>
        obtain ⟨j, dj, rfl, haj, hji, HJZ, hj, HI, hcj⟩ := hrel
        clear hk hch
        by_cases hja : a < j
        · have cj := hj.cell j (by rw [HJZ.out]; omega)
          have cj1 := hj.cell (j - 1) (by rw [HJZ.out]; omega)
          have fj := hj.froz j
          have fj1 := hj.froz (j - 1)
          have hs1 : IntKind.i64.wrap ((j : Int) - 1) = ((j - 1 : Nat) : Int) := by rw [IntKind.wrap_i64]; omega
          have hs2 : (j : Int) - 1 = ((j - 1 : Nat) : Int) := by omega
          have hd1 : decide ((j : Int) > (a : Int)) = true := by simp; omega
          have hd2 : decide (j > a) = true := by simp; omega
          have hd3 : decide (a < j) = true := by simp; omega
          have hl1 : (j : Int) < (d.size : Int) := by omega
          have hl2 : ((j - 1 : Nat) : Int) < (d.size : Int) := by omega
          have hless : ∀ q, Calls Try.prog 93 #[.int .u64 ((dj[j]!).toNat : Int), .int .u64 ((dj[j - 1]!).toNat : Int)] (wr.drewN q) fun e w' => e = .returned (.bool (ltU dj[j]! dj[j - 1]!)) ∧ ∃ n, w' = wr.drewN n := fun q => (less_any _ _ _).mono (by rintro e w' ⟨rfl, rfl⟩; exact ⟨rfl, q, rfl⟩)
          generalize hX : dj[j]! = X at *
          generalize hY : dj[j - 1]! = Y at *
          have HXY : Hid _ := And.intro hX hY
          clear hX hY
          cases hq : ltU X Y with
          | true =>
            rw [hq] at hless
            have HS : Hid (∀ n, Rw B g c (swp dj j (j - 1)) (((wr.drewN n).setCell ⟨g, j, none⟩ (.int .u64 (Y.toNat : Int))).setCell ⟨g, j - 1, none⟩ (.int .u64 (X.toNat : Int)))) := fun n => by
              have := (hj.drewN n).swp j (j - 1)
              rw [HXY.out.1, HXY.out.2] at this
              exact this
            have HI2 : Hid (insInner ltU a (j - 1) (swp dj j (j - 1)) = insInner ltU a i dk) := by
              have := HI.out
              rw [ins_go ltU a j dj hja (by rw [HXY.out.1, HXY.out.2]; exact hq)] at this
              exact this
            clear hq HI
            go_wp2_with fail
            go_quiet (first | (go_at_call 93; exact hless _) | fail)
            go_wp2_with fail
            go_region
            go_wp2_with fail
            exact ⟨⟨j - 1, swp dj j (j - 1), by go_num, by omega, by omega, by show _ = _; rw [swp_size]; exact HJZ.out, HS.out _, HI2, chg_swp hcj _ _ _ _ _⟩, by simp [intOf]; omega⟩
          | false =>
            rw [hq] at hless
            have HI2 : Hid (insInner ltU a i dk = dj) := by
              have := HI.out
              rw [ins_stop ltU a j dj (.inr (by rw [HXY.out.1, HXY.out.2]; exact hq))] at this
              exact this.symm
            clear hq HI
            go_wp2_with fail
            go_quiet (first | (go_at_call 93; exact hless _) | fail)
            go_wp2_with fail
            exact ⟨⟨i + 1, dj, by go_num, by omega, by omega, HJZ.out, hj.drewN _, by show insOuter ltU a b (i + 1) dj = R; rw [← HI2.out]; exact HO2.out, hcj.trans ((Chg.of_below (Below.dN wr _)).mono (fun b h1 h2 => by omega))⟩, by simp [intOf]; omega⟩
        · have HI2 : Hid (insInner ltU a i dk = dj) := by
            have := HI.out
            rw [ins_stop ltU a j dj (.inl (by omega))] at this
            exact this.symm
          have hd1 : decide ((j : Int) > (a : Int)) = false := by simp; omega
          go_wp2_with fail
          go_quiet (fail)
          go_wp2_with fail
          exact ⟨⟨i + 1, dj, by go_num, by omega, by omega, HJZ.out, hj.drewN _, by show insOuter ltU a b (i + 1) dj = R; rw [← HI2.out]; exact HO2.out, hcj.trans ((Chg.of_below (Below.dN wr _)).mono (fun b h1 h2 => by omega))⟩, by simp [intOf]; omega⟩
    · have HO2 : Hid (R = dk) := by
        have := HO.out
        rw [insOuter, if_neg hlt] at this
        exact this.symm
      obtain rfl := HO2.out
      go_wp2_with fail
      go_end0
      exact ⟨rfl, hk, hch⟩
end Go.Proofs.Ytgienommkifbnaa

/- slices.Compact at uint64, over a row of the call's own. -/
namespace Go.Proofs.Ytgienommkifbnaa
open Go.RowKit Go.Sort
set_option linter.unusedVariables false
set_option maxRecDepth 100000

/-- Of the first k numbers, those that are unlike the one ahead of them. -/
def cmK (l : List UInt64) : Nat → List UInt64
  | 0 => []
  | k + 1 => cmK l k ++ (if k = 0 ∨ l.getD k 0 ≠ l.getD (k - 1) 0 then [l.getD k 0] else [])
theorem cmK_len (l : List UInt64) (k : Nat) : (cmK l k).length ≤ k := by
  induction k with
  | zero => simp [cmK]
  | succ k ih => rw [cmK, List.length_append]; split <;> simp <;> omega

/-- No two neighbours alike: nothing is left out. -/
theorem cmK_all (l : List UInt64) (k : Nat) (hk : k ≤ l.length) (h : ∀ i, 0 < i → i < k → l.getD i 0 ≠ l.getD (i - 1) 0) : cmK l k = l.take k := by
  induction k with
  | zero => simp [cmK]
  | succ k ih =>
    rw [cmK, ih (by omega) (fun i h1 h2 => h i h1 (by omega)), List.take_succ_eq_append_getElem (by omega)]
    rw [if_pos (by by_cases h0 : k = 0; exact .inl h0; exact .inr (h k (by omega) (by omega)))]
    simp [show k < l.length by omega]

theorem Rw.put {B g c : Nat} {d : Array UInt64} {w : World} (h : Rw B g c d w) (i : Nat) (x : UInt64) : Rw B g c (d.setIfInBounds i x) (w.setCell ⟨g, i, none⟩ (.int .u64 (x.toNat : Int))) := by
  have h1 := Ou.put h (g := g) rfl i x
  unfold Rw
  rw [Array.size_setIfInBounds, Array.toList_setIfInBounds]
  exact h1
theorem ou_setCells {B g n c : Nat} {l : List UInt64} (k : Nat) (hk : l.length ≤ k) (vs : List Value) : ∀ (w : World), Ou B w (.slice (some ⟨g, 0, none⟩) n c) l → ∀ o, k ≤ o → Ou B (w.setCells g o vs) (.slice (some ⟨g, 0, none⟩) n c) l := by
  induction vs with
  | nil => exact fun w h o _ => h
  | cons v r ih =>
    intro w h o ho
    refine ih (w.setCell ⟨g, o, none⟩ v) ?_ (o + 1) (by omega)
    obtain ⟨h1, h2⟩ := h
    refine ⟨h1, ?_⟩
    rcases h2 with ⟨q, q0⟩ | ⟨g', cap, cur, q, hB, hg, q1, q2, q3, q4⟩
    · cases q
    · have e : g' = g := by
        simp only [Value.slice.injEq, Option.some.injEq, Addr.mk.injEq, and_true] at q
        exact q.1.symm
      subst e
      refine .inr ⟨g', cap, cur.setIfInBounds o v, q, hB, by rw [heap_setCell_same _ _ o _ _ _ hg], q1, q2, by rw [Array.size_setIfInBounds]; exact q3, ?_⟩
      rw [← q4, Array.toList_setIfInBounds, List.take_set_of_le (by omega)]
theorem chg_cells (g : Nat) (vs : List Value) : ∀ (o : Nat) (w : World), Chg (fun b => b = g) w (w.setCells g o vs) := by
  induction vs with
  | nil => exact fun o w => Chg.refl _ _
  | cons v r ih => exact fun o w => ((Chg.refl (fun b => b = g) w).put g o v rfl).trans ((ih (o + 1) _).mono (fun b _ q => .inl q))
theorem Chg.dn {S : Nat → Prop} {w w' : World} (h : Chg S w w') (q : Nat) : Chg S w (w'.drewN q) := h.trans ((Chg.of_below (Below.dN w' q)).mono (fun b hb hb2 => by omega))
theorem Try.zeroU (w : World) : (zeroValue 35).run Try.prog w = .ok (.int .u64 0) w := by kernel_rfl
theorem Rw.pre {B g c : Nat} {d : Array UInt64} {w : World} (h : Rw B g c d w) (k : Nat) (hk : k ≤ d.size) : Ou B w (.slice (some ⟨g, 0, none⟩) k c) (d.toList.take k) := by
  have hl : (d.toList.take k).length = k := by simp; omega
  obtain ⟨h1, h2⟩ := h
  refine ⟨by rw [celU_length, hl]; simp, ?_⟩
  rcases h2 with ⟨q, q0⟩ | ⟨g', cap, cur, q, hB, hg, q1, q2, q3, q4⟩
  · cases q
  · simp only [Value.slice.injEq, Option.some.injEq, Addr.mk.injEq, and_true] at q
    obtain ⟨rfl, _, rfl⟩ := q
    rw [hl]
    refine .inr ⟨g, c, cur, rfl, hB, hg, by simp only [Array.length_toList] at q1; omega, q2, q3, ?_⟩
    have e : celU (d.toList.take k) = (celU d.toList).take k := by unfold celU; rw [List.map_take]
    rw [e, ← q4, List.take_take]
    congr 1
    simp
    omega

/-- How far the numbers are compacted: those up to m; they stand in the first kk places. -/
structure Cm (d : Array UInt64) (m kk : Nat) (dk : Array UInt64) : Prop where
  sz : dk.size = d.size
  lt : kk < m
  out : cmK d.toList m = dk.toList.take kk
  high : ∀ i, m ≤ i + 1 → i < d.size → dk[i]! = d[i]!
theorem getD_arr (d : Array UInt64) (i : Nat) (h : i < d.size) : d.toList.getD i 0 = d[i]! := by
  simp [h]
theorem Cm.start {d : Array UInt64} {k : Nat} (h0 : 0 < k) (hk : k < d.size) (hn : ∀ i, 0 < i → i < k → d[i]! ≠ d[i - 1]!) (he : d[k]! = d[k - 1]!) : Cm d (k + 1) k d := by
  refine ⟨rfl, Nat.lt_succ_self _, ?_, fun i _ _ => rfl⟩
  rw [cmK, cmK_all _ _ (by simp; omega) (fun i h1 h2 => by rw [getD_arr _ _ (by omega), getD_arr _ _ (by omega)]; exact hn i h1 h2)]
  rw [getD_arr _ _ hk, getD_arr _ _ (by omega), if_neg (by rw [he]; simp; omega), List.append_nil]
theorem Cm.skip {d dk : Array UInt64} {m kk : Nat} (h : Cm d m kk dk) (hm : m < d.size) (he : d[m]! = d[m - 1]!) : Cm d (m + 1) kk dk := by
  have hlt := h.lt
  refine ⟨h.sz, by omega, ?_, fun i h1 h2 => h.high i (by omega) h2⟩
  rw [cmK, getD_arr _ _ hm, getD_arr _ _ (by omega), if_neg (by rw [he]; simp; omega), List.append_nil]
  exact h.out
theorem Cm.keep {d dk : Array UInt64} {m kk : Nat} (h : Cm d m kk dk) (hm : m < d.size) (he : d[m]! ≠ d[m - 1]!) : Cm d (m + 1) (kk + 1) (dk.setIfInBounds kk d[m]!) := by
  have hlt := h.lt
  have hz := h.sz
  refine ⟨by rw [Array.size_setIfInBounds]; exact hz, by omega, ?_, fun i h1 h2 => ?_⟩
  · rw [cmK, getD_arr _ _ hm, getD_arr _ _ (by omega), if_pos (.inr he), h.out, Array.toList_setIfInBounds]
    rw [List.take_succ_eq_append_getElem (by simp; omega), List.take_set_of_le (Nat.le_refl _)]
    simp
  · rw [getElem!_pos _ i (by rw [Array.size_setIfInBounds]; omega), Array.getElem_setIfInBounds (by omega), if_neg (by omega)]
    have := h.high i (by omega) h2
    rw [getElem!_pos _ i (by omega)] at this
    exact this

set_option maxHeartbeats 2000000 in
theorem ucompact_any {B g c : Nat} {d : Array UInt64} {w : World} (h : Rw B g c d w) (hsz : d.size ≤ 4611686018427387904) :
    Calls Try.prog 46 #[.slice (some ⟨g, 0, none⟩) d.size c] w fun e w' => ∃ v', e = .returned v' ∧ Ou B w' v' (cmK d.toList d.size) ∧ Chg (fun x => x = g) w w' ∧ (v'.ownBlock = some g) := by
  obtain ⟨z1, z2, z3, z4⟩ := h.sz
  by_cases hs : d.size < 2
  · have e : cmK d.toList d.size = d.toList := by
      rw [cmK_all _ _ (by simp) (fun i h1 h2 => by omega), List.take_of_length_le (by simp)]
    rw [e]
    go_enter Try.func46, Try.ntmps46
    go_wp2_with fail
    go_ret
    exact ⟨_, rfl, h, Chg.refl _ _, rfl⟩
  · generalize hR : cmK d.toList d.size = R
    have HR : Hid _ := hR
    clear hR
    go_enter Try.func46, Try.ntmps46
    go_wp2_with fail
    go_loopw [3, 4, 5] (fun vi _ _ wr => ∃ k : Nat, vi = .int .i64 k ∧ 1 ≤ k ∧ k ≤ d.size ∧ Hid (∀ i, 0 < i → i < k → d[i]! ≠ d[i - 1]!) ∧ Rw B g c d wr ∧ Chg (fun x => x = g) w wr) (fun vi _ _ _ => d.size - (intOf vi).toNat)
    case atStart => exact ⟨1, rfl, Nat.le_refl _, by omega, fun i h1 h2 => by omega, h, Chg.refl _ _⟩
    case round =>
      obtain ⟨k, rfl, h1, hk, HN, hW, hch⟩ := hrel
      clear h
      by_cases hlt : k < d.size
      · have c1 := hW.cell k hlt
        have c0 := hW.cell (k - 1) (by omega)
        have hs1 : IntKind.i64.wrap ((k : Int) - 1) = ((k - 1 : Nat) : Int) := by rw [IntKind.wrap_i64]; omega
        have hs2 : (k : Int) - 1 = ((k - 1 : Nat) : Int) := by omega
        have hl1 : (k : Int) < (d.size : Int) := by omega
        have hl2 : ((k - 1 : Nat) : Int) < (d.size : Int) := by omega
        generalize hX : d[k]! = X at *
        generalize hY : d[k - 1]! = Y at *
        have HXY : Hid _ := And.intro hX hY
        clear hX hY
        by_cases hdup : X = Y
        · subst hdup
          have hq : ((X.toNat : Int) == (X.toNat : Int)) = true := by simp
          have HS : Hid (Cm d (k + 1) k d) := Cm.start (by omega) hlt HN.out (by rw [HXY.out.1, HXY.out.2])
          go_wp2_with fail
          go_quiet (fail)
          go_wp2_with fail
          have hWq := hW.drewN nq
          have hcq := hch.dn nq
          clear hW hch c0 c1 hs1 hs2 hl2 hq
          generalize wr.drewN nq = wq at *
          clear wr
          go_loopw [3, 5] (fun vi vj wr => ∃ (kk j : Nat) (dk : Array UInt64), vi = .int .i64 kk ∧ vj = .int .i64 j ∧ 1 ≤ j ∧ j ≤ d.size - k ∧ kk < k + j ∧ Hid (Cm d (k + j) kk dk) ∧ Rw B g c dk wr ∧ Chg (fun x => x = g) w wr) (fun _ vj _ => d.size - k - (intOf vj).toNat)
          case atStart => exact ⟨k, 1, d, rfl, rfl, Nat.le_refl _, by omega, by omega, HS, hWq, hcq⟩
          case round =>
            obtain ⟨kk, j, dk, rfl, rfl, hj1, hjn, hkk, HC, hK, hcK⟩ := hrel
            clear hWq hcq
            have HZ : Hid _ := HC.out.sz
            by_cases hlt2 : j < d.size - k
            · have cm := hK.cell (k + j) (by rw [HZ.out]; omega)
              have cp := hK.cell (k + (j - 1)) (by rw [HZ.out]; omega)
              have ck := hK.cell kk (by rw [HZ.out]; omega)
              have fk := hK.froz kk
              have g1 := HC.out.high (k + j) (by omega) (by omega)
              have g2 := HC.out.high (k + (j - 1)) (by omega) (by omega)
              rw [g1] at cm
              rw [g2] at cp
              have t1 : IntKind.i64.wrap ((j : Int) - 1) = ((j - 1 : Nat) : Int) := by rw [IntKind.wrap_i64]; omega
              have t2 : (j : Int) - 1 = ((j - 1 : Nat) : Int) := by omega
              have t3 : (j : Int) < ((d.size - k : Nat) : Int) := by omega
              have t4 : ((j - 1 : Nat) : Int) < ((d.size - k : Nat) : Int) := by omega
              have t5 : (kk : Int) < (d.size : Int) := by omega
              have hkj : k + (j - 1) = k + j - 1 := by omega
              generalize hX : d[k + j]! = X2 at *
              generalize hY : d[k + (j - 1)]! = Y2 at *
              have HXY2 : Hid (d[k + j]! = X2 ∧ d[k + j - 1]! = Y2) := ⟨hX, by rw [← hkj]; exact hY⟩
              clear hX hY g1 g2 hkj
              generalize dk[kk]! = O2 at *
              by_cases hne : X2 = Y2
              · subst hne
                have hq : ((X2.toNat : Int) != (X2.toNat : Int)) = false := by simp
                have HC2 : Hid (Cm d (k + (j + 1)) kk dk) := HC.out.skip (by omega) (by rw [HXY2.out.1, HXY2.out.2])
                clear HC
                go_wp2_with fail
                go_quiet (fail)
                go_wp2_with fail
                exact ⟨⟨kk, j + 1, dk, rfl, by go_num, by omega, by omega, by omega, HC2, hK.drewN _, hcK.dn _⟩, by simp [intOf]; omega⟩
              · have hq : ((X2.toNat : Int) != (Y2.toNat : Int)) = true := by
                  simp only [bne_iff_ne, ne_eq]
                  exact fun e => hne (UInt64.toNat_inj.1 (by omega))
                have HC2 : Hid (Cm d (k + (j + 1)) (kk + 1) (dk.setIfInBounds kk X2)) := by
                  have := HC.out.keep (by omega) (by rw [HXY2.out.1, HXY2.out.2]; exact hne)
                  rw [HXY2.out.1] at this
                  exact this
                have HP : Hid (∀ n, Rw B g c (dk.setIfInBounds kk X2) ((wr.drewN n).setCell ⟨g, kk, none⟩ (.int .u64 (X2.toNat : Int)))) := fun n => (hK.drewN n).put kk X2
                have HQ : Hid (∀ n, Chg (fun x => x = g) w ((wr.drewN n).setCell ⟨g, kk, none⟩ (.int .u64 (X2.toNat : Int)))) := fun n => (hcK.dn n).put g kk _ rfl
                clear HC
                go_wp2_with fail
                go_quiet (fail)
                go_wp2_with fail
                exact ⟨⟨kk + 1, j + 1, dk.setIfInBounds kk X2, by go_num, by go_num, by omega, by omega, by omega, HC2, HP.out _, HQ.out _⟩, by simp [intOf]; omega⟩
            · have hend : k + j = d.size := by omega
              have hkl : kk < d.size := by omega
              have hzk := HZ.out
              have hcl : ∀ ty, (Builtin.clear_ #[22] ty #[.slice (some ⟨g, kk, none⟩) (d.size - kk) (c - kk)]).run Try.prog wr = .ok (.tuple #[]) (wr.setCells g kk (List.replicate (d.size - kk) (.int .u64 0))) :=
                fun ty => Lib.run_clear_slice wr _ _ ty _ Try.underlying22 Try.zeroU rfl rfl g kk _ _ (by omega) (fun q hq => by rw [hK.cell (kk + q) (by omega)]; rfl) (fun q hq => hK.froz _)
              have HE : Hid (R = dk.toList.take kk) := by
                show R = _
                rw [← HR.out, ← hend]; exact HC.out.out
              have HO : Hid (Ou B (wr.setCells g kk (List.replicate (d.size - kk) (.int .u64 0))) (.slice (some ⟨g, 0, none⟩) kk c) R) := by
                show Ou _ _ _ _
                rw [HE.out]
                exact ou_setCells kk (by simp; omega) _ _ (hK.pre kk (by omega)) kk (Nat.le_refl _)
              have HG : Hid _ := hcK.trans ((chg_cells g (List.replicate (d.size - kk) (.int .u64 0)) kk wr).mono (fun b _ q => .inl q))
              have t1 : (kk : Int) ≤ (d.size : Int) := by omega
              clear HC hK hcK hzk HE
              go_wp2_with fail
              go_ret
              exact ⟨_, rfl, HO.out, HG.out, rfl⟩
        · have hq : ((X.toNat : Int) == (Y.toNat : Int)) = false := by
            simp only [beq_eq_false_iff_ne, ne_eq]
            exact fun e => hdup (UInt64.toNat_inj.1 (by omega))
          have HN2 : Hid (∀ i, 0 < i → i < k + 1 → d[i]! ≠ d[i - 1]!) := fun i h1 h2 => by
            by_cases hi : i = k
            · subst hi; rw [HXY.out.1, HXY.out.2]; exact hdup
            · exact HN.out i h1 (by omega)
          go_wp2_with fail
          go_quiet (fail)
          go_wp2_with fail
          exact ⟨⟨k + 1, by go_num, by omega, by omega, HN2, hW.drewN _, hch.dn _⟩, by simp [intOf]; omega⟩
      · obtain rfl : k = d.size := by omega
        have HE : Hid (R = d.toList) := by
          show R = _
          rw [← HR.out, cmK_all _ _ (by simp) (fun i h1 h2 => by rw [getD_arr _ _ h2, getD_arr _ _ (by omega)]; exact HN.out i h1 h2), List.take_of_length_le (by simp)]
        obtain rfl := HE.out
        go_wp2_with fail
        go_ret
        exact ⟨_, rfl, hW, hch, rfl⟩
end Go.Proofs.Ytgienommkifbnaa

/- What numbers makes of any list, the program's and the document's. -/
namespace Go.Proofs.Ytgienommkifbnaa
open Go.RowKit
set_option linter.unusedVariables false
set_option maxRecDepth 100000

theorem Try.infoB : (Try.prog.info? 26).map (fun i => (i.zero, i.size, i.bytes)) = some (some (.slice none 0 0), 1, 24) := by kernel_rfl

set_option maxHeartbeats 1000000 in
theorem numbers_any {v : Value} {l : List UInt64} {w : World} (hr : Ru w v l) (hl : l.length ≤ 4294967296) :
    Calls Try.prog 41 #[v] w fun e w' => ∃ v', e = .returned v' ∧ Ow w.heap.size w' v' (M.nums l) ∧ Below w.heap.size w w' := by
  have hnl := M.nums_len l
  obtain ⟨ao, c, rfl, h1, h2, h3, h4⟩ := hr
  unfold maxLen at h2
  have h24 := Try.infoB
  go_enter Try.func41, Try.ntmps41
  go_wp2_with fail
  go_loopw [3, 5, 8] (fun fields _ i wr => ∃ (k : Nat) (us : List Value), k ≤ l.length ∧ i = .int .i64 k ∧ Ows w.heap.size wr fields (M.vis (l.take k)) us ∧ Below w.heap.size w wr) (fun _ _ i _ => l.length - (intOf i).toNat)
  case atStart => exact ⟨0, [], Nat.zero_le _, rfl, by simpa [M.vis] using Ows.nil _ _, Below.refl _ _⟩
  case round =>
    obtain ⟨k, us, hk, rfl, hos, hb⟩ := hrel
    have hB := hb.size
    by_cases hlt : k < l.length
    · obtain ⟨a, rfl, hc⟩ := h4 k hlt
      have hcx : wr.cell? (a.add k) = some (.int .u64 (l[k].toNat : Int)) := by rw [hb.cell (World.block_lt_of_cell? w _ hc)]; exact hc
      have HV : Hid _ := M.vis_take l k hlt
      have hnk := l[k].toNat_lt
      have hul : us.length = k := by have := hos.len; simp [M.vis] at this; omega
      have HU : Hid _ := hul
      have hul2 : us.length ≤ 4294967296 := by omega
      generalize l[k] = x at *
      clear h4 hc hul h3
      go_wp2_with fail
      refine (varint_any x.toNat _ hnk).mono ?_
      rintro e w3 ⟨u3, rfl, ho3, hb3⟩
      have hos3 := hos.below hb3 (Nat.le_refl _)
      have hB3 : w.heap.size ≤ w3.heap.size := Nat.le_trans hB hb3.size
      obtain ⟨a3, c3, e3⟩ := ho3.shape
      subst e3
      go_wp2_with (first | (at_builtin; (refine wpList_app1 rfl _ _ 62 rfl w.heap.size 26 (.slice none 0 0) 24 Try.underlying62 h24 rfl _ us.length us rfl (World.ownsRow.alloc hos3.row _) _ _ _ rfl (cell_new1 _ _ _) rfl ?hmx ?hmy ?hmz ?_; rotate_right; intro v4 w4 ho4 hg4 hw4)) | fail)
      case hmx => unfold maxLen; omega
      case hmy => omega
      case hmz => rw [World.size_alloc]; omega
      have hos4 := hos.snoc hb3 (Nat.le_refl _) ho3 hB ho4 hg4 hw4
      have hb4 : Below w.heap.size w w4 := (hb.trans (hb3.mono hB)).trans (((Below.refl w.heap.size w3).alloc hB3 _).trans ((Below.refl w.heap.size _).grown hg4 (by rw [World.size_alloc]; omega) (fun k hk => (World.ownsRow.lt hos3.row k hk).1)))
      refine ⟨⟨k + 1, us ++ [.slice a3 (M.vi x.toNat).length c3], by omega, by go_num, ?_, hb4⟩, by simp [intOf]; omega⟩
      rw [HV.out]; exact hos4
    · obtain rfl : k = l.length := by omega
      rw [List.take_of_length_le (Nat.le_refl _)] at hos
      have hvl : (M.vis l).length = l.length := by simp [M.vis]
      clear h4 h3
      go_wp2_with fail
      refine (row_any hos.rds (by show (M.nums l).length ≤ _; omega) (by omega)).mono ?_
      rintro e w3 ⟨u3, rfl, ho3, hb3⟩
      go_wp2_with fail
      go_ret
      exact ⟨_, rfl, ho3.mono hB, hb.trans (hb3.mono hB)⟩

set_option maxHeartbeats 1000000 in
theorem rnumbers_any {v : Value} {l : List UInt64} {w : World} (hr : Ru w v l) (hl : l.length ≤ 4294967296) :
    Calls Try.prog 69 #[v] w fun e w' => ∃ v', e = .returned v' ∧ Ow w.heap.size w' v' (M.nums l) ∧ Below w.heap.size w w' := by
  have hnl := M.nums_len l
  obtain ⟨ao, c, rfl, h1, h2, h3, h4⟩ := hr
  unfold maxLen at h2
  have h24 := Try.infoB
  go_enter Try.func69, Try.ntmps69
  go_wp2_with fail
  go_loopw [3, 4] (fun fields i wr => ∃ (k : Nat) (us : List Value), k ≤ l.length ∧ i = .int .i64 k ∧ Ows w.heap.size wr fields (M.vis (l.take k)) us ∧ Below w.heap.size w wr) (fun _ i _ => l.length - (intOf i).toNat)
  case atStart => exact ⟨0, [], Nat.zero_le _, rfl, by simpa [M.vis] using Ows.nil _ _, Below.refl _ _⟩
  case round =>
    obtain ⟨k, us, hk, rfl, hos, hb⟩ := hrel
    have hB := hb.size
    by_cases hlt : k < l.length
    · obtain ⟨a, rfl, hc⟩ := h4 k hlt
      have hcx : wr.cell? (a.add k) = some (.int .u64 (l[k].toNat : Int)) := by rw [hb.cell (World.block_lt_of_cell? w _ hc)]; exact hc
      have HV : Hid _ := M.vis_take l k hlt
      have hnk := l[k].toNat_lt
      have hul : us.length = k := by have := hos.len; simp [M.vis] at this; omega
      have HU : Hid _ := hul
      have hul2 : us.length ≤ 4294967296 := by omega
      generalize l[k] = x at *
      clear h4 hc hul h3
      go_wp2_with fail
      refine (rvarint_any x.toNat _ hnk).mono ?_
      rintro e w3 ⟨u3, rfl, ho3, hb3⟩
      have hos3 := hos.below hb3 (Nat.le_refl _)
      have hB3 : w.heap.size ≤ w3.heap.size := Nat.le_trans hB hb3.size
      obtain ⟨a3, c3, e3⟩ := ho3.shape
      subst e3
      go_wp2_with (first | (at_builtin; (refine wpList_app1 rfl _ _ 62 rfl w.heap.size 26 (.slice none 0 0) 24 Try.underlying62 h24 rfl _ us.length us rfl (World.ownsRow.alloc hos3.row _) _ _ _ rfl (cell_new1 _ _ _) rfl ?hmx ?hmy ?hmz ?_; rotate_right; intro v4 w4 ho4 hg4 hw4)) | fail)
      case hmx => unfold maxLen; omega
      case hmy => omega
      case hmz => rw [World.size_alloc]; omega
      have hos4 := hos.snoc hb3 (Nat.le_refl _) ho3 hB ho4 hg4 hw4
      have hb4 : Below w.heap.size w w4 := (hb.trans (hb3.mono hB)).trans (((Below.refl w.heap.size w3).alloc hB3 _).trans ((Below.refl w.heap.size _).grown hg4 (by rw [World.size_alloc]; omega) (fun k hk => (World.ownsRow.lt hos3.row k hk).1)))
      refine ⟨⟨k + 1, us ++ [.slice a3 (M.vi x.toNat).length c3], by omega, by go_num, ?_, hb4⟩, by simp [intOf]; omega⟩
      rw [HV.out]; exact hos4
    · obtain rfl : k = l.length := by omega
      rw [List.take_of_length_le (Nat.le_refl _)] at hos
      have hvl : (M.vis l).length = l.length := by simp [M.vis]
      clear h4 h3
      go_wp2_with fail
      refine (rrow_any hos.rds (by show (M.nums l).length ≤ _; omega) (by omega)).mono ?_
      rintro e w3 ⟨u3, rfl, ho3, hb3⟩
      go_wp2_with fail
      go_ret
      exact ⟨_, rfl, ho3.mono hB, hb.trans (hb3.mono hB)⟩
end Go.Proofs.Ytgienommkifbnaa

/- What Encode makes of any configuration, the program's and the document's. -/
namespace Go.Proofs.Ytgienommkifbnaa
open Go.RowKit
set_option linter.unusedVariables false
set_option maxRecDepth 100000

theorem rds_three {w : World} {x y z : Value} {a b c : List UInt8} (h1 : Rd w x a) (h2 : Rd w y b) (h3 : Rd w z c) (t : TypeId) (g : Nat) (hg : g = w.heap.size) : Rds (w.alloc (.cells #[x, y, z] t)) (.slice (some ⟨g, 0, none⟩) 3 3) [a, b, c] := by
  subst hg
  have hb := u_al w (.cells #[x, y, z] t)
  have hc : ∀ j u, #[x, y, z][j]? = some u → (w.alloc (.cells #[x, y, z] t)).cell? ⟨w.heap.size, j, none⟩ = some u := fun j u e => by
    rw [World.cell?_alloc_at _ _ _ _ rfl]; exact e
  refine ⟨some ⟨w.heap.size, 0, none⟩, 3, rfl, by simp, by simp [maxLen], fun i hi => ?_⟩
  match i, hi with
  | 0, _ => exact ⟨_, x, rfl, hc 0 x rfl, h1.below hb (Nat.le_refl _)⟩
  | 1, _ => exact ⟨_, y, rfl, hc 1 y rfl, h2.below hb (Nat.le_refl _)⟩
  | 2, _ => exact ⟨_, z, rfl, hc 2 z rfl, h3.below hb (Nat.le_refl _)⟩

set_option maxHeartbeats 2000000 in
theorem encode_any {x y z : Value} {c : Cn} {w : World} (hr : Rc w x y z c) (hl : c.1.length + c.2.1.length + c.2.2.length ≤ 4294967296) :
    Calls Try.prog 10 #[.agg #[x, y, z]] w fun e w' => ∃ v', e = .returned v' ∧ Ow w.heap.size w' v' (M.enc c) ∧ Below w.heap.size w w' := by
  have hel := M.enc_len c
  obtain ⟨V, O, L⟩ := c
  obtain ⟨h1, h2, h3⟩ := hr
  simp only [] at h1 h2 h3 hl hel
  obtain ⟨ax, cx, rfl⟩ := h1.shape
  obtain ⟨ay, cy, rfl⟩ := h2.shape
  obtain ⟨az, cz, rfl⟩ := h3.shape
  have hB0 : Below w.heap.size w (w.alloc (.cells #[.slice ax V.length cx, .slice ay O.length cy, .slice az L.length cz] 24)) := u_al w _
  have hz0 : (w.alloc (.cells #[.slice ax V.length cx, .slice ay O.length cy, .slice az L.length cz] 24)).heap.size = w.heap.size + 1 := by simp
  have kc : ∀ W, Below (w.heap.size + 1) (w.alloc (.cells #[.slice ax V.length cx, .slice ay O.length cy, .slice az L.length cz] 24)) W → W.cell? ⟨w.heap.size, 0, none⟩ = some (.slice ax V.length cx) ∧ W.cell? ⟨w.heap.size, 1, none⟩ = some (.slice ay O.length cy) ∧ W.cell? ⟨w.heap.size, 2, none⟩ = some (.slice az L.length cz) := fun W hW => box3 hW rfl
  go_enter Try.func10, Try.ntmps10
  go_wp2_with fail
  generalize (w.alloc (.cells #[.slice ax V.length cx, .slice ay O.length cy, .slice az L.length cz] 24)) = W0 at *
  rw [← hz0] at kc
  obtain ⟨c0, c1, c2⟩ := kc W0 (Below.refl _ _)
  have n1 : ∀ W, Below W0.heap.size W0 W → Calls Try.prog 41 #[.slice ax V.length cx] W fun e w' => ∃ v', e = .returned v' ∧ Ow W0.heap.size w' v' (M.nums V) ∧ Below W0.heap.size W0 w' := fun W hW => (numbers_any (h1.below (hB0.trans (hW.mono hB0.size)) (Nat.le_refl _)) (by omega)).mono (by
    rintro e w' ⟨v', rfl, q1, q2⟩
    exact ⟨v', rfl, q1.mono hW.size, hW.trans (q2.mono hW.size)⟩)
  have n2 : ∀ W, Below W0.heap.size W0 W → Calls Try.prog 41 #[.slice ay O.length cy] W fun e w' => ∃ v', e = .returned v' ∧ Ow W.heap.size w' v' (M.nums O) ∧ Below W.heap.size W w' := fun W hW => numbers_any (h2.below (hB0.trans (hW.mono hB0.size)) (Nat.le_refl _)) (by omega)
  have n3 : ∀ W, Below W0.heap.size W0 W → Calls Try.prog 41 #[.slice az L.length cz] W fun e w' => ∃ v', e = .returned v' ∧ Ow W.heap.size w' v' (M.nums L) ∧ Below W.heap.size W w' := fun W hW => numbers_any (h3.below (hB0.trans (hW.mono hB0.size)) (Nat.le_refl _)) (by omega)
  have fin : ∀ (w1 w2 w3 : World) (p q r : Value), Below W0.heap.size W0 w1 → Below w1.heap.size w1 w2 → Below w2.heap.size w2 w3 → Ow W0.heap.size w1 p (M.nums V) → Ow w1.heap.size w2 q (M.nums O) → Ow w2.heap.size w3 r (M.nums L) →
      Calls Try.prog 40 #[.slice (some ⟨w3.heap.size, 0, none⟩) 3 3] (w3.alloc (.cells #[p, q, r] 26)) fun e w' => ∃ v', e = .returned v' ∧ Ow w.heap.size w' v' (M.enc (V, O, L)) ∧ Below w.heap.size w w' ∧ Below W0.heap.size W0 w' := fun w1 w2 w3 p q r g1 g2 g3 o1 o2 o3 => by
    have b3 : Below w.heap.size w w3 := (hB0.trans (g1.mono hB0.size)).trans ((g2.mono (Nat.le_trans hB0.size g1.size)).trans (g3.mono (Nat.le_trans (Nat.le_trans hB0.size g1.size) g2.size)))
    refine (row_any (rds_three (o1.below (g2.trans (g3.mono g2.size)) (Nat.le_refl _)).rd (o2.below g3 (Nat.le_refl _)).rd o3.rd 26 _ rfl) (by show (M.enc (V, O, L)).length ≤ _; omega) (by simp)).mono ?_
    rintro e w' ⟨v', rfl, ho, hb⟩
    have s3 := b3.size
    have b0 : Below W0.heap.size W0 w3 := g1.trans ((g2.mono g1.size).trans (g3.mono (Nat.le_trans g1.size g2.size)))
    have s0 := b0.size
    exact ⟨v', rfl, ho.mono (by simp; omega), b3.trans (((Below.refl w.heap.size w3).alloc s3 _).trans (hb.mono (by simp; omega))), b0.trans (((Below.refl W0.heap.size w3).alloc s0 _).trans (hb.mono (by simp; omega)))⟩
  have HF : Hid _ := fin
  clear fin h1 h2 h3
  go_region_held3 (fun w' => w'.cell? ⟨w.heap.size, 0, none⟩ = some (.slice ax V.length cx) ∧ w'.cell? ⟨w.heap.size, 1, none⟩ = some (.slice ay O.length cy) ∧ w'.cell? ⟨w.heap.size, 2, none⟩ = some (.slice az L.length cz)) (go_keep) (first
    | (go_at_call 40; refine (HF.out w1 w2 w3 _ _ _ hb1 hb2 hb3 ho1 ho2 ho3).mono ?_; rintro e w4 ⟨v4, rfl, ho4, hb4, hz4⟩; obtain ⟨q0, q1, q2⟩ := kc w4 hz4)
    | (go_at_call 41; refine (n3 w2 hB2).mono ?_; rintro e w3 ⟨v3, rfl, ho3, hb3⟩; obtain ⟨a3, d3, rfl⟩ := ho3.shape; obtain ⟨u0, u1, u2⟩ := kc w3 (hB2.trans (hb3.mono hB2.size)))
    | (go_at_call 41; refine (n2 w1 hb1).mono ?_; rintro e w2 ⟨v2, rfl, ho2, hb2⟩; obtain ⟨a2, d2, rfl⟩ := ho2.shape; have hB2 := hb1.trans (hb2.mono hb1.size); obtain ⟨t0, t1, t2⟩ := kc w2 hB2)
    | (go_at_call 41; refine (n1 _ (u_drew W0)).mono ?_; rintro e w1 ⟨v1, rfl, ho1, hb1⟩; obtain ⟨a1, d1, rfl⟩ := ho1.shape; obtain ⟨s0, s1, s2⟩ := kc w1 hb1)
    | fail)
  go_wp2_with fail
  go_ret
  exact ⟨_, rfl, ho4, hb4⟩

set_option maxHeartbeats 2000000 in
theorem rencode_any {x y z : Value} {c : Cn} {w : World} (hr : Rc w x y z c) (hl : c.1.length + c.2.1.length + c.2.2.length ≤ 4294967296) :
    Calls Try.prog 38 #[.agg #[x, y, z]] w fun e w' => ∃ v', e = .returned v' ∧ Ow w.heap.size w' v' (M.enc c) ∧ Below w.heap.size w w' := by
  have hel := M.enc_len c
  obtain ⟨V, O, L⟩ := c
  obtain ⟨h1, h2, h3⟩ := hr
  simp only [] at h1 h2 h3 hl hel
  obtain ⟨ax, cx, rfl⟩ := h1.shape
  obtain ⟨ay, cy, rfl⟩ := h2.shape
  obtain ⟨az, cz, rfl⟩ := h3.shape
  have hB0 : Below w.heap.size w (w.alloc (.cells #[.slice ax V.length cx, .slice ay O.length cy, .slice az L.length cz] 24)) := u_al w _
  have hz0 : (w.alloc (.cells #[.slice ax V.length cx, .slice ay O.length cy, .slice az L.length cz] 24)).heap.size = w.heap.size + 1 := by simp
  have kc : ∀ W, Below (w.heap.size + 1) (w.alloc (.cells #[.slice ax V.length cx, .slice ay O.length cy, .slice az L.length cz] 24)) W → W.cell? ⟨w.heap.size, 0, none⟩ = some (.slice ax V.length cx) ∧ W.cell? ⟨w.heap.size, 1, none⟩ = some (.slice ay O.length cy) ∧ W.cell? ⟨w.heap.size, 2, none⟩ = some (.slice az L.length cz) := fun W hW => box3 hW rfl
  go_enter Try.func38, Try.ntmps38
  go_wp2_with fail
  generalize (w.alloc (.cells #[.slice ax V.length cx, .slice ay O.length cy, .slice az L.length cz] 24)) = W0 at *
  rw [← hz0] at kc
  obtain ⟨c0, c1, c2⟩ := kc W0 (Below.refl _ _)
  have n1 : ∀ W, Below W0.heap.size W0 W → Calls Try.prog 69 #[.slice ax V.length cx] W fun e w' => ∃ v', e = .returned v' ∧ Ow W0.heap.size w' v' (M.nums V) ∧ Below W0.heap.size W0 w' := fun W hW => (rnumbers_any (h1.below (hB0.trans (hW.mono hB0.size)) (Nat.le_refl _)) (by omega)).mono (by
    rintro e w' ⟨v', rfl, q1, q2⟩
    exact ⟨v', rfl, q1.mono hW.size, hW.trans (q2.mono hW.size)⟩)
  have n2 : ∀ W, Below W0.heap.size W0 W → Calls Try.prog 69 #[.slice ay O.length cy] W fun e w' => ∃ v', e = .returned v' ∧ Ow W.heap.size w' v' (M.nums O) ∧ Below W.heap.size W w' := fun W hW => rnumbers_any (h2.below (hB0.trans (hW.mono hB0.size)) (Nat.le_refl _)) (by omega)
  have n3 : ∀ W, Below W0.heap.size W0 W → Calls Try.prog 69 #[.slice az L.length cz] W fun e w' => ∃ v', e = .returned v' ∧ Ow W.heap.size w' v' (M.nums L) ∧ Below W.heap.size W w' := fun W hW => rnumbers_any (h3.below (hB0.trans (hW.mono hB0.size)) (Nat.le_refl _)) (by omega)
  have fin : ∀ (w1 w2 w3 : World) (p q r : Value), Below W0.heap.size W0 w1 → Below w1.heap.size w1 w2 → Below w2.heap.size w2 w3 → Ow W0.heap.size w1 p (M.nums V) → Ow w1.heap.size w2 q (M.nums O) → Ow w2.heap.size w3 r (M.nums L) →
      Calls Try.prog 68 #[.slice (some ⟨w3.heap.size, 0, none⟩) 3 3] (w3.alloc (.cells #[p, q, r] 26)) fun e w' => ∃ v', e = .returned v' ∧ Ow w.heap.size w' v' (M.enc (V, O, L)) ∧ Below w.heap.size w w' ∧ Below W0.heap.size W0 w' := fun w1 w2 w3 p q r g1 g2 g3 o1 o2 o3 => by
    have b3 : Below w.heap.size w w3 := (hB0.trans (g1.mono hB0.size)).trans ((g2.mono (Nat.le_trans hB0.size g1.size)).trans (g3.mono (Nat.le_trans (Nat.le_trans hB0.size g1.size) g2.size)))
    refine (rrow_any (rds_three (o1.below (g2.trans (g3.mono g2.size)) (Nat.le_refl _)).rd (o2.below g3 (Nat.le_refl _)).rd o3.rd 26 _ rfl) (by show (M.enc (V, O, L)).length ≤ _; omega) (by simp)).mono ?_
    rintro e w' ⟨v', rfl, ho, hb⟩
    have s3 := b3.size
    have b0 : Below W0.heap.size W0 w3 := g1.trans ((g2.mono g1.size).trans (g3.mono (Nat.le_trans g1.size g2.size)))
    have s0 := b0.size
    exact ⟨v', rfl, ho.mono (by simp; omega), b3.trans (((Below.refl w.heap.size w3).alloc s3 _).trans (hb.mono (by simp; omega))), b0.trans (((Below.refl W0.heap.size w3).alloc s0 _).trans (hb.mono (by simp; omega)))⟩
  have HF : Hid _ := fin
  clear fin h1 h2 h3
  go_region_held3 (fun w' => w'.cell? ⟨w.heap.size, 0, none⟩ = some (.slice ax V.length cx) ∧ w'.cell? ⟨w.heap.size, 1, none⟩ = some (.slice ay O.length cy) ∧ w'.cell? ⟨w.heap.size, 2, none⟩ = some (.slice az L.length cz)) (go_keep) (first
    | (go_at_call 68; refine (HF.out w1 w2 w3 _ _ _ hb1 hb2 hb3 ho1 ho2 ho3).mono ?_; rintro e w4 ⟨v4, rfl, ho4, hb4, hz4⟩; obtain ⟨q0, q1, q2⟩ := kc w4 hz4)
    | (go_at_call 69; refine (n3 w2 hB2).mono ?_; rintro e w3 ⟨v3, rfl, ho3, hb3⟩; obtain ⟨a3, d3, rfl⟩ := ho3.shape; obtain ⟨u0, u1, u2⟩ := kc w3 (hB2.trans (hb3.mono hB2.size)))
    | (go_at_call 69; refine (n2 w1 hb1).mono ?_; rintro e w2 ⟨v2, rfl, ho2, hb2⟩; obtain ⟨a2, d2, rfl⟩ := ho2.shape; have hB2 := hb1.trans (hb2.mono hb1.size); obtain ⟨t0, t1, t2⟩ := kc w2 hB2)
    | (go_at_call 69; refine (n1 _ (u_drew W0)).mono ?_; rintro e w1 ⟨v1, rfl, ho1, hb1⟩; obtain ⟨a1, d1, rfl⟩ := ho1.shape; obtain ⟨s0, s1, s2⟩ := kc w1 hb1)
    | fail)
  go_wp2_with fail
  go_ret
  exact ⟨_, rfl, ho4, hb4⟩
end Go.Proofs.Ytgienommkifbnaa

/- slices.Sort at uint64: what is asked of it, and of at most twelve numbers. -/
namespace Go.Proofs.Ytgienommkifbnaa
open Go.RowKit Go.Sort
set_option linter.unusedVariables false
set_option maxRecDepth 100000

/-- What is asked of math/bits.Len: some number. -/
def LenOk : Prop := ∀ (n : Nat) (W : World), n < 4611686018427387904 → Calls Try.prog 78 #[.int .u64 n] W fun e w' => ∃ r : Nat, r ≤ 64 ∧ e = .returned (.int .i64 r) ∧ w' = W
/-- What is asked of slices.Sort, of at most N numbers. -/
def SortsTo (N : Nat) : Prop := ∀ (B : Nat) (w : World) (v : Value) (l : List UInt64), Ou B w v l → l.length ≤ N → Calls Try.prog 45 #[v] w fun e w' => e = .returned (.tuple #[]) ∧ (∃ l', Ou B w' v l' ∧ l'.Perm l ∧ l'.Pairwise (fun x y => x.toNat ≤ y.toNat)) ∧ Chg (fun b => v.ownBlock = some b) w w'

theorem swo_ltU : SWO ltU where
  irrefl x := by simp [ltU]
  trans x y z h1 h2 := by simp only [ltU, decide_eq_true_eq] at *; omega
  ntrans x y z h1 h2 := by simp only [ltU, decide_eq_false_iff_not] at *; omega

theorem sorted_of {d d' : Array UInt64} (hP : PermIn 0 d.size d d') (hS : SortedIn ltU 0 d.size d') : d'.size = d.size ∧ d'.toList.Perm d.toList ∧ d'.toList.Pairwise (fun x y => x.toNat ≤ y.toNat) := by
  obtain ⟨hsz, _, hperm⟩ := hP
  have e1 : d'.extract 0 d.size = d' := by rw [← hsz]; exact Array.extract_size
  rw [e1, Array.extract_size] at hperm
  refine ⟨hsz, hperm, ?_⟩
  rw [List.pairwise_iff_getElem]
  intro i j hi hj hij
  have hi' : i < d'.size := by simpa using hi
  have hj' : j < d'.size := by simpa using hj
  have := hS i j (Nat.zero_le _) hij (by omega)
  rw [getElem!_pos d' j hj', getElem!_pos d' i hi'] at this
  simp only [ltU, decide_eq_false_iff_not] at this
  simp only [Array.getElem_toList]
  omega

theorem pdq_nil (r : Nat) (w : World) : Calls Try.prog 77 #[.slice none 0 0, .int .i64 0, .int .i64 0, .int .i64 r] w fun e w' => e = .returned (.tuple #[]) ∧ w' = w := by
  have hi : Calls Try.prog 87 #[.slice none 0 0, .int .i64 0, .int .i64 0] w fun e w' => e = .returned (.tuple #[]) ∧ w' = w := by
    go_enter Try.func87, Try.ntmps87
    go_wp2_with fail
    refine wp_loop_rounds 1 ?_
    rw [rounds_succ]
    go_wp2_with fail
    go_end0
    exact ⟨rfl, rfl⟩
  go_enter Try.func77, Try.ntmps77
  go_wp2_with fail
  refine wp_loop_rounds 1 ?_
  rw [rounds_succ]
  go_wp2_with fail
  refine hi.mono ?_
  rintro e w1 ⟨rfl, rfl⟩
  go_wp2_with fail
  refine bodyPost_ret (v := .tuple #[]) (by simp [results, Try.results77, go_sem]; try rfl) rfl ?_
  exact ⟨rfl, rfl⟩

theorem pdq_small {B g c : Nat} {d : Array UInt64} {w : World} (h : Rw B g c d w) (r : Nat) (hd : d.size ≤ 12) : Calls Try.prog 77 #[.slice (some ⟨g, 0, none⟩) d.size c, .int .i64 0, .int .i64 d.size, .int .i64 r] w fun e w' => e = .returned (.tuple #[]) ∧ Rw B g c (insertionSort ltU d 0 d.size) w' ∧ Chg (fun x => x = g) w w' := by
  have hi := uins_any h 0 d.size (Nat.le_refl _) (Nat.zero_le _) (by omega)
  have hd2 : (d.size : Int) ≤ 12 := by omega
  go_enter Try.func77, Try.ntmps77
  go_wp2_with fail
  refine wp_loop_rounds 1 ?_
  rw [rounds_succ]
  go_wp2_with fail
  refine hi.mono ?_
  rintro e w1 ⟨rfl, hr, hc⟩
  go_wp2_with fail
  refine bodyPost_ret (v := .tuple #[]) (by simp [results, Try.results77, go_sem]; try rfl) rfl ?_
  exact ⟨rfl, hr, hc⟩

theorem usort_small (hlen : LenOk) : SortsTo 12 := by
  intro B w v l ho hl
  rcases ho.blk with ⟨rfl, rfl⟩ | ⟨g, c, rfl, h1, h2, h3, h4, _⟩
  · go_enter Try.func45, Try.ntmps45
    go_wp2_with fail
    refine (hlen 0 w (by omega)).mono ?_
    rintro e w1 ⟨r, hr, rfl, rfl⟩
    go_wp2_with fail
    refine (pdq_nil r _).mono ?_
    rintro e w2 ⟨rfl, rfl⟩
    go_wp2_with fail
    go_end0
    exact ⟨rfl, ⟨[], Ou.nil _ _, .refl _, .nil⟩, Chg.refl _ _⟩
  · have hRw : Rw B g c l.toArray w := by unfold Rw; simpa using ho
    have hsz : l.toArray.size = l.length := by simp
    have hp := fun r => pdq_small hRw r (by rw [hsz]; exact hl)
    obtain ⟨hP, hS⟩ := insertionSort_holds (lt := ltU) swo_ltU l.toArray 0 l.toArray.size (Nat.zero_le _) (Nat.le_refl _)
    obtain ⟨q1, q2, q3⟩ := sorted_of hP hS
    rw [hsz] at hp q1 q2 q3
    clear hP hS
    unfold maxLen at h2
    go_enter Try.func45, Try.ntmps45
    go_wp2_with fail
    refine (hlen l.length w (by omega)).mono ?_
    rintro e w1 ⟨r, hr, rfl, rfl⟩
    go_wp2_with fail
    refine (hp r).mono ?_
    rintro e w2 ⟨rfl, hw2, hc2⟩
    go_wp2_with fail
    go_end0
    refine ⟨rfl, ⟨_, ?_, by simpa using q2, q3⟩, hc2.mono (fun b _ q => by subst q; rfl)⟩
    unfold Rw at hw2
    rw [q1] at hw2
    exact hw2
end Go.Proofs.Ytgienommkifbnaa

/- math/bits.Len: some number. -/
namespace Go.Proofs.Ytgienommkifbnaa
open Go.RowKit
set_option linter.unusedVariables false
set_option maxRecDepth 100000

theorem bitLenAux_le : ∀ f n : Nat, Lib.bitLenAux f n ≤ f
  | 0, _ => Nat.le_refl _
  | f + 1, n => by
    rw [Lib.bitLenAux]
    split
    · omega
    · have := bitLenAux_le f (n / 2); omega

theorem len_ok : LenOk := fun n W hn => by
  refine (Try.bits_Len (n : Int) W (by omega) (by omega)).mono ?_
  rintro e w' ⟨rfl, rfl⟩
  exact ⟨_, bitLenAux_le 64 _, rfl, rfl⟩
end Go.Proofs.Ytgienommkifbnaa

/- What Members and Check answer of any configuration. -/
namespace Go.Proofs.Ytgienommkifbnaa
open Go.RowKit Go.Sort
set_option linter.unusedVariables false
set_option maxRecDepth 100000

/-- Numbers that rise, each once. -/
def Ris (l : List UInt64) : Prop := l.Pairwise (fun x y => x.toNat < y.toNat)
theorem Ris.ext {a b : List UInt64} (ha : Ris a) (hb : Ris b) (h : ∀ x, x ∈ a ↔ x ∈ b) : a = b := by
  have nd : ∀ {l : List UInt64}, Ris l → l.Nodup := fun {l} hl => hl.imp (fun h e => by subst e; omega)
  have hp : a.Perm b := (List.perm_ext_iff_of_nodup (nd ha) (nd hb)).2 h
  refine List.Perm.eq_of_pairwise (le := fun x y : UInt64 => x.toNat ≤ y.toNat) (fun x y _ _ h1 h2 => UInt64.toNat_inj.1 (by omega)) (ha.imp (fun h => by omega)) (hb.imp (fun h => by omega)) hp

theorem cmK_sorted (l : List UInt64) (hs : l.Pairwise (fun x y => x.toNat ≤ y.toNat)) : ∀ k, k ≤ l.length → Ris (cmK l k) ∧ (∀ x, x ∈ cmK l k ↔ x ∈ l.take k) ∧ (∀ x ∈ cmK l k, 0 < k → x.toNat ≤ (l.getD (k - 1) 0).toNat) := by
  intro k
  induction k with
  | zero => intro _; exact ⟨.nil, by simp [cmK], by simp [cmK]⟩
  | succ k ih =>
    intro hk
    obtain ⟨h1, h2, h3⟩ := ih (by omega)
    have hlt : k < l.length := by omega
    have ek : l.getD k 0 = l[k] := by simp [hlt]
    have hle : 0 < k → (l.getD (k - 1) 0).toNat ≤ (l[k]).toNat := fun h0 => by
      have e : l.getD (k - 1) 0 = l[k - 1] := by simp [show k - 1 < l.length by omega]
      rw [e]
      exact List.pairwise_iff_getElem.1 hs (k - 1) k (by omega) hlt (by omega)
    rw [cmK, List.take_succ_eq_append_getElem hlt, ek, Nat.add_sub_cancel, ek]
    by_cases hc : k = 0 ∨ l[k] ≠ l.getD (k - 1) 0
    · rw [if_pos hc]
      refine ⟨?_, fun x => by rw [List.mem_append, List.mem_append, h2], fun x hx _ => ?_⟩
      · refine List.pairwise_append.2 ⟨h1, by simp, fun x hx y hy => ?_⟩
        obtain rfl := List.mem_singleton.1 hy
        rcases hc with rfl | hc
        · simp [cmK] at hx
        · by_cases h0 : k = 0
          · subst h0; simp [cmK] at hx
          · have g1 := h3 x hx (by omega)
            have g2 := hle (by omega)
            have g3 : (l.getD (k - 1) 0).toNat ≠ (l[k]).toNat := fun e => hc (UInt64.toNat_inj.1 e.symm)
            omega
      · rcases List.mem_append.1 hx with hx | hx
        · by_cases h0 : k = 0
          · subst h0; simp [cmK] at hx
          · have := h3 x hx (by omega); have := hle (by omega); omega
        · obtain rfl := List.mem_singleton.1 hx; exact Nat.le_refl _
    · rw [if_neg hc, List.append_nil]
      have h0 : k ≠ 0 := fun e => hc (.inl e)
      have he : l[k] = l.getD (k - 1) 0 := by
        by_cases e : l[k] = l.getD (k - 1) 0
        · exact e
        · exact absurd (.inr e) hc
      refine ⟨h1, fun x => ?_, fun x hx _ => ?_⟩
      · rw [List.mem_append, h2, List.mem_singleton]
        refine ⟨.inl, fun hx => ?_⟩
        rcases hx with hx | rfl
        · exact hx
        · rw [he]
          have e : l.getD (k - 1) 0 = l[k - 1] := by simp [show k - 1 < l.length by omega]
          rw [e]
          exact List.mem_iff_getElem.2 ⟨k - 1, by simp; omega, by simp⟩
      · have := h3 x hx (by omega); have := hle (by omega); omega

/-- All that a configuration has. -/
def IsMem (c : Cn) (m : List UInt64) : Prop := Ris m ∧ ∀ x, x ∈ m ↔ x ∈ c.1 ∨ x ∈ c.2.1 ∨ x ∈ c.2.2

set_option maxHeartbeats 1000000 in
theorem members_any {N : Nat} (hS : SortsTo N) {x y z : Value} {c : Cn} {w : World} (hr : Rc w x y z c) (hl : c.1.length + c.2.1.length + c.2.2.length ≤ N) (hN : N ≤ 1099511627776) :
    Calls Try.prog 16 #[.agg #[x, y, z]] w fun e w' => ∃ v' m, e = .returned v' ∧ Ou w.heap.size w' v' m ∧ IsMem c m ∧ Below w.heap.size w w' := by
  obtain ⟨V, O, L⟩ := c
  obtain ⟨h1, h2, h3⟩ := hr
  simp only [] at h1 h2 h3 hl
  have hfl : [V, O, L].flatten = V ++ (O ++ L) := by simp
  have hcc : ∀ (W : World) (g : Nat), g = W.heap.size → Below w.heap.size w W → Calls Try.prog 44 #[.slice (some ⟨g, 0, none⟩) 3 3] (W.alloc (.cells #[x, y, z] 22)) fun e w' => ∃ v', e = .returned v' ∧ Ou w.heap.size w' v' (V ++ (O ++ L)) ∧ Below w.heap.size w w' := fun W g hg hW => by
    have hs := hW.size
    refine (uconcat_any (rus_three (h1.below hW (Nat.le_refl _)) (h2.below hW (Nat.le_refl _)) (h3.below hW (Nat.le_refl _)) 22 _ hg) (by simp) (by rw [hfl]; simp; omega)).mono ?_
    rintro e w' ⟨v', rfl, ho, hb⟩
    rw [hfl] at ho
    exact ⟨v', rfl, ho.mono (by simp; omega), hW.trans (((Below.refl w.heap.size W).alloc hs _).trans (hb.mono (by simp; omega)))⟩
  have hB0 : Below w.heap.size w (w.alloc (.cells #[x, y, z] 24)) := u_al w _
  obtain ⟨ax, cx, rfl⟩ := h1.shape
  obtain ⟨ay, cy, rfl⟩ := h2.shape
  obtain ⟨az, cz, rfl⟩ := h3.shape
  have q0 := hcc _ (w.heap.size + 1) (by simp) hB0
  clear hcc h1 h2 h3
  go_enter Try.func16, Try.ntmps16
  go_wp2_with fail
  refine q0.mono ?_
  rintro e w1 ⟨v1, rfl, ho1, hb1⟩
  go_wp2_with fail
  refine (hS w.heap.size w1 v1 _ ho1 (by simp; omega)).mono ?_
  rintro e w2 ⟨rfl, ⟨l', ho2, hp, hso⟩, hc2⟩
  have hb2 : Below w.heap.size w w2 := hb1.trans (hc2.below (fun b e => (ho1.lt b e).1) hb1.size)
  obtain ⟨k1, k2, k3⟩ := cmK_sorted l' hso l'.length (Nat.le_refl _)
  have hmem : IsMem (V, O, L) (cmK l' l'.length) := ⟨k1, fun x => by rw [k2, List.take_length, hp.mem_iff]; simp⟩
  have hlen := hp.length_eq
  simp only [List.length_append] at hlen
  have hlen2 : l'.length ≤ 1099511627776 := by omega
  clear k1 k2 k3 hso hp hlen
  rcases ho2.blk with ⟨rfl, rfl⟩ | ⟨g, cc, rfl, z1, z2, z3, z4, _⟩
  · have hcp : Calls Try.prog 46 #[.slice none 0 0] w2 fun e w' => e = .returned (.slice none 0 0) ∧ w' = w2 := by
      go_enter Try.func46, Try.ntmps46
      go_wp2_with fail
      go_ret
      exact ⟨rfl, rfl⟩
    go_wp2_with fail
    refine hcp.mono ?_
    rintro e w3 ⟨rfl, rfl⟩
    go_wp2_with fail
    go_ret
    exact ⟨_, _, rfl, Ou.nil _ _, hmem, hb2⟩
  · have hRw : Rw w.heap.size g cc l'.toArray w2 := by unfold Rw; simpa using ho2
    have hcp := ucompact_any hRw (by simp; omega)
    simp only [List.size_toArray] at hcp
    go_wp2_with fail
    refine hcp.mono ?_
    rintro e w3 ⟨v3, rfl, ho3, hc3, hv3⟩
    go_wp2_with fail
    go_ret
    exact ⟨_, _, rfl, ho3, hmem, hb2.trans (hc3.below (fun b q => by omega) hb2.size)⟩
end Go.Proofs.Ytgienommkifbnaa

/- What Check answers of any configuration. -/
namespace Go.Proofs.Ytgienommkifbnaa
open Go.RowKit Go.Sort
set_option linter.unusedVariables false
set_option maxRecDepth 100000

/-- All that a configuration has, in one list. -/
def srtd (l : List UInt64) : List UInt64 := l.mergeSort (fun x y => decide (x.toNat ≤ y.toNat))
def mems (c : Cn) : List UInt64 := cmK (srtd (c.1 ++ (c.2.1 ++ c.2.2))) (srtd (c.1 ++ (c.2.1 ++ c.2.2))).length
theorem mems_is (c : Cn) : IsMem c (mems c) := by
  have hs : (srtd (c.1 ++ (c.2.1 ++ c.2.2))).Pairwise (fun x y => x.toNat ≤ y.toNat) := by
    have h := List.pairwise_mergeSort (le := fun x y : UInt64 => decide (x.toNat ≤ y.toNat)) (by intro a b c h1 h2; simp only [decide_eq_true_eq] at *; omega) (by intro a b; simp only [Bool.or_eq_true, decide_eq_true_eq]; omega) (c.1 ++ (c.2.1 ++ c.2.2))
    exact h.imp (fun h => by simpa using h)
  obtain ⟨h1, h2, _⟩ := cmK_sorted _ hs _ (Nat.le_refl _)
  refine ⟨h1, fun x => ?_⟩
  unfold mems
  rw [h2, List.take_length, srtd, (List.mergeSort_perm _ _).mem_iff]
  simp
theorem IsMem.eq {c : Cn} {m : List UInt64} (h : IsMem c m) : m = mems c := h.1.ext (mems_is c).1 (fun x => by rw [h.2, (mems_is c).2])

/-- Is a voter, or one of before. -/
def vt (c : Cn) (p : UInt64) : Bool := decide (p ∈ c.1) || decide (p ∈ c.2.1)
def ok1 (l : List UInt64) : Bool := decide (l.length ≤ 9) && risF 0 l
/-- A configuration of a group. -/
def chk (c : Cn) : Bool := ok1 c.1 && (ok1 c.2.1 && (ok1 c.2.2 && (decide (c.1 ≠ []) && (!(c.2.2.any (vt c)) && decide ((mems c).length ≤ 9)))))

theorem clos_any {x y z : Value} {c : Cn} {p : UInt64} {b : Nat} {W : World} (hr : Rc W x y z c) (hc : W.cell? ⟨b, 0, none⟩ = some x ∧ W.cell? ⟨b, 1, none⟩ = some y ∧ W.cell? ⟨b, 2, none⟩ = some z) :
    Calls Try.prog 48 #[.int .u64 (p.toNat : Int), .pointer (some ⟨b, 0, none⟩)] W fun e w' => e = .returned (.bool (vt c p)) ∧ Below W.heap.size W w' := by
  obtain ⟨c0, c1, c2⟩ := hc
  have hv := votes_any (p := p) hr
  obtain ⟨ax, cx, rfl⟩ := hr.1.shape
  obtain ⟨ay, cy, rfl⟩ := hr.2.1.shape
  obtain ⟨az, cz, rfl⟩ := hr.2.2.shape
  unfold vt
  generalize (decide (p ∈ c.1) || decide (p ∈ c.2.1)) = r at *
  go_enter Try.func48, Try.ntmps48
  go_wp2_with fail
  refine hv.mono ?_
  rintro e w1 ⟨rfl, rfl⟩
  go_wp2_with fail
  go_ret
  exact ⟨rfl, u_al _ _⟩

set_option maxHeartbeats 1000000 in
theorem uifunc_any {v : Value} {l : List UInt64} {x y z : Value} {c : Cn} {b : Nat} {w : World} (hl : Ru w v l) (hr : Rc w x y z c) (hc : w.cell? ⟨b, 0, none⟩ = some x ∧ w.cell? ⟨b, 1, none⟩ = some y ∧ w.cell? ⟨b, 2, none⟩ = some z) :
    Calls Try.prog 49 #[v, .func (.func 48) #[] #[.pointer (some ⟨b, 0, none⟩)]] w fun e w' => e = .returned (.bool (l.any (vt c))) ∧ Below w.heap.size w w' := by
  have hix : Calls Try.prog 79 #[v, .func (.func 48) #[] #[.pointer (some ⟨b, 0, none⟩)]] w fun e w' => ∃ r : Int, e = .returned (.int .i64 r) ∧ (0 ≤ r ↔ (l.any (vt c)) = true) ∧ Below w.heap.size w w' := by
    have hcl : ∀ W p, Below w.heap.size w W → Calls Try.prog 48 #[.int .u64 (p.toNat : Int), .pointer (some ⟨b, 0, none⟩)] W fun e w' => e = .returned (.bool (vt c p)) ∧ Below W.heap.size W w' := fun W p hW => clos_any (hr.below hW (Nat.le_refl _)) (by
      obtain ⟨c0, c1, c2⟩ := hc
      exact ⟨by rw [hW.cell (World.block_lt_of_cell? w _ c0)]; exact c0, by rw [hW.cell (World.block_lt_of_cell? w _ c1)]; exact c1, by rw [hW.cell (World.block_lt_of_cell? w _ c2)]; exact c2⟩)
    generalize vt c = f at *
    obtain ⟨ao, cc, rfl, h1, h2, h3, h4⟩ := hl
    unfold maxLen at h2
    clear hr hc
    go_enter Try.func79, Try.ntmps79
    go_wp2_with fail
    go_loopw [5, 8] (fun _ i wr => ∃ k : Nat, k ≤ l.length ∧ i = .int .i64 k ∧ Hid ((l.take k).any f = false) ∧ Below w.heap.size w wr) (fun _ i _ => l.length - (intOf i).toNat)
    case atStart => exact ⟨0, Nat.zero_le _, rfl, by show _ = _; simp, Below.refl _ _⟩
    case round =>
      obtain ⟨k, hk, rfl, HX, hb⟩ := hrel
      by_cases hlt : k < l.length
      · obtain ⟨a, rfl, hcc⟩ := h4 k hlt
        have hcx : wr.cell? (a.add k) = some (.int .u64 (l[k].toNat : Int)) := by rw [hb.cell (World.block_lt_of_cell? w _ hcc)]; exact hcc
        have HT : Hid ((l.take (k + 1)).any f = f l[k]) := by
          show _ = _
          rw [List.take_succ_eq_append_getElem hlt, List.any_append, HX.out]; simp
        have HM : Hid (f l[k] = true → l.any f = true) := fun e => List.any_eq_true.2 ⟨_, List.getElem_mem hlt, e⟩
        have hq := hcl wr l[k] hb
        clear h4 h3 hcc hcl
        generalize l[k] = p at *
        have hB := hb.size
        cases hfp : f p with
        | true =>
          have HM2 : Hid _ := HM.out hfp
          rw [hfp] at hq
          clear HT HM hfp
          go_wp2_with fail
          refine hq.mono ?_
          rintro e w1 ⟨rfl, hb1⟩
          go_wp2_with fail
          go_ret
          exact ⟨_, rfl, ⟨fun _ => HM2.out, fun _ => by omega⟩, hb.trans (hb1.mono hB)⟩
        | false =>
          rw [hfp] at hq
          have HX2 : Hid ((l.take (k + 1)).any f = false) := by show _ = _; rw [HT.out]; exact hfp
          clear HT HM hfp
          go_wp2_with fail
          refine hq.mono ?_
          rintro e w1 ⟨rfl, hb1⟩
          go_wp2_with fail
          exact ⟨⟨k + 1, by omega, by go_num, HX2, hb.trans (hb1.mono hB)⟩, by simp [intOf]; omega⟩
      · obtain rfl : k = l.length := by omega
        have HX2 : Hid (l.any f = false) := by have := HX.out; rw [List.take_length] at this; exact this
        clear h4 HX hcl
        go_wp2_with fail
        go_ret
        exact ⟨_, rfl, ⟨fun h => by omega, fun h => by rw [HX2.out] at h; cases h⟩, hb⟩
  go_enter Try.func49, Try.ntmps49
  generalize (l.any (vt c)) = R at *
  go_wp2_with fail
  refine hix.mono ?_
  rintro e w1 ⟨r, rfl, hi, hb⟩
  go_wp2_with fail
  go_ret
  refine ⟨?_, hb⟩
  cases R with
  | true => simp
  | false => simp
theorem idx3_0 (W : World) (x y z : Value) : (Instr.index 65 (.agg #[x, y, z]) (.int .i64 0)).run Try.prog W = .ok x W := by kernel_rfl
theorem idx3_1 (W : World) (x y z : Value) : (Instr.index 65 (.agg #[x, y, z]) (.int .i64 1)).run Try.prog W = .ok y W := by kernel_rfl
theorem idx3_2 (W : World) (x y z : Value) : (Instr.index 65 (.agg #[x, y, z]) (.int .i64 2)).run Try.prog W = .ok z W := by kernel_rfl

set_option maxHeartbeats 4000000 in
theorem check_any {N : Nat} (hS : SortsTo N) {x y z : Value} {c : Cn} {w : World} (hr : Rc w x y z c) (hl : c.1.length + c.2.1.length + c.2.2.length ≤ N ∨ 27 ≤ N) (hN : N ≤ 1099511627776) :
    Calls Try.prog 18 #[.agg #[x, y, z]] w fun e w' => e = .returned (.int .i64 (if chk c then 0 else 70)) ∧ Below w.heap.size w w' := by
  obtain ⟨V, O, L⟩ := c
  have hr' := hr
  obtain ⟨h1, h2, h3⟩ := hr
  simp only [] at h1 h2 h3 hl
  obtain ⟨ax, cx, rfl⟩ := h1.shape
  obtain ⟨ay, cy, rfl⟩ := h2.shape
  obtain ⟨az, cz, rfl⟩ := h3.shape
  have l1 := h1.len
  have l2 := h2.len
  have l3 := h3.len
  unfold maxLen at l1 l2 l3
  have HRX : Hid (∀ W, Below w.heap.size w W → Ru W (.slice ax V.length cx) V) := fun W hW => h1.below hW (Nat.le_refl _)
  have HRY : Hid (∀ W, Below w.heap.size w W → Ru W (.slice ay O.length cy) O) := fun W hW => h2.below hW (Nat.le_refl _)
  have HRZ : Hid (∀ W, Below w.heap.size w W → Ru W (.slice az L.length cz) L) := fun W hW => h3.below hW (Nat.le_refl _)
  have HRC : Hid (∀ W, Below w.heap.size w W → Rc W (.slice ax V.length cx) (.slice ay O.length cy) (.slice az L.length cz) (V, O, L)) := fun W hW => hr'.below hW (Nat.le_refl _)
  have hB1 : Below w.heap.size w (w.alloc (.cells #[.slice ax V.length cx, .slice ay O.length cy, .slice az L.length cz] 24)) := u_al w _
  have hB2 : Below w.heap.size w ((w.alloc (.cells #[.slice ax V.length cx, .slice ay O.length cy, .slice az L.length cz] 24)).alloc (.cells #[.slice ax V.length cx, .slice ay O.length cy, .slice az L.length cz] 65)) := hB1.alloc (by simp) _
  have HKC : Hid (∀ W, Below (w.heap.size + 1) ((w.alloc (.cells #[.slice ax V.length cx, .slice ay O.length cy, .slice az L.length cz] 24)).alloc (.cells #[.slice ax V.length cx, .slice ay O.length cy, .slice az L.length cz] 65)) W → W.cell? ⟨w.heap.size, 0, none⟩ = some (.slice ax V.length cx) ∧ W.cell? ⟨w.heap.size, 1, none⟩ = some (.slice ay O.length cy) ∧ W.cell? ⟨w.heap.size, 2, none⟩ = some (.slice az L.length cz)) := fun W hW => box3 ((((Below.refl _ _).alloc (by simp) _).trans hW)) rfl
  have HKR : Hid (∀ (W : World), Below ((w.alloc (.cells #[.slice ax V.length cx, .slice ay O.length cy, .slice az L.length cz] 24)).alloc (.cells #[.slice ax V.length cx, .slice ay O.length cy, .slice az L.length cz] 65)).heap.size ((w.alloc (.cells #[.slice ax V.length cx, .slice ay O.length cy, .slice az L.length cz] 24)).alloc (.cells #[.slice ax V.length cx, .slice ay O.length cy, .slice az L.length cz] 65)) W → Below w.heap.size w W ∧ Below (w.heap.size + 1) ((w.alloc (.cells #[.slice ax V.length cx, .slice ay O.length cy, .slice az L.length cz] 24)).alloc (.cells #[.slice ax V.length cx, .slice ay O.length cy, .slice az L.length cz] 65)) W) := fun W hW => ⟨hB2.trans (hW.mono (by simp; omega)), hW.mono (by simp)⟩
  generalize hT : (if chk (V, O, L) = true then (0 : Int) else 70) = T
  have HBAD : Hid (ok1 V = false ∨ ok1 O = false ∨ ok1 L = false → 70 = T) := fun h => by
    rw [← hT]; unfold chk
    rcases h with h | h | h <;> simp [h]
  have HT : Hid _ := hT
  clear hT h1 h2 h3 hr'
  go_enter Try.func18, Try.ntmps18
  go_wp2_with fail
  generalize ((w.alloc (.cells #[.slice ax V.length cx, .slice ay O.length cy, .slice az L.length cz] 24)).alloc (.cells #[.slice ax V.length cx, .slice ay O.length cy, .slice az L.length cz] 65)) = W0 at *
  clear hB1
  go_loopw [5, 15] (fun _ i wr => ∃ k : Nat, k ≤ 3 ∧ i = .int .i64 k ∧ Hid ((0 < k → ok1 V = true) ∧ (1 < k → ok1 O = true) ∧ (2 < k → ok1 L = true)) ∧ wr = W0) (fun _ i _ => 3 - (intOf i).toNat)
  case atStart => exact ⟨0, by omega, rfl, ⟨fun h => by omega, fun h => by omega, fun h => by omega⟩, rfl⟩
  case round =>
    obtain ⟨k, hk, rfl, HGD, hwr⟩ := hrel
    obtain rfl : W0 = wr := hwr.symm
    have hb := hB2
    clear hwr
    by_cases hk0 : k = 0
    · subst hk0
      by_cases h9 : V.length ≤ 9
      · have hq := urises_any (HRX.out W0 hb)
        have h9i : ¬ (9 : Int) < (V.length : Int) := by omega
        have hix := idx3_0 W0 (.slice ax V.length cx) (.slice ay O.length cy) (.slice az L.length cz)
        cases hri : risF 0 V with
        | true =>
          rw [hri] at hq
          have HOK : Hid (ok1 V = true) := by show _ = _; unfold ok1; rw [decide_eq_true h9, hri]; rfl
          clear hri
          go_wp2_with fail
          refine hq.mono ?_
          rintro e w1 ⟨rfl, rfl⟩
          go_wp2_with fail
          exact ⟨⟨1, by omega, by go_num, ⟨fun _ => HOK.out, fun h => by omega, fun h => by omega⟩, trivial⟩, by simp [intOf]⟩
        | false =>
          rw [hri] at hq
          have HOK : Hid (ok1 V = false) := by show _ = _; unfold ok1; rw [hri, Bool.and_false]
          clear hri
          obtain rfl := HBAD.out (.inl HOK.out)
          go_wp2_with fail
          refine hq.mono ?_
          rintro e w1 ⟨rfl, rfl⟩
          go_wp2_with fail
          go_ret
          exact ⟨rfl, hb⟩
      · have h9i : (9 : Int) < (V.length : Int) := by omega
        have hix := idx3_0 W0 (.slice ax V.length cx) (.slice ay O.length cy) (.slice az L.length cz)
        have HOK : Hid (ok1 V = false) := by show _ = _; unfold ok1; rw [decide_eq_false h9, Bool.false_and]
        obtain rfl := HBAD.out (.inl HOK.out)
        go_wp2_with fail
        go_ret
        exact ⟨rfl, hb⟩
    · by_cases hk1 : k = 1
      · subst hk1
        by_cases h9 : O.length ≤ 9
        · have hq := urises_any (HRY.out W0 hb)
          have h9i : ¬ (9 : Int) < (O.length : Int) := by omega
          have hix := idx3_1 W0 (.slice ax V.length cx) (.slice ay O.length cy) (.slice az L.length cz)
          cases hri : risF 0 O with
          | true =>
            rw [hri] at hq
            have HOK : Hid (ok1 O = true) := by show _ = _; unfold ok1; rw [decide_eq_true h9, hri]; rfl
            clear hri
            go_wp2_with fail
            refine hq.mono ?_
            rintro e w1 ⟨rfl, rfl⟩
            go_wp2_with fail
            exact ⟨⟨2, by omega, by go_num, ⟨fun _ => HGD.out.1 (by omega), fun _ => HOK.out, fun h => by omega⟩, trivial⟩, by simp [intOf]⟩
          | false =>
            rw [hri] at hq
            have HOK : Hid (ok1 O = false) := by show _ = _; unfold ok1; rw [hri, Bool.and_false]
            clear hri
            obtain rfl := HBAD.out (.inr (.inl HOK.out))
            go_wp2_with fail
            refine hq.mono ?_
            rintro e w1 ⟨rfl, rfl⟩
            go_wp2_with fail
            go_ret
            exact ⟨rfl, hb⟩
        · have h9i : (9 : Int) < (O.length : Int) := by omega
          have hix := idx3_1 W0 (.slice ax V.length cx) (.slice ay O.length cy) (.slice az L.length cz)
          have HOK : Hid (ok1 O = false) := by show _ = _; unfold ok1; rw [decide_eq_false h9, Bool.false_and]
          obtain rfl := HBAD.out (.inr (.inl HOK.out))
          go_wp2_with fail
          go_ret
          exact ⟨rfl, hb⟩
      · by_cases hk2 : k = 2
        · subst hk2
          by_cases h9 : L.length ≤ 9
          · have hq := urises_any (HRZ.out W0 hb)
            have h9i : ¬ (9 : Int) < (L.length : Int) := by omega
            have hix := idx3_2 W0 (.slice ax V.length cx) (.slice ay O.length cy) (.slice az L.length cz)
            cases hri : risF 0 L with
            | true =>
              rw [hri] at hq
              have HOK : Hid (ok1 L = true) := by show _ = _; unfold ok1; rw [decide_eq_true h9, hri]; rfl
              clear hri
              go_wp2_with fail
              refine hq.mono ?_
              rintro e w1 ⟨rfl, rfl⟩
              go_wp2_with fail
              exact ⟨⟨3, by omega, by go_num, ⟨fun _ => HGD.out.1 (by omega), fun _ => HGD.out.2.1 (by omega), fun _ => HOK.out⟩, trivial⟩, by simp [intOf]⟩
            | false =>
              rw [hri] at hq
              have HOK : Hid (ok1 L = false) := by show _ = _; unfold ok1; rw [hri, Bool.and_false]
              clear hri
              obtain rfl := HBAD.out (.inr (.inr HOK.out))
              go_wp2_with fail
              refine hq.mono ?_
              rintro e w1 ⟨rfl, rfl⟩
              go_wp2_with fail
              go_ret
              exact ⟨rfl, hb⟩
          · have h9i : (9 : Int) < (L.length : Int) := by omega
            have hix := idx3_2 W0 (.slice ax V.length cx) (.slice ay O.length cy) (.slice az L.length cz)
            have HOK : Hid (ok1 L = false) := by show _ = _; unfold ok1; rw [decide_eq_false h9, Bool.false_and]
            obtain rfl := HBAD.out (.inr (.inr HOK.out))
            go_wp2_with fail
            go_ret
            exact ⟨rfl, hb⟩
        · obtain rfl : k = 3 := by omega
          obtain ⟨o1, o2, o3⟩ := HGD.out
          have o1 := o1 (by omega)
          have o2 := o2 (by omega)
          have o3 := o3 (by omega)
          have g1 : V.length ≤ 9 := by unfold ok1 at o1; simp only [Bool.and_eq_true, decide_eq_true_eq] at o1; exact o1.1
          have g2 : O.length ≤ 9 := by unfold ok1 at o2; simp only [Bool.and_eq_true, decide_eq_true_eq] at o2; exact o2.1
          have g3 : L.length ≤ 9 := by unfold ok1 at o3; simp only [Bool.and_eq_true, decide_eq_true_eq] at o3; exact o3.1
          have HT2 : Hid ((if (decide (V ≠ []) && (!(L.any (vt (V, O, L))) && decide ((mems (V, O, L)).length ≤ 9))) = true then (0 : Int) else 70) = T) := by
            show _ = _
            rw [← HT.out]; unfold chk; simp only [o1, o2, o3, Bool.true_and]
          have hkc := HKC.out W0 (Below.refl _ _)
          have hif := uifunc_any (HRZ.out W0 hb) (HRC.out W0 hb) hkc
          obtain ⟨k0, k1, k2⟩ := hkc
          clear HT HGD o1 o2 o3 HBAD
          by_cases hv0 : V.length = 0
          · have hV : V = [] := List.length_eq_zero_iff.1 hv0
            have hT : 70 = T := by rw [← HT2.out]; simp [hV]
            subst hT
            have hvi : ((V.length : Int) == 0) = true := by simp [hv0]
            clear HT2 hif
            go_wp2_with fail
            go_ret
            exact ⟨rfl, hb⟩
          · have hV : decide (V ≠ []) = true := by
              rw [decide_eq_true_eq]; intro e; exact hv0 (by rw [e]; rfl)
            have hvi : ((V.length : Int) == 0) = false := by simp; exact fun e => hv0 (by rw [e]; rfl)
            have HT3 : Hid _ := HT2.out
            clear HT2
            cases hany : L.any (vt (V, O, L)) with
            | true =>
              have hT : 70 = T := by rw [← HT3.out, hany]; simp
              subst hT
              rw [hany] at hif
              clear HT3 hany hV
              go_wp2_with fail
              refine hif.mono ?_
              rintro e w1 ⟨rfl, hb1⟩
              go_wp2_with fail
              go_ret
              exact ⟨rfl, (HKR.out w1 hb1).1⟩
            | false =>
              rw [hany] at hif
              have HT4 : Hid ((if decide ((mems (V, O, L)).length ≤ 9) = true then (0 : Int) else 70) = T) := by
                show _ = _
                rw [← HT3.out, hany, hV]; simp
              clear HT3 hany hV
              go_wp2_with fail
              refine hif.mono ?_
              rintro e w1 ⟨rfl, hb1⟩
              obtain ⟨hw1, hw2⟩ := HKR.out w1 hb1
              obtain ⟨q0, q1, q2⟩ := HKC.out w1 hw2
              have hmm := members_any hS (HRC.out w1 hw1) (by simp only []; omega) hN
              go_wp2_with fail
              refine hmm.mono ?_
              rintro e w2 ⟨v2, m, rfl, ho2, him, hb2⟩
              obtain rfl := him.eq
              obtain ⟨a2, c2, rfl⟩ := ho2.shape
              have hsz := hw1.size
              by_cases hm9 : (mems (V, O, L)).length ≤ 9
              · have hT : 0 = T := by rw [← HT4.out, decide_eq_true hm9]; rfl
                subst hT
                have hmi : ¬ (9 : Int) < ((mems (V, O, L)).length : Int) := by omega
                clear HT4
                generalize (mems (V, O, L)).length = ml at *
                go_wp2_with fail
                go_ret
                exact ⟨rfl, hw1.trans (hb2.mono hsz)⟩
              · have hT : 70 = T := by rw [← HT4.out, decide_eq_false hm9]; rfl
                subst hT
                have hmi : (9 : Int) < ((mems (V, O, L)).length : Int) := by omega
                clear HT4
                generalize (mems (V, O, L)).length = ml at *
                go_wp2_with fail
                go_ret
                exact ⟨rfl, hw1.trans (hb2.mono hsz)⟩
end Go.Proofs.Ytgienommkifbnaa

/- The seats: a map from peers to what they are. -/
namespace Go.Proofs.Ytgienommkifbnaa
open Go.RowKit Go.Maps
set_option linter.unusedVariables false
set_option maxRecDepth 100000

theorem Try.lawU : Keyed Try.prog 35 := int_keyed Try.underlying35
theorem Try.zeroI (w : World) : (zeroValue 3).run Try.prog w = .ok (.int .i64 0) w := by kernel_rfl
def kU (x : UInt64) : Lit := .int .u64 (x.toNat : Int)
def dI (n : Nat) : DataW Unit := .lit (.int .i64 (n : Int))
theorem kU_wf (x : UInt64) : (kU x).wf = true := by
  have := x.toNat_lt
  simp [kU, Lit.wf, IntKind.min, IntKind.max, IntKind.signed, IntKind.bits]
  omega
theorem kU_inj {x y : UInt64} (h : kU x = kU y) : x = y := by
  simp only [kU, Lit.int.injEq, true_and] at h
  exact UInt64.toNat_inj.1 (by omega)
theorem keyU (x : UInt64) : keyOf Try.prog 35 (.int .u64 (x.toNat : Int)) = some (kU x) := keyOf_int_mk Try.underlying35 (kU_wf x)

/-- The map in block m reads as S: what each peer is (0: nothing); at most n entries. -/
structure St (m n : Nat) (S : UInt64 → Nat) (w : World) : Prop where
  own : ∃ D : DataW Unit, w.ownsMap Try.prog 35 (plainElem Try.prog 3) m n D ∧ (∀ x, D.atKey (kU x) (dI 0) = dI (S x)) ∧ ∀ x, Maps.has D (kU x) = decide (S x ≠ 0)

def upd (S : UInt64 → Nat) (p : UInt64) (s : Nat) : UInt64 → Nat := fun x => if x = p then s else S x
theorem kU_ne {x p : UInt64} (h : x ≠ p) : kU x ≠ kU p := fun e => h (kU_inj e)
theorem put_at {D : DataW Unit} {S : UInt64 → Nat} (hD : IsMap D) (h1 : ∀ x, D.atKey (kU x) (dI 0) = dI (S x)) (h2 : ∀ x, Maps.has D (kU x) = decide (S x ≠ 0)) (p : UInt64) (s : Nat) (hs : s ≠ 0) : (∀ x, (D.put (kU p) (dI s)).atKey (kU x) (dI 0) = dI (upd S p s x)) ∧ ∀ x, Maps.has (D.put (kU p) (dI s)) (kU x) = decide (upd S p s x ≠ 0) := by
  refine ⟨fun x => ?_, fun x => ?_⟩
  · by_cases hx : x = p
    · subst hx; rw [atKey_put_same hD (show WideAt.IsKeyLit (kU x) from trivial), upd, if_pos rfl]
    · rw [atKey_put_other (kU_ne hx), h1, upd, if_neg hx]
  · by_cases hx : x = p
    · subst hx; rw [has_put_same hD (show WideAt.IsKeyLit (kU x) from trivial), upd, if_pos rfl]; simp [hs]
    · rw [has_put_other (kU_ne hx), h2, upd, if_neg hx]
theorem del_at {D : DataW Unit} {S : UInt64 → Nat} (h1 : ∀ x, D.atKey (kU x) (dI 0) = dI (S x)) (h2 : ∀ x, Maps.has D (kU x) = decide (S x ≠ 0)) (p : UInt64) : (∀ x, (D.del (kU p)).atKey (kU x) (dI 0) = dI (upd S p 0 x)) ∧ ∀ x, Maps.has (D.del (kU p)) (kU x) = decide (upd S p 0 x ≠ 0) := by
  refine ⟨fun x => ?_, fun x => ?_⟩
  · by_cases hx : x = p
    · subst hx; rw [atKey_del_same, upd, if_pos rfl]
    · rw [atKey_del_other (kU_ne hx), h1, upd, if_neg hx]
  · by_cases hx : x = p
    · subst hx; rw [has_del_same, upd, if_pos rfl]; simp
    · rw [has_del_other (kU_ne hx), h2, upd, if_neg hx]
theorem St.below {m n B : Nat} {S : UInt64 → Nat} {w w' : World} (h : St m n S w) (hb : Below B w w') (hB : w.heap.size ≤ B) : St m n S w' := by
  obtain ⟨D, ⟨es, clock, hbk, r⟩, h2⟩ := h.own
  exact ⟨⟨D, ⟨es, clock, by rw [hb.block m (by have := (Array.getElem?_eq_some_iff.1 hbk).1; omega)]; exact hbk, r⟩, h2⟩⟩
theorem St.mono {m n n' : Nat} {S : UInt64 → Nat} {w : World} (h : St m n S w) (hn : n ≤ n') : St m n' S w := by
  obtain ⟨D, ho, h2⟩ := h.own
  exact ⟨⟨D, ho.mono hn, h2⟩⟩
theorem St.cong {m n : Nat} {S S' : UInt64 → Nat} {w : World} (h : St m n S w) (e : S = S') : St m n S' w := e ▸ h
theorem wfI (s : Nat) (h : s ≤ 1000) : (Lit.int .i64 (s : Int)).wf = true := by
  simp [Lit.wf, IntKind.min, IntKind.max, IntKind.signed, IntKind.bits]; omega

/-- What c is told as: its voters, its learners. -/
def seatF (V L : List UInt64) : UInt64 → Nat := fun x => if x ∈ L then 2 else if x ∈ V then 1 else 0
theorem mem_snoc (V : List UInt64) (k : Nat) (h : k < V.length) (x : UInt64) : x ∈ V.take (k + 1) ↔ x ∈ V.take k ∨ x = V[k] := by
  rw [List.take_succ_eq_append_getElem h, List.mem_append, List.mem_singleton]
theorem seatF_v (V : List UInt64) (k : Nat) (h : k < V.length) : upd (seatF (V.take k) []) V[k] 1 = seatF (V.take (k + 1)) [] := by
  funext x
  have hm := mem_snoc V k h x
  unfold upd seatF
  by_cases hx : x = V[k]
  · rw [if_pos hx, if_neg List.not_mem_nil, if_pos (hm.2 (.inr hx))]
  · simp only [if_neg hx, if_neg (List.not_mem_nil (a := x))]
    by_cases h2 : x ∈ V.take k
    · rw [if_pos h2, if_pos (hm.2 (.inl h2))]
    · rw [if_neg h2, if_neg (fun q => (hm.1 q).elim h2 hx)]
theorem seatF_l (V L : List UInt64) (k : Nat) (h : k < L.length) : upd (seatF V (L.take k)) L[k] 2 = seatF V (L.take (k + 1)) := by
  funext x
  have hm := mem_snoc L k h x
  unfold upd seatF
  by_cases hx : x = L[k]
  · rw [if_pos hx, if_pos (hm.2 (.inr hx))]
  · rw [if_neg hx]
    by_cases h2 : x ∈ L.take k
    · rw [if_pos h2, if_pos (hm.2 (.inl h2))]
    · rw [if_neg h2, if_neg (fun q => (hm.1 q).elim h2 hx)]

set_option maxHeartbeats 2000000 in
theorem seats_any {x y z : Value} {c : Cn} {w : World} (hr : Rc w x y z c) (hl : c.1.length + c.2.2.length ≤ 1099511627776) :
    Calls Try.prog 54 #[.agg #[x, y, z]] w fun e w' => ∃ m, e = .returned (.map (some m)) ∧ w.heap.size ≤ m ∧ St m (c.1.length + c.2.2.length) (seatF c.1 c.2.2) w' ∧ Below w.heap.size w w' := by
  obtain ⟨V, O, L⟩ := c
  obtain ⟨h1, h2, h3⟩ := hr
  simp only [] at h1 h2 h3 hl
  obtain ⟨av, cv, rfl, v1, v2, _, v4⟩ := h1
  obtain ⟨ay, cy, rfl⟩ := h2.shape
  obtain ⟨az, cz, rfl, z1, z2, _, z4⟩ := h3
  unfold maxLen at v2 z2
  have hB1 : Below w.heap.size w (w.alloc (.cells #[.slice av V.length cv, .slice ay O.length cy, .slice az L.length cz] 24)) := u_al w _
  have hB2 : Below w.heap.size w ((w.alloc (.cells #[.slice av V.length cv, .slice ay O.length cy, .slice az L.length cz] 24)).alloc (.map #[] 0)) := hB1.alloc (by simp) _
  have hBx : Below (w.heap.size + 1) (w.alloc (.cells #[.slice av V.length cv, .slice ay O.length cy, .slice az L.length cz] 24)) ((w.alloc (.cells #[.slice av V.length cv, .slice ay O.length cy, .slice az L.length cz] 24)).alloc (.map #[] 0)) := (Below.refl _ _).alloc (by simp) _
  have hS0 : St (w.heap.size + 1) 0 (seatF [] []) ((w.alloc (.cells #[.slice av V.length cv, .slice ay O.length cy, .slice az L.length cz] 24)).alloc (.map #[] 0)) := by
    have h := World.ownsMap_made (H := Unit) (w.alloc (.cells #[.slice av V.length cv, .slice ay O.length cy, .slice az L.length cz] 24)) Try.prog 35 (plainElem Try.prog 3)
    rw [World.size_alloc] at h
    exact ⟨⟨_, h, fun x => by simp [seatF, DataW.atKey], fun x => by simp [seatF, Maps.has]⟩⟩
  have hmm := @run_makeMap Try.prog
  have HKC : Hid (∀ W, Below (w.heap.size + 1) (w.alloc (.cells #[.slice av V.length cv, .slice ay O.length cy, .slice az L.length cz] 24)) W → W.cell? ⟨w.heap.size, 2, none⟩ = some (.slice az L.length cz)) := fun W hW => (box3 hW rfl).2.2
  go_enter Try.func54, Try.ntmps54
  go_wp2_with fail
  generalize ((w.alloc (.cells #[.slice av V.length cv, .slice ay O.length cy, .slice az L.length cz] 24)).alloc (.map #[] 0)) = W0 at *
  clear hmm
  go_loopw [5, 12] (fun _ i wr => ∃ k : Nat, k ≤ V.length ∧ i = .int .i64 k ∧ St (w.heap.size + 1) k (seatF (V.take k) []) wr ∧ Below w.heap.size w wr ∧ Below (w.heap.size + 1) (w.alloc (.cells #[.slice av V.length cv, .slice ay O.length cy, .slice az L.length cz] 24)) wr) (fun _ i _ => V.length - (intOf i).toNat)
  case atStart => exact ⟨0, Nat.zero_le _, rfl, by simpa using hS0, hB2, hBx⟩
  case round =>
    obtain ⟨k, hk, rfl, hSt, hb, hbx⟩ := hrel
    clear hS0 hB2 hBx
    by_cases hlt : k < V.length
    · obtain ⟨a, rfl, hc⟩ := v4 k hlt
      have hcx : wr.cell? (a.add k) = some (.int .u64 (V[k].toNat : Int)) := by rw [hb.cell (World.block_lt_of_cell? w _ hc)]; exact hc
      have HE : Hid _ := seatF_v V k hlt
      obtain ⟨D, hown, d1, d2⟩ := hSt.own
      have hD := (hown.tidy Try.lawU).isMap
      have HP : Hid _ := put_at hD d1 d2 V[k] 1 (by decide)
      generalize V[k] = p at *
      clear v4 z4 hSt hc d1 d2
      go_wp2_with (first
        | (at_mapUpdate; refine wpList_mapUpdate_own _ rfl _ _ _ 77 rfl 35 3 Try.lawU Try.underlying77 _ (w.heap.size + 1) k D rfl hown (by unfold maxLen; omega) _ _ _ rfl rfl (keyU p) (dI 1) [] (plainElem_int Try.underlying3 (wfI 1 (by omega))) ?_; intro w1 hown1 hg1; go_frame)
        | fail)
      have hg1b : Below (w.heap.size + 1) wr w1 := (Below.refl _ wr).grown hg1 (by have := hown.lt; omega) (fun j e => by cases e; exact Nat.le_refl _)
      go_roundw
      case rel => exact ⟨k + 1, by omega, by go_num, St.cong ⟨⟨_, hown1, HP.out⟩⟩ HE.out, hb.trans (hg1b.mono (Nat.le_succ _)), hbx.trans hg1b⟩
      case measure => simp [intOf]; omega
    · obtain rfl : k = V.length := by omega
      rw [List.take_length] at hSt
      have hc2 := HKC.out wr hbx
      clear v4
      go_wp2_with fail
      generalize hwr : wr = W1 at *
      clear hwr wr
      go_loopw [7, 22] (fun _ i wr => ∃ k : Nat, k ≤ L.length ∧ i = .int .i64 k ∧ St (w.heap.size + 1) (V.length + k) (seatF V (L.take k)) wr ∧ Below w.heap.size w wr) (fun _ i _ => L.length - (intOf i).toNat)
      case atStart => exact ⟨0, Nat.zero_le _, rfl, by simpa using hSt, hb⟩
      case round =>
        obtain ⟨k, hk, rfl, hSt, hb⟩ := hrel
        by_cases hlt : k < L.length
        · obtain ⟨a, rfl, hc⟩ := z4 k hlt
          have hcx : wr.cell? (a.add k) = some (.int .u64 (L[k].toNat : Int)) := by rw [hb.cell (World.block_lt_of_cell? w _ hc)]; exact hc
          have HE : Hid _ := seatF_l V L k hlt
          obtain ⟨D, hown, d1, d2⟩ := hSt.own
          have hD := (hown.tidy Try.lawU).isMap
          have HP : Hid _ := put_at hD d1 d2 L[k] 2 (by decide)
          generalize L[k] = p at *
          clear z4 hSt hc d1 d2
          go_wp2_with (first
            | (at_mapUpdate; refine wpList_mapUpdate_own _ rfl _ _ _ 77 rfl 35 3 Try.lawU Try.underlying77 _ (w.heap.size + 1) (V.length + k) D rfl hown (by unfold maxLen; omega) _ _ _ rfl rfl (keyU p) (dI 2) [] (plainElem_int Try.underlying3 (wfI 2 (by omega))) ?_; intro w1 hown1 hg1; go_frame)
            | fail)
          have hg1b : Below w.heap.size wr w1 := (Below.refl _ wr).grown hg1 (by have := hown.lt; omega) (fun j e => by cases e; exact Nat.le_succ _)
          go_roundw
          case rel => exact ⟨k + 1, by omega, by go_num, St.cong ⟨⟨_, hown1, HP.out⟩⟩ HE.out, hb.trans hg1b⟩
          case measure => simp [intOf]; omega
        · obtain rfl : k = L.length := by omega
          rw [List.take_length] at hSt
          clear z4
          go_wp2_with fail
          go_ret
          exact ⟨_, rfl, Nat.le_succ _, hSt, hb⟩

/-- What a change makes of the seats. -/
def chg1 (S : UInt64 → Nat) (k : Int) (p : UInt64) : Option (UInt64 → Nat) :=
  if p = 0 then none else if k = 1 then some (upd S p 1) else if k = 2 then (if S p = 1 then none else some (upd S p 2)) else if k = 3 then some (upd S p 0) else none

set_option maxHeartbeats 2000000 in
theorem change_any {m n : Nat} {S : UInt64 → Nat} {w : World} (h : St m n S w) (hm : m < w.heap.size) (k : Int) (p : UInt64) (hn : n ≤ 1099511627776) (hs : ∀ x, S x ≤ 2) (hk : -9223372036854775808 ≤ k ∧ k ≤ 9223372036854775807) :
    Calls Try.prog 55 #[.map (some m), .agg #[.int .i64 k, .int .u64 (p.toNat : Int)]] w fun e w' => e = .returned (.int .i64 (if (chg1 S k p).isSome then 0 else 70)) ∧ St m (n + 1) ((chg1 S k p).getD S) w' ∧ Chg (fun b => b = m) w w' := by
  have hSt := h.below (u_al w (.cells #[.int .i64 k, .int .u64 (p.toNat : Int)] 59)) (Nat.le_refl _)
  have hcA : Chg (fun b => b = m) w (w.alloc (.cells #[.int .i64 k, .int .u64 (p.toNat : Int)] 59)) := (Chg.refl _ w).alloc _
  have c0 : (w.alloc (.cells #[.int .i64 k, .int .u64 (p.toNat : Int)] 59)).cell? ⟨w.heap.size, 0, none⟩ = some (.int .i64 k) := by rw [World.cell?_alloc_at _ _ _ _ rfl]; rfl
  have c1 : (w.alloc (.cells #[.int .i64 k, .int .u64 (p.toNat : Int)] 59)).cell? ⟨w.heap.size, 1, none⟩ = some (.int .u64 (p.toNat : Int)) := by rw [World.cell?_alloc_at _ _ _ _ rfl]; rfl
  have hsz : (w.alloc (.cells #[.int .i64 k, .int .u64 (p.toNat : Int)] 59)).heap.size = w.heap.size + 1 := by simp
  obtain ⟨D, hown, d1, d2⟩ := hSt.own
  have hD := (hown.tidy Try.lawU).isMap
  have HP1 : Hid _ := put_at hD d1 d2 p 1 (by decide)
  have HP2 : Hid _ := put_at hD d1 d2 p 2 (by decide)
  have HP3 : Hid _ := del_at d1 d2 p
  have HD : Hid (∀ x, D.atKey (kU x) (dI 0) = dI (S x)) := d1
  have HS0 : Hid _ := hSt.mono (Nat.le_succ n)
  clear h hSt d1 d2 hD
  by_cases hp0 : p = 0
  · subst hp0
    have e : chg1 S k 0 = none := by unfold chg1; rw [if_pos rfl]
    rw [e]
    go_enter Try.func55, Try.ntmps55
    go_wp2_with fail
    go_ret
    exact ⟨rfl, HS0.out, hcA⟩
  · have hpn : ((p.toNat : Int) == 0) = false := by
      simp only [beq_eq_false_iff_ne, ne_eq]
      intro q
      exact hp0 (UInt64.toNat_inj.1 (by simpa using q))
    by_cases h1 : k = 1
    · subst h1
      have e : chg1 S 1 p = some (upd S p 1) := by unfold chg1; rw [if_neg hp0, if_pos rfl]
      rw [e]
      clear e
      go_enter Try.func55, Try.ntmps55
      go_wp2_with (first
        | (at_mapUpdate; refine wpList_mapUpdate_own _ rfl _ _ _ 77 rfl 35 3 Try.lawU Try.underlying77 _ m n D rfl hown (by unfold maxLen; omega) _ _ _ rfl rfl (keyU p) (dI 1) [] (plainElem_int Try.underlying3 (wfI 1 (by omega))) ?_; intro w1 hown1 hg1)
        | fail)
      go_ret
      exact ⟨rfl, ⟨⟨_, hown1, HP1.out⟩⟩, hcA.trans ((Chg.of_grown hg1 (fun b e _ => Option.some.inj e.symm ▸ rfl)).mono (fun b _ q => .inl q))⟩
    · by_cases h2 : k = 2
      · subst h2
        by_cases hS1 : S p = 1
        · have e : chg1 S 2 p = none := by unfold chg1; rw [if_neg hp0, if_neg (by decide), if_pos rfl, if_pos hS1]
          rw [e]
          clear e
          go_enter Try.func55, Try.ntmps55
          go_wp2_with (first
            | (at_lookup; refine wpList_lookup_own_int _ rfl _ _ 77 rfl 35 3 .i64 Try.lawU Try.underlying77 Try.underlying3 (Try.zeroI _) m n D rfl hown _ _ rfl (keyU p) ?_; intro c hat hwc; obtain rfl : c = 1 := by (have h0 := HD.out p; rw [hS1] at h0; rw [show (DataW.lit (.int .i64 0) : DataW Unit) = dI 0 from rfl, h0] at hat; simpa [dI] using hat.symm))
            | fail)
          go_ret
          exact ⟨rfl, HS0.out, hcA⟩
        · have e : chg1 S 2 p = some (upd S p 2) := by unfold chg1; rw [if_neg hp0, if_neg (by decide), if_pos rfl, if_neg hS1]
          rw [e]
          clear e
          have hsi : ((S p : Int) == 1) = false := by
            simp only [beq_eq_false_iff_ne, ne_eq]; omega
          go_enter Try.func55, Try.ntmps55
          go_wp2_with (first
            | (at_lookup; refine wpList_lookup_own_int _ rfl _ _ 77 rfl 35 3 .i64 Try.lawU Try.underlying77 Try.underlying3 (Try.zeroI _) m n D rfl hown _ _ rfl (keyU p) ?_; intro c hat hwc; obtain rfl : c = (S p : Int) := by (have h0 := HD.out p; rw [show (DataW.lit (.int .i64 0) : DataW Unit) = dI 0 from rfl, h0] at hat; simpa [dI] using hat.symm))
            | (at_mapUpdate; refine wpList_mapUpdate_own _ rfl _ _ _ 77 rfl 35 3 Try.lawU Try.underlying77 _ m n D rfl hown (by unfold maxLen; omega) _ _ _ rfl rfl (keyU p) (dI 2) [] (plainElem_int Try.underlying3 (wfI 2 (by omega))) ?_; intro w1 hown1 hg1)
            | fail)
          go_ret
          exact ⟨rfl, ⟨⟨_, hown1, HP2.out⟩⟩, hcA.trans ((Chg.of_grown hg1 (fun b e _ => Option.some.inj e.symm ▸ rfl)).mono (fun b _ q => .inl q))⟩
      · by_cases h3 : k = 3
        · subst h3
          have e : chg1 S 3 p = some (upd S p 0) := by unfold chg1; rw [if_neg hp0, if_neg (by decide), if_neg (by decide), if_pos rfl]
          rw [e]
          clear e
          go_enter Try.func55, Try.ntmps55
          go_wp2_with (first
            | (at_delete; refine wpList_delete_own _ rfl _ _ 77 35 rfl 3 Try.lawU Try.underlying77 _ m n D rfl hown _ _ rfl (keyU p) ?_; intro w1 hown1 hturn1)
            | fail)
          go_ret
          exact ⟨rfl, ⟨⟨_, hown1.mono (Nat.le_succ n), HP3.out⟩⟩, hcA.trans ((Chg.of_grown hturn1.grown (fun b e _ => Option.some.inj e.symm ▸ rfl)).mono (fun b _ q => .inl q))⟩
        · have e : chg1 S k p = none := by unfold chg1; rw [if_neg hp0, if_neg h1, if_neg h2, if_neg h3]
          rw [e]
          have k1 : (k == 1) = false := by simpa using h1
          have k2 : (k == 2) = false := by simpa using h2
          have k3 : (k == 3) = false := by simpa using h3
          clear e h1 h2 h3
          go_enter Try.func55, Try.ntmps55
          go_wp2_with fail
          go_ret
          exact ⟨rfl, HS0.out, hcA⟩
end Go.Proofs.Ytgienommkifbnaa

/- What of answers: all peers with a seat, rising. -/
namespace Go.Proofs.Ytgienommkifbnaa
open Go.RowKit Go.Maps
set_option linter.unusedVariables false
set_option maxRecDepth 100000

theorem same_kU (x y : UInt64) : (kU x).sameKey (kU y) = decide (x = y) := by
  by_cases h : x = y
  · subst h
    rw [WideAt.sameKey_self (show WideAt.IsKeyLit (kU x) from trivial)]; simp
  · have : (kU x).sameKey (kU y) = false := by
      have hne : ¬ (x.toNat : Int) = (y.toNat : Int) := fun e => h (UInt64.toNat_inj.1 (by omega))
      simp [kU, Lit.sameKey, hne]
    rw [this]; simp [h]
theorem pairwise_ris {l l' : List UInt64} (hn : l.Nodup) (hp : l'.Perm l) (hs : l'.Pairwise (fun x y => x.toNat ≤ y.toNat)) : Ris l' := by
  have hn' : l'.Nodup := hp.nodup_iff.2 hn
  refine List.Pairwise.imp₂ (R := fun x y : UInt64 => x.toNat ≤ y.toNat) (S := fun x y => x ≠ y) ?_ hs hn'
  intro a b h1 h2
  have : a.toNat ≠ b.toNat := fun e => h2 (UInt64.toNat_inj.1 e)
  omega

set_option maxHeartbeats 2000000 in
theorem of_any {N : Nat} (hSo : SortsTo N) {m n : Nat} {S : UInt64 → Nat} {w : World} (h : St m n S w) (hm : m < w.heap.size) (s : Nat) (hs0 : s ≠ 0) (hs2 : s ≤ 1000) (hn : n ≤ N) (hN : N ≤ 1099511627776) :
    Calls Try.prog 56 #[.map (some m), .int .i64 s] w fun e w' => ∃ v l, e = .returned v ∧ Ou w.heap.size w' v l ∧ Ris l ∧ (∀ x, x ∈ l ↔ S x = s) ∧ l.length ≤ n ∧ Below w.heap.size w w' := by
  obtain ⟨D, hown, d1, d2⟩ := h.own
  have hsl := hown.size_le
  have HD1 : Hid _ := d1
  have HD2 : Hid _ := d2
  clear d1 d2 h
  go_enter Try.func56, Try.ntmps56
  go_wp2_with (first
    | (at_range; refine wpList_range_own _ rfl _ 77 rfl 35 3 Try.lawU Try.underlying77 _ m n D rfl hown ?_; intro w0 hrg0 hg0 hs0')
    | fail)
  go_frame
  have hb0 : Below w.heap.size w w0 := (Below.refl _ w).grown hg0 (Nat.le_refl _) (fun j e => by cases e)
  go_loopw [5, 6, 7] (fun lv _ _ wr => ∃ (left : Lit → Bool) (cnt : Nat) (l : List UInt64), wr.ranges Try.prog 35 (plainElem Try.prog 3) m w.heap.size n D left cnt ∧ Ou (w.heap.size + 1) wr lv l ∧ l.Nodup ∧ Hid (∀ x, x ∈ l ↔ S x = s ∧ left (kU x) = false) ∧ l.length + cnt ≤ n ∧ Below w.heap.size w wr) (fun _ _ _ wr => wr.rangeLeft m w.heap.size)
  case atStart => exact ⟨_, _, [], hrg0, Ou.nil _ _, List.nodup_nil, fun x => by rw [HD2.out x]; simp; intro e; omega, by simp; exact hsl, hb0⟩
  case round =>
    obtain ⟨left, cnt, l, hrg, ho, hnd, HM, hlc, hb⟩ := hrel
    clear hrg0 hg0 hown hb0
    have hB := hb.size
    have hrl := hrg.lt
    go_wp2_with (first
      | (at_next; refine wpList_next_ranges_ii _ rfl _ rfl 35 3 .u64 .i64 Try.lawU Try.underlying35 Try.underlying3 m w.heap.size n _ _ _ rfl hrg ?_ ?_)
      | fail)
    · intro _ hl0
      have HM2 : Hid (∀ x, x ∈ l ↔ S x = s) := fun x => by rw [HM.out x]; simp [hl0]
      clear HM
      go_wp2_with fail
      refine (hSo (w.heap.size + 1) wr _ l ho (by omega)).mono ?_
      rintro e w2 ⟨rfl, ⟨l', ho2, hp, hso⟩, hc2⟩
      go_wp2_with fail
      go_ret
      refine ⟨_, l', rfl, ho2.mono (Nat.le_succ _), pairwise_ris hnd hp hso, fun x => by rw [hp.mem_iff]; exact HM2.out x, by rw [hp.length_eq]; omega, hb.trans (hc2.below (fun b e => by have := (ho.lt b e).1; omega) hB)⟩
    · intro x c w1 cnt1 hwx hwc hlx hat hrg1 hlt hg1 hs1 hen
      obtain ⟨p, rfl⟩ : ∃ p : UInt64, x = (p.toNat : Int) := by
        have hx : 0 ≤ x ∧ x ≤ 18446744073709551615 := by simpa [Lit.wf, IntKind.min, IntKind.max, IntKind.signed, IntKind.bits] using hwx
        refine ⟨UInt64.ofNat x.toNat, ?_⟩
        rw [UInt64.toNat_ofNat']
        omega
      obtain rfl : c = (S p : Int) := by
        have h1 := hat (dI 0)
        rw [show (Lit.int .u64 (p.toNat : Int)) = kU p from rfl, HD1.out p] at h1
        simpa [dI] using h1.symm
      have hgb : Below w.heap.size wr w1 := (Below.refl _ wr).grown hg1 hB (fun j e => by cases e; exact Nat.le_refl _)
      have ho1 : Ou (w.heap.size + 1) w1 _ l := ho.kept hg1 (fun b e q => by have := (ho.lt b e).1; cases q; omega)
      have hlp : left (kU p) = true := hlx
      have hnp : p ∉ l := fun q => by have := ((HM.out p).1 q).2; rw [hlp] at this; cases this
      have HL : Hid (∀ y, (left (kU y) && !(kU y).sameKey (Lit.int .u64 (p.toNat : Int))) = (left (kU y) && !decide (y = p))) := fun y => by
        rw [show (Lit.int .u64 (p.toNat : Int)) = kU p from rfl, same_kU]
      have hlt1 : l.length + cnt1 + 1 ≤ n := by omega
      have hcl : w1.rangeLeft m w.heap.size < wr.rangeLeft m w.heap.size := by rw [hrg1.left_eq, hrg.left_eq]; exact hlt
      have hml : m < w1.heap.size := hrg1.owns.lt
      have hr1 := hrg1.lt
      have hmr := hrg1.ne
      have hBw1 : w.heap.size ≤ w1.heap.size := by omega
      clear hat hwx hwc hlx hrg hlp hs1
      by_cases hc : S p = s
      · have hci : ((S p : Int) == (s : Int)) = true := by simp [hc]
        have HM2 : Hid (∀ y, y ∈ l ++ [p] ↔ S y = s ∧ (left (kU y) && !(kU y).sameKey (Lit.int .u64 (p.toNat : Int))) = false) := fun y => by
          rw [HL.out y, List.mem_append, List.mem_singleton, HM.out y]
          by_cases hy : y = p
          · subst hy; simp [hc]
          · simp [hy]
        have hnd2 : (l ++ [p]).Nodup := by
          rw [List.nodup_append]
          exact ⟨hnd, by simp, fun a ha b hb e => by rw [List.mem_singleton] at hb; subst hb; subst e; exact hnp ha⟩
        clear HM hnd
        go_wp2_with (first | (at_builtin; refine wpList_appU rfl _ _ rfl (w.heap.size + 1) _ l rfl (ho1.alloc _) _ [p] rfl (ru_one _ _ _ ?e1 _ _ rfl) ?e2 ?e3 ?_; rotate_right; intro v4 w4 ho4 hg4 hw4) | fail)
        case e1 => rfl
        case e2 => simp; omega
        case e3 => simp; omega
        have hrg4 := (hrg1.alloc (.cells #[.int .u64 (p.toNat : Int)] 35)).kept hg4 (fun e => by have := (ho1.lt m e.symm).1; omega) (fun e => by have := (ho1.lt _ e.symm).1; omega)
        have hb4 : Below w.heap.size w w4 := (hb.trans hgb).trans (((Below.refl w.heap.size w1).alloc (by omega) _).trans ((Below.refl w.heap.size _).grown hg4 (by simp; omega) (fun k e => by have := (ho1.lt k e).1; omega)))
        have hcl4 : w4.rangeLeft m w.heap.size < wr.rangeLeft m w.heap.size := by rw [hrg4.left_eq, ← hrg1.left_eq]; exact hcl
        refine ⟨⟨_, cnt1, l ++ [p], hrg4, ho4, hnd2, HM2, by simp; omega, hb4⟩, hcl4⟩
      · have hci : ((S p : Int) == (s : Int)) = false := by simp; omega
        have HM2 : Hid (∀ y, y ∈ l ↔ S y = s ∧ (left (kU y) && !(kU y).sameKey (Lit.int .u64 (p.toNat : Int))) = false) := fun y => by
          rw [HL.out y, HM.out y]
          by_cases hy : y = p
          · subst hy; simp [hc]
          · simp [hy]
        clear HM
        go_wp2_with fail
        exact ⟨⟨_, cnt1, l, hrg1, ho1, hnd, HM2, by omega, hb.trans hgb⟩, hcl⟩
end Go.Proofs.Ytgienommkifbnaa

/- What takeNumbers answers of any bytes, and the document's read. -/
namespace Go.Proofs.Ytgienommkifbnaa
open Go.RowKit
set_option linter.unusedVariables false
set_option maxRecDepth 100000

theorem nF_none (fs : List (List UInt8)) (k : Nat) (acc : List UInt64) (f : List UInt8) (hf : fs[k]? = some f) (h : M.nF fs = (M.nF (fs.drop k)).map (acc ++ ·)) (hn : ¬ ((M.tv f).2.2 = 0 ∧ (M.tv f).2.1 = [])) : M.nF fs = none := by
  obtain ⟨hk, e⟩ := List.getElem?_eq_some_iff.1 hf
  rw [h, List.drop_eq_getElem_cons hk, M.nF, e, if_neg hn]; rfl
theorem nF_step (fs : List (List UInt8)) (k : Nat) (acc : List UInt64) (f : List UInt8) (hf : fs[k]? = some f) (h : M.nF fs = (M.nF (fs.drop k)).map (acc ++ ·)) (hn : (M.tv f).2.2 = 0 ∧ (M.tv f).2.1 = []) : M.nF fs = (M.nF (fs.drop (k + 1))).map ((acc ++ [UInt64.ofNat (M.tv f).1]) ++ ·) := by
  obtain ⟨hk, e⟩ := List.getElem?_eq_some_iff.1 hf
  rw [h, List.drop_eq_getElem_cons hk, M.nF, e, if_pos hn]
  cases M.nF (fs.drop (k + 1)) <;> simp

theorem tr_len (l : List UInt8) : (M.tr l).1.length ≤ l.length := by
  unfold M.tr
  have h1 := tv_len l
  have h3 : ∀ (k : Nat) (m : List UInt8), (M.rf k m).1.length ≤ k := by
    intro k
    induction k with
    | zero => intro m; simp [M.rf]
    | succ k ih =>
      intro m
      rw [M.rf]
      split
      · simp
      · split
        · simp
        · split
          · simp
          · simp only [List.length_cons]; have := ih ((M.tv m).2.1.drop (M.tv m).1); omega
  split
  · simp
  · split
    · simp
    · split
      · simp
      · split
        · simp
        · have := h3 (M.tv l).1 (M.tv l).2.1; simp only []; omega

theorem rf_mem (k : Nat) : ∀ (m : List UInt8) (f : List UInt8), f ∈ (M.rf k m).1 → f.length ≤ m.length := by
  induction k with
  | zero => intro m f hf; simp [M.rf] at hf
  | succ k ih =>
    intro m f hf
    have h1 := tv_len m
    rw [M.rf] at hf
    split at hf
    · simp at hf
    · split at hf
      · simp at hf
      · split at hf
        · simp at hf
        · simp only [List.mem_cons] at hf
          rcases hf with rfl | hf
          · rw [List.length_take]; omega
          · have := ih _ f hf; rw [List.length_drop] at this; omega
theorem tr_mem (l f : List UInt8) (hf : f ∈ (M.tr l).1) : f.length ≤ l.length := by
  have h1 := tv_len l
  unfold M.tr at hf
  split at hf
  · simp at hf
  · split at hf
    · simp at hf
    · split at hf
      · simp at hf
      · split at hf
        · simp at hf
        · have := rf_mem _ _ f hf; omega

set_option maxHeartbeats 2000000 in
theorem takenums_any {v : Value} {l : List UInt8} {w : World} (hr : Rd w v l) (hl : l.length ≤ 1099511627776) :
    Calls Try.prog 43 #[v] w fun e w' => ∃ (v' : Value) (er : Nat), e = .returned (.tuple #[v', .int .i64 er]) ∧ (er = 0 ↔ (M.dn l).isSome = true) ∧ Ou w.heap.size w' v' ((M.dn l).getD []) ∧ Below w.heap.size w w' := by
  have htr := takerow_any hr hl
  have hlen := tr_len l
  have hmem := tr_mem l
  unfold M.dn
  generalize M.tr l = T at *
  obtain ⟨fs, er⟩ := T
  simp only [] at *
  by_cases her : er = 0
  · subst her
    rw [if_pos rfl]
    generalize hR : M.nF fs = R
    have HR : Hid _ := hR
    clear hR
    go_enter Try.func43, Try.ntmps43
    go_wp2_with fail
    refine htr.mono ?_
    rintro e w1 ⟨v1, us, rfl, hos, hb1⟩
    clear htr
    have hrds := hos.rds
    obtain ⟨ao, c, rfl, h1, h2, h4⟩ := hos.rds
    unfold maxLen at h2
    go_wp2_with fail
    go_loopw [6, 8, 9, 10, 11, 22] (fun lv _ _ _ _ i wr => ∃ (k : Nat) (acc : List UInt64), k ≤ fs.length ∧ i = .int .i64 k ∧ acc.length = k ∧ Hid (R = (M.nF (fs.drop k)).map (acc ++ ·)) ∧ Ou w1.heap.size wr lv acc ∧ Below w1.heap.size w1 wr) (fun _ _ _ _ _ i _ => fs.length - (intOf i).toNat)
    case atStart => exact ⟨0, [], Nat.zero_le _, rfl, rfl, by show R = _; rw [← HR.out]; simp, Ou.nil _ _, Below.refl _ _⟩
    case round =>
      obtain ⟨k, acc, hk, rfl, hal, HA, hou, hb⟩ := hrel
      have hB := hb.size
      have hb1s := hb1.size
      have hrd := hrds.below hb (Nat.le_refl _)
      clear hos hrds h4
      by_cases hlt : k < fs.length
      · have HRD : Hid _ := hrd
        obtain ⟨ao', c', e0, _, _, h4⟩ := hrd
        simp only [Value.slice.injEq, true_and] at e0
        obtain ⟨rfl, rfl⟩ := e0
        obtain ⟨a, u, rfl, hc, hru⟩ := h4 k hlt
        clear h4
        have hf : fs[k]? = some fs[k] := List.getElem?_eq_getElem hlt
        have hfl : fs[k].length ≤ 1099511627776 := by
          have := hmem fs[k] (List.getElem_mem hlt)
          omega
        have HN : Hid (¬ ((M.tv fs[k]).2.2 = 0 ∧ (M.tv fs[k]).2.1 = []) → R = none) := fun hn => by rw [← HR.out]; exact nF_none fs k acc _ hf (HR.out.trans HA.out) hn
        have HS : Hid ((M.tv fs[k]).2.2 = 0 ∧ (M.tv fs[k]).2.1 = [] → R = (M.nF (fs.drop (k + 1))).map ((acc ++ [UInt64.ofNat (M.tv fs[k]).1]) ++ ·)) := fun hn => by rw [← HR.out]; exact nF_step fs k acc _ hf (HR.out.trans HA.out) hn
        have htv := takeV_any hru (by omega)
        have htl := tv_lt fs[k]
        obtain ⟨au, cu, rfl, u1, u2, hx1, hx2⟩ := hru
        clear hx1 hx2
        generalize M.tv fs[k] = F at *
        generalize fs[k].length = fl at *
        clear hf HA hmem
        obtain ⟨n, rest, fe⟩ := F
        simp only [] at *
        by_cases hfe : fe ≠ 0
        · have hne : (((fe : Nat) : Int) != 0) = true := by simp; omega
          obtain rfl := HN.out (fun q => hfe q.1)
          clear HN HS
          go_wp2_with fail
          refine htv.mono ?_
          rintro e w2 ⟨u2, rfl, hu2, hb2⟩
          go_wp2_with fail
          go_ret2
          exact ⟨_, 12, rfl, by simp, Ou.nil _ _, hb1.trans ((hb.trans (hb2.mono hB)).mono hb1s)⟩
        · obtain rfl : fe = 0 := by omega
          by_cases hre : rest = []
          · subst hre
            have HS2 : Hid _ := HS.out ⟨rfl, rfl⟩
            clear HN HS
            go_wp2_with fail
            refine htv.mono ?_
            rintro e w2 ⟨u2, rfl, hu2, hb2⟩
            obtain ⟨a2, c2, rfl⟩ := hu2.shape
            have hou2 := hou.below hb2 (Nat.le_refl _)
            have hb3 := hb.trans (hb2.mono hB)
            have hB3 := hb3.size
            go_wp2_with (first | (at_builtin; refine wpList_appU rfl _ _ rfl w1.heap.size _ acc rfl (hou2.alloc _) _ [UInt64.ofNat n] rfl (ru_one _ _ _ ?e1 _ _ rfl) ?e2 ?e3 ?_; rotate_right; intro v4 w4 ho4 hg4 hw4) | fail)
            case e1 => simp; omega
            case e2 => simp; omega
            case e3 => simp; omega
            have hbz : Below w1.heap.size w1 w4 := hb3.trans (((Below.refl w1.heap.size w2).alloc hB3 _).trans ((Below.refl w1.heap.size _).grown hg4 (by simp; omega) (fun k hk => (hou2.lt k hk).1)))
            refine ⟨⟨k + 1, acc ++ [UInt64.ofNat n], by omega, by go_num, by simp [hal], HS2, ho4, hbz⟩, by simp [intOf]; omega⟩
          · obtain rfl := HN.out (fun q => hre q.2)
            have hrl : 0 < rest.length := by cases rest with | nil => exact absurd rfl hre | cons => simp
            clear HN HS
            go_wp2_with fail
            refine htv.mono ?_
            rintro e w2 ⟨u2, rfl, hu2, hb2⟩
            obtain ⟨a2, c2, rfl⟩ := hu2.shape
            go_wp2_with fail
            go_ret2
            exact ⟨_, 12, rfl, by simp, Ou.nil _ _, hb1.trans ((hb.trans (hb2.mono hB)).mono hb1s)⟩
      · obtain rfl : k = fs.length := by omega
        have hR2 : R = some acc := by rw [HA.out]; simp [M.nF]
        subst hR2
        go_wp2_with fail
        go_ret2
        exact ⟨_, 0, rfl, by simp, hou.mono hb1s, hb1.trans (hb.mono hb1s)⟩
  · rw [if_neg her]
    have hne : (((er : Nat) : Int) != 0) = true := by simp; omega
    go_enter Try.func43, Try.ntmps43
    go_wp2_with fail
    refine htr.mono ?_
    rintro e w1 ⟨v1, us, rfl, hos, hb1⟩
    go_wp2_with fail
    go_ret2
    exact ⟨_, er, rfl, by simp [her], Ou.nil _ _, hb1⟩

set_option maxHeartbeats 2000000 in
theorem rread_any {v : Value} {l : List UInt8} {w : World} (hr : Rd w v l) (hl : l.length ≤ 1099511627776) :
    Calls Try.prog 67 #[v] w fun e w' => ∃ v' : Value, e = .returned (.tuple #[v', .bool (M.dn l).isSome]) ∧ Ou w.heap.size w' v' ((M.dn l).getD []) ∧ Below w.heap.size w w' := by
  have htr := rtakerow_any hr hl
  have hlen := tr_len l
  have hmem := tr_mem l
  unfold M.dn
  generalize M.tr l = T at *
  obtain ⟨fs, er⟩ := T
  simp only [] at *
  by_cases her : er = 0
  · subst her
    rw [if_pos rfl]
    generalize hR : M.nF fs = R
    have HR : Hid _ := hR
    clear hR
    go_enter Try.func67, Try.ntmps67
    go_wp2_with fail
    refine htr.mono ?_
    rintro e w1 ⟨v1, us, rfl, hos, hb1⟩
    clear htr
    have hrds := hos.rds
    obtain ⟨ao, c, rfl, h1, h2, h4⟩ := hos.rds
    unfold maxLen at h2
    go_wp2_with fail
    go_loopw [6, 7, 8, 9, 10] (fun lv i _ _ _ wr => ∃ (k : Nat) (acc : List UInt64), k ≤ fs.length ∧ i = .int .i64 k ∧ acc.length = k ∧ Hid (R = (M.nF (fs.drop k)).map (acc ++ ·)) ∧ Ou w1.heap.size wr lv acc ∧ Below w1.heap.size w1 wr) (fun _ i _ _ _ _ => fs.length - (intOf i).toNat)
    case atStart => exact ⟨0, [], Nat.zero_le _, rfl, rfl, by show R = _; rw [← HR.out]; simp, Ou.nil _ _, Below.refl _ _⟩
    case round =>
      obtain ⟨k, acc, hk, rfl, hal, HA, hou, hb⟩ := hrel
      have hB := hb.size
      have hb1s := hb1.size
      have hrd := hrds.below hb (Nat.le_refl _)
      clear hos hrds h4
      by_cases hlt : k < fs.length
      · have HRD : Hid _ := hrd
        obtain ⟨ao', c', e0, _, _, h4⟩ := hrd
        simp only [Value.slice.injEq, true_and] at e0
        obtain ⟨rfl, rfl⟩ := e0
        obtain ⟨a, u, rfl, hc, hru⟩ := h4 k hlt
        clear h4
        have hf : fs[k]? = some fs[k] := List.getElem?_eq_getElem hlt
        have hfl : fs[k].length ≤ 1099511627776 := by
          have := hmem fs[k] (List.getElem_mem hlt)
          omega
        have HN : Hid (¬ ((M.tv fs[k]).2.2 = 0 ∧ (M.tv fs[k]).2.1 = []) → R = none) := fun hn => by rw [← HR.out]; exact nF_none fs k acc _ hf (HR.out.trans HA.out) hn
        have HS : Hid ((M.tv fs[k]).2.2 = 0 ∧ (M.tv fs[k]).2.1 = [] → R = (M.nF (fs.drop (k + 1))).map ((acc ++ [UInt64.ofNat (M.tv fs[k]).1]) ++ ·)) := fun hn => by rw [← HR.out]; exact nF_step fs k acc _ hf (HR.out.trans HA.out) hn
        have htv := rtakeV_any hru (by omega)
        have htl := tv_lt fs[k]
        obtain ⟨au, cu, rfl, u1, u2, hx1, hx2⟩ := hru
        clear hx1 hx2
        generalize M.tv fs[k] = F at *
        generalize fs[k].length = fl at *
        clear hf HA hmem
        obtain ⟨n, rest, fe⟩ := F
        simp only [] at *
        by_cases hfe : fe ≠ 0
        · have hne : (((fe : Nat) : Int) != 0) = true := by simp; omega
          obtain rfl := HN.out (fun q => hfe q.1)
          clear HN HS
          go_wp2_with fail
          refine htv.mono ?_
          rintro e w2 ⟨u2, rfl, hu2, hb2⟩
          go_wp2_with fail
          go_ret2
          exact ⟨_, rfl, Ou.nil _ _, hb1.trans ((hb.trans (hb2.mono hB)).mono hb1s)⟩
        · obtain rfl : fe = 0 := by omega
          by_cases hre : rest = []
          · subst hre
            have HS2 : Hid _ := HS.out ⟨rfl, rfl⟩
            clear HN HS
            go_wp2_with fail
            refine htv.mono ?_
            rintro e w2 ⟨u2, rfl, hu2, hb2⟩
            obtain ⟨a2, c2, rfl⟩ := hu2.shape
            have hou2 := hou.below hb2 (Nat.le_refl _)
            have hb3 := hb.trans (hb2.mono hB)
            have hB3 := hb3.size
            go_wp2_with (first | (at_builtin; refine wpList_appU rfl _ _ rfl w1.heap.size _ acc rfl (hou2.alloc _) _ [UInt64.ofNat n] rfl (ru_one _ _ _ ?e1 _ _ rfl) ?e2 ?e3 ?_; rotate_right; intro v4 w4 ho4 hg4 hw4) | fail)
            case e1 => simp; omega
            case e2 => simp; omega
            case e3 => simp; omega
            have hbz : Below w1.heap.size w1 w4 := hb3.trans (((Below.refl w1.heap.size w2).alloc hB3 _).trans ((Below.refl w1.heap.size _).grown hg4 (by simp; omega) (fun k hk => (hou2.lt k hk).1)))
            refine ⟨⟨k + 1, acc ++ [UInt64.ofNat n], by omega, by go_num, by simp [hal], HS2, ho4, hbz⟩, by simp [intOf]; omega⟩
          · obtain rfl := HN.out (fun q => hre q.2)
            have hrl : 0 < rest.length := by cases rest with | nil => exact absurd rfl hre | cons => simp
            clear HN HS
            go_wp2_with fail
            refine htv.mono ?_
            rintro e w2 ⟨u2, rfl, hu2, hb2⟩
            obtain ⟨a2, c2, rfl⟩ := hu2.shape
            go_wp2_with fail
            go_ret2
            exact ⟨_, rfl, Ou.nil _ _, hb1.trans ((hb.trans (hb2.mono hB)).mono hb1s)⟩
      · obtain rfl : k = fs.length := by omega
        have hR2 : R = some acc := by rw [HA.out]; simp [M.nF]
        subst hR2
        go_wp2_with fail
        go_ret2
        exact ⟨_, rfl, hou.mono hb1s, hb1.trans (hb.mono hb1s)⟩
  · rw [if_neg her]
    have hne : (((er : Nat) : Int) != 0) = true := by simp; omega
    go_enter Try.func67, Try.ntmps67
    go_wp2_with fail
    refine htr.mono ?_
    rintro e w1 ⟨v1, us, rfl, hos, hb1⟩
    go_wp2_with fail
    go_ret2
    exact ⟨_, rfl, Ou.nil _ _, hb1⟩
end Go.Proofs.Ytgienommkifbnaa
