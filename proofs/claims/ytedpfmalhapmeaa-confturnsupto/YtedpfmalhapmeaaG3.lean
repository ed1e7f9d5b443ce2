/- What Check answers of any configuration. -/
import Derived.Test.YtedpfmalhapmeaaG2
import Derived.Sort.LotB
import Derived.Deep.RegionHeld3
namespace Go.Proofs.Ytedpfmalhapmeaa
open Go.RowKit Go.Sort
set_option linter.unusedVariables false
set_option maxRecDepth 100000

/-- All that a configuration has, in one list. -/
def srtd (l : List UInt64) : List UInt64 := l.mergeSort (fun x y => decide (x.toNat ≤ y.toNat))
def mems (c : Cn) : List UInt64 := cmK (srtd (c.1 ++ (c.2.1 ++ c.2.2))) (srtd (c.1 ++ (c.2.1 ++ c.2.2))).length
theorem mems_is (c : Cn) : IsMem c (mems c) := by
  have hs : (srtd (c.1 ++ (c.2.1 ++ c.2.2))).Pairwise (fun x y => x.toNat ≤ y.toNat) := by
    have h := List.pairwise_mergeSort (le := fun x y : UInt64 => decide (x.toNat ≤ y.toNat)) (by intro a b c h1 h2; simp only [decide_eq_true_eq] at *; omega) (by intro a b; simp only [Bool.or_eq_true, decide_eq_true_eq]; omega) (c.1 ++ (c.2.1 ++ c.2.2))
    exact h.imp (fun h => by simpa using h)
  obtain ⟨h1, h2, _⟩ := cmK_sorted _ hs _ (Nat.le_refl _)
  refine ⟨h1, fun x => ?_⟩
  unfold mems
  rw [h2, List.take_length, srtd, (List.mergeSort_perm _ _).mem_iff]
  simp
theorem IsMem.eq {c : Cn} {m : List UInt64} (h : IsMem c m) : m = mems c := h.1.ext (mems_is c).1 (fun x => by rw [h.2, (mems_is c).2])

/-- Is a voter, or one of before. -/
def vt (c : Cn) (p : UInt64) : Bool := decide (p ∈ c.1) || decide (p ∈ c.2.1)
def ok1 (l : List UInt64) : Bool := decide (l.length ≤ 9) && risF 0 l
/-- A configuration of a group. -/
def chk (c : Cn) : Bool := ok1 c.1 && (ok1 c.2.1 && (ok1 c.2.2 && (decide (c.1 ≠ []) && (!(c.2.2.any (vt c)) && decide ((mems c).length ≤ 9)))))

theorem clos_any {x y z : Value} {c : Cn} {p : UInt64} {b : Nat} {W : World} (hr : Rc W x y z c) (hc : W.cell? ⟨b, 0, none⟩ = some x ∧ W.cell? ⟨b, 1, none⟩ = some y ∧ W.cell? ⟨b, 2, none⟩ = some z) :
    Calls Try.prog 35 #[.int .u64 (p.toNat : Int), .pointer (some ⟨b, 0, none⟩)] W fun e w' => e = .returned (.bool (vt c p)) ∧ Below W.heap.size W w' := by
  obtain ⟨c0, c1, c2⟩ := hc
  have hv := votes_any (p := p) hr
  obtain ⟨ax, cx, rfl⟩ := hr.1.shape
  obtain ⟨ay, cy, rfl⟩ := hr.2.1.shape
  obtain ⟨az, cz, rfl⟩ := hr.2.2.shape
  unfold vt
  generalize (decide (p ∈ c.1) || decide (p ∈ c.2.1)) = r at *
  go_enter Try.func35, Try.ntmps35
  go_wp2_with fail
  refine hv.mono ?_
  rintro e w1 ⟨rfl, rfl⟩
  go_wp2_with fail
  go_ret
  exact ⟨rfl, u_al _ _⟩

set_option maxHeartbeats 1000000 in
theorem uifunc_any {v : Value} {l : List UInt64} {x y z : Value} {c : Cn} {b : Nat} {w : World} (hl : Ru w v l) (hr : Rc w x y z c) (hc : w.cell? ⟨b, 0, none⟩ = some x ∧ w.cell? ⟨b, 1, none⟩ = some y ∧ w.cell? ⟨b, 2, none⟩ = some z) :
    Calls Try.prog 36 #[v, .func (.func 35) #[] #[.pointer (some ⟨b, 0, none⟩)]] w fun e w' => e = .returned (.bool (l.any (vt c))) ∧ Below w.heap.size w w' := by
  have hix : Calls Try.prog 56 #[v, .func (.func 35) #[] #[.pointer (some ⟨b, 0, none⟩)]] w fun e w' => ∃ r : Int, e = .returned (.int .i64 r) ∧ (0 ≤ r ↔ (l.any (vt c)) = true) ∧ Below w.heap.size w w' := by
    have hcl : ∀ W p, Below w.heap.size w W → Calls Try.prog 35 #[.int .u64 (p.toNat : Int), .pointer (some ⟨b, 0, none⟩)] W fun e w' => e = .returned (.bool (vt c p)) ∧ Below W.heap.size W w' := fun W p hW => clos_any (hr.below hW (Nat.le_refl _)) (by
      obtain ⟨c0, c1, c2⟩ := hc
      exact ⟨by rw [hW.cell (World.block_lt_of_cell? w _ c0)]; exact c0, by rw [hW.cell (World.block_lt_of_cell? w _ c1)]; exact c1, by rw [hW.cell (World.block_lt_of_cell? w _ c2)]; exact c2⟩)
    generalize vt c = f at *
    obtain ⟨ao, cc, rfl, h1, h2, h3, h4⟩ := hl
    unfold maxLen at h2
    clear hr hc
    go_enter Try.func56, Try.ntmps56
    go_wp2_with fail
    go_loopw [5, 8] (fun _ i wr => ∃ k : Nat, k ≤ l.length ∧ i = .int .i64 k ∧ Hid ((l.take k).any f = false) ∧ Below w.heap.size w wr) (fun _ i _ => l.length - (intOf i).toNat)
    case atStart => exact ⟨0, Nat.zero_le _, rfl, by show _ = _; simp, Below.refl _ _⟩
    case round =>
      obtain ⟨k, hk, rfl, HX, hb⟩ := hrel
      by_cases hlt : k < l.length
      · obtain ⟨a, rfl, hcc⟩ := h4 k hlt
        have hcx : wr.cell? (a.add k) = some (.int .u64 (l[k].toNat : Int)) := by rw [hb.cell (World.block_lt_of_cell? w _ hcc)]; exact hcc
        have HT : Hid ((l.take (k + 1)).any f = f l[k]) := by
          show _ = _
          rw [List.take_succ_eq_append_getElem hlt, List.any_append, HX.out]; simp
        have HM : Hid (f l[k] = true → l.any f = true) := fun e => List.any_eq_true.2 ⟨_, List.getElem_mem hlt, e⟩
        have hq := hcl wr l[k] hb
        clear h4 h3 hcc hcl
        generalize l[k] = p at *
        have hB := hb.size
        cases hfp : f p with
        | true =>
          have HM2 : Hid _ := HM.out hfp
          rw [hfp] at hq
          clear HT HM hfp
          go_wp2_with fail
          refine hq.mono ?_
          rintro e w1 ⟨rfl, hb1⟩
          go_wp2_with fail
          go_ret
          exact ⟨_, rfl, ⟨fun _ => HM2.out, fun _ => by omega⟩, hb.trans (hb1.mono hB)⟩
        | false =>
          rw [hfp] at hq
          have HX2 : Hid ((l.take (k + 1)).any f = false) := by show _ = _; rw [HT.out]; exact hfp
          clear HT HM hfp
          go_wp2_with fail
          refine hq.mono ?_
          rintro e w1 ⟨rfl, hb1⟩
          go_wp2_with fail
          exact ⟨⟨k + 1, by omega, by go_num, HX2, hb.trans (hb1.mono hB)⟩, by simp [intOf]; omega⟩
      · obtain rfl : k = l.length := by omega
        have HX2 : Hid (l.any f = false) := by have := HX.out; rw [List.take_length] at this; exact this
        clear h4 HX hcl
        go_wp2_with fail
        go_ret
        exact ⟨_, rfl, ⟨fun h => by omega, fun h => by rw [HX2.out] at h; cases h⟩, hb⟩
  go_enter Try.func36, Try.ntmps36
  generalize (l.any (vt c)) = R at *
  go_wp2_with fail
  refine hix.mono ?_
  rintro e w1 ⟨r, rfl, hi, hb⟩
  go_wp2_with fail
  go_ret
  refine ⟨?_, hb⟩
  cases R with
  | true => simp
  | false => simp
theorem idx3_0 (W : World) (x y z : Value) : (Instr.index 54 (.agg #[x, y, z]) (.int .i64 0)).run Try.prog W = .ok x W := by kernel_rfl
theorem idx3_1 (W : World) (x y z : Value) : (Instr.index 54 (.agg #[x, y, z]) (.int .i64 1)).run Try.prog W = .ok y W := by kernel_rfl
theorem idx3_2 (W : World) (x y z : Value) : (Instr.index 54 (.agg #[x, y, z]) (.int .i64 2)).run Try.prog W = .ok z W := by kernel_rfl

set_option maxHeartbeats 4000000 in
theorem check_any {N : Nat} (hS : SortsTo N) {x y z : Value} {c : Cn} {w : World} (hr : Rc w x y z c) (hl : c.1.length + c.2.1.length + c.2.2.length ≤ N ∨ 27 ≤ N) (hN : N ≤ 1099511627776) :
    Calls Try.prog 11 #[.agg #[x, y, z]] w fun e w' => e = .returned (.int .i64 (if chk c then 0 else 70)) ∧ Below w.heap.size w w' := by
  obtain ⟨V, O, L⟩ := c
  have hr' := hr
  obtain ⟨h1, h2, h3⟩ := hr
  simp only [] at h1 h2 h3 hl
  obtain ⟨ax, cx, rfl⟩ := h1.shape
  obtain ⟨ay, cy, rfl⟩ := h2.shape
  obtain ⟨az, cz, rfl⟩ := h3.shape
  have l1 := h1.len
  have l2 := h2.len
  have l3 := h3.len
  unfold maxLen at l1 l2 l3
  have HRX : Hid (∀ W, Below w.heap.size w W → Ru W (.slice ax V.length cx) V) := fun W hW => h1.below hW (Nat.le_refl _)
  have HRY : Hid (∀ W, Below w.heap.size w W → Ru W (.slice ay O.length cy) O) := fun W hW => h2.below hW (Nat.le_refl _)
  have HRZ : Hid (∀ W, Below w.heap.size w W → Ru W (.slice az L.length cz) L) := fun W hW => h3.below hW (Nat.le_refl _)
  have HRC : Hid (∀ W, Below w.heap.size w W → Rc W (.slice ax V.length cx) (.slice ay O.length cy) (.slice az L.length cz) (V, O, L)) := fun W hW => hr'.below hW (Nat.le_refl _)
  have hB1 : Below w.heap.size w (w.alloc (.cells #[.slice ax V.length cx, .slice ay O.length cy, .slice az L.length cz] 24)) := u_al w _
  have hB2 : Below w.heap.size w ((w.alloc (.cells #[.slice ax V.length cx, .slice ay O.length cy, .slice az L.length cz] 24)).alloc (.cells #[.slice ax V.length cx, .slice ay O.length cy, .slice az L.length cz] 54)) := hB1.alloc (by simp) _
  have HKC : Hid (∀ W, Below (w.heap.size + 1) ((w.alloc (.cells #[.slice ax V.length cx, .slice ay O.length cy, .slice az L.length cz] 24)).alloc (.cells #[.slice ax V.length cx, .slice ay O.length cy, .slice az L.length cz] 54)) W → W.cell? ⟨w.heap.size, 0, none⟩ = some (.slice ax V.length cx) ∧ W.cell? ⟨w.heap.size, 1, none⟩ = some (.slice ay O.length cy) ∧ W.cell? ⟨w.heap.size, 2, none⟩ = some (.slice az L.length cz)) := fun W hW => box3 ((((Below.refl _ _).alloc (by simp) _).trans hW)) rfl
  have HKR : Hid (∀ (W : World), Below ((w.alloc (.cells #[.slice ax V.length cx, .slice ay O.length cy, .slice az L.length cz] 24)).alloc (.cells #[.slice ax V.length cx, .slice ay O.length cy, .slice az L.length cz] 54)).heap.size ((w.alloc (.cells #[.slice ax V.length cx, .slice ay O.length cy, .slice az L.length cz] 24)).alloc (.cells #[.slice ax V.length cx, .slice ay O.length cy, .slice az L.length cz] 54)) W → Below w.heap.size w W ∧ Below (w.heap.size + 1) ((w.alloc (.cells #[.slice ax V.length cx, .slice ay O.length cy, .slice az L.length cz] 24)).alloc (.cells #[.slice ax V.length cx, .slice ay O.length cy, .slice az L.length cz] 54)) W) := fun W hW => ⟨hB2.trans (hW.mono (by simp; omega)), hW.mono (by simp)⟩
  generalize hT : (if chk (V, O, L) = true then (0 : Int) else 70) = T
  have HBAD : Hid (ok1 V = false ∨ ok1 O = false ∨ ok1 L = false → 70 = T) := fun h => by
    rw [← hT]; unfold chk
    rcases h with h | h | h <;> simp [h]
  have HT : Hid _ := hT
  clear hT h1 h2 h3 hr'
  go_enter Try.func11, Try.ntmps11
  go_wp2_with fail
  generalize ((w.alloc (.cells #[.slice ax V.length cx, .slice ay O.length cy, .slice az L.length cz] 24)).alloc (.cells #[.slice ax V.length cx, .slice ay O.length cy, .slice az L.length cz] 54)) = W0 at *
  clear hB1
  go_loopw [5, 15] (fun _ i wr => ∃ k : Nat, k ≤ 3 ∧ i = .int .i64 k ∧ Hid ((0 < k → ok1 V = true) ∧ (1 < k → ok1 O = true) ∧ (2 < k → ok1 L = true)) ∧ wr = W0) (fun _ i _ => 3 - (intOf i).toNat)
  case atStart => exact ⟨0, by omega, rfl, ⟨fun h => by omega, fun h => by omega, fun h => by omega⟩, rfl⟩
  case round =>
    obtain ⟨k, hk, rfl, HGD, hwr⟩ := hrel
    obtain rfl : W0 = wr := hwr.symm
    have hb := hB2
    clear hwr
    by_cases hk0 : k = 0
    · subst hk0
      by_cases h9 : V.length ≤ 9
      · have hq := urises_any (HRX.out W0 hb)
        have h9i : ¬ (9 : Int) < (V.length : Int) := by omega
        have hix := idx3_0 W0 (.slice ax V.length cx) (.slice ay O.length cy) (.slice az L.length cz)
        cases hri : risF 0 V with
        | true =>
          rw [hri] at hq
          have HOK : Hid (ok1 V = true) := by show _ = _; unfold ok1; rw [decide_eq_true h9, hri]; rfl
          clear hri
          go_wp2_with fail
          refine hq.mono ?_
          rintro e w1 ⟨rfl, rfl⟩
          go_wp2_with fail
          exact ⟨⟨1, by omega, by go_num, ⟨fun _ => HOK.out, fun h => by omega, fun h => by omega⟩, trivial⟩, by simp [intOf]⟩
        | false =>
          rw [hri] at hq
          have HOK : Hid (ok1 V = false) := by show _ = _; unfold ok1; rw [hri, Bool.and_false]
          clear hri
          obtain rfl := HBAD.out (.inl HOK.out)
          go_wp2_with fail
          refine hq.mono ?_
          rintro e w1 ⟨rfl, rfl⟩
          go_wp2_with fail
          go_ret
          exact ⟨rfl, hb⟩
      · have h9i : (9 : Int) < (V.length : Int) := by omega
        have hix := idx3_0 W0 (.slice ax V.length cx) (.slice ay O.length cy) (.slice az L.length cz)
        have HOK : Hid (ok1 V = false) := by show _ = _; unfold ok1; rw [decide_eq_false h9, Bool.false_and]
        obtain rfl := HBAD.out (.inl HOK.out)
        go_wp2_with fail
        go_ret
        exact ⟨rfl, hb⟩
    · by_cases hk1 : k = 1
      · subst hk1
        by_cases h9 : O.length ≤ 9
        · have hq := urises_any (HRY.out W0 hb)
          have h9i : ¬ (9 : Int) < (O.length : Int) := by omega
          have hix := idx3_1 W0 (.slice ax V.length cx) (.slice ay O.length cy) (.slice az L.length cz)
          cases hri : risF 0 O with
          | true =>
            rw [hri] at hq
            have HOK : Hid (ok1 O = true) := by show _ = _; unfold ok1; rw [decide_eq_true h9, hri]; rfl
            clear hri
            go_wp2_with fail
            refine hq.mono ?_
            rintro e w1 ⟨rfl, rfl⟩
            go_wp2_with fail
            exact ⟨⟨2, by omega, by go_num, ⟨fun _ => HGD.out.1 (by omega), fun _ => HOK.out, fun h => by omega⟩, trivial⟩, by simp [intOf]⟩
          | false =>
            rw [hri] at hq
            have HOK : Hid (ok1 O = false) := by show _ = _; unfold ok1; rw [hri, Bool.and_false]
            clear hri
            obtain rfl := HBAD.out (.inr (.inl HOK.out))
            go_wp2_with fail
            refine hq.mono ?_
            rintro e w1 ⟨rfl, rfl⟩
            go_wp2_with fail
            go_ret
            exact ⟨rfl, hb⟩
        · have h9i : (9 : Int) < (O.length : Int) := by omega
          have hix := idx3_1 W0 (.slice ax V.length cx) (.slice ay O.length cy) (.slice az L.length cz)
          have HOK : Hid (ok1 O = false) := by show _ = _; unfold ok1; rw [decide_eq_false h9, Bool.false_and]
          obtain rfl := HBAD.out (.inr (.inl HOK.out))
          go_wp2_with fail
          go_ret
          exact ⟨rfl, hb⟩
      · by_cases hk2 : k = 2
        · subst hk2
          by_cases h9 : L.length ≤ 9
          · have hq := urises_any (HRZ.out W0 hb)
            have h9i : ¬ (9 : Int) < (L.length : Int) := by omega
            have hix := idx3_2 W0 (.slice ax V.length cx) (.slice ay O.length cy) (.slice az L.length cz)
            cases hri : risF 0 L with
            | true =>
              rw [hri] at hq
              have HOK : Hid (ok1 L = true) := by show _ = _; unfold ok1; rw [decide_eq_true h9, hri]; rfl
              clear hri
              go_wp2_with fail
              refine hq.mono ?_
              rintro e w1 ⟨rfl, rfl⟩
              go_wp2_with fail
              exact ⟨⟨3, by omega, by go_num, ⟨fun _ => HGD.out.1 (by omega), fun _ => HGD.out.2.1 (by omega), fun _ => HOK.out⟩, trivial⟩, by simp [intOf]⟩
            | false =>
              rw [hri] at hq
              have HOK : Hid (ok1 L = false) := by show _ = _; unfold ok1; rw [hri, Bool.and_false]
              clear hri
              obtain rfl := HBAD.out (.inr (.inr HOK.out))
              go_wp2_with fail
              refine hq.mono ?_
              rintro e w1 ⟨rfl, rfl⟩
              go_wp2_with fail
              go_ret
              exact ⟨rfl, hb⟩
          · have h9i : (9 : Int) < (L.length : Int) := by omega
            have hix := idx3_2 W0 (.slice ax V.length cx) (.slice ay O.length cy) (.slice az L.length cz)
            have HOK : Hid (ok1 L = false) := by show _ = _; unfold ok1; rw [decide_eq_false h9, Bool.false_and]
            obtain rfl := HBAD.out (.inr (.inr HOK.out))
            go_wp2_with fail
            go_ret
            exact ⟨rfl, hb⟩
        · obtain rfl : k = 3 := by omega
          obtain ⟨o1, o2, o3⟩ := HGD.out
          have o1 := o1 (by omega)
          have o2 := o2 (by omega)
          have o3 := o3 (by omega)
          have g1 : V.length ≤ 9 := by unfold ok1 at o1; simp only [Bool.and_eq_true, decide_eq_true_eq] at o1; exact o1.1
          have g2 : O.length ≤ 9 := by unfold ok1 at o2; simp only [Bool.and_eq_true, decide_eq_true_eq] at o2; exact o2.1
          have g3 : L.length ≤ 9 := by unfold ok1 at o3; simp only [Bool.and_eq_true, decide_eq_true_eq] at o3; exact o3.1
          have HT2 : Hid ((if (decide (V ≠ []) && (!(L.any (vt (V, O, L))) && decide ((mems (V, O, L)).length ≤ 9))) = true then (0 : Int) else 70) = T) := by
            show _ = _
            rw [← HT.out]; unfold chk; simp only [o1, o2, o3, Bool.true_and]
          have hkc := HKC.out W0 (Below.refl _ _)
          have hif := uifunc_any (HRZ.out W0 hb) (HRC.out W0 hb) hkc
          obtain ⟨k0, k1, k2⟩ := hkc
          clear HT HGD o1 o2 o3 HBAD
          by_cases hv0 : V.length = 0
          · have hV : V = [] := List.length_eq_zero_iff.1 hv0
            have hT : 70 = T := by rw [← HT2.out]; simp [hV]
            subst hT
            have hvi : ((V.length : Int) == 0) = true := by simp [hv0]
            clear HT2 hif
            go_wp2_with fail
            go_ret
            exact ⟨rfl, hb⟩
          · have hV : decide (V ≠ []) = true := by
              rw [decide_eq_true_eq]; intro e; exact hv0 (by rw [e]; rfl)
            have hvi : ((V.length : Int) == 0) = false := by simp; exact fun e => hv0 (by rw [e]; rfl)
            have HT3 : Hid _ := HT2.out
            clear HT2
            cases hany : L.any (vt (V, O, L)) with
            | true =>
              have hT : 70 = T := by rw [← HT3.out, hany]; simp
              subst hT
              rw [hany] at hif
              clear HT3 hany hV
              go_wp2_with fail
              refine hif.mono ?_
              rintro e w1 ⟨rfl, hb1⟩
              go_wp2_with fail
              go_ret
              exact ⟨rfl, (HKR.out w1 hb1).1⟩
            | false =>
              rw [hany] at hif
              have HT4 : Hid ((if decide ((mems (V, O, L)).length ≤ 9) = true then (0 : Int) else 70) = T) := by
                show _ = _
                rw [← HT3.out, hany, hV]; simp
              clear HT3 hany hV
              go_wp2_with fail
              refine hif.mono ?_
              rintro e w1 ⟨rfl, hb1⟩
              obtain ⟨hw1, hw2⟩ := HKR.out w1 hb1
              obtain ⟨q0, q1, q2⟩ := HKC.out w1 hw2
              have hmm := members_any hS (HRC.out w1 hw1) (by simp only []; omega) hN
              go_wp2_with fail
              refine hmm.mono ?_
              rintro e w2 ⟨v2, m, rfl, ho2, him, hb2⟩
              obtain rfl := him.eq
              obtain ⟨a2, c2, rfl⟩ := ho2.shape
              have hsz := hw1.size
              by_cases hm9 : (mems (V, O, L)).length ≤ 9
              · have hT : 0 = T := by rw [← HT4.out, decide_eq_true hm9]; rfl
                subst hT
                have hmi : ¬ (9 : Int) < ((mems (V, O, L)).length : Int) := by omega
                clear HT4
                generalize (mems (V, O, L)).length = ml at *
                go_wp2_with fail
                go_ret
                exact ⟨rfl, hw1.trans (hb2.mono hsz)⟩
              · have hT : 70 = T := by rw [← HT4.out, decide_eq_false hm9]; rfl
                subst hT
                have hmi : (9 : Int) < ((mems (V, O, L)).length : Int) := by omega
                clear HT4
                generalize (mems (V, O, L)).length = ml at *
                go_wp2_with fail
                go_ret
                exact ⟨rfl, hw1.trans (hb2.mono hsz)⟩
end Go.Proofs.Ytedpfmalhapmeaa

/- reverseRange, siftDown, heapSort at uint64: the library's plain functions. -/
namespace Go.Proofs.Ytedpfmalhapmeaa
open Go.RowKit Go.Sort
set_option linter.unusedVariables false
set_option maxRecDepth 100000

theorem Chg.dq {S : Nat → Prop} {w w' : World} (h : Chg S w w') (q : Nat) : Chg S w (w'.drewN q) := h.trans ((Chg.of_below (Below.dN w' q)).mono (fun b hb hb2 => by omega))
theorem less_q (wr : World) (X Y : UInt64) (r : Bool) (h : ltU X Y = r) : ∀ q, Calls Try.prog 65 #[.int .u64 (X.toNat : Int), .int .u64 (Y.toNat : Int)] (wr.drewN q) fun e w' => e = .returned (.bool r) ∧ ∃ n, w' = wr.drewN n := fun q => (less_any _ _ _).mono (by rintro e w' ⟨rfl, rfl⟩; exact ⟨by rw [h], q, rfl⟩)

set_option maxHeartbeats 2000000 in
theorem urev_any {B g c : Nat} {d : Array UInt64} {w : World} (h : Rw B g c d w) (a b : Nat) (hb : b ≤ d.size) (ha : a < b) (hsz : d.size ≤ 1152921504606846976) :
    Calls Try.prog 63 #[.slice (some ⟨g, 0, none⟩) d.size c, .int .i64 a, .int .i64 b] w fun e w' => e = .returned (.tuple #[]) ∧ Rw B g c (reverseRange d a b) w' ∧ Chg (fun x => x = g) w w' := by
  obtain ⟨z1, z2, z3, z4⟩ := h.sz
  unfold reverseRange
  generalize hR : reverseLoop a (b - 1) d = R
  have HR : Hid _ := hR
  clear hR
  have hb1 : IntKind.i64.wrap ((b : Int) - 1) = ((b - 1 : Nat) : Int) := by rw [IntKind.wrap_i64]; omega
  have hb2 : (b : Int) - 1 = ((b - 1 : Nat) : Int) := by omega
  go_enter Try.func63, Try.ntmps63
  go_wp2_with fail
  go_loopw [6, 7] (fun vi vj wr => ∃ (i j : Nat) (dk : Array UInt64), vi = .int .i64 i ∧ vj = .int .i64 j ∧ a ≤ i ∧ j < b ∧ i ≤ j + 1 ∧ Hid (dk.size = d.size) ∧ Rw B g c dk wr ∧ Hid (reverseLoop i j dk = R) ∧ Chg (fun x => x = g) w wr) (fun vi vj _ => (intOf vj).toNat + 1 - (intOf vi).toNat)
  case atStart => exact ⟨a, b - 1, d, rfl, by first | rfl | go_num, Nat.le_refl _, by omega, by omega, rfl, h, HR, Chg.refl _ _⟩
  case round =>
    obtain ⟨i, j, dk, rfl, rfl, hai, hjb, hij, HZ, hk, HO, hch⟩ := hrel
    clear h HR hb1 hb2
    by_cases hlt : i < j
    · have HO2 : Hid (reverseLoop (i + 1) (j - 1) (swp dk i j) = R) := by
        have := HO.out
        rw [reverseLoop, if_pos hlt] at this
        exact this
      have ci := hk.cell i (by rw [HZ.out]; omega)
      have cj := hk.cell j (by rw [HZ.out]; omega)
      have fi := hk.froz i
      have fj := hk.froz j
      have l1 : (i : Int) < (d.size : Int) := by omega
      have l2 : (j : Int) < (d.size : Int) := by omega
      have hne : ¬ i = j := by omega
      have hne2 : ¬ j = i := by omega
      have HS : Hid (∀ n, Rw B g c (swp dk i j) (((wr.drewN n).setCell ⟨g, i, none⟩ (.int .u64 ((dk[j]!).toNat : Int))).setCell ⟨g, j, none⟩ (.int .u64 ((dk[i]!).toNat : Int)))) := fun n => (hk.drewN n).swp i j
      have hj1 : IntKind.i64.wrap ((j : Int) - 1) = ((j - 1 : Nat) : Int) := by rw [IntKind.wrap_i64]; omega
      have hj2 : (j : Int) - 1 = ((j - 1 : Nat) : Int) := by omega
      generalize dk[i]! = X at *
      generalize dk[j]! = Y at *
      clear HO
      go_wp2_with fail
      go_region
      go_wp2_with fail
      exact ⟨⟨i + 1, j - 1, swp dk i j, by go_num, by first | rfl | go_num, by omega, by omega, by omega, by show _ = _; rw [swp_size]; exact HZ.out, HS.out _, HO2, chg_swp hch _ _ _ _ _⟩, by simp [intOf]; omega⟩
    · have HO2 : Hid (R = dk) := by
        have := HO.out
        rw [reverseLoop, if_neg hlt] at this
        exact this.symm
      obtain rfl := HO2.out
      go_wp2_with fail
      go_end0
      exact ⟨rfl, hk, hch⟩

theorem sift_stop (hi first root : Nat) (d : Array UInt64) (h : 2 * root + 1 ≥ hi) : siftDown ltU hi first root d = d := by rw [siftDown, dif_pos h]
/-- The greater child of root. -/
def chil (hi first root : Nat) (d : Array UInt64) : Nat := if 2 * root + 1 + 1 < hi && ltU d[first + (2 * root + 1)]! d[first + (2 * root + 1) + 1]! then 2 * root + 2 else 2 * root + 1
theorem sift_eq (hi first root : Nat) (d : Array UInt64) (h : ¬ 2 * root + 1 ≥ hi) : siftDown ltU hi first root d = if ltU d[first + root]! d[first + chil hi first root d]! then siftDown ltU hi first (chil hi first root d) (swp d (first + root) (first + chil hi first root d)) else d := by
  rw [siftDown, dif_neg h]
  unfold chil
  by_cases hc : (2 * root + 1 + 1 < hi && ltU d[first + (2 * root + 1)]! d[first + (2 * root + 1) + 1]!) = true
  · rw [if_pos hc]
    simp only [if_pos hc]
    have h2 : 2 * root + 2 < hi := by simp only [Bool.and_eq_true, decide_eq_true_eq] at hc; omega
    cases ltU d[first + root]! d[first + (2 * root + 2)]! with
    | true => simp [h2]
    | false => simp
  · rw [if_neg hc]
    simp only [if_neg hc]
    cases ltU d[first + root]! d[first + (2 * root + 1)]! <;> simp

set_option maxHeartbeats 4000000 in
theorem usift_any {B g c : Nat} {d : Array UInt64} {w : World} (h : Rw B g c d w) (lo hi first : Nat) (hb : first + hi ≤ d.size) (hlo : lo ≤ d.size) (hsz : d.size ≤ 1152921504606846976) :
    Calls Try.prog 71 #[.slice (some ⟨g, 0, none⟩) d.size c, .int .i64 lo, .int .i64 hi, .int .i64 first] w fun e w' => e = .returned (.tuple #[]) ∧ Rw B g c (siftDown ltU hi first lo d) w' ∧ Chg (fun x => x = g) w w' := by
  obtain ⟨z1, z2, z3, z4⟩ := h.sz
  generalize hR : siftDown ltU hi first lo d = R
  have HR : Hid _ := hR
  clear hR
  go_enter Try.func71, Try.ntmps71
  go_wp2_with fail
  go_loopw [8, 9] (fun vr _ wr => ∃ (root : Nat) (dk : Array UInt64), vr = .int .i64 root ∧ root ≤ d.size ∧ Hid (dk.size = d.size) ∧ Rw B g c dk wr ∧ Hid (siftDown ltU hi first root dk = R) ∧ Chg (fun x => x = g) w wr) (fun vr _ _ => d.size + 1 - (intOf vr).toNat)
  case atStart => exact ⟨lo, d, rfl, hlo, rfl, h, HR, Chg.refl _ _⟩
  case round =>
    obtain ⟨root, dk, rfl, hrt, HZ, hk, HO, hch⟩ := hrel
    clear h HR
    obtain ⟨k1, hk1⟩ : ∃ k, k = 2 * root + 1 := ⟨_, rfl⟩
    have e0 : IntKind.i64.wrap (2 * (root : Int)) = 2 * (root : Int) := by rw [IntKind.wrap_i64]; omega
    have e1 : 2 * (root : Int) + 1 = (k1 : Int) := by omega
    by_cases hst : hi ≤ k1
    · have HO2 : Hid (R = dk) := by have := HO.out; rw [sift_stop hi first root dk (by omega)] at this; exact this.symm
      obtain rfl := HO2.out
      clear hk1
      go_wp2_with fail
      go_end0
      exact ⟨rfl, hk, hch⟩
    · obtain ⟨fr, hfr⟩ : ∃ k, k = first + root := ⟨_, rfl⟩
      obtain ⟨f1, hf1⟩ : ∃ k, k = first + k1 := ⟨_, rfl⟩
      have e2 : (first : Int) + (k1 : Int) = (f1 : Int) := by omega
      have e3 : (first : Int) + (root : Int) = (fr : Int) := by omega
      by_cases hk2 : k1 + 1 < hi
      · obtain ⟨k2, hk2'⟩ : ∃ k, k = k1 + 1 := ⟨_, rfl⟩
        obtain ⟨f2, hf2⟩ : ∃ k, k = f1 + 1 := ⟨_, rfl⟩
        have e4 : (k1 : Int) + 1 = (k2 : Int) := by omega
        have e5 : (f1 : Int) + 1 = (f2 : Int) := by omega
        have e6 : (first : Int) + (k2 : Int) = (f2 : Int) := by omega
        have d1 : decide ((k2 : Int) < (hi : Int)) = true := by simp; omega
        have d2 : decide (k2 < hi) = true := by simp; omega
        have c1 := hk.cell f1 (by rw [HZ.out]; omega)
        have c2 := hk.cell f2 (by rw [HZ.out]; omega)
        have l1 : (f1 : Int) < (d.size : Int) := by omega
        have l2 : (f2 : Int) < (d.size : Int) := by omega
        cases hq1 : ltU dk[f1]! dk[f2]! with
        | true =>
          have hl1 := less_q wr _ _ true hq1
          have HCH : Hid (chil hi first root dk = k2) := by
            show _ = _
            unfold chil
            rw [if_pos, show 2 * root + 2 = k2 by omega]
            rw [show first + (2 * root + 1) = f1 by omega, show f1 + 1 = f2 by omega, hq1]
            simp; omega
          have lh : (f2 : Int) < (d.size : Int) := by omega
          have lr : (fr : Int) < (d.size : Int) := by omega
          have hne : ¬ fr = f2 := by omega
          have hne2 : ¬ f2 = fr := by omega
          have hm1 : root < k2 := by omega
          have hm2 : k2 ≤ d.size := by omega
          have HO2 : Hid ((if ltU dk[fr]! dk[f2]! = true then siftDown ltU hi first k2 (swp dk fr f2) else dk) = R) := by
            have := HO.out
            rw [sift_eq hi first root dk (by omega), HCH.out] at this
            rw [show fr = first + root by omega, show f2 = first + k2 by omega]
            exact this
          clear HO HCH hk1 hfr hf1 hk2' hf2
          go_wp2_with fail
          go_quiet (first | (go_at_call 65; exact hl1 _) | fail)
          go_wp2_with fail
          have hkq := hk.drewN nq
          have hcq := hch.dq nq
          clear hk hch c1 c2 hl1
          generalize wr.drewN nq = wq at *
          have ch := hkq.cell f2 (by rw [HZ.out]; omega)
          have cr := hkq.cell fr (by rw [HZ.out]; omega)
          have fh := hkq.froz f2
          have ffr := hkq.froz fr
          have HS : Hid (∀ n, Rw B g c (swp dk fr f2) (((wq.drewN n).setCell ⟨g, fr, none⟩ (.int .u64 ((dk[f2]!).toNat : Int))).setCell ⟨g, f2, none⟩ (.int .u64 ((dk[fr]!).toNat : Int)))) := fun n => (hkq.drewN n).swp fr f2
          generalize dk[f2]! = Y at *
          generalize dk[fr]! = X at *
          cases hq : ltU X Y with
          | true =>
            have hl2 := less_q wq X Y true hq
            have HO3 : Hid (siftDown ltU hi first k2 (swp dk fr f2) = R) := by have := HO2.out; rw [if_pos hq] at this; exact this
            clear hq HO2
            go_quiet (first | (go_at_call 65; exact hl2 _) | fail)
            go_wp2_with fail
            go_region
            go_wp2_with fail
            exact ⟨⟨k2, swp dk fr f2, by first | rfl | go_num, by omega, by show _ = _; rw [swp_size]; exact HZ.out, HS.out _, HO3, chg_swp hcq _ _ _ _ _⟩, by simp [intOf]; omega⟩
          | false =>
            have hl2 := less_q wq X Y false hq
            have HO3 : Hid (R = dk) := by have := HO2.out; rw [if_neg (by rw [hq]; decide)] at this; exact this.symm
            obtain rfl := HO3.out
            clear hq HO2
            go_quiet (first | (go_at_call 65; exact hl2 _) | fail)
            go_wp2_with fail
            (try simp only [Exit.inBlock, Exit.then])
            refine bodyPost_ret (results_none rfl _ _ _) rfl ?_
            exact ⟨rfl, hkq.drewN _, hcq.dq _⟩
        | false =>
          have hl1 := less_q wr _ _ false hq1
          have HCH : Hid (chil hi first root dk = k1) := by
            show _ = _
            unfold chil
            rw [if_neg, show 2 * root + 1 = k1 by omega]
            rw [show first + (2 * root + 1) = f1 by omega, show f1 + 1 = f2 by omega, hq1]
            simp
          have lh : (f1 : Int) < (d.size : Int) := by omega
          have lr : (fr : Int) < (d.size : Int) := by omega
          have hne : ¬ fr = f1 := by omega
          have hne2 : ¬ f1 = fr := by omega
          have hm1 : root < k1 := by omega
          have hm2 : k1 ≤ d.size := by omega
          have HO2 : Hid ((if ltU dk[fr]! dk[f1]! = true then siftDown ltU hi first k1 (swp dk fr f1) else dk) = R) := by
            have := HO.out
            rw [sift_eq hi first root dk (by omega), HCH.out] at this
            rw [show fr = first + root by omega, show f1 = first + k1 by omega]
            exact this
          clear HO HCH hk1 hfr hf1 hk2' hf2
          go_wp2_with fail
          go_quiet (first | (go_at_call 65; exact hl1 _) | fail)
          go_wp2_with fail
          have hkq := hk.drewN nq
          have hcq := hch.dq nq
          clear hk hch c1 c2 hl1
          generalize wr.drewN nq = wq at *
          have ch := hkq.cell f1 (by rw [HZ.out]; omega)
          have cr := hkq.cell fr (by rw [HZ.out]; omega)
          have fh := hkq.froz f1
          have ffr := hkq.froz fr
          have HS : Hid (∀ n, Rw B g c (swp dk fr f1) (((wq.drewN n).setCell ⟨g, fr, none⟩ (.int .u64 ((dk[f1]!).toNat : Int))).setCell ⟨g, f1, none⟩ (.int .u64 ((dk[fr]!).toNat : Int)))) := fun n => (hkq.drewN n).swp fr f1
          generalize dk[f1]! = Y at *
          generalize dk[fr]! = X at *
          cases hq : ltU X Y with
          | true =>
            have hl2 := less_q wq X Y true hq
            have HO3 : Hid (siftDown ltU hi first k1 (swp dk fr f1) = R) := by have := HO2.out; rw [if_pos hq] at this; exact this
            clear hq HO2
            go_quiet (first | (go_at_call 65; exact hl2 _) | fail)
            go_wp2_with fail
            go_region
            go_wp2_with fail
            exact ⟨⟨k1, swp dk fr f1, by first | rfl | go_num, by omega, by show _ = _; rw [swp_size]; exact HZ.out, HS.out _, HO3, chg_swp hcq _ _ _ _ _⟩, by simp [intOf]; omega⟩
          | false =>
            have hl2 := less_q wq X Y false hq
            have HO3 : Hid (R = dk) := by have := HO2.out; rw [if_neg (by rw [hq]; decide)] at this; exact this.symm
            obtain rfl := HO3.out
            clear hq HO2
            go_quiet (first | (go_at_call 65; exact hl2 _) | fail)
            go_wp2_with fail
            (try simp only [Exit.inBlock, Exit.then])
            refine bodyPost_ret (results_none rfl _ _ _) rfl ?_
            exact ⟨rfl, hkq.drewN _, hcq.dq _⟩
      · have d1 : decide ((k1 : Int) + 1 < (hi : Int)) = false := by simp; omega
        have HCH : Hid (chil hi first root dk = k1) := by
          show _ = _
          unfold chil
          rw [if_neg, show 2 * root + 1 = k1 by omega]
          simp; omega
        have lh : (f1 : Int) < (d.size : Int) := by omega
        have lr : (fr : Int) < (d.size : Int) := by omega
        have hne : ¬ fr = f1 := by omega
        have hne2 : ¬ f1 = fr := by omega
        have hm1 : root < k1 := by omega
        have hm2 : k1 ≤ d.size := by omega
        have HO2 : Hid ((if ltU dk[fr]! dk[f1]! = true then siftDown ltU hi first k1 (swp dk fr f1) else dk) = R) := by
          have := HO.out
          rw [sift_eq hi first root dk (by omega), HCH.out] at this
          rw [show fr = first + root by omega, show f1 = first + k1 by omega]
          exact this
        clear HO HCH hk1 hfr hf1
        go_wp2_with fail
        go_quiet (fail)
        go_wp2_with fail
        have hkq := hk.drewN nq
        have hcq := hch.dq nq
        clear hk hch
        generalize wr.drewN nq = wq at *
        have ch := hkq.cell f1 (by rw [HZ.out]; omega)
        have cr := hkq.cell fr (by rw [HZ.out]; omega)
        have fh := hkq.froz f1
        have ffr := hkq.froz fr
        have HS : Hid (∀ n, Rw B g c (swp dk fr f1) (((wq.drewN n).setCell ⟨g, fr, none⟩ (.int .u64 ((dk[f1]!).toNat : Int))).setCell ⟨g, f1, none⟩ (.int .u64 ((dk[fr]!).toNat : Int)))) := fun n => (hkq.drewN n).swp fr f1
        generalize dk[f1]! = Y at *
        generalize dk[fr]! = X at *
        cases hq : ltU X Y with
        | true =>
          have hl2 := less_q wq X Y true hq
          have HO3 : Hid (siftDown ltU hi first k1 (swp dk fr f1) = R) := by have := HO2.out; rw [if_pos hq] at this; exact this
          clear hq HO2
          go_quiet (first | (go_at_call 65; exact hl2 _) | fail)
          go_wp2_with fail
          go_region
          go_wp2_with fail
          exact ⟨⟨k1, swp dk fr f1, by first | rfl | go_num, by omega, by show _ = _; rw [swp_size]; exact HZ.out, HS.out _, HO3, chg_swp hcq _ _ _ _ _⟩, by simp [intOf]; omega⟩
        | false =>
          have hl2 := less_q wq X Y false hq
          have HO3 : Hid (R = dk) := by have := HO2.out; rw [if_neg (by rw [hq]; decide)] at this; exact this.symm
          obtain rfl := HO3.out
          clear hq HO2
          go_quiet (first | (go_at_call 65; exact hl2 _) | fail)
          go_wp2_with fail
          (try simp only [Exit.inBlock, Exit.then])
          refine bodyPost_ret (results_none rfl _ _ _) rfl ?_
          exact ⟨rfl, hkq.drewN _, hcq.dq _⟩
end Go.Proofs.Ytedpfmalhapmeaa

/- heapSort at uint64. -/
namespace Go.Proofs.Ytedpfmalhapmeaa
open Go.RowKit Go.Sort
set_option linter.unusedVariables false
set_option maxRecDepth 100000

theorem sift_size (hi first : Nat) : ∀ (n root : Nat) (d : Array UInt64), hi - root ≤ n → (siftDown ltU hi first root d).size = d.size := by
  intro n
  induction n with
  | zero => intro root d h; rw [sift_stop _ _ _ _ (by omega)]
  | succ n ih =>
    intro root d h
    by_cases hs : 2 * root + 1 ≥ hi
    · rw [sift_stop _ _ _ _ hs]
    · rw [sift_eq _ _ _ _ hs]
      split
      · have hc : root < chil hi first root d := by unfold chil; split <;> omega
        rw [ih _ _ (by omega), swp_size]
      · rfl

set_option maxHeartbeats 4000000 in
theorem uheap_any {B g c : Nat} {d : Array UInt64} {w : World} (h : Rw B g c d w) (a b : Nat) (hb : b ≤ d.size) (ha : a < b) (hsz : d.size ≤ 1152921504606846976) :
    Calls Try.prog 60 #[.slice (some ⟨g, 0, none⟩) d.size c, .int .i64 a, .int .i64 b] w fun e w' => e = .returned (.tuple #[]) ∧ Rw B g c (heapSort ltU d a b) w' ∧ Chg (fun x => x = g) w w' := by
  obtain ⟨z1, z2, z3, z4⟩ := h.sz
  unfold heapSort
  generalize hR : heapPop ltU a (b - a) (heapBuild ltU (b - a) a ((b - a - 1) / 2 + 1) d) = R
  have HR : Hid _ := hR
  clear hR
  obtain ⟨hi, hhi⟩ : ∃ k, k = b - a := ⟨_, rfl⟩
  rw [← hhi] at HR
  obtain ⟨m, hm⟩ : ∃ k, k = (hi - 1) / 2 := ⟨_, rfl⟩
  rw [← hm] at HR
  have hhp : 0 < hi := by omega
  have hhs : a + hi ≤ d.size := by omega
  have hms : m < hi := by omega
  have e1 : (b : Int) - (a : Int) = (hi : Int) := by omega
  have e2 : (hi : Int) - 1 = ((hi - 1 : Nat) : Int) := by omega
  have e3 : IntKind.i64.wrap ((hi : Int) - 1) = ((hi - 1 : Nat) : Int) := by rw [IntKind.wrap_i64]; omega
  have e4 : ((hi - 1 : Nat) : Int) / 2 = (m : Int) := by omega
  clear hhi hm
  go_enter Try.func60, Try.ntmps60
  go_wp2_with fail
  go_loopw [9] (fun vi wr => ∃ (k : Nat) (dk : Array UInt64), vi = .int .i64 ((k : Int) - 1) ∧ k ≤ hi ∧ Hid (dk.size = d.size) ∧ Rw B g c dk wr ∧ Hid (heapPop ltU a hi (heapBuild ltU hi a k dk) = R) ∧ Chg (fun x => x = g) w wr) (fun vi _ => (intOf vi + 1).toNat)
  case atStart => exact ⟨m + 1, d, by first | rfl | go_num | (simp; omega), by omega, rfl, h, HR, Chg.refl _ _⟩
  case round =>
    obtain ⟨k, dk, rfl, hk, HZ, hkw, HO, hch⟩ := hrel
    clear h HR e4
    by_cases hk0 : k = 0
    · subst hk0
      have HO2 : Hid (heapPop ltU a hi dk = R) := by have := HO.out; rw [heapBuild] at this; exact this
      clear HO
      rw [show ((0 : Nat) : Int) - 1 = -1 from rfl]
      go_wp2_with fail
      generalize hWW : wr = wS at *
      clear hWW wr
      go_loopw [10] (fun vi wr => ∃ (k : Nat) (dj : Array UInt64), vi = .int .i64 ((k : Int) - 1) ∧ k ≤ hi ∧ Hid (dj.size = d.size) ∧ Rw B g c dj wr ∧ Hid (heapPop ltU a k dj = R) ∧ Chg (fun x => x = g) w wr) (fun vi _ => (intOf vi + 1).toNat)
      case atStart => exact ⟨hi, dk, by first | rfl | (simp; omega), Nat.le_refl _, HZ, hkw, HO2, hch⟩
      case round =>
        obtain ⟨k, dj, rfl, hk, HZj, hj, HO, hcj⟩ := hrel
        clear hkw HO2 hch
        by_cases hk0 : k = 0
        · subst hk0
          have HO2 : Hid (R = dj) := by have := HO.out; rw [heapPop] at this; exact this.symm
          obtain rfl := HO2.out
          clear HO
          go_wp2_with fail
          go_end0
          exact ⟨rfl, hj, hcj⟩
        · obtain ⟨k', rfl⟩ : ∃ k', k = k' + 1 := ⟨k - 1, by omega⟩
          have f1 : ((k' + 1 : Nat) : Int) - 1 = (k' : Int) := by omega
          obtain ⟨fk, hfk⟩ : ∃ x, x = a + k' := ⟨_, rfl⟩
          have e5 : (a : Int) + (k' : Int) = (fk : Int) := by omega
          have HO2 : Hid (heapPop ltU a k' (siftDown ltU k' a 0 (swp dj a fk)) = R) := by have := HO.out; rw [heapPop] at this; rw [hfk]; exact this
          have ca := hj.cell a (by rw [HZj.out]; omega)
          have ck := hj.cell fk (by rw [HZj.out]; omega)
          have fa := hj.froz a
          have ff := hj.froz fk
          have l1 : (a : Int) < (d.size : Int) := by omega
          have l2 : (fk : Int) < (d.size : Int) := by omega
          have hfs : fk < d.size := by omega
          have hsw : ∀ n, Rw B g c (swp dj a fk) (((wr.drewN n).setCell ⟨g, a, none⟩ (.int .u64 ((dj[fk]!).toNat : Int))).setCell ⟨g, fk, none⟩ (.int .u64 ((dj[a]!).toNat : Int))) := fun n => (hj.drewN n).swp a fk
          have HSZ : Hid ((swp dj a fk).size = d.size) := by show _ = _; rw [swp_size]; exact HZj.out
          have HCALL : Hid (∀ n, Calls Try.prog 71 #[.slice (some ⟨g, 0, none⟩) d.size c, .int .i64 (0 : Nat), .int .i64 k', .int .i64 a] (((wr.drewN n).setCell ⟨g, a, none⟩ (.int .u64 ((dj[fk]!).toNat : Int))).setCell ⟨g, fk, none⟩ (.int .u64 ((dj[a]!).toNat : Int))) fun e w' => e = .returned (.tuple #[]) ∧ Rw B g c (siftDown ltU k' a 0 (swp dj a fk)) w' ∧ Chg (fun x => x = g) (((wr.drewN n).setCell ⟨g, a, none⟩ (.int .u64 ((dj[fk]!).toNat : Int))).setCell ⟨g, fk, none⟩ (.int .u64 ((dj[a]!).toNat : Int))) w') := fun n => by
            have := usift_any (hsw n) 0 k' a (by rw [HSZ.out]; omega) (Nat.zero_le _) (by rw [HSZ.out]; exact hsz)
            rw [HSZ.out] at this
            exact this
          have HS2 : Hid ((siftDown ltU k' a 0 (swp dj a fk)).size = d.size) := by show _ = _; rw [sift_size k' a _ _ _ (Nat.le_refl _)]; exact HSZ.out
          by_cases hkz : k' = 0
          · have hfa : fk = a := by omega
            subst hfa
            subst hkz
            clear HO hfk hsw
            rw [f1]
            generalize dj[fk]! = X at *
            go_wp2_with fail
            go_region
            go_wp2_with fail
            refine (HCALL.out _).mono ?_
            rintro e w1 ⟨rfl, hw1, hc1⟩
            go_wp2_with fail
            exact ⟨⟨0, _, by first | rfl | go_num, by omega, HS2, hw1, HO2, (chg_swp hcj _ _ _ _ _).trans (hc1.mono (fun b _ q => .inl q))⟩, by simp [intOf]⟩
          · have hne : ¬ a = fk := by omega
            have hne2 : ¬ fk = a := by omega
            clear HO hfk hsw
            rw [f1]
            generalize dj[fk]! = Y at *
            generalize dj[a]! = X at *
            go_wp2_with fail
            go_region
            go_wp2_with fail
            refine (HCALL.out _).mono ?_
            rintro e w1 ⟨rfl, hw1, hc1⟩
            go_wp2_with fail
            exact ⟨⟨k', _, by first | rfl | go_num, by omega, HS2, hw1, HO2, (chg_swp hcj _ _ _ _ _).trans (hc1.mono (fun b _ q => .inl q))⟩, by simp [intOf]⟩
    · obtain ⟨k', rfl⟩ : ∃ k', k = k' + 1 := ⟨k - 1, by omega⟩
      have f1 : ((k' + 1 : Nat) : Int) - 1 = (k' : Int) := by omega
      have HO2 : Hid (heapPop ltU a hi (heapBuild ltU hi a k' (siftDown ltU hi a k' dk)) = R) := by have := HO.out; rw [heapBuild] at this; exact this
      have hcall := usift_any hkw k' hi a (by rw [HZ.out]; exact hhs) (by rw [HZ.out]; omega) (by rw [HZ.out]; exact hsz)
      rw [HZ.out] at hcall
      clear HO
      rw [f1]
      go_wp2_with fail
      refine hcall.mono ?_
      rintro e w1 ⟨rfl, hw1, hc1⟩
      go_wp2_with fail
      exact ⟨⟨k', _, by first | rfl | go_num, by omega, by show _ = _; rw [sift_size hi a _ _ _ (Nat.le_refl _)]; exact HZ.out, hw1, HO2, hch.trans (hc1.mono (fun b _ q => .inl q))⟩, by simp [intOf]⟩
end Go.Proofs.Ytedpfmalhapmeaa

/- order2, median, medianAdjacent, choosePivot at uint64: a place in the range. -/
namespace Go.Proofs.Ytedpfmalhapmeaa
open Go.RowKit Go.Sort
set_option linter.unusedVariables false
set_option maxRecDepth 100000

/-- The count of swaps in a block of its own, beside the row. -/
structure Pv (B g c s : Nat) (d : Array UInt64) (q : Nat) (w : World) : Prop where
  row : Rw B g c d w
  cnt : w.heap[s]? = some (.cells #[.int .i64 (q : Int)] 3 (0, 0))
  ne : s ≠ g
theorem Pv.drewN {B g c s q : Nat} {d : Array UInt64} {w : World} (h : Pv B g c s d q w) (n : Nat) : Pv B g c s d q (w.drewN n) := ⟨h.row.drewN n, h.cnt, h.ne⟩
theorem Pv.put {B g c s q : Nat} {d : Array UInt64} {w : World} (h : Pv B g c s d q w) (q' : Nat) : Pv B g c s d q' (w.setCell ⟨s, 0, none⟩ (.int .i64 (q' : Int))) := by
  have hc : Chg (fun b => b = s) w (w.setCell ⟨s, 0, none⟩ (.int .i64 (q' : Int))) := (Chg.refl _ w).put s 0 _ rfl
  refine ⟨ownsRow_keptC h.row hc (fun b e q => ?_), by rw [heap_setCell_same _ _ _ _ _ _ h.cnt]; rfl, h.ne⟩
  have : b = g := (Option.some.inj e).symm
  exact h.ne (by rw [← q, this])

set_option maxHeartbeats 2000000 in
theorem ord2_any {B g c s q : Nat} {d : Array UInt64} {w : World} (h : Pv B g c s d q w) (a b : Nat) (ha : a < d.size) (hb : b < d.size) (hsz : d.size ≤ 1152921504606846976) (hq : q ≤ 1000) :
    Calls Try.prog 77 #[.slice (some ⟨g, 0, none⟩) d.size c, .int .i64 a, .int .i64 b, .pointer (some ⟨s, 0, none⟩)] w fun e w' => (∃ x y q' : Nat, e = .returned (.tuple #[.int .i64 x, .int .i64 y]) ∧ ((x = a ∧ y = b) ∨ (x = b ∧ y = a)) ∧ q' ≤ q + 1 ∧ Pv B g c s d q' w') ∧ Chg (fun b => b = s) w w' := by
  obtain ⟨z1, z2, z3, z4⟩ := h.row.sz
  have ca := h.row.cell a ha
  have cb := h.row.cell b hb
  have l1 : (a : Int) < (d.size : Int) := by omega
  have l2 : (b : Int) < (d.size : Int) := by omega
  have cs : w.cell? ⟨s, 0, none⟩ = some (.int .i64 (q : Int)) := by rw [cell_of_row _ _ _ _ _ _ h.cnt]; rfl
  have fs : w.frozen? ⟨s, 0, none⟩ = false := frozen_of_row _ _ _ _ _ h.cnt
  generalize hX : d[a]! = X at *
  generalize hY : d[b]! = Y at *
  clear hX hY
  cases hq2 : ltU Y X with
  | true =>
    have hl := less_q w Y X true hq2
    have HP : Hid (∀ n, Pv B g c s d (q + 1) ((w.drewN n).setCell ⟨s, 0, none⟩ (.int .i64 ((q + 1 : Nat) : Int)))) := fun n => (h.drewN n).put (q + 1)
    have HC : Hid (∀ n, Chg (fun b => b = s) w ((w.drewN n).setCell ⟨s, 0, none⟩ (.int .i64 ((q + 1 : Nat) : Int)))) := fun n => ((Chg.refl _ w).dq n).put s 0 _ rfl
    clear h hq2
    go_enter Try.func77, Try.ntmps77
    go_wp2_with fail
    go_quiet (first | (go_at_call 65; exact hl _) | fail)
    go_wp2_with fail
    go_ret2
    exact ⟨⟨b, a, q + 1, rfl, .inr ⟨rfl, rfl⟩, Nat.le_refl _, HP.out _⟩, HC.out _⟩
  | false =>
    have hl := less_q w Y X false hq2
    have HP : Hid (∀ n, Pv B g c s d q (w.drewN n)) := fun n => h.drewN n
    clear h hq2
    go_enter Try.func77, Try.ntmps77
    go_wp2_with fail
    go_quiet (first | (go_at_call 65; exact hl _) | fail)
    go_wp2_with fail
    go_ret2
    exact ⟨⟨a, b, q, rfl, .inl ⟨rfl, rfl⟩, by omega, HP.out _⟩, (Chg.refl _ w).dq _⟩

theorem med_any {B g c s q : Nat} {d : Array UInt64} {w : World} (h : Pv B g c s d q w) (x y z : Nat) (hx : x < d.size) (hy : y < d.size) (hz : z < d.size) (hsz : d.size ≤ 1152921504606846976) (hq : q ≤ 900) :
    Calls Try.prog 75 #[.slice (some ⟨g, 0, none⟩) d.size c, .int .i64 x, .int .i64 y, .int .i64 z, .pointer (some ⟨s, 0, none⟩)] w fun e w' => (∃ r q' : Nat, e = .returned (.int .i64 r) ∧ (r = x ∨ r = y ∨ r = z) ∧ q' ≤ q + 3 ∧ Pv B g c s d q' w') ∧ Chg (fun b => b = s) w w' := by
  go_enter Try.func75, Try.ntmps75
  go_wp2_with fail
  refine (ord2_any h x y hx hy hsz (by omega)).mono ?_
  rintro e w1 ⟨⟨x1, y1, q1, rfl, h1, hq1, hp1⟩, hc1⟩
  go_wp2_with fail
  refine (ord2_any hp1 y1 z (by omega) hz hsz (by omega)).mono ?_
  rintro e w2 ⟨⟨x2, y2, q2, rfl, h2, hq2, hp2⟩, hc2⟩
  go_wp2_with fail
  refine (ord2_any hp2 x1 x2 (by omega) (by omega) hsz (by omega)).mono ?_
  rintro e w3 ⟨⟨x3, y3, q3, rfl, h3, hq3, hp3⟩, hc3⟩
  go_wp2_with fail
  go_ret
  exact ⟨⟨y3, q3, rfl, by omega, by omega, hp3⟩, (hc1.trans (hc2.mono (fun b _ q => .inl q))).trans (hc3.mono (fun b _ q => .inl q))⟩

theorem madj_any {B g c s q : Nat} {d : Array UInt64} {w : World} (h : Pv B g c s d q w) (x : Nat) (h0 : 0 < x) (hx : x + 1 < d.size) (hsz : d.size ≤ 1152921504606846976) (hq : q ≤ 900) :
    Calls Try.prog 74 #[.slice (some ⟨g, 0, none⟩) d.size c, .int .i64 x, .pointer (some ⟨s, 0, none⟩)] w fun e w' => (∃ r q' : Nat, e = .returned (.int .i64 r) ∧ x - 1 ≤ r ∧ r ≤ x + 1 ∧ q' ≤ q + 3 ∧ Pv B g c s d q' w') ∧ Chg (fun b => b = s) w w' := by
  obtain ⟨xm, hxm⟩ : ∃ k, k = x - 1 := ⟨_, rfl⟩
  obtain ⟨xp, hxp⟩ : ∃ k, k = x + 1 := ⟨_, rfl⟩
  have e1 : (x : Int) - 1 = (xm : Int) := by omega
  have e3 : (x : Int) + 1 = (xp : Int) := by omega
  have hm := med_any h xm x xp (by omega) (by omega) (by omega) hsz hq
  have b1 : x - 1 ≤ xm ∧ xm ≤ x + 1 := by omega
  have b2 : x - 1 ≤ xp ∧ xp ≤ x + 1 := by omega
  clear hxm hxp
  go_enter Try.func74, Try.ntmps74
  go_wp2_with fail
  refine hm.mono ?_
  rintro e w1 ⟨⟨r, q1, rfl, h1, hq1, hp1⟩, hc1⟩
  go_wp2_with fail
  go_ret
  exact ⟨⟨r, q1, rfl, by omega, by omega, hq1, hp1⟩, hc1⟩

set_option maxHeartbeats 4000000 in
theorem upivot_any {B g c : Nat} {d : Array UInt64} {w : World} (h : Rw B g c d w) (a b : Nat) (hb : b ≤ d.size) (ha : a + 13 ≤ b) (hsz : d.size ≤ 1152921504606846976) :
    Calls Try.prog 62 #[.slice (some ⟨g, 0, none⟩) d.size c, .int .i64 a, .int .i64 b] w fun e w' => (∃ p hn : Nat, e = .returned (.tuple #[.int .i64 p, .int .i64 hn]) ∧ a ≤ p ∧ p < b ∧ hn ≤ 2 ∧ Rw B g c d w') ∧ Below w.heap.size w w' := by
  obtain ⟨z1, z2, z3, z4⟩ := h.sz
  obtain ⟨l, hl⟩ : ∃ k, k = b - a := ⟨_, rfl⟩
  obtain ⟨m, hm⟩ : ∃ k, k = l / 4 := ⟨_, rfl⟩
  obtain ⟨i, hi⟩ : ∃ k, k = a + m := ⟨_, rfl⟩
  obtain ⟨j, hj⟩ : ∃ k, k = a + m * 2 := ⟨_, rfl⟩
  obtain ⟨k, hk⟩ : ∃ k, k = a + m * 3 := ⟨_, rfl⟩
  have e1 : (b : Int) - (a : Int) = (l : Int) := by omega
  have e2 : (l : Int) / 4 = (m : Int) := by omega
  have e3 : (a : Int) + (m : Int) = (i : Int) := by omega
  have e4 : (a : Int) + (m : Int) * 2 = (j : Int) := by omega
  have e5 : (a : Int) + (m : Int) * 3 = (k : Int) := by omega
  have bi : a < i ∧ i + 1 < b := by omega
  have bj : a < j ∧ j + 1 < b := by omega
  have bk : a < k ∧ k + 1 < b := by omega
  have g8 : 8 ≤ l := by omega
  have hms : m ≤ d.size := by omega
  have hpv : Pv B g c w.heap.size d 0 (w.alloc (.cells #[.int .i64 0] 3)) := ⟨Ou.alloc h _, heap_alloc_new w _, by omega⟩
  have hcA : Below w.heap.size w (w.alloc (.cells #[.int .i64 0] 3)) := u_al w _
  have HF : Hid (∀ (W : World) (q : Nat), Pv B g c w.heap.size d q W → W.cell? ⟨w.heap.size, 0, none⟩ = some (.int .i64 (q : Int))) := fun W q hp => by rw [cell_of_row _ _ _ _ _ _ hp.cnt]; rfl
  have HT : Hid (∀ (W W' : World), Below w.heap.size w W → Chg (fun b => b = w.heap.size) W W' → Below w.heap.size w W') := fun W W' h1 h2 => h1.trans (h2.below (fun b q => by omega) h1.size)
  clear hl hm hi hj hk h
  by_cases h50 : 50 ≤ l
  · go_enter Try.func62, Try.ntmps62
    go_wp2_with fail
    refine (madj_any hpv i (by omega) (by omega) hsz (by omega)).mono ?_
    rintro e w1 ⟨⟨r1, q1, rfl, a1, b1, c1, p1⟩, hc1⟩
    go_wp2_with fail
    refine (madj_any p1 j (by omega) (by omega) hsz (by omega)).mono ?_
    rintro e w2 ⟨⟨r2, q2, rfl, a2, b2, c2, p2⟩, hc2⟩
    go_wp2_with fail
    refine (madj_any p2 k (by omega) (by omega) hsz (by omega)).mono ?_
    rintro e w3 ⟨⟨r3, q3, rfl, a3, b3, c3, p3⟩, hc3⟩
    go_wp2_with fail
    refine (med_any p3 r1 r2 r3 (by omega) (by omega) (by omega) hsz (by omega)).mono ?_
    rintro e w4 ⟨⟨r, q, rfl, ar, cr, p4⟩, hc4⟩
    have hbz := HT.out _ _ (HT.out _ _ (HT.out _ _ (HT.out _ _ hcA hc1) hc2) hc3) hc4
    have cs := HF.out w4 q p4
    have br : a ≤ r ∧ r < b := by omega
    by_cases q0 : q = 0
    · subst q0
      go_wp2_with fail
      go_ret2
      exact ⟨⟨r, 1, rfl, br.1, br.2, by omega, p4.row⟩, hbz⟩
    · have n0 : ((q : Int) == 0) = false := by simp; omega
      by_cases q12 : q = 12
      · subst q12
        go_wp2_with fail
        go_ret2
        exact ⟨⟨r, 2, rfl, br.1, br.2, by omega, p4.row⟩, hbz⟩
      · have n12 : ((q : Int) == 12) = false := by simp; omega
        go_wp2_with fail
        go_ret2
        exact ⟨⟨r, 0, rfl, br.1, br.2, by omega, p4.row⟩, hbz⟩
  · go_enter Try.func62, Try.ntmps62
    go_wp2_with fail
    refine (med_any hpv i j k (by omega) (by omega) (by omega) hsz (by omega)).mono ?_
    rintro e w4 ⟨⟨r, q, rfl, ar, cr, p4⟩, hc4⟩
    have hbz := HT.out _ _ hcA hc4
    have cs := HF.out w4 q p4
    have br : a ≤ r ∧ r < b := by omega
    by_cases q0 : q = 0
    · subst q0
      go_wp2_with fail
      go_ret2
      exact ⟨⟨r, 1, rfl, br.1, br.2, by omega, p4.row⟩, hbz⟩
    · have n0 : ((q : Int) == 0) = false := by simp; omega
      by_cases q12 : q = 12
      · subst q12
        go_wp2_with fail
        go_ret2
        exact ⟨⟨r, 2, rfl, br.1, br.2, by omega, p4.row⟩, hbz⟩
      · have n12 : ((q : Int) == 12) = false := by simp; omega
        go_wp2_with fail
        go_ret2
        exact ⟨⟨r, 0, rfl, br.1, br.2, by omega, p4.row⟩, hbz⟩
end Go.Proofs.Ytedpfmalhapmeaa

/- What Quorum and Lost answer: counts of voices. -/
namespace Go.Proofs.Ytedpfmalhapmeaa
open Go.RowKit Go.Sort
set_option linter.unusedVariables false
set_option maxRecDepth 100000

theorem vindex_any {v : Value} {l : List UInt64} {x : UInt64} {w : World} (hr : Ru w v l) :
    Calls Try.prog 70 #[v, .int .u64 (x.toNat : Int)] w fun e w' => ∃ r : Int, e = .returned (.int .i64 r) ∧ (0 ≤ r ↔ x ∈ l) ∧ w' = w := by
  obtain ⟨ao, c, rfl, h1, h2, h3, h4⟩ := hr
  unfold maxLen at h2
  go_enter Try.func70, Try.ntmps70
  go_wp2_with fail
  go_loopw [5, 8] (fun _ i wr => ∃ k : Nat, k ≤ l.length ∧ i = .int .i64 k ∧ Hid (x ∉ l.take k) ∧ wr = w) (fun _ i _ => l.length - (intOf i).toNat)
  case atStart => exact ⟨0, Nat.zero_le _, rfl, by show _ ∉ _; simp, rfl⟩
  case round =>
    obtain ⟨k, hk, rfl, HX, rfl⟩ := hrel
    by_cases hlt : k < l.length
    · obtain ⟨a, rfl, hc⟩ := h4 k hlt
      have HT : Hid _ := List.take_succ_eq_append_getElem hlt
      have HM : Hid (l[k] ∈ l) := List.getElem_mem hlt
      clear h4 h3
      generalize l[k] = y at *
      by_cases hxy : x = y
      · subst hxy
        have hq : ((x.toNat : Int) == (x.toNat : Int)) = true := by simp
        go_wp2_with fail
        go_ret
        exact ⟨_, rfl, ⟨fun _ => HM.out, fun _ => by omega⟩, rfl⟩
      · have hq : ((x.toNat : Int) == (y.toNat : Int)) = false := by
          simp only [beq_eq_false_iff_ne, ne_eq]
          exact fun e => hxy (u_inj e)
        go_wp2_with fail
        refine ⟨⟨k + 1, by omega, by go_num, ?_, trivial⟩, by simp [intOf]; omega⟩
        show _ ∉ _
        rw [HT.out]
        simp only [List.mem_append, List.mem_singleton, not_or]
        exact ⟨HX.out, hxy⟩
    · obtain rfl : k = l.length := by omega
      have HX2 : Hid (x ∉ l) := by have := HX.out; rw [List.take_length] at this; exact this
      clear h4 HX
      go_wp2_with fail
      go_ret
      exact ⟨_, rfl, ⟨fun h => by omega, fun h => absurd h HX2.out⟩, rfl⟩

theorem vcontains_any {v : Value} {l : List UInt64} {x : UInt64} {w : World} (hr : Ru w v l) :
    Calls Try.prog 58 #[v, .int .u64 (x.toNat : Int)] w fun e w' => e = .returned (.bool (decide (x ∈ l))) ∧ w' = w := by
  go_enter Try.func58, Try.ntmps58
  go_wp2_with fail
  refine (vindex_any hr).mono ?_
  rintro e w1 ⟨r, rfl, hi, rfl⟩
  go_wp2_with fail
  go_ret
  refine ⟨?_, rfl⟩
  by_cases h : x ∈ l
  · simp [h]
  · simp [h]

/-- How many of the voters are among these. -/
def cnt (l vs : List UInt64) : Nat := (vs.filter (fun p => decide (p ∈ l))).length
theorem cnt_le (l vs : List UInt64) : cnt l vs ≤ vs.length := List.length_filter_le _ _
theorem cnt_take (l vs : List UInt64) (k : Nat) (h : k < vs.length) : cnt l (vs.take (k + 1)) = cnt l (vs.take k) + (if vs[k] ∈ l then 1 else 0) := by
  unfold cnt
  rw [List.take_succ_eq_append_getElem h, List.filter_append, List.length_append]
  congr 1
  by_cases q : vs[k] ∈ l
  · simp [q]
  · simp [q]

theorem among_any {v v' : Value} {l vs : List UInt64} {w : World} (hl : Ru w v l) (hr : Ru w v' vs) :
    Calls Try.prog 49 #[v, v'] w fun e w' => e = .returned (.int .i64 (cnt l vs : Nat)) ∧ w' = w := by
  have hcn : ∀ x : UInt64, Calls Try.prog 58 #[v, .int .u64 (x.toNat : Int)] w fun e w' => e = .returned (.bool (decide (x ∈ l))) ∧ w' = w := fun x => vcontains_any hl
  obtain ⟨al, cl, rfl⟩ := hl.shape
  obtain ⟨ao, c, rfl, h1, h2, h3, h4⟩ := hr
  unfold maxLen at h2
  generalize hR : cnt l vs = R
  have HR : Hid (cnt l (vs.take vs.length) = R) := by rw [List.take_length]; exact hR
  clear hR
  go_enter Try.func49, Try.ntmps49
  go_wp2_with fail
  go_loopw [5, 7, 10] (fun n _ i wr => ∃ k m : Nat, k ≤ vs.length ∧ i = .int .i64 k ∧ n = .int .i64 m ∧ m ≤ k ∧ Hid (cnt l (vs.take k) = m) ∧ wr = w) (fun _ _ i _ => vs.length - (intOf i).toNat)
  case atStart => exact ⟨0, 0, Nat.zero_le _, rfl, rfl, Nat.le_refl _, by show _ = _; simp [cnt], rfl⟩
  case round =>
    obtain ⟨k, m, hk, rfl, rfl, hmk, HX, rfl⟩ := hrel
    by_cases hlt : k < vs.length
    · obtain ⟨a, rfl, hc⟩ := h4 k hlt
      have HT : Hid _ := cnt_take l vs k hlt
      have hq := hcn vs[k]
      clear h4 h3 hcn
      generalize vs[k] = y at *
      by_cases hm : y ∈ l
      · rw [decide_eq_true hm] at hq
        have HX2 : Hid (cnt l (vs.take (k + 1)) = m + 1) := by show _ = _; rw [HT.out, HX.out, if_pos hm]
        clear HT HX hm
        go_wp2_with fail
        refine hq.mono ?_
        rintro e w1 ⟨rfl, rfl⟩
        go_wp2_with fail
        exact ⟨⟨k + 1, m + 1, by omega, by go_num, by go_num, by omega, HX2, trivial⟩, by simp [intOf]; omega⟩
      · rw [decide_eq_false hm] at hq
        have HX2 : Hid (cnt l (vs.take (k + 1)) = m) := by show _ = _; rw [HT.out, HX.out, if_neg hm]; rfl
        clear HT HX hm
        go_wp2_with fail
        refine hq.mono ?_
        rintro e w1 ⟨rfl, rfl⟩
        go_wp2_with fail
        exact ⟨⟨k + 1, m, by omega, by go_num, rfl, by omega, HX2, trivial⟩, by simp [intOf]; omega⟩
    · obtain rfl : k = vs.length := by omega
      obtain rfl : m = R := by rw [← HX.out]; exact HR.out
      clear h4 HX HR hcn
      go_wp2_with fail
      go_ret
      exact ⟨rfl, rfl⟩

theorem missing_any {v v' : Value} {l vs : List UInt64} {w : World} (hl : Ru w v l) (hr : Ru w v' vs) :
    Calls Try.prog 51 #[v, v'] w fun e w' => e = .returned (.int .i64 (vs.length - cnt l vs : Nat)) ∧ w' = w := by
  have hq := among_any hl hr
  have hle := cnt_le l vs
  have hm := hr.len
  unfold maxLen at hm
  generalize cnt l vs = R at *
  obtain ⟨al, cl, rfl⟩ := hl.shape
  obtain ⟨av, cv, rfl⟩ := hr.shape
  go_enter Try.func51, Try.ntmps51
  go_wp2_with fail
  refine hq.mono ?_
  rintro e w1 ⟨rfl, rfl⟩
  go_wp2_with fail
  go_ret
  exact ⟨by go_num, rfl⟩

/-- More than half of each list that counts. -/
def agr (f : List UInt64 → Nat) (c : Cn) : Bool := decide (c.1.length < 2 * f c.1) && (decide (c.2.1.length = 0) || decide (c.2.1.length < 2 * f c.2.1))

set_option maxHeartbeats 4000000 in
theorem agreed_among {x y z v : Value} {c : Cn} {l : List UInt64} {w : World} (hr : Rc w x y z c) (hl : Ru w v l) (hv : c.1.length ≤ 9) (ho : c.2.1.length ≤ 9) :
    Calls Try.prog 48 #[.agg #[x, y, z], .func (.func 49) #[v] #[]] w fun e w' => e = .returned (.bool (agr (cnt l) c)) ∧ Below w.heap.size w w' := by
  have hB := u_al w (.cells #[x, y, z] 24)
  have hle : ∀ vs, (cnt l) vs ≤ vs.length := cnt_le l
  have hf1 := hle c.1
  have hf2 := hle c.2.1
  have HQ : Hid (∀ W, Below w.heap.size w W → Calls Try.prog 49 #[v, x] W fun e w' => e = .returned (.int .i64 ((cnt l) c.1 : Nat)) ∧ w' = W) := fun W hW => among_any (hl.below hW (Nat.le_refl _)) (hr.1.below hW (Nat.le_refl _))
  have HO : Hid (∀ W, Below w.heap.size w W → Calls Try.prog 49 #[v, y] W fun e w' => e = .returned (.int .i64 ((cnt l) c.2.1 : Nat)) ∧ w' = W) := fun W hW => among_any (hl.below hW (Nat.le_refl _)) (hr.2.1.below hW (Nat.le_refl _))
  have HJ : Hid (∀ W, Below w.heap.size w W → Calls Try.prog 13 #[.agg #[x, y, z]] W fun e w' => e = .returned (.bool (decide (0 < c.2.1.length))) ∧ Below W.heap.size W w') := fun W hW => ujoint_any (hr.below hW (Nat.le_refl _))
  have HK : Hid (∀ W, Below (w.heap.size + 1) (w.alloc (.cells #[x, y, z] 24)) W → W.cell? ⟨w.heap.size, 0, none⟩ = some x ∧ W.cell? ⟨w.heap.size, 1, none⟩ = some y ∧ W.cell? ⟨w.heap.size, 2, none⟩ = some z) := fun W hW => box3 hW rfl
  have HB : Hid (∀ W, Below (w.heap.size + 1) (w.alloc (.cells #[x, y, z] 24)) W → Below w.heap.size w W) := fun W hW => hB.trans (hW.mono (by omega))
  have hS0 : Below (w.heap.size + 1) (w.alloc (.cells #[x, y, z] 24)) (w.alloc (.cells #[x, y, z] 24)).drew := (u_drew _).mono (by simp)
  have hS0s : w.heap.size + 1 ≤ (w.alloc (.cells #[x, y, z] 24)).drew.heap.size := by
    have := hS0.size; simp only [World.size_alloc] at this; omega
  generalize hR : agr (cnt l) c = R
  unfold agr at hR
  obtain ⟨ax, cx, rfl⟩ := hr.1.shape
  obtain ⟨ay, cy, rfl⟩ := hr.2.1.shape
  obtain ⟨az, cz, rfl⟩ := hr.2.2.shape
  obtain ⟨al, cl, rfl⟩ := hl.shape
  generalize (cnt l) c.1 = n1 at *
  generalize (cnt l) c.2.1 = n2 at *
  obtain ⟨V, O, L⟩ := c
  simp only [] at *
  generalize V.length = lv at *
  generalize O.length = lo at *
  generalize L.length = ll at *
  generalize l.length = lr at *
  clear hr hl hle
  have HR : Hid _ := hR
  clear hR
  have hm1 : IntKind.i64.wrap (2 * (n1 : Int)) = 2 * (n1 : Int) := by rw [IntKind.wrap_i64]; omega
  have hm2 : IntKind.i64.wrap (2 * (n2 : Int)) = 2 * (n2 : Int) := by rw [IntKind.wrap_i64]; omega
  go_enter Try.func48, Try.ntmps48
  by_cases h1 : lv < 2 * n1
  · have h1i : (lv : Int) < 2 * (n1 : Int) := by omega
    go_wp2_with fail
    by_cases h0 : 0 < lo
    · by_cases h2 : lo < 2 * n2
      · have h2i :  (lo : Int) < 2 * (n2 : Int) := by omega
        obtain rfl : true = R := by rw [← HR.out]; simp; omega
        clear HR
        refine wp_region_held_drew (S := fun W => Below (w.heap.size + 1) (w.alloc (.cells #[.slice ax lv cx, .slice ay lo cy, .slice az ll cz] 24)) W) (by kernel_rfl) hS0 (fun _ => ?_)
        refine wpAnyH_take (i := 0) (v := .func (.func 49) #[.slice al lr cl] #[]) rfl (by kernel_rfl) (by kernel_rfl) (by kernel_rfl) (fun _ _ _ h => h) (.inl ⟨by kernel_rfl, fun W hW => by kernel_rfl⟩) hS0 ?_
        refine wpAnyH_take (i := 1) (v := .pointer (some ⟨w.heap.size, 0, none⟩)) rfl (by kernel_rfl) (by kernel_rfl) (by kernel_rfl) (fun _ _ _ h => h) (.inl ⟨by kernel_rfl, fun W hW => by kernel_rfl⟩) hS0 ?_
        refine wpAnyH_take (i := 5) (v := .pointer (some ⟨w.heap.size, 0, none⟩)) rfl (by kernel_rfl) (by kernel_rfl) (by kernel_rfl) (fun _ _ _ h => h) (.inl ⟨by kernel_rfl, fun W hW => by kernel_rfl⟩) hS0 ?_
        refine wpAnyH_take (i := 2) (v := .slice ax lv cx) rfl (by kernel_rfl) (by kernel_rfl) (by kernel_rfl) (fun _ _ _ h => h) (.inl ⟨by kernel_rfl, fun W hW => by obtain ⟨k0, k1, k2⟩ := HK.out W hW; go_simp⟩) hS0 ?_
        refine wpAnyH_take (i := 6) (v := .slice ax lv cx) rfl (by kernel_rfl) (by kernel_rfl) (by kernel_rfl) (fun _ _ _ h => h) (.inl ⟨by kernel_rfl, fun W hW => by obtain ⟨k0, k1, k2⟩ := HK.out W hW; go_simp⟩) hS0 ?_
        refine wpAnyH_take (i := 7) (v := .int .i64 (lv : Int)) rfl (by kernel_rfl) (by kernel_rfl) (by kernel_rfl) (fun _ _ _ h => h) (.inl ⟨by kernel_rfl, fun W hW => by go_simp; try simp [*]⟩) hS0 ?_
        refine wpAnyH_ready (rs := [3]) (by kernel_rfl) (by simp) ?_
        refine AllReadyH.cons rfl (fun K hK => ?_) AllReadyH.nil
        rw [if_pos (by kernel_rfl)]
        go_simp
        refine (HQ.out _ (HB.out _ hS0)).mono ?_
        rintro e w1 ⟨rfl, rfl⟩
        simp only []
        refine hK.out _ _ hS0 (fun _ => ?_)
        clear hK K
        refine wpAnyH_take (i := 4) (v := .int .i64 (2 * (n1 : Int))) rfl (by kernel_rfl) (by kernel_rfl) (by kernel_rfl) (fun _ _ _ h => h) (.inl ⟨by kernel_rfl, fun W hW => by go_simp; try simp [*]⟩) hS0 ?_
        refine wpAnyH_take (i := 8) (v := .bool true) rfl (by kernel_rfl) (by kernel_rfl) (by kernel_rfl) (fun _ _ _ h => h) (.inl ⟨by kernel_rfl, fun W hW => by go_simp; try simp [*]⟩) hS0 ?_
        refine wpAnyH_take (i := 9) (v := .bool true) rfl (by kernel_rfl) (by kernel_rfl) (by kernel_rfl) (fun _ _ _ h => h) (.inl ⟨by kernel_rfl, fun W hW => by kernel_rfl⟩) hS0 ?_
        refine wpAnyH_take (i := 10) (v := .agg #[.slice ax lv cx, .slice ay lo cy, .slice az ll cz]) rfl (by kernel_rfl) (by kernel_rfl) (by kernel_rfl) (fun _ _ _ h => h) (.inl ⟨by kernel_rfl, fun W hW => by obtain ⟨k0, k1, k2⟩ := HK.out W hW; go_simp⟩) hS0 ?_
        refine wpAnyH_ready (rs := [11]) (by kernel_rfl) (by simp) ?_
        refine AllReadyH.cons rfl (fun K hK => ?_) AllReadyH.nil
        rw [if_pos (by kernel_rfl)]
        go_simp
        refine (HJ.out _ (HB.out _ hS0)).mono ?_
        rintro e w1 ⟨rfl, hb1⟩
        have hS1 : Below (w.heap.size + 1) (w.alloc (.cells #[.slice ax lv cx, .slice ay lo cy, .slice az ll cz] 24)) w1 := hS0.trans (hb1.mono hS0s)
        rw [decide_eq_true h0]
        simp only []
        refine hK.out _ _ hS1 (fun _ => ?_)
        clear hK K
        refine wpAnyH_take (i := 12) (v := .bool false) rfl (by kernel_rfl) (by kernel_rfl) (by kernel_rfl) (fun _ _ _ h => h) (.inl ⟨by kernel_rfl, fun W hW => by kernel_rfl⟩) hS1 ?_
        refine wpAnyH_take (i := 13) (v := .bool false) rfl (by kernel_rfl) (by kernel_rfl) (by kernel_rfl) (fun _ _ _ h => h) (.inl ⟨by kernel_rfl, fun W hW => by kernel_rfl⟩) hS1 ?_
        refine wpAnyH_take (i := 14) (v := .func (.func 49) #[.slice al lr cl] #[]) rfl (by kernel_rfl) (by kernel_rfl) (by kernel_rfl) (fun _ _ _ h => h) (.inl ⟨by kernel_rfl, fun W hW => by kernel_rfl⟩) hS1 ?_
        refine wpAnyH_take (i := 15) (v := .pointer (some ⟨w.heap.size, 1, none⟩)) rfl (by kernel_rfl) (by kernel_rfl) (by kernel_rfl) (fun _ _ _ h => h) (.inl ⟨by kernel_rfl, fun W hW => by kernel_rfl⟩) hS1 ?_
        refine wpAnyH_take (i := 16) (v := .slice ay lo cy) rfl (by kernel_rfl) (by kernel_rfl) (by kernel_rfl) (fun _ _ _ h => h) (.inl ⟨by kernel_rfl, fun W hW => by obtain ⟨k0, k1, k2⟩ := HK.out W hW; go_simp⟩) hS1 ?_
        refine wpAnyH_take (i := 19) (v := .pointer (some ⟨w.heap.size, 1, none⟩)) rfl (by kernel_rfl) (by kernel_rfl) (by kernel_rfl) (fun _ _ _ h => h) (.inl ⟨by kernel_rfl, fun W hW => by kernel_rfl⟩) hS1 ?_
        refine wpAnyH_take (i := 20) (v := .slice ay lo cy) rfl (by kernel_rfl) (by kernel_rfl) (by kernel_rfl) (fun _ _ _ h => h) (.inl ⟨by kernel_rfl, fun W hW => by obtain ⟨k0, k1, k2⟩ := HK.out W hW; go_simp⟩) hS1 ?_
        refine wpAnyH_take (i := 21) (v := .int .i64 (lo : Int)) rfl (by kernel_rfl) (by kernel_rfl) (by kernel_rfl) (fun _ _ _ h => h) (.inl ⟨by kernel_rfl, fun W hW => by go_simp; try simp [*]⟩) hS1 ?_
        refine wpAnyH_ready (rs := [17]) (by kernel_rfl) (by simp) ?_
        refine AllReadyH.cons rfl (fun K hK => ?_) AllReadyH.nil
        rw [if_pos (by kernel_rfl)]
        go_simp
        refine (HO.out _ (HB.out _ hS1)).mono ?_
        rintro e w2 ⟨rfl, rfl⟩
        simp only []
        refine hK.out _ _ hS1 (fun _ => ?_)
        clear hK K
        refine wpAnyH_take (i := 18) (v := .int .i64 (2 * (n2 : Int))) rfl (by kernel_rfl) (by kernel_rfl) (by kernel_rfl) (fun _ _ _ h => h) (.inl ⟨by kernel_rfl, fun W hW => by go_simp; try simp [*]⟩) hS1 ?_
        refine wpAnyH_take (i := 22) (v := .bool true) rfl (by kernel_rfl) (by kernel_rfl) (by kernel_rfl) (fun _ _ _ h => h) (.inl ⟨by kernel_rfl, fun W hW => by go_simp; try simp [*]⟩) hS1 ?_
        refine wpAnyH_take (i := 23) (v := .bool true) rfl (by kernel_rfl) (by kernel_rfl) (by kernel_rfl) (fun _ _ _ h => h) (.inl ⟨by kernel_rfl, fun W hW => by kernel_rfl⟩) hS1 ?_
        refine wpAnyH_take (i := 24) (v := .bool true) rfl (by kernel_rfl) (by kernel_rfl) (by kernel_rfl) (fun _ _ _ h => h) (.inl ⟨by kernel_rfl, fun W hW => by kernel_rfl⟩) hS1 ?_
        refine wpAnyH_take (i := 25) (v := .bool true) rfl (by kernel_rfl) (by kernel_rfl) (by kernel_rfl) (fun _ _ _ h => h) (.inl ⟨by kernel_rfl, fun W hW => by kernel_rfl⟩) hS1 ?_
        refine wpAnyH_done (by kernel_rfl) ?_ _
        go_simp
        go_wp2_with fail
        go_ret
        exact ⟨rfl, HB.out _ hS1⟩
      · have h2i : ¬ (lo : Int) < 2 * (n2 : Int) := by omega
        obtain rfl : false = R := by rw [← HR.out]; simp; omega
        clear HR
        refine wp_region_held_drew (S := fun W => Below (w.heap.size + 1) (w.alloc (.cells #[.slice ax lv cx, .slice ay lo cy, .slice az ll cz] 24)) W) (by kernel_rfl) hS0 (fun _ => ?_)
        refine wpAnyH_take (i := 0) (v := .func (.func 49) #[.slice al lr cl] #[]) rfl (by kernel_rfl) (by kernel_rfl) (by kernel_rfl) (fun _ _ _ h => h) (.inl ⟨by kernel_rfl, fun W hW => by kernel_rfl⟩) hS0 ?_
        refine wpAnyH_take (i := 1) (v := .pointer (some ⟨w.heap.size, 0, none⟩)) rfl (by kernel_rfl) (by kernel_rfl) (by kernel_rfl) (fun _ _ _ h => h) (.inl ⟨by kernel_rfl, fun W hW => by kernel_rfl⟩) hS0 ?_
        refine wpAnyH_take (i := 5) (v := .pointer (some ⟨w.heap.size, 0, none⟩)) rfl (by kernel_rfl) (by kernel_rfl) (by kernel_rfl) (fun _ _ _ h => h) (.inl ⟨by kernel_rfl, fun W hW => by kernel_rfl⟩) hS0 ?_
        refine wpAnyH_take (i := 2) (v := .slice ax lv cx) rfl (by kernel_rfl) (by kernel_rfl) (by kernel_rfl) (fun _ _ _ h => h) (.inl ⟨by kernel_rfl, fun W hW => by obtain ⟨k0, k1, k2⟩ := HK.out W hW; go_simp⟩) hS0 ?_
        refine wpAnyH_take (i := 6) (v := .slice ax lv cx) rfl (by kernel_rfl) (by kernel_rfl) (by kernel_rfl) (fun _ _ _ h => h) (.inl ⟨by kernel_rfl, fun W hW => by obtain ⟨k0, k1, k2⟩ := HK.out W hW; go_simp⟩) hS0 ?_
        refine wpAnyH_take (i := 7) (v := .int .i64 (lv : Int)) rfl (by kernel_rfl) (by kernel_rfl) (by kernel_rfl) (fun _ _ _ h => h) (.inl ⟨by kernel_rfl, fun W hW => by go_simp; try simp [*]⟩) hS0 ?_
        refine wpAnyH_ready (rs := [3]) (by kernel_rfl) (by simp) ?_
        refine AllReadyH.cons rfl (fun K hK => ?_) AllReadyH.nil
        rw [if_pos (by kernel_rfl)]
        go_simp
        refine (HQ.out _ (HB.out _ hS0)).mono ?_
        rintro e w1 ⟨rfl, rfl⟩
        simp only []
        refine hK.out _ _ hS0 (fun _ => ?_)
        clear hK K
        refine wpAnyH_take (i := 4) (v := .int .i64 (2 * (n1 : Int))) rfl (by kernel_rfl) (by kernel_rfl) (by kernel_rfl) (fun _ _ _ h => h) (.inl ⟨by kernel_rfl, fun W hW => by go_simp; try simp [*]⟩) hS0 ?_
        refine wpAnyH_take (i := 8) (v := .bool true) rfl (by kernel_rfl) (by kernel_rfl) (by kernel_rfl) (fun _ _ _ h => h) (.inl ⟨by kernel_rfl, fun W hW => by go_simp; try simp [*]⟩) hS0 ?_
        refine wpAnyH_take (i := 9) (v := .bool true) rfl (by kernel_rfl) (by kernel_rfl) (by kernel_rfl) (fun _ _ _ h => h) (.inl ⟨by kernel_rfl, fun W hW => by kernel_rfl⟩) hS0 ?_
        refine wpAnyH_take (i := 10) (v := .agg #[.slice ax lv cx, .slice ay lo cy, .slice az ll cz]) rfl (by kernel_rfl) (by kernel_rfl) (by kernel_rfl) (fun _ _ _ h => h) (.inl ⟨by kernel_rfl, fun W hW => by obtain ⟨k0, k1, k2⟩ := HK.out W hW; go_simp⟩) hS0 ?_
        refine wpAnyH_ready (rs := [11]) (by kernel_rfl) (by simp) ?_
        refine AllReadyH.cons rfl (fun K hK => ?_) AllReadyH.nil
        rw [if_pos (by kernel_rfl)]
        go_simp
        refine (HJ.out _ (HB.out _ hS0)).mono ?_
        rintro e w1 ⟨rfl, hb1⟩
        have hS1 : Below (w.heap.size + 1) (w.alloc (.cells #[.slice ax lv cx, .slice ay lo cy, .slice az ll cz] 24)) w1 := hS0.trans (hb1.mono hS0s)
        rw [decide_eq_true h0]
        simp only []
        refine hK.out _ _ hS1 (fun _ => ?_)
        clear hK K
        refine wpAnyH_take (i := 12) (v := .bool false) rfl (by kernel_rfl) (by kernel_rfl) (by kernel_rfl) (fun _ _ _ h => h) (.inl ⟨by kernel_rfl, fun W hW => by kernel_rfl⟩) hS1 ?_
        refine wpAnyH_take (i := 13) (v := .bool false) rfl (by kernel_rfl) (by kernel_rfl) (by kernel_rfl) (fun _ _ _ h => h) (.inl ⟨by kernel_rfl, fun W hW => by kernel_rfl⟩) hS1 ?_
        refine wpAnyH_take (i := 14) (v := .func (.func 49) #[.slice al lr cl] #[]) rfl (by kernel_rfl) (by kernel_rfl) (by kernel_rfl) (fun _ _ _ h => h) (.inl ⟨by kernel_rfl, fun W hW => by kernel_rfl⟩) hS1 ?_
        refine wpAnyH_take (i := 15) (v := .pointer (some ⟨w.heap.size, 1, none⟩)) rfl (by kernel_rfl) (by kernel_rfl) (by kernel_rfl) (fun _ _ _ h => h) (.inl ⟨by kernel_rfl, fun W hW => by kernel_rfl⟩) hS1 ?_
        refine wpAnyH_take (i := 16) (v := .slice ay lo cy) rfl (by kernel_rfl) (by kernel_rfl) (by kernel_rfl) (fun _ _ _ h => h) (.inl ⟨by kernel_rfl, fun W hW => by obtain ⟨k0, k1, k2⟩ := HK.out W hW; go_simp⟩) hS1 ?_
        refine wpAnyH_take (i := 19) (v := .pointer (some ⟨w.heap.size, 1, none⟩)) rfl (by kernel_rfl) (by kernel_rfl) (by kernel_rfl) (fun _ _ _ h => h) (.inl ⟨by kernel_rfl, fun W hW => by kernel_rfl⟩) hS1 ?_
        refine wpAnyH_take (i := 20) (v := .slice ay lo cy) rfl (by kernel_rfl) (by kernel_rfl) (by kernel_rfl) (fun _ _ _ h => h) (.inl ⟨by kernel_rfl, fun W hW => by obtain ⟨k0, k1, k2⟩ := HK.out W hW; go_simp⟩) hS1 ?_
        refine wpAnyH_take (i := 21) (v := .int .i64 (lo : Int)) rfl (by kernel_rfl) (by kernel_rfl) (by kernel_rfl) (fun _ _ _ h => h) (.inl ⟨by kernel_rfl, fun W hW => by go_simp; try simp [*]⟩) hS1 ?_
        refine wpAnyH_ready (rs := [17]) (by kernel_rfl) (by simp) ?_
        refine AllReadyH.cons rfl (fun K hK => ?_) AllReadyH.nil
        rw [if_pos (by kernel_rfl)]
        go_simp
        refine (HO.out _ (HB.out _ hS1)).mono ?_
        rintro e w2 ⟨rfl, rfl⟩
        simp only []
        refine hK.out _ _ hS1 (fun _ => ?_)
        clear hK K
        refine wpAnyH_take (i := 18) (v := .int .i64 (2 * (n2 : Int))) rfl (by kernel_rfl) (by kernel_rfl) (by kernel_rfl) (fun _ _ _ h => h) (.inl ⟨by kernel_rfl, fun W hW => by go_simp; try simp [*]⟩) hS1 ?_
        refine wpAnyH_take (i := 22) (v := .bool false) rfl (by kernel_rfl) (by kernel_rfl) (by kernel_rfl) (fun _ _ _ h => h) (.inl ⟨by kernel_rfl, fun W hW => by go_simp; try simp [*]⟩) hS1 ?_
        refine wpAnyH_take (i := 23) (v := .bool false) rfl (by kernel_rfl) (by kernel_rfl) (by kernel_rfl) (fun _ _ _ h => h) (.inl ⟨by kernel_rfl, fun W hW => by kernel_rfl⟩) hS1 ?_
        refine wpAnyH_take (i := 24) (v := .bool false) rfl (by kernel_rfl) (by kernel_rfl) (by kernel_rfl) (fun _ _ _ h => h) (.inl ⟨by kernel_rfl, fun W hW => by kernel_rfl⟩) hS1 ?_
        refine wpAnyH_take (i := 25) (v := .bool false) rfl (by kernel_rfl) (by kernel_rfl) (by kernel_rfl) (fun _ _ _ h => h) (.inl ⟨by kernel_rfl, fun W hW => by kernel_rfl⟩) hS1 ?_
        refine wpAnyH_done (by kernel_rfl) ?_ _
        go_simp
        go_wp2_with fail
        go_ret
        exact ⟨rfl, HB.out _ hS1⟩
    · obtain rfl : true = R := by rw [← HR.out]; simp; omega
      clear HR
      refine wp_region_held_drew (S := fun W => Below (w.heap.size + 1) (w.alloc (.cells #[.slice ax lv cx, .slice ay lo cy, .slice az ll cz] 24)) W) (by kernel_rfl) hS0 (fun _ => ?_)
      refine wpAnyH_take (i := 0) (v := .func (.func 49) #[.slice al lr cl] #[]) rfl (by kernel_rfl) (by kernel_rfl) (by kernel_rfl) (fun _ _ _ h => h) (.inl ⟨by kernel_rfl, fun W hW => by kernel_rfl⟩) hS0 ?_
      refine wpAnyH_take (i := 1) (v := .pointer (some ⟨w.heap.size, 0, none⟩)) rfl (by kernel_rfl) (by kernel_rfl) (by kernel_rfl) (fun _ _ _ h => h) (.inl ⟨by kernel_rfl, fun W hW => by kernel_rfl⟩) hS0 ?_
      refine wpAnyH_take (i := 5) (v := .pointer (some ⟨w.heap.size, 0, none⟩)) rfl (by kernel_rfl) (by kernel_rfl) (by kernel_rfl) (fun _ _ _ h => h) (.inl ⟨by kernel_rfl, fun W hW => by kernel_rfl⟩) hS0 ?_
      refine wpAnyH_take (i := 2) (v := .slice ax lv cx) rfl (by kernel_rfl) (by kernel_rfl) (by kernel_rfl) (fun _ _ _ h => h) (.inl ⟨by kernel_rfl, fun W hW => by obtain ⟨k0, k1, k2⟩ := HK.out W hW; go_simp⟩) hS0 ?_
      refine wpAnyH_take (i := 6) (v := .slice ax lv cx) rfl (by kernel_rfl) (by kernel_rfl) (by kernel_rfl) (fun _ _ _ h => h) (.inl ⟨by kernel_rfl, fun W hW => by obtain ⟨k0, k1, k2⟩ := HK.out W hW; go_simp⟩) hS0 ?_
      refine wpAnyH_take (i := 7) (v := .int .i64 (lv : Int)) rfl (by kernel_rfl) (by kernel_rfl) (by kernel_rfl) (fun _ _ _ h => h) (.inl ⟨by kernel_rfl, fun W hW => by go_simp; try simp [*]⟩) hS0 ?_
      refine wpAnyH_ready (rs := [3]) (by kernel_rfl) (by simp) ?_
      refine AllReadyH.cons rfl (fun K hK => ?_) AllReadyH.nil
      rw [if_pos (by kernel_rfl)]
      go_simp
      refine (HQ.out _ (HB.out _ hS0)).mono ?_
      rintro e w1 ⟨rfl, rfl⟩
      simp only []
      refine hK.out _ _ hS0 (fun _ => ?_)
      clear hK K
      refine wpAnyH_take (i := 4) (v := .int .i64 (2 * (n1 : Int))) rfl (by kernel_rfl) (by kernel_rfl) (by kernel_rfl) (fun _ _ _ h => h) (.inl ⟨by kernel_rfl, fun W hW => by go_simp; try simp [*]⟩) hS0 ?_
      refine wpAnyH_take (i := 8) (v := .bool true) rfl (by kernel_rfl) (by kernel_rfl) (by kernel_rfl) (fun _ _ _ h => h) (.inl ⟨by kernel_rfl, fun W hW => by go_simp; try simp [*]⟩) hS0 ?_
      refine wpAnyH_take (i := 9) (v := .bool true) rfl (by kernel_rfl) (by kernel_rfl) (by kernel_rfl) (fun _ _ _ h => h) (.inl ⟨by kernel_rfl, fun W hW => by kernel_rfl⟩) hS0 ?_
      refine wpAnyH_take (i := 10) (v := .agg #[.slice ax lv cx, .slice ay lo cy, .slice az ll cz]) rfl (by kernel_rfl) (by kernel_rfl) (by kernel_rfl) (fun _ _ _ h => h) (.inl ⟨by kernel_rfl, fun W hW => by obtain ⟨k0, k1, k2⟩ := HK.out W hW; go_simp⟩) hS0 ?_
      refine wpAnyH_ready (rs := [11]) (by kernel_rfl) (by simp) ?_
      refine AllReadyH.cons rfl (fun K hK => ?_) AllReadyH.nil
      rw [if_pos (by kernel_rfl)]
      go_simp
      refine (HJ.out _ (HB.out _ hS0)).mono ?_
      rintro e w1 ⟨rfl, hb1⟩
      have hS1 : Below (w.heap.size + 1) (w.alloc (.cells #[.slice ax lv cx, .slice ay lo cy, .slice az ll cz] 24)) w1 := hS0.trans (hb1.mono hS0s)
      rw [decide_eq_false h0]
      simp only []
      refine hK.out _ _ hS1 (fun _ => ?_)
      clear hK K
      refine wpAnyH_take (i := 12) (v := .bool true) rfl (by kernel_rfl) (by kernel_rfl) (by kernel_rfl) (fun _ _ _ h => h) (.inl ⟨by kernel_rfl, fun W hW => by kernel_rfl⟩) hS1 ?_
      refine wpAnyH_take (i := 13) (v := .bool true) rfl (by kernel_rfl) (by kernel_rfl) (by kernel_rfl) (fun _ _ _ h => h) (.inl ⟨by kernel_rfl, fun W hW => by kernel_rfl⟩) hS1 ?_
      refine wpAnyH_take (i := 14) (v := undef) rfl (by kernel_rfl) (by kernel_rfl) (by kernel_rfl) (fun _ _ _ h => h) (.inr ⟨by kernel_rfl, rfl⟩) hS1 ?_
      refine wpAnyH_take (i := 15) (v := undef) rfl (by kernel_rfl) (by kernel_rfl) (by kernel_rfl) (fun _ _ _ h => h) (.inr ⟨by kernel_rfl, rfl⟩) hS1 ?_
      refine wpAnyH_take (i := 16) (v := undef) rfl (by kernel_rfl) (by kernel_rfl) (by kernel_rfl) (fun _ _ _ h => h) (.inr ⟨by kernel_rfl, rfl⟩) hS1 ?_
      refine wpAnyH_take (i := 17) (v := undef) rfl (by kernel_rfl) (by kernel_rfl) (by kernel_rfl) (fun _ _ _ h => h) (.inr ⟨by kernel_rfl, rfl⟩) hS1 ?_
      refine wpAnyH_take (i := 18) (v := undef) rfl (by kernel_rfl) (by kernel_rfl) (by kernel_rfl) (fun _ _ _ h => h) (.inr ⟨by kernel_rfl, rfl⟩) hS1 ?_
      refine wpAnyH_take (i := 19) (v := undef) rfl (by kernel_rfl) (by kernel_rfl) (by kernel_rfl) (fun _ _ _ h => h) (.inr ⟨by kernel_rfl, rfl⟩) hS1 ?_
      refine wpAnyH_take (i := 20) (v := undef) rfl (by kernel_rfl) (by kernel_rfl) (by kernel_rfl) (fun _ _ _ h => h) (.inr ⟨by kernel_rfl, rfl⟩) hS1 ?_
      refine wpAnyH_take (i := 21) (v := undef) rfl (by kernel_rfl) (by kernel_rfl) (by kernel_rfl) (fun _ _ _ h => h) (.inr ⟨by kernel_rfl, rfl⟩) hS1 ?_
      refine wpAnyH_take (i := 22) (v := undef) rfl (by kernel_rfl) (by kernel_rfl) (by kernel_rfl) (fun _ _ _ h => h) (.inr ⟨by kernel_rfl, rfl⟩) hS1 ?_
      refine wpAnyH_take (i := 23) (v := .bool true) rfl (by kernel_rfl) (by kernel_rfl) (by kernel_rfl) (fun _ _ _ h => h) (.inl ⟨by kernel_rfl, fun W hW => by kernel_rfl⟩) hS1 ?_
      refine wpAnyH_take (i := 24) (v := .bool true) rfl (by kernel_rfl) (by kernel_rfl) (by kernel_rfl) (fun _ _ _ h => h) (.inl ⟨by kernel_rfl, fun W hW => by kernel_rfl⟩) hS1 ?_
      refine wpAnyH_take (i := 25) (v := .bool true) rfl (by kernel_rfl) (by kernel_rfl) (by kernel_rfl) (fun _ _ _ h => h) (.inl ⟨by kernel_rfl, fun W hW => by kernel_rfl⟩) hS1 ?_
      refine wpAnyH_done (by kernel_rfl) ?_ _
      go_simp
      go_wp2_with fail
      go_ret
      exact ⟨rfl, HB.out _ hS1⟩
  · have h1i : ¬ (lv : Int) < 2 * (n1 : Int) := by omega
    obtain rfl : false = R := by rw [← HR.out]; simp; omega
    clear HR
    go_wp2_with fail
    refine wp_region_held_drew (S := fun W => Below (w.heap.size + 1) (w.alloc (.cells #[.slice ax lv cx, .slice ay lo cy, .slice az ll cz] 24)) W) (by kernel_rfl) hS0 (fun _ => ?_)
    refine wpAnyH_take (i := 0) (v := .func (.func 49) #[.slice al lr cl] #[]) rfl (by kernel_rfl) (by kernel_rfl) (by kernel_rfl) (fun _ _ _ h => h) (.inl ⟨by kernel_rfl, fun W hW => by kernel_rfl⟩) hS0 ?_
    refine wpAnyH_take (i := 1) (v := .pointer (some ⟨w.heap.size, 0, none⟩)) rfl (by kernel_rfl) (by kernel_rfl) (by kernel_rfl) (fun _ _ _ h => h) (.inl ⟨by kernel_rfl, fun W hW => by kernel_rfl⟩) hS0 ?_
    refine wpAnyH_take (i := 5) (v := .pointer (some ⟨w.heap.size, 0, none⟩)) rfl (by kernel_rfl) (by kernel_rfl) (by kernel_rfl) (fun _ _ _ h => h) (.inl ⟨by kernel_rfl, fun W hW => by kernel_rfl⟩) hS0 ?_
    refine wpAnyH_take (i := 2) (v := .slice ax lv cx) rfl (by kernel_rfl) (by kernel_rfl) (by kernel_rfl) (fun _ _ _ h => h) (.inl ⟨by kernel_rfl, fun W hW => by obtain ⟨k0, k1, k2⟩ := HK.out W hW; go_simp⟩) hS0 ?_
    refine wpAnyH_take (i := 6) (v := .slice ax lv cx) rfl (by kernel_rfl) (by kernel_rfl) (by kernel_rfl) (fun _ _ _ h => h) (.inl ⟨by kernel_rfl, fun W hW => by obtain ⟨k0, k1, k2⟩ := HK.out W hW; go_simp⟩) hS0 ?_
    refine wpAnyH_take (i := 7) (v := .int .i64 (lv : Int)) rfl (by kernel_rfl) (by kernel_rfl) (by kernel_rfl) (fun _ _ _ h => h) (.inl ⟨by kernel_rfl, fun W hW => by go_simp; try simp [*]⟩) hS0 ?_
    refine wpAnyH_ready (rs := [3]) (by kernel_rfl) (by simp) ?_
    refine AllReadyH.cons rfl (fun K hK => ?_) AllReadyH.nil
    rw [if_pos (by kernel_rfl)]
    go_simp
    refine (HQ.out _ (HB.out _ hS0)).mono ?_
    rintro e w1 ⟨rfl, rfl⟩
    simp only []
    refine hK.out _ _ hS0 (fun _ => ?_)
    clear hK K
    refine wpAnyH_take (i := 4) (v := .int .i64 (2 * (n1 : Int))) rfl (by kernel_rfl) (by kernel_rfl) (by kernel_rfl) (fun _ _ _ h => h) (.inl ⟨by kernel_rfl, fun W hW => by go_simp; try simp [*]⟩) hS0 ?_
    refine wpAnyH_take (i := 8) (v := .bool false) rfl (by kernel_rfl) (by kernel_rfl) (by kernel_rfl) (fun _ _ _ h => h) (.inl ⟨by kernel_rfl, fun W hW => by go_simp; try simp [*]⟩) hS0 ?_
    refine wpAnyH_take (i := 9) (v := .bool false) rfl (by kernel_rfl) (by kernel_rfl) (by kernel_rfl) (fun _ _ _ h => h) (.inl ⟨by kernel_rfl, fun W hW => by kernel_rfl⟩) hS0 ?_
    refine wpAnyH_take (i := 10) (v := undef) rfl (by kernel_rfl) (by kernel_rfl) (by kernel_rfl) (fun _ _ _ h => h) (.inr ⟨by kernel_rfl, rfl⟩) hS0 ?_
    refine wpAnyH_take (i := 11) (v := undef) rfl (by kernel_rfl) (by kernel_rfl) (by kernel_rfl) (fun _ _ _ h => h) (.inr ⟨by kernel_rfl, rfl⟩) hS0 ?_
    refine wpAnyH_take (i := 12) (v := undef) rfl (by kernel_rfl) (by kernel_rfl) (by kernel_rfl) (fun _ _ _ h => h) (.inr ⟨by kernel_rfl, rfl⟩) hS0 ?_
    refine wpAnyH_take (i := 13) (v := undef) rfl (by kernel_rfl) (by kernel_rfl) (by kernel_rfl) (fun _ _ _ h => h) (.inr ⟨by kernel_rfl, rfl⟩) hS0 ?_
    refine wpAnyH_take (i := 14) (v := undef) rfl (by kernel_rfl) (by kernel_rfl) (by kernel_rfl) (fun _ _ _ h => h) (.inr ⟨by kernel_rfl, rfl⟩) hS0 ?_
    refine wpAnyH_take (i := 15) (v := undef) rfl (by kernel_rfl) (by kernel_rfl) (by kernel_rfl) (fun _ _ _ h => h) (.inr ⟨by kernel_rfl, rfl⟩) hS0 ?_
    refine wpAnyH_take (i := 16) (v := undef) rfl (by kernel_rfl) (by kernel_rfl) (by kernel_rfl) (fun _ _ _ h => h) (.inr ⟨by kernel_rfl, rfl⟩) hS0 ?_
    refine wpAnyH_take (i := 17) (v := undef) rfl (by kernel_rfl) (by kernel_rfl) (by kernel_rfl) (fun _ _ _ h => h) (.inr ⟨by kernel_rfl, rfl⟩) hS0 ?_
    refine wpAnyH_take (i := 18) (v := undef) rfl (by kernel_rfl) (by kernel_rfl) (by kernel_rfl) (fun _ _ _ h => h) (.inr ⟨by kernel_rfl, rfl⟩) hS0 ?_
    refine wpAnyH_take (i := 19) (v := undef) rfl (by kernel_rfl) (by kernel_rfl) (by kernel_rfl) (fun _ _ _ h => h) (.inr ⟨by kernel_rfl, rfl⟩) hS0 ?_
    refine wpAnyH_take (i := 20) (v := undef) rfl (by kernel_rfl) (by kernel_rfl) (by kernel_rfl) (fun _ _ _ h => h) (.inr ⟨by kernel_rfl, rfl⟩) hS0 ?_
    refine wpAnyH_take (i := 21) (v := undef) rfl (by kernel_rfl) (by kernel_rfl) (by kernel_rfl) (fun _ _ _ h => h) (.inr ⟨by kernel_rfl, rfl⟩) hS0 ?_
    refine wpAnyH_take (i := 22) (v := undef) rfl (by kernel_rfl) (by kernel_rfl) (by kernel_rfl) (fun _ _ _ h => h) (.inr ⟨by kernel_rfl, rfl⟩) hS0 ?_
    refine wpAnyH_take (i := 23) (v := undef) rfl (by kernel_rfl) (by kernel_rfl) (by kernel_rfl) (fun _ _ _ h => h) (.inr ⟨by kernel_rfl, rfl⟩) hS0 ?_
    refine wpAnyH_take (i := 24) (v := .bool false) rfl (by kernel_rfl) (by kernel_rfl) (by kernel_rfl) (fun _ _ _ h => h) (.inl ⟨by kernel_rfl, fun W hW => by kernel_rfl⟩) hS0 ?_
    refine wpAnyH_take (i := 25) (v := .bool false) rfl (by kernel_rfl) (by kernel_rfl) (by kernel_rfl) (fun _ _ _ h => h) (.inl ⟨by kernel_rfl, fun W hW => by kernel_rfl⟩) hS0 ?_
    refine wpAnyH_done (by kernel_rfl) ?_ _
    go_simp
    go_wp2_with fail
    go_ret
    exact ⟨rfl, HB.out _ hS0⟩

set_option maxHeartbeats 4000000 in
theorem agreed_missing {x y z v : Value} {c : Cn} {l : List UInt64} {w : World} (hr : Rc w x y z c) (hl : Ru w v l) (hv : c.1.length ≤ 9) (ho : c.2.1.length ≤ 9) :
    Calls Try.prog 48 #[.agg #[x, y, z], .func (.func 51) #[v] #[]] w fun e w' => e = .returned (.bool (agr (fun vs => vs.length - cnt l vs) c)) ∧ Below w.heap.size w w' := by
  have hB := u_al w (.cells #[x, y, z] 24)
  have hle : ∀ vs, (fun vs => vs.length - cnt l vs) vs ≤ vs.length := fun vs => Nat.sub_le _ _
  have hf1 := hle c.1
  have hf2 := hle c.2.1
  have HQ : Hid (∀ W, Below w.heap.size w W → Calls Try.prog 51 #[v, x] W fun e w' => e = .returned (.int .i64 ((fun vs => vs.length - cnt l vs) c.1 : Nat)) ∧ w' = W) := fun W hW => missing_any (hl.below hW (Nat.le_refl _)) (hr.1.below hW (Nat.le_refl _))
  have HO : Hid (∀ W, Below w.heap.size w W → Calls Try.prog 51 #[v, y] W fun e w' => e = .returned (.int .i64 ((fun vs => vs.length - cnt l vs) c.2.1 : Nat)) ∧ w' = W) := fun W hW => missing_any (hl.below hW (Nat.le_refl _)) (hr.2.1.below hW (Nat.le_refl _))
  have HJ : Hid (∀ W, Below w.heap.size w W → Calls Try.prog 13 #[.agg #[x, y, z]] W fun e w' => e = .returned (.bool (decide (0 < c.2.1.length))) ∧ Below W.heap.size W w') := fun W hW => ujoint_any (hr.below hW (Nat.le_refl _))
  have HK : Hid (∀ W, Below (w.heap.size + 1) (w.alloc (.cells #[x, y, z] 24)) W → W.cell? ⟨w.heap.size, 0, none⟩ = some x ∧ W.cell? ⟨w.heap.size, 1, none⟩ = some y ∧ W.cell? ⟨w.heap.size, 2, none⟩ = some z) := fun W hW => box3 hW rfl
  have HB : Hid (∀ W, Below (w.heap.size + 1) (w.alloc (.cells #[x, y, z] 24)) W → Below w.heap.size w W) := fun W hW => hB.trans (hW.mono (by omega))
  have hS0 : Below (w.heap.size + 1) (w.alloc (.cells #[x, y, z] 24)) (w.alloc (.cells #[x, y, z] 24)).drew := (u_drew _).mono (by simp)
  have hS0s : w.heap.size + 1 ≤ (w.alloc (.cells #[x, y, z] 24)).drew.heap.size := by
    have := hS0.size; simp only [World.size_alloc] at this; omega
  generalize hR : agr (fun vs => vs.length - cnt l vs) c = R
  unfold agr at hR
  obtain ⟨ax, cx, rfl⟩ := hr.1.shape
  obtain ⟨ay, cy, rfl⟩ := hr.2.1.shape
  obtain ⟨az, cz, rfl⟩ := hr.2.2.shape
  obtain ⟨al, cl, rfl⟩ := hl.shape
  generalize (fun vs => vs.length - cnt l vs) c.1 = n1 at *
  generalize (fun vs => vs.length - cnt l vs) c.2.1 = n2 at *
  obtain ⟨V, O, L⟩ := c
  simp only [] at *
  generalize V.length = lv at *
  generalize O.length = lo at *
  generalize L.length = ll at *
  generalize l.length = lr at *
  clear hr hl hle
  have HR : Hid _ := hR
  clear hR
  have hm1 : IntKind.i64.wrap (2 * (n1 : Int)) = 2 * (n1 : Int) := by rw [IntKind.wrap_i64]; omega
  have hm2 : IntKind.i64.wrap (2 * (n2 : Int)) = 2 * (n2 : Int) := by rw [IntKind.wrap_i64]; omega
  go_enter Try.func48, Try.ntmps48
  by_cases h1 : lv < 2 * n1
  · have h1i : (lv : Int) < 2 * (n1 : Int) := by omega
    go_wp2_with fail
    by_cases h0 : 0 < lo
    · by_cases h2 : lo < 2 * n2
      · have h2i :  (lo : Int) < 2 * (n2 : Int) := by omega
        obtain rfl : true = R := by rw [← HR.out]; simp; omega
        clear HR
        refine wp_region_held_drew (S := fun W => Below (w.heap.size + 1) (w.alloc (.cells #[.slice ax lv cx, .slice ay lo cy, .slice az ll cz] 24)) W) (by kernel_rfl) hS0 (fun _ => ?_)
        refine wpAnyH_take (i := 0) (v := .func (.func 51) #[.slice al lr cl] #[]) rfl (by kernel_rfl) (by kernel_rfl) (by kernel_rfl) (fun _ _ _ h => h) (.inl ⟨by kernel_rfl, fun W hW => by kernel_rfl⟩) hS0 ?_
        refine wpAnyH_take (i := 1) (v := .pointer (some ⟨w.heap.size, 0, none⟩)) rfl (by kernel_rfl) (by kernel_rfl) (by kernel_rfl) (fun _ _ _ h => h) (.inl ⟨by kernel_rfl, fun W hW => by kernel_rfl⟩) hS0 ?_
        refine wpAnyH_take (i := 5) (v := .pointer (some ⟨w.heap.size, 0, none⟩)) rfl (by kernel_rfl) (by kernel_rfl) (by kernel_rfl) (fun _ _ _ h => h) (.inl ⟨by kernel_rfl, fun W hW => by kernel_rfl⟩) hS0 ?_
        refine wpAnyH_take (i := 2) (v := .slice ax lv cx) rfl (by kernel_rfl) (by kernel_rfl) (by kernel_rfl) (fun _ _ _ h => h) (.inl ⟨by kernel_rfl, fun W hW => by obtain ⟨k0, k1, k2⟩ := HK.out W hW; go_simp⟩) hS0 ?_
        refine wpAnyH_take (i := 6) (v := .slice ax lv cx) rfl (by kernel_rfl) (by kernel_rfl) (by kernel_rfl) (fun _ _ _ h => h) (.inl ⟨by kernel_rfl, fun W hW => by obtain ⟨k0, k1, k2⟩ := HK.out W hW; go_simp⟩) hS0 ?_
        refine wpAnyH_take (i := 7) (v := .int .i64 (lv : Int)) rfl (by kernel_rfl) (by kernel_rfl) (by kernel_rfl) (fun _ _ _ h => h) (.inl ⟨by kernel_rfl, fun W hW => by go_simp; try simp [*]⟩) hS0 ?_
        refine wpAnyH_ready (rs := [3]) (by kernel_rfl) (by simp) ?_
        refine AllReadyH.cons rfl (fun K hK => ?_) AllReadyH.nil
        rw [if_pos (by kernel_rfl)]
        go_simp
        refine (HQ.out _ (HB.out _ hS0)).mono ?_
        rintro e w1 ⟨rfl, rfl⟩
        simp only []
        refine hK.out _ _ hS0 (fun _ => ?_)
        clear hK K
        refine wpAnyH_take (i := 4) (v := .int .i64 (2 * (n1 : Int))) rfl (by kernel_rfl) (by kernel_rfl) (by kernel_rfl) (fun _ _ _ h => h) (.inl ⟨by kernel_rfl, fun W hW => by go_simp; try simp [*]⟩) hS0 ?_
        refine wpAnyH_take (i := 8) (v := .bool true) rfl (by kernel_rfl) (by kernel_rfl) (by kernel_rfl) (fun _ _ _ h => h) (.inl ⟨by kernel_rfl, fun W hW => by go_simp; try simp [*]⟩) hS0 ?_
        refine wpAnyH_take (i := 9) (v := .bool true) rfl (by kernel_rfl) (by kernel_rfl) (by kernel_rfl) (fun _ _ _ h => h) (.inl ⟨by kernel_rfl, fun W hW => by kernel_rfl⟩) hS0 ?_
        refine wpAnyH_take (i := 10) (v := .agg #[.slice ax lv cx, .slice ay lo cy, .slice az ll cz]) rfl (by kernel_rfl) (by kernel_rfl) (by kernel_rfl) (fun _ _ _ h => h) (.inl ⟨by kernel_rfl, fun W hW => by obtain ⟨k0, k1, k2⟩ := HK.out W hW; go_simp⟩) hS0 ?_
        refine wpAnyH_ready (rs := [11]) (by kernel_rfl) (by simp) ?_
        refine AllReadyH.cons rfl (fun K hK => ?_) AllReadyH.nil
        rw [if_pos (by kernel_rfl)]
        go_simp
        refine (HJ.out _ (HB.out _ hS0)).mono ?_
        rintro e w1 ⟨rfl, hb1⟩
        have hS1 : Below (w.heap.size + 1) (w.alloc (.cells #[.slice ax lv cx, .slice ay lo cy, .slice az ll cz] 24)) w1 := hS0.trans (hb1.mono hS0s)
        rw [decide_eq_true h0]
        simp only []
        refine hK.out _ _ hS1 (fun _ => ?_)
        clear hK K
        refine wpAnyH_take (i := 12) (v := .bool false) rfl (by kernel_rfl) (by kernel_rfl) (by kernel_rfl) (fun _ _ _ h => h) (.inl ⟨by kernel_rfl, fun W hW => by kernel_rfl⟩) hS1 ?_
        refine wpAnyH_take (i := 13) (v := .bool false) rfl (by kernel_rfl) (by kernel_rfl) (by kernel_rfl) (fun _ _ _ h => h) (.inl ⟨by kernel_rfl, fun W hW => by kernel_rfl⟩) hS1 ?_
        refine wpAnyH_take (i := 14) (v := .func (.func 51) #[.slice al lr cl] #[]) rfl (by kernel_rfl) (by kernel_rfl) (by kernel_rfl) (fun _ _ _ h => h) (.inl ⟨by kernel_rfl, fun W hW => by kernel_rfl⟩) hS1 ?_
        refine wpAnyH_take (i := 15) (v := .pointer (some ⟨w.heap.size, 1, none⟩)) rfl (by kernel_rfl) (by kernel_rfl) (by kernel_rfl) (fun _ _ _ h => h) (.inl ⟨by kernel_rfl, fun W hW => by kernel_rfl⟩) hS1 ?_
        refine wpAnyH_take (i := 16) (v := .slice ay lo cy) rfl (by kernel_rfl) (by kernel_rfl) (by kernel_rfl) (fun _ _ _ h => h) (.inl ⟨by kernel_rfl, fun W hW => by obtain ⟨k0, k1, k2⟩ := HK.out W hW; go_simp⟩) hS1 ?_
        refine wpAnyH_take (i := 19) (v := .pointer (some ⟨w.heap.size, 1, none⟩)) rfl (by kernel_rfl) (by kernel_rfl) (by kernel_rfl) (fun _ _ _ h => h) (.inl ⟨by kernel_rfl, fun W hW => by kernel_rfl⟩) hS1 ?_
        refine wpAnyH_take (i := 20) (v := .slice ay lo cy) rfl (by kernel_rfl) (by kernel_rfl) (by kernel_rfl) (fun _ _ _ h => h) (.inl ⟨by kernel_rfl, fun W hW => by obtain ⟨k0, k1, k2⟩ := HK.out W hW; go_simp⟩) hS1 ?_
        refine wpAnyH_take (i := 21) (v := .int .i64 (lo : Int)) rfl (by kernel_rfl) (by kernel_rfl) (by kernel_rfl) (fun _ _ _ h => h) (.inl ⟨by kernel_rfl, fun W hW => by go_simp; try simp [*]⟩) hS1 ?_
        refine wpAnyH_ready (rs := [17]) (by kernel_rfl) (by simp) ?_
        refine AllReadyH.cons rfl (fun K hK => ?_) AllReadyH.nil
        rw [if_pos (by kernel_rfl)]
        go_simp
        refine (HO.out _ (HB.out _ hS1)).mono ?_
        rintro e w2 ⟨rfl, rfl⟩
        simp only []
        refine hK.out _ _ hS1 (fun _ => ?_)
        clear hK K
        refine wpAnyH_take (i := 18) (v := .int .i64 (2 * (n2 : Int))) rfl (by kernel_rfl) (by kernel_rfl) (by kernel_rfl) (fun _ _ _ h => h) (.inl ⟨by kernel_rfl, fun W hW => by go_simp; try simp [*]⟩) hS1 ?_
        refine wpAnyH_take (i := 22) (v := .bool true) rfl (by kernel_rfl) (by kernel_rfl) (by kernel_rfl) (fun _ _ _ h => h) (.inl ⟨by kernel_rfl, fun W hW => by go_simp; try simp [*]⟩) hS1 ?_
        refine wpAnyH_take (i := 23) (v := .bool true) rfl (by kernel_rfl) (by kernel_rfl) (by kernel_rfl) (fun _ _ _ h => h) (.inl ⟨by kernel_rfl, fun W hW => by kernel_rfl⟩) hS1 ?_
        refine wpAnyH_take (i := 24) (v := .bool true) rfl (by kernel_rfl) (by kernel_rfl) (by kernel_rfl) (fun _ _ _ h => h) (.inl ⟨by kernel_rfl, fun W hW => by kernel_rfl⟩) hS1 ?_
        refine wpAnyH_take (i := 25) (v := .bool true) rfl (by kernel_rfl) (by kernel_rfl) (by kernel_rfl) (fun _ _ _ h => h) (.inl ⟨by kernel_rfl, fun W hW => by kernel_rfl⟩) hS1 ?_
        refine wpAnyH_done (by kernel_rfl) ?_ _
        go_simp
        go_wp2_with fail
        go_ret
        exact ⟨rfl, HB.out _ hS1⟩
      · have h2i : ¬ (lo : Int) < 2 * (n2 : Int) := by omega
        obtain rfl : false = R := by rw [← HR.out]; simp; omega
        clear HR
        refine wp_region_held_drew (S := fun W => Below (w.heap.size + 1) (w.alloc (.cells #[.slice ax lv cx, .slice ay lo cy, .slice az ll cz] 24)) W) (by kernel_rfl) hS0 (fun _ => ?_)
        refine wpAnyH_take (i := 0) (v := .func (.func 51) #[.slice al lr cl] #[]) rfl (by kernel_rfl) (by kernel_rfl) (by kernel_rfl) (fun _ _ _ h => h) (.inl ⟨by kernel_rfl, fun W hW => by kernel_rfl⟩) hS0 ?_
        refine wpAnyH_take (i := 1) (v := .pointer (some ⟨w.heap.size, 0, none⟩)) rfl (by kernel_rfl) (by kernel_rfl) (by kernel_rfl) (fun _ _ _ h => h) (.inl ⟨by kernel_rfl, fun W hW => by kernel_rfl⟩) hS0 ?_
        refine wpAnyH_take (i := 5) (v := .pointer (some ⟨w.heap.size, 0, none⟩)) rfl (by kernel_rfl) (by kernel_rfl) (by kernel_rfl) (fun _ _ _ h => h) (.inl ⟨by kernel_rfl, fun W hW => by kernel_rfl⟩) hS0 ?_
        refine wpAnyH_take (i := 2) (v := .slice ax lv cx) rfl (by kernel_rfl) (by kernel_rfl) (by kernel_rfl) (fun _ _ _ h => h) (.inl ⟨by kernel_rfl, fun W hW => by obtain ⟨k0, k1, k2⟩ := HK.out W hW; go_simp⟩) hS0 ?_
        refine wpAnyH_take (i := 6) (v := .slice ax lv cx) rfl (by kernel_rfl) (by kernel_rfl) (by kernel_rfl) (fun _ _ _ h => h) (.inl ⟨by kernel_rfl, fun W hW => by obtain ⟨k0, k1, k2⟩ := HK.out W hW; go_simp⟩) hS0 ?_
        refine wpAnyH_take (i := 7) (v := .int .i64 (lv : Int)) rfl (by kernel_rfl) (by kernel_rfl) (by kernel_rfl) (fun _ _ _ h => h) (.inl ⟨by kernel_rfl, fun W hW => by go_simp; try simp [*]⟩) hS0 ?_
        refine wpAnyH_ready (rs := [3]) (by kernel_rfl) (by simp) ?_
        refine AllReadyH.cons rfl (fun K hK => ?_) AllReadyH.nil
        rw [if_pos (by kernel_rfl)]
        go_simp
        refine (HQ.out _ (HB.out _ hS0)).mono ?_
        rintro e w1 ⟨rfl, rfl⟩
        simp only []
        refine hK.out _ _ hS0 (fun _ => ?_)
        clear hK K
        refine wpAnyH_take (i := 4) (v := .int .i64 (2 * (n1 : Int))) rfl (by kernel_rfl) (by kernel_rfl) (by kernel_rfl) (fun _ _ _ h => h) (.inl ⟨by kernel_rfl, fun W hW => by go_simp; try simp [*]⟩) hS0 ?_
        refine wpAnyH_take (i := 8) (v := .bool true) rfl (by kernel_rfl) (by kernel_rfl) (by kernel_rfl) (fun _ _ _ h => h) (.inl ⟨by kernel_rfl, fun W hW => by go_simp; try simp [*]⟩) hS0 ?_
        refine wpAnyH_take (i := 9) (v := .bool true) rfl (by kernel_rfl) (by kernel_rfl) (by kernel_rfl) (fun _ _ _ h => h) (.inl ⟨by kernel_rfl, fun W hW => by kernel_rfl⟩) hS0 ?_
        refine wpAnyH_take (i := 10) (v := .agg #[.slice ax lv cx, .slice ay lo cy, .slice az ll cz]) rfl (by kernel_rfl) (by kernel_rfl) (by kernel_rfl) (fun _ _ _ h => h) (.inl ⟨by kernel_rfl, fun W hW => by obtain ⟨k0, k1, k2⟩ := HK.out W hW; go_simp⟩) hS0 ?_
        refine wpAnyH_ready (rs := [11]) (by kernel_rfl) (by simp) ?_
        refine AllReadyH.cons rfl (fun K hK => ?_) AllReadyH.nil
        rw [if_pos (by kernel_rfl)]
        go_simp
        refine (HJ.out _ (HB.out _ hS0)).mono ?_
        rintro e w1 ⟨rfl, hb1⟩
        have hS1 : Below (w.heap.size + 1) (w.alloc (.cells #[.slice ax lv cx, .slice ay lo cy, .slice az ll cz] 24)) w1 := hS0.trans (hb1.mono hS0s)
        rw [decide_eq_true h0]
        simp only []
        refine hK.out _ _ hS1 (fun _ => ?_)
        clear hK K
        refine wpAnyH_take (i := 12) (v := .bool false) rfl (by kernel_rfl) (by kernel_rfl) (by kernel_rfl) (fun _ _ _ h => h) (.inl ⟨by kernel_rfl, fun W hW => by kernel_rfl⟩) hS1 ?_
        refine wpAnyH_take (i := 13) (v := .bool false) rfl (by kernel_rfl) (by kernel_rfl) (by kernel_rfl) (fun _ _ _ h => h) (.inl ⟨by kernel_rfl, fun W hW => by kernel_rfl⟩) hS1 ?_
        refine wpAnyH_take (i := 14) (v := .func (.func 51) #[.slice al lr cl] #[]) rfl (by kernel_rfl) (by kernel_rfl) (by kernel_rfl) (fun _ _ _ h => h) (.inl ⟨by kernel_rfl, fun W hW => by kernel_rfl⟩) hS1 ?_
        refine wpAnyH_take (i := 15) (v := .pointer (some ⟨w.heap.size, 1, none⟩)) rfl (by kernel_rfl) (by kernel_rfl) (by kernel_rfl) (fun _ _ _ h => h) (.inl ⟨by kernel_rfl, fun W hW => by kernel_rfl⟩) hS1 ?_
        refine wpAnyH_take (i := 16) (v := .slice ay lo cy) rfl (by kernel_rfl) (by kernel_rfl) (by kernel_rfl) (fun _ _ _ h => h) (.inl ⟨by kernel_rfl, fun W hW => by obtain ⟨k0, k1, k2⟩ := HK.out W hW; go_simp⟩) hS1 ?_
        refine wpAnyH_take (i := 19) (v := .pointer (some ⟨w.heap.size, 1, none⟩)) rfl (by kernel_rfl) (by kernel_rfl) (by kernel_rfl) (fun _ _ _ h => h) (.inl ⟨by kernel_rfl, fun W hW => by kernel_rfl⟩) hS1 ?_
        refine wpAnyH_take (i := 20) (v := .slice ay lo cy) rfl (by kernel_rfl) (by kernel_rfl) (by kernel_rfl) (fun _ _ _ h => h) (.inl ⟨by kernel_rfl, fun W hW => by obtain ⟨k0, k1, k2⟩ := HK.out W hW; go_simp⟩) hS1 ?_
        refine wpAnyH_take (i := 21) (v := .int .i64 (lo : Int)) rfl (by kernel_rfl) (by kernel_rfl) (by kernel_rfl) (fun _ _ _ h => h) (.inl ⟨by kernel_rfl, fun W hW => by go_simp; try simp [*]⟩) hS1 ?_
        refine wpAnyH_ready (rs := [17]) (by kernel_rfl) (by simp) ?_
        refine AllReadyH.cons rfl (fun K hK => ?_) AllReadyH.nil
        rw [if_pos (by kernel_rfl)]
        go_simp
        refine (HO.out _ (HB.out _ hS1)).mono ?_
        rintro e w2 ⟨rfl, rfl⟩
        simp only []
        refine hK.out _ _ hS1 (fun _ => ?_)
        clear hK K
        refine wpAnyH_take (i := 18) (v := .int .i64 (2 * (n2 : Int))) rfl (by kernel_rfl) (by kernel_rfl) (by kernel_rfl) (fun _ _ _ h => h) (.inl ⟨by kernel_rfl, fun W hW => by go_simp; try simp [*]⟩) hS1 ?_
        refine wpAnyH_take (i := 22) (v := .bool false) rfl (by kernel_rfl) (by kernel_rfl) (by kernel_rfl) (fun _ _ _ h => h) (.inl ⟨by kernel_rfl, fun W hW => by go_simp; try simp [*]⟩) hS1 ?_
        refine wpAnyH_take (i := 23) (v := .bool false) rfl (by kernel_rfl) (by kernel_rfl) (by kernel_rfl) (fun _ _ _ h => h) (.inl ⟨by kernel_rfl, fun W hW => by kernel_rfl⟩) hS1 ?_
        refine wpAnyH_take (i := 24) (v := .bool false) rfl (by kernel_rfl) (by kernel_rfl) (by kernel_rfl) (fun _ _ _ h => h) (.inl ⟨by kernel_rfl, fun W hW => by kernel_rfl⟩) hS1 ?_
        refine wpAnyH_take (i := 25) (v := .bool false) rfl (by kernel_rfl) (by kernel_rfl) (by kernel_rfl) (fun _ _ _ h => h) (.inl ⟨by kernel_rfl, fun W hW => by kernel_rfl⟩) hS1 ?_
        refine wpAnyH_done (by kernel_rfl) ?_ _
        go_simp
        go_wp2_with fail
        go_ret
        exact ⟨rfl, HB.out _ hS1⟩
    · obtain rfl : true = R := by rw [← HR.out]; simp; omega
      clear HR
      refine wp_region_held_drew (S := fun W => Below (w.heap.size + 1) (w.alloc (.cells #[.slice ax lv cx, .slice ay lo cy, .slice az ll cz] 24)) W) (by kernel_rfl) hS0 (fun _ => ?_)
      refine wpAnyH_take (i := 0) (v := .func (.func 51) #[.slice al lr cl] #[]) rfl (by kernel_rfl) (by kernel_rfl) (by kernel_rfl) (fun _ _ _ h => h) (.inl ⟨by kernel_rfl, fun W hW => by kernel_rfl⟩) hS0 ?_
      refine wpAnyH_take (i := 1) (v := .pointer (some ⟨w.heap.size, 0, none⟩)) rfl (by kernel_rfl) (by kernel_rfl) (by kernel_rfl) (fun _ _ _ h => h) (.inl ⟨by kernel_rfl, fun W hW => by kernel_rfl⟩) hS0 ?_
      refine wpAnyH_take (i := 5) (v := .pointer (some ⟨w.heap.size, 0, none⟩)) rfl (by kernel_rfl) (by kernel_rfl) (by kernel_rfl) (fun _ _ _ h => h) (.inl ⟨by kernel_rfl, fun W hW => by kernel_rfl⟩) hS0 ?_
      refine wpAnyH_take (i := 2) (v := .slice ax lv cx) rfl (by kernel_rfl) (by kernel_rfl) (by kernel_rfl) (fun _ _ _ h => h) (.inl ⟨by kernel_rfl, fun W hW => by obtain ⟨k0, k1, k2⟩ := HK.out W hW; go_simp⟩) hS0 ?_
      refine wpAnyH_take (i := 6) (v := .slice ax lv cx) rfl (by kernel_rfl) (by kernel_rfl) (by kernel_rfl) (fun _ _ _ h => h) (.inl ⟨by kernel_rfl, fun W hW => by obtain ⟨k0, k1, k2⟩ := HK.out W hW; go_simp⟩) hS0 ?_
      refine wpAnyH_take (i := 7) (v := .int .i64 (lv : Int)) rfl (by kernel_rfl) (by kernel_rfl) (by kernel_rfl) (fun _ _ _ h => h) (.inl ⟨by kernel_rfl, fun W hW => by go_simp; try simp [*]⟩) hS0 ?_
      refine wpAnyH_ready (rs := [3]) (by kernel_rfl) (by simp) ?_
      refine AllReadyH.cons rfl (fun K hK => ?_) AllReadyH.nil
      rw [if_pos (by kernel_rfl)]
      go_simp
      refine (HQ.out _ (HB.out _ hS0)).mono ?_
      rintro e w1 ⟨rfl, rfl⟩
      simp only []
      refine hK.out _ _ hS0 (fun _ => ?_)
      clear hK K
      refine wpAnyH_take (i := 4) (v := .int .i64 (2 * (n1 : Int))) rfl (by kernel_rfl) (by kernel_rfl) (by kernel_rfl) (fun _ _ _ h => h) (.inl ⟨by kernel_rfl, fun W hW => by go_simp; try simp [*]⟩) hS0 ?_
      refine wpAnyH_take (i := 8) (v := .bool true) rfl (by kernel_rfl) (by kernel_rfl) (by kernel_rfl) (fun _ _ _ h => h) (.inl ⟨by kernel_rfl, fun W hW => by go_simp; try simp [*]⟩) hS0 ?_
      refine wpAnyH_take (i := 9) (v := .bool true) rfl (by kernel_rfl) (by kernel_rfl) (by kernel_rfl) (fun _ _ _ h => h) (.inl ⟨by kernel_rfl, fun W hW => by kernel_rfl⟩) hS0 ?_
      refine wpAnyH_take (i := 10) (v := .agg #[.slice ax lv cx, .slice ay lo cy, .slice az ll cz]) rfl (by kernel_rfl) (by kernel_rfl) (by kernel_rfl) (fun _ _ _ h => h) (.inl ⟨by kernel_rfl, fun W hW => by obtain ⟨k0, k1, k2⟩ := HK.out W hW; go_simp⟩) hS0 ?_
      refine wpAnyH_ready (rs := [11]) (by kernel_rfl) (by simp) ?_
      refine AllReadyH.cons rfl (fun K hK => ?_) AllReadyH.nil
      rw [if_pos (by kernel_rfl)]
      go_simp
      refine (HJ.out _ (HB.out _ hS0)).mono ?_
      rintro e w1 ⟨rfl, hb1⟩
      have hS1 : Below (w.heap.size + 1) (w.alloc (.cells #[.slice ax lv cx, .slice ay lo cy, .slice az ll cz] 24)) w1 := hS0.trans (hb1.mono hS0s)
      rw [decide_eq_false h0]
      simp only []
      refine hK.out _ _ hS1 (fun _ => ?_)
      clear hK K
      refine wpAnyH_take (i := 12) (v := .bool true) rfl (by kernel_rfl) (by kernel_rfl) (by kernel_rfl) (fun _ _ _ h => h) (.inl ⟨by kernel_rfl, fun W hW => by kernel_rfl⟩) hS1 ?_
      refine wpAnyH_take (i := 13) (v := .bool true) rfl (by kernel_rfl) (by kernel_rfl) (by kernel_rfl) (fun _ _ _ h => h) (.inl ⟨by kernel_rfl, fun W hW => by kernel_rfl⟩) hS1 ?_
      refine wpAnyH_take (i := 14) (v := undef) rfl (by kernel_rfl) (by kernel_rfl) (by kernel_rfl) (fun _ _ _ h => h) (.inr ⟨by kernel_rfl, rfl⟩) hS1 ?_
      refine wpAnyH_take (i := 15) (v := undef) rfl (by kernel_rfl) (by kernel_rfl) (by kernel_rfl) (fun _ _ _ h => h) (.inr ⟨by kernel_rfl, rfl⟩) hS1 ?_
      refine wpAnyH_take (i := 16) (v := undef) rfl (by kernel_rfl) (by kernel_rfl) (by kernel_rfl) (fun _ _ _ h => h) (.inr ⟨by kernel_rfl, rfl⟩) hS1 ?_
      refine wpAnyH_take (i := 17) (v := undef) rfl (by kernel_rfl) (by kernel_rfl) (by kernel_rfl) (fun _ _ _ h => h) (.inr ⟨by kernel_rfl, rfl⟩) hS1 ?_
      refine wpAnyH_take (i := 18) (v := undef) rfl (by kernel_rfl) (by kernel_rfl) (by kernel_rfl) (fun _ _ _ h => h) (.inr ⟨by kernel_rfl, rfl⟩) hS1 ?_
      refine wpAnyH_take (i := 19) (v := undef) rfl (by kernel_rfl) (by kernel_rfl) (by kernel_rfl) (fun _ _ _ h => h) (.inr ⟨by kernel_rfl, rfl⟩) hS1 ?_
      refine wpAnyH_take (i := 20) (v := undef) rfl (by kernel_rfl) (by kernel_rfl) (by kernel_rfl) (fun _ _ _ h => h) (.inr ⟨by kernel_rfl, rfl⟩) hS1 ?_
      refine wpAnyH_take (i := 21) (v := undef) rfl (by kernel_rfl) (by kernel_rfl) (by kernel_rfl) (fun _ _ _ h => h) (.inr ⟨by kernel_rfl, rfl⟩) hS1 ?_
      refine wpAnyH_take (i := 22) (v := undef) rfl (by kernel_rfl) (by kernel_rfl) (by kernel_rfl) (fun _ _ _ h => h) (.inr ⟨by kernel_rfl, rfl⟩) hS1 ?_
      refine wpAnyH_take (i := 23) (v := .bool true) rfl (by kernel_rfl) (by kernel_rfl) (by kernel_rfl) (fun _ _ _ h => h) (.inl ⟨by kernel_rfl, fun W hW => by kernel_rfl⟩) hS1 ?_
      refine wpAnyH_take (i := 24) (v := .bool true) rfl (by kernel_rfl) (by kernel_rfl) (by kernel_rfl) (fun _ _ _ h => h) (.inl ⟨by kernel_rfl, fun W hW => by kernel_rfl⟩) hS1 ?_
      refine wpAnyH_take (i := 25) (v := .bool true) rfl (by kernel_rfl) (by kernel_rfl) (by kernel_rfl) (fun _ _ _ h => h) (.inl ⟨by kernel_rfl, fun W hW => by kernel_rfl⟩) hS1 ?_
      refine wpAnyH_done (by kernel_rfl) ?_ _
      go_simp
      go_wp2_with fail
      go_ret
      exact ⟨rfl, HB.out _ hS1⟩
  · have h1i : ¬ (lv : Int) < 2 * (n1 : Int) := by omega
    obtain rfl : false = R := by rw [← HR.out]; simp; omega
    clear HR
    go_wp2_with fail
    refine wp_region_held_drew (S := fun W => Below (w.heap.size + 1) (w.alloc (.cells #[.slice ax lv cx, .slice ay lo cy, .slice az ll cz] 24)) W) (by kernel_rfl) hS0 (fun _ => ?_)
    refine wpAnyH_take (i := 0) (v := .func (.func 51) #[.slice al lr cl] #[]) rfl (by kernel_rfl) (by kernel_rfl) (by kernel_rfl) (fun _ _ _ h => h) (.inl ⟨by kernel_rfl, fun W hW => by kernel_rfl⟩) hS0 ?_
    refine wpAnyH_take (i := 1) (v := .pointer (some ⟨w.heap.size, 0, none⟩)) rfl (by kernel_rfl) (by kernel_rfl) (by kernel_rfl) (fun _ _ _ h => h) (.inl ⟨by kernel_rfl, fun W hW => by kernel_rfl⟩) hS0 ?_
    refine wpAnyH_take (i := 5) (v := .pointer (some ⟨w.heap.size, 0, none⟩)) rfl (by kernel_rfl) (by kernel_rfl) (by kernel_rfl) (fun _ _ _ h => h) (.inl ⟨by kernel_rfl, fun W hW => by kernel_rfl⟩) hS0 ?_
    refine wpAnyH_take (i := 2) (v := .slice ax lv cx) rfl (by kernel_rfl) (by kernel_rfl) (by kernel_rfl) (fun _ _ _ h => h) (.inl ⟨by kernel_rfl, fun W hW => by obtain ⟨k0, k1, k2⟩ := HK.out W hW; go_simp⟩) hS0 ?_
    refine wpAnyH_take (i := 6) (v := .slice ax lv cx) rfl (by kernel_rfl) (by kernel_rfl) (by kernel_rfl) (fun _ _ _ h => h) (.inl ⟨by kernel_rfl, fun W hW => by obtain ⟨k0, k1, k2⟩ := HK.out W hW; go_simp⟩) hS0 ?_
    refine wpAnyH_take (i := 7) (v := .int .i64 (lv : Int)) rfl (by kernel_rfl) (by kernel_rfl) (by kernel_rfl) (fun _ _ _ h => h) (.inl ⟨by kernel_rfl, fun W hW => by go_simp; try simp [*]⟩) hS0 ?_
    refine wpAnyH_ready (rs := [3]) (by kernel_rfl) (by simp) ?_
    refine AllReadyH.cons rfl (fun K hK => ?_) AllReadyH.nil
    rw [if_pos (by kernel_rfl)]
    go_simp
    refine (HQ.out _ (HB.out _ hS0)).mono ?_
    rintro e w1 ⟨rfl, rfl⟩
    simp only []
    refine hK.out _ _ hS0 (fun _ => ?_)
    clear hK K
    refine wpAnyH_take (i := 4) (v := .int .i64 (2 * (n1 : Int))) rfl (by kernel_rfl) (by kernel_rfl) (by kernel_rfl) (fun _ _ _ h => h) (.inl ⟨by kernel_rfl, fun W hW => by go_simp; try simp [*]⟩) hS0 ?_
    refine wpAnyH_take (i := 8) (v := .bool false) rfl (by kernel_rfl) (by kernel_rfl) (by kernel_rfl) (fun _ _ _ h => h) (.inl ⟨by kernel_rfl, fun W hW => by go_simp; try simp [*]⟩) hS0 ?_
    refine wpAnyH_take (i := 9) (v := .bool false) rfl (by kernel_rfl) (by kernel_rfl) (by kernel_rfl) (fun _ _ _ h => h) (.inl ⟨by kernel_rfl, fun W hW => by kernel_rfl⟩) hS0 ?_
    refine wpAnyH_take (i := 10) (v := undef) rfl (by kernel_rfl) (by kernel_rfl) (by kernel_rfl) (fun _ _ _ h => h) (.inr ⟨by kernel_rfl, rfl⟩) hS0 ?_
    refine wpAnyH_take (i := 11) (v := undef) rfl (by kernel_rfl) (by kernel_rfl) (by kernel_rfl) (fun _ _ _ h => h) (.inr ⟨by kernel_rfl, rfl⟩) hS0 ?_
    refine wpAnyH_take (i := 12) (v := undef) rfl (by kernel_rfl) (by kernel_rfl) (by kernel_rfl) (fun _ _ _ h => h) (.inr ⟨by kernel_rfl, rfl⟩) hS0 ?_
    refine wpAnyH_take (i := 13) (v := undef) rfl (by kernel_rfl) (by kernel_rfl) (by kernel_rfl) (fun _ _ _ h => h) (.inr ⟨by kernel_rfl, rfl⟩) hS0 ?_
    refine wpAnyH_take (i := 14) (v := undef) rfl (by kernel_rfl) (by kernel_rfl) (by kernel_rfl) (fun _ _ _ h => h) (.inr ⟨by kernel_rfl, rfl⟩) hS0 ?_
    refine wpAnyH_take (i := 15) (v := undef) rfl (by kernel_rfl) (by kernel_rfl) (by kernel_rfl) (fun _ _ _ h => h) (.inr ⟨by kernel_rfl, rfl⟩) hS0 ?_
    refine wpAnyH_take (i := 16) (v := undef) rfl (by kernel_rfl) (by kernel_rfl) (by kernel_rfl) (fun _ _ _ h => h) (.inr ⟨by kernel_rfl, rfl⟩) hS0 ?_
    refine wpAnyH_take (i := 17) (v := undef) rfl (by kernel_rfl) (by kernel_rfl) (by kernel_rfl) (fun _ _ _ h => h) (.inr ⟨by kernel_rfl, rfl⟩) hS0 ?_
    refine wpAnyH_take (i := 18) (v := undef) rfl (by kernel_rfl) (by kernel_rfl) (by kernel_rfl) (fun _ _ _ h => h) (.inr ⟨by kernel_rfl, rfl⟩) hS0 ?_
    refine wpAnyH_take (i := 19) (v := undef) rfl (by kernel_rfl) (by kernel_rfl) (by kernel_rfl) (fun _ _ _ h => h) (.inr ⟨by kernel_rfl, rfl⟩) hS0 ?_
    refine wpAnyH_take (i := 20) (v := undef) rfl (by kernel_rfl) (by kernel_rfl) (by kernel_rfl) (fun _ _ _ h => h) (.inr ⟨by kernel_rfl, rfl⟩) hS0 ?_
    refine wpAnyH_take (i := 21) (v := undef) rfl (by kernel_rfl) (by kernel_rfl) (by kernel_rfl) (fun _ _ _ h => h) (.inr ⟨by kernel_rfl, rfl⟩) hS0 ?_
    refine wpAnyH_take (i := 22) (v := undef) rfl (by kernel_rfl) (by kernel_rfl) (by kernel_rfl) (fun _ _ _ h => h) (.inr ⟨by kernel_rfl, rfl⟩) hS0 ?_
    refine wpAnyH_take (i := 23) (v := undef) rfl (by kernel_rfl) (by kernel_rfl) (by kernel_rfl) (fun _ _ _ h => h) (.inr ⟨by kernel_rfl, rfl⟩) hS0 ?_
    refine wpAnyH_take (i := 24) (v := .bool false) rfl (by kernel_rfl) (by kernel_rfl) (by kernel_rfl) (fun _ _ _ h => h) (.inl ⟨by kernel_rfl, fun W hW => by kernel_rfl⟩) hS0 ?_
    refine wpAnyH_take (i := 25) (v := .bool false) rfl (by kernel_rfl) (by kernel_rfl) (by kernel_rfl) (fun _ _ _ h => h) (.inl ⟨by kernel_rfl, fun W hW => by kernel_rfl⟩) hS0 ?_
    refine wpAnyH_done (by kernel_rfl) ?_ _
    go_simp
    go_wp2_with fail
    go_ret
    exact ⟨rfl, HB.out _ hS0⟩
end Go.Proofs.Ytedpfmalhapmeaa

/- What Quorum and Lost answer. -/
namespace Go.Proofs.Ytedpfmalhapmeaa
open Go.RowKit Go.Sort
set_option linter.unusedVariables false
set_option maxRecDepth 100000

theorem chk_lens {c : Cn} (h : chk c = true) : c.1.length ≤ 9 ∧ c.2.1.length ≤ 9 := by
  unfold chk ok1 at h
  simp only [Bool.and_eq_true, decide_eq_true_eq] at h
  exact ⟨h.1.1, h.2.1.1⟩

set_option maxHeartbeats 1000000 in
theorem quorum_any {N : Nat} (hS : SortsTo N) {x y z v : Value} {c : Cn} {l : List UInt64} {w : World} (hr : Rc w x y z c) (hl : Ru w v l) (h27 : 27 ≤ N) (hN : N ≤ 1099511627776) :
    Calls Try.prog 25 #[.agg #[x, y, z], v] w fun e w' => e = .returned (.bool (chk c && agr (cnt l) c)) ∧ Below w.heap.size w w' := by
  have hB := u_al w (.cells #[x, y, z] 24)
  have hmf : ∀ (fn : Fn) (first cap : Array Value) (w : World), (Instr.makeFunc fn first cap).run Try.prog w = .ok (.func fn first cap) w := fun _ _ _ _ => rfl
  have hck := check_any hS (hr.below hB (Nat.le_refl _)) (.inr h27) hN
  have HK : Hid (∀ W, Below (w.heap.size + 1) (w.alloc (.cells #[x, y, z] 24)) W → W.cell? ⟨w.heap.size, 0, none⟩ = some x ∧ W.cell? ⟨w.heap.size, 1, none⟩ = some y ∧ W.cell? ⟨w.heap.size, 2, none⟩ = some z) := fun W hW => box3 hW rfl
  have HA : Hid (chk c = true → ∀ W, Below w.heap.size w W → Calls Try.prog 48 #[.agg #[x, y, z], .func (.func 49) #[v] #[]] W fun e w' => e = .returned (.bool (agr (cnt l) c)) ∧ Below W.heap.size W w') := fun h W hW => agreed_among (hr.below hW (Nat.le_refl _)) (hl.below hW (Nat.le_refl _)) (chk_lens h).1 (chk_lens h).2
  obtain ⟨ax, cx, rfl⟩ := hr.1.shape
  obtain ⟨ay, cy, rfl⟩ := hr.2.1.shape
  obtain ⟨az, cz, rfl⟩ := hr.2.2.shape
  obtain ⟨al, cl, rfl⟩ := hl.shape
  generalize agr (cnt l) c = R at *
  cases hc : chk c with
  | true =>
    rw [hc] at hck
    have HA2 : Hid _ := HA.out hc
    clear HA hc hr hl
    rw [Bool.true_and]
    go_enter Try.func25, Try.ntmps25
    go_wp2_with fail
    refine hck.mono ?_
    rintro e w1 ⟨rfl, hb1⟩
    obtain ⟨k0, k1, k2⟩ := HK.out w1 (hb1.mono (by simp))
    have hb1' : Below w.heap.size w w1 := hB.trans (hb1.mono hB.size)
    simp only [if_true]
    go_wp2_with fail
    refine (HA2.out w1 hb1').mono ?_
    rintro e w2 ⟨rfl, hb2⟩
    go_wp2_with fail
    go_ret
    exact ⟨rfl, hb1'.trans (hb2.mono hb1'.size)⟩
  | false =>
    rw [hc] at hck
    clear HA hc hr hl
    rw [Bool.false_and]
    go_enter Try.func25, Try.ntmps25
    go_wp2_with fail
    refine hck.mono ?_
    rintro e w1 ⟨rfl, hb1⟩
    simp only [Bool.false_eq_true, if_false]
    go_wp2_with fail
    go_ret
    exact ⟨rfl, hB.trans (hb1.mono hB.size)⟩

set_option maxHeartbeats 1000000 in
theorem lost_any {N : Nat} (hS : SortsTo N) {x y z v : Value} {c : Cn} {l : List UInt64} {w : World} (hr : Rc w x y z c) (hl : Ru w v l) (h27 : 27 ≤ N) (hN : N ≤ 1099511627776) :
    Calls Try.prog 27 #[.agg #[x, y, z], v] w fun e w' => e = .returned (.bool (chk c && !(agr (fun vs => vs.length - cnt l vs) c))) ∧ Below w.heap.size w w' := by
  have hB := u_al w (.cells #[x, y, z] 24)
  have hmf : ∀ (fn : Fn) (first cap : Array Value) (w : World), (Instr.makeFunc fn first cap).run Try.prog w = .ok (.func fn first cap) w := fun _ _ _ _ => rfl
  have hck := check_any hS (hr.below hB (Nat.le_refl _)) (.inr h27) hN
  have HK : Hid (∀ W, Below (w.heap.size + 1) (w.alloc (.cells #[x, y, z] 24)) W → W.cell? ⟨w.heap.size, 0, none⟩ = some x ∧ W.cell? ⟨w.heap.size, 1, none⟩ = some y ∧ W.cell? ⟨w.heap.size, 2, none⟩ = some z) := fun W hW => box3 hW rfl
  have HA : Hid (chk c = true → ∀ W, Below w.heap.size w W → Calls Try.prog 48 #[.agg #[x, y, z], .func (.func 51) #[v] #[]] W fun e w' => e = .returned (.bool (agr (fun vs => vs.length - cnt l vs) c)) ∧ Below W.heap.size W w') := fun h W hW => agreed_missing (hr.below hW (Nat.le_refl _)) (hl.below hW (Nat.le_refl _)) (chk_lens h).1 (chk_lens h).2
  obtain ⟨ax, cx, rfl⟩ := hr.1.shape
  obtain ⟨ay, cy, rfl⟩ := hr.2.1.shape
  obtain ⟨az, cz, rfl⟩ := hr.2.2.shape
  obtain ⟨al, cl, rfl⟩ := hl.shape
  generalize agr (fun vs => vs.length - cnt l vs) c = R at *
  cases hc : chk c with
  | true =>
    rw [hc] at hck
    have HA2 : Hid _ := HA.out hc
    clear HA hc hr hl
    rw [Bool.true_and]
    go_enter Try.func27, Try.ntmps27
    go_wp2_with fail
    refine hck.mono ?_
    rintro e w1 ⟨rfl, hb1⟩
    obtain ⟨k0, k1, k2⟩ := HK.out w1 (hb1.mono (by simp))
    have hb1' : Below w.heap.size w w1 := hB.trans (hb1.mono hB.size)
    simp only [if_true]
    go_wp2_with fail
    refine (HA2.out w1 hb1').mono ?_
    rintro e w2 ⟨rfl, hb2⟩
    go_wp2_with fail
    go_ret
    exact ⟨rfl, hb1'.trans (hb2.mono hb1'.size)⟩
  | false =>
    rw [hc] at hck
    clear HA hc hr hl
    rw [Bool.false_and]
    go_enter Try.func27, Try.ntmps27
    go_wp2_with fail
    refine hck.mono ?_
    rintro e w1 ⟨rfl, hb1⟩
    simp only [Bool.false_eq_true, if_false]
    go_wp2_with fail
    go_ret
    exact ⟨rfl, hB.trans (hb1.mono hB.size)⟩

/-- Those of a configuration that did not say no. -/
def oth (c : Cn) (no : List UInt64) : List UInt64 := (mems c).filter (fun p => !decide (p ∈ no))
theorem cnt_oth (c : Cn) (no vs : List UInt64) (h : ∀ p ∈ vs, p ∈ mems c) : cnt (oth c no) vs = vs.length - cnt no vs := by
  have key : cnt (oth c no) vs + cnt no vs = vs.length := by
    unfold cnt
    induction vs with
    | nil => rfl
    | cons p r ih =>
      have ihr := ih (fun q hq => h q (List.mem_cons_of_mem _ hq))
      have hp := h p (List.mem_cons_self ..)
      have hm : p ∈ oth c no ↔ p ∉ no := by
        unfold oth; simp [hp]
      by_cases hn : p ∈ no
      · have hn' : p ∉ oth c no := fun e => hm.1 e hn
        simp only [List.filter_cons, hn, hn', decide_true, decide_false, if_true, Bool.false_eq_true, if_false, List.length_cons]
        omega
      · have hn' : p ∈ oth c no := hm.2 hn
        simp only [List.filter_cons, hn, hn', decide_true, decide_false, if_true, Bool.false_eq_true, if_false, List.length_cons]
        omega
  omega
theorem agr_oth (c : Cn) (no : List UInt64) : agr (cnt (oth c no)) c = agr (fun vs => vs.length - cnt no vs) c := by
  have hi := (mems_is c).2
  unfold agr
  rw [cnt_oth c no c.1 (fun p hp => (hi p).2 (.inl hp)), cnt_oth c no c.2.1 (fun p hp => (hi p).2 (.inr (.inl hp)))]
end Go.Proofs.Ytedpfmalhapmeaa

/- The document's In, Put, rises. -/
namespace Go.Proofs.Ytedpfmalhapmeaa
open Go.RowKit Go.Sort
set_option linter.unusedVariables false
set_option maxRecDepth 100000

theorem rin_any {v : Value} {l : List UInt64} {x : UInt64} {w : World} (hr : Ru w v l) :
    Calls Try.prog 39 #[v, .int .u64 (x.toNat : Int)] w fun e w' => e = .returned (.bool (decide (x ∈ l))) ∧ w' = w := by
  obtain ⟨ao, c, rfl, h1, h2, h3, h4⟩ := hr
  unfold maxLen at h2
  generalize hR : decide (x ∈ l) = R
  have HR : Hid _ := hR
  clear hR
  go_enter Try.func39, Try.ntmps39
  go_wp2_with fail
  go_loopw [5] (fun i wr => ∃ k : Nat, k ≤ l.length ∧ i = .int .i64 k ∧ Hid (x ∉ l.take k) ∧ wr = w) (fun i _ => l.length - (intOf i).toNat)
  case atStart => exact ⟨0, Nat.zero_le _, rfl, by show _ ∉ _; simp, rfl⟩
  case round =>
    obtain ⟨k, hk, rfl, HX, rfl⟩ := hrel
    by_cases hlt : k < l.length
    · obtain ⟨a, rfl, hc⟩ := h4 k hlt
      have HT : Hid _ := List.take_succ_eq_append_getElem hlt
      have HM : Hid (l[k] ∈ l) := List.getElem_mem hlt
      clear h4 h3
      generalize l[k] = y at *
      by_cases hxy : y = x
      · subst hxy
        have hq : ((y.toNat : Int) == (y.toNat : Int)) = true := by simp
        obtain rfl : true = R := by rw [← HR.out]; exact (decide_eq_true HM.out).symm
        clear HR
        go_wp2_with fail
        go_ret
        exact ⟨rfl, rfl⟩
      · have hq : ((y.toNat : Int) == (x.toNat : Int)) = false := by
          simp only [beq_eq_false_iff_ne, ne_eq]
          exact fun e => hxy (u_inj e)
        go_wp2_with fail
        refine ⟨⟨k + 1, by omega, by go_num, ?_, trivial⟩, by simp [intOf]; omega⟩
        show _ ∉ _
        rw [HT.out]
        simp only [List.mem_append, List.mem_singleton, not_or]
        exact ⟨HX.out, fun e => hxy e.symm⟩
    · obtain rfl : k = l.length := by omega
      have HX2 : Hid (x ∉ l) := by have := HX.out; rw [List.take_length] at this; exact this
      obtain rfl : false = R := by rw [← HR.out]; exact (decide_eq_false HX2.out).symm
      clear h4 HX HR
      go_wp2_with fail
      go_ret
      exact ⟨rfl, rfl⟩

theorem rvotes_any {x y z : Value} {c : Cn} {p : UInt64} {w : World} (hr : Rc w x y z c) :
    Calls Try.prog 17 #[.agg #[x, y, z], .int .u64 (p.toNat : Int)] w fun e w' => e = .returned (.bool (vt c p)) ∧ Below w.heap.size w w' := by
  have h1 := rin_any (x := p) (hr.1.alloc (.cells #[x, y, z] 24))
  have h2 := rin_any (x := p) (hr.2.1.alloc (.cells #[x, y, z] 24))
  have hB := u_al w (.cells #[x, y, z] 24)
  obtain ⟨ax, cx, rfl⟩ := hr.1.shape
  obtain ⟨ay, cy, rfl⟩ := hr.2.1.shape
  obtain ⟨az, cz, rfl⟩ := hr.2.2.shape
  unfold vt
  generalize decide (p ∈ c.1) = r1 at *
  generalize decide (p ∈ c.2.1) = r2 at *
  go_enter Try.func17, Try.ntmps17
  go_wp2_with fail
  refine h1.mono ?_
  rintro e w1 ⟨rfl, rfl⟩
  cases r1 with
  | true =>
    go_wp2_with fail
    go_ret
    exact ⟨by simp, hB⟩
  | false =>
    go_wp2_with fail
    refine h2.mono ?_
    rintro e w1 ⟨rfl, rfl⟩
    go_wp2_with fail
    go_ret
    exact ⟨by simp, hB⟩

/-- Is it a member? -/
def hs (c : Cn) (p : UInt64) : Bool := vt c p || decide (p ∈ c.2.2)
theorem rhas_any {x y z : Value} {c : Cn} {p : UInt64} {w : World} (hr : Rc w x y z c) :
    Calls Try.prog 15 #[.agg #[x, y, z], .int .u64 (p.toNat : Int)] w fun e w' => e = .returned (.bool (hs c p)) ∧ Below w.heap.size w w' := by
  have hB := u_al w (.cells #[x, y, z] 24)
  have h1 := rvotes_any (p := p) (hr.below hB (Nat.le_refl _))
  have H2 : Hid (∀ W, Below w.heap.size w W → Calls Try.prog 39 #[z, .int .u64 (p.toNat : Int)] W fun e w' => e = .returned (.bool (decide (p ∈ c.2.2))) ∧ w' = W) := fun W hW => rin_any (hr.2.2.below hW (Nat.le_refl _))
  have HK : Hid (∀ W, Below (w.heap.size + 1) (w.alloc (.cells #[x, y, z] 24)) W → W.cell? ⟨w.heap.size, 2, none⟩ = some z) := fun W hW => (box3 hW rfl).2.2
  obtain ⟨ax, cx, rfl⟩ := hr.1.shape
  obtain ⟨ay, cy, rfl⟩ := hr.2.1.shape
  obtain ⟨az, cz, rfl⟩ := hr.2.2.shape
  unfold hs
  generalize vt c p = r1 at *
  generalize decide (p ∈ c.2.2) = r2 at *
  go_enter Try.func15, Try.ntmps15
  go_wp2_with fail
  refine h1.mono ?_
  rintro e w1 ⟨rfl, hb1⟩
  have hb1' : Below w.heap.size w w1 := hB.trans (hb1.mono hB.size)
  have k2 := HK.out w1 (hb1.mono (by simp))
  cases r1 with
  | true =>
    go_wp2_with fail
    go_ret
    exact ⟨by simp, hb1'⟩
  | false =>
    go_wp2_with fail
    refine (H2.out w1 hb1').mono ?_
    rintro e w2 ⟨rfl, rfl⟩
    go_wp2_with fail
    go_ret
    exact ⟨by simp, hb1'⟩

theorem has_any {x y z : Value} {c : Cn} {p : UInt64} {w : World} (hr : Rc w x y z c) :
    Calls Try.prog 14 #[.agg #[x, y, z], .int .u64 (p.toNat : Int)] w fun e w' => e = .returned (.bool (hs c p)) ∧ Below w.heap.size w w' := by
  have hB := u_al w (.cells #[x, y, z] 24)
  have h1 := votes_any (p := p) (hr.below hB (Nat.le_refl _))
  have H2 : Hid (∀ W, Below w.heap.size w W → Calls Try.prog 38 #[z, .int .u64 (p.toNat : Int)] W fun e w' => e = .returned (.bool (decide (p ∈ c.2.2))) ∧ w' = W) := fun W hW => ucontains_any (hr.2.2.below hW (Nat.le_refl _))
  have HK : Hid (∀ W, Below (w.heap.size + 1) (w.alloc (.cells #[x, y, z] 24)) W → W.cell? ⟨w.heap.size, 2, none⟩ = some z) := fun W hW => (box3 hW rfl).2.2
  obtain ⟨ax, cx, rfl⟩ := hr.1.shape
  obtain ⟨ay, cy, rfl⟩ := hr.2.1.shape
  obtain ⟨az, cz, rfl⟩ := hr.2.2.shape
  unfold hs vt
  generalize (decide (p ∈ c.1) || decide (p ∈ c.2.1)) = r1 at *
  generalize decide (p ∈ c.2.2) = r2 at *
  go_enter Try.func14, Try.ntmps14
  go_wp2_with fail
  refine h1.mono ?_
  rintro e w1 ⟨rfl, hw1⟩
  have hb1 : Below (w.alloc (.cells #[.slice ax c.1.length cx, .slice ay c.2.1.length cy, .slice az c.2.2.length cz] 24)).heap.size (w.alloc (.cells #[.slice ax c.1.length cx, .slice ay c.2.1.length cy, .slice az c.2.2.length cz] 24)) w1 := by rw [hw1]; exact u_al _ _
  clear hw1
  have hb1' : Below w.heap.size w w1 := hB.trans (hb1.mono hB.size)
  have k2 := HK.out w1 (hb1.mono (by simp))
  cases r1 with
  | true =>
    go_wp2_with fail
    go_ret
    exact ⟨by simp, hb1'⟩
  | false =>
    go_wp2_with fail
    refine (H2.out w1 hb1').mono ?_
    rintro e w2 ⟨rfl, rfl⟩
    go_wp2_with fail
    go_ret
    exact ⟨by simp, hb1'⟩

/-- A number in its place in a list. -/
def putF (v : UInt64) : Bool → List UInt64 → List UInt64
  | true, l => l
  | false, [] => [v]
  | false, a :: r => if a.toNat < v.toNat then a :: putF v false r else if v.toNat < a.toNat then v :: a :: r else a :: r
theorem putF_mem (v : UInt64) : ∀ (l : List UInt64) (x : UInt64), x ∈ putF v false l ↔ x = v ∨ x ∈ l := by
  intro l
  induction l with
  | nil => intro x; simp [putF]
  | cons a r ih =>
    intro x
    unfold putF
    split
    · rw [List.mem_cons, ih, List.mem_cons]
      exact ⟨fun h => h.elim (fun q => .inr (.inl q)) (fun q => q.elim .inl (fun q => .inr (.inr q))), fun h => h.elim (fun q => .inr (.inl q)) (fun q => q.elim .inl (fun q => .inr (.inr q)))⟩
    · split
      · simp
      · have e : v = a := UInt64.toNat_inj.1 (by omega)
        subst e
        simp
theorem putF_ris (v : UInt64) : ∀ (l : List UInt64), Ris l → Ris (putF v false l) := by
  intro l
  induction l with
  | nil => intro _; simp [putF, Ris]
  | cons a r ih =>
    intro h
    obtain ⟨h1, h2⟩ := List.pairwise_cons.1 h
    unfold putF
    split
    · rename_i hav
      refine List.pairwise_cons.2 ⟨fun x hx => ?_, ih h2⟩
      rcases (putF_mem v r x).1 hx with rfl | hx
      · exact hav
      · exact h1 x hx
    · split
      · rename_i hva
        refine List.pairwise_cons.2 ⟨fun x hx => ?_, h⟩
        rcases List.mem_cons.1 hx with rfl | hx
        · exact hva
        · have := h1 x hx; omega
      · exact h
theorem putF_len (v : UInt64) : ∀ (l : List UInt64), (putF v false l).length ≤ l.length + 1 := by
  intro l
  induction l with
  | nil => simp [putF]
  | cons a r ih => unfold putF; split <;> (try split) <;> simp <;> omega

set_option maxHeartbeats 2000000 in
theorem rput_any {v : Value} {l : List UInt64} {x : UInt64} {w : World} (hr : Ru w v l) (hl : l.length ≤ 1099511627776) :
    Calls Try.prog 40 #[v, .int .u64 (x.toNat : Int)] w fun e w' => ∃ v', e = .returned v' ∧ Ou w.heap.size w' v' (putF x false l) ∧ Below w.heap.size w w' := by
  obtain ⟨ao, c, rfl, h1, h2, h3, h4⟩ := hr
  unfold maxLen at h2
  generalize hR : putF x false l = R
  have HR : Hid (putF x false l = R) := hR
  clear hR
  go_enter Try.func40, Try.ntmps40
  go_wp2_with fail
  go_loopw [5, 6, 7] (fun o d i wr => ∃ (k : Nat) (b : Bool) (q : List UInt64), k ≤ l.length ∧ i = .int .i64 k ∧ d = .bool b ∧ Ou w.heap.size wr o q ∧ q.length ≤ k + b.toNat ∧ Hid (q ++ putF x b (l.drop k) = R) ∧ Below w.heap.size w wr) (fun _ _ i _ => l.length - (intOf i).toNat)
  case atStart => exact ⟨0, false, [], Nat.zero_le _, rfl, rfl, Ou.nil _ _, by simp, by show _ = _; simpa using HR.out, Below.refl _ _⟩
  case round =>
    obtain ⟨k, b, q, hk, rfl, rfl, ho, hqb, HX, hb⟩ := hrel
    have hsz := hb.size
    have hq : q.length ≤ k + 1 := by have := b.toNat_le; omega
    by_cases hlt : k < l.length
    · obtain ⟨a, rfl, hc⟩ := h4 k hlt
      have hcx : wr.cell? (a.add k) = some (.int .u64 (l[k].toNat : Int)) := by rw [hb.cell (World.block_lt_of_cell? w _ hc)]; exact hc
      have hal := World.block_lt_of_cell? w _ hc
      have HX1 : Hid (q ++ putF x b (l[k] :: l.drop (k + 1)) = R) := by
        show _ = _
        rw [← List.drop_eq_getElem_cons hlt]; exact HX.out
      clear h4 h3 hc HX
      generalize l[k] = y at *
      have HB2 : Hid (∀ {W W' : World} {o : Value} {q : List UInt64}, Ou w.heap.size W o q → Below w.heap.size w W → w.heap.size ≤ W.heap.size → ∀ ob, (W.alloc ob).grownBy W' o.ownBlock → Below w.heap.size w W') := fun {W W' o q} ho hb hz ob hg => hb.trans (((Below.refl w.heap.size _).alloc hz _).trans ((Below.refl w.heap.size _).grown hg (by simp; omega) (fun j e => (ho.lt j e).1)))
      cases b with
      | true =>
        have HX2 : Hid ((q ++ [y]) ++ putF x true (l.drop (k + 1)) = R) := by
          show _ = _
          have := HX1.out
          simpa [putF] using this
        clear HX1
        go_wp2_with (first | (at_builtin; refine wpList_appU rfl _ _ rfl w.heap.size _ _ rfl (ho.alloc _) _ [y] rfl (ru_one _ _ _ ?e1 _ _ rfl) ?e2 ?e3 ?_; rotate_right; intro v4 w5 ho4 hg4 hw4) | fail)
        case e1 => rfl
        case e2 => (try simp) <;> omega
        case e3 => (try simp) <;> omega
        exact ⟨⟨k + 1, true, q ++ [y], by omega, by go_num, rfl, ho4, by simp at hqb ⊢; omega, HX2, HB2.out ho hb hsz _ hg4⟩, by simp [intOf]; omega⟩
      | false =>
        by_cases hyx : y.toNat < x.toNat
        · have HX2 : Hid ((q ++ [y]) ++ putF x false (l.drop (k + 1)) = R) := by
            show _ = _
            have := HX1.out
            rw [putF, if_pos hyx] at this
            simpa using this
          have hi1 : ¬ (x.toNat : Int) ≤ (y.toNat : Int) := by omega
          clear HX1
          go_wp2_with (first | (at_builtin; refine wpList_appU rfl _ _ rfl w.heap.size _ _ rfl (ho.alloc _) _ [y] rfl (ru_one _ _ _ ?e1 _ _ rfl) ?e2 ?e3 ?_; rotate_right; intro v4 w5 ho4 hg4 hw4) | fail)
          case e1 => rfl
          case e2 => (try simp) <;> omega
          case e3 => (try simp) <;> omega
          exact ⟨⟨k + 1, false, q ++ [y], by omega, by go_num, rfl, ho4, by simp at hqb ⊢; omega, HX2, HB2.out ho hb hsz _ hg4⟩, by simp [intOf]; omega⟩
        · have hi1 : (x.toNat : Int) ≤ (y.toNat : Int) := by omega
          by_cases hxy : x.toNat < y.toNat
          · have hi2 : (x.toNat : Int) < (y.toNat : Int) := by omega
            have HX2 : Hid (((q ++ [x]) ++ [y]) ++ putF x true (l.drop (k + 1)) = R) := by
              show _ = _
              have := HX1.out
              rw [putF, if_neg hyx, if_pos hxy] at this
              simpa [putF] using this
            clear HX1
            go_wp2_with (first
              | (at_builtin; refine wpList_appU rfl _ _ rfl w.heap.size _ _ rfl (ho4.alloc _) _ [y] rfl (ru_one _ _ _ ?f1 _ _ rfl) ?f2 ?f3 ?_; rotate_right; intro v6 w7 ho6 hg6 hw6)
              | (at_builtin; refine wpList_appU rfl _ _ rfl w.heap.size _ _ rfl (ho.alloc _) _ [x] rfl (ru_one _ _ _ ?e1 _ _ rfl) ?e2 ?e3 ?_; rotate_right; intro v4 w5 ho4 hg4 hw4; have hb5 := HB2.out ho hb hsz _ hg4; have hsz5 := hb5.size; have hcx5 : w5.cell? (a.add k) = some (.int .u64 (y.toNat : Int)) := (by rw [hb5.cell hal]; rw [hb.cell hal] at hcx; exact hcx); clear hcx)
              | fail)
            case e1 => rfl
            case e2 => (try simp) <;> omega
            case e3 => (try simp) <;> omega
            case f1 => rfl
            case f2 => (try simp) <;> omega
            case f3 => (try simp) <;> omega
            exact ⟨⟨k + 1, true, (q ++ [x]) ++ [y], by omega, by go_num, rfl, ho6, by simp at hqb ⊢; omega, HX2, HB2.out ho4 hb5 hsz5 _ hg6⟩, by simp [intOf]; omega⟩
          · have hi2 : ¬ (x.toNat : Int) < (y.toNat : Int) := by omega
            have HX2 : Hid ((q ++ [y]) ++ putF x true (l.drop (k + 1)) = R) := by
              show _ = _
              have := HX1.out
              rw [putF, if_neg hyx, if_neg hxy] at this
              simpa [putF] using this
            clear HX1
            go_wp2_with (first | (at_builtin; refine wpList_appU rfl _ _ rfl w.heap.size _ _ rfl (ho.alloc _) _ [y] rfl (ru_one _ _ _ ?e1 _ _ rfl) ?e2 ?e3 ?_; rotate_right; intro v4 w5 ho4 hg4 hw4) | fail)
            case e1 => rfl
            case e2 => (try simp) <;> omega
            case e3 => (try simp) <;> omega
            exact ⟨⟨k + 1, true, q ++ [y], by omega, by go_num, rfl, ho4, by simp at hqb ⊢; omega, HX2, HB2.out ho hb hsz _ hg4⟩, by simp [intOf]; omega⟩
    · obtain rfl : k = l.length := by omega
      clear h4 h3
      cases b with
      | true =>
        obtain rfl : q = R := by have := HX.out; simpa [putF] using this
        clear HX HR
        obtain ⟨ar, cr, rfl⟩ := ho.shape
        go_wp2_with fail
        go_ret
        exact ⟨_, rfl, ho, hb⟩
      | false =>
        have HX2 : Hid (q ++ [x] = R) := by show _ = _; have := HX.out; simpa [putF] using this
        clear HX HR
        go_wp2_with (first | (at_builtin; refine wpList_appU rfl _ _ rfl w.heap.size _ _ rfl (ho.alloc _) _ [x] rfl (ru_one _ _ _ ?e1 _ _ rfl) ?e2 ?e3 ?_; rotate_right; intro v4 w5 ho4 hg4 hw4) | fail)
        case e1 => rfl
        case e2 => (try simp) <;> omega
        case e3 => (try simp) <;> omega
        rw [HX2.out] at ho4
        have hb5 : Below w.heap.size w w5 := hb.trans (((Below.refl w.heap.size _).alloc hsz _).trans ((Below.refl w.heap.size _).grown hg4 (by simp; omega) (fun j e => (ho.lt j e).1)))
        obtain ⟨ar, cr, rfl⟩ := ho4.shape
        go_wp2_with fail
        go_ret
        exact ⟨_, rfl, ho4, hb5⟩
end Go.Proofs.Ytedpfmalhapmeaa
