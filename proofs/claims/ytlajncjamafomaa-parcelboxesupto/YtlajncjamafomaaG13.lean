/- Missing: the numbers of pieces that are not in a box. -/
import Derived.Test.YtlajncjamafomaaG12
import Derived.Test.YtlajncjamafomaaG3
namespace Go.Proofs.Ytlajncjamafomaa
open Go.RowKit Go.Maps
set_option linter.unusedVariables false
set_option maxRecDepth 100000

/-- The numbers below j that are not there. -/
def absP (ps : List (Nat × List UInt8)) (j : Nat) : List Int := ((List.range j).filter (fun i => (lkP ps i).isNone)).map (fun (i : Nat) => (i : Int))
/-- What Missing tells. -/
def msP (ps : List (Nat × List UInt8)) (k : Nat) : List Int := (absP ps (max 1 k)).take 64
def cntP (ps : List (Nat × List UInt8)) (j : Nat) : Nat := (ps.filter (fun x => decide (x.1 < j))).length
theorem cntP_le (ps : List (Nat × List UInt8)) (j : Nat) : cntP ps j ≤ ps.length := List.length_filter_le _ _
theorem lkP_low {ps : List (Nat × List UInt8)} {j : Nat} (h : ∀ x ∈ ps, j < x.1) : lkP ps j = none := by
  cases q : lkP ps j with
  | none => rfl
  | some p => have := h _ (lkP_mem q); simp only [] at this; omega
theorem cntP_succ {ps : List (Nat × List UInt8)} (hr : RsP ps) (j : Nat) : cntP ps (j + 1) = cntP ps j + (if (lkP ps j).isSome then 1 else 0) := by
  induction ps with
  | nil => rfl
  | cons a r ih =>
    obtain ⟨k, p⟩ := a
    obtain ⟨h1, h2⟩ := List.pairwise_cons.1 hr
    have ih' := ih h2
    unfold cntP at ih' ⊢
    rw [List.filter_cons, List.filter_cons]
    by_cases e : k = j
    · subst e
      have hn : lkP r k = none := lkP_low (fun x hx => h1 x hx)
      rw [hn] at ih'
      have e1 : lkP ((k, p) :: r) k = some p := by unfold lkP; rw [if_pos rfl]
      rw [e1]
      simp only [Nat.lt_succ_self, decide_true, if_true, Nat.lt_irrefl, decide_false, Bool.false_eq_true, if_false, List.length_cons, Option.isSome_some]
      simp only [Option.isSome_none, Bool.false_eq_true, if_false] at ih'
      omega
    · have e1 : lkP ((k, p) :: r) j = lkP r j := by rw [lkP, if_neg e]
      rw [e1]
      by_cases q : k < j
      · rw [if_pos (by simp; omega), if_pos (by simp; omega), List.length_cons, List.length_cons, ih']
        omega
      · rw [if_neg (by simp; omega), if_neg (by simp; omega), ih']
theorem absP_succ (ps : List (Nat × List UInt8)) (j : Nat) : absP ps (j + 1) = absP ps j ++ (if (lkP ps j).isSome then [] else [(j : Int)]) := by
  unfold absP
  rw [List.range_succ, List.filter_append, List.map_append]
  cases h : lkP ps j <;> simp [h]
theorem absP_cnt {ps : List (Nat × List UInt8)} (hr : RsP ps) (j : Nat) : (absP ps j).length + cntP ps j = j := by
  induction j with
  | zero => simp [absP, cntP]
  | succ j ih =>
    rw [absP_succ, cntP_succ hr, List.length_append]
    cases h : lkP ps j <;> simp <;> omega
theorem absP_more (ps : List (Nat × List UInt8)) (j d : Nat) : ∃ m, absP ps (j + d) = absP ps j ++ m := by
  induction d with
  | zero => exact ⟨[], by simp⟩
  | succ d ih =>
    obtain ⟨m, e⟩ := ih
    refine ⟨m ++ (if (lkP ps (j + d)).isSome then [] else [((j + d : Nat) : Int)]), ?_⟩
    rw [← Nat.add_assoc, absP_succ, e, List.append_assoc]

section
variable {B C d : Nat} {s n k : Nat} {ps : List (Nat × List UInt8)} {w w' : World}
set_option maxHeartbeats 4000000 in
theorem missing_any (h : Bx B C d s n k ps w) (hN : ps.length < 2199023255552) :
    Calls Try.prog 22 #[.pointer (some ⟨d, 0, none⟩)] w fun e w' => ∃ v, e = .returned v ∧ Oj w.heap.size w' v (msP ps k) ∧ Below w.heap.size w w' := by
  obtain ⟨m, D, fv, h⟩ := h
  obtain ⟨x0, x1, x2, x3, xz⟩ := h.cells
  have hk64 := h.k64
  have hdw : d < w.heap.size := by have := h.hi; have := h.cw; omega
  have hcnt := absP_cnt h.rs
  have hcl := cntP_le ps
  have hsucc := absP_succ ps
  have hmore := absP_more ps
  generalize hR : msP ps k = R
  unfold msP at hR
  have HC : Hid _ := And.intro hcnt (And.intro hcl (And.intro hsucc hmore))
  clear hcnt hcl hsucc hmore
  by_cases hk1 : k ≤ 1
  · have hki : (k : Int) ≤ 1 := by omega
    rw [show max 1 k = 1 by omega] at hR
    have HR : Hid _ := hR
    clear hR
    go_enter Try.func22, Try.ntmps22
    go_wp2_with fail
    go_loopw [3, 4, 5, 6, 12] (fun out _ _ _ x wr => ∃ j : Nat, j ≤ 1 ∧ x = .int .u64 (j : Int) ∧ Oj w.heap.size wr out (absP ps j) ∧ (absP ps j).length ≤ 64 ∧ Below w.heap.size w wr) (fun _ _ _ _ x _ => 1 - (intOf x).toNat)
    case atStart => exact ⟨0, Nat.zero_le _, rfl, Oj.nil _ _, Nat.zero_le _, Below.refl _ _⟩
    case round =>
      obtain ⟨j, hj, rfl, ho, hl64, hb⟩ := hrel
      obtain ⟨ao, co, eo⟩ := ho.shape
      subst eo
      have hB := hb.size
      by_cases hlt : j < 1
      · have hlt' : (j : Int) < 1 := by omega
        by_cases h64 : (absP ps j).length < 64
        · have d64 : (((absP ps j).length : Int) == 64) = false := by simp; omega
          have hjb : j < 4398046511104 := by have := HC.out.1 j; have := HC.out.2.1 j; omega
          have hw := h.below hb (Nat.le_refl _)
          have y3 : wr.cell? ⟨d, 3, none⟩ = some (.map (some m)) := by rw [hb.cell hdw]; exact x3
          have hsu := HC.out.2.2.1 j
          generalize hA : absP ps j = A at *
          generalize hA2 : absP ps (j + 1) = A2 at *
          cases hlk : lkP ps j with
          | none =>
            rw [hlk] at hsu
            simp only [Option.isSome_none, Bool.false_eq_true, if_false] at hsu
            subst hsu
            have HA : Hid _ := And.intro hA (And.intro hA2 hlk)
            have hlo := hw.look_none hlk (by omega)
            clear hA hA2 hlk
            have hone := rj_one wr (j : Int) (j : Int) rfl 3 _ rfl
            have hal : (wr.alloc (.cells #[.int .i64 (j : Int)] 3)).heap.size = wr.heap.size + 1 := by simp
            have hoa := ho.alloc (.cells #[.int .i64 (j : Int)] 3)
            have hB2 : w.heap.size ≤ (wr.alloc (.cells #[.int .i64 (j : Int)] 3)).heap.size := by omega
            go_wp2_with (first | (at_builtin; refine wpList_appJ rfl _ _ rfl w.heap.size _ A rfl hoa _ [(j : Int)] rfl hone hB2 (by simp; omega) ?_; intro v3 w3 ho3 hg3 hv3) | fail)
            have hb3 : Below w.heap.size (wr.alloc (.cells #[.int .i64 (j : Int)] 3)) w3 := (Below.refl _ _).grown hg3 hB2 (fun q hq => (hoa.lt q hq).1)
            refine ⟨⟨j + 1, by omega, by go_num, ?_, ?_, (hb.alloc hB _).trans hb3⟩, by simp [intOf]; omega⟩
            · rw [HA.out.2.1]; exact ho3
            · rw [HA.out.2.1, List.length_append]; simp; omega
          | some q =>
            rw [hlk] at hsu
            simp only [Option.isSome_some, if_true, List.append_nil] at hsu
            subst hsu
            have HA : Hid _ := And.intro hA (And.intro hA2 hlk)
            have hlo := hw.look_some hlk (by omega)
            obtain ⟨aq, cq, eq⟩ := hw.shape hlk
            rw [eq] at hlo
            clear hA hA2 hlk eq
            go_wp2_with fail
            refine ⟨⟨j + 1, by omega, by go_num, ?_, ?_, hb⟩, by simp [intOf]; omega⟩
            · rw [HA.out.2.1]; exact ho
            · rw [HA.out.2.1]; exact hl64
        · have d64 : (((absP ps j).length : Int) == 64) = true := by simp; omega
          obtain ⟨mo, hmo⟩ := HC.out.2.2.2 j (1 - j)
          rw [show j + (1 - j) = 1 by omega] at hmo
          obtain rfl : absP ps j = R := by
            rw [← HR.out, hmo, List.take_append_of_le_length (by omega), List.take_of_length_le (by omega)]
          clear hmo
          go_wp2_with fail
          go_ret
          exact ⟨_, rfl, ho, hb⟩
      · have ejk : absP ps 1 = absP ps j := by rw [show j = 1 by omega]
        obtain rfl : absP ps j = R := by rw [← HR.out, ejk, List.take_of_length_le hl64]
        clear ejk
        go_wp2_with fail
        go_ret
        exact ⟨_, rfl, ho, hb⟩
  · have hki : 1 < (k : Int) := by omega
    rw [show max 1 k = k by omega] at hR
    have HR : Hid _ := hR
    clear hR
    go_enter Try.func22, Try.ntmps22
    go_wp2_with fail
    go_loopw [3, 4, 5, 6, 12] (fun out _ _ _ x wr => ∃ j : Nat, j ≤ k ∧ x = .int .u64 (j : Int) ∧ Oj w.heap.size wr out (absP ps j) ∧ (absP ps j).length ≤ 64 ∧ Below w.heap.size w wr) (fun _ _ _ _ x _ => k - (intOf x).toNat)
    case atStart => exact ⟨0, Nat.zero_le _, rfl, Oj.nil _ _, Nat.zero_le _, Below.refl _ _⟩
    case round =>
      obtain ⟨j, hj, rfl, ho, hl64, hb⟩ := hrel
      obtain ⟨ao, co, eo⟩ := ho.shape
      subst eo
      have hB := hb.size
      by_cases hlt : j < k
      · have hlt' : (j : Int) < (k : Int) := by omega
        by_cases h64 : (absP ps j).length < 64
        · have d64 : (((absP ps j).length : Int) == 64) = false := by simp; omega
          have hjb : j < 4398046511104 := by have := HC.out.1 j; have := HC.out.2.1 j; omega
          have hw := h.below hb (Nat.le_refl _)
          have y3 : wr.cell? ⟨d, 3, none⟩ = some (.map (some m)) := by rw [hb.cell hdw]; exact x3
          have hsu := HC.out.2.2.1 j
          generalize hA : absP ps j = A at *
          generalize hA2 : absP ps (j + 1) = A2 at *
          cases hlk : lkP ps j with
          | none =>
            rw [hlk] at hsu
            simp only [Option.isSome_none, Bool.false_eq_true, if_false] at hsu
            subst hsu
            have HA : Hid _ := And.intro hA (And.intro hA2 hlk)
            have hlo := hw.look_none hlk (by omega)
            clear hA hA2 hlk
            have hone := rj_one wr (j : Int) (j : Int) rfl 3 _ rfl
            have hal : (wr.alloc (.cells #[.int .i64 (j : Int)] 3)).heap.size = wr.heap.size + 1 := by simp
            have hoa := ho.alloc (.cells #[.int .i64 (j : Int)] 3)
            have hB2 : w.heap.size ≤ (wr.alloc (.cells #[.int .i64 (j : Int)] 3)).heap.size := by omega
            go_wp2_with (first | (at_builtin; refine wpList_appJ rfl _ _ rfl w.heap.size _ A rfl hoa _ [(j : Int)] rfl hone hB2 (by simp; omega) ?_; intro v3 w3 ho3 hg3 hv3) | fail)
            have hb3 : Below w.heap.size (wr.alloc (.cells #[.int .i64 (j : Int)] 3)) w3 := (Below.refl _ _).grown hg3 hB2 (fun q hq => (hoa.lt q hq).1)
            refine ⟨⟨j + 1, by omega, by go_num, ?_, ?_, (hb.alloc hB _).trans hb3⟩, by simp [intOf]; omega⟩
            · rw [HA.out.2.1]; exact ho3
            · rw [HA.out.2.1, List.length_append]; simp; omega
          | some q =>
            rw [hlk] at hsu
            simp only [Option.isSome_some, if_true, List.append_nil] at hsu
            subst hsu
            have HA : Hid _ := And.intro hA (And.intro hA2 hlk)
            have hlo := hw.look_some hlk (by omega)
            obtain ⟨aq, cq, eq⟩ := hw.shape hlk
            rw [eq] at hlo
            clear hA hA2 hlk eq
            go_wp2_with fail
            refine ⟨⟨j + 1, by omega, by go_num, ?_, ?_, hb⟩, by simp [intOf]; omega⟩
            · rw [HA.out.2.1]; exact ho
            · rw [HA.out.2.1]; exact hl64
        · have d64 : (((absP ps j).length : Int) == 64) = true := by simp; omega
          obtain ⟨mo, hmo⟩ := HC.out.2.2.2 j (k - j)
          rw [show j + (k - j) = k by omega] at hmo
          obtain rfl : absP ps j = R := by
            rw [← HR.out, hmo, List.take_append_of_le_length (by omega), List.take_of_length_le (by omega)]
          clear hmo
          go_wp2_with fail
          go_ret
          exact ⟨_, rfl, ho, hb⟩
      · have ejk : absP ps k = absP ps j := by rw [show j = k by omega]
        obtain rfl : absP ps j = R := by rw [← HR.out, ejk, List.take_of_length_le hl64]
        clear ejk
        go_wp2_with fail
        go_ret
        exact ⟨_, rfl, ho, hb⟩
end
end Go.Proofs.Ytlajncjamafomaa
