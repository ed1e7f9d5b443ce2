/- The document's Missing. -/
import Derived.Test.YtlajncjamafomaaG33
import Derived.Test.YtlajncjamafomaaG13
namespace Go.Proofs.Ytlajncjamafomaa
open Go.RowKit Go.Maps
set_option linter.unusedVariables false
set_option maxRecDepth 100000

theorem cntP_at {ps : List (Nat × List UInt8)} (hr : RsP ps) {j : Nat} {q : List UInt8} (h : lkP ps j = some q) : ps[cntP ps j]? = some (j, q) := by
  induction ps with
  | nil => simp [lkP] at h
  | cons a r ih =>
    obtain ⟨k, p⟩ := a
    obtain ⟨h1, h2⟩ := List.pairwise_cons.1 hr
    by_cases e : k = j
    · subst e
      rw [lkP, if_pos rfl] at h
      obtain rfl := Option.some.inj h
      have hz : cntP ((k, p) :: r) k = 0 := by
        unfold cntP
        rw [List.length_eq_zero_iff, List.filter_eq_nil_iff]
        intro a ha
        rcases List.mem_cons.1 ha with rfl | ha
        · simp
        · have := h1 a ha
          simp only [] at this
          simp; omega
      rw [hz]; rfl
    · rw [lkP, if_neg e] at h
      have hkj : k < j := h1 _ (lkP_mem h)
      have hs : cntP ((k, p) :: r) j = cntP r j + 1 := by
        unfold cntP
        rw [List.filter_cons, if_pos (by simp; exact hkj), List.length_cons]
      rw [hs, List.getElem?_cons_succ]
      exact ih h2 h
theorem cntP_not {ps : List (Nat × List UInt8)} (hr : RsP ps) {j : Nat} (h : lkP ps j = none) (p : Nat × List UInt8) (hp : ps[cntP ps j]? = some p) : p.1 ≠ j := fun e => by
  have hm := List.mem_of_getElem? hp
  have hm' : (p.1, p.2) ∈ ps := hm
  have := lkP_of_mem hr hm'
  rw [e, h] at this
  cases this

section
variable {T : Nat → Prop} {E x s n k : Nat} {ps : List (Nat × List UInt8)} {w w' : World}
set_option maxHeartbeats 4000000 in
theorem rmissing_any (h : Rb T E x s n k ps w) (hN : ps.length ≤ 1073741824) :
    Calls Try.prog 23 #[.pointer (some ⟨x, 0, none⟩)] w fun e w' => ∃ v, e = .returned v ∧ Oj w.heap.size w' v (msP ps k) ∧ Below w.heap.size w w' := by
  obtain ⟨pv, us, h⟩ := h
  have hk64 := h.k64
  have hcl := cntP_le ps
  by_cases hk0 : k = 0
  · subst hk0
    obtain ⟨x0, x1, x2, x3, xz⟩ := h.cells
    have hps : ps = [] := by
      cases ps with
      | nil => rfl
      | cons a r => have := (h.kb a (by simp)).1; omega
    subst hps
    have hR : msP [] 0 = [0] := by rfl
    rw [hR]
    have hob := Oj.made w.heap.size w [0] 1 rfl (Nat.le_refl _) (by decide) #[.int .i64 0] rfl _ rfl
    go_enter Try.func23, Try.ntmps23
    go_wp2_with fail
    go_ret
    exact ⟨_, rfl, hob, (Below.refl _ _).alloc (Nat.le_refl _) _⟩
  · have e0 : ((k : Int) == 0) = false := by simp; omega
    obtain ⟨ao, co, epv, hc1, hc2⟩ : ∃ ao co, pv = .slice ao ps.length co ∧ ps.length ≤ co ∧ co ≤ 9223372036854775807 := by
      rcases h.blk with ⟨q1, q2⟩ | ⟨g', c', q1, q2, q3, q4, q5, q6⟩
      · exact ⟨none, 0, by rw [q1, q2]; rfl, by rw [q2]; simp, by omega⟩
      · exact ⟨_, c', q1, q2, q3⟩
    subst epv
    have HW : Hid (∀ wr, Below w.heap.size w wr → wr.cell? ⟨x, 2, none⟩ = some (.int .u64 (k : Int)) ∧ wr.cell? ⟨x, 3, none⟩ = some (.slice ao ps.length co) ∧ ∀ i p, ps[i]? = some p → ∃ g', ao = some ⟨g', 0, none⟩ ∧ wr.cell? ⟨g', i * 2, none⟩ = some (.int .u64 (p.1 : Int))) := fun wr hb => by
      have hw := h.below hb (Nat.le_refl _)
      obtain ⟨x0, x1, x2, x3, xz⟩ := hw.cells
      refine ⟨x2, x3, fun i p hp => ?_⟩
      have hil := (List.getElem?_eq_some_iff.1 hp).1
      obtain ⟨u, hu⟩ : ∃ u, us[i]? = some u := ⟨_, List.getElem?_eq_getElem (by rw [hw.len]; exact hil)⟩
      rcases hw.blk with ⟨q1, q2⟩ | ⟨g', c', q1, q2, q3, q4, q5, q6⟩
      · rw [q2] at hil
        simp at hil
      · simp only [Value.slice.injEq] at q1
        refine ⟨g', q1.1, ?_⟩
        rw [(q6 i u hu).1, (hw.el i p u hp hu).1]
    have hcnt := absP_cnt h.rs
    have hsucc := absP_succ ps
    have hmore := absP_more ps
    have hcsu := cntP_succ h.rs
    have hat := fun (j : Nat) (q : List UInt8) => cntP_at h.rs (j := j) (q := q)
    have hnt := fun (j : Nat) => cntP_not h.rs (j := j)
    have HC : Hid _ := And.intro hcnt (And.intro hcl (And.intro hsucc (And.intro hmore (And.intro hcsu (And.intro hat hnt)))))
    obtain ⟨_, _, x2, x3, _⟩ := h.cells
    have h0 : cntP ps 0 = 0 := by have := hcnt 0; omega
    clear hcnt hcl hsucc hmore hcsu hat hnt h
    generalize hR : msP ps k = R
    unfold msP at hR
    rw [show max 1 k = k by omega] at hR
    have HR : Hid _ := And.intro hR h0
    clear hR h0
    go_enter Try.func23, Try.ntmps23
    go_wp2_with fail
    go_loopw [3, 4, 5] (fun out kk x wr => ∃ j c : Nat, j ≤ k ∧ kk = .int .i64 (c : Int) ∧ x = .int .u64 (j : Int) ∧ Hid (c = cntP ps j) ∧ Oj w.heap.size wr out (absP ps j) ∧ (absP ps j).length ≤ 64 ∧ Below w.heap.size w wr) (fun _ _ x _ => k - (intOf x).toNat)
    case atStart => exact ⟨0, 0, Nat.zero_le _, rfl, rfl, HR.out.2.symm, Oj.nil _ _, Nat.zero_le _, Below.refl _ _⟩
    case round =>
      obtain ⟨j, c, hj, rfl, rfl, HCC, ho, hl64, hb⟩ := hrel
      obtain ⟨aO, cO, eo⟩ := ho.shape
      subst eo
      have hB := hb.size
      have hcl : c ≤ ps.length := by rw [HCC.out]; exact HC.out.2.1 j
      obtain ⟨y2, y3, HY⟩ := HW.out wr hb
      have HYH : Hid _ := HY
      clear HY
      by_cases hlt : j < k
      · have hlt' : (j : Int) < (k : Int) := by omega
        by_cases h64 : (absP ps j).length < 64
        · have d64 : ((absP ps j).length : Int) < 64 := by omega
          have hjb : j < 4398046511104 := by have := HC.out.1 j; have := HC.out.2.1 j; omega
          have hsu := HC.out.2.2.1 j
          have hcs := HC.out.2.2.2.2.1 j
          rw [← HCC.out] at hcs
          generalize hA : absP ps j = A at *
          generalize hA2 : absP ps (j + 1) = A2 at *
          cases hlk : lkP ps j with
          | none =>
            rw [hlk] at hsu hcs
            simp only [Option.isSome_none, Bool.false_eq_true, if_false, Nat.add_zero] at hsu hcs
            subst hsu
            have HA : Hid _ := And.intro hA (And.intro hA2 (And.intro hlk hcs))
            clear hA hA2 hlk hcs
            have hone := rj_one wr (j : Int) (j : Int) rfl 3 _ rfl
            have hal : (wr.alloc (.cells #[.int .i64 (j : Int)] 3)).heap.size = wr.heap.size + 1 := by simp
            have hoa := ho.alloc (.cells #[.int .i64 (j : Int)] 3)
            have hB2 : w.heap.size ≤ (wr.alloc (.cells #[.int .i64 (j : Int)] 3)).heap.size := by omega
            by_cases hcp : c < ps.length
            · have hcp' : (c : Int) < (ps.length : Int) := by omega
              obtain ⟨⟨pn, pp⟩, hp⟩ : ∃ p, ps[c]? = some p := ⟨_, List.getElem?_eq_getElem hcp⟩
              have hpn : pn ≠ j := HC.out.2.2.2.2.2.2 j HA.out.2.2.1 (pn, pp) (by rw [← HCC.out]; exact hp)
              obtain ⟨g', eg, y0⟩ := HYH.out c _ hp
              subst eg
              simp only [] at y0
              have qe : ((pn : Int) == (j : Int)) = false := by simp; omega
              clear hp
              go_wp2_with (first | (at_builtin; refine wpList_appJ rfl _ _ rfl w.heap.size _ A rfl hoa _ [(j : Int)] rfl hone hB2 (by simp; omega) ?_; intro v3 w3 ho3 hg3 hv3) | fail)
              have hb3 : Below w.heap.size (wr.alloc (.cells #[.int .i64 (j : Int)] 3)) w3 := (Below.refl _ _).grown hg3 hB2 (fun q hq => (hoa.lt q hq).1)
              refine ⟨⟨j + 1, c, by omega, rfl, by go_num, HA.out.2.2.2.symm, ?_, ?_, (hb.alloc hB _).trans hb3⟩, by simp [intOf]; omega⟩
              · rw [HA.out.2.1]; exact ho3
              · rw [HA.out.2.1, List.length_append]; simp; omega
            · have hcp' : ¬ (c : Int) < (ps.length : Int) := by omega
              go_wp2_with (first | (at_builtin; refine wpList_appJ rfl _ _ rfl w.heap.size _ A rfl hoa _ [(j : Int)] rfl hone hB2 (by simp; omega) ?_; intro v3 w3 ho3 hg3 hv3) | fail)
              have hb3 : Below w.heap.size (wr.alloc (.cells #[.int .i64 (j : Int)] 3)) w3 := (Below.refl _ _).grown hg3 hB2 (fun q hq => (hoa.lt q hq).1)
              refine ⟨⟨j + 1, c, by omega, rfl, by go_num, HA.out.2.2.2.symm, ?_, ?_, (hb.alloc hB _).trans hb3⟩, by simp [intOf]; omega⟩
              · rw [HA.out.2.1]; exact ho3
              · rw [HA.out.2.1, List.length_append]; simp; omega
          | some q =>
            rw [hlk] at hsu hcs
            simp only [Option.isSome_some, if_true, List.append_nil] at hsu hcs
            subst hsu
            have hp := HC.out.2.2.2.2.2.1 j q hlk
            rw [← HCC.out] at hp
            have hcp : c < ps.length := (List.getElem?_eq_some_iff.1 hp).1
            have hcp' : (c : Int) < (ps.length : Int) := by omega
            obtain ⟨g', eg, y0⟩ := HYH.out c _ hp
            subst eg
            simp only [] at y0
            have HA : Hid _ := And.intro hA (And.intro hA2 (And.intro hlk hcs))
            clear hA hA2 hlk hcs hp
            have qe : ((j : Int) == (j : Int)) = true := by simp
            go_wp2_with fail
            refine ⟨⟨j + 1, c + 1, by omega, by go_num, by go_num, HA.out.2.2.2.symm, ?_, ?_, hb⟩, by simp [intOf]; omega⟩
            · rw [HA.out.2.1]; exact ho
            · rw [HA.out.2.1]; exact hl64
        · have d64 : ¬ ((absP ps j).length : Int) < 64 := by omega
          obtain ⟨mo, hmo⟩ := HC.out.2.2.2.1 j (k - j)
          rw [show j + (k - j) = k by omega] at hmo
          obtain rfl : absP ps j = R := by
            rw [← HR.out.1, hmo, List.take_append_of_le_length (by omega), List.take_of_length_le (by omega)]
          clear hmo
          go_wp2_with fail
          go_ret
          exact ⟨_, rfl, ho, hb⟩
      · have hlt' : ¬ (j : Int) < (k : Int) := by omega
        have ejk : absP ps k = absP ps j := by rw [show j = k by omega]
        obtain rfl : absP ps j = R := by rw [← HR.out.1, ejk, List.take_of_length_le hl64]
        clear ejk
        go_wp2_with fail
        go_ret
        exact ⟨_, rfl, ho, hb⟩
end
end Go.Proofs.Ytlajncjamafomaa
