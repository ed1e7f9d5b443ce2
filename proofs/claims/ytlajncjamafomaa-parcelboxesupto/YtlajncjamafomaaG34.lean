/- The document's Done. -/
import Derived.Test.YtlajncjamafomaaG33
import Derived.Test.YtlajncjamafomaaG26
import Derived.Test.YtlajncjamafomaaG14
namespace Go.Proofs.Ytlajncjamafomaa
open Go.RowKit Go.Maps
set_option linter.unusedVariables false
set_option maxRecDepth 100000

section
variable {T : Nat → Prop} {E x s n k : Nat} {ps : List (Nat × List UInt8)} {w w' : World}
set_option maxHeartbeats 4000000 in
theorem rdone_any (h : Rb T E x s n k ps w) (hN : ps.length ≤ 1048576) :
    Calls Try.prog 25 #[.pointer (some ⟨x, 0, none⟩)] w fun e w' => ∃ v, e = .returned (.tuple #[v, .bool (bxDone s n k ps).isSome]) ∧ Ow w.heap.size w' v ((bxDone s n k ps).getD []) ∧ Below w.heap.size w w' := by
  obtain ⟨pv, us, h⟩ := h
  obtain ⟨ao, co, epv, hc1, hc2⟩ : ∃ ao co, pv = .slice ao ps.length co ∧ ps.length ≤ co ∧ co ≤ 9223372036854775807 := by
    rcases h.blk with ⟨q1, q2⟩ | ⟨g', c', q1, q2, q3, q4, q5, q6⟩
    · exact ⟨none, 0, by rw [q1, q2]; rfl, by rw [q2]; simp, by omega⟩
    · exact ⟨_, c', q1, q2, q3⟩
  subst epv
  have hk64 := h.k64
  have hn20 := h.n20
  have hs32 := h.s32
  have HW : Hid (∀ wr, Below w.heap.size w wr → wr.cell? ⟨x, 0, none⟩ = some (.int .u32 (s : Int)) ∧ wr.cell? ⟨x, 1, none⟩ = some (.int .i64 (n : Int)) ∧ wr.cell? ⟨x, 3, none⟩ = some (.slice ao ps.length co) ∧ ∀ i p, ps[i]? = some p → ∃ g' a c, ao = some ⟨g', 0, none⟩ ∧ wr.cell? ⟨g', i * 2 + 1, none⟩ = some (.slice a p.2.length c) ∧ Rd wr (.slice a p.2.length c) p.2) := fun wr hb => by
    have hw := h.below hb (Nat.le_refl _)
    obtain ⟨x0, x1, x2, x3, xz⟩ := hw.cells
    refine ⟨x0, x1, x3, fun i p hp => ?_⟩
    have hil := (List.getElem?_eq_some_iff.1 hp).1
    obtain ⟨u, hu⟩ : ∃ u, us[i]? = some u := ⟨_, List.getElem?_eq_getElem (by rw [hw.len]; exact hil)⟩
    have ho := (hw.el i p u hp hu).2
    obtain ⟨a, c, e⟩ := ho.shape
    rcases hw.blk with ⟨q1, q2⟩ | ⟨g', c', q1, q2, q3, q4, q5, q6⟩
    · rw [q2] at hil
      simp at hil
    · simp only [Value.slice.injEq] at q1
      refine ⟨g', a, c, q1.1, ?_, ?_⟩
      · rw [(q6 i u hu).2, e]
      · rw [← e]; exact ho.rd
  obtain ⟨x0, x1, x2, x3, _⟩ := h.cells
  have hkb := fun y hy => (h.kb y hy).2
  have hjl : ∀ j, (jnP (ps.take j)).length ≤ 1099511627776 := fun j => by
    have h1 := jnP_len (ps.take j)
    have h2 := sumP_le (n := 1048576) (ps.take j) (fun y hy => Nat.le_trans (hkb y (List.mem_of_mem_take hy)) hn20)
    have h3 : (ps.take j).length ≤ 1048576 := by rw [List.length_take]; omega
    have h4 := Nat.mul_le_mul_right 1048576 h3
    omega
  have hsn : ∀ j p, ps[j]? = some p → jnP (ps.take (j + 1)) = jnP (ps.take j) ++ p.2 := fun j p hp => by
    obtain ⟨hj, e⟩ := List.getElem?_eq_some_iff.1 hp
    unfold jnP
    rw [List.take_succ_eq_append_getElem hj, List.map_append, List.flatten_append, e]
    simp
  have HL : Hid _ := And.intro hjl hsn
  have HJN : Hid _ := jnP_len ps
  have hjf := hjl ps.length
  rw [List.take_length] at hjf
  clear h hkb hjl hsn
  generalize hX : bxDone s n k ps = X
  unfold bxDone at hX
  have hwl : IntKind.u64.wrap (ps.length : Int) = (ps.length : Int) := by rw [IntKind.wrap_u64]; omega
  by_cases hk0 : k = 0
  · subst hk0
    rw [if_neg (by omega)] at hX
    subst hX
    have e0 : (((0 : Nat) : Int) == 0) = true := rfl
    go_enter Try.func25, Try.ntmps25
    go_upto_region 1 with fail
    go_quiet (fail)
    go_wp2_with fail
    go_ret2
    exact ⟨_, rfl, Ow.nil _ _, below_drewN (Below.refl _ _) _⟩
  have e0 : ((k : Int) == 0) = false := by simp; omega
  by_cases hkl : ps.length = k
  · have e1 : ((ps.length : Int) != (k : Int)) = false := by simp [hkl]
    have HKL : Hid _ := And.intro hkl hk0
    clear hkl hk0
    go_enter Try.func25, Try.ntmps25
    go_upto_region 1 with fail
    go_quiet (fail)
    have hb0 : Below w.heap.size w (w.drewN nq) := below_drewN (Below.refl _ _) _
    clear x0 x1 x2 x3 e0 e1 hwl
    generalize w.drewN nq = W at *
    go_wp2_with fail
    go_loopw [4, 5] (fun out y wr => ∃ i : Nat, i ≤ ps.length ∧ y = .int .i64 (i : Int) ∧ Ow w.heap.size wr out (jnP (ps.take i)) ∧ Below w.heap.size w wr) (fun _ y _ => ps.length - (intOf y).toNat)
    case atStart => exact ⟨0, Nat.zero_le _, rfl, Ow.nil _ _, hb0⟩
    case round =>
      obtain ⟨i, hi, rfl, ho, hb⟩ := hrel
      clear hb0
      have hB := hb.size
      obtain ⟨x0, x1, x3, HY⟩ := HW.out wr hb
      have HYH : Hid _ := HY
      clear HY
      by_cases hlt : i < ps.length
      · have hlt' : (i : Int) < (ps.length : Int) := by omega
        obtain ⟨⟨pn, pp⟩, hp⟩ : ∃ p, ps[i]? = some p := ⟨_, List.getElem?_eq_getElem hlt⟩
        obtain ⟨g', a, c, eg, y1, hrd⟩ := HYH.out i _ hp
        have hsn := HL.out.2 i _ hp
        have hjl := HL.out.1 (i + 1)
        rw [hsn, List.length_append] at hjl
        simp only [] at y1 hrd hsn hjl
        subst eg
        generalize hcu : jnP (ps.take i) = cu at *
        have HS : Hid _ := hsn
        clear hsn hcu hp
        go_wp2_with (first | (at_builtin; refine wpList_app rfl _ _ rfl w.heap.size _ cu rfl ho _ pp rfl hrd hB (by omega) ?_; intro v3 w3 ho3 hb3 hg3) | fail)
        refine ⟨⟨i + 1, by omega, by go_num, ?_, hb.trans hb3⟩, by simp [intOf]; omega⟩
        rw [HS.out]; exact ho3
      · have hlt' : ¬ (i : Int) < (ps.length : Int) := by omega
        rw [List.take_of_length_le (by omega)] at ho
        obtain ⟨av, cv, ev⟩ := ho.shape
        subst ev
        have hcr := M.crc_lt (jnP ps)
        have hsum := fun j => rsum_any (ho.rd.drewN j)
        go_upto_region 8 with fail
        by_cases c1 : (jnP ps).length = n
        · have d1 : (((jnP ps).length : Int) != (n : Int)) = false := by simp [c1]
          by_cases c2 : M.crc (jnP ps) = s
          · have d2 : ((M.crc (jnP ps) : Int) != (s : Int)) = false := by simp [c2]
            rw [if_pos ⟨by have := HKL.out.1; have := HKL.out.2; omega, HKL.out.1, by rw [← HJN.out]; exact c1, c2⟩] at hX
            subst hX
            have HC : Hid _ := And.intro c1 c2
            clear c1 c2
            generalize hJ : jnP ps = J at *
            generalize hcj : M.crc J = cj at *
            have HJ : Hid _ := hJ
            clear hJ
            go_quiet (first | (go_at_call 34; refine Calls.quiet_of (v := .int .u32 (cj : Int)) (hsum _)) | fail)
            go_wp2_with fail
            go_ret2
            refine ⟨.slice av J.length cv, rfl, ?_, below_drewN hb _⟩
            show Ow _ _ _ (jnP ps)
            rw [HJ.out]
            exact ho.below (Below.dN wr _) (Nat.le_refl _)
          · have d2 : ((M.crc (jnP ps) : Int) != (s : Int)) = true := by simp; omega
            rw [if_neg (fun q => c2 q.2.2.2)] at hX
            subst hX
            have HC : Hid _ := And.intro c1 c2
            clear c1 c2
            generalize hJ : jnP ps = J at *
            generalize hcj : M.crc J = cj at *
            have HJ : Hid _ := hJ
            clear hJ
            go_quiet (first | (go_at_call 34; refine Calls.quiet_of (v := .int .u32 (cj : Int)) (hsum _)) | fail)
            go_wp2_with fail
            go_ret2
            exact ⟨_, rfl, Ow.nil _ _, below_drewN hb _⟩
        · have d1 : (((jnP ps).length : Int) != (n : Int)) = true := by simp; omega
          rw [if_neg (fun q => c1 (by rw [HJN.out]; exact q.2.2.1))] at hX
          subst hX
          have HC : Hid _ := c1
          clear c1
          generalize hJ : jnP ps = J at *
          clear hJ
          go_quiet (fail)
          go_wp2_with fail
          go_ret2
          exact ⟨_, rfl, Ow.nil _ _, below_drewN hb _⟩
  · have e1 : ((ps.length : Int) != (k : Int)) = true := by simp; omega
    rw [if_neg (fun q => hkl q.2.1)] at hX
    subst hX
    have HKL : Hid _ := And.intro hkl hk0
    clear hkl hk0
    go_enter Try.func25, Try.ntmps25
    go_upto_region 1 with fail
    go_quiet (fail)
    go_wp2_with fail
    go_ret2
    exact ⟨_, rfl, Ow.nil _ _, below_drewN (Below.refl _ _) _⟩
end
end Go.Proofs.Ytlajncjamafomaa
