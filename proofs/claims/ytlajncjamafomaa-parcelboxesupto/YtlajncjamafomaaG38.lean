/- The document's Put : a part of that number is there. -/
import Derived.Test.YtlajncjamafomaaG37
namespace Go.Proofs.Ytlajncjamafomaa
open Go.RowKit Go.Maps
set_option linter.unusedVariables false
set_option maxRecDepth 100000

section
variable {T : Nat → Prop} {E x s n k : Nat} {ps : List (Nat × List UInt8)} {w w' : World}
set_option maxHeartbeats 8000000 in
theorem rput_found (h : Rb T E x s n k ps w) (hE : E ≤ w.heap.size) {v : Value} {l body f0 f1 f2 f3 f4 : List UInt8} (hr : Rd w v l) (hl : l.length ≤ 1099511627776) (hN : ps.length ≤ 1073741824) (ht1 : M.tf l = (body, [], 0)) (ht2 : M.tr body = ([f0, f1, f2, f3, f4], 0)) (hp0 : pkN f0 = true) (hp1 : pkN f1 = true) (hp2 : pkN f2 = true) (hp3 : pkN f3 = true) (hN3 : (M.tv f3).1 < (M.tv f2).1) (hq1 : (M.tv f0).1 = s) (hq2 : (M.tv f1).1 = n) (hk0 : 0 < k) (hq3 : (M.tv f2).1 = k) (hql : f4.length ≤ n) {q : List UInt8} (hlk : lkP ps (M.tv f3).1 = some q) :
    Calls Try.prog 20 #[.pointer (some ⟨x, 0, none⟩), v] w (RpQ T E x s n w ((k, ps), if q = f4 then 0 else 140)) := by
  generalize hX : (if q = f4 then 0 else 140 : Nat) = X
  have htf := rtframe_any hr hl
  have htl := tf_len1 l
  rw [ht1] at htf htl
  have htr := fun (W : World) (v : Value) (ho : Rd W v body) => rtakerow_any ho (by simp only [] at htl; omega)
  have htr5 : ∀ f ∈ (M.tr body).1, f.length ≤ 1099511627776 := fun f hf => by have := tr_fields body f hf; simp only [] at htl; omega
  rw [ht2] at htr htr5
  have hl0 := tv_lt f0
  have hl1 := tv_lt f1
  have hl2 := tv_lt f2
  have hl3 := tv_lt f3
  have hf4l := htr5 f4 (by simp)
  have n0 := fun (W : World) (u : Value) (hW : Rd W u f0) => rnum14_any hW (htr5 f0 (by simp))
  have n1 := fun (W : World) (u : Value) (hW : Rd W u f1) => rnum14_any hW (htr5 f1 (by simp))
  have n2 := fun (W : World) (u : Value) (hW : Rd W u f2) => rnum14_any hW (htr5 f2 (by simp))
  have n3 := fun (W : World) (u : Value) (hW : Rd W u f3) => rnum14_any hW (htr5 f3 (by simp))
  rw [hp0] at n0
  rw [hp1] at n1
  rw [hp2] at n2
  rw [hp3] at n3
  simp only [] at htf htr
  generalize (M.tv f0).1 = N0 at *
  generalize (M.tv f1).1 = N1 at *
  generalize (M.tv f2).1 = N2 at *
  generalize (M.tv f3).1 = N3 at *
  clear ht1 ht2 hp0 hp1 hp2 hp3 htl htr5
  have hN2i : ¬ (N2 : Int) < 1 := by omega
  have hN3i : ¬ (N2 : Int) ≤ (N3 : Int) := by omega
  have hQ : ∀ (W : World) (c : Nat), Below w.heap.size w W → RpQ T E x s n w ((k, ps), c) (.returned (.int .i64 (c : Int))) W := fun W c hW => ⟨rfl, h.below hW (Nat.le_refl _), (Chg.of_below hW).mono (fun b q1 q2 => absurd q1 (Nat.not_lt.2 q2))⟩
  have HQ : Hid _ := hQ
  clear hQ
  go_enter Try.func20, Try.ntmps20
  go_wp2_with fail
  refine htf.mono ?_
  rintro e w1 ⟨v1, v2, rfl, ho1, ho2, hb1⟩
  go_wp2_with fail
  refine (htr w1 v1 ho1.rd).mono ?_
  rintro e w2 ⟨v3, us3, rfl, ho3, hb2⟩
  obtain ⟨a2, d2, rfl⟩ := ho2.shape
  have hul : us3.length = 5 := ho3.len
  have hB2 : Below w.heap.size w w2 := hb1.trans (hb2.mono hb1.size)
  obtain ⟨g, cap, hv3, hgc, hg5, hg6, hcl⟩ : ∃ g cap, v3 = .slice (some ⟨g, 0, none⟩) 5 cap ∧ w1.heap.size ≤ g ∧ 5 ≤ cap ∧ cap ≤ 9223372036854775807 ∧ ∀ j u, us3[j]? = some u → w2.cell? ⟨g, j, none⟩ = some u := by
    have hrow := ho3.row
    rcases hrow.2 with ⟨_, q⟩ | ⟨g, cap, cur, q, hg, hh, q1, q2, q3, q4⟩
    · omega
    · subst q
      refine ⟨g, cap, by rw [hul], hg, by omega, by unfold maxLen at q2; omega, fun j u e => ?_⟩
      rw [hrow.cellAt j (by have := (List.getElem?_eq_some_iff.1 e).1; omega)]
      exact e
  subst hv3
  have hel : ∀ j f, [f0, f1, f2, f3, f4][j]? = some f → ∃ a c, w2.cell? ⟨g, j, none⟩ = some (.slice a f.length c) ∧ Ow w1.heap.size w2 (.slice a f.length c) f := fun j f hj => by
    have hjl := (List.getElem?_eq_some_iff.1 hj).1
    have hju : j < us3.length := by simp only [List.length_cons, List.length_nil] at hjl; omega
    have e1 : us3[j]? = some us3[j] := by simp [hju]
    have ho := ho3.el j us3[j] f e1 hj
    obtain ⟨a, c, e⟩ := ho.shape
    exact ⟨a, c, e ▸ hcl j _ e1, e ▸ ho⟩
  obtain ⟨a0, k0, c0, r0⟩ := hel 0 f0 rfl
  obtain ⟨a1, k1, c1, r1⟩ := hel 1 f1 rfl
  obtain ⟨a2', k2, c2, r2⟩ := hel 2 f2 rfl
  obtain ⟨a3, k3, c3, r3⟩ := hel 3 f3 rfl
  obtain ⟨a4, k4, c4, r4⟩ := hel 4 f4 rfl
  have kc : ∀ (W : World) (j : Nat) (u : Value), Below w2.heap.size w2 W → w2.cell? ⟨g, j, none⟩ = some u → W.cell? ⟨g, j, none⟩ = some u := fun W j u hW e => by rw [hW.cell (World.block_lt_of_cell? w2 _ e)]; exact e
  clear hel ho3 hcl htf htr ho1
  go_wp2_with fail
  refine (n0 w2 _ r0.rd).mono ?_
  rintro e w3 ⟨rfl, hb3⟩
  have c1' := kc w3 1 _ hb3 c1
  go_wp2_with fail
  refine (n1 w3 _ (r1.rd.below hb3 (Nat.le_refl _))).mono ?_
  rintro e w4 ⟨rfl, hb4'⟩
  have hb4 := hb3.trans (hb4'.mono hb3.size)
  have c2' := kc w4 2 _ hb4 c2
  go_wp2_with fail
  refine (n2 w4 _ (r2.rd.below hb4 (Nat.le_refl _))).mono ?_
  rintro e w5 ⟨rfl, hb5'⟩
  have hb5 := hb4.trans (hb5'.mono hb4.size)
  have c3' := kc w5 3 _ hb5 c3
  go_wp2_with fail
  refine (n3 w5 _ (r3.rd.below hb5 (Nat.le_refl _))).mono ?_
  rintro e w6 ⟨rfl, hb6'⟩
  have hb6 := hb5.trans (hb6'.mono hb5.size)
  have c4' := kc w6 4 _ hb6 c4
  have hB6 := hB2.trans (hb6.mono hB2.size)
  have r4' := r4.below hb6 (Nat.le_refl _)
  clear n0 n1 n2 n3 kc c0 c1 c2 c3 c4 c1' c2' c3' hb3 hb4 hb5 hb4' hb5' hb6' r0 r1 r2 r3 r4
  obtain ⟨pv, us, hI⟩ := h
  have hI6 := hI.below hB6 (Nat.le_refl _)
  obtain ⟨x0, x1, x2, x3, xz⟩ := hI6.cells
  have hk64 := hI.k64
  have hn20 := hI.n20
  have hs32 := hI.s32
  have hws : IntKind.u64.wrap (s : Int) = (s : Int) := by rw [IntKind.wrap_u64]; omega
  have hwn : IntKind.u64.wrap (n : Int) = (n : Int) := by rw [IntKind.wrap_u64]; omega
  have hfl : (f4.length : Int) ≤ 9223372036854775807 := by omega
  go_upto_region 15 with fail
  have e1 : ((N0 : Int) != (s : Int)) = false := by simp [hq1]
  have e2 : ((N1 : Int) != (n : Int)) = false := by simp [hq2]
  have HQ12 : Hid _ := And.intro hq1 hq2
  clear hq1 hq2
  have e3 : decide ((0 : Int) < (k : Int)) = true := by simp; omega
  have e3' : (0 : Int) < (k : Int) := by omega
  have e4 : ((N2 : Int) != (k : Int)) = false := by simp [hq3]
  have HQ3 : Hid _ := hq3
  clear hq3
  have e5 : decide ((n : Int) < (f4.length : Int)) = false := by simp; omega
  have e5' : ¬ (n : Int) < (f4.length : Int) := by omega
  go_quiet (fail)
  have hB7 := below_drewN hB6 nq
  have hI7 := hI6.below (Below.dN w6 nq) (Nat.le_refl _)
  have r47 := r4'.below (Below.dN w6 nq) (Nat.le_refl _)
  have c47 : (w6.drewN nq).cell? ⟨g, 4, none⟩ = some (.slice a4 f4.length k4) := c4'
  clear x0 x1 x2 x3 xz c4' hI6 r4' hws hwn e1 e2 e5 e5' hb6 hB6
  (try clear e4)
  generalize w6.drewN nq = W7 at *
  obtain ⟨x0, x1, x2, x3, xz⟩ := hI7.cells
  obtain ⟨ao, co, epv, hc1, hc2, hcells⟩ : ∃ ao co, pv = .slice ao ps.length co ∧ ps.length ≤ co ∧ co ≤ 9223372036854775807 ∧ ∀ i u, us[i]? = some u → ∃ g', ao = some ⟨g', 0, none⟩ ∧ g' < W7.heap.size ∧ W7.cell? ⟨g', i * 2, none⟩ = some (.int .u64 (u.1 : Int)) ∧ W7.cell? ⟨g', i * 2 + 1, none⟩ = some (kpV u) := by
    rcases hI7.blk with ⟨q1, q2⟩ | ⟨g', c', q1, q2, q3, q4, q5, q6⟩
    · refine ⟨none, 0, by rw [q1, q2]; rfl, by rw [q2]; simp, by omega, fun i u e => ?_⟩
      have := (List.getElem?_eq_some_iff.1 e).1
      rw [hI7.len, q2] at this
      simp at this
    · exact ⟨_, c', q1, q2, q3, fun i u e => ⟨g', rfl, q5, (q6 i u e).1, (q6 i u e).2⟩⟩
  subst epv
  go_wp2_with fail
  go_loopw [17] (fun y wr => ∃ i : Nat, i ≤ ps.length ∧ y = .int .i64 i ∧ Hid (∀ j p, j < i → ps[j]? = some p → p.1 ≠ N3) ∧ wr = W7) (fun y _ => ps.length - (intOf y).toNat)
  case atStart => exact ⟨0, Nat.zero_le _, rfl, fun j p hj => by omega, rfl⟩
  case round =>
    obtain ⟨i, hi, rfl, HNE, rfl⟩ := hrel
    by_cases hlt : i < ps.length
    · have hlt' : (i : Int) < (ps.length : Int) := by omega
      obtain ⟨⟨pn, pp⟩, hp⟩ : ∃ p, ps[i]? = some p := ⟨_, List.getElem?_eq_getElem hlt⟩
      obtain ⟨⟨un, ua, ul, uc⟩, hu⟩ : ∃ u, us[i]? = some u := ⟨_, List.getElem?_eq_getElem (by rw [hI7.len]; exact hlt)⟩
      obtain ⟨eun, hou⟩ := hI7.el i _ _ hp hu
      obtain ⟨g', eg, hg', y0, y1⟩ := hcells i _ hu
      simp only [] at eun hou y0 y1
      subst eun
      subst eg
      unfold kpV at hou y1
      simp only [] at hou y1
      by_cases qn : un = N3
      · have qe : ((un : Int) == (N3 : Int)) = true := by simp [qn]
        have hlk2 := lkP_at (fun j p hj e => HNE.out j p hj e) (by rw [hp, qn])
        rw [hlk] at hlk2
        obtain rfl := Option.some.inj hlk2
        have QN : Hid _ := qn
        clear qn hlk2
        have hcmp := fun j => rcmp_any (hou.rd.drewN j) (r47.rd.drewN j)
        go_upto_region 21 with fail
        by_cases qc : q = f4
        · have hz : M.cmpL q f4 = 0 := (M.cmpL_iff _ _).2 qc
          rw [if_pos qc] at hX
          rw [hz] at hcmp
          subst hX
          have QC : Hid _ := qc
          clear qc hz
          go_quiet (first | (go_at_call 42; refine Calls.quiet_of (v := .int .i64 0) (hcmp _)) | fail)
          go_wp2_with fail
          go_ret
          exact HQ.out _ 0 (below_drewN hB7 _)
        · have hz : M.cmpL q f4 ≠ 0 := fun q => qc ((M.cmpL_iff _ _).1 q)
          rw [if_neg qc] at hX
          have hzb : (M.cmpL q f4 != 0) = true := by simp [hz]
          subst hX
          generalize M.cmpL q f4 = cz at *
          go_quiet (first | (go_at_call 42; refine Calls.quiet_of (v := .int .i64 cz) (hcmp _)) | fail)
          go_wp2_with fail
          go_ret
          exact HQ.out _ 140 (below_drewN hB7 _)
      · have qe : ((un : Int) == (N3 : Int)) = false := by simp; omega
        go_wp2_with fail
        refine ⟨⟨i + 1, by omega, by go_num, fun j p hj e => ?_, by trivial⟩, by simp [intOf]; omega⟩
        by_cases ej : j < i
        · exact HNE.out j p ej e
        · obtain rfl : j = i := by omega
          rw [hp] at e
          obtain rfl := Option.some.inj e
          exact qn
    · have hei : i = ps.length := by omega
      have hlk2 := lkP_no (ps := ps) (i := N3) (fun j p hj e => HNE.out j p (by omega) e)
      rw [hlk] at hlk2
      cases hlk2
end
end Go.Proofs.Ytlajncjamafomaa
