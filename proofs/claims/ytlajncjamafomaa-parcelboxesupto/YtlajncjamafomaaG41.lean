/- The document's Put : the first part. -/
import Derived.Test.YtlajncjamafomaaG39
namespace Go.Proofs.Ytlajncjamafomaa
open Go.RowKit Go.Maps
set_option linter.unusedVariables false
set_option maxRecDepth 100000

section
variable {T : Nat → Prop} {E x s n k : Nat} {ps : List (Nat × List UInt8)} {w w' : World}
set_option maxHeartbeats 8000000 in
theorem rput_new0 (h : Rb T E x s n k ps w) (hE : E ≤ w.heap.size) (HTT : Hid (∀ b, w.heap.size ≤ b → T b)) {v : Value} {l body f0 f1 f2 f3 f4 : List UInt8} (hr : Rd w v l) (hl : l.length ≤ 1099511627776) (hN : ps.length ≤ 1073741824) (ht1 : M.tf l = (body, [], 0)) (ht2 : M.tr body = ([f0, f1, f2, f3, f4], 0)) (hp0 : pkN f0 = true) (hp1 : pkN f1 = true) (hp2 : pkN f2 = true) (hp3 : pkN f3 = true) (hN3 : (M.tv f3).1 < (M.tv f2).1) (hq1 : (M.tv f0).1 = s) (hq2 : (M.tv f1).1 = n) (hk0 : ¬ 0 < k) (hql : f4.length ≤ n) (hlk : lkP ps (M.tv f3).1 = none) :
    Calls Try.prog 20 #[.pointer (some ⟨x, 0, none⟩), v] w (RpQ T E x s n w (((M.tv f2).1, putP ps (M.tv f3).1 f4), 0)) := by
  have htf := rtframe_any hr hl
  have htl := tf_len1 l
  rw [ht1] at htf htl
  have htr := fun (W : World) (v : Value) (ho : Rd W v body) => rtakerow_any ho (by simp only [] at htl; omega)
  have htr5 : ∀ f ∈ (M.tr body).1, f.length ≤ 1099511627776 := fun f hf => by have := tr_fields body f hf; simp only [] at htl; omega
  rw [ht2] at htr htr5
  have hl0 := tv_lt f0
  have hl1 := tv_lt f1
  have hl2 := tv_lt f2
  have hl3 := tv_lt f3
  have hf4l := htr5 f4 (by simp)
  have n0 := fun (W : World) (u : Value) (hW : Rd W u f0) => rnum14_any hW (htr5 f0 (by simp))
  have n1 := fun (W : World) (u : Value) (hW : Rd W u f1) => rnum14_any hW (htr5 f1 (by simp))
  have n2 := fun (W : World) (u : Value) (hW : Rd W u f2) => rnum14_any hW (htr5 f2 (by simp))
  have n3 := fun (W : World) (u : Value) (hW : Rd W u f3) => rnum14_any hW (htr5 f3 (by simp))
  rw [hp0] at n0
  rw [hp1] at n1
  rw [hp2] at n2
  rw [hp3] at n3
  simp only [] at htf htr
  generalize (M.tv f0).1 = N0 at *
  generalize (M.tv f1).1 = N1 at *
  generalize (M.tv f2).1 = N2 at *
  generalize (M.tv f3).1 = N3 at *
  clear ht1 ht2 hp0 hp1 hp2 hp3 htl htr5
  have hN2i : ¬ (N2 : Int) < 1 := by omega
  have hN3i : ¬ (N2 : Int) ≤ (N3 : Int) := by omega
  have hQ : ∀ (W : World) (c : Nat), Below w.heap.size w W → RpQ T E x s n w ((k, ps), c) (.returned (.int .i64 (c : Int))) W := fun W c hW => ⟨rfl, h.below hW (Nat.le_refl _), (Chg.of_below hW).mono (fun b q1 q2 => absurd q1 (Nat.not_lt.2 q2))⟩
  have HQ : Hid _ := hQ
  clear hQ
  go_enter Try.func20, Try.ntmps20
  go_wp2_with fail
  refine htf.mono ?_
  rintro e w1 ⟨v1, v2, rfl, ho1, ho2, hb1⟩
  go_wp2_with fail
  refine (htr w1 v1 ho1.rd).mono ?_
  rintro e w2 ⟨v3, us3, rfl, ho3, hb2⟩
  obtain ⟨a2, d2, rfl⟩ := ho2.shape
  have hul : us3.length = 5 := ho3.len
  have hB2 : Below w.heap.size w w2 := hb1.trans (hb2.mono hb1.size)
  obtain ⟨g, cap, hv3, hgc, hg5, hg6, hcl⟩ : ∃ g cap, v3 = .slice (some ⟨g, 0, none⟩) 5 cap ∧ w1.heap.size ≤ g ∧ 5 ≤ cap ∧ cap ≤ 9223372036854775807 ∧ ∀ j u, us3[j]? = some u → w2.cell? ⟨g, j, none⟩ = some u := by
    have hrow := ho3.row
    rcases hrow.2 with ⟨_, q⟩ | ⟨g, cap, cur, q, hg, hh, q1, q2, q3, q4⟩
    · omega
    · subst q
      refine ⟨g, cap, by rw [hul], hg, by omega, by unfold maxLen at q2; omega, fun j u e => ?_⟩
      rw [hrow.cellAt j (by have := (List.getElem?_eq_some_iff.1 e).1; omega)]
      exact e
  subst hv3
  have hel : ∀ j f, [f0, f1, f2, f3, f4][j]? = some f → ∃ a c, w2.cell? ⟨g, j, none⟩ = some (.slice a f.length c) ∧ Ow w1.heap.size w2 (.slice a f.length c) f := fun j f hj => by
    have hjl := (List.getElem?_eq_some_iff.1 hj).1
    have hju : j < us3.length := by simp only [List.length_cons, List.length_nil] at hjl; omega
    have e1 : us3[j]? = some us3[j] := by simp [hju]
    have ho := ho3.el j us3[j] f e1 hj
    obtain ⟨a, c, e⟩ := ho.shape
    exact ⟨a, c, e ▸ hcl j _ e1, e ▸ ho⟩
  obtain ⟨a0, k0, c0, r0⟩ := hel 0 f0 rfl
  obtain ⟨a1, k1, c1, r1⟩ := hel 1 f1 rfl
  obtain ⟨a2', k2, c2, r2⟩ := hel 2 f2 rfl
  obtain ⟨a3, k3, c3, r3⟩ := hel 3 f3 rfl
  obtain ⟨a4, k4, c4, r4⟩ := hel 4 f4 rfl
  have kc : ∀ (W : World) (j : Nat) (u : Value), Below w2.heap.size w2 W → w2.cell? ⟨g, j, none⟩ = some u → W.cell? ⟨g, j, none⟩ = some u := fun W j u hW e => by rw [hW.cell (World.block_lt_of_cell? w2 _ e)]; exact e
  clear hel ho3 hcl htf htr ho1
  go_wp2_with fail
  refine (n0 w2 _ r0.rd).mono ?_
  rintro e w3 ⟨rfl, hb3⟩
  have c1' := kc w3 1 _ hb3 c1
  go_wp2_with fail
  refine (n1 w3 _ (r1.rd.below hb3 (Nat.le_refl _))).mono ?_
  rintro e w4 ⟨rfl, hb4'⟩
  have hb4 := hb3.trans (hb4'.mono hb3.size)
  have c2' := kc w4 2 _ hb4 c2
  go_wp2_with fail
  refine (n2 w4 _ (r2.rd.below hb4 (Nat.le_refl _))).mono ?_
  rintro e w5 ⟨rfl, hb5'⟩
  have hb5 := hb4.trans (hb5'.mono hb4.size)
  have c3' := kc w5 3 _ hb5 c3
  go_wp2_with fail
  refine (n3 w5 _ (r3.rd.below hb5 (Nat.le_refl _))).mono ?_
  rintro e w6 ⟨rfl, hb6'⟩
  have hb6 := hb5.trans (hb6'.mono hb5.size)
  have c4' := kc w6 4 _ hb6 c4
  have hB6 := hB2.trans (hb6.mono hB2.size)
  have r4' := r4.below hb6 (Nat.le_refl _)
  clear n0 n1 n2 n3 kc c0 c1 c2 c3 c4 c1' c2' c3' hb3 hb4 hb5 hb4' hb5' hb6' r0 r1 r2 r3 r4
  obtain ⟨pv, us, hI⟩ := h
  have hI6 := hI.below hB6 (Nat.le_refl _)
  obtain ⟨x0, x1, x2, x3, xz⟩ := hI6.cells
  have hk64 := hI.k64
  have hn20 := hI.n20
  have hs32 := hI.s32
  have hws : IntKind.u64.wrap (s : Int) = (s : Int) := by rw [IntKind.wrap_u64]; omega
  have hwn : IntKind.u64.wrap (n : Int) = (n : Int) := by rw [IntKind.wrap_u64]; omega
  have hfl : (f4.length : Int) ≤ 9223372036854775807 := by omega
  go_upto_region 15 with fail
  have e1 : ((N0 : Int) != (s : Int)) = false := by simp [hq1]
  have e2 : ((N1 : Int) != (n : Int)) = false := by simp [hq2]
  have HQ12 : Hid _ := And.intro hq1 hq2
  clear hq1 hq2
  have e3 : decide ((0 : Int) < (k : Int)) = false := by simp; omega
  have e3' : ¬ (0 : Int) < (k : Int) := by omega
  have HQ3 : Hid _ := hk0
  have e5 : decide ((n : Int) < (f4.length : Int)) = false := by simp; omega
  have e5' : ¬ (n : Int) < (f4.length : Int) := by omega
  go_quiet (fail)
  have hB7 := below_drewN hB6 nq
  have hI7 := hI6.below (Below.dN w6 nq) (Nat.le_refl _)
  have r47 := r4'.below (Below.dN w6 nq) (Nat.le_refl _)
  have c47 : (w6.drewN nq).cell? ⟨g, 4, none⟩ = some (.slice a4 f4.length k4) := c4'
  clear x0 x1 x2 x3 xz c4' hI6 r4' hws hwn e1 e2 e5 e5' hb6 hB6
  (try clear e4)
  generalize w6.drewN nq = W7 at *
  obtain ⟨x0, x1, x2, x3, xz⟩ := hI7.cells
  obtain ⟨ao, co, epv, hc1, hc2, hcells⟩ : ∃ ao co, pv = .slice ao ps.length co ∧ ps.length ≤ co ∧ co ≤ 9223372036854775807 ∧ ∀ i u, us[i]? = some u → ∃ g', ao = some ⟨g', 0, none⟩ ∧ g' < W7.heap.size ∧ W7.cell? ⟨g', i * 2, none⟩ = some (.int .u64 (u.1 : Int)) ∧ W7.cell? ⟨g', i * 2 + 1, none⟩ = some (kpV u) := by
    rcases hI7.blk with ⟨q1, q2⟩ | ⟨g', c', q1, q2, q3, q4, q5, q6⟩
    · refine ⟨none, 0, by rw [q1, q2]; rfl, by rw [q2]; simp, by omega, fun i u e => ?_⟩
      have := (List.getElem?_eq_some_iff.1 e).1
      rw [hI7.len, q2] at this
      simp at this
    · exact ⟨_, c', q1, q2, q3, fun i u e => ⟨g', rfl, q5, (q6 i u e).1, (q6 i u e).2⟩⟩
  subst epv
  have hxg : x ≠ g := by
    have := hI.lt
    have := hb1.size
    omega
  go_wp2_with fail
  go_loopw [17] (fun y wr => ∃ i : Nat, i ≤ ps.length ∧ y = .int .i64 i ∧ wr = W7) (fun y _ => ps.length - (intOf y).toNat)
  case atStart => exact ⟨0, Nat.zero_le _, rfl, rfl⟩
  case round =>
    obtain ⟨i, hi, rfl, hwr⟩ := hrel
    have hwr' := hwr.symm
    subst hwr'
    by_cases hlt : i < ps.length
    · have hlt' : (i : Int) < (ps.length : Int) := by omega
      obtain ⟨⟨pn, pp⟩, hp⟩ : ∃ p, ps[i]? = some p := ⟨_, List.getElem?_eq_getElem hlt⟩
      obtain ⟨⟨un, ua, ul, uc⟩, hu⟩ : ∃ u, us[i]? = some u := ⟨_, List.getElem?_eq_getElem (by rw [hI7.len]; exact hlt)⟩
      obtain ⟨eun, hou⟩ := hI7.el i _ _ hp hu
      obtain ⟨g', eg, hg', y0, y1⟩ := hcells i _ hu
      simp only [] at eun hou y0 y1
      subst eun
      subst eg
      have qn : un ≠ N3 := fun q => by
        have := lkP_of_mem hI7.rs (List.mem_of_getElem? hp)
        rw [q, hlk] at this
        cases this
      have qe : ((un : Int) == (N3 : Int)) = false := by simp; omega
      go_wp2_with fail
      exact ⟨⟨i + 1, by omega, by go_num, by trivial⟩, by simp [intOf]; omega⟩
    · have hlt' : ¬ (i : Int) < (ps.length : Int) := by omega
      have hI8 := hI7.setK (k' := N2) (fun y hy => by have := (hI7.kb y hy).1; have := HQ3.out; omega) (by omega)
      obtain ⟨hI8, hc8⟩ := hI8
      have r48 : Ow w1.heap.size (W7.setCell ⟨x, 2, none⟩ (.int .u64 (N2 : Int))) (.slice a4 f4.length k4) f4 := r47.keptC hc8 (fun b e q => ow_ne r47 hI7.cell (by decide) b e q)
      have c48 : (W7.setCell ⟨x, 2, none⟩ (.int .u64 (N2 : Int))).cell? ⟨g, 4, none⟩ = some (.slice a4 f4.length k4) := by
        rw [World.cell?_setCell_other _ _ _ _ (by intro e; have := congrArg Addr.block e; simp only [] at this; omega)]
        exact c47
      have hbx8 : Chg (fun b => b = x) w (W7.setCell ⟨x, 2, none⟩ (.int .u64 (N2 : Int))) := ((Chg.of_below hB7).mono (fun b q1 q2 => absurd q1 (Nat.not_lt.2 q2))).trans (hc8.mono (fun b _ q => .inl q))
      have xz2 := xz 2
      have hrd8 := hI8.row.rd
      have HI8 : Hid _ := And.intro hI8 (And.intro r48 hbx8)
      clear hI8 r48 hbx8 hc8 x0 x1
      go_wp2_with fail
      obtain ⟨hI8, r48, hbx8⟩ := HI8.out
      generalize W7.setCell ⟨x, 2, none⟩ (.int .u64 (N2 : Int)) = W8 at *
      obtain ⟨x0, x1, x2', x3', xz'⟩ := hI8.cells
      have xz3 := xz' 3
      have hcells8 : ∀ i u, us[i]? = some u → ∃ g', ao = some ⟨g', 0, none⟩ ∧ W8.cell? ⟨g', i * 2, none⟩ = some (.int .u64 (u.1 : Int)) := fun i u e => by
        rcases hI8.blk with ⟨q1, q2⟩ | ⟨g', c', q1, q2, q3, q4, q5, q6⟩
        · have := (List.getElem?_eq_some_iff.1 e).1
          rw [hI8.len, q2] at this
          simp at this
        · simp only [Value.slice.injEq] at q1
          exact ⟨g', q1.1, (q6 i u e).1⟩
      clear hcells hI7 x3 x2 xz r47 c47 hB7
      go_loopw [19] (fun y wr => ∃ i : Nat, i ≤ ps.length ∧ y = .int .i64 i ∧ Hid (∀ j p, j < i → ps[j]? = some p → p.1 < N3) ∧ wr = W8) (fun y _ => ps.length - (intOf y).toNat)
      case atStart => exact ⟨0, Nat.zero_le _, rfl, fun j p hj => by omega, rfl⟩
      case round =>
        obtain ⟨kp, hkp, rfl, HLE, hwr⟩ := hrel
        have hwr' := hwr.symm
        subst hwr'
        by_cases hstop : ∃ p, ps[kp]? = some p ∧ p.1 < N3
        · obtain ⟨⟨pn, pp⟩, hp, hpl⟩ := hstop
          have hlt2 := (List.getElem?_eq_some_iff.1 hp).1
          have hlt2' : (kp : Int) < (ps.length : Int) := by omega
          obtain ⟨⟨un, ua, ul, uc⟩, hu⟩ : ∃ u, us[kp]? = some u := ⟨_, List.getElem?_eq_getElem (by rw [hI8.len]; exact hlt2)⟩
          obtain ⟨eun, hou⟩ := hI8.el kp _ _ hp hu
          obtain ⟨g', eg, y0⟩ := hcells8 kp _ hu
          simp only [] at eun hou y0 hpl
          subst eun
          subst eg
          have qe : decide ((un : Int) < (N3 : Int)) = true := by simp; omega
          have qe' : (un : Int) < (N3 : Int) := by omega
          go_wp2_with fail
          refine ⟨⟨kp + 1, by omega, by go_num, fun j p hj e => ?_, by trivial⟩, by simp [intOf]; omega⟩
          by_cases ej : j < kp
          · exact HLE.out j p ej e
          · obtain rfl : j = kp := by omega
            rw [hp] at e
            obtain rfl := Option.some.inj e
            exact hpl
        · have HST : Hid (∀ y, ps[kp]? = some y → ¬ y.1 < N3) := fun y e q => hstop ⟨y, e, q⟩
          have hul := hI8.len
          have hpre := hrd8.pre kp (by omega)
          have hlu : us.length ≤ 1073741824 := by omega
          have H9 : Hid (∀ w9 : World, W8.grownBy w9 none → Below W8.heap.size W8 w9 ∧ w9.cell? ⟨g, 4, none⟩ = some (.slice a4 f4.length k4) ∧ w9.cell? ⟨x, 3, none⟩ = some (.slice ao ps.length co)) := fun w9 hg => by
            have hb : Below W8.heap.size W8 w9 := ⟨hg.os, hg.tape, hg.output, hg.size, fun b hb => hg.block b hb (by simp)⟩
            exact ⟨hb, by rw [hb.cell (World.block_lt_of_cell? W8 _ c48)]; exact c48, by rw [hb.cell (World.block_lt_of_cell? W8 _ x3')]; exact x3'⟩
          have H10 : Hid (∀ (v9 : Value) (w9 w10 : World), OwK W8.heap.size w9 v9 (us.take kp) → Below W8.heap.size W8 w9 → (w9.alloc (.cells #[.int .u64 (N3 : Int), .slice a4 f4.length k4] 89)).grownBy w10 v9.ownBlock → Below W8.heap.size W8 w10 ∧ w10.cell? ⟨x, 3, none⟩ = some (.slice ao ps.length co) ∧ RdK w10 (.slice ao ps.length co) us ∧ W8.heap.size ≤ w10.heap.size) := fun v9 w9 w10 ho9 hb9 hg => by
            have hs9 := hb9.size
            have hb : Below W8.heap.size (w9.alloc (.cells #[.int .u64 (N3 : Int), .slice a4 f4.length k4] 89)) w10 := (Below.refl _ _).grown hg (by simp; omega) (fun q hq => (ho9.lt q hq).1)
            have hbb := (hb9.alloc hs9 (.cells #[.int .u64 (N3 : Int), .slice a4 f4.length k4] 89)).trans hb
            exact ⟨hbb, by rw [hbb.cell (World.block_lt_of_cell? W8 _ x3')]; exact x3', hrd8.below hbb (Nat.le_refl _), hbb.size⟩
          have H11 : Hid (∀ (v10 : Value) (w10 : World) (v11 : Value) (w11 : World), OwK W8.heap.size w10 v10 (us.take kp ++ [(N3, a4, f4.length, k4)]) → Below W8.heap.size W8 w10 → w10.grownBy w11 v10.ownBlock → OwK W8.heap.size w11 v11 (us.take kp ++ [(N3, a4, f4.length, k4)] ++ us.drop kp) → w11.cell? ⟨x, 3, none⟩ = some (.slice ao ps.length co) ∧ w11.frozen? ⟨x, 3, none⟩ = false ∧ RpQ T E x s n w ((N2, putP ps N3 f4), 0) (.returned (.int .i64 0)) (w11.setCell ⟨x, 3, none⟩ v11)) := fun v10 w10 v11 w11 ho10 hb10 hg ho11 => by
            have hb : Below W8.heap.size w10 w11 := (Below.refl _ _).grown hg hb10.size (fun q hq => (ho10.lt q hq).1)
            have hbb := hb10.trans hb
            have hI11 := hI8.below hbb (Nat.le_refl _)
            obtain ⟨_, _, _, y3, yz⟩ := hI11.cells
            have hs8 := hbx8.size
            have hs1 := hb1.size
            obtain ⟨hres, hch⟩ := hI11.setP hkp HLE.out HST.out hlk hN3 (by omega) ((r48.below hbb (Nat.le_refl _)).mono (by omega)) (ho11.mono (by omega)) (fun b e => HTT.out b (by have := (World.ownsRow.lt r48 b e).1; omega))
            exact ⟨y3, yz 3, rfl, hres, (hbx8.trans ((Chg.of_below hbb).mono (fun b q1 q2 => .inr (by omega)))).trans (hch.mono (fun b _ q => .inl q))⟩
          by_cases hlt2 : kp < ps.length
          · have hlt2' : (kp : Int) < (ps.length : Int) := by omega
            obtain ⟨⟨pn, pp⟩, hp⟩ : ∃ p, ps[kp]? = some p := ⟨_, List.getElem?_eq_getElem hlt2⟩
            obtain ⟨⟨un, ua, ul, uc⟩, hu⟩ : ∃ u, us[kp]? = some u := ⟨_, List.getElem?_eq_getElem (by rw [hI8.len]; exact hlt2)⟩
            obtain ⟨eun, hou⟩ := hI8.el kp _ _ hp hu
            obtain ⟨g', eg, y0⟩ := hcells8 kp _ hu
            have hpl : ¬ pn < N3 := fun q => hstop ⟨_, hp, q⟩
            simp only [] at eun hou y0
            subst eun
            subst eg
            have qe : decide ((un : Int) < (N3 : Int)) = false := by simp; omega
            have qe' : ¬ (un : Int) < (N3 : Int) := by omega
            have hck : ¬ co = kp := by omega
            have hkc : (kp : Int) ≤ (co : Int) := by omega
            have hkl : (kp : Int) ≤ (ps.length : Int) := by omega
            clear hstop hp hu hou
            go_wp2_with (first
              | (at_builtin; refine wpList_appK rfl _ _ rfl W8.heap.size _ [] rfl (OwK.nil _ _) _ (us.take kp) rfl hpre (Nat.le_refl _) (by simp; omega) ?_; intro v9 w9 ho9 hg9 hv9; obtain ⟨hb9, y39, x39⟩ := H9.out w9 hg9; have hone := rdK_one w9 N3 a4 f4.length k4 89 _ rfl; have hB9 : W8.heap.size ≤ (w9.alloc (.cells #[.int .u64 (N3 : Int), .slice a4 f4.length k4] 89)).heap.size := by have := hb9.size; simp; omega)
              | (at_builtin; refine wpList_appK rfl _ _ rfl W8.heap.size _ (us.take kp) rfl (World.ownsRow.alloc ho9 _) _ [(N3, a4, f4.length, k4)] rfl hone hB9 (by simp; omega) ?_; intro v10 w10 ho10 hg10 hv10; obtain ⟨hb10, x310, hpost10, hB10⟩ := H10.out v9 w9 w10 ho9 hb9 hg10)
              | (at_builtin; refine wpList_appK rfl _ _ rfl W8.heap.size _ (us.take kp ++ [(N3, a4, f4.length, k4)]) rfl ho10 _ (us.drop kp) rfl ((hpost10.post kp (by omega) _ ⟨fun _ => trivial, fun _ => rfl⟩ : RdK w10 (.slice (some ⟨g', kp * 2, none⟩) (ps.length - kp) (co - kp)) (us.drop kp))) hB10 (by simp; omega) ?_; intro v11 w11 ho11 hg11 hv11; obtain ⟨x311, z311, hfin⟩ := H11.out v10 w10 v11 w11 ho10 hb10 hg11 ho11; obtain ⟨a11, n11, c11, e11⟩ : ∃ a n c, v11 = .slice a n c := (by obtain ⟨a, c, e, _⟩ := ho11.rd.shape; exact ⟨_, _, _, e⟩); subst e11)
              | fail)
            go_ret
            exact hfin
          · have hlt2' : ¬ (kp : Int) < (ps.length : Int) := by omega
            obtain rfl : kp = ps.length := by omega
            have hdr : us.drop ps.length = [] := List.drop_eq_nil_of_le (by omega)
            have hkc : (ps.length : Int) ≤ (co : Int) := by omega
            clear hstop
            cases ao with
            | none =>
              have hco : co = 0 := by
                obtain ⟨_, c', q, _, _, q3, _⟩ := hrd8
                simp only [Value.slice.injEq] at q
                rw [q.2.2]
                exact q3 q.1.symm
              have hps0 : ps.length = 0 := by omega
              obtain rfl : ps = [] := List.length_eq_zero_iff.1 hps0
              have hu0 : us.length = 0 := hul
              obtain rfl : us = [] := List.length_eq_zero_iff.1 hu0
              subst hco
              simp only [List.length_nil, List.take_nil, List.drop_nil, List.nil_append, List.append_nil] at *
              go_wp2_with (first
                | (at_builtin; refine wpList_appK rfl _ _ rfl W8.heap.size _ [] rfl (OwK.nil _ _) _ [] rfl (RdK.nil _) (Nat.le_refl _) (by simp) ?_; intro v9 w9 ho9 hg9 hv9; obtain ⟨hb9, y39, x39⟩ := H9.out w9 hg9; have hone := rdK_one w9 N3 a4 f4.length k4 89 _ rfl; have hB9 : W8.heap.size ≤ (w9.alloc (.cells #[.int .u64 (N3 : Int), .slice a4 f4.length k4] 89)).heap.size := by have := hb9.size; simp; omega)
                | (at_builtin; refine wpList_appK rfl _ _ rfl W8.heap.size _ [] rfl (World.ownsRow.alloc ho9 _) _ [(N3, a4, f4.length, k4)] rfl hone hB9 (by simp) ?_; intro v10 w10 ho10 hg10 hv10; obtain ⟨hb10, x310, hpost10, hB10⟩ := H10.out v9 w9 w10 ho9 hb9 hg10)
                | (at_builtin; refine wpList_appK rfl _ _ rfl W8.heap.size _ [(N3, a4, f4.length, k4)] rfl ho10 _ [] rfl (RdK.nil _) hB10 (by simp) ?_; intro v11 w11 ho11 hg11 hv11; obtain ⟨x311, z311, hfin⟩ := H11.out v10 w10 v11 w11 ho10 hb10 hg11 ho11; obtain ⟨a11, n11, c11, e11⟩ : ∃ a n c, v11 = .slice a n c := (by obtain ⟨a, c, e, _⟩ := ho11.rd.shape; exact ⟨_, _, _, e⟩); subst e11)
                | fail)
              go_ret
              exact hfin
            | some aa =>
              have hfz : (ps.length : Int) ≤ (ps.length : Int) := Int.le_refl _
              by_cases hck : co = ps.length
              · subst hck
                go_wp2_with (first
                  | (at_builtin; refine wpList_appK rfl _ _ rfl W8.heap.size _ [] rfl (OwK.nil _ _) _ (us.take ps.length) rfl hpre (Nat.le_refl _) (by simp; omega) ?_; intro v9 w9 ho9 hg9 hv9; obtain ⟨hb9, y39, x39⟩ := H9.out w9 hg9; have hone := rdK_one w9 N3 a4 f4.length k4 89 _ rfl; have hB9 : W8.heap.size ≤ (w9.alloc (.cells #[.int .u64 (N3 : Int), .slice a4 f4.length k4] 89)).heap.size := by have := hb9.size; simp; omega)
                  | (at_builtin; refine wpList_appK rfl _ _ rfl W8.heap.size _ (us.take ps.length) rfl (World.ownsRow.alloc ho9 _) _ [(N3, a4, f4.length, k4)] rfl hone hB9 (by simp; omega) ?_; intro v10 w10 ho10 hg10 hv10; obtain ⟨hb10, x310, hpost10, hB10⟩ := H10.out v9 w9 w10 ho9 hb9 hg10)
                  | (at_builtin; refine wpList_appK rfl _ _ rfl W8.heap.size _ (us.take ps.length ++ [(N3, a4, f4.length, k4)]) rfl ho10 _ (us.drop ps.length) rfl (rdK_emp hdr (by first | rfl | omega) (by unfold maxLen; omega)) hB10 (by simp; omega) ?_; intro v11 w11 ho11 hg11 hv11; obtain ⟨x311, z311, hfin⟩ := H11.out v10 w10 v11 w11 ho10 hb10 hg11 ho11; obtain ⟨a11, n11, c11, e11⟩ : ∃ a n c, v11 = .slice a n c := (by obtain ⟨a, c, e, _⟩ := ho11.rd.shape; exact ⟨_, _, _, e⟩); subst e11)
                  | fail)
                go_ret
                exact hfin
              · have hck2 : ps.length < co := by omega
                go_wp2_with (first
                  | (at_builtin; refine wpList_appK rfl _ _ rfl W8.heap.size _ [] rfl (OwK.nil _ _) _ (us.take ps.length) rfl hpre (Nat.le_refl _) (by simp; omega) ?_; intro v9 w9 ho9 hg9 hv9; obtain ⟨hb9, y39, x39⟩ := H9.out w9 hg9; have hone := rdK_one w9 N3 a4 f4.length k4 89 _ rfl; have hB9 : W8.heap.size ≤ (w9.alloc (.cells #[.int .u64 (N3 : Int), .slice a4 f4.length k4] 89)).heap.size := by have := hb9.size; simp; omega)
                  | (at_builtin; refine wpList_appK rfl _ _ rfl W8.heap.size _ (us.take ps.length) rfl (World.ownsRow.alloc ho9 _) _ [(N3, a4, f4.length, k4)] rfl hone hB9 (by simp; omega) ?_; intro v10 w10 ho10 hg10 hv10; obtain ⟨hb10, x310, hpost10, hB10⟩ := H10.out v9 w9 w10 ho9 hb9 hg10)
                  | (at_builtin; refine wpList_appK rfl _ _ rfl W8.heap.size _ (us.take ps.length ++ [(N3, a4, f4.length, k4)]) rfl ho10 _ (us.drop ps.length) rfl (rdK_emp hdr (by first | rfl | omega) (by unfold maxLen; omega)) hB10 (by simp; omega) ?_; intro v11 w11 ho11 hg11 hv11; obtain ⟨x311, z311, hfin⟩ := H11.out v10 w10 v11 w11 ho10 hb10 hg11 ho11; obtain ⟨a11, n11, c11, e11⟩ : ∃ a n c, v11 = .slice a n c := (by obtain ⟨a, c, e, _⟩ := ho11.rd.shape; exact ⟨_, _, _, e⟩); subst e11)
                  | fail)
                go_ret
                exact hfin
end
end Go.Proofs.Ytlajncjamafomaa
