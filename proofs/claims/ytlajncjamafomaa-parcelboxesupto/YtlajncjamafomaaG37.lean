/- The document's Put : ErrParcel by its head. -/
import Derived.Test.YtlajncjamafomaaG36
namespace Go.Proofs.Ytlajncjamafomaa
open Go.RowKit Go.Maps
set_option linter.unusedVariables false
set_option maxRecDepth 100000

section
variable {T : Nat → Prop} {E x s n k : Nat} {ps : List (Nat × List UInt8)} {w w' : World}
set_option maxHeartbeats 8000000 in
theorem rput_head (h : Rb T E x s n k ps w) (hE : E ≤ w.heap.size) {v : Value} {l body f0 f1 f2 f3 f4 : List UInt8} (hr : Rd w v l) (hl : l.length ≤ 1099511627776) (hN : ps.length ≤ 1073741824) (ht1 : M.tf l = (body, [], 0)) (ht2 : M.tr body = ([f0, f1, f2, f3, f4], 0)) (hp0 : pkN f0 = true) (hp1 : pkN f1 = true) (hp2 : pkN f2 = true) (hp3 : pkN f3 = true) (hN3 : (M.tv f3).1 < (M.tv f2).1) (hbad : ¬ ((M.tv f0).1 = s ∧ (M.tv f1).1 = n) ∨ (0 < k ∧ (M.tv f2).1 ≠ k) ∨ n < f4.length) :
    Calls Try.prog 20 #[.pointer (some ⟨x, 0, none⟩), v] w (RpQ T E x s n w ((k, ps), 140)) := by
  have htf := rtframe_any hr hl
  have htl := tf_len1 l
  rw [ht1] at htf htl
  have htr := fun (W : World) (v : Value) (ho : Rd W v body) => rtakerow_any ho (by simp only [] at htl; omega)
  have htr5 : ∀ f ∈ (M.tr body).1, f.length ≤ 1099511627776 := fun f hf => by have := tr_fields body f hf; simp only [] at htl; omega
  rw [ht2] at htr htr5
  have hl0 := tv_lt f0
  have hl1 := tv_lt f1
  have hl2 := tv_lt f2
  have hl3 := tv_lt f3
  have hf4l := htr5 f4 (by simp)
  have n0 := fun (W : World) (u : Value) (hW : Rd W u f0) => rnum14_any hW (htr5 f0 (by simp))
  have n1 := fun (W : World) (u : Value) (hW : Rd W u f1) => rnum14_any hW (htr5 f1 (by simp))
  have n2 := fun (W : World) (u : Value) (hW : Rd W u f2) => rnum14_any hW (htr5 f2 (by simp))
  have n3 := fun (W : World) (u : Value) (hW : Rd W u f3) => rnum14_any hW (htr5 f3 (by simp))
  rw [hp0] at n0
  rw [hp1] at n1
  rw [hp2] at n2
  rw [hp3] at n3
  simp only [] at htf htr
  generalize (M.tv f0).1 = N0 at *
  generalize (M.tv f1).1 = N1 at *
  generalize (M.tv f2).1 = N2 at *
  generalize (M.tv f3).1 = N3 at *
  clear ht1 ht2 hp0 hp1 hp2 hp3 htl htr5
  have hN2i : ¬ (N2 : Int) < 1 := by omega
  have hN3i : ¬ (N2 : Int) ≤ (N3 : Int) := by omega
  have hQ : ∀ (W : World) (c : Nat), Below w.heap.size w W → RpQ T E x s n w ((k, ps), c) (.returned (.int .i64 (c : Int))) W := fun W c hW => ⟨rfl, h.below hW (Nat.le_refl _), (Chg.of_below hW).mono (fun b q1 q2 => absurd q1 (Nat.not_lt.2 q2))⟩
  have HQ : Hid _ := hQ
  clear hQ
  go_enter Try.func20, Try.ntmps20
  go_wp2_with fail
  refine htf.mono ?_
  rintro e w1 ⟨v1, v2, rfl, ho1, ho2, hb1⟩
  go_wp2_with fail
  refine (htr w1 v1 ho1.rd).mono ?_
  rintro e w2 ⟨v3, us3, rfl, ho3, hb2⟩
  obtain ⟨a2, d2, rfl⟩ := ho2.shape
  have hul : us3.length = 5 := ho3.len
  have hB2 : Below w.heap.size w w2 := hb1.trans (hb2.mono hb1.size)
  obtain ⟨g, cap, hv3, hgc, hg5, hg6, hcl⟩ : ∃ g cap, v3 = .slice (some ⟨g, 0, none⟩) 5 cap ∧ w1.heap.size ≤ g ∧ 5 ≤ cap ∧ cap ≤ 9223372036854775807 ∧ ∀ j u, us3[j]? = some u → w2.cell? ⟨g, j, none⟩ = some u := by
    have hrow := ho3.row
    rcases hrow.2 with ⟨_, q⟩ | ⟨g, cap, cur, q, hg, hh, q1, q2, q3, q4⟩
    · omega
    · subst q
      refine ⟨g, cap, by rw [hul], hg, by omega, by unfold maxLen at q2; omega, fun j u e => ?_⟩
      rw [hrow.cellAt j (by have := (List.getElem?_eq_some_iff.1 e).1; omega)]
      exact e
  subst hv3
  have hel : ∀ j f, [f0, f1, f2, f3, f4][j]? = some f → ∃ a c, w2.cell? ⟨g, j, none⟩ = some (.slice a f.length c) ∧ Ow w1.heap.size w2 (.slice a f.length c) f := fun j f hj => by
    have hjl := (List.getElem?_eq_some_iff.1 hj).1
    have hju : j < us3.length := by simp only [List.length_cons, List.length_nil] at hjl; omega
    have e1 : us3[j]? = some us3[j] := by simp [hju]
    have ho := ho3.el j us3[j] f e1 hj
    obtain ⟨a, c, e⟩ := ho.shape
    exact ⟨a, c, e ▸ hcl j _ e1, e ▸ ho⟩
  obtain ⟨a0, k0, c0, r0⟩ := hel 0 f0 rfl
  obtain ⟨a1, k1, c1, r1⟩ := hel 1 f1 rfl
  obtain ⟨a2', k2, c2, r2⟩ := hel 2 f2 rfl
  obtain ⟨a3, k3, c3, r3⟩ := hel 3 f3 rfl
  obtain ⟨a4, k4, c4, r4⟩ := hel 4 f4 rfl
  have kc : ∀ (W : World) (j : Nat) (u : Value), Below w2.heap.size w2 W → w2.cell? ⟨g, j, none⟩ = some u → W.cell? ⟨g, j, none⟩ = some u := fun W j u hW e => by rw [hW.cell (World.block_lt_of_cell? w2 _ e)]; exact e
  clear hel ho3 hcl htf htr ho1
  go_wp2_with fail
  refine (n0 w2 _ r0.rd).mono ?_
  rintro e w3 ⟨rfl, hb3⟩
  have c1' := kc w3 1 _ hb3 c1
  go_wp2_with fail
  refine (n1 w3 _ (r1.rd.below hb3 (Nat.le_refl _))).mono ?_
  rintro e w4 ⟨rfl, hb4'⟩
  have hb4 := hb3.trans (hb4'.mono hb3.size)
  have c2' := kc w4 2 _ hb4 c2
  go_wp2_with fail
  refine (n2 w4 _ (r2.rd.below hb4 (Nat.le_refl _))).mono ?_
  rintro e w5 ⟨rfl, hb5'⟩
  have hb5 := hb4.trans (hb5'.mono hb4.size)
  have c3' := kc w5 3 _ hb5 c3
  go_wp2_with fail
  refine (n3 w5 _ (r3.rd.below hb5 (Nat.le_refl _))).mono ?_
  rintro e w6 ⟨rfl, hb6'⟩
  have hb6 := hb5.trans (hb6'.mono hb5.size)
  have c4' := kc w6 4 _ hb6 c4
  have hB6 := hB2.trans (hb6.mono hB2.size)
  have r4' := r4.below hb6 (Nat.le_refl _)
  clear n0 n1 n2 n3 kc c0 c1 c2 c3 c4 c1' c2' c3' hb3 hb4 hb5 hb4' hb5' hb6' r0 r1 r2 r3 r4
  obtain ⟨pv, us, hI⟩ := h
  have hI6 := hI.below hB6 (Nat.le_refl _)
  obtain ⟨x0, x1, x2, x3, xz⟩ := hI6.cells
  have hk64 := hI.k64
  have hn20 := hI.n20
  have hs32 := hI.s32
  have hws : IntKind.u64.wrap (s : Int) = (s : Int) := by rw [IntKind.wrap_u64]; omega
  have hwn : IntKind.u64.wrap (n : Int) = (n : Int) := by rw [IntKind.wrap_u64]; omega
  have hfl : (f4.length : Int) ≤ 9223372036854775807 := by omega
  go_upto_region 15 with fail
  by_cases q1 : N0 = s
  · have e1 : ((N0 : Int) != (s : Int)) = false := by simp [q1]
    have Q1 : Hid _ := q1
    clear q1
    by_cases q2 : N1 = n
    · have e2 : ((N1 : Int) != (n : Int)) = false := by simp [q2]
      have Q2 : Hid _ := q2
      clear q2
      by_cases q3 : 0 < k
      · have e3 : decide ((0 : Int) < (k : Int)) = true := by simp; omega
        have e3' : (0 : Int) < (k : Int) := by omega
        by_cases q4 : N2 = k
        · have e4 : ((N2 : Int) != (k : Int)) = false := by simp [q4]
          have q5 : n < f4.length := by
            rcases hbad with q | q | q
            · exact absurd ⟨Q1.out, Q2.out⟩ q
            · exact absurd q4 q.2
            · exact q
          have Q4 : Hid _ := q4
          clear q4
          have e5 : decide ((n : Int) < (f4.length : Int)) = true := by simp; omega
          have e5' : (n : Int) < (f4.length : Int) := by omega
          go_quiet (fail)
          go_wp2_with fail
          go_ret
          exact HQ.out _ 140 (below_drewN hB6 _)
        · have e4 : ((N2 : Int) != (k : Int)) = true := by simp; omega
          go_quiet (fail)
          go_wp2_with fail
          go_ret
          exact HQ.out _ 140 (below_drewN hB6 _)
      · have e3 : decide ((0 : Int) < (k : Int)) = false := by simp; omega
        have e3' : ¬ (0 : Int) < (k : Int) := by omega
        have q5 : n < f4.length := by
          rcases hbad with q | q | q
          · exact absurd ⟨Q1.out, Q2.out⟩ q
          · exact absurd q.1 q3
          · exact q
        have e5 : decide ((n : Int) < (f4.length : Int)) = true := by simp; omega
        have e5' : (n : Int) < (f4.length : Int) := by omega
        go_quiet (fail)
        go_wp2_with fail
        go_ret
        exact HQ.out _ 140 (below_drewN hB6 _)
    · have e2 : ((N1 : Int) != (n : Int)) = true := by simp; omega
      go_quiet (fail)
      go_wp2_with fail
      go_ret
      exact HQ.out _ 140 (below_drewN hB6 _)
  · have e1 : ((N0 : Int) != (s : Int)) = true := by simp; omega
    go_quiet (fail)
    go_wp2_with fail
    go_ret
    exact HQ.out _ 140 (below_drewN hB6 _)
end
end Go.Proofs.Ytlajncjamafomaa
