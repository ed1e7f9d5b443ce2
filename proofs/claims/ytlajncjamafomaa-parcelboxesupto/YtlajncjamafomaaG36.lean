/- The document's Put. -/
import Derived.Test.YtlajncjamafomaaG33
import Derived.Test.YtlajncjamafomaaG16
import Derived.Test.YtlajncjamafomaaG15
import Derived.Test.YtlajncjamafomaaG21
import Derived.Test.YtlajncjamafomaaG10
import Derived.Deep.CutRange
namespace Go.Proofs.Ytlajncjamafomaa
open Go.RowKit Go.Maps
set_option linter.unusedVariables false
set_option maxRecDepth 100000

section
variable {T : Nat → Prop} {E x s n k : Nat} {ps : List (Nat × List UInt8)} {w w' : World}
/-- What the document's Put answers and leaves. -/
def RpQ (T : Nat → Prop) (E x s n : Nat) (w : World) (X : (Nat × List (Nat × List UInt8)) × Nat) (e : Ending) (w' : World) : Prop :=
  e = .returned (.int .i64 (X.2 : Int)) ∧ Rb T E x s n X.1.1 X.1.2 w' ∧ Chg (fun b => b = x) w w'
theorem tf_len1 (l : List UInt8) : (M.tf l).1.length ≤ l.length := by
  by_cases h : (M.tf l).2.2 = 0
  · have := congrArg List.length (M.tf_form l h)
    simp only [List.length_append, M.frame] at this
    omega
  · rcases tf_cases l with ⟨_, q⟩ | ⟨_, _, q⟩ | ⟨q1, q2, q⟩
    · rw [q]; simp
    · rw [q]; simp
    · rw [q] at h ⊢
      split at h
      · rw [if_pos (by assumption)]; simp
      · rename_i q3
        rw [if_neg q3]
        split at h
        · rw [if_pos (by assumption)]; simp
        · exact absurd rfl h
theorem tr_fields (body : List UInt8) : ∀ f ∈ (M.tr body).1, f.length ≤ body.length := by
  intro f hf
  by_cases h : (M.tr body).2 = 0
  · have h1 := M.tr_form body h
    have h2 : f.length ≤ (M.rowB (M.tr body).1).length := by
      obtain ⟨i, hi, rfl⟩ := List.getElem_of_mem hf
      have := M.rowB_field (M.tr body).1 i hi
      omega
    have h3 := congrArg List.length h1
    simp only [M.row, List.length_append] at h3
    omega
  · have : (M.tr body).1 = [] := by
      unfold M.tr at h ⊢
      repeat' split
      all_goals first | rfl | (exfalso; apply h; simp_all)
    rw [this] at hf
    cases hf

set_option maxHeartbeats 8000000 in
theorem rput_bad (h : Rb T E x s n k ps w) (hE : E ≤ w.heap.size) {v : Value} {l : List UInt8} (hr : Rd w v l) (hl : l.length ≤ 1099511627776) (hN : ps.length ≤ 1073741824) (hbad0 : (pkR l).2 ≠ 0) :
    Calls Try.prog 20 #[.pointer (some ⟨x, 0, none⟩), v] w (RpQ T E x s n w ((k, ps), (pkR l).2)) := by
  have htf := rtframe_any hr hl
  have htl := tf_len1 l
  have hlt := pkR_lt l
  generalize hRR : pkR l = R at hbad0 hlt ⊢
  unfold pkR at hRR
  generalize M.tf l = F at *
  obtain ⟨body, beh, fe⟩ := F
  simp only [] at *
  have quit : ∀ (W : World) (c : Nat), Below w.heap.size w W → RpQ T E x s n w ((k, ps), c) (.returned (.int .i64 (c : Int))) W := fun W c hW => ⟨rfl, h.below hW (Nat.le_refl _), (Chg.of_below hW).mono (fun b q1 q2 => absurd q1 (Nat.not_lt.2 q2))⟩
  by_cases hfe : fe ≠ 0
  · rw [if_pos hfe] at hRR
    subst hRR
    have hne : (((fe : Nat) : Int) != 0) = true := by simp; omega
    go_enter Try.func20, Try.ntmps20
    go_wp2_with fail
    refine htf.mono ?_
    rintro e w1 ⟨v1, v2, rfl, ho1, ho2, hb1⟩
    go_wp2_with fail
    go_ret
    exact quit _ _ hb1
  · rw [if_neg hfe] at hRR
    obtain rfl : fe = 0 := by omega
    clear hfe
    have htr := fun (W : World) (v : Value) (ho : Rd W v body) => rtakerow_any ho (by omega)
    have htr5 : ∀ f ∈ (M.tr body).1, f.length ≤ 1099511627776 := fun f hf => by have := tr_fields body f hf; omega
    generalize M.tr body = G at *
    obtain ⟨fs, ge⟩ := G
    simp only [] at *
    by_cases hge : ge ≠ 0
    · rw [if_pos hge] at hRR
      subst hRR
      have hne : (((ge : Nat) : Int) != 0) = true := by simp; omega
      go_enter Try.func20, Try.ntmps20
      go_wp2_with fail
      refine htf.mono ?_
      rintro e w1 ⟨v1, v2, rfl, ho1, ho2, hb1⟩
      go_wp2_with fail
      refine (htr w1 v1 ho1.rd).mono ?_
      rintro e w2 ⟨v3, us3, rfl, ho3, hb2⟩
      go_wp2_with fail
      go_ret
      exact quit _ _ (hb1.trans (hb2.mono hb1.size))
    · rw [if_neg hge] at hRR
      obtain rfl : ge = 0 := by omega
      clear hge
      by_cases hbe : 0 < beh.length
      · rw [if_pos hbe] at hRR
        subst hRR
        have hbi : (0 : Int) < (beh.length : Int) := by omega
        go_enter Try.func20, Try.ntmps20
        go_wp2_with fail
        refine htf.mono ?_
        rintro e w1 ⟨v1, v2, rfl, ho1, ho2, hb1⟩
        go_wp2_with fail
        refine (htr w1 v1 ho1.rd).mono ?_
        rintro e w2 ⟨v3, us3, rfl, ho3, hb2⟩
        obtain ⟨a2, d2, rfl⟩ := ho2.shape
        go_wp2_with fail
        go_ret
        exact quit _ 12 (hb1.trans (hb2.mono hb1.size))
      · rw [if_neg hbe] at hRR
        have hbi : ¬ (0 : Int) < (beh.length : Int) := by omega
        by_cases h5 : fs.length ≠ 5
        · have hR' : R = (pk0, 12) := by rw [← hRR]; unfold pkF; rw [if_pos h5]
          subst hR'
          clear hRR
          have hni : (((fs.length : Nat) : Int) != 5) = true := by simp; omega
          have H5 : Hid _ := h5
          clear h5
          go_enter Try.func20, Try.ntmps20
          go_wp2_with fail
          refine htf.mono ?_
          rintro e w1 ⟨v1, v2, rfl, ho1, ho2, hb1⟩
          go_wp2_with fail
          refine (htr w1 v1 ho1.rd).mono ?_
          rintro e w2 ⟨v3, us3, rfl, ho3, hb2⟩
          obtain ⟨a2, d2, rfl⟩ := ho2.shape
          obtain ⟨a3, d3, rfl, _⟩ := ho3.rds
          go_wp2_with fail
          go_ret
          exact quit _ 12 (hb1.trans (hb2.mono hb1.size))
        · have h5' : fs.length = 5 := by omega
          go_enter Try.func20, Try.ntmps20
          go_wp2_with fail
          refine htf.mono ?_
          rintro e w1 ⟨v1, v2, rfl, ho1, ho2, hb1⟩
          go_wp2_with fail
          refine (htr w1 v1 ho1.rd).mono ?_
          rintro e w2 ⟨v3, us3, rfl, ho3, hb2⟩
          obtain ⟨a2, d2, rfl⟩ := ho2.shape
          have hul : us3.length = 5 := by rw [ho3.len]; exact h5'
          have hB2 : Below w.heap.size w w2 := hb1.trans (hb2.mono hb1.size)
          obtain ⟨g, cap, hv3, hgc, hg5, hg6, hcl⟩ : ∃ g cap, v3 = .slice (some ⟨g, 0, none⟩) 5 cap ∧ w1.heap.size ≤ g ∧ 5 ≤ cap ∧ cap ≤ 9223372036854775807 ∧ ∀ j u, us3[j]? = some u → w2.cell? ⟨g, j, none⟩ = some u := by
            have hrow := ho3.row
            rcases hrow.2 with ⟨_, q⟩ | ⟨g, cap, cur, q, hg, hh, q1, q2, q3, q4⟩
            · omega
            · subst q
              refine ⟨g, cap, by rw [hul], hg, by omega, by unfold maxLen at q2; omega, fun j u e => ?_⟩
              rw [hrow.cellAt j (by have := (List.getElem?_eq_some_iff.1 e).1; omega)]
              exact e
          subst hv3
          have hel : ∀ j, j < 5 → ∃ a c, w2.cell? ⟨g, j, none⟩ = some (.slice a (fs.getD j []).length c) ∧ Ow w1.heap.size w2 (.slice a (fs.getD j []).length c) (fs.getD j []) ∧ (fs.getD j []).length ≤ 1099511627776 := fun j hj => by
            have hju : j < us3.length := by omega
            have hjf : j < fs.length := by omega
            have e1 : us3[j]? = some us3[j] := by simp [hju]
            have ho := ho3.el j us3[j] (fs.getD j []) e1 (by simp [hjf])
            obtain ⟨a, c, e⟩ := ho.shape
            have hm : fs.getD j [] ∈ fs := by
              have e : fs.getD j [] = fs[j] := by simp [hjf]
              rw [e]; exact List.getElem_mem hjf
            exact ⟨a, c, e ▸ hcl j _ e1, e ▸ ho, htr5 _ hm⟩
          have hnums : ∀ j, j < 4 → True := fun _ _ => trivial
          have hpF : R = if (pkN (fs.getD 0 []) && pkN (fs.getD 1 []) && pkN (fs.getD 2 []) && pkN (fs.getD 3 [])) = true then (if (M.tv (fs.getD 2 [])).1 ≤ (M.tv (fs.getD 3 [])).1 then (pk0, 12) else (((M.tv (fs.getD 0 [])).1, (M.tv (fs.getD 1 [])).1, (M.tv (fs.getD 2 [])).1, (M.tv (fs.getD 3 [])).1, fs.getD 4 []), 0)) else (pk0, 12) := by
            rw [← hRR]; unfold pkF; rw [if_neg h5]
          have hl0 := tv_lt (fs.getD 0 [])
          have hl1 := tv_lt (fs.getD 1 [])
          have hl2 := tv_lt (fs.getD 2 [])
          have hl3 := tv_lt (fs.getD 3 [])
          obtain ⟨a0, k0, c0, r0, z0⟩ := hel 0 (by omega)
          obtain ⟨a1, k1, c1, r1, z1⟩ := hel 1 (by omega)
          obtain ⟨a2', k2, c2, r2, z2⟩ := hel 2 (by omega)
          obtain ⟨a3, k3, c3, r3, z3⟩ := hel 3 (by omega)
          obtain ⟨a4, k4, c4, r4, z4⟩ := hel 4 (by omega)
          have n0 := fun (W : World) (hW : Below w2.heap.size w2 W) => rnum14_any (r0.rd.below hW (Nat.le_refl _)) z0
          have n1 := fun (W : World) (hW : Below w2.heap.size w2 W) => rnum14_any (r1.rd.below hW (Nat.le_refl _)) z1
          have n2 := fun (W : World) (hW : Below w2.heap.size w2 W) => rnum14_any (r2.rd.below hW (Nat.le_refl _)) z2
          have n3 := fun (W : World) (hW : Below w2.heap.size w2 W) => rnum14_any (r3.rd.below hW (Nat.le_refl _)) z3
          have kc : ∀ (W : World) (j : Nat) (u : Value), Below w2.heap.size w2 W → w2.cell? ⟨g, j, none⟩ = some u → W.cell? ⟨g, j, none⟩ = some u := fun W j u hW e => by rw [hW.cell (World.block_lt_of_cell? w2 _ e)]; exact e
          generalize hf0 : fs.getD 0 [] = f0 at *
          generalize hf1 : fs.getD 1 [] = f1 at *
          generalize hf2 : fs.getD 2 [] = f2 at *
          generalize hf3 : fs.getD 3 [] = f3 at *
          generalize hf4 : fs.getD 4 [] = f4 at *
          clear hf0 hf1 hf2 hf3 hf4 hel r0 r1 r2 r3 ho3 hcl hRR
          generalize (M.tv f0).1 = N0 at *
          generalize (M.tv f1).1 = N1 at *
          generalize (M.tv f2).1 = N2 at *
          generalize (M.tv f3).1 = N3 at *
          generalize pkN f0 = B0 at *
          generalize pkN f1 = B1 at *
          generalize pkN f2 = B2 at *
          generalize pkN f3 = B3 at *
          have HBD : Hid (R.2 ≠ 0) := hbad0
          have HPF : Hid _ := hpF
          have HLT : Hid _ := hlt
          clear hbad0 hpF hlt
          go_wp2_with fail
          refine (n0 w2 (Below.refl _ _)).mono ?_
          rintro e w3 ⟨rfl, hb3⟩
          have c1' := kc w3 1 _ hb3 c1
          go_wp2_with fail
          refine (n1 w3 hb3).mono ?_
          rintro e w4 ⟨rfl, hb4'⟩
          have hb4 := hb3.trans (hb4'.mono hb3.size)
          have c2' := kc w4 2 _ hb4 c2
          go_wp2_with fail
          refine (n2 w4 hb4).mono ?_
          rintro e w5 ⟨rfl, hb5'⟩
          have hb5 := hb4.trans (hb5'.mono hb4.size)
          have c3' := kc w5 3 _ hb5 c3
          go_wp2_with fail
          refine (n3 w5 hb5).mono ?_
          rintro e w6 ⟨rfl, hb6'⟩
          have hb6 := hb5.trans (hb6'.mono hb5.size)
          have c4' := kc w6 4 _ hb6 c4
          have hB6 := hB2.trans (hb6.mono hB2.size)
          have r4' := r4.below hb6 (Nat.le_refl _)
          clear n0 n1 n2 n3 kc c0 c1 c2 c3 c4 c1' c2' c3' hb3 hb4 hb5 hb4' hb5' hb6' htf htr r4
          go_upto_region 13 with fail
          have hpF := HPF.out
          clear HPF HLT
          cases B0 with
          | false =>
            obtain rfl : R = (pk0, 12) := by rw [hpF]; rfl
            clear hpF HBD
            go_wp2_with fail
            go_ret
            exact quit _ 12 hB6
          | true =>
            cases B1 with
            | false =>
              obtain rfl : R = (pk0, 12) := by rw [hpF]; rfl
              clear hpF HBD
              go_wp2_with fail
              go_ret
              exact quit _ 12 hB6
            | true =>
              cases B2 with
              | false =>
                obtain rfl : R = (pk0, 12) := by rw [hpF]; rfl
                clear hpF HBD
                go_wp2_with fail
                go_ret
                exact quit _ 12 hB6
              | true =>
                cases B3 with
                | false =>
                  obtain rfl : R = (pk0, 12) := by rw [hpF]; rfl
                  clear hpF HBD
                  go_wp2_with fail
                  go_ret
                  exact quit _ 12 hB6
                | true =>
                  rw [if_pos (show (true && true && true && true) = true from rfl)] at hpF
                  by_cases q2 : N2 ≤ N3
                  · rw [if_pos q2] at hpF
                    subst hpF
                    clear HBD
                    by_cases q1 : N2 < 1
                    · have q1i : (N2 : Int) < 1 := by omega
                      go_wp2_with fail
                      go_ret
                      exact quit _ 12 hB6
                    · have q1i : ¬ (N2 : Int) < 1 := by omega
                      have q2i : (N2 : Int) ≤ (N3 : Int) := by omega
                      go_wp2_with fail
                      go_ret
                      exact quit _ 12 hB6
                  · rw [if_neg q2] at hpF
                    subst hpF
                    exact absurd rfl HBD.out
/-- What is no wrong piece. -/
theorem pkR_ok {l : List UInt8} (h : (pkR l).2 = 0) : ∃ body f0 f1 f2 f3 f4, M.tf l = (body, [], 0) ∧ M.tr body = ([f0, f1, f2, f3, f4], 0) ∧ pkN f0 = true ∧ pkN f1 = true ∧ pkN f2 = true ∧ pkN f3 = true ∧ (M.tv f3).1 < (M.tv f2).1 ∧ pkR l = (((M.tv f0).1, (M.tv f1).1, (M.tv f2).1, (M.tv f3).1, f4), 0) := by
  generalize hR : pkR l = R at h ⊢
  unfold pkR at hR
  generalize hF : M.tf l = F at *
  obtain ⟨body, beh, fe⟩ := F
  simp only [] at hR
  by_cases hfe : fe ≠ 0
  · rw [if_pos hfe] at hR; subst hR; exact absurd h hfe
  · rw [if_neg hfe] at hR
    obtain rfl : fe = 0 := by omega
    generalize hG : M.tr body = G at *
    obtain ⟨fs, ge⟩ := G
    simp only [] at hR
    by_cases hge : ge ≠ 0
    · rw [if_pos hge] at hR; subst hR; exact absurd h hge
    · rw [if_neg hge] at hR
      obtain rfl : ge = 0 := by omega
      by_cases hbe : 0 < beh.length
      · rw [if_pos hbe] at hR; subst hR; cases h
      · rw [if_neg hbe] at hR
        obtain rfl : beh = [] := List.length_eq_zero_iff.1 (by omega)
        unfold pkF at hR
        by_cases h5 : fs.length ≠ 5
        · rw [if_pos h5] at hR; subst hR; cases h
        · rw [if_neg h5] at hR
          have h5' : fs.length = 5 := by omega
          match fs, h5' with
          | [f0, f1, f2, f3, f4], _ =>
            simp only [List.getD_cons_zero, List.getD_cons_succ] at hR
            by_cases q : (pkN f0 && pkN f1 && pkN f2 && pkN f3) = true
            · rw [if_pos q] at hR
              by_cases q2 : (M.tv f2).1 ≤ (M.tv f3).1
              · rw [if_pos q2] at hR; subst hR; cases h
              · rw [if_neg q2] at hR
                simp only [Bool.and_eq_true] at q
                exact ⟨body, f0, f1, f2, f3, f4, rfl, hG, q.1.1.1, q.1.1.2, q.1.2, q.2, by omega, hR.symm⟩
            · rw [if_neg q] at hR; subst hR; cases h
end
end Go.Proofs.Ytlajncjamafomaa
