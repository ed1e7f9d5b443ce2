/- Proved here: CodecOneForm answers true for every text of bytes, where what is read is of bulk at most 1048576: whatever TakeBytes, TakeVarint, TakeFrame and TakeRow read out of it is written again as just those bytes. -/
import Derived.Test.YtbolnelbchffhabUpto
import Derived.Test.YtbolnelbchffhabRowTake
import Derived.Test.YtbolnelbchffhabRowMade
import Derived.Test.YtbolnelbchffhabTakes
import Derived.Test.YtbolnelbchffhabBytes
import Derived.Test.YtbolnelbchffhabOpens2
namespace Go.Proofs.Ytbolnelbchffhab
open Go.ChangeShapes Go.WideShapes Go.ChangeAt Go.RowKit
set_option linter.unusedVariables false
set_option maxRecDepth 100000

theorem tf_len (l : List UInt8) : (M.tf l).1.length ≤ l.length ∧ (M.tf l).2.1.length ≤ l.length := by
  have := tv_len l
  rcases tf_cases l with ⟨h1, h2⟩ | ⟨h1, h2, h3⟩ | ⟨h1, h2, h3⟩
  · rw [h2]; simp
  · rw [h3]; simp
  · rw [h3]
    split
    · simp
    · split
      · simp
      · simp only [List.length_take, List.length_drop]; omega
theorem row_len (ls : List (List UInt8)) : ls.length ≤ (M.row ls).length := by
  have := M.rowB_pos ls
  simp only [M.row, List.length_append]; omega

set_option maxHeartbeats 8000000 in
theorem oneform_walk {v : Value} {l : List UInt8} {w : World} (hr : Rd w v l) (hl : l.length ≤ 1048576) :
    Calls Try.prog 6 #[v] w fun e w' => e = .returned (.bool true) ∧ Below w.heap.size w w' := by
  have f1 : Hid ((M.tb l).2.2 = 0 → _) := M.tb_form l
  have f2 : Hid ((M.tv l).2.2 = 0 → _) := M.tv_form l
  have f3 : Hid ((M.tf l).2.2 = 0 → _) := M.tf_form l
  have f4 : Hid ((M.tr l).2 = 0 → _) := M.tr_form l
  have g1 : (M.tb l).1.length ≤ 1048576 ∧ (M.tb l).2.1.length ≤ 1048576 := by
    have := M.tbA_len (l.length + 1) [] l
    simp only [List.length_nil, Nat.zero_add] at this
    exact ⟨Nat.le_trans this.1 hl, Nat.le_trans this.2 hl⟩
  have g2 := tv_lt l
  have g2' : (M.tv l).2.1.length ≤ 1048576 := Nat.le_trans (tv_len l) hl
  have g3 : (M.tf l).1.length ≤ 1048576 ∧ (M.tf l).2.1.length ≤ 1048576 := ⟨Nat.le_trans (tf_len l).1 hl, Nat.le_trans (tf_len l).2 hl⟩
  go_enter Try.func6, Try.ntmps6
  go_wp2_with fail
  refine (awake_any _).mono ?_
  rintro e w1 ⟨rfl, hb1⟩
  have hr1 := hr.below hb1 (Nat.le_refl _)
  go_wp2_with fail
  refine (takeB_any hr1 (by omega)).mono ?_
  rintro e w2 ⟨x, r1, rfl, hox, hor1, _, hb2⟩
  have hr2 := hr1.below hb2 (Nat.le_refl _)
  go_wp2_with fail
  refine (takeV_any hr2 (by omega)).mono ?_
  rintro e w3 ⟨r2, rfl, hor2, hb3⟩
  have hr3 := hr2.below hb3 (Nat.le_refl _)
  go_wp2_with fail
  refine (tframe_any hr3 (by omega)).mono ?_
  rintro e w4 ⟨y, r3, rfl, hoy, hor3, _, hb4⟩
  have hr4 := hr3.below hb4 (Nat.le_refl _)
  go_wp2_with fail
  refine (takerow_any hr4 (by omega)).mono ?_
  rintro e w5 ⟨f, us, rfl, hof, hb5⟩
  have hR := hr4.below hb5 (Nat.le_refl _)
  have hX := hox.rd.below (Below.tr (Below.tr hb3 hb4) hb5) (Nat.le_refl _)
  have hR1 := hor1.rd.below (Below.tr (Below.tr hb3 hb4) hb5) (Nat.le_refl _)
  have hR2 := hor2.rd.below (Below.tr hb4 hb5) (Nat.le_refl _)
  have hY := hoy.rd.below hb5 (Nat.le_refl _)
  have hR3 := hor3.rd.below hb5 (Nat.le_refl _)
  have hF := hof.rds
  have hw5 : Below w.heap.size w w5 := Below.tr (Below.tr (Below.tr (Below.tr hb1 hb2) hb3) hb4) hb5
  have hB5 := hw5.size
  clear hr hr1 hr2 hr3 hr4 hox hor1 hor2 hoy hor3 hof hb1 hb2 hb3 hb4 hb5
  have hb : Below w5.heap.size w5 w5 := Below.refl _ _
  have l1 := M.ob_length (M.tb l).1
  have l2 := vi_len (M.tv l).1
  have l3 : (M.frame (M.tf l).1).length ≤ 1048576 + 14 := by
    have := vi_len (M.tf l).1.length
    simp only [M.frame, List.length_append, M.be_length]; omega
  generalize M.tb l = T1 at *
  generalize M.tv l = T2 at *
  generalize M.tf l = T3 at *
  generalize M.tr l = T4 at *
  obtain ⟨x1, x2, x3⟩ := T1
  obtain ⟨y1, y2, y3⟩ := T2
  obtain ⟨z1, z2, z3⟩ := T3
  obtain ⟨u1, u3⟩ := T4
  simp only [] at *
  have c1 : (((x3 : Nat) : Int) == 0) = true ∧ Hid (M.ob x1 ++ x2 = l) ∨ (((x3 : Nat) : Int) == 0) = false := by
    by_cases h : x3 = 0
    · exact .inl ⟨by simp [h], f1.out h⟩
    · exact .inr (by simp; omega)
  have c2 : (((y3 : Nat) : Int) == 0) = true ∧ Hid (M.vi y1 ++ y2 = l) ∨ (((y3 : Nat) : Int) == 0) = false := by
    by_cases h : y3 = 0
    · exact .inl ⟨by simp [h], f2.out h⟩
    · exact .inr (by simp; omega)
  have c3 : (((z3 : Nat) : Int) != 0) = false ∧ Hid (M.frame z1 ++ z2 = l) ∨ (((z3 : Nat) : Int) != 0) = true := by
    by_cases h : z3 = 0
    · exact .inl ⟨by simp [h], f3.out h⟩
    · exact .inr (by simp; omega)
  have c4 : (((u3 : Nat) : Int) != 0) = false ∧ Hid (M.row u1 = l) ∨ (((u3 : Nat) : Int) != 0) = true := by
    by_cases h : u3 = 0
    · exact .inl ⟨by simp [h], f4.out h⟩
    · exact .inr (by simp; omega)
  clear f1 f2 f3 f4
  rcases c1 with ⟨c1, E1⟩ | c1
  all_goals rcases c2 with ⟨c2, E2⟩ | c2
  all_goals rcases c3 with ⟨c3, E3⟩ | c3
  all_goals rcases c4 with ⟨c4, E4⟩ | c4
  all_goals go_wp2_with fail
  all_goals try
    go_at_call 15
    refine (bytes_any (hX.below hb (Nat.le_refl _)) (by omega)).mono ?_
    rintro e wa ⟨va, rfl, hoa, hba⟩
    have hba' := Below.tr hb hba
    have hqa := hR1.below hba' (Nat.le_refl _)
    have hsa := hba.size
    go_wp2_with (first | (at_builtin; refine wpList_unguard rfl ?_; refine wpList_app rfl _ _ rfl _ _ (M.ob x1) rfl hoa _ x2 rfl hqa hsa (by omega) ?_; intro vb wb hob hbb hgb) | fail)
    have hbb' := hba'.trans (hbb.mono hb.size)
    refine (same_any hob.rd (hR.below hbb' (Nat.le_refl _))).mono ?_
    rintro e wc ⟨rfl, kc, rfl⟩
    rw [decide_eq_true E1.out]
    replace hb := Below.tr hbb' (Below.dN _ kc)
    clear hba hbb hba' hbb' hoa hob hqa hgb E1 hsa
    go_wp2_with fail
  all_goals try
    go_at_call 24
    refine (varint_any y1 _ (by omega)).mono ?_
    rintro e wa ⟨va, rfl, hoa, hba⟩
    have hba' := Below.tr hb hba
    have hqa := hR2.below hba' (Nat.le_refl _)
    have hsa := hba.size
    go_wp2_with (first | (at_builtin; refine wpList_unguard rfl ?_; refine wpList_app rfl _ _ rfl _ _ (M.vi y1) rfl hoa _ y2 rfl hqa hsa (by omega) ?_; intro vb wb hob hbb hgb) | fail)
    have hbb' := hba'.trans (hbb.mono hb.size)
    refine (same_any hob.rd (hR.below hbb' (Nat.le_refl _))).mono ?_
    rintro e wc ⟨rfl, kc, rfl⟩
    rw [decide_eq_true E2.out]
    replace hb := Below.tr hbb' (Below.dN _ kc)
    clear hba hbb hba' hbb' hoa hob hqa hgb E2 hsa
    go_wp2_with fail
  all_goals try
    go_at_call 26
    refine (frame_any (hY.below hb (Nat.le_refl _)) (by omega)).mono ?_
    rintro e wa ⟨va, rfl, hoa, hba⟩
    have hba' := Below.tr hb hba
    have hqa := hR3.below hba' (Nat.le_refl _)
    have hsa := hba.size
    go_wp2_with (first | (at_builtin; refine wpList_unguard rfl ?_; refine wpList_app rfl _ _ rfl _ _ (M.frame z1) rfl hoa _ z2 rfl hqa hsa (by omega) ?_; intro vb wb hob hbb hgb) | fail)
    have hbb' := hba'.trans (hbb.mono hb.size)
    refine (same_any hob.rd (hR.below hbb' (Nat.le_refl _))).mono ?_
    rintro e wc ⟨rfl, kc, rfl⟩
    rw [decide_eq_true E3.out]
    replace hb := Below.tr hbb' (Below.dN _ kc)
    clear hba hbb hba' hbb' hoa hob hqa hgb E3 hsa
    go_wp2_with fail
  all_goals try
    go_at_call 11
    refine (row_any (hF.below hb (Nat.le_refl _)) (by rw [E4.out]; omega) (by have := row_len u1; rw [E4.out] at this; omega)).mono ?_
    rintro e wa ⟨va, rfl, hoa, hba⟩
    have hba' := Below.tr hb hba
    go_wp2_with fail
    refine (same_any hoa.rd (hR.below hba' (Nat.le_refl _))).mono ?_
    rintro e wc ⟨rfl, kc, rfl⟩
    rw [decide_eq_true E4.out]
    replace hb := Below.tr hba' (Below.dN _ kc)
    clear hba hba' hoa E4
    go_wp2_with fail
  all_goals go_ret
  all_goals exact ⟨rfl, hw5.trans (hb.mono hB5)⟩

namespace codecOneFormUpto
theorem own : ownKnob Try.prog.godebug = none := by kernel_rfl
theorem laidOut : laidOutB Try.prog = true := by kernel_rfl

theorem contract (H : Type) (enc : TypeId × Value → H) (W : World) (base : Nat) (args : Array Value) (ds gs : List (DataW H)) (before : List MemPlace)
    (hval : ∀ (j : Nat) t v, Try.f6.params[j]? = some t → args[j]? = some v → Value.okWide Try.prog W .any base t v)
    (hW : DataW.Whole enc Try.prog Try.f6.params.toList Rows.codecOneFormSpec.vars false W args.toList ds gs before) (hk : Rows.uptoSmall H (ds ++ gs) = true) :
    Calls Try.prog 6 args W fun e W' => ∃ v, e = .returned v ∧ Rows.codecOneFormSpec.post enc Try.prog Try.f6 false true false false W args v W' := by
  have hW' := hW
  obtain ⟨p, q, hA0, hV, rfl, hfz, hnd⟩ := hW
  have hA : DataW.TrodAll enc Try.prog W 0 (fun _ => true) true Try.f6.params.toList args.toList ds p := hA0
  rw [Try.params6] at hA hval
  obtain ⟨v0, vs0, d0, ds0, p0, q0, hargs, rfl, rfl, h0, r0⟩ := trodAll_cons hA
  obtain ⟨rfl, rfl, rfl⟩ := trodAll_nil r0
  obtain rfl : args = #[v0] := by cases args; simp_all
  obtain ⟨rfl, rfl⟩ := trodVars_none hV
  have hbulk : Rows.uptoBulkAll ([d0] ++ ([] : List (DataW H))) ≤ 1048576 := of_decide_eq_true hk
  simp only [List.append_nil, Rows.uptoBulkAll] at hbulk
  obtain ⟨a0, len0, cap0, rfl⟩ := okWide_slice Try.underlying25 (hval 0 25 v0 rfl rfl)
  have k0 := h0
  have lt0 : ∀ x ∈ p0, x.block < W.heap.size := by obtain ⟨m, hm⟩ := k0; exact DataW.trod_lt m _ _ _ hm
  obtain ⟨l0, hr0, hlen0, zs0, hz0⟩ := open_bytes h0
  have hl0 : l0.length ≤ Rows.uptoBulk d0 := by
    rcases hz0 with ⟨_, h⟩ | ⟨hd, hzl, hle⟩
    · omega
    · subst hd
      have := bulk_ge (H := H) (lits .u8 (zs0.take len0))
      simp only [Rows.uptoBulk]
      simp only [lits, List.length_map, List.length_take] at this
      simp only [lits]
      omega
  clear hA0
  refine (oneform_walk hr0 (by omega)).mono fun e W' ⟨he, bel⟩ => ?_
  subst he
  exact ⟨_, rfl, _, _, _, [], _, [], hW', trodAll_mk1 (shut_bool Try.underlying4 _), (trodAll_cons_mk (Below.trod laidOut (by kernel_rfl) (of_decide_eq_true (by kernel_rfl)) k0 bel lt0) trodAll_mk0), rfl, bel.frame _, fun h => by cases h⟩

theorem lifted (os : Os) (started : os.Started) (H : Type) (enc : TypeId × Value → H) (F : Stop.Interp) :
    ReturnsInHanded {} Try.checked os 6 .any ((Rows.OpenSpec.upto Rows.codecOneFormSpec).pre6 enc Try.prog Try.f6 Rows.codecOneFormUptoRow.domain false) (((Rows.OpenSpec.upto Rows.codecOneFormSpec).at F).post enc Try.prog Try.f6 false true false false) := by
  refine returnsInHanded_of_cond (C := Try.checked) (s := Rows.OpenSpec.upto Rows.codecOneFormSpec) (k := Rows.uptoSmall) rfl own started (by kernel_rfl) Try.func6
    (OpenSpec.witness (enc := enc) (C := Try.checked) (s := Rows.OpenSpec.upto Rows.codecOneFormSpec) (k := Rows.uptoSmall) rfl false ⟨#[], #[.slice none 0 0], []⟩ 8 (by kernel_rfl) (by kernel_rfl) (by kernel_rfl)
      (x := ([.nil], [], [])) (by kernel_rfl) rfl (by kernel_rfl)) ?_
  intro W base args ds gs before hval hW _ hk _
  exact contract H enc W base args ds gs before hval hW hk
end codecOneFormUpto

/-- The statement. -/
theorem codecOneFormUpto_holds : Rows.CodecOneFormUptoSaid :=
  OpenClaim.holds_of_cond 6 Try.f6 rfl rfl rfl rfl rfl rfl rfl ⟨rfl, rfl, rfl, rfl, rfl⟩ rfl rfl rfl rfl rfl (by kernel_rfl) Try.func6 (by kernel_rfl)
    (of_decide_eq_true (by kernel_rfl)) (by unfold Func.isWrapper; first | (rw [if_pos (by decide +kernel)]; kernel_rfl) | (rw [if_neg (by decide +kernel)]; exact ⟨rfl, rfl⟩))
    (fun os started H enc _ F => codecOneFormUpto.lifted os started H enc F)
#print axioms codecOneFormUpto_holds

end Go.Proofs.Ytbolnelbchffhab
