/- Proved here: CodecBack answers true for every text, every number and whatever stands behind, where what is read is of bulk at most 1048576: what Bytes, Uint, Desc, Varint, Frame, Key and Row write is read again by their counterparts, with what stands behind it. -/
import Derived.Test.YtbolnelbchffhabUpto
import Derived.Test.YtbolnelbchffhabRowTake
import Derived.Test.YtbolnelbchffhabRowMade
import Derived.Test.YtbolnelbchffhabTakes
import Derived.Test.YtbolnelbchffhabBytes
import Derived.Test.YtbolnelbchffhabOpens2
namespace Go.Proofs.Ytbolnelbchffhab
open Go.ChangeShapes Go.WideShapes Go.ChangeAt Go.RowKit
set_option linter.unusedVariables false
set_option maxRecDepth 100000

theorem tu_back (n : Nat) (r : List UInt8) (h : n < 18446744073709551616) : tu (M.be 8 n ++ r) = (n, r, 0) := by
  have h8 := M.be_length 8 n
  have hp : n < 256 ^ 8 := by
    have : (256 : Nat) ^ 8 = 18446744073709551616 := by decide
    omega
  unfold tu
  rw [if_neg (by simp [h8]), List.take_left' h8, List.drop_left' h8, M.num_be 8 n hp]
theorem td_back (n : Nat) (r : List UInt8) (h : n < 18446744073709551616) : td (M.be 8 (18446744073709551615 - n) ++ r) = (n, r, 0) := by
  have h8 := M.be_length 8 (18446744073709551615 - n)
  have hp : 18446744073709551615 - n < 256 ^ 8 := by
    have : (256 : Nat) ^ 8 = 18446744073709551616 := by decide
    omega
  unfold td
  rw [if_neg (by simp [h8]), List.take_left' h8, List.drop_left' h8, M.num_be 8 _ hp, show 18446744073709551615 - (18446744073709551615 - n) = n by omega]

theorem three_small (a b : List UInt8) (ha : a.length < 18446744073709551616) (hb : b.length < 18446744073709551616) : ∀ f ∈ [a, b, []], f.length < 18446744073709551616 := by
  intro f hf
  simp only [List.mem_cons, List.not_mem_nil, or_false] at hf
  rcases hf with rfl | rfl | rfl
  · exact ha
  · exact hb
  · simp

theorem rds_three {w : World} {x y z : Value} {a b c : List UInt8} (hx : Rd w x a) (hy : Rd w y b) (hz : Rd w z c) (t : TypeId) :
    Rds (w.alloc (.cells #[x, y, z] t)) (.slice (some ⟨w.heap.size, 0, none⟩) 3 3) [a, b, c] := by
  refine ⟨some ⟨w.heap.size, 0, none⟩, 3, rfl, by simp, by simp [maxLen], fun i hi => ?_⟩
  have hi' : i = 0 ∨ i = 1 ∨ i = 2 := by simp at hi; omega
  rcases hi' with rfl | rfl | rfl
  · exact ⟨_, x, rfl, by rw [Addr.add_lit, World.cell?_alloc_at _ _ _ _ rfl]; rfl, hx.alloc _⟩
  · exact ⟨_, y, rfl, by rw [Addr.add_lit, World.cell?_alloc_at _ _ _ _ rfl]; rfl, hy.alloc _⟩
  · exact ⟨_, z, rfl, by rw [Addr.add_lit, World.cell?_alloc_at _ _ _ _ rfl]; rfl, hz.alloc _⟩

/-- Three texts of a list of the call's own: where they lie. -/
theorem ows_three {B : Nat} {w : World} {v : Value} {a b c : List UInt8} {us : List Value} (h : Ows B w v [a, b, c] us) :
    ∃ g cap x y z, v = .slice (some ⟨g, 0, none⟩) 3 cap ∧ 3 ≤ cap ∧ cap ≤ 9223372036854775807 ∧ w.cell? ⟨g, 0, none⟩ = some x ∧ w.cell? ⟨g, 1, none⟩ = some y ∧ w.cell? ⟨g, 2, none⟩ = some z ∧ Rd w x a ∧ Rd w y b ∧ Rd w z c := by
  have hlen := h.len
  have hrow := h.row
  simp only [List.length_cons, List.length_nil, Nat.zero_add, Nat.reduceAdd] at hlen
  match us, hlen with
  | [x, y, z], _ =>
    rcases hrow.2 with ⟨hv, h0⟩ | ⟨g, cap, cur, hv, hg, hh, hn, hcap, hsz, htake⟩
    · simp at h0
    · refine ⟨g, cap, x, y, z, hv, by simpa using hn, by unfold maxLen at hcap; omega, ?_, ?_, ?_, (h.el 0 x a rfl rfl).rd, (h.el 1 y b rfl rfl).rd, (h.el 2 z c rfl rfl).rd⟩
      all_goals
        subst hv
        rw [hrow.cellAt _ (by simp)]
        rfl

set_option maxHeartbeats 8000000 in
theorem back_walk {v : Value} {l : List UInt8} {w : World} (hr : Rd w v l) (hl : l.length ≤ 1048576) (n : Nat) (hn : n < 18446744073709551616) {vm : Value} {m : List UInt8} (hm : Rd w vm m) (hml : m.length ≤ 1048576) :
    Calls Try.prog 5 #[v, .int .u64 n, vm] w fun e w' => e = .returned (.bool true) ∧ Below w.heap.size w w' := by
  have l1 := M.ob_length l
  have l2 := M.be_length 8 n
  have l3 := M.be_length 8 (18446744073709551615 - n)
  have l4 := vi_len n
  have l5 : (M.frame l).length ≤ 1048576 + 14 := by
    have := vi_len l.length
    simp only [M.frame, List.length_append, M.be_length]; omega
  have l6 := M.key_length l n
  have l7 : (M.row [l, m, []]).length ≤ 2097252 := by
    have a := vi_len l.length
    have b := vi_len m.length
    have c := vi_len 0
    have d := vi_len 3
    simp only [M.row, M.rowB, List.length_append, List.length_cons, List.length_nil, Nat.zero_add, Nat.reduceAdd]
    omega
  have e1 : Hid _ := M.tb_back l m
  have e2 : Hid _ := tu_back n m hn
  have e3 : Hid _ := td_back n m hn
  have e4 : Hid _ := M.tv_vi n m hn
  have e5 : Hid _ := M.tf_back l m (by omega)
  have e6 : Hid _ := M.tk_back l n hn
  have e7 : Hid _ := M.tr_row [l, m, []] (by simp) (three_small l m (by omega) (by omega))
  obtain ⟨av, cv, ev, _, _, _, _⟩ := id hr
  obtain ⟨am, cm, em, _, _, _, _⟩ := id hm
  subst ev
  subst em
  generalize hk1 : M.ob l = K1 at *
  generalize hk2 : M.be 8 n = K2 at *
  generalize hk3 : M.be 8 (18446744073709551615 - n) = K3 at *
  generalize hk4 : M.vi n = K4 at *
  generalize hk5 : M.frame l = K5 at *
  generalize hk6 : M.key l n = K6 at *
  generalize hk7 : M.row [l, m, []] = K7 at *
  have HK : Hid _ := And.intro hk1 (And.intro hk2 (And.intro hk3 (And.intro hk4 (And.intro hk5 (And.intro hk6 hk7)))))
  clear hk1 hk2 hk3 hk4 hk5 hk6 hk7
  go_enter Try.func5, Try.ntmps5
  go_wp2_with fail
  refine (awake_any _).mono ?_
  rintro e w0 ⟨rfl, hb0⟩
  have hL0 := hr.below hb0 (Nat.le_refl _)
  have hM0 := hm.below hb0 (Nat.le_refl _)
  have hw0 := hb0
  go_wp2_with fail
  refine (bytes_any hL0 (by omega)).mono ?_
  rintro e wa1 ⟨va1, rfl, hoa1, hba1⟩
  rw [HK.out.1] at hoa1
  have hqa1 := hM0.below hba1 (Nat.le_refl _)
  have hsa1 := hba1.size
  go_wp2_with (first | (at_builtin; refine wpList_app rfl _ _ rfl w0.heap.size _ K1 rfl hoa1 _ m rfl hqa1 hsa1 (by omega) ?_; intro vb1 wb1 hob1 hbb1 hgb1) | fail)
  have hxb1 := hba1.trans hbb1
  refine (takeB_any hob1.rd (by rw [List.length_append]; omega)).mono ?_
  rintro e w1 ⟨x1, r1, rfl, hx1, hr1, _, hbc1⟩
  rw [e1.out] at hx1 hr1
  rw [e1.out]
  have hs1 := Below.tr hxb1 hbc1
  have hL1 := hL0.below hs1 (Nat.le_refl _)
  have hM1 := hM0.below hs1 (Nat.le_refl _)
  have hw1 := Below.tr hw0 hs1
  have hR1 := hr1.rd
  have hX1 := hx1.rd
  clear hoa1 hba1 hqa1 hsa1 hob1 hbb1 hgb1 hxb1 hbc1 hr1 hx1
  go_wp2_with fail
  refine (uint_any n _ hn).mono ?_
  rintro e wa2 ⟨va2, rfl, hoa2, hba2⟩
  rw [HK.out.2.1] at hoa2
  have hqa2 := hM1.below hba2 (Nat.le_refl _)
  have hsa2 := hba2.size
  go_wp2_with (first | (at_builtin; refine wpList_app rfl _ _ rfl w1.heap.size _ K2 rfl hoa2 _ m rfl hqa2 hsa2 (by omega) ?_; intro vb2 wb2 hob2 hbb2 hgb2) | fail)
  have hxb2 := hba2.trans hbb2
  refine (takeU_any hob2.rd (by rw [List.length_append]; omega)).mono ?_
  rintro e w2 ⟨r2, rfl, hr2, hbc2⟩
  rw [e2.out] at hr2
  rw [e2.out]
  have hs2 := Below.tr hxb2 hbc2
  have hL2 := hL1.below hs2 (Nat.le_refl _)
  have hM2 := hM1.below hs2 (Nat.le_refl _)
  have hw2 := Below.tr hw1 hs2
  have hR2 := hr2.rd
  replace hR1 := hR1.below hs2 (Nat.le_refl _)
  replace hX1 := hX1.below hs2 (Nat.le_refl _)
  clear hoa2 hba2 hqa2 hsa2 hob2 hbb2 hgb2 hxb2 hbc2 hr2
  go_wp2_with fail
  refine (desc_any n _ hn).mono ?_
  rintro e wa3 ⟨va3, rfl, hoa3, hba3⟩
  rw [HK.out.2.2.1] at hoa3
  have hqa3 := hM2.below hba3 (Nat.le_refl _)
  have hsa3 := hba3.size
  go_wp2_with (first | (at_builtin; refine wpList_app rfl _ _ rfl w2.heap.size _ K3 rfl hoa3 _ m rfl hqa3 hsa3 (by omega) ?_; intro vb3 wb3 hob3 hbb3 hgb3) | fail)
  have hxb3 := hba3.trans hbb3
  refine (takeD_any hob3.rd (by rw [List.length_append]; omega)).mono ?_
  rintro e w3 ⟨r3, rfl, hr3, hbc3⟩
  rw [e3.out] at hr3
  rw [e3.out]
  have hs3 := Below.tr hxb3 hbc3
  have hL3 := hL2.below hs3 (Nat.le_refl _)
  have hM3 := hM2.below hs3 (Nat.le_refl _)
  have hw3 := Below.tr hw2 hs3
  have hR3 := hr3.rd
  replace hR1 := hR1.below hs3 (Nat.le_refl _)
  replace hX1 := hX1.below hs3 (Nat.le_refl _)
  replace hR2 := hR2.below hs3 (Nat.le_refl _)
  clear hoa3 hba3 hqa3 hsa3 hob3 hbb3 hgb3 hxb3 hbc3 hr3
  go_wp2_with fail
  refine (varint_any n _ hn).mono ?_
  rintro e wa4 ⟨va4, rfl, hoa4, hba4⟩
  rw [HK.out.2.2.2.1] at hoa4
  have hqa4 := hM3.below hba4 (Nat.le_refl _)
  have hsa4 := hba4.size
  go_wp2_with (first | (at_builtin; refine wpList_app rfl _ _ rfl w3.heap.size _ K4 rfl hoa4 _ m rfl hqa4 hsa4 (by omega) ?_; intro vb4 wb4 hob4 hbb4 hgb4) | fail)
  have hxb4 := hba4.trans hbb4
  refine (takeV_any hob4.rd (by rw [List.length_append]; omega)).mono ?_
  rintro e w4 ⟨r4, rfl, hr4, hbc4⟩
  rw [e4.out] at hr4
  rw [e4.out]
  have hs4 := Below.tr hxb4 hbc4
  have hL4 := hL3.below hs4 (Nat.le_refl _)
  have hM4 := hM3.below hs4 (Nat.le_refl _)
  have hw4 := Below.tr hw3 hs4
  have hR4 := hr4.rd
  replace hR1 := hR1.below hs4 (Nat.le_refl _)
  replace hX1 := hX1.below hs4 (Nat.le_refl _)
  replace hR2 := hR2.below hs4 (Nat.le_refl _)
  replace hR3 := hR3.below hs4 (Nat.le_refl _)
  clear hoa4 hba4 hqa4 hsa4 hob4 hbb4 hgb4 hxb4 hbc4 hr4
  go_wp2_with fail
  refine (frame_any hL4 (by omega)).mono ?_
  rintro e wa5 ⟨va5, rfl, hoa5, hba5⟩
  rw [HK.out.2.2.2.2.1] at hoa5
  have hqa5 := hM4.below hba5 (Nat.le_refl _)
  have hsa5 := hba5.size
  go_wp2_with (first | (at_builtin; refine wpList_app rfl _ _ rfl w4.heap.size _ K5 rfl hoa5 _ m rfl hqa5 hsa5 (by omega) ?_; intro vb5 wb5 hob5 hbb5 hgb5) | fail)
  have hxb5 := hba5.trans hbb5
  refine (tframe_any hob5.rd (by rw [List.length_append]; omega)).mono ?_
  rintro e w5 ⟨x5, r5, rfl, hx5, hr5, _, hbc5⟩
  rw [e5.out] at hx5 hr5
  rw [e5.out]
  have hs5 := Below.tr hxb5 hbc5
  have hL5 := hL4.below hs5 (Nat.le_refl _)
  have hM5 := hM4.below hs5 (Nat.le_refl _)
  have hw5 := Below.tr hw4 hs5
  have hR5 := hr5.rd
  have hX5 := hx5.rd
  replace hR1 := hR1.below hs5 (Nat.le_refl _)
  replace hX1 := hX1.below hs5 (Nat.le_refl _)
  replace hR2 := hR2.below hs5 (Nat.le_refl _)
  replace hR3 := hR3.below hs5 (Nat.le_refl _)
  replace hR4 := hR4.below hs5 (Nat.le_refl _)
  clear hoa5 hba5 hqa5 hsa5 hob5 hbb5 hgb5 hxb5 hbc5 hr5 hx5
  go_wp2_with fail
  refine (key_any hL5 (by omega) hn).mono ?_
  rintro e wa6 ⟨va6, rfl, hoa6, hba6⟩
  rw [HK.out.2.2.2.2.2.1] at hoa6
  go_wp2_with fail
  refine (takeK_any hoa6.rd (by omega)).mono ?_
  rintro e w6 ⟨x6, rfl, hx6, hbc6⟩
  rw [e6.out] at hx6
  rw [e6.out]
  have hs6 := Below.tr hba6 hbc6
  have hL6 := hL5.below hs6 (Nat.le_refl _)
  have hM6 := hM5.below hs6 (Nat.le_refl _)
  have hw6 := Below.tr hw5 hs6
  have hX6 := hx6.rd
  replace hR1 := hR1.below hs6 (Nat.le_refl _)
  replace hX1 := hX1.below hs6 (Nat.le_refl _)
  replace hR2 := hR2.below hs6 (Nat.le_refl _)
  replace hR3 := hR3.below hs6 (Nat.le_refl _)
  replace hR4 := hR4.below hs6 (Nat.le_refl _)
  replace hR5 := hR5.below hs6 (Nat.le_refl _)
  replace hX5 := hX5.below hs6 (Nat.le_refl _)
  clear hoa6 hba6 hbc6 hx6
  have h3 := rds_three hL6 hM6 (Rd.nil w6) 25
  have HR3 : Hid _ := h3
  clear h3
  go_wp2_with fail
  refine (row_any HR3.out (by rw [HK.out.2.2.2.2.2.2]; omega) (by simp)).mono ?_
  rintro e wa7 ⟨va7, rfl, hoa7, hba7⟩
  rw [HK.out.2.2.2.2.2.2] at hoa7
  go_wp2_with fail
  refine (takerow_any hoa7.rd (by omega)).mono ?_
  rintro e w7 ⟨f, us, rfl, hof, hbc7⟩
  rw [e7.out] at hof
  rw [e7.out]
  have hs7 := Below.tr (Below.tr (Below.al w6 _) hba7) hbc7
  have hL7 := hL6.below hs7 (Nat.le_refl _)
  have hM7 := hM6.below hs7 (Nat.le_refl _)
  have hw7 := Below.tr hw6 hs7
  replace hR1 := hR1.below hs7 (Nat.le_refl _)
  replace hX1 := hX1.below hs7 (Nat.le_refl _)
  replace hR2 := hR2.below hs7 (Nat.le_refl _)
  replace hR3 := hR3.below hs7 (Nat.le_refl _)
  replace hR4 := hR4.below hs7 (Nat.le_refl _)
  replace hR5 := hR5.below hs7 (Nat.le_refl _)
  replace hX5 := hX5.below hs7 (Nat.le_refl _)
  replace hX6 := hX6.below hs7 (Nat.le_refl _)
  obtain ⟨g, cap, y0, y1, y2, rfl, hc3, hcm, c0, c1, c2, hy0, hy1, hy2⟩ := ows_three hof
  obtain ⟨ay, cy, ey, _⟩ := hy2
  subst ey
  simp only [List.length_nil] at c2
  clear hoa7 hba7 hbc7 hof HR3 e1 e2 e3 e4 e5 e6 e7 HK hs1 hs2 hs3 hs4 hs5 hs6 hs7 hL0 hL1 hL2 hL3 hL4 hL5 hL6 hM0 hM1 hM2 hM3 hM4 hM5 hM6 hw0 hw1 hw2 hw3 hw4 hw5 hw6 hr hm
  have hnn : (((n : Nat) : Int) == ((n : Nat) : Int)) = true := by simp
  go_wp2_with fail
  refine (same_any hR1 hM7).mono ?_
  rintro e _ ⟨rfl, k1, rfl⟩
  rw [decide_eq_true rfl]
  go_wp2_with fail
  refine (same_any (Rd.redrew (hR2.drewN 0) _) (Rd.redrew (hM7.drewN 0) _)).mono ?_
  rintro e _ ⟨rfl, k2, rfl⟩
  rw [decide_eq_true rfl]
  go_wp2_with fail
  refine (same_any (Rd.redrew (hR3.drewN 0) _) (Rd.redrew (hM7.drewN 0) _)).mono ?_
  rintro e _ ⟨rfl, k3, rfl⟩
  rw [decide_eq_true rfl]
  go_wp2_with fail
  refine (same_any (Rd.redrew (hR4.drewN 0) _) (Rd.redrew (hM7.drewN 0) _)).mono ?_
  rintro e _ ⟨rfl, k4, rfl⟩
  rw [decide_eq_true rfl]
  go_wp2_with fail
  refine (same_any (Rd.redrew (hR5.drewN 0) _) (Rd.redrew (hM7.drewN 0) _)).mono ?_
  rintro e _ ⟨rfl, k5, rfl⟩
  rw [decide_eq_true rfl]
  go_wp2_with fail
  refine (same_any (Rd.redrew (hX1.drewN 0) _) (Rd.redrew (hL7.drewN 0) _)).mono ?_
  rintro e _ ⟨rfl, k6, rfl⟩
  rw [decide_eq_true rfl]
  go_wp2_with fail
  refine (same_any (Rd.redrew (hX5.drewN 0) _) (Rd.redrew (hL7.drewN 0) _)).mono ?_
  rintro e _ ⟨rfl, k7, rfl⟩
  rw [decide_eq_true rfl]
  go_wp2_with fail
  refine (same_any (Rd.redrew (hX6.drewN 0) _) (Rd.redrew (hL7.drewN 0) _)).mono ?_
  rintro e _ ⟨rfl, k8, rfl⟩
  rw [decide_eq_true rfl]
  go_wp2_with fail
  refine (same_any (Rd.redrew (hy0.drewN 0) _) (Rd.redrew (hL7.drewN 0) _)).mono ?_
  rintro e _ ⟨rfl, k9, rfl⟩
  rw [decide_eq_true rfl]
  go_wp2_with fail
  refine (same_any (Rd.redrew (hy1.drewN 0) _) (Rd.redrew (hM7.drewN 0) _)).mono ?_
  rintro e _ ⟨rfl, k10, rfl⟩
  rw [decide_eq_true rfl]
  go_wp2_with fail
  go_ret
  exact ⟨rfl, hw7.trans ((Below.dN w7 _).mono hw7.size)⟩

namespace codecBackUpto
theorem own : ownKnob Try.prog.godebug = none := by kernel_rfl
theorem laidOut : laidOutB Try.prog = true := by kernel_rfl

theorem contract (H : Type) (enc : TypeId × Value → H) (W : World) (base : Nat) (args : Array Value) (ds gs : List (DataW H)) (before : List MemPlace)
    (hval : ∀ (j : Nat) t v, Try.f5.params[j]? = some t → args[j]? = some v → Value.okWide Try.prog W .any base t v)
    (hW : DataW.Whole enc Try.prog Try.f5.params.toList Rows.codecBackSpec.vars false W args.toList ds gs before) (hk : Rows.uptoSmall H (ds ++ gs) = true) :
    Calls Try.prog 5 args W fun e W' => ∃ v, e = .returned v ∧ Rows.codecBackSpec.post enc Try.prog Try.f5 false true false false W args v W' := by
  have hW' := hW
  obtain ⟨p, q, hA0, hV, rfl, hfz, hnd⟩ := hW
  have hA : DataW.TrodAll enc Try.prog W 0 (fun _ => true) true Try.f5.params.toList args.toList ds p := hA0
  rw [Try.params5] at hA hval
  obtain ⟨v0, vs0, d0, ds0, p0, q0, hargs, rfl, rfl, h0, r0⟩ := trodAll_cons hA
  obtain ⟨v1, vs1, d1, ds1, p1, q1, rfl, rfl, rfl, h1, r1⟩ := trodAll_cons r0
  obtain ⟨v2, vs2, d2, ds2, p2, q2, rfl, rfl, rfl, h2, r2⟩ := trodAll_cons r1
  obtain ⟨rfl, rfl, rfl⟩ := trodAll_nil r2
  obtain rfl : args = #[v0, v1, v2] := by cases args; simp_all
  obtain ⟨rfl, rfl⟩ := trodVars_none hV
  have hbulk : Rows.uptoBulkAll ([d0, d1, d2] ++ ([] : List (DataW H))) ≤ 1048576 := of_decide_eq_true hk
  simp only [List.append_nil, Rows.uptoBulkAll] at hbulk
  obtain ⟨a0, len0, cap0, rfl⟩ := okWide_slice Try.underlying25 (hval 0 25 v0 rfl rfl)
  have k0 := h0
  have lt0 : ∀ x ∈ p0, x.block < W.heap.size := by obtain ⟨m, hm⟩ := k0; exact DataW.trod_lt m _ _ _ hm
  obtain ⟨l0, hr0, hlen0, zs0, hz0⟩ := open_bytes h0
  have hl0 : l0.length ≤ Rows.uptoBulk d0 := by
    rcases hz0 with ⟨_, h⟩ | ⟨hd, hzl, hle⟩
    · omega
    · subst hd
      have := bulk_ge (H := H) (lits .u8 (zs0.take len0))
      simp only [Rows.uptoBulk]
      simp only [lits, List.length_map, List.length_take] at this
      simp only [lits]
      omega
  obtain ⟨x1, rfl, rfl, rfl, w1⟩ := open_int Try.underlying31 (hval 1 31 v1 rfl rfl) h1
  have hx1 : 0 ≤ x1 ∧ x1 ≤ 18446744073709551615 := by simpa [Lit.wf, IntKind.min, IntKind.max, IntKind.signed, IntKind.bits] using w1
  obtain ⟨n1, rfl⟩ := Int.eq_ofNat_of_zero_le hx1.1
  obtain ⟨a2, len2, cap2, rfl⟩ := okWide_slice Try.underlying25 (hval 2 25 v2 rfl rfl)
  have k2 := h2
  have lt2 : ∀ x ∈ p2, x.block < W.heap.size := by obtain ⟨m, hm⟩ := k2; exact DataW.trod_lt m _ _ _ hm
  obtain ⟨l2, hr2, hlen2, zs2, hz2⟩ := open_bytes h2
  have hl2 : l2.length ≤ Rows.uptoBulk d2 := by
    rcases hz2 with ⟨_, h⟩ | ⟨hd, hzl, hle⟩
    · omega
    · subst hd
      have := bulk_ge (H := H) (lits .u8 (zs2.take len2))
      simp only [Rows.uptoBulk]
      simp only [lits, List.length_map, List.length_take] at this
      simp only [lits]
      omega
  clear hA0
  refine (back_walk hr0 (by omega) n1 (by omega) hr2 (by omega)).mono fun e W' ⟨he, bel⟩ => ?_
  subst he
  exact ⟨_, rfl, _, _, _, [], _, [], hW', trodAll_mk1 (shut_bool Try.underlying4 _), (trodAll_cons_mk (Below.trod laidOut (by kernel_rfl) (of_decide_eq_true (by kernel_rfl)) k0 bel lt0) (trodAll_cons_mk (shut_int Try.underlying31 w1) (trodAll_cons_mk (Below.trod laidOut (by kernel_rfl) (of_decide_eq_true (by kernel_rfl)) k2 bel lt2) trodAll_mk0))), rfl, bel.frame _, fun h => by cases h⟩

theorem lifted (os : Os) (started : os.Started) (H : Type) (enc : TypeId × Value → H) (F : Stop.Interp) :
    ReturnsInHanded {} Try.checked os 5 .any ((Rows.OpenSpec.upto Rows.codecBackSpec).pre6 enc Try.prog Try.f5 Rows.codecBackUptoRow.domain false) (((Rows.OpenSpec.upto Rows.codecBackSpec).at F).post enc Try.prog Try.f5 false true false false) := by
  refine returnsInHanded_of_cond (C := Try.checked) (s := Rows.OpenSpec.upto Rows.codecBackSpec) (k := Rows.uptoSmall) rfl own started (by kernel_rfl) Try.func5
    (OpenSpec.witness (enc := enc) (C := Try.checked) (s := Rows.OpenSpec.upto Rows.codecBackSpec) (k := Rows.uptoSmall) rfl false ⟨#[], #[.slice none 0 0, .int .u64 0, .slice none 0 0], []⟩ 8 (by kernel_rfl) (by kernel_rfl) (by kernel_rfl)
      (x := ([.nil, .lit (.int .u64 0), .nil], [], [])) (by kernel_rfl) rfl (by kernel_rfl)) ?_
  intro W base args ds gs before hval hW _ hk _
  exact contract H enc W base args ds gs before hval hW hk
end codecBackUpto

/-- The statement. -/
theorem codecBackUpto_holds : Rows.CodecBackUptoSaid :=
  OpenClaim.holds_of_cond 5 Try.f5 rfl rfl rfl rfl rfl rfl rfl ⟨rfl, rfl, rfl, rfl, rfl⟩ rfl rfl rfl rfl rfl (by kernel_rfl) Try.func5 (by kernel_rfl)
    (of_decide_eq_true (by kernel_rfl)) (by unfold Func.isWrapper; first | (rw [if_pos (by decide +kernel)]; kernel_rfl) | (rw [if_neg (by decide +kernel)]; exact ⟨rfl, rfl⟩))
    (fun os started H enc _ F => codecBackUpto.lifted os started H enc F)
#print axioms codecBackUpto_holds

end Go.Proofs.Ytbolnelbchffhab
