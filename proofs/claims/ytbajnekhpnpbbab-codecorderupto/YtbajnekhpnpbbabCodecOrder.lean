/- Proved here: CodecOrder answers true for every two texts and every two numbers, where what is read is of bulk at most 1048576: what is written stands in the order of what it was, keys by key and then from late to early, and none is the beginning of another one. -/
import Derived.Test.YtbajnekhpnpbbabUpto
import Derived.Test.YtbajnekhpnpbbabBytes
import Derived.Test.YtbajnekhpnpbbabCmp
import Derived.Test.YtbajnekhpnpbbabSame
namespace Go.Proofs.Ytbajnekhpnpbbab
open Go.ChangeShapes Go.WideShapes Go.ChangeAt Go.RowKit
set_option linter.unusedVariables false
set_option maxRecDepth 100000

theorem key_same (l : List UInt8) (s t : Nat) : M.cmpL (M.key l s) (M.key l t) = M.cmpN (18446744073709551615 - s) (18446744073709551615 - t) := by
  unfold M.key
  rw [M.cmpL_app _ _ _ _ rfl, if_pos rfl, M.be_cmp 8 _ _ (by omega) (by omega)]
theorem key_other (a b : List UInt8) (s t : Nat) (h : a ≠ b) : M.cmpL (M.key a s) (M.key b t) = M.cmpL a b := by
  unfold M.key
  rw [M.cmpL_free _ _ _ _ (fun z e => h (M.ob_free a b z e)) (fun z e => h (M.ob_free b a z e).symm), M.ob_cmp]

theorem cmpL_three (a b : List UInt8) : M.cmpL a b = -1 ∨ M.cmpL a b = 0 ∨ M.cmpL a b = 1 := by
  induction a generalizing b with
  | nil => cases b with
    | nil => exact .inr (.inl rfl)
    | cons y s => exact .inl rfl
  | cons x r ih => cases b with
    | nil => exact .inr (.inr rfl)
    | cons y s =>
      simp only [M.cmpL]
      split
      · exact ih s
      · split
        · exact .inl rfl
        · exact .inr (.inr rfl)

set_option maxHeartbeats 4000000 in
theorem order_core {va vb : Value} {la lb : List UInt8} {w : World} (ha : Rd w va la) (hla : la.length ≤ 1048576) (hb : Rd w vb lb) (hlb : lb.length ≤ 1048576) (s : Nat) (hs : s < 18446744073709551616) (t : Nat) (ht : t < 18446744073709551616)
    (K W U : Int) (hK : M.cmpL la lb = K) (hW : M.cmpL (M.key la s) (M.key lb t) = W) (hU : M.cmpN s t = U) (hD : M.cmpN (18446744073709551615 - s) (18446744073709551615 - t) = -U)
    (hKW : (K = 0 ∧ la = lb ∧ ((s < t ∧ W = 1 ∧ U = -1) ∨ (s = t ∧ W = 0 ∧ U = 0) ∨ (t < s ∧ W = -1 ∧ U = 1))) ∨ ((K = -1 ∨ K = 1) ∧ la ≠ lb ∧ W = K ∧ ((s < t ∧ U = -1) ∨ (s = t ∧ U = 0) ∨ (t < s ∧ U = 1)))) :
    Calls Try.prog 4 #[va, vb, .int .u64 s, .int .u64 t] w fun e w' => e = .returned (.bool true) ∧ Below w.heap.size w w' := by
  go_enter Try.func4, Try.ntmps4
  go_wp2_with fail
  refine (awake_any _).mono ?_
  rintro e w1 ⟨rfl, hb1⟩
  go_wp2_with fail
  refine (bytes_any (ha.below hb1 (Nat.le_refl _)) (by omega)).mono ?_
  rintro e w2 ⟨x, rfl, hox, hb2⟩
  have hb12 := Below.tr hb1 hb2
  go_wp2_with fail
  refine (bytes_any (hb.below hb12 (Nat.le_refl _)) (by omega)).mono ?_
  rintro e w3 ⟨y, rfl, hoy, hb3⟩
  have hb13 := Below.tr hb12 hb3
  have hox3 := hox.below hb3 (Nat.le_refl _)
  go_wp2_with fail
  refine (cmp_any (ha.below hb13 (Nat.le_refl _)) (hb.below hb13 (Nat.le_refl _))).mono ?_
  rintro e w4 ⟨rfl, k4, rfl⟩
  rw [hK]
  go_wp2_with fail
  refine (cmp_any (hox3.rd.drewN k4) (hoy.rd.drewN k4)).mono ?_
  rintro e w5 ⟨rfl, k5, rfl⟩
  rw [M.ob_cmp, hK]
  have ha3 := ha.below hb13 (Nat.le_refl _)
  have hb3r := hb.below hb13 (Nat.le_refl _)
  rcases hKW with ⟨rfl, rfl, hst⟩ | ⟨hK1, hab, rfl, hst⟩
  · rcases hst with ⟨hst, rfl, rfl⟩ | ⟨hst, rfl, rfl⟩ | ⟨hst, rfl, rfl⟩
    · have hbn : ((s : Int) != (t : Int)) = true := by simp; omega
      go_wp2_with fail
      refine (key_any (Rd.redrew (ha3.drewN 0) _) (by omega) hs).mono ?_
      rintro e w6 ⟨v6, rfl, ho6, hb6⟩
      go_wp2_with fail
      refine (key_any ((Rd.redrew (hb3r.drewN 0) _).below hb6 (Nat.le_refl _)) (by omega) ht).mono ?_
      rintro e w7 ⟨v7, rfl, ho7, hb7⟩
      go_wp2_with fail
      refine (cmp_any (ho6.below hb7 (Nat.le_refl _)).rd ho7.rd).mono ?_
      rintro e w8 ⟨rfl, k8, rfl⟩
      rw [hW]
      go_wp2_with fail
      refine (uint_any s _ hs).mono ?_
      rintro e w9 ⟨v9, rfl, ho9, hb9⟩
      go_wp2_with fail
      refine (uint_any t _ ht).mono ?_
      rintro e w10 ⟨v10, rfl, ho10, hb10⟩
      go_wp2_with fail
      refine (cmp_any (ho9.below hb10 (Nat.le_refl _)).rd ho10.rd).mono ?_
      rintro e w11 ⟨rfl, k11, rfl⟩
      rw [M.be_cmp 8 s t (by omega) (by omega), hU]
      go_wp2_with fail
      refine (desc_any s _ hs).mono ?_
      rintro e w12 ⟨v12, rfl, ho12, hb12'⟩
      go_wp2_with fail
      refine (desc_any t _ ht).mono ?_
      rintro e w13 ⟨v13, rfl, ho13, hb13'⟩
      go_wp2_with fail
      refine (cmp_any (ho12.below hb13' (Nat.le_refl _)).rd ho13.rd).mono ?_
      rintro e w14 ⟨rfl, k14, rfl⟩
      rw [M.be_cmp 8 _ _ (by omega) (by omega), hD]
      go_wp2_with fail
      go_ret
      have hf1 := Below.tr (Below.tr (Below.tr hb13 (Below.dN w3 _)) hb6) hb7
      have hf2 := Below.tr (Below.tr (Below.tr hf1 (Below.dN w7 k8)) hb9) hb10
      have hf3 := Below.tr (Below.tr (Below.tr hf2 (Below.dN w10 k11)) hb12') hb13'
      exact ⟨rfl, Below.tr hf3 (Below.dN w13 k14)⟩
    · have hbn : ((s : Int) != (t : Int)) = false := by simp; omega
      have hst1 : s ≤ t := by omega
      have hst2 : t ≤ s := by omega
      clear hst
      go_wp2_with fail
      refine (key_any (Rd.redrew (ha3.drewN 0) _) (by omega) hs).mono ?_
      rintro e w6 ⟨v6, rfl, ho6, hb6⟩
      go_wp2_with fail
      refine (key_any ((Rd.redrew (hb3r.drewN 0) _).below hb6 (Nat.le_refl _)) (by omega) ht).mono ?_
      rintro e w7 ⟨v7, rfl, ho7, hb7⟩
      go_wp2_with fail
      refine (cmp_any (ho6.below hb7 (Nat.le_refl _)).rd ho7.rd).mono ?_
      rintro e w8 ⟨rfl, k8, rfl⟩
      rw [hW]
      go_wp2_with fail
      refine (uint_any s _ hs).mono ?_
      rintro e w9 ⟨v9, rfl, ho9, hb9⟩
      go_wp2_with fail
      refine (uint_any t _ ht).mono ?_
      rintro e w10 ⟨v10, rfl, ho10, hb10⟩
      go_wp2_with fail
      refine (cmp_any (ho9.below hb10 (Nat.le_refl _)).rd ho10.rd).mono ?_
      rintro e w11 ⟨rfl, k11, rfl⟩
      rw [M.be_cmp 8 s t (by omega) (by omega), hU]
      go_wp2_with fail
      refine (desc_any s _ hs).mono ?_
      rintro e w12 ⟨v12, rfl, ho12, hb12'⟩
      go_wp2_with fail
      refine (desc_any t _ ht).mono ?_
      rintro e w13 ⟨v13, rfl, ho13, hb13'⟩
      go_wp2_with fail
      refine (cmp_any (ho12.below hb13' (Nat.le_refl _)).rd ho13.rd).mono ?_
      rintro e w14 ⟨rfl, k14, rfl⟩
      rw [M.be_cmp 8 _ _ (by omega) (by omega), hD]
      go_wp2_with fail
      go_ret
      have hf1 := Below.tr (Below.tr (Below.tr hb13 (Below.dN w3 _)) hb6) hb7
      have hf2 := Below.tr (Below.tr (Below.tr hf1 (Below.dN w7 k8)) hb9) hb10
      have hf3 := Below.tr (Below.tr (Below.tr hf2 (Below.dN w10 k11)) hb12') hb13'
      exact ⟨rfl, Below.tr hf3 (Below.dN w13 k14)⟩
    · have hbn : ((s : Int) != (t : Int)) = true := by simp; omega
      go_wp2_with fail
      refine (key_any (Rd.redrew (ha3.drewN 0) _) (by omega) hs).mono ?_
      rintro e w6 ⟨v6, rfl, ho6, hb6⟩
      go_wp2_with fail
      refine (key_any ((Rd.redrew (hb3r.drewN 0) _).below hb6 (Nat.le_refl _)) (by omega) ht).mono ?_
      rintro e w7 ⟨v7, rfl, ho7, hb7⟩
      go_wp2_with fail
      refine (cmp_any (ho6.below hb7 (Nat.le_refl _)).rd ho7.rd).mono ?_
      rintro e w8 ⟨rfl, k8, rfl⟩
      rw [hW]
      go_wp2_with fail
      refine (uint_any s _ hs).mono ?_
      rintro e w9 ⟨v9, rfl, ho9, hb9⟩
      go_wp2_with fail
      refine (uint_any t _ ht).mono ?_
      rintro e w10 ⟨v10, rfl, ho10, hb10⟩
      go_wp2_with fail
      refine (cmp_any (ho9.below hb10 (Nat.le_refl _)).rd ho10.rd).mono ?_
      rintro e w11 ⟨rfl, k11, rfl⟩
      rw [M.be_cmp 8 s t (by omega) (by omega), hU]
      go_wp2_with fail
      refine (desc_any s _ hs).mono ?_
      rintro e w12 ⟨v12, rfl, ho12, hb12'⟩
      go_wp2_with fail
      refine (desc_any t _ ht).mono ?_
      rintro e w13 ⟨v13, rfl, ho13, hb13'⟩
      go_wp2_with fail
      refine (cmp_any (ho12.below hb13' (Nat.le_refl _)).rd ho13.rd).mono ?_
      rintro e w14 ⟨rfl, k14, rfl⟩
      rw [M.be_cmp 8 _ _ (by omega) (by omega), hD]
      go_wp2_with fail
      go_ret
      have hf1 := Below.tr (Below.tr (Below.tr hb13 (Below.dN w3 _)) hb6) hb7
      have hf2 := Below.tr (Below.tr (Below.tr hf1 (Below.dN w7 k8)) hb9) hb10
      have hf3 := Below.tr (Below.tr (Below.tr hf2 (Below.dN w10 k11)) hb12') hb13'
      exact ⟨rfl, Below.tr hf3 (Below.dN w13 k14)⟩
  · have hfree : ∀ n, M.ob la ≠ (M.ob lb).take n := fun n e => hab (M.ob_free la lb ((M.ob lb).drop n) (by rw [e, List.take_append_drop]))
    have HF : Hid _ := hfree
    clear hfree
    obtain ⟨ax, cx, rfl, x1, x2, _, _⟩ := hox3.rd
    have hyr := hoy.rd
    obtain ⟨ay, cy, rfl, y1, y2, _, _⟩ := hoy.rd
    unfold maxLen at x2 y2
    by_cases hle : (M.ob la).length ≤ (M.ob lb).length
    · have hsame := same_any (Rd.redrew (hox3.rd.drewN 0) (k4 + k5)) (Rd.redrew ((hyr.pre (M.ob la).length hle).drewN 0) (k4 + k5))
      rw [decide_eq_false (HF.out _)] at hsame
      have HS : Hid _ := hsame
      clear hsame
      have hst' : ((s < t ∧ U = -1) ∨ ((s ≤ t ∧ t ≤ s) ∧ U = 0) ∨ (t < s ∧ U = 1)) := by omega
      clear hst
      rcases hst' with ⟨hst, rfl⟩ | ⟨⟨hst, hst2⟩, rfl⟩ | ⟨hst, rfl⟩
      all_goals
          have hww : (W == W) = true := by simp
          go_wp2_with fail
          refine Calls.mono HS.out ?_
          rintro e w5' ⟨rfl, k5', rfl⟩
          go_wp2_with fail
          refine (key_any (Rd.redrew (ha3.drewN 0) _) (by omega) hs).mono ?_
          rintro e w6 ⟨v6, rfl, ho6, hb6⟩
          go_wp2_with fail
          refine (key_any ((Rd.redrew (hb3r.drewN 0) _).below hb6 (Nat.le_refl _)) (by omega) ht).mono ?_
          rintro e w7 ⟨v7, rfl, ho7, hb7⟩
          go_wp2_with fail
          refine (cmp_any (ho6.below hb7 (Nat.le_refl _)).rd ho7.rd).mono ?_
          rintro e w8 ⟨rfl, k8, rfl⟩
          rw [hW]
          go_wp2_with fail
          refine (uint_any s _ hs).mono ?_
          rintro e w9 ⟨v9, rfl, ho9, hb9⟩
          go_wp2_with fail
          refine (uint_any t _ ht).mono ?_
          rintro e w10 ⟨v10, rfl, ho10, hb10⟩
          go_wp2_with fail
          refine (cmp_any (ho9.below hb10 (Nat.le_refl _)).rd ho10.rd).mono ?_
          rintro e w11 ⟨rfl, k11, rfl⟩
          rw [M.be_cmp 8 s t (by omega) (by omega), hU]
          go_wp2_with fail
          refine (desc_any s _ hs).mono ?_
          rintro e w12 ⟨v12, rfl, ho12, hb12'⟩
          go_wp2_with fail
          refine (desc_any t _ ht).mono ?_
          rintro e w13 ⟨v13, rfl, ho13, hb13'⟩
          go_wp2_with fail
          refine (cmp_any (ho12.below hb13' (Nat.le_refl _)).rd ho13.rd).mono ?_
          rintro e w14 ⟨rfl, k14, rfl⟩
          rw [M.be_cmp 8 _ _ (by omega) (by omega), hD]
          go_wp2_with fail
          go_ret
          have hf1 := Below.tr (Below.tr (Below.tr hb13 (Below.dN w3 _)) hb6) hb7
          have hf2 := Below.tr (Below.tr (Below.tr hf1 (Below.dN w7 k8)) hb9) hb10
          have hf3 := Below.tr (Below.tr (Below.tr hf2 (Below.dN w10 k11)) hb12') hb13'
          exact ⟨rfl, Below.tr hf3 (Below.dN w13 k14)⟩
    · have hst' : ((s < t ∧ U = -1) ∨ ((s ≤ t ∧ t ≤ s) ∧ U = 0) ∨ (t < s ∧ U = 1)) := by omega
      clear hst
      rcases hst' with ⟨hst, rfl⟩ | ⟨⟨hst, hst2⟩, rfl⟩ | ⟨hst, rfl⟩
      all_goals
          have hww : (W == W) = true := by simp
          go_wp2_with fail
          refine (key_any (Rd.redrew (ha3.drewN 0) _) (by omega) hs).mono ?_
          rintro e w6 ⟨v6, rfl, ho6, hb6⟩
          go_wp2_with fail
          refine (key_any ((Rd.redrew (hb3r.drewN 0) _).below hb6 (Nat.le_refl _)) (by omega) ht).mono ?_
          rintro e w7 ⟨v7, rfl, ho7, hb7⟩
          go_wp2_with fail
          refine (cmp_any (ho6.below hb7 (Nat.le_refl _)).rd ho7.rd).mono ?_
          rintro e w8 ⟨rfl, k8, rfl⟩
          rw [hW]
          go_wp2_with fail
          refine (uint_any s _ hs).mono ?_
          rintro e w9 ⟨v9, rfl, ho9, hb9⟩
          go_wp2_with fail
          refine (uint_any t _ ht).mono ?_
          rintro e w10 ⟨v10, rfl, ho10, hb10⟩
          go_wp2_with fail
          refine (cmp_any (ho9.below hb10 (Nat.le_refl _)).rd ho10.rd).mono ?_
          rintro e w11 ⟨rfl, k11, rfl⟩
          rw [M.be_cmp 8 s t (by omega) (by omega), hU]
          go_wp2_with fail
          refine (desc_any s _ hs).mono ?_
          rintro e w12 ⟨v12, rfl, ho12, hb12'⟩
          go_wp2_with fail
          refine (desc_any t _ ht).mono ?_
          rintro e w13 ⟨v13, rfl, ho13, hb13'⟩
          go_wp2_with fail
          refine (cmp_any (ho12.below hb13' (Nat.le_refl _)).rd ho13.rd).mono ?_
          rintro e w14 ⟨rfl, k14, rfl⟩
          rw [M.be_cmp 8 _ _ (by omega) (by omega), hD]
          go_wp2_with fail
          go_ret
          have hf1 := Below.tr (Below.tr (Below.tr hb13 (Below.dN w3 _)) hb6) hb7
          have hf2 := Below.tr (Below.tr (Below.tr hf1 (Below.dN w7 k8)) hb9) hb10
          have hf3 := Below.tr (Below.tr (Below.tr hf2 (Below.dN w10 k11)) hb12') hb13'
          exact ⟨rfl, Below.tr hf3 (Below.dN w13 k14)⟩

theorem order_walk {va vb : Value} {la lb : List UInt8} {w : World} (ha : Rd w va la) (hla : la.length ≤ 1048576) (hb : Rd w vb lb) (hlb : lb.length ≤ 1048576) (s : Nat) (hs : s < 18446744073709551616) (t : Nat) (ht : t < 18446744073709551616) :
    Calls Try.prog 4 #[va, vb, .int .u64 s, .int .u64 t] w fun e w' => e = .returned (.bool true) ∧ Below w.heap.size w w' := by
  have hN : (s < t ∧ M.cmpN s t = -1 ∧ M.cmpN (18446744073709551615 - s) (18446744073709551615 - t) = 1) ∨ (s = t ∧ M.cmpN s t = 0 ∧ M.cmpN (18446744073709551615 - s) (18446744073709551615 - t) = 0) ∨ (t < s ∧ M.cmpN s t = 1 ∧ M.cmpN (18446744073709551615 - s) (18446744073709551615 - t) = -1) := by
    rcases Nat.lt_trichotomy s t with h | h | h
    · refine .inl ⟨h, ?_, ?_⟩
      · unfold M.cmpN; rw [if_pos h]
      · unfold M.cmpN; rw [if_neg (show ¬ 18446744073709551615 - s < 18446744073709551615 - t by omega), if_pos (show 18446744073709551615 - t < 18446744073709551615 - s by omega)]
    · subst h
      refine .inr (.inl ⟨rfl, ?_, ?_⟩) <;> (unfold M.cmpN; rw [if_neg (Nat.lt_irrefl _), if_neg (Nat.lt_irrefl _)])
    · refine .inr (.inr ⟨h, ?_, ?_⟩)
      · unfold M.cmpN; rw [if_neg (show ¬ s < t by omega), if_pos h]
      · unfold M.cmpN; rw [if_pos (show 18446744073709551615 - s < 18446744073709551615 - t by omega)]
  by_cases hab : la = lb
  · subst hab
    refine order_core ha hla hb hlb s hs t ht _ _ _ (M.cmpL_self la) (key_same la s t) rfl ?_ (.inl ⟨rfl, rfl, ?_⟩)
    · omega
    · omega
  · have hz : M.cmpL la lb ≠ 0 := fun e => hab (M.cmpL_zero e)
    have h3 := cmpL_three la lb
    refine order_core ha hla hb hlb s hs t ht _ _ _ rfl (key_other la lb s t hab) rfl ?_ (.inr ⟨by omega, hab, rfl, ?_⟩)
    · omega
    · omega

namespace codecOrderUpto
theorem own : ownKnob Try.prog.godebug = none := by kernel_rfl
theorem laidOut : laidOutB Try.prog = true := by kernel_rfl

theorem contract (H : Type) (enc : TypeId × Value → H) (W : World) (base : Nat) (args : Array Value) (ds gs : List (DataW H)) (before : List MemPlace)
    (hval : ∀ (j : Nat) t v, Try.f4.params[j]? = some t → args[j]? = some v → Value.okWide Try.prog W .any base t v)
    (hW : DataW.Whole enc Try.prog Try.f4.params.toList Rows.codecOrderSpec.vars false W args.toList ds gs before) (hk : Rows.uptoSmall H (ds ++ gs) = true) :
    Calls Try.prog 4 args W fun e W' => ∃ v, e = .returned v ∧ Rows.codecOrderSpec.post enc Try.prog Try.f4 false true false false W args v W' := by
  have hW' := hW
  obtain ⟨p, q, hA0, hV, rfl, hfz, hnd⟩ := hW
  have hA : DataW.TrodAll enc Try.prog W 0 (fun _ => true) true Try.f4.params.toList args.toList ds p := hA0
  rw [Try.params4] at hA hval
  obtain ⟨v0, vs0, d0, ds0, p0, q0, hargs, rfl, rfl, h0, r0⟩ := trodAll_cons hA
  obtain ⟨v1, vs1, d1, ds1, p1, q1, rfl, rfl, rfl, h1, r1⟩ := trodAll_cons r0
  obtain ⟨v2, vs2, d2, ds2, p2, q2, rfl, rfl, rfl, h2, r2⟩ := trodAll_cons r1
  obtain ⟨v3, vs3, d3, ds3, p3, q3, rfl, rfl, rfl, h3, r3⟩ := trodAll_cons r2
  obtain ⟨rfl, rfl, rfl⟩ := trodAll_nil r3
  obtain rfl : args = #[v0, v1, v2, v3] := by cases args; simp_all
  obtain ⟨rfl, rfl⟩ := trodVars_none hV
  have hbulk : Rows.uptoBulkAll ([d0, d1, d2, d3] ++ ([] : List (DataW H))) ≤ 1048576 := of_decide_eq_true hk
  simp only [List.append_nil, Rows.uptoBulkAll] at hbulk
  obtain ⟨a0, len0, cap0, rfl⟩ := okWide_slice Try.underlying25 (hval 0 25 v0 rfl rfl)
  have k0 := h0
  have lt0 : ∀ x ∈ p0, x.block < W.heap.size := by obtain ⟨m, hm⟩ := k0; exact DataW.trod_lt m _ _ _ hm
  obtain ⟨l0, hr0, hlen0, zs0, hz0⟩ := open_bytes h0
  have hl0 : l0.length ≤ Rows.uptoBulk d0 := by
    rcases hz0 with ⟨_, h⟩ | ⟨hd, hzl, hle⟩
    · omega
    · subst hd
      have := bulk_ge (H := H) (lits .u8 (zs0.take len0))
      simp only [Rows.uptoBulk]
      simp only [lits, List.length_map, List.length_take] at this
      simp only [lits]
      omega
  obtain ⟨a1, len1, cap1, rfl⟩ := okWide_slice Try.underlying25 (hval 1 25 v1 rfl rfl)
  have k1 := h1
  have lt1 : ∀ x ∈ p1, x.block < W.heap.size := by obtain ⟨m, hm⟩ := k1; exact DataW.trod_lt m _ _ _ hm
  obtain ⟨l1, hr1, hlen1, zs1, hz1⟩ := open_bytes h1
  have hl1 : l1.length ≤ Rows.uptoBulk d1 := by
    rcases hz1 with ⟨_, h⟩ | ⟨hd, hzl, hle⟩
    · omega
    · subst hd
      have := bulk_ge (H := H) (lits .u8 (zs1.take len1))
      simp only [Rows.uptoBulk]
      simp only [lits, List.length_map, List.length_take] at this
      simp only [lits]
      omega
  obtain ⟨x2, rfl, rfl, rfl, w2⟩ := open_int Try.underlying31 (hval 2 31 v2 rfl rfl) h2
  have hx2 : 0 ≤ x2 ∧ x2 ≤ 18446744073709551615 := by simpa [Lit.wf, IntKind.min, IntKind.max, IntKind.signed, IntKind.bits] using w2
  obtain ⟨n2, rfl⟩ := Int.eq_ofNat_of_zero_le hx2.1
  obtain ⟨x3, rfl, rfl, rfl, w3⟩ := open_int Try.underlying31 (hval 3 31 v3 rfl rfl) h3
  have hx3 : 0 ≤ x3 ∧ x3 ≤ 18446744073709551615 := by simpa [Lit.wf, IntKind.min, IntKind.max, IntKind.signed, IntKind.bits] using w3
  obtain ⟨n3, rfl⟩ := Int.eq_ofNat_of_zero_le hx3.1
  clear hA0
  refine (order_walk hr0 (by omega) hr1 (by omega) n2 (by omega) n3 (by omega)).mono fun e W' ⟨he, bel⟩ => ?_
  subst he
  exact ⟨_, rfl, _, _, _, [], _, [], hW', trodAll_mk1 (shut_bool Try.underlying4 _), (trodAll_cons_mk (Below.trod laidOut (by kernel_rfl) (of_decide_eq_true (by kernel_rfl)) k0 bel lt0) (trodAll_cons_mk (Below.trod laidOut (by kernel_rfl) (of_decide_eq_true (by kernel_rfl)) k1 bel lt1) (trodAll_cons_mk (shut_int Try.underlying31 w2) (trodAll_cons_mk (shut_int Try.underlying31 w3) trodAll_mk0)))), rfl, bel.frame _, fun h => by cases h⟩

theorem lifted (os : Os) (started : os.Started) (H : Type) (enc : TypeId × Value → H) (F : Stop.Interp) :
    ReturnsInHanded {} Try.checked os 4 .any ((Rows.OpenSpec.upto Rows.codecOrderSpec).pre6 enc Try.prog Try.f4 Rows.codecOrderUptoRow.domain false) (((Rows.OpenSpec.upto Rows.codecOrderSpec).at F).post enc Try.prog Try.f4 false true false false) := by
  refine returnsInHanded_of_cond (C := Try.checked) (s := Rows.OpenSpec.upto Rows.codecOrderSpec) (k := Rows.uptoSmall) rfl own started (by kernel_rfl) Try.func4
    (OpenSpec.witness (enc := enc) (C := Try.checked) (s := Rows.OpenSpec.upto Rows.codecOrderSpec) (k := Rows.uptoSmall) rfl false ⟨#[], #[.slice none 0 0, .slice none 0 0, .int .u64 0, .int .u64 0], []⟩ 8 (by kernel_rfl) (by kernel_rfl) (by kernel_rfl)
      (x := ([.nil, .nil, .lit (.int .u64 0), .lit (.int .u64 0)], [], [])) (by kernel_rfl) rfl (by kernel_rfl)) ?_
  intro W base args ds gs before hval hW _ hk _
  exact contract H enc W base args ds gs before hval hW hk
end codecOrderUpto

/-- The statement. -/
theorem codecOrderUpto_holds : Rows.CodecOrderUptoSaid :=
  OpenClaim.holds_of_cond 4 Try.f4 rfl rfl rfl rfl rfl rfl rfl ⟨rfl, rfl, rfl, rfl, rfl⟩ rfl rfl rfl rfl rfl (by kernel_rfl) Try.func4 (by kernel_rfl)
    (of_decide_eq_true (by kernel_rfl)) (by unfold Func.isWrapper; first | (rw [if_pos (by decide +kernel)]; kernel_rfl) | (rw [if_neg (by decide +kernel)]; exact ⟨rfl, rfl⟩))
    (fun os started H enc _ F => codecOrderUpto.lifted os started H enc F)
#print axioms codecOrderUpto_holds
end Go.Proofs.Ytbajnekhpnpbbab
