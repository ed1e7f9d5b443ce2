/- Proved here: CodecTakes answers true for every text of bytes: TakeUint, TakeDesc and TakeVarint read what the document reads and refuse what it refuses, in new memory, and the bytes stay; no condition. -/
import Derived.Test.YtbajnekhpnpbbaaArgs
import Derived.Test.YtbajnekhpnpbbaaRTakes
import Derived.Test.YtbajnekhpnpbbaaDone
namespace Go.Proofs.Ytbajnekhpnpbbaa
open Go.ChangeShapes Go.WideShapes Go.ChangeAt Go.RowKit
set_option linter.unusedVariables false
set_option maxRecDepth 100000

set_option maxHeartbeats 2000000 in
theorem takes_walk {v : Value} {l : List UInt8} {w : World} (hr : Rd w v l) (hl : l.length ≤ 140737488351232) :
    Calls Try.prog 4 #[v] w fun e w' => e = .returned (.bool true) ∧ Below w.heap.size w w' := by
  go_enter Try.func4, Try.ntmps4
  go_wp2_with fail
  refine (awake_any _).mono ?_
  rintro e wa ⟨rfl, hba⟩
  have hBa : w.heap.size ≤ wa.heap.size := hba.size
  have hbk0 := Bk.new wa 31 hBa
  have hb0 : Below w.heap.size w (wa.alloc (.cells #[.slice none 0 0, .slice none 0 0] 31)) := Below.tr hba (Below.al _ _)
  have hR00 := RdB.of hr hb0
  have HK : Hid _ := And.intro hbk0 (And.intro hb0 hR00)
  clear hbk0 hb0 hR00
  go_wp2_with fail
  go_loopw [4, 5, 6, 7, 8, 9, 10, 11, 12] (fun i _ _ _ _ _ _ _ _ wr => ∃ (n : Nat) (D : Nat → Prop) (rs : List (Value × UInt8)), n ≤ 3 ∧ rs.length ≤ 3 * n ∧ i = .int .i64 n ∧ Bk w.heap.size wa.heap.size D rs wr ∧ Below w.heap.size w wr ∧ RdB w.heap.size wr v l) (fun i _ _ _ _ _ _ _ _ _ => 3 - (intOf i).toNat)
  case atStart => exact ⟨0, _, [], by omega, by simp, rfl, HK.out.1, HK.out.2.1, HK.out.2.2⟩
  case round =>
    obtain ⟨n, D, rs, hn, hrs, rfl, hbk, hbw, hR0⟩ := hrel
    have hB0 : w.heap.size ≤ wr.heap.size := hbw.size
    by_cases hlt : n < 3
    · rcases (show n = 0 ∨ n = 1 ∨ n = 2 by omega) with rfl | rfl | rfl
      · clear hlt hn HK
        go_wp2_with fail
        refine (lend_new hR0 (by omega) hB0 _).mono ?_
        rintro e w1 ⟨p, rfl, hp1, hs1, hb1⟩
        have hR1 := hR0.next (hb1.mono hB0)
        go_wp2_with fail
        refine (takeU_any hp1 (by omega)).mono ?_
        rintro e w2 ⟨v2, rfl, ho2, hb2⟩
        have hB1 : w.heap.size ≤ w1.heap.size := Nat.le_trans hB0 hb1.size
        have hR2 := hR1.next (hb2.mono hB1)
        have hp2 := hp1.below hb2 (Nat.le_refl _)
        have hB2 : w.heap.size ≤ w2.heap.size := Nat.le_trans hB1 hb2.size
        go_wp2_with fail
        refine (rtakeU_any hR2.now (by omega)).mono ?_
        rintro e w3 ⟨v3, rfl, ho3, hb3⟩
        have hR3 := hR2.next (hb3.mono hB2)
        have hB3 : w.heap.size ≤ w3.heap.size := Nat.le_trans hB2 hb3.size
        have hb13 : Below w1.heap.size w1 w3 := Below.tr hb2 hb3
        have hs3 := hs1.next hb13
        have ho2' := ho2.below hb3 (Nat.le_refl _)
        have hnn : (((tu l).1 : Int) != ((tu l).1 : Int)) = false := by simp
        have hne : (((tu l).2.2 : Int) != ((tu l).2.2 : Int)) = false := by simp
        go_wp2_with fail
        refine (back_new hs3 hR3 (by omega) hB0).mono ?_
        rintro e w6 ⟨rfl, hg6, hb6⟩
        have hR6 := hR3.next hb6
        have hlt6 := hs1.blk.lt
        have hx6 := ho2'.kept hg6 hlt6
        have hy6 := ho3.kept hg6 (Nat.lt_of_lt_of_le hlt6 hb2.size)
        go_wp2_with fail
        refine (num_any _ _).mono ?_
        rintro e w7 ⟨rfl, rfl⟩
        go_wp2_with fail
        refine (same_any hx6.rd hy6.rd).mono ?_
        rintro e w8 ⟨rfl, k8, rfl⟩
        rw [decide_eq_true rfl]
        have hb06 : Below wr.heap.size wr w6 := by
          have e1 : Below wr.heap.size w3 w6 := grown_below hg6 (by omega) (Nat.le_trans hb1.size hb13.size)
          exact (hb1.trans (hb13.mono hb1.size)).trans e1
        have hbk8 : Bk w.heap.size wa.heap.size D rs (w6.drewN k8) := hbk.next (S := fun b => wr.heap.size ≤ b) (Chg.of_below (Below.tr hb06 (Below.dN _ _))) (fun b hd => by have := hbk.dlt b hd; omega)
        go_wp2_with fail
        refine (own_any hbk8 ((hx6.mono hb1.size).drewN k8) hB0 (fun b e hd => ?_) (by omega)).mono ?_
        · have q1 := (World.ownsRow.lt (hx6.mono hb1.size) b e).1
          have q2 := hbk.dlt b hd
          omega
        rintro e w9 ⟨rfl, ⟨r, hbk9⟩, hch⟩
        have hbB : Below w.heap.size (w6.drewN k8) w9 := hch.below (fun b hb => by
          rcases hb with hb | hb
          · exact hbk.dB b hb
          · have := (World.ownsRow.lt (hx6.mono hb1.size) b hb).1; omega) (Nat.le_trans hB0 hb06.size)
        go_wp2_with fail
        refine ⟨⟨1, _, rs ++ [r], by omega, by simp; omega, by go_num, hbk9, ?_, ?_⟩, by simp [intOf]⟩
        · exact hbw.trans ((hb06.mono hB0).trans ((Below.dN w6 k8).mono (Nat.le_trans hB0 hb06.size) |>.trans hbB))
        · exact (hR6.next ((Below.dN w6 k8).mono (Nat.le_trans hB0 hb06.size))).next hbB
      · clear hlt hn HK
        go_wp2_with fail
        refine (lend_new hR0 (by omega) hB0 _).mono ?_
        rintro e w1 ⟨p, rfl, hp1, hs1, hb1⟩
        have hR1 := hR0.next (hb1.mono hB0)
        go_wp2_with fail
        refine (takeU_any hp1 (by omega)).mono ?_
        rintro e w2 ⟨v2, rfl, ho2, hb2⟩
        have hB1 : w.heap.size ≤ w1.heap.size := Nat.le_trans hB0 hb1.size
        have hR2 := hR1.next (hb2.mono hB1)
        have hp2 := hp1.below hb2 (Nat.le_refl _)
        have hB2 : w.heap.size ≤ w2.heap.size := Nat.le_trans hB1 hb2.size
        go_wp2_with fail
        refine (rtakeU_any hR2.now (by omega)).mono ?_
        rintro e w3 ⟨v3, rfl, ho3, hb3⟩
        have hR3 := hR2.next (hb3.mono hB2)
        have hB3 : w.heap.size ≤ w3.heap.size := Nat.le_trans hB2 hb3.size
        have hb13 : Below w1.heap.size w1 w3 := Below.tr hb2 hb3
        have hp3 := hp2.below hb3 (Nat.le_refl _)
        go_wp2_with fail
        refine (takeD_any hp3 (by omega)).mono ?_
        rintro e w4 ⟨v4, rfl, ho4, hb4⟩
        have hR4 := hR3.next (hb4.mono hB3)
        have hB4 : w.heap.size ≤ w4.heap.size := Nat.le_trans hB3 hb4.size
        go_wp2_with fail
        refine (rtakeD_any hR4.now (by omega)).mono ?_
        rintro e w5 ⟨v5, rfl, ho5, hb5⟩
        have hR5 := hR4.next (hb5.mono hB4)
        have hB5 : w.heap.size ≤ w5.heap.size := Nat.le_trans hB4 hb5.size
        have hb15 : Below w1.heap.size w1 w5 := Below.tr (Below.tr hb13 hb4) hb5
        have hs5 := hs1.next hb15
        have ho4' := (ho4.below hb5 (Nat.le_refl _)).mono (Below.tr hb2 hb3).size
        have hnn : (((td l).1 : Int) != ((td l).1 : Int)) = false := by simp
        have hne : (((td l).2.2 : Int) != ((td l).2.2 : Int)) = false := by simp
        go_wp2_with fail
        refine (back_new hs5 hR5 (by omega) hB0).mono ?_
        rintro e w6 ⟨rfl, hg6, hb6⟩
        have hR6 := hR5.next hb6
        have hlt6 := hs1.blk.lt
        have hx6 := ho4'.kept hg6 hlt6
        have hy6 := ho5.kept hg6 (Nat.lt_of_lt_of_le hlt6 (Below.tr (Below.tr hb2 hb3) hb4).size)
        go_wp2_with fail
        refine (num_any _ _).mono ?_
        rintro e w7 ⟨rfl, rfl⟩
        go_wp2_with fail
        refine (same_any hx6.rd hy6.rd).mono ?_
        rintro e w8 ⟨rfl, k8, rfl⟩
        rw [decide_eq_true rfl]
        have hb06 : Below wr.heap.size wr w6 := by
          have e1 : Below wr.heap.size w5 w6 := grown_below hg6 (by omega) (Nat.le_trans hb1.size hb15.size)
          exact (hb1.trans (hb15.mono hb1.size)).trans e1
        have hbk8 : Bk w.heap.size wa.heap.size D rs (w6.drewN k8) := hbk.next (S := fun b => wr.heap.size ≤ b) (Chg.of_below (Below.tr hb06 (Below.dN _ _))) (fun b hd => by have := hbk.dlt b hd; omega)
        go_wp2_with fail
        refine (own_any hbk8 ((hx6.mono hb1.size).drewN k8) hB0 (fun b e hd => ?_) (by omega)).mono ?_
        · have q1 := (World.ownsRow.lt (hx6.mono hb1.size) b e).1
          have q2 := hbk.dlt b hd
          omega
        rintro e w9 ⟨rfl, ⟨r, hbk9⟩, hch⟩
        have hbB : Below w.heap.size (w6.drewN k8) w9 := hch.below (fun b hb => by
          rcases hb with hb | hb
          · exact hbk.dB b hb
          · have := (World.ownsRow.lt (hx6.mono hb1.size) b hb).1; omega) (Nat.le_trans hB0 hb06.size)
        go_wp2_with fail
        refine ⟨⟨2, _, rs ++ [r], by omega, by simp; omega, by go_num, hbk9, ?_, ?_⟩, by simp [intOf]⟩
        · exact hbw.trans ((hb06.mono hB0).trans ((Below.dN w6 k8).mono (Nat.le_trans hB0 hb06.size) |>.trans hbB))
        · exact (hR6.next ((Below.dN w6 k8).mono (Nat.le_trans hB0 hb06.size))).next hbB
      · clear hlt hn HK
        go_wp2_with fail
        refine (lend_new hR0 (by omega) hB0 _).mono ?_
        rintro e w1 ⟨p, rfl, hp1, hs1, hb1⟩
        have hR1 := hR0.next (hb1.mono hB0)
        go_wp2_with fail
        refine (takeU_any hp1 (by omega)).mono ?_
        rintro e w2 ⟨v2, rfl, ho2, hb2⟩
        have hB1 : w.heap.size ≤ w1.heap.size := Nat.le_trans hB0 hb1.size
        have hR2 := hR1.next (hb2.mono hB1)
        have hp2 := hp1.below hb2 (Nat.le_refl _)
        have hB2 : w.heap.size ≤ w2.heap.size := Nat.le_trans hB1 hb2.size
        go_wp2_with fail
        refine (rtakeU_any hR2.now (by omega)).mono ?_
        rintro e w3 ⟨v3, rfl, ho3, hb3⟩
        have hR3 := hR2.next (hb3.mono hB2)
        have hB3 : w.heap.size ≤ w3.heap.size := Nat.le_trans hB2 hb3.size
        have hb13 : Below w1.heap.size w1 w3 := Below.tr hb2 hb3
        have hp3 := hp2.below hb3 (Nat.le_refl _)
        go_wp2_with fail
        refine (takeV_any hp3 (by omega)).mono ?_
        rintro e w4 ⟨v4, rfl, ho4, hb4⟩
        have hR4 := hR3.next (hb4.mono hB3)
        have hB4 : w.heap.size ≤ w4.heap.size := Nat.le_trans hB3 hb4.size
        go_wp2_with fail
        refine (rtakeV_any hR4.now (by omega)).mono ?_
        rintro e w5 ⟨v5, rfl, ho5, hb5⟩
        have hR5 := hR4.next (hb5.mono hB4)
        have hB5 : w.heap.size ≤ w5.heap.size := Nat.le_trans hB4 hb5.size
        have hb15 : Below w1.heap.size w1 w5 := Below.tr (Below.tr hb13 hb4) hb5
        have hs5 := hs1.next hb15
        have ho4' := (ho4.below hb5 (Nat.le_refl _)).mono (Below.tr hb2 hb3).size
        have hnn : (((M.tv l).1 : Int) != ((M.tv l).1 : Int)) = false := by simp
        have hne : (((M.tv l).2.2 : Int) != ((M.tv l).2.2 : Int)) = false := by simp
        go_wp2_with fail
        refine (back_new hs5 hR5 (by omega) hB0).mono ?_
        rintro e w6 ⟨rfl, hg6, hb6⟩
        have hR6 := hR5.next hb6
        have hlt6 := hs1.blk.lt
        have hx6 := ho4'.kept hg6 hlt6
        have hy6 := ho5.kept hg6 (Nat.lt_of_lt_of_le hlt6 (Below.tr (Below.tr hb2 hb3) hb4).size)
        go_wp2_with fail
        refine (num_any _ _).mono ?_
        rintro e w7 ⟨rfl, rfl⟩
        go_wp2_with fail
        refine (same_any hx6.rd hy6.rd).mono ?_
        rintro e w8 ⟨rfl, k8, rfl⟩
        rw [decide_eq_true rfl]
        have hb06 : Below wr.heap.size wr w6 := by
          have e1 : Below wr.heap.size w5 w6 := grown_below hg6 (by omega) (Nat.le_trans hb1.size hb15.size)
          exact (hb1.trans (hb15.mono hb1.size)).trans e1
        have hbk8 : Bk w.heap.size wa.heap.size D rs (w6.drewN k8) := hbk.next (S := fun b => wr.heap.size ≤ b) (Chg.of_below (Below.tr hb06 (Below.dN _ _))) (fun b hd => by have := hbk.dlt b hd; omega)
        go_wp2_with fail
        refine (own_any hbk8 ((hx6.mono hb1.size).drewN k8) hB0 (fun b e hd => ?_) (by omega)).mono ?_
        · have q1 := (World.ownsRow.lt (hx6.mono hb1.size) b e).1
          have q2 := hbk.dlt b hd
          omega
        rintro e w9 ⟨rfl, ⟨r, hbk9⟩, hch⟩
        have hbB : Below w.heap.size (w6.drewN k8) w9 := hch.below (fun b hb => by
          rcases hb with hb | hb
          · exact hbk.dB b hb
          · have := (World.ownsRow.lt (hx6.mono hb1.size) b hb).1; omega) (Nat.le_trans hB0 hb06.size)
        go_wp2_with fail
        refine ⟨⟨3, _, rs ++ [r], by omega, by simp; omega, by go_num, hbk9, ?_, ?_⟩, by simp [intOf]⟩
        · exact hbw.trans ((hb06.mono hB0).trans ((Below.dN w6 k8).mono (Nat.le_trans hB0 hb06.size) |>.trans hbB))
        · exact (hR6.next ((Below.dN w6 k8).mono (Nat.le_trans hB0 hb06.size))).next hbB
    · clear HK
      go_wp2_with fail
      refine (done_any hbk (by omega)).mono ?_
      rintro e w9 ⟨rfl, k9, rfl⟩
      go_wp2_with fail
      go_ret
      exact ⟨rfl, hbw.trans ((Below.dN wr k9).mono hB0)⟩

namespace codecTakes
theorem own : ownKnob Try.prog.godebug = none := by kernel_rfl
theorem laidOut : laidOutB Try.prog = true := by kernel_rfl

theorem lifted (os : Os) (started : os.Started) (H : Type) (enc : TypeId × Value → H) :
    ReturnsInHanded {} Try.checked os 4 .any (Rows.codecTakesSpec.pre6 enc Try.prog Try.f4 Rows.codecTakesRow.domain false) (Rows.codecTakesSpec.post enc Try.prog Try.f4 false true false false) := by
  refine returnsInHanded_of_change_sized (C := Try.checked) own started (by kernel_rfl) Try.func4
    (ChangeSpec.witness6 (enc := enc) (C := Try.checked) false ⟨#[], #[.slice none 0 0], []⟩ 8 (by kernel_rfl) (by kernel_rfl) (by kernel_rfl) (by kernel_rfl)) ?_
  intro W base args ds gs before hval0 hW _ hsz0 _
  have hsz : (DataW.weightsEach Try.prog (Try.f4.params.toList ++ Rows.codecTakesSpec.plain.varTypes Try.prog) (ds ++ gs)).all (· ≤ reachBytes) = true := hsz0
  have hval : ∀ (j : Nat) t v, Try.f4.params[j]? = some t → args[j]? = some v → Value.okWide Try.prog W .any base t v := hval0
  have hW' := hW
  obtain ⟨p, q, hA0, hV, rfl, hfz, hnd⟩ := hW
  have hA : DataW.TrodAll enc Try.prog W 0 (fun _ => true) true Try.f4.params.toList args.toList ds p := hA0
  rw [Try.params4] at hA hval hsz
  obtain ⟨v0, vs0, d0, ds0, p0, q0, hargs, rfl, rfl, h0, r0⟩ := trodAll_cons hA
  obtain ⟨rfl, rfl, rfl⟩ := trodAll_nil r0
  obtain rfl : args = #[v0] := by cases args; simp_all
  obtain ⟨rfl, rfl⟩ := trodVars_none hV
  obtain ⟨a0, len0, cap0, rfl⟩ := okWide_slice Try.underlying25 (hval 0 25 v0 rfl rfl)
  have k0 := h0
  have lt0 : ∀ x ∈ p0, x.block < W.heap.size := by obtain ⟨m, hm⟩ := k0; exact DataW.trod_lt m _ _ _ hm
  obtain ⟨l0, hr0, hlen0, zs0, hz0⟩ := open_bytes h0
  have hl0 : l0.length ≤ 140737488351232 := by
    rcases hz0 with ⟨_, h⟩ | ⟨hd, hzl, hle⟩
    · omega
    · subst hd
      have := sized_slice hsz (j := 0) (t := 25) (e := 5) rfl rfl Try.underlying25
      rw [Try.bytes5] at this
      simp only [lits, List.length_map, List.length_take, List.length_drop, reachBytes] at this
      omega
  clear hA0 hval0
  refine (takes_walk hr0 hl0).mono fun e W' ⟨he, bel⟩ => ?_
  subst he
  exact ⟨_, rfl, _, _, _, [], _, [], hW', trodAll_mk1 (shut_bool Try.underlying4 _), (trodAll_cons_mk (Below.trod laidOut (by kernel_rfl) (of_decide_eq_true (by kernel_rfl)) k0 bel lt0) trodAll_mk0), rfl, bel.frame _, fun h => by cases h⟩
end codecTakes

/-- The statement. -/
theorem codecTakes_holds : Rows.CodecTakesSaid :=
  OpenClaim.holds_of_wide 4 Try.f4 rfl rfl rfl rfl rfl rfl rfl ⟨rfl, rfl, rfl, rfl, rfl⟩ rfl rfl rfl rfl rfl (by kernel_rfl) Try.func4 (by kernel_rfl)
    (of_decide_eq_true (by kernel_rfl)) (by unfold Func.isWrapper; first | (rw [if_pos (by decide +kernel)]; kernel_rfl) | (rw [if_neg (by decide +kernel)]; exact ⟨rfl, rfl⟩))
    (fun os started H enc _ => codecTakes.lifted os started H enc)
#print axioms codecTakes_holds
end Go.Proofs.Ytbajnekhpnpbbaa
