/- Proved here: CodecSums answers true for every text of bytes: the sum and the frame are the document's, and the bytes that were handed in are not written; no condition. -/
import Derived.Test.YtbajnekhpnpbbaaArgs
import Derived.Test.YtbajnekhpnpbbaaBack
import Derived.Test.YtbajnekhpnpbbaaRSum
namespace Go.Proofs.Ytbajnekhpnpbbaa
open Go.ChangeShapes Go.WideShapes Go.ChangeAt Go.RowKit
set_option linter.unusedVariables false
set_option maxRecDepth 100000

set_option maxHeartbeats 400000 in
theorem sums_walk {v : Value} {l : List UInt8} {w : World} (hr : Rd w v l) (hl : l.length ≤ 140737488351232) :
    Calls Try.prog 7 #[v] w fun e w' => e = .returned (.bool true) ∧ Below w.heap.size w w' := by
  go_enter Try.func7, Try.ntmps7
  go_wp2_with fail
  refine (awake_any _).mono ?_
  rintro e w1 ⟨rfl, hb1⟩
  have hB1 : w.heap.size ≤ w1.heap.size := hb1.size
  have hR := RdB.of hr hb1
  go_wp2_with fail
  refine (lend_new hR (by omega) hB1 _).mono ?_
  rintro e w2 ⟨p, rfl, hp2, hs2, hb2⟩
  go_wp2_with fail
  refine (sum_any hp2).mono ?_
  rintro e w3 ⟨rfl, k3, rfl⟩
  go_wp2_with fail
  refine (frame_any (hp2.drewN k3) (by omega)).mono ?_
  rintro e w4 ⟨v4, rfl, ho4, hb4⟩
  have hb24 : Below w2.heap.size w2 w4 := Below.tr (Below.dN w2 k3) hb4
  have hs4 := hs2.next hb24
  have hR4 := (hR.next (hb2.mono hB1)).next (hb24.mono (Nat.le_trans hB1 hb2.size))
  go_wp2_with fail
  refine (back_new hs4 hR4 (by omega) hB1).mono ?_
  rintro e w5 ⟨rfl, hg5, hb5⟩
  have hR5 := hR4.next hb5
  have ho5 := ho4.kept hg5 hs2.blk.lt
  go_wp2_with fail
  refine (rsum_any hR5.now).mono ?_
  rintro e w6 ⟨rfl, k6, rfl⟩
  have heq : (((M.crc l : Nat) : Int) == ((M.crc l : Nat) : Int)) = true := by simp
  go_wp2_with fail
  refine (rframe_any (hR5.now.drewN k6) (by omega)).mono ?_
  rintro e w7 ⟨v7, rfl, ho7, hb7⟩
  have ho5' := (ho5.drewN k6).below hb7 (Nat.le_refl _)
  go_wp2_with fail
  refine (same_any ho5'.rd ho7.rd).mono ?_
  rintro e w8 ⟨rfl, k8, rfl⟩
  rw [decide_eq_true rfl]
  go_wp2_with fail
  go_ret
  have hB5 : w.heap.size ≤ w5.heap.size := Nat.le_trans (Nat.le_trans (Nat.le_trans hB1 hb2.size) hb24.size) hg5.size
  exact ⟨rfl, ((((hb1.trans (hb2.mono hB1)).trans (hb24.mono (Nat.le_trans hB1 hb2.size))).trans hb5).trans ((Below.tr (Below.tr (Below.dN w5 k6) hb7) (Below.dN w7 k8)).mono hB5))⟩

namespace codecSums
theorem own : ownKnob Try.prog.godebug = none := by kernel_rfl
theorem laidOut : laidOutB Try.prog = true := by kernel_rfl

theorem lifted (os : Os) (started : os.Started) (H : Type) (enc : TypeId × Value → H) :
    ReturnsInHanded {} Try.checked os 7 .any (Rows.codecSumsSpec.pre6 enc Try.prog Try.f7 Rows.codecSumsRow.domain false) (Rows.codecSumsSpec.post enc Try.prog Try.f7 false true false false) := by
  refine returnsInHanded_of_change_sized (C := Try.checked) own started (by kernel_rfl) Try.func7
    (ChangeSpec.witness6 (enc := enc) (C := Try.checked) false ⟨#[], #[.slice none 0 0], []⟩ 8 (by kernel_rfl) (by kernel_rfl) (by kernel_rfl) (by kernel_rfl)) ?_
  intro W base args ds gs before hval0 hW _ hsz0 _
  have hsz : (DataW.weightsEach Try.prog (Try.f7.params.toList ++ Rows.codecSumsSpec.plain.varTypes Try.prog) (ds ++ gs)).all (· ≤ reachBytes) = true := hsz0
  have hval : ∀ (j : Nat) t v, Try.f7.params[j]? = some t → args[j]? = some v → Value.okWide Try.prog W .any base t v := hval0
  have hW' := hW
  obtain ⟨p, q, hA0, hV, rfl, hfz, hnd⟩ := hW
  have hA : DataW.TrodAll enc Try.prog W 0 (fun _ => true) true Try.f7.params.toList args.toList ds p := hA0
  rw [Try.params7] at hA hval hsz
  obtain ⟨v0, vs0, d0, ds0, p0, q0, hargs, rfl, rfl, h0, r0⟩ := trodAll_cons hA
  obtain ⟨rfl, rfl, rfl⟩ := trodAll_nil r0
  obtain rfl : args = #[v0] := by cases args; simp_all
  obtain ⟨rfl, rfl⟩ := trodVars_none hV
  obtain ⟨a0, len0, cap0, rfl⟩ := okWide_slice Try.underlying25 (hval 0 25 v0 rfl rfl)
  have k0 := h0
  have lt0 : ∀ x ∈ p0, x.block < W.heap.size := by obtain ⟨m, hm⟩ := k0; exact DataW.trod_lt m _ _ _ hm
  obtain ⟨l0, hr0, hlen0, zs0, hz0⟩ := open_bytes h0
  have hl0 : l0.length ≤ 140737488351232 := by
    rcases hz0 with ⟨_, h⟩ | ⟨hd, hzl, hle⟩
    · omega
    · subst hd
      have := sized_slice hsz (j := 0) (t := 25) (e := 5) rfl rfl Try.underlying25
      rw [Try.bytes5] at this
      simp only [lits, List.length_map, List.length_take, List.length_drop, reachBytes] at this
      omega
  clear hA0 hval0
  refine (sums_walk hr0 hl0).mono fun e W' ⟨he, bel⟩ => ?_
  subst he
  exact ⟨_, rfl, _, _, _, [], _, [], hW', trodAll_mk1 (shut_bool Try.underlying4 _), (trodAll_cons_mk (Below.trod laidOut (by kernel_rfl) (of_decide_eq_true (by kernel_rfl)) k0 bel lt0) trodAll_mk0), rfl, bel.frame _, fun h => by cases h⟩
end codecSums

/-- The statement. -/
theorem codecSums_holds : Rows.CodecSumsSaid :=
  OpenClaim.holds_of_wide 7 Try.f7 rfl rfl rfl rfl rfl rfl rfl ⟨rfl, rfl, rfl, rfl, rfl⟩ rfl rfl rfl rfl rfl (by kernel_rfl) Try.func7 (by kernel_rfl)
    (of_decide_eq_true (by kernel_rfl)) (by unfold Func.isWrapper; first | (rw [if_pos (by decide +kernel)]; kernel_rfl) | (rw [if_neg (by decide +kernel)]; exact ⟨rfl, rfl⟩))
    (fun os started H enc _ => codecSums.lifted os started H enc)
#print axioms codecSums_holds
end Go.Proofs.Ytbajnekhpnpbbaa
