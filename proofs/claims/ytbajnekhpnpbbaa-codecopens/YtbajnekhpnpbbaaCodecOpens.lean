/- Proved here: CodecOpens answers true for every text of bytes: TakeBytes and TakeKey read what the document reads and refuse what it refuses, in new memory, and the bytes stay; no condition. -/
import Derived.Test.YtbajnekhpnpbbaaArgs
import Derived.Test.YtbajnekhpnpbbaaROpens
import Derived.Test.YtbajnekhpnpbbaaDone
namespace Go.Proofs.Ytbajnekhpnpbbaa
open Go.ChangeShapes Go.WideShapes Go.ChangeAt Go.RowKit
set_option linter.unusedVariables false
set_option maxRecDepth 100000

theorem Apart.symm {v u : Value} (h : Apart v u) (hb : u.ownBlock = none ∨ v.ownBlock ≠ u.ownBlock) : Apart u v := by
  rcases hb with q | q
  · exact .inl q
  · exact .inr (fun e => q e.symm)

set_option maxHeartbeats 2000000 in
theorem opens_walk {v : Value} {l : List UInt8} {w : World} (hr : Rd w v l) (hl : l.length ≤ 140737488351232) :
    Calls Try.prog 6 #[v] w fun e w' => e = .returned (.bool true) ∧ Below w.heap.size w w' := by
  go_enter Try.func6, Try.ntmps6
  go_wp2_with fail
  refine (awake_any _).mono ?_
  rintro e w1 ⟨rfl, hb1⟩
  have hB1 : w.heap.size ≤ w1.heap.size := hb1.size
  have hR1 := RdB.of hr hb1
  go_wp2_with fail
  refine (lend_new hR1 (by omega) hB1 _).mono ?_
  rintro e w2 ⟨p, rfl, hp2, hs2, hb2⟩
  have hB2 : w.heap.size ≤ w2.heap.size := Nat.le_trans hB1 hb2.size
  have hR2 := hR1.next (hb2.mono hB1)
  have hl2 := hs2.blk.lt
  go_wp2_with fail
  refine (takeB_any hp2 (by omega)).mono ?_
  rintro e w3 ⟨x, rest, rfl, hox, hor, haxr, hb3⟩
  have hB3 : w.heap.size ≤ w3.heap.size := Nat.le_trans hB2 hb3.size
  have hR3 := hR2.next (hb3.mono hB2)
  go_wp2_with fail
  refine (takeK_any (hp2.below hb3 (Nat.le_refl _)) (by omega)).mono ?_
  rintro e w4 ⟨y, rfl, hoy, hb4⟩
  have hB4 : w.heap.size ≤ w4.heap.size := Nat.le_trans hB3 hb4.size
  have hR4 := hR3.next (hb4.mono hB3)
  have haxy := hox.apart hoy (Nat.le_refl _)
  have hary := hor.apart hoy (Nat.le_refl _)
  go_wp2_with fail
  refine (rtakeB_any hR4.now (by omega)).mono ?_
  rintro e w5 ⟨u, left, rfl, hou, hol, _, hb5⟩
  have hB5 : w.heap.size ≤ w5.heap.size := Nat.le_trans hB4 hb5.size
  have hR5 := hR4.next (hb5.mono hB4)
  go_wp2_with fail
  refine (rtakeK_any hR5.now (by omega)).mono ?_
  rintro e w6 ⟨vv, rfl, hov, hb6⟩
  have hB6 : w.heap.size ≤ w6.heap.size := Nat.le_trans hB5 hb6.size
  have hR6 := hR5.next (hb6.mono hB5)
  have hb26 : Below w2.heap.size w2 w6 := Below.tr (Below.tr (Below.tr hb3 hb4) hb5) hb6
  have hb36 : Below w3.heap.size w3 w6 := Below.tr (Below.tr hb4 hb5) hb6
  have hb46 : Below w4.heap.size w4 w6 := Below.tr hb5 hb6
  have hbk := Bk.new (B := w.heap.size) w6 31 hB6
  have hal : Below w6.heap.size w6 (w6.alloc (.cells #[.slice none 0 0, .slice none 0 0] 31)) := Below.al _ _
  have HK : Hid _ := And.intro hbk (And.intro (hR6.next (hal.mono hB6)) (And.intro (hs2.next (Below.tr hb26 hal)) (And.intro (hox.below (Below.tr hb36 hal) (Nat.le_refl _)) (And.intro (hor.below (Below.tr hb36 hal) (Nat.le_refl _)) (And.intro (hoy.below (Below.tr hb46 hal) (Nat.le_refl _)) (And.intro ((hou.below (Below.tr hb6 hal) (Nat.le_refl _))) (And.intro (hol.below (Below.tr hb6 hal) (Nat.le_refl _)) (And.intro (hov.below hal (Nat.le_refl _)) ((hb1.trans (hb2.mono hB1)).trans ((Below.tr hb26 hal).mono hB2))))))))))
  clear hbk hal
  have s36 := hb36.size
  have s23 := hb3.size
  have s46 := hb46.size
  have s56 := hb6.size
  have s34 := hb4.size
  have s45 := hb5.size
  have hnn : (((M.tk l).2.1 : Int) == ((M.tk l).2.1 : Int)) = true := by simp
  have hn1 : (((M.tk l).2.2 : Int) == ((M.tk l).2.2 : Int)) = true := by simp
  have hn2 : (((M.tb l).2.2 : Int) == ((M.tb l).2.2 : Int)) = true := by simp
  go_wp2_with fail
  obtain ⟨hbk, hR7, hs7, hox7, hor7, hoy7, hou7, hol7, hov7, hw7⟩ := HK.out
  clear HK
  refine (back_new hs7 hR7 (by omega) hB1).mono ?_
  rintro e w8 ⟨rfl, hg8, hb8⟩
  have hw8 := hw7.trans hb8
  have hB8 := hw8.size
  have hbk8 := hbk.next (S := fun b => b = w1.heap.size + 1) (Chg.of_grown hg8 (fun b e _ => (Option.some.inj e).symm)) (fun b e => by omega)
  have hox8 := hox7.kept hg8 hl2
  have hor8 := hor7.kept hg8 hl2
  have hoy8 := hoy7.kept hg8 (by omega)
  have hou8 := hou7.kept hg8 (by omega)
  have hol8 := hol7.kept hg8 (by omega)
  have hov8 := hov7.kept hg8 (by omega)
  go_wp2_with fail
  refine (same_any hox8.rd hou8.rd).mono ?_
  rintro e w9 ⟨rfl, k9, rfl⟩
  rw [decide_eq_true rfl]
  go_wp2_with fail
  refine (same_any (hor8.rd.drewN k9) (hol8.rd.drewN k9)).mono ?_
  rintro e w10 ⟨rfl, k10, rfl⟩
  rw [decide_eq_true rfl]
  go_wp2_with fail
  refine (num_any _ _).mono ?_
  rintro e w11 ⟨rfl, rfl⟩
  go_wp2_with fail
  refine (same_any (Rd.redrew (hoy8.rd.drewN 0) _) (Rd.redrew (hov8.rd.drewN 0) _)).mono ?_
  rintro e w12 ⟨rfl, k12, rfl⟩
  rw [decide_eq_true rfl]
  go_wp2_with fail
  refine (num_any _ _).mono ?_
  rintro e w13 ⟨rfl, rfl⟩
  have q3 : ∀ b, x.ownBlock = some b → b < w3.heap.size := fun b e => (World.ownsRow.lt hox b e).2
  have q4 : ∀ b, rest.ownBlock = some b → b < w3.heap.size := fun b e => (World.ownsRow.lt hor b e).2
  have q5 : ∀ b, y.ownBlock = some b → b < w4.heap.size := fun b e => (World.ownsRow.lt hoy b e).2
  have hbkW := hbk8.next (Chg.of_below (Below.dN w8 (k9 + k10 + k12))) (fun b e => by have := hbk8.dlt b e; omega)
  have sx : Stays (fun b => b = w6.heap.size) w2.heap.size (w8.drewN (k9 + k10 + k12)) x (M.tb l).1 := ⟨hox8.drewN _, fun b e hd => by have := q3 b e; omega⟩
  have sr : Stays (fun b => b = w6.heap.size) w2.heap.size (w8.drewN (k9 + k10 + k12)) rest (M.tb l).2.1 := ⟨hor8.drewN _, fun b e hd => by have := q4 b e; omega⟩
  have sy : Stays (fun b => b = w6.heap.size) w3.heap.size (w8.drewN (k9 + k10 + k12)) y (M.tk l).1 := ⟨hoy8.drewN _, fun b e hd => by have := q5 b e; omega⟩
  have hwW : Below w.heap.size w (w8.drewN (k9 + k10 + k12)) := hw8.trans ((Below.dN _ _).mono hB8)
  clear hox8 hor8 hoy8 hou8 hol8 hov8 hox7 hor7 hoy7 hou7 hol7 hov7 hbk hbk8 hs7 hR7
  go_wp2_with fail
  refine (own_step hbkW sx hB2 (by simp)).mono ?_
  rintro e w14 ⟨rfl, ⟨r1, hbk14⟩, hch14, hbl14⟩
  have sr14 := sr.next hch14 haxr
  have sy14 := sy.next hch14 haxy
  go_wp2_with fail
  refine (own_step hbk14 sr14 hB2 (by simp)).mono ?_
  rintro e w15 ⟨rfl, ⟨r2, hbk15⟩, hch15, hbl15⟩
  have sy15 := sy14.next hch15 hary
  go_wp2_with fail
  refine (own_step hbk15 sy15 hB3 (by simp)).mono ?_
  rintro e w16 ⟨rfl, ⟨r3, hbk16⟩, hch16, hbl16⟩
  go_wp2_with fail
  refine (done_any hbk16 (by simp)).mono ?_
  rintro e w17 ⟨rfl, k17, rfl⟩
  go_wp2_with fail
  go_ret
  have hfin := ((hwW.trans hbl14).trans hbl15).trans hbl16
  exact ⟨rfl, hfin.trans ((Below.dN w16 k17).mono hfin.size)⟩

namespace codecOpens
theorem own : ownKnob Try.prog.godebug = none := by kernel_rfl
theorem laidOut : laidOutB Try.prog = true := by kernel_rfl

theorem lifted (os : Os) (started : os.Started) (H : Type) (enc : TypeId × Value → H) :
    ReturnsInHanded {} Try.checked os 6 .any (Rows.codecOpensSpec.pre6 enc Try.prog Try.f6 Rows.codecOpensRow.domain false) (Rows.codecOpensSpec.post enc Try.prog Try.f6 false true false false) := by
  refine returnsInHanded_of_change_sized (C := Try.checked) own started (by kernel_rfl) Try.func6
    (ChangeSpec.witness6 (enc := enc) (C := Try.checked) false ⟨#[], #[.slice none 0 0], []⟩ 8 (by kernel_rfl) (by kernel_rfl) (by kernel_rfl) (by kernel_rfl)) ?_
  intro W base args ds gs before hval0 hW _ hsz0 _
  have hsz : (DataW.weightsEach Try.prog (Try.f6.params.toList ++ Rows.codecOpensSpec.plain.varTypes Try.prog) (ds ++ gs)).all (· ≤ reachBytes) = true := hsz0
  have hval : ∀ (j : Nat) t v, Try.f6.params[j]? = some t → args[j]? = some v → Value.okWide Try.prog W .any base t v := hval0
  have hW' := hW
  obtain ⟨p, q, hA0, hV, rfl, hfz, hnd⟩ := hW
  have hA : DataW.TrodAll enc Try.prog W 0 (fun _ => true) true Try.f6.params.toList args.toList ds p := hA0
  rw [Try.params6] at hA hval hsz
  obtain ⟨v0, vs0, d0, ds0, p0, q0, hargs, rfl, rfl, h0, r0⟩ := trodAll_cons hA
  obtain ⟨rfl, rfl, rfl⟩ := trodAll_nil r0
  obtain rfl : args = #[v0] := by cases args; simp_all
  obtain ⟨rfl, rfl⟩ := trodVars_none hV
  obtain ⟨a0, len0, cap0, rfl⟩ := okWide_slice Try.underlying25 (hval 0 25 v0 rfl rfl)
  have k0 := h0
  have lt0 : ∀ x ∈ p0, x.block < W.heap.size := by obtain ⟨m, hm⟩ := k0; exact DataW.trod_lt m _ _ _ hm
  obtain ⟨l0, hr0, hlen0, zs0, hz0⟩ := open_bytes h0
  have hl0 : l0.length ≤ 140737488351232 := by
    rcases hz0 with ⟨_, h⟩ | ⟨hd, hzl, hle⟩
    · omega
    · subst hd
      have := sized_slice hsz (j := 0) (t := 25) (e := 5) rfl rfl Try.underlying25
      rw [Try.bytes5] at this
      simp only [lits, List.length_map, List.length_take, List.length_drop, reachBytes] at this
      omega
  clear hA0 hval0
  refine (opens_walk hr0 hl0).mono fun e W' ⟨he, bel⟩ => ?_
  subst he
  exact ⟨_, rfl, _, _, _, [], _, [], hW', trodAll_mk1 (shut_bool Try.underlying4 _), (trodAll_cons_mk (Below.trod laidOut (by kernel_rfl) (of_decide_eq_true (by kernel_rfl)) k0 bel lt0) trodAll_mk0), rfl, bel.frame _, fun h => by cases h⟩
end codecOpens

/-- The statement. -/
theorem codecOpens_holds : Rows.CodecOpensSaid :=
  OpenClaim.holds_of_wide 6 Try.f6 rfl rfl rfl rfl rfl rfl rfl ⟨rfl, rfl, rfl, rfl, rfl⟩ rfl rfl rfl rfl rfl (by kernel_rfl) Try.func6 (by kernel_rfl)
    (of_decide_eq_true (by kernel_rfl)) (by unfold Func.isWrapper; first | (rw [if_pos (by decide +kernel)]; kernel_rfl) | (rw [if_neg (by decide +kernel)]; exact ⟨rfl, rfl⟩))
    (fun os started H enc _ => codecOpens.lifted os started H enc)
#print axioms codecOpens_holds
end Go.Proofs.Ytbajnekhpnpbbaa
