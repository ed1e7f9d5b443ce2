/- Proved here: CodecKeys answers true for every text and every number, where what is read is of bulk at most 1048576: Bytes and Key write what the document writes, in new memory, and the bytes that were handed in are not written. -/
import Derived.Test.YtbajnekhpnpbbaaUpto
import Derived.Test.YtbajnekhpnpbbaaBytes
import Derived.Test.YtbajnekhpnpbbaaDone
namespace Go.Proofs.Ytbajnekhpnpbbaa
open Go.ChangeShapes Go.WideShapes Go.ChangeAt Go.RowKit
set_option linter.unusedVariables false
set_option maxRecDepth 100000

theorem rkey_any {v : Value} {l : List UInt8} {n : Nat} {w : World} (hr : Rd w v l) (hl : l.length ≤ 1099511627776) (hn : n < 18446744073709551616) :
    Calls Try.prog 31 #[v, .int .u64 n] w fun e w' => ∃ v', e = .returned v' ∧ Ow w.heap.size w' v' (M.key l n) ∧ Below w.heap.size w w' := by
  have hol := M.ob_length l
  have hbl := M.be_length 8 (18446744073709551615 - n)
  go_enter Try.func31, Try.ntmps31
  go_wp2_with fail
  refine (rbytes_any hr hl).mono ?_
  rintro e w1 ⟨v1, rfl, ho1, hb1⟩
  go_wp2_with fail
  refine (rdesc_any n _ hn).mono ?_
  rintro e w2 ⟨v2, rfl, ho2, hb2⟩
  have ho1' := ho1.below hb2 (Nat.le_refl _)
  have hB2 : w.heap.size ≤ w2.heap.size := Nat.le_trans hb1.size hb2.size
  go_wp2_with (first | (at_builtin; refine wpList_app rfl _ _ rfl w.heap.size _ (M.ob l) rfl ho1' _ _ rfl ho2.rd hB2 (by omega) ?_; intro v3 w3 ho3 hb3 hg3) | fail)
  go_ret
  exact ⟨_, rfl, ho3, (Below.tr hb1 hb2).trans hb3⟩

set_option maxHeartbeats 1000000 in
theorem keys_walk {v : Value} {l : List UInt8} {w : World} (hr : Rd w v l) (hl : l.length ≤ 1048576) (n : Nat) (hn : n < 18446744073709551616) :
    Calls Try.prog 5 #[v, .int .u64 n] w fun e w' => e = .returned (.bool true) ∧ Below w.heap.size w w' := by
  go_enter Try.func5, Try.ntmps5
  go_wp2_with fail
  refine (awake_any _).mono ?_
  rintro e w1 ⟨rfl, hb1⟩
  have hB1 : w.heap.size ≤ w1.heap.size := hb1.size
  have hR1 := RdB.of hr hb1
  go_wp2_with fail
  refine (lend_new hR1 (by omega) hB1 _).mono ?_
  rintro e w2 ⟨p, rfl, hp2, hs2, hb2⟩
  have hB2 : w.heap.size ≤ w2.heap.size := Nat.le_trans hB1 hb2.size
  have hR2 := hR1.next (hb2.mono hB1)
  have hl2 := hs2.blk.lt
  go_wp2_with fail
  refine (bytes_any hp2 (by omega)).mono ?_
  rintro e w3 ⟨v3, rfl, ho3, hb3⟩
  have hB3 : w.heap.size ≤ w3.heap.size := Nat.le_trans hB2 hb3.size
  have hR3 := hR2.next (hb3.mono hB2)
  go_wp2_with fail
  refine (key_any (hp2.below hb3 (Nat.le_refl _)) (by omega) hn).mono ?_
  rintro e w4 ⟨v4, rfl, ho4, hb4⟩
  have hB4 : w.heap.size ≤ w4.heap.size := Nat.le_trans hB3 hb4.size
  have hR4 := hR3.next (hb4.mono hB3)
  have ho3' := ho3.below hb4 (Nat.le_refl _)
  have ha34 := ho3.apart ho4 (Nat.le_refl _)
  have hb24 : Below w2.heap.size w2 w4 := Below.tr hb3 hb4
  -- the book
  have hbk := Bk.new (B := w.heap.size) w4 31 hB4
  have hal : Below w4.heap.size w4 (w4.alloc (.cells #[.slice none 0 0, .slice none 0 0] 31)) := Below.al _ _
  have hR5 := hR4.next (hal.mono hB4)
  have hs5 := hs2.next (Below.tr hb24 hal)
  have ho3b := ho3'.alloc (.cells #[.slice none 0 0, .slice none 0 0] 31)
  have ho4b := ho4.alloc (.cells #[.slice none 0 0, .slice none 0 0] 31)
  have hw5 : Below w.heap.size w (w4.alloc (.cells #[.slice none 0 0, .slice none 0 0] 31)) := (hb1.trans (hb2.mono hB1)).trans ((Below.tr hb24 hal).mono hB2)
  have HK : Hid _ := And.intro hbk (And.intro hR5 (And.intro hs5 (And.intro ho3b (And.intro ho4b hw5))))
  clear hbk hal hR5 hs5 ho3b ho4b hw5
  go_wp2_with fail
  obtain ⟨hbk, hR5, hs5, ho3b, ho4b, hw5⟩ := HK.out
  clear HK
  refine (back_new hs5 hR5 (by omega) hB1).mono ?_
  rintro e w6 ⟨rfl, hg6, hb6⟩
  have hR6 := hR5.next hb6
  have ho3c := ho3b.kept hg6 hl2
  have ho4c := ho4b.kept hg6 (Nat.lt_of_lt_of_le hl2 hb3.size)
  have hw6 := hw5.trans hb6
  have hB6 := hw6.size
  have hbk6 := hbk.next (S := fun b => b = w1.heap.size + 1) (Chg.of_grown hg6 (fun b e _ => (Option.some.inj e).symm)) (fun b e => by have := hb24.size; omega)
  go_wp2_with fail
  refine (rbytes_any hR6.now (by omega)).mono ?_
  rintro e w7 ⟨v7, rfl, ho7, hb7⟩
  have hR7 := hR6.next (hb7.mono hB6)
  have ho3d := ho3c.below hb7 (Nat.le_refl _)
  have ho4d := ho4c.below hb7 (Nat.le_refl _)
  have hw7 := hw6.trans (hb7.mono hB6)
  have hB7 := hw7.size
  have hbk7 := hbk6.next (Chg.of_below hb7) (fun b e => by have := hbk6.dlt b e; omega)
  go_wp2_with fail
  refine (same_any ho3d.rd ho7.rd).mono ?_
  rintro e w8 ⟨rfl, k8, rfl⟩
  rw [decide_eq_true rfl]
  have hR8 := hR7.next ((Below.dN w7 k8).mono hB7)
  have hbk8 := hbk7.next (Chg.of_below (Below.dN w7 k8)) (fun b e => by have := hbk7.dlt b e; omega)
  go_wp2_with fail
  refine (rkey_any hR8.now (by omega) hn).mono ?_
  rintro e w9 ⟨v9, rfl, ho9, hb9⟩
  have ho3e := (ho3d.drewN k8).below hb9 (Nat.le_refl _)
  have ho4e := (ho4d.drewN k8).below hb9 (Nat.le_refl _)
  have hbk9 := hbk8.next (Chg.of_below hb9) (fun b e => by have := hbk8.dlt b e; omega)
  have hw9 : Below w.heap.size w w9 := hw7.trans ((Below.tr (Below.dN w7 k8) hb9).mono hB7)
  have hB9 := hw9.size
  go_wp2_with fail
  refine (same_any ho4e.rd ho9.rd).mono ?_
  rintro e w10 ⟨rfl, k10, rfl⟩
  rw [decide_eq_true rfl]
  have hbk10 := hbk9.next (Chg.of_below (Below.dN w9 k10)) (fun b e => by have := hbk9.dlt b e; omega)
  have ho3f := ho3e.drewN k10
  have ho4f := ho4e.drewN k10
  have hw10 : Below w.heap.size w (w9.drewN k10) := hw9.trans ((Below.dN w9 k10).mono hB9)
  have q3 : ∀ b, v3.ownBlock = some b → b < w4.heap.size := fun b e => (World.ownsRow.lt ho3' b e).2
  have q4 : ∀ b, v4.ownBlock = some b → b < w4.heap.size := fun b e => (World.ownsRow.lt ho4 b e).2
  go_wp2_with fail
  refine (own_any hbk10 ho3f hB2 (fun b e hd => by have := q3 b e; omega) (by simp)).mono ?_
  rintro e w11 ⟨rfl, ⟨r1, hbk11⟩, hch11⟩
  have hbl11 : Below w.heap.size (w9.drewN k10) w11 := hch11.below (fun b hb => by
    rcases hb with hb | hb
    · exact hbk10.dB b hb
    · have := (World.ownsRow.lt ho3f b hb).1; omega) hw10.size
  have ho4g := ho4f.keptC hch11 (fun b e h => by
    rcases h with h | h
    · have := q4 b e; omega
    · rcases ha34 with q | q
      · rw [q] at h; cases h
      · exact q (h.trans e.symm))
  go_wp2_with fail
  refine (own_any hbk11 ho4g hB3 (fun b e hd => ?_) (by simp)).mono ?_
  · rcases hd with hd | hd | hd
    · have := q4 b e; omega
    · rcases ha34 with q | q
      · rw [q] at hd; cases hd
      · exact q (hd.trans e.symm)
    · have := q4 b e
      have h9 : w4.heap.size ≤ (w9.drewN k10).heap.size := by
        have := hbk10.dlt w4.heap.size rfl; omega
      omega
  rintro e w12 ⟨rfl, ⟨r2, hbk12⟩, hch12⟩
  have hbl12 : Below w.heap.size w11 w12 := hch12.below (fun b hb => by
    rcases hb with hb | hb
    · exact hbk11.dB b hb
    · have := (World.ownsRow.lt ho4g b hb).1; omega) (Nat.le_trans hw10.size hbl11.size)
  go_wp2_with fail
  refine (done_any hbk12 (by simp)).mono ?_
  rintro e w13 ⟨rfl, k13, rfl⟩
  go_wp2_with fail
  go_ret
  exact ⟨rfl, ((hw10.trans hbl11).trans hbl12).trans ((Below.dN w12 k13).mono (Nat.le_trans (Nat.le_trans hw10.size hbl11.size) hbl12.size))⟩

namespace codecKeysUpto
theorem own : ownKnob Try.prog.godebug = none := by kernel_rfl
theorem laidOut : laidOutB Try.prog = true := by kernel_rfl

theorem contract (H : Type) (enc : TypeId × Value → H) (W : World) (base : Nat) (args : Array Value) (ds gs : List (DataW H)) (before : List MemPlace)
    (hval : ∀ (j : Nat) t v, Try.f5.params[j]? = some t → args[j]? = some v → Value.okWide Try.prog W .any base t v)
    (hW : DataW.Whole enc Try.prog Try.f5.params.toList Rows.codecKeysSpec.vars false W args.toList ds gs before) (hk : Rows.uptoSmall H (ds ++ gs) = true) :
    Calls Try.prog 5 args W fun e W' => ∃ v, e = .returned v ∧ Rows.codecKeysSpec.post enc Try.prog Try.f5 false true false false W args v W' := by
  have hW' := hW
  obtain ⟨p, q, hA0, hV, rfl, hfz, hnd⟩ := hW
  have hA : DataW.TrodAll enc Try.prog W 0 (fun _ => true) true Try.f5.params.toList args.toList ds p := hA0
  rw [Try.params5] at hA hval
  obtain ⟨v0, vs0, d0, ds0, p0, q0, hargs, rfl, rfl, h0, r0⟩ := trodAll_cons hA
  obtain ⟨v1, vs1, d1, ds1, p1, q1, rfl, rfl, rfl, h1, r1⟩ := trodAll_cons r0
  obtain ⟨rfl, rfl, rfl⟩ := trodAll_nil r1
  obtain rfl : args = #[v0, v1] := by cases args; simp_all
  obtain ⟨rfl, rfl⟩ := trodVars_none hV
  have hbulk : Rows.uptoBulkAll ([d0, d1] ++ ([] : List (DataW H))) ≤ 1048576 := of_decide_eq_true hk
  simp only [List.append_nil, Rows.uptoBulkAll] at hbulk
  obtain ⟨a0, len0, cap0, rfl⟩ := okWide_slice Try.underlying25 (hval 0 25 v0 rfl rfl)
  have k0 := h0
  have lt0 : ∀ x ∈ p0, x.block < W.heap.size := by obtain ⟨m, hm⟩ := k0; exact DataW.trod_lt m _ _ _ hm
  obtain ⟨l0, hr0, hlen0, zs0, hz0⟩ := open_bytes h0
  have hl0 : l0.length ≤ Rows.uptoBulk d0 := by
    rcases hz0 with ⟨_, h⟩ | ⟨hd, hzl, hle⟩
    · omega
    · subst hd
      have := bulk_ge (H := H) (lits .u8 (zs0.take len0))
      simp only [Rows.uptoBulk]
      simp only [lits, List.length_map, List.length_take] at this
      simp only [lits]
      omega
  obtain ⟨x1, rfl, rfl, rfl, w1⟩ := open_int Try.underlying22 (hval 1 22 v1 rfl rfl) h1
  have hx1 : 0 ≤ x1 ∧ x1 ≤ 18446744073709551615 := by simpa [Lit.wf, IntKind.min, IntKind.max, IntKind.signed, IntKind.bits] using w1
  obtain ⟨n1, rfl⟩ := Int.eq_ofNat_of_zero_le hx1.1
  clear hA0
  refine (keys_walk hr0 (by omega) n1 (by omega)).mono fun e W' ⟨he, bel⟩ => ?_
  subst he
  exact ⟨_, rfl, _, _, _, [], _, [], hW', trodAll_mk1 (shut_bool Try.underlying4 _), (trodAll_cons_mk (Below.trod laidOut (by kernel_rfl) (of_decide_eq_true (by kernel_rfl)) k0 bel lt0) (trodAll_cons_mk (shut_int Try.underlying22 w1) trodAll_mk0)), rfl, bel.frame _, fun h => by cases h⟩

theorem lifted (os : Os) (started : os.Started) (H : Type) (enc : TypeId × Value → H) (F : Stop.Interp) :
    ReturnsInHanded {} Try.checked os 5 .any ((Rows.OpenSpec.upto Rows.codecKeysSpec).pre6 enc Try.prog Try.f5 Rows.codecKeysUptoRow.domain false) (((Rows.OpenSpec.upto Rows.codecKeysSpec).at F).post enc Try.prog Try.f5 false true false false) := by
  refine returnsInHanded_of_cond (C := Try.checked) (s := Rows.OpenSpec.upto Rows.codecKeysSpec) (k := Rows.uptoSmall) rfl own started (by kernel_rfl) Try.func5
    (OpenSpec.witness (enc := enc) (C := Try.checked) (s := Rows.OpenSpec.upto Rows.codecKeysSpec) (k := Rows.uptoSmall) rfl false ⟨#[], #[.slice none 0 0, .int .u64 0], []⟩ 8 (by kernel_rfl) (by kernel_rfl) (by kernel_rfl)
      (x := ([.nil, .lit (.int .u64 0)], [], [])) (by kernel_rfl) rfl (by kernel_rfl)) ?_
  intro W base args ds gs before hval hW _ hk _
  exact contract H enc W base args ds gs before hval hW hk
end codecKeysUpto

/-- The statement. -/
theorem codecKeysUpto_holds : Rows.CodecKeysUptoSaid :=
  OpenClaim.holds_of_cond 5 Try.f5 rfl rfl rfl rfl rfl rfl rfl ⟨rfl, rfl, rfl, rfl, rfl⟩ rfl rfl rfl rfl rfl (by kernel_rfl) Try.func5 (by kernel_rfl)
    (of_decide_eq_true (by kernel_rfl)) (by unfold Func.isWrapper; first | (rw [if_pos (by decide +kernel)]; kernel_rfl) | (rw [if_neg (by decide +kernel)]; exact ⟨rfl, rfl⟩))
    (fun os started H enc _ F => codecKeysUpto.lifted os started H enc F)
#print axioms codecKeysUpto_holds
end Go.Proofs.Ytbajnekhpnpbbaa
