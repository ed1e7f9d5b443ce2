/- Proved here: CodecRows answers true for every list of texts, where what is read is of bulk at most 1048576: Row writes what the document writes, and the fields that were handed in stay. -/
import Derived.Test.YtbolnelbchffhabListArgs
import Derived.Test.YtbolnelbchffhabOwns
import Derived.Test.YtbolnelbchffhabRowTake
import Derived.Test.YtbolnelbchffhabRowMade
import Derived.Test.YtbolnelbchffhabRRow
import Derived.Test.YtbolnelbchffhabSameAll
namespace Go.Proofs.Ytbolnelbchffhab
open Go.ChangeShapes Go.WideShapes Go.ChangeAt Go.RowKit
set_option linter.unusedVariables false
set_option maxRecDepth 100000

theorem lcopy_any {v : Value} {l : List UInt8} {w : World} (hr : Rd w v l) (hl : l.length ≤ 140737488355328) :
    Calls Try.prog 29 #[v] w fun e w' => ∃ v', e = .returned v' ∧ Ow w.heap.size w' v' l ∧ Below w.heap.size w w' := by
  go_enter Try.func29, Try.ntmps29
  go_wp2_with (first | (at_builtin; refine wpList_app rfl _ _ rfl w.heap.size _ [] rfl (Ow.nil _ _) _ l rfl hr (Nat.le_refl _) (by simpa using hl) ?_; intro v' w' ho' hb' hg') | fail)
  go_ret
  exact ⟨_, rfl, ho', hb'⟩

set_option maxHeartbeats 1000000 in
theorem copies_any {v : Value} {ls : List (List UInt8)} {w : World} (hr : Rds w v ls) (hn : ls.length ≤ 1099511627776) (hl : ∀ f ∈ ls, f.length ≤ 140737488355328) :
    Calls Try.prog 10 #[v] w fun e w' => ∃ v' us, e = .returned v' ∧ Ows w.heap.size w' v' ls us ∧ Below w.heap.size w w' := by
  obtain ⟨ao, c, rfl, h1, h2, h4⟩ := hr
  unfold maxLen at h2
  go_enter Try.func10, Try.ntmps10
  go_wp2_with fail
  go_loopw [3, 4] (fun out i wr => ∃ (k : Nat) (us : List Value), k ≤ ls.length ∧ i = .int .i64 k ∧ Ows w.heap.size wr out (ls.take k) us ∧ Below w.heap.size w wr) (fun _ i _ => ls.length - (intOf i).toNat)
  case atStart => exact ⟨0, [], Nat.zero_le _, rfl, Ows.nil _ _, Below.refl _ _⟩
  case round =>
    obtain ⟨k, us, hk, rfl, hos, hb⟩ := hrel
    have hB := hb.size
    by_cases hlt : k < ls.length
    · obtain ⟨a, u, rfl, hc, hru⟩ := h4 k hlt
      have hcx : wr.cell? (a.add k) = some u := by rw [hb.cell (World.block_lt_of_cell? w _ hc)]; exact hc
      have hrx := hru.below hb (Nat.le_refl _)
      have hlk := hl ls[k] (List.getElem_mem hlt)
      have hul := hos.len
      rw [List.length_take, Nat.min_eq_left hk] at hul
      have HT : Hid _ := List.take_succ_eq_append_getElem hlt
      generalize ls[k] = fk at *
      have hrx' := hrx
      obtain ⟨au, cu, rfl, u1, u2, _, _⟩ := hrx
      unfold maxLen at u2
      have h24 := Try.info25
      clear h4 hc hru hl
      go_wp2_with fail
      refine (lcopy_any hrx' hlk).mono ?_
      rintro e w3 ⟨u3, rfl, ho3, hb3⟩
      have hos3 := hos.below hb3 (Nat.le_refl _)
      have hB3 : w.heap.size ≤ w3.heap.size := Nat.le_trans hB hb3.size
      obtain ⟨a3, c3, e3⟩ := ho3.shape
      subst e3
      go_wp2_with (first | (at_builtin; (refine wpList_app1 rfl _ _ 22 rfl w.heap.size 25 (.slice none 0 0) 24 Try.underlying22 h24 rfl _ us.length us rfl (World.ownsRow.alloc hos3.row _) _ _ _ rfl (cell_new1 _ _ _) rfl ?hmx ?hmy ?hmz ?_; rotate_right; intro v4 w4 ho4 hg4 hw4)) | fail)
      case hmx => unfold maxLen; omega
      case hmy => omega
      case hmz => rw [World.size_alloc]; omega
      have hos4 : Ows w.heap.size w4 v4 (ls.take k ++ [fk]) (us ++ [.slice a3 fk.length c3]) := hos.snoc hb3 (Nat.le_refl _) ho3 hB ho4 hg4 hw4
      have hb4 : Below w.heap.size w w4 := (hb.trans (hb3.mono hB)).trans (((Below.refl w.heap.size w3).alloc hB3 _).trans ((Below.refl w.heap.size _).grown hg4 (by rw [World.size_alloc]; omega) (fun k hk => (World.ownsRow.lt hos3.row k hk).1)))
      refine ⟨⟨k + 1, us ++ [.slice a3 fk.length c3], by omega, by go_num, ?_, hb4⟩, by simp [intOf]; omega⟩
      rw [HT.out]; exact hos4
    · obtain rfl : k = ls.length := by omega
      go_wp2_with fail
      go_ret
      rw [List.take_of_length_le (Nat.le_refl _)] at hos
      exact ⟨_, _, rfl, hos, hb⟩

set_option maxHeartbeats 1000000 in
theorem rows_walk {v : Value} {ls : List (List UInt8)} {w : World} (hr : Rds w v ls) (hl : tot ls ≤ 1048576) :
    Calls Try.prog 3 #[v] w fun e w' => e = .returned (.bool true) ∧ Below w.heap.size w w' := by
  have hn := tot_len ls
  have hm : ∀ f ∈ ls, f.length ≤ 140737488355328 := fun f hf => by have := tot_mem ls f hf; omega
  have hrow : (M.row ls).length ≤ 1099511627776 := by
    have := tot_row ls
    have := vi_len ls.length
    simp only [M.row, List.length_append]; omega
  go_enter Try.func3, Try.ntmps3
  go_wp2_with fail
  refine (awake_any _).mono ?_
  rintro e w1 ⟨rfl, hb1⟩
  have hr1 := hr.below hb1 (Nat.le_refl _)
  go_wp2_with fail
  refine (copies_any hr1 (by omega) hm).mono ?_
  rintro e w2 ⟨gv, us, rfl, hos, hb2⟩
  have hr2 := hr1.below hb2 (Nat.le_refl _)
  go_wp2_with fail
  refine (row_any hos.rds hrow (by omega)).mono ?_
  rintro e w3 ⟨v3, rfl, ho3, hb3⟩
  have hr3 := hr2.below hb3 (Nat.le_refl _)
  have hos3 := hos.rds.below hb3 (Nat.le_refl _)
  go_wp2_with fail
  refine (rrow_any hr3 hrow (by omega)).mono ?_
  rintro e w4 ⟨v4, rfl, ho4, hb4⟩
  have hr4 := hr3.below hb4 (Nat.le_refl _)
  have hos4 := hos3.below hb4 (Nat.le_refl _)
  go_wp2_with fail
  refine (same_any (ho3.rd.below hb4 (Nat.le_refl _)) ho4.rd).mono ?_
  rintro e w5 ⟨rfl, k5, rfl⟩
  rw [decide_eq_true rfl]
  go_wp2_with fail
  refine (sameall_any (hos4.below (Below.dN w4 k5) (Nat.le_refl _)) (hr4.below (Below.dN w4 k5) (Nat.le_refl _))).mono ?_
  rintro e w6 ⟨rfl, k6, rfl⟩
  go_wp2_with fail
  go_ret
  have h4 : Below w.heap.size w w4 := Below.tr (Below.tr (Below.tr hb1 hb2) hb3) hb4
  exact ⟨rfl, h4.trans ((Below.dN w4 _).mono h4.size)⟩

namespace codecRowsUpto
theorem own : ownKnob Try.prog.godebug = none := by kernel_rfl
theorem laidOut : laidOutB Try.prog = true := by kernel_rfl

theorem contract (H : Type) (enc : TypeId × Value → H) (W : World) (base : Nat) (args : Array Value) (ds gs : List (DataW H)) (before : List MemPlace)
    (hval : ∀ (j : Nat) t v, Try.f3.params[j]? = some t → args[j]? = some v → Value.okWide Try.prog W .any base t v)
    (hW : DataW.Whole enc Try.prog Try.f3.params.toList Rows.codecRowsSpec.vars false W args.toList ds gs before) (hk : Rows.uptoSmall H (ds ++ gs) = true) :
    Calls Try.prog 3 args W fun e W' => ∃ v, e = .returned v ∧ Rows.codecRowsSpec.post enc Try.prog Try.f3 false true false false W args v W' := by
  have hW' := hW
  obtain ⟨p, q, hA0, hV, rfl, hfz, hnd⟩ := hW
  have hA : DataW.TrodAll enc Try.prog W 0 (fun _ => true) true Try.f3.params.toList args.toList ds p := hA0
  rw [Try.params3] at hA hval
  obtain ⟨v0, vs0, d0, ds0, p0, q0, hargs, rfl, rfl, h0, r0⟩ := trodAll_cons hA
  obtain ⟨rfl, rfl, rfl⟩ := trodAll_nil r0
  obtain rfl : args = #[v0] := by cases args; simp_all
  obtain ⟨rfl, rfl⟩ := trodVars_none hV
  have hbulk : Rows.uptoBulkAll ([d0] ++ ([] : List (DataW H))) ≤ 1048576 := of_decide_eq_true hk
  simp only [List.append_nil, Rows.uptoBulkAll] at hbulk
  obtain ⟨a0, len0, cap0, rfl⟩ := okWide_slice Try.underlying22 (hval 0 22 v0 rfl rfl)
  have k0 := h0
  have lt0 : ∀ x ∈ p0, x.block < W.heap.size := by obtain ⟨m, hm⟩ := k0; exact DataW.trod_lt m _ _ _ hm
  obtain ⟨ls0, hr0, hl0⟩ := open_lists h0
  clear hA0
  refine (rows_walk hr0 (by omega)).mono fun e W' ⟨he, bel⟩ => ?_
  subst he
  exact ⟨_, rfl, _, _, _, [], _, [], hW', trodAll_mk1 (shut_bool Try.underlying4 _), (trodAll_cons_mk (Below.trod laidOut (by kernel_rfl) (of_decide_eq_true (by kernel_rfl)) k0 bel lt0) trodAll_mk0), rfl, bel.frame _, fun h => by cases h⟩

theorem lifted (os : Os) (started : os.Started) (H : Type) (enc : TypeId × Value → H) (F : Stop.Interp) :
    ReturnsInHanded {} Try.checked os 3 .any ((Rows.OpenSpec.upto Rows.codecRowsSpec).pre6 enc Try.prog Try.f3 Rows.codecRowsUptoRow.domain false) (((Rows.OpenSpec.upto Rows.codecRowsSpec).at F).post enc Try.prog Try.f3 false true false false) := by
  refine returnsInHanded_of_cond (C := Try.checked) (s := Rows.OpenSpec.upto Rows.codecRowsSpec) (k := Rows.uptoSmall) rfl own started (by kernel_rfl) Try.func3
    (OpenSpec.witness (enc := enc) (C := Try.checked) (s := Rows.OpenSpec.upto Rows.codecRowsSpec) (k := Rows.uptoSmall) rfl false ⟨#[], #[.slice none 0 0], []⟩ 8 (by kernel_rfl) (by kernel_rfl) (by kernel_rfl)
      (x := ([.nil], [], [])) (by kernel_rfl) rfl (by kernel_rfl)) ?_
  intro W base args ds gs before hval hW _ hk _
  exact contract H enc W base args ds gs before hval hW hk
end codecRowsUpto

/-- The statement. -/
theorem codecRowsUpto_holds : Rows.CodecRowsUptoSaid :=
  OpenClaim.holds_of_cond 3 Try.f3 rfl rfl rfl rfl rfl rfl rfl ⟨rfl, rfl, rfl, rfl, rfl⟩ rfl rfl rfl rfl rfl (by kernel_rfl) Try.func3 (by kernel_rfl)
    (of_decide_eq_true (by kernel_rfl)) (by unfold Func.isWrapper; first | (rw [if_pos (by decide +kernel)]; kernel_rfl) | (rw [if_neg (by decide +kernel)]; exact ⟨rfl, rfl⟩))
    (fun os started H enc _ F => codecRowsUpto.lifted os started H enc F)
#print axioms codecRowsUpto_holds

end Go.Proofs.Ytbolnelbchffhab
