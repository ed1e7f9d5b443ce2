/- What Bytes and Key make of any text that is not too long, the code's and the document's. -/
import Derived.Test.YtbolnelbchffhabFrames
import Derived.Test.YtbolnelbchffhabOMath
namespace Go.Proofs.Ytbolnelbchffhab
open Go.RowKit
set_option linter.unusedVariables false
set_option maxRecDepth 100000

theorem Ow.made0 {B : Nat} {w : World} {g c : Nat} (h : w.ownsRow B 5 1 (.slice (some ⟨g, 0, none⟩) 0 c) 0 []) : Ow B w (.slice (some ⟨g, 0, none⟩) 0 c) [] := h

/-- The length of a slice value. -/
def lenOf : Value → Nat | .slice _ n _ => n | _ => 0

set_option maxHeartbeats 1000000 in
theorem bytes_any {v : Value} {l : List UInt8} {w : World} (hr : Rd w v l) (hl : l.length ≤ 1099511627776) :
    Calls Try.prog 15 #[v] w fun e w' => ∃ v', e = .returned v' ∧ Ow w.heap.size w' v' (M.ob l) ∧ Below w.heap.size w w' := by
  obtain ⟨i, hi, hz0, hz1, hz2⟩ := info_parts Try.info5
  have hr0 := hr
  obtain ⟨ao, c, rfl, h1, h2, h3, h4⟩ := hr
  unfold maxLen at h2
  clear h3 h4
  have hol := M.ob_length l
  go_enter Try.func15, Try.ntmps15
  go_wp2_with (first | (at_make; refine wpList_make_own _ rfl _ _ 25 rfl w.heap.size 5 i _ 1 Try.underlying25 hi hz0 hz1 _ _ _ ((l.length / 8 + 1) * 9) rfl rfl (by omega) (by rw [hz2]; omega) (by unfold maxLen; omega) (Nat.le_refl _) ?_; intro w1 hown hgr) | fail)
  have hb1 := (Below.refl w.heap.size w).grown hgr (Nat.le_refl _) (by simp)
  have ho1 := Ow.made0 hown
  clear hown hgr
  go_loopw [0, 3] (fun vb out wr => ∃ (k : Nat) (l' done : List UInt8), l'.length < 8 * (k + 1) ∧ Rd w vb l' ∧ Ow w.heap.size wr out done ∧ done ++ M.obF k l' = M.ob l ∧ l'.length ≤ 1099511627776 ∧ Below w.heap.size w wr) (fun vb _ _ => lenOf vb)
  case atStart => exact ⟨l.length / 8, l, [], by omega, hr0, ho1, rfl, hl, hb1⟩
  case round =>
    obtain ⟨k, l', done, hk, hrl, ho, hd, hll, hb⟩ := hrel
    have hdl : done.length ≤ 9 * (l.length / 8 + 1) := by rw [← hol, ← hd]; simp
    clear ho1 hb1
    have hB := hb.size
    have hrl' := hrl
    obtain ⟨ao', c', rfl, g1, g2, g3, g4⟩ := hrl
    unfold maxLen at g2
    clear g3 g4
    have HD : Hid _ := hd
    clear hd
    by_cases hlt : 8 ≤ l'.length
    · obtain ⟨k', rfl, e1, e2⟩ := M.obF_long k l' hlt hk
      have HE : Hid _ := And.intro e1 e2
      clear e1 e2
      have hpre := (hrl'.pre 8 hlt).below hb (Nat.le_refl _)
      have hpost := hrl'.post 8 hlt (if c' = 8 then ao' else ao'.map (fun a => a.add 8)) ⟨fun h => by rw [if_pos h], fun h => by rw [if_neg h]⟩
      have HP : Hid _ := hpost
      clear hpost hrl'
      by_cases hc8 : c' = 8
      all_goals
        try subst hc8
        go_wp2_with (first | (at_builtin; refine wpList_app rfl _ _ rfl w.heap.size _ done rfl ho _ (l'.take 8) rfl hpre hB ?q1 ?_; rotate_right; intro v4 w4 ho4 hb4 hg4) | (at_builtin; refine wpList_app rfl _ _ rfl w.heap.size _ (done ++ l'.take 8) rfl (ho4.alloc _) _ [255] rfl (rd_one _ _ 255 rfl _) ?q2 ?q3 ?_; rotate_right; intro v5 w5 ho5 hb5 hg5) | fail)
        case q1 => first | omega | (simp; omega)
        case q2 => have := hb4.size; simp; omega
        case q3 => first | omega | (simp; omega)
        refine ⟨⟨k', l'.drop 8, done ++ l'.take 8 ++ [255], HE.out.2, ?_, ho5, ?_, by simp; omega, ?_⟩, by simp [lenOf]; omega⟩
        · refine Rd.cong HP.out ?_ ?_ ?_
          · first | (simp; done) | (rw [if_neg hc8]; try rfl)
          · first | rfl | omega
          · first | rfl | omega
        · rw [← HD.out, HE.out.1]; simp
        · exact ((hb.trans hb4).trans ((Below.refl _ _).alloc (Nat.le_trans hB hb4.size) _)).trans hb5
    · have hsh : l'.length < 8 := by omega
      have hrw := hrl'.below hb (Nat.le_refl _)
      have e1 := M.obF_short k l' hsh
      have HE : Hid _ := e1
      clear e1 hlt
      go_wp2_with (first | (at_builtin; refine wpList_app rfl _ _ rfl w.heap.size _ done rfl ho _ l' rfl hrw hB ?q1 ?_; rotate_right; intro v4 w4 ho4 hb4 hg4) | fail)
      case q1 => omega
      have hb4' := hb.trans hb4
      go_loopw [3, 30] (fun out i wx => ∃ j : Nat, j ≤ 8 - l'.length ∧ i = .int .i64 j ∧ Ow w.heap.size wx out (done ++ l' ++ List.replicate j 0) ∧ Below w.heap.size w wx) (fun _ i _ => 8 - l'.length - (intOf i).toNat)
      case atStart => exact ⟨0, Nat.zero_le _, rfl, by simpa using ho4, hb4'⟩
      case round =>
        obtain ⟨j, hj, rfl, hox, hbx⟩ := hrel
        have hBx := hbx.size
        clear ho4 hb4 hb4' hrw ho
        by_cases hltj : j < 8 - l'.length
        · go_wp2_with (first | (at_builtin; refine wpList_app rfl _ _ rfl w.heap.size _ _ rfl (hox.alloc _) _ [0] rfl (rd_one _ _ 0 rfl _) ?q2 ?q3 ?_; rotate_right; intro v5 w5 ho5 hb5 hg5) | fail)
          case q2 => simp; omega
          case q3 => simp; omega
          refine ⟨⟨j + 1, by omega, by go_num, ?_, (hbx.trans ((Below.refl _ _).alloc hBx _)).trans hb5⟩, by simp [intOf]; omega⟩
          rw [List.replicate_succ', ← List.append_assoc]; exact ho5
        · obtain rfl : j = 8 - l'.length := by omega
          go_wp2_with (first | (at_builtin; refine wpList_app rfl _ _ rfl w.heap.size _ _ rfl (hox.alloc _) _ [UInt8.ofNat (247 + l'.length)] rfl (rd_one _ _ _ ?hz _) ?q2 ?q3 ?_; rotate_right; intro v5 w5 ho5 hb5 hg5) | fail)
          case hz => rw [M.u8_ofNat]; omega
          case q2 => simp; omega
          case q3 => simp; omega
          go_ret
          refine ⟨_, rfl, ?_, (hbx.trans ((Below.refl _ _).alloc hBx _)).trans hb5⟩
          rw [← HD.out, HE.out, M.pad, ← List.append_assoc, ← List.append_assoc]
          exact ho5

theorem key_any {v : Value} {l : List UInt8} {n : Nat} {w : World} (hr : Rd w v l) (hl : l.length ≤ 1099511627776) (hn : n < 18446744073709551616) :
    Calls Try.prog 17 #[v, .int .u64 n] w fun e w' => ∃ v', e = .returned v' ∧ Ow w.heap.size w' v' (M.key l n) ∧ Below w.heap.size w w' := by
  have hol := M.ob_length l
  have hbl := M.be_length 8 (18446744073709551615 - n)
  go_enter Try.func17, Try.ntmps17
  go_wp2_with fail
  refine (bytes_any hr hl).mono ?_
  rintro e w1 ⟨v1, rfl, ho1, hb1⟩
  go_wp2_with fail
  refine (desc_any n _ hn).mono ?_
  rintro e w2 ⟨v2, rfl, ho2, hb2⟩
  have ho1' := ho1.below hb2 (Nat.le_refl _)
  have hB2 : w.heap.size ≤ w2.heap.size := Nat.le_trans hb1.size hb2.size
  go_wp2_with (first | (at_builtin; refine wpList_app rfl _ _ rfl w.heap.size _ (M.ob l) rfl ho1' _ _ rfl ho2.rd hB2 (by omega) ?_; intro v3 w3 ho3 hb3 hg3) | fail)
  go_ret
  exact ⟨_, rfl, ho3, (Below.tr hb1 hb2).trans hb3⟩

end Go.Proofs.Ytbolnelbchffhab
