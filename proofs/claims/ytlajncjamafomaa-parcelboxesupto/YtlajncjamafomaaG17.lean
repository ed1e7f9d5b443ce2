/- What Row answers of any fields. -/
import Derived.Test.YtlajncjamafomaaG14
namespace Go.Proofs.Ytlajncjamafomaa
open Go.RowKit
set_option linter.unusedVariables false
set_option maxRecDepth 100000

set_option maxHeartbeats 1000000 in
theorem row_any {v : Value} {ls : List (List UInt8)} {w : World} (hr : Rds w v ls) (hl : (M.row ls).length ≤ 1099511627776) (hn : ls.length ≤ 1099511627776) :
    Calls Try.prog 53 #[v] w fun e w' => ∃ v', e = .returned v' ∧ Ow w.heap.size w' v' (M.row ls) ∧ Below w.heap.size w w' := by
  obtain ⟨ao, c, rfl, h1, h2, h4⟩ := hr
  unfold maxLen at h2
  have hvl := vi_len ls.length
  have hrl : (M.rowB ls).length ≤ 1099511627776 := by simp [M.row] at hl; omega
  clear hl
  go_enter Try.func53, Try.ntmps53
  go_wp2_with fail
  refine (varint_any ls.length _ (by omega)).mono ?_
  rintro e w1 ⟨v1, rfl, ho1, hb1⟩
  go_wp2_with fail
  go_loopw [3, 5, 12] (fun out _ i wr => ∃ k : Nat, k ≤ ls.length ∧ i = .int .i64 k ∧ Ow w.heap.size wr out (M.vi ls.length ++ M.rowB (ls.take k)) ∧ Below w.heap.size w wr) (fun _ _ i _ => ls.length - (intOf i).toNat)
  case atStart => exact ⟨0, Nat.zero_le _, rfl, by simpa [M.rowB] using ho1, hb1⟩
  case round =>
    obtain ⟨k, hk, rfl, ho, hb⟩ := hrel
    clear ho1 hb1
    have hB := hb.size
    by_cases hlt : k < ls.length
    · obtain ⟨a, u, rfl, hc, hru⟩ := h4 k hlt
      have hcx : wr.cell? (a.add k) = some u := by rw [hb.cell (World.block_lt_of_cell? w _ hc)]; exact hc
      have hfl := M.rowB_field ls k hlt
      have hvf := vi_len ls[k].length
      have hsn := M.rowB_snoc ls k hlt
      have HSN : Hid _ := hsn
      have hru' := hru
      obtain ⟨au, cu, rfl, u1, u2, _, _⟩ := hru
      unfold maxLen at u2
      have hdl : (M.vi ls.length ++ M.rowB (ls.take k)).length + (M.vi ls[k].length).length + ls[k].length ≤ 1099511628000 := by simp only [List.length_append]; omega
      generalize hcur : M.vi ls.length ++ M.rowB (ls.take k) = cur at *
      generalize hfk : ls[k] = fk at *
      have HC : Hid _ := And.intro hcur hfk
      clear hcur hsn hfl hc h4
      go_wp2_with fail
      refine (varint_any fk.length _ (by omega)).mono ?_
      rintro e w2 ⟨v2, rfl, ho2, hb2⟩
      have ho' := ho.below hb2 (Nat.le_refl _)
      have hb' : Below w.heap.size w w2 := hb.trans (hb2.mono hB)
      have hB2 := hb'.size
      go_wp2_with (first | (at_builtin; refine wpList_app rfl _ _ rfl w.heap.size _ cur rfl ho' _ (M.vi fk.length) rfl ho2.rd hB2 (by omega) ?_; intro v3 w3 ho3 hb3 hg3) | (at_builtin; refine wpList_app rfl _ _ rfl w.heap.size _ (cur ++ M.vi fk.length) rfl ho3 _ fk rfl ?r1 ?r2 ?r3 ?_; rotate_right; intro v4 w4 ho4 hb4 hg4) | fail)
      case r1 => exact hru'.below (hb'.trans hb3) (Nat.le_refl _)
      case r2 => exact (hb'.trans hb3).size
      case r3 => rw [List.length_append]; omega
      refine ⟨⟨k + 1, by omega, by go_num, ?_, (hb'.trans hb3).trans hb4⟩, by simp [intOf]; omega⟩
      have e : M.vi ls.length ++ M.rowB (ls.take (k + 1)) = cur ++ M.vi fk.length ++ fk := by
        rw [HSN.out, ← HC.out.1]; simp
      rw [e]; exact ho4
    · obtain rfl : k = ls.length := by omega
      go_wp2_with fail
      go_ret
      refine ⟨_, rfl, ?_, hb⟩
      rw [List.take_of_length_le (Nat.le_refl _)] at ho
      exact ho
end Go.Proofs.Ytlajncjamafomaa
