/- numbers; on. -/
import Derived.Test.YtlfdcnojbbigbaaG10
namespace Go.Proofs.Ytlfdcnojbbigbaa
open Go.RowKit
set_option linter.unusedVariables false
set_option maxRecDepth 100000

set_option maxHeartbeats 1000000 in
theorem numbers_any {v : Value} {ps : List Pe} {w : World} (hr : RdPe w v ps) (hl : ps.length ≤ 1099511627776) :
    Calls Try.prog 52 #[v] w fun x w' => ∃ v', x = .returned v' ∧ Ou w.heap.size w' v' (ps.map (·.1)) ∧ Below w.heap.size w w' := by
  have HR : Hid (RdPe w v ps) := hr
  obtain ⟨ao, c, rfl, h1, h2, h3, h4⟩ := hr
  unfold maxLen at h2
  clear h4
  go_enter Try.func52, Try.ntmps52
  go_wp2_with fail
  go_loopw [3, 5, 8] (fun u _ i wr => ∃ k : Nat, k ≤ ps.length ∧ i = .int .i64 k ∧ Ou w.heap.size wr u ((ps.take k).map (·.1)) ∧ Below w.heap.size w wr) (fun _ _ i _ => ps.length - (intOf i).toNat)
  case atStart => exact ⟨0, Nat.zero_le _, rfl, Ou.nil _ _, Below.refl _ _⟩
  case round =>
    obtain ⟨k, hk, rfl, ho, hb⟩ := hrel
    by_cases hlt : k < ps.length
    · have HT : Hid ((ps.take (k + 1)).map (·.1) = (ps.take k).map (·.1) ++ [(ps[k]).1]) := by
        show _ = _
        rw [List.take_succ_eq_append_getElem hlt, List.map_append]; rfl
      obtain ⟨ao', c', e, _, _, _, h4⟩ := HR.out.below hb (Nat.le_refl _)
      simp only [Value.slice.injEq, true_and] at e
      obtain ⟨rfl, rfl⟩ := e
      obtain ⟨a, rfl, hc⟩ := h4 k _ (List.getElem?_eq_getElem hlt)
      clear h4
      obtain ⟨c0, c1, c2⟩ := hc
      have hlen : ((ps.take k).map (·.1)).length + 1 ≤ 10995116277760 := by simp; omega
      generalize (ps.take k).map (·.1) = L at *
      generalize ps[k] = p at *
      obtain ⟨p0, p1, p2⟩ := p
      simp only [] at c0 c1 c2 HT
      go_wp2_with (first | (at_builtin; refine wpList_appU rfl _ _ rfl w.heap.size _ L rfl ((ho.below (g_al _ _) (Nat.le_refl _)).below (g_al _ _) (Nat.le_refl _)) _ [p0] rfl (ru_one _ _ _ rfl _ _ (by simp)) (by have := hb.size; simp; omega) hlen ?_; intro v4 w4 ho4 hg4 hw4) | fail)
      refine ⟨⟨k + 1, by omega, by go_num, by rw [HT.out]; exact ho4, ?_⟩, by simp [intOf]; omega⟩
      have hx : Below w.heap.size w ((wr.alloc (.cells #[.int .u64 (p0.toNat : Int), .int .i64 p1, .bool p2] 31)).alloc (.cells #[.int .u64 (p0.toNat : Int)] 22)) := (hb.alloc hb.size _).alloc (by have := hb.size; simp; omega) _
      exact hx.grown hg4 (by have := hb.size; simp; omega) (fun j e => (World.ownsRow.lt ho j e).1)
    · obtain rfl : k = ps.length := by omega
      rw [List.take_length] at ho
      go_wp2_with fail
      go_ret
      exact ⟨_, rfl, ho, hb⟩
end Go.Proofs.Ytlfdcnojbbigbaa
