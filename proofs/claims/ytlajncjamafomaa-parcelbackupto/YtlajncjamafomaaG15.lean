/- What 'highFirst' makes: the lowest bytes of a number, the highest first, in new memory. -/
import Derived.Test.YtlajncjamafomaaG3
import Derived.Test.YtlajncjamafomaaG1
namespace Go.Proofs.Ytlajncjamafomaa
open Go.RowKit
set_option linter.unusedVariables false

theorem be_set (size k n : Nat) (h : k < size) : (cel (List.replicate (size - k) 0 ++ M.be k n)).set (size - 1 - k) (.int .u8 ((n : Int) / 2 ^ (8 * k) % 256)) = cel (List.replicate (size - (k + 1)) 0 ++ M.be (k + 1) n) := by
  have e : size - k = size - (k + 1) + 1 := by omega
  have e2 : size - 1 - k = size - (k + 1) := by omega
  rw [e, e2, List.replicate_succ', M.be]
  simp only [cel, List.map_append, List.map_cons, List.map_nil, List.append_assoc]
  rw [List.set_append_right _ _ (by simp)]
  simp only [List.length_map, List.length_replicate, Nat.sub_self, List.cons_append, List.set_cons_zero, List.nil_append]
  rw [M.u8_ofNat]
  simp

set_option maxHeartbeats 400000 in
theorem high_any (n size : Nat) (w : World) (hn : n < 18446744073709551616) (hs : size ≤ 8) :
    Calls Try.prog 60 #[.int .u64 n, .int .i64 size] w fun e w' => ∃ v, e = .returned v ∧ Ow w.heap.size w' v (M.be size n) ∧ Below w.heap.size w w' := by
  obtain ⟨i, hi, hz0, hz1, hz2⟩ := info_parts Try.info5
  go_enter Try.func60, Try.ntmps60
  go_wp2_with (first | (at_make; refine wpList_make_full _ rfl _ _ 22 rfl w.heap.size 5 i _ 1 Try.underlying22 hi hz0 hz1 _ _ _ _ size rfl rfl rfl rfl (by rw [hz2]; omega) (by unfold maxLen; omega) (Nat.le_refl _) ?_; intro w1 hown hgr) | fail)
  have hb := (Below.refl w.heap.size w).grown hgr (Nat.le_refl _) (by simp)
  have hown' : w1.ownsRow w.heap.size 5 1 (.slice (some ⟨w.heap.size, 0, none⟩) size size) size (cel (List.replicate (size - 0) 0 ++ M.be 0 n)) := by
    have e : (madeCells (Value.int IntKind.u8 0).cells (size * 1)).toList = cel (List.replicate (size - 0) 0 ++ M.be 0 n) := by
      rw [show (Value.int IntKind.u8 0).cells = #[Value.int IntKind.u8 0] from rfl, toList_madeCells_one]
      simp [cel, M.be]
    rw [← e]; exact hown
  clear hown
  go_loopw [6, 10] (fun _ i wr => ∃ k : Nat, k ≤ size ∧ i = .int .i64 k ∧ Below w.heap.size w wr ∧ wr.ownsRow w.heap.size 5 1 (.slice (some ⟨w.heap.size, 0, none⟩) size size) size (cel (List.replicate (size - k) 0 ++ M.be k n))) (fun _ i _ => size - (intOf i).toNat)
  case atStart => exact ⟨0, Nat.zero_le _, rfl, hb, hown'⟩
  case round =>
    obtain ⟨k, hk, rfl, hb, hox⟩ := hrel
    clear hown' hgr
    by_cases hlt : k < size
    · have hc := hox.cellAt (size - 1 - k) (by omega)
      rw [cel_get _ _ (by simp [M.be_length]; omega)] at hc
      have hf := hox.frozenAt (size - 1 - k)
      have hst := hox.stored (size - 1 - k) (.int .u8 ((n : Int) / 2 ^ (8 * k) % 256))
      rw [be_set size k n hlt] at hst
      have HS := hst.1
      have HB := hb.setCell (p := ⟨w.heap.size, size - 1 - k, none⟩) (Nat.le_refl _) (.int .u8 ((n : Int) / 2 ^ (8 * k) % 256))
      have HH : Hid (_ ∧ _) := ⟨HS, HB⟩
      clear HS HB hst hox
      go_wp2
      refine ⟨⟨k + 1, by omega, by go_num, HH.out.2, HH.out.1⟩, by simp [intOf]; omega⟩
    · go_wp2
      go_ret
      obtain rfl : k = size := by omega
      refine ⟨_, rfl, ?_, hb⟩
      rw [Nat.sub_self, List.replicate_zero, List.nil_append] at hox
      unfold Ow; rw [M.be_length]; exact hox
end Go.Proofs.Ytlajncjamafomaa
