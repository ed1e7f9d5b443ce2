/- That 'awake' answers true, and turns nothing that was there. -/
import Derived.Test.YtbolnelbchffhabFrames
import Derived.Test.YtbolnelbchffhabSame
namespace Go.Proofs.Ytbolnelbchffhab
open Go.RowKit
set_option linter.unusedVariables false
set_option maxRecDepth 100000

theorem rd_lit (w : World) (C : Array Value) (fr : Nat × Nat) (t : TypeId) (l : List UInt8) (n : Nat) (hC : C.toList = cel l) (hn : n = l.length) (hm : n ≤ maxLen) :
    Rd (w.alloc (.cells C t fr)) (.slice (some ⟨w.heap.size, 0, none⟩) n n) l := by
  subst hn
  refine Rd.mk rfl (Nat.le_refl _) hm (fun i hi => ?_)
  rw [Addr.add_lit, Nat.zero_add]
  have e : (w.alloc (.cells C t fr)).heap[w.heap.size]? = some (.cells C t fr) := by
    show (w.heap.push _)[w.heap.size]? = _
    simp
  rw [cell_of_row _ _ _ C t fr e, ← Array.getElem?_toList, hC, cel_get l i hi]

theorem frame_a : M.frame [97] = [1, 232, 183, 190, 67, 97] := by decide +kernel
theorem tf_a : M.tf [1, 232, 183, 190, 67, 97] = ([97], [], 0) := by decide +kernel
theorem crc_nine : M.crc [49, 50, 51, 52, 53, 54, 55, 56, 57] = 3421780262 := by decide +kernel

theorem Below.al (w : World) (o : Obj) : Below w.heap.size w (w.alloc o) := (Below.refl _ _).alloc (Nat.le_refl _) o

set_option maxHeartbeats 400000 in
theorem awake_any (w : World) :
    Calls Try.prog 9 #[] w fun e w' => e = .returned (.bool true) ∧ Below w.heap.size w w' := by
  have kc := fun (w : World) (C : Array Value) (n c : Nat) => Lib.run_convert_bytes_const (P := Try.prog) w 25 5 C n c Try.underlying25 Try.underlying5
  go_enter Try.func9, Try.ntmps9
  go_wp2_with fail
  refine (frame_any (rd_lit w #[.int .u8 97] (1, 2) 5 [97] 1 rfl rfl (by decide)) (by decide)).mono ?_
  rintro e w1 ⟨v1, rfl, ho1, hb1⟩
  rw [frame_a] at ho1
  go_wp2_with fail
  refine (tframe_any ho1.rd (by decide)).mono ?_
  rintro e w2 ⟨v2, v3, rfl, ho2, ho3, _, hb2⟩
  rw [tf_a] at ho2 ho3 ⊢
  have hw2 : Below w.heap.size w w2 := Below.tr (Below.tr (Below.al w _) hb1) hb2
  obtain ⟨ao2, c2, rfl, _, _, _, hc2⟩ := ho2.rd
  obtain ⟨ao3, c3, rfl, _, _, _, _⟩ := ho3.rd
  obtain ⟨a2, rfl, hc⟩ := hc2 0 (by decide)
  rw [add_zero] at hc
  have hc' : w2.cell? a2 = some (.int .u8 97) := hc
  clear hc hc2 ho1 ho2 ho3
  go_wp2_with fail
  refine (sum_any (l := [49, 50, 51, 52, 53, 54, 55, 56, 57]) (rd_lit w2 _ (9, 10) 5 [49, 50, 51, 52, 53, 54, 55, 56, 57] 9 rfl rfl (by decide))).mono ?_
  rintro e w3 ⟨rfl, k3, rfl⟩
  rw [crc_nine]
  go_wp2_with fail
  go_ret
  exact ⟨rfl, Below.tr hw2 (Below.tr (Below.al _ _) (Below.dN _ _))⟩
end Go.Proofs.Ytbolnelbchffhab
