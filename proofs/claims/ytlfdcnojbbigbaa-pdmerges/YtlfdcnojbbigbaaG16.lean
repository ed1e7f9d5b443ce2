/- Do of a number; what every statement begins with. -/
import Derived.Test.YtlfdcnojbbigbaaG15
import Derived.Test.YtlfdcnojbbigbaaG14
import Derived.Shelf.Abstract
namespace Go.Proofs.Ytlfdcnojbbigbaa
open Go.RowKit
set_option linter.unusedVariables false
set_option linter.unusedSimpArgs false
set_option maxRecDepth 100000

theorem chg_of_bl {S : Nat → Prop} {w w1 w2 : World} (hb : Below w.heap.size w w1) (h : Chg S w1 w2) : Chg S w w2 := ((Chg.of_below hb).mono (fun b q1 q2 => by omega)).trans (h.mono (fun b _ q => .inl q))
section
variable {B p : Nat} {d : DC} {w w' : World}
theorem dgive (n : Nat) (h : Drv p d w) (hB : B ≤ p) (h1 : 1 ≤ n) (h2 : n ≤ 1000) (h3 : d.g + n < 18446744073709551616) :
    Calls Try.prog 7 #[.pointer (some ⟨p, 0, none⟩), .agg (pcA (pc0 1 n 0 0 0))] w fun e w' => e = .returned (prA 0 ((d.g + 1 : Nat) : Int) 0) ∧ Drv p { d with g := d.g + n } w' ∧ Chg (fun b => b = p) w w' := by
  have := do_any (pc0 1 n 0 0 0) 1 24 rfl (by decide) (by decide) rfl (enters_of Try.func24 (by kernel_rfl) rfl) (p := p) (B := B) (w := w) (P := fun er m st w' => er = 0 ∧ m = ((d.g + 1 : Nat) : Int) ∧ st = 0 ∧ Drv p { d with g := d.g + n } w' ∧ Chg (fun b => b = p) w w')
    (fun W hb => (give_ok (pc0 1 n 0 0 0) (h.belowN hb (Nat.le_refl _)) h1 h2 h3).mono (fun e w' q => ⟨_, _, _, q.1, ⟨rfl, rfl, rfl, q.2.1, chg_of_bl hb q.2.2⟩, (h.belowN hb (Nat.le_refl _)).ik hB q.2.2⟩))
    (fun er m st w1 w2 q hbx hc => ⟨q.1, q.2.1, q.2.2.1, q.2.2.2.1.next hc (by have := h.lt; show ¬ p = _; omega), q.2.2.2.2.trans (hc.mono (fun b _ q => .inr (by omega)))⟩)
  refine this.mono ?_
  rintro e w' ⟨er, m, st, rfl, ⟨rfl, rfl, rfl, q1, q2⟩, _⟩
  exact ⟨rfl, q1, q2⟩
end
set_option maxHeartbeats 1000000 in
theorem pdawake_any (w : World) : Calls Try.prog 4 #[] w fun e w' => e = .returned (.bool true) ∧ Below w.heap.size w w' := by
  have hnew := pnew_any 100 (by omega) (by omega) w
  go_enter Try.func4, Try.ntmps4
  go_wp2_with fail
  refine hnew.mono ?_
  rintro e w1 ⟨rfl, hd, -, -, -, hb1⟩
  have h1 : Calls Try.prog 7 #[.pointer (some ⟨w.heap.size + 3, 0, none⟩), .agg (pcA (pc0 1 3 0 0 0))] w1 fun e w' => e = .returned (prA 0 100 0) ∧ Drv (w.heap.size + 3) ⟨102, 0, 0, 0, w.heap.size, (none, 0, 0), (none, 0, 0), w.heap.size + 1, w.heap.size + 2⟩ w' ∧ Chg (fun b => b = w.heap.size + 3) w1 w' := dgive (B := 0) 3 hd (Nat.zero_le _) (by omega) (by omega) (by show 100 - 1 + 3 < _; omega)
  go_wp2_with fail
  refine h1.mono ?_
  rintro e w2 ⟨rfl, hd2, hc2⟩
  simp only [prA]
  go_upto_region 5 with fail
  have ha := heap_new w2 (.cells #[.int .i64 0, .int .u64 100, .int .i64 0] 42)
  have hba : Below w2.heap.size w2 (w2.alloc (.cells #[.int .i64 0, .int .u64 100, .int .i64 0] 42)) := (Below.refl _ _).alloc (Nat.le_refl _) _
  generalize World.alloc w2 _ = w3 at *
  have hd3 := hd2.belowN hba (Nat.le_refl _)
  have h2 : Calls Try.prog 7 #[.pointer (some ⟨w.heap.size + 3, 0, none⟩), .agg (pcA (pc0 1 1 0 0 0))] w3 fun e w' => e = .returned (prA 0 103 0) ∧ Drv (w.heap.size + 3) ⟨103, 0, 0, 0, w.heap.size, (none, 0, 0), (none, 0, 0), w.heap.size + 1, w.heap.size + 2⟩ w' ∧ Chg (fun b => b = w.heap.size + 3) w3 w' := dgive (B := 0) 1 hd3 (Nat.zero_le _) (by omega) (by omega) (by show 102 + 1 < _; omega)
  go_wp2_with fail
  refine h2.mono ?_
  rintro e w4 ⟨rfl, hd4, hc4⟩
  simp only [prA]
  have hl2 := hd2.lt
  have hl4 := hc4.size
  have hl3 := hba.size
  have ha4 : w4.heap[w2.heap.size]? = some (.cells #[.int .i64 0, .int .u64 100, .int .i64 0] 42 (0, 0)) := by
    rw [hc4.block _ (Array.getElem?_eq_some_iff.1 ha).1 (by show ¬ _ = w.heap.size + 3; omega)]; exact ha
  obtain ⟨k0, k1, k2, _⟩ := cells3 ha4
  have hlt := (Array.getElem?_eq_some_iff.1 ha4).1
  have hne : w2.heap.size ≠ w4.heap.size := by omega
  have hB4 : Below w.heap.size w w4 := ((hb1.trans (Chg.below hc2 (fun b q => by have q' : b = w.heap.size + 3 := q; omega) hb1.size)).trans (hba.mono (by omega))).trans (Chg.below hc4 (fun b q => by have q' : b = w.heap.size + 3 := q; omega) (by omega))
  clear hc4 hc2 hd2 hd3 hd4 ha ha4 h1 h2 hnew hd
  go_wp2_with fail
  go_ret
  exact ⟨rfl, hB4.alloc (by omega) _⟩
end Go.Proofs.Ytlfdcnojbbigbaa
