/- container/heap's Push and Pop over the queue. -/
import Derived.Test.YtedfjacmaidhkaaGreatG12
import Derived.Test.YtedfjacmaidhkaaGreatG15
namespace Go.Proofs.YtedfjacmaidhkaaGreat
open Go.RowKit
set_option linter.unusedVariables false
set_option maxRecDepth 100000

section
variable {B p : Nat} {f : Value} {x : Option Addr × Nat × Nat} {w w' : World} {H : List Pe} {lt : Pe → Pe → Bool}
theorem qus_mono {x y : Option Addr × Nat × Nat} {b : Nat} {w : World} (h : (sv y).ownBlock = (sv x).ownBlock ∨ ∃ b, (sv y).ownBlock = some b ∧ w.heap.size ≤ b) (hb : QuS p y b) : QuS p x b ∨ w.heap.size ≤ b := by
  rcases hb with rfl | hb
  · exact .inl (.inl rfl)
  · rcases h with h | ⟨b', h1, h2⟩
    · exact .inl (.inr (by rw [← h]; exact hb))
    · rw [h1] at hb
      exact .inr (by rw [← Option.some.inj hb]; exact h2)
set_option maxHeartbeats 1000000 in
theorem hpush_any {w0 : World} (hO : Ord3 lt) (e : Pe) (hei : i64 e.2.1) (h : Qu B p f x w H) (hA : Ahead w0 f lt) (hB : w0.heap.size ≤ B) (hbw : Below w0.heap.size w0 w) (hH : M.Hp lt H H.length) (hlen : H.length + 1 ≤ 1099511627776) :
    Calls Tryz.prog 77 #[.iface 121 (.pointer (some ⟨p, 0, none⟩)), .iface 44 (.agg #[.int .u64 (e.1.toNat : Int), .int .i64 e.2.1, .bool e.2.2])] w fun r w' => (∃ u, r = .returned u) ∧ ∃ y H', Qu B p f y w' H' ∧ M.Hp lt H' H'.length ∧ H'.Perm (H ++ [e]) ∧ Below w0.heap.size w0 w' := by
  have hpu := push1_any e hei h hlen
  have hU := hH.push e
  have hm1 := meth_push (w := w) (p := p)
  have HBC : Hid (∀ w1, Chg (QuS p x) w w1 → Below w0.heap.size w0 w1) := fun w1 hc => below_chg hbw hc h hB
  clear h hH hbw
  go_enter Tryz.func77, Tryz.ntmps77
  go_wp2_with fail
  refine hpu.mono ?_
  rintro r w1 ⟨⟨u, rfl⟩, x1, h1, hc1, hv1⟩
  have hb1 := HBC.out w1 hc1
  have hm2 := meth_len (w := w1) (p := p)
  have hle := qlen_any h1
  have hln : (H ++ [e]).length = H.length + 1 := by simp
  rw [hln] at hle
  have hni : IntKind.i64.wrap (((H.length + 1 : Nat) : Int) - 1) = (H.length : Int) := by rw [IntKind.wrap_i64]; omega
  have HB1 : Hid (Below w0.heap.size w0 w1) := hb1
  have HU : Hid (M.HpU lt (H ++ [e]) (H ++ [e]).length H.length) := hU
  clear hU hpu hb1
  go_wp2_with fail
  refine hle.mono ?_
  rintro r w2 ⟨rfl, hb2⟩
  have h2 := h1.below hb2 (Nat.le_refl _)
  have hbb : Below w0.heap.size w0 w2 := HB1.out.trans (hb2.mono HB1.out.size)
  have hup := up_any hO h2 hA hB hbb (j := H.length) (n := (H ++ [e]).length) (Nat.le_refl _) (by simp) HU.out
  have HB2 : Hid (Below w0.heap.size w0 w2) := hbb
  clear hbb
  go_wp2_with fail
  refine hup.mono ?_
  rintro r w3 ⟨⟨u, rfl⟩, H', h3, hmv, hH', hc⟩
  have hb3 : Below w0.heap.size w0 w3 := below_chg HB2.out hc h2 hB
  go_wp2_with fail
  go_end0
  refine ⟨⟨_, rfl⟩, x1, H', h3, by rw [hmv.1]; exact hH', ?_, hb3⟩
  have := hmv.2.1
  rwa [List.take_of_length_le (by rw [hmv.1]; exact Nat.le_refl _), List.take_of_length_le (Nat.le_refl _)] at this

set_option maxHeartbeats 1000000 in
theorem hpop_any {w0 : World} (hO : Ord3 lt) {e : Pe} (h : Qu B p f x w H) (hA : Ahead w0 f lt) (hB : w0.heap.size ≤ B) (hbw : Below w0.heap.size w0 w) (hH : M.Hp lt H H.length) (he : H[0]? = some e) (hlen : H.length ≤ 1099511627776) :
    Calls Tryz.prog 79 #[.iface 121 (.pointer (some ⟨p, 0, none⟩))] w fun r w' => r = .returned (.iface 44 (.agg #[.int .u64 (e.1.toNat : Int), .int .i64 e.2.1, .bool e.2.2])) ∧ Below w0.heap.size w0 w' := by
  have hp0 : 0 < H.length := (List.getElem?_eq_some_iff.1 he).1
  obtain ⟨n, hn⟩ : ∃ n, H.length = n + 1 := ⟨H.length - 1, by omega⟩
  have hle := qlen_any h
  have hm1 := meth_len (w := w) (p := p)
  have hni : IntKind.i64.wrap ((H.length : Int) - 1) = (n : Int) := by rw [IntKind.wrap_i64]; omega
  have HQ : Hid (Qu B p f x w H) := h
  have HN : Hid (H.length = n + 1) := hn
  have HE : Hid (H[0]? = some e) := he
  clear h hn he
  go_enter Tryz.func79, Tryz.ntmps79
  go_wp2_with fail
  refine hle.mono ?_
  rintro r w2 ⟨rfl, hb2⟩
  have h2 := HQ.out.below hb2 (Nat.le_refl _)
  have hbb : Below w0.heap.size w0 w2 := hbw.trans (hb2.mono hbw.size)
  have hm2 := meth_swap (w := w2) (p := p)
  have hsw := qswap_any h2 (i := 0) (j := n) (by omega) (by have := HN.out; omega)
  have HB2 : Hid (Below w0.heap.size w0 w2) := hbb
  clear hbb hle hm1
  go_wp2_with fail
  refine hsw.mono ?_
  rintro r w3 ⟨⟨u, rfl⟩, h3, hc3⟩
  have hX : M.HpX lt (M.sw H 0 n) n 0 := by
    obtain ⟨q1, q2⟩ := hH.pop HN.out
    exact ⟨fun i x y h1 h2 h3 h4 => q1 i x y h1 h2 h4, q2⟩
  have hb3 : Below w0.heap.size w0 w3 := below_chg HB2.out hc3 h2 hB
  have hdn := down_any hO h3 hA hB hb3 (i0 := 0) (n := n) (by rw [M.sw_len]; have := HN.out; omega) (Nat.zero_le _) (by rw [M.sw_len]; exact hlen) hX
  have HB3 : Hid (Below w0.heap.size w0 w3) := hb3
  clear hsw hm2 hX hb3
  go_wp2_with fail
  refine hdn.mono ?_
  rintro r w4 ⟨bo, H', rfl, h4, hmv, hor, hc4⟩
  have hl4 : H'.length = n + 1 := by rw [hmv.1, M.sw_len]; exact HN.out
  have he4 : H'[n]? = some e := by
    rw [hmv.2.2 n (Nat.le_refl _), M.sw_at (by omega) (by have := HN.out; omega), if_pos rfl]; exact HE.out
  have hm4 := meth_pop (w := w4) (p := p)
  have hpp := pop1_any h4 hl4 he4
  have hb4 : Below w0.heap.size w0 w4 := below_chg HB3.out hc4 h3 hB
  have HF : Hid (∀ w5, Chg (QuS p x) w4 w5 → Below w0.heap.size w0 w5) := fun w5 hc => below_chg hb4 hc h4 hB
  clear hdn he4 hor hmv hl4 hb4
  go_wp2_with fail
  refine hpp.mono ?_
  rintro r w5 ⟨rfl, hc5⟩
  go_wp2_with fail
  go_ret
  exact ⟨rfl, HF.out _ hc5⟩
end
end Go.Proofs.YtedfjacmaidhkaaGreat
