/- container/heap's Push and Pop over the heap of ways; take. -/
import Derived.Test.YtipnghaphfgalaaG21
import Derived.Test.YtipnghaphfgalaaG23
namespace Go.Proofs.Ytipnghaphfgalaa
open Go.RowKit
set_option linter.unusedVariables false
set_option maxRecDepth 100000

section
variable {w0 : World} {x : Nat} {v : Value} {w w' : World} {H A : List HE}
set_option maxHeartbeats 1000000 in
theorem hpush_any {e : HE} (h : Hq w0 x v w H (e :: A)) (hH : M.Hp helt H H.length) (hlen : H.length + 1 ≤ 1099511627776) :
    Calls Try.prog 33 #[.iface 71 (.pointer (some ⟨x, 0, none⟩)), .iface 27 e.1] w fun r w' => (∃ u, r = .returned u) ∧ ∃ v' H', Hq w0 x v' w' H' A ∧ H'.length = H.length + 1 ∧ H'.Perm (H ++ [e]) ∧ M.Hp helt H' H'.length ∧ Chg (fun b => b = x ∨ v.ownBlock = some b) w w' ∧ (v'.ownBlock = v.ownBlock ∨ ∃ b, v'.ownBlock = some b ∧ w.heap.size ≤ b) := by
  have hpu := push1_any h hlen
  have hU := hH.push e
  have hm1 := meth_push (w := w) (x := x)
  clear h hH
  go_enter Try.func33, Try.ntmps33
  go_wp2_with fail
  refine hpu.mono ?_
  rintro r w1 ⟨⟨u, rfl⟩, v1, h1, hc1, hv1⟩
  have hm2 := meth_len h1.vx.1
  have hle := hlen_any h1
  have hup := up_any h1 (j := H.length) (by simp) hU
  have hln : (H ++ [e]).length = H.length + 1 := by simp
  rw [hln] at hle
  have hni : IntKind.i64.wrap (((H.length + 1 : Nat) : Int) - 1) = (H.length : Int) := by rw [IntKind.wrap_i64]; omega
  clear hU hpu
  go_wp2_with fail
  refine hle.mono ?_
  rintro r w2 ⟨rfl, rfl⟩
  go_wp2_with fail
  refine hup.mono ?_
  rintro r w3 ⟨⟨u, rfl⟩, H', h3, hmv, hH', hc⟩
  go_wp2_with fail
  go_end0
  refine ⟨⟨_, rfl⟩, v1, H', h3, by rw [hmv.1, hln], ?_, by rw [hmv.1]; exact hH', hc1.trans (hc.mono (fun b _ q => ?_)), hv1⟩
  · have := hmv.2.1
    rwa [List.take_of_length_le (by rw [hmv.1]; exact Nat.le_refl _), List.take_of_length_le (Nat.le_refl _)] at this
  · rcases hv1 with e | ⟨b', e, hb'⟩
    · rw [e] at q; exact .inl (.inr q)
    · rw [e] at q; obtain rfl := Option.some.inj q; exact .inr hb'

set_option maxHeartbeats 1000000 in
theorem hpop_any {e : HE} (h : Hq w0 x v w H A) (hH : M.Hp helt H H.length) (he : H[0]? = some e) (hlen : H.length ≤ 1099511627776) :
    Calls Try.prog 44 #[.iface 71 (.pointer (some ⟨x, 0, none⟩))] w fun r w' => (∃ u, r = .returned u) ∧ ∃ v' H', Hq w0 x v' w' H' (e :: A) ∧ v'.ownBlock = v.ownBlock ∧ H'.length + 1 = H.length ∧ H'.Perm H.tail ∧ M.Hp helt H' H'.length ∧ Chg (fun b => b = x ∨ v.ownBlock = some b) w w' := by
  have hp := (List.getElem?_eq_some_iff.1 he).1
  obtain ⟨n, hn⟩ : ∃ n, H.length = n + 1 := ⟨H.length - 1, by omega⟩
  have hle := hlen_any h
  have hm1 := meth_len h.vx.1
  have hm2 := meth_swap h.vx.1
  have hsw := hswap_any h (i := 0) (j := n) (by omega) (by omega)
  have hni : IntKind.i64.wrap ((H.length : Int) - 1) = (n : Int) := by rw [IntKind.wrap_i64]; omega
  have HE : Hid (H[0]? = some e) := he
  clear he
  go_enter Try.func44, Try.ntmps44
  go_wp2_with fail
  refine hle.mono ?_
  rintro r w2 ⟨rfl, rfl⟩
  go_wp2_with fail
  refine hsw.mono ?_
  rintro r w3 ⟨⟨u, rfl⟩, h3, hc3⟩
  have hdn := down_any h3 (i0 := 0) (n := n) (by rw [M.sw_len]; omega) (Nat.zero_le _) (by rw [M.sw_len]; exact hlen) (hH.pop hn)
  clear hle hm1 hm2 hsw
  go_wp2_with fail
  refine hdn.mono ?_
  rintro r w4 ⟨⟨b, rfl⟩, H', h4, hmv, hH', hc4⟩
  have hl4 : H'.length = n + 1 := by rw [hmv.1, M.sw_len]; exact hn
  have he4 : H'[n]? = some e := by
    rw [hmv.2.2 n (Nat.le_refl _), M.sw_at (by omega) (by omega), if_pos rfl]; exact HE.out
  have hm4 := meth_pop (w := w4) (x := x)
  have hpp := pop1_any h4 hl4 he4
  clear hdn he4
  go_wp2_with fail
  refine hpp.mono ?_
  rintro r w5 ⟨⟨u5, rfl⟩, v5, h5, hv5, hc5⟩
  go_wp2_with fail
  go_ret
  have hlt : (H'.take n).length = n := by simp; omega
  refine ⟨⟨_, rfl⟩, v5, H'.take n, h5, hv5, by omega, hmv.2.1.trans (M.sw_top hn), ?_, ?_⟩
  · intro i a b i1 i2 ha hb
    rw [hlt] at i2
    rw [List.getElem?_take, if_pos i2] at ha
    rw [List.getElem?_take, if_pos (by omega)] at hb
    exact hH' i a b i1 i2 ha hb
  · exact ((hc3.mono (fun b _ q => Or.inr q)).trans (hc4.mono (fun b _ q => Or.inl (Or.inr q)))).trans (hc5.mono (fun b _ q => Or.inl (Or.inl q)))

set_option maxHeartbeats 1000000 in
theorem take_any {e : HE} (h : Hq w0 x v w H A) (hH : M.Hp helt H H.length) (he : H[0]? = some e) (hlen : H.length ≤ 1099511627776) :
    Calls Try.prog 31 #[.pointer (some ⟨x, 0, none⟩)] w fun r w' => r = .returned e.1 ∧ ∃ v' H', Hq w0 x v' w' H' (e :: A) ∧ v'.ownBlock = v.ownBlock ∧ H'.length + 1 = H.length ∧ H'.Perm H.tail ∧ M.Hp helt H' H'.length ∧ Chg (fun b => b = x ∨ v.ownBlock = some b) w w' := by
  have hpp := hpop_any h hH he hlen
  obtain ⟨g, c, rfl, h1, h2, hi, a0, ra, fr⟩ := h.at_ he
  obtain ⟨vx, fx⟩ := h.vx
  have hn1 : (0 : Int) < (H.length : Int) := by omega
  obtain ⟨_, _, ee, -⟩ := ra
  obtain ⟨u, l⟩ := e
  simp only [] at *
  subst ee
  generalize l.length = ln at *
  clear h hH he fx
  go_enter Try.func31, Try.ntmps31
  go_wp2_with fail
  refine hpp.mono ?_
  rintro r w1 ⟨⟨u, rfl⟩, hrest⟩
  have HR : Hid _ := hrest
  clear hrest
  go_wp2_with fail
  go_ret
  exact ⟨rfl, HR.out⟩
end
end Go.Proofs.Ytipnghaphfgalaa
