/- container/heap's Push, Pop, Fix and Remove over the registered ones. -/
import Derived.Test.YtefhinopppdjbaaGreatG19
import Derived.Test.YtefhinopppdjbaaGreatG21
namespace Go.Proofs.YtefhinopppdjbaaGreat
open Go.RowKit
set_option linter.unusedVariables false
set_option maxRecDepth 100000

/-- What a turn of the registered ones leaves. -/
structure Tu (B p : Nat) (d : DC) (w w' : World) (x : Option Addr × Nat × Nat) (H' : List EN) : Prop where
  rg : Rg B p { d with ev := x } w' H'
  hp : M.Hp elt H' H'.length
  ch : Chg (RgS p d) w w'
  bl : (sv x).ownBlock = (sv d.ev).ownBlock ∨ ∃ b, (sv x).ownBlock = some b ∧ w.heap.size ≤ b
section
variable {B p : Nat} {d : DC} {w w' : World} {H : List EN}
theorem rgs_mono {d d' : DC} {b : Nat} {w : World} (h : (sv d'.ev).ownBlock = (sv d.ev).ownBlock ∨ ∃ b, (sv d'.ev).ownBlock = some b ∧ w.heap.size ≤ b) (hb : RgS p d' b) : RgS p d b ∨ w.heap.size ≤ b := by
  rcases hb with rfl | hb
  · exact .inl (.inl rfl)
  · rcases h with h | ⟨b', h1, h2⟩
    · exact .inl (.inr (by rw [← h]; exact hb))
    · rw [h1] at hb
      exact .inr (by rw [← Option.some.inj hb]; exact h2)
set_option maxHeartbeats 1000000 in
theorem hpush_any (e : EN) (h : Rg B p d w H) (hH : M.Hp elt H H.length) (hlen : H.length + 1 ≤ 1099511627776) :
    Calls Tryz.prog 46 #[.iface 82 (.pointer (some ⟨p, 6, none⟩)), .iface 59 (.agg #[.int .u64 (e.1.toNat : Int), .int .u64 (e.2.toNat : Int)])] w fun r w' => (∃ u, r = .returned u) ∧ ∃ x H', Tu B p d w w' x H' ∧ H'.Perm (H ++ [e]) := by
  have hpu := push1_any e h hlen
  have hU := hH.push e
  have hm1 := meth_push (w := w) (p := p)
  clear h hH
  go_enter Tryz.func46, Tryz.ntmps46
  go_wp2_with fail
  refine hpu.mono ?_
  rintro r w1 ⟨⟨u, rfl⟩, x1, h1, hc1, hv1⟩
  have hm2 := meth_len h1.vx.1
  have hle := hlen_any h1
  have hln : (H ++ [e]).length = H.length + 1 := by simp
  have hup := up_any h1 (j := H.length) (n := (H ++ [e]).length) (Nat.le_refl _) (by simp) hU
  rw [hln] at hle
  have hni : IntKind.i64.wrap (((H.length + 1 : Nat) : Int) - 1) = (H.length : Int) := by rw [IntKind.wrap_i64]; omega
  clear hU hpu
  go_wp2_with fail
  refine hle.mono ?_
  rintro r w2 ⟨rfl, rfl⟩
  go_wp2_with fail
  refine hup.mono ?_
  rintro r w3 ⟨⟨u, rfl⟩, H', h3, hmv, hH', hc⟩
  go_wp2_with fail
  go_end0
  refine ⟨⟨_, rfl⟩, x1, H', ⟨h3, by rw [hmv.1]; exact hH', hc1.trans (hc.mono (fun b _ q => rgs_mono hv1 q)), hv1⟩, ?_⟩
  have := hmv.2.1
  rwa [List.take_of_length_le (by rw [hmv.1]; exact Nat.le_refl _), List.take_of_length_le (Nat.le_refl _)] at this

theorem Tu.popped {n : Nat} {G : List EN} {x : Option Addr × Nat × Nat} {w1 w2 : World} (hn : G.length = n + 1) (hH : M.Hp elt G n) (h1 : Chg (RgS p d) w w1) (hr : Rg B p { d with ev := x } w2 (G.take n)) (hx : (sv x).ownBlock = (sv d.ev).ownBlock) (h2 : Chg (RgS p d) w1 w2) : Tu B p d w w2 x (G.take n) :=
  ⟨hr, by rw [List.length_take, Nat.min_eq_left (by omega)]; exact hH.take, h1.trans (h2.mono (fun b _ q => .inl q)), .inl hx⟩

set_option maxHeartbeats 1000000 in
theorem hpop_any (h : Rg B p d w H) (hH : M.Hp elt H H.length) (hp0 : 0 < H.length) (hlen : H.length ≤ 1099511627776) :
    Calls Tryz.prog 64 #[.iface 82 (.pointer (some ⟨p, 6, none⟩))] w fun r w' => (∃ u, r = .returned u) ∧ ∃ x H', Tu B p d w w' x H' ∧ H'.Perm H.tail := by
  obtain ⟨n, hn⟩ : ∃ n, H.length = n + 1 := ⟨H.length - 1, by omega⟩
  have hle := hlen_any h
  have hm1 := meth_len h.vx.1
  have hm2 := meth_swap h.vx.1
  have hsw := hswap_any h (i := 0) (j := n) (by omega) (by omega)
  have hni : IntKind.i64.wrap ((H.length : Int) - 1) = (n : Int) := by rw [IntKind.wrap_i64]; omega
  go_enter Tryz.func64, Tryz.ntmps64
  go_wp2_with fail
  refine hle.mono ?_
  rintro r w2 ⟨rfl, rfl⟩
  go_wp2_with fail
  refine hsw.mono ?_
  rintro r w3 ⟨⟨u, rfl⟩, h3, hc3⟩
  have hX : M.HpX elt (M.sw H 0 n) n 0 := by
    obtain ⟨q1, q2⟩ := hH.pop hn
    exact ⟨fun i x y h1 h2 h3 h4 => q1 i x y h1 h2 h4, q2⟩
  have hdn := down_any h3 (i0 := 0) (n := n) (by rw [M.sw_len]; omega) (Nat.zero_le _) (by rw [M.sw_len]; exact hlen) hX
  clear hle hm1 hm2 hsw
  go_wp2_with fail
  refine hdn.mono ?_
  rintro r w4 ⟨bo, H', rfl, h4, hmv, hor, hc4⟩
  have hH4 : M.Hp elt H' n := by
    rcases hor with ⟨_, q⟩ | ⟨_, rfl, q⟩
    · exact q
    · exact q.top
  have hl4 : H'.length = n + 1 := by rw [hmv.1, M.sw_len]; exact hn
  obtain ⟨e4, he4⟩ : ∃ e, H'[n]? = some e := ⟨_, List.getElem?_eq_getElem (by omega)⟩
  have hm4 := meth_pop (w := w4) (p := p)
  have hpp := pop1_any h4 hl4 he4
  have HO : Hid _ := hor
  clear hdn he4 hor
  go_wp2_with fail
  refine hpp.mono ?_
  rintro r w5 ⟨⟨u5, rfl⟩, x5, h5, hx5, hc5⟩
  go_wp2_with fail
  go_ret
  exact ⟨⟨_, rfl⟩, x5, H'.take n, Tu.popped hl4 hH4 (hc3.trans (hc4.mono (fun b _ q => .inl q))) h5 hx5 hc5, hmv.2.1.trans (M.sw_top hn)⟩

set_option maxHeartbeats 1000000 in
theorem hfix_any (h : Rg B p d w H) {j : Nat} (hj : j < H.length) (hlen : H.length ≤ 1099511627776) (hX : M.HpX elt H H.length j) :
    Calls Tryz.prog 45 #[.iface 82 (.pointer (some ⟨p, 6, none⟩)), .int .i64 j] w fun r w' => (∃ u, r = .returned u) ∧ ∃ H', Rg B p d w' H' ∧ M.Hp elt H' H'.length ∧ Chg (RgS p d) w w' ∧ H'.Perm H := by
  have hle := hlen_any h
  have hm1 := meth_len h.vx.1
  have hdn := down_any h (i0 := j) (n := H.length) (Nat.le_refl _) (by omega) hlen hX
  clear hX
  go_enter Tryz.func45, Tryz.ntmps45
  go_wp2_with fail
  refine hle.mono ?_
  rintro r w2 ⟨rfl, rfl⟩
  go_wp2_with fail
  refine hdn.mono ?_
  rintro r w4 ⟨bo, H', rfl, h4, hmv, hor, hc4⟩
  have hpm : ∀ G : List EN, M.Mv H.length H G → G.Perm H := fun G q => by
    have := q.2.1
    rwa [List.take_of_length_le (by rw [q.1]; exact Nat.le_refl _), List.take_of_length_le (Nat.le_refl _)] at this
  rcases hor with ⟨rfl, q⟩ | ⟨rfl, rfl, q⟩
  · have HF : Hid _ := q
    clear hdn hle q
    go_wp2_with fail
    go_end0
    exact ⟨⟨_, rfl⟩, H', h4, by rw [hmv.1]; exact HF.out, hc4, hpm _ hmv⟩
  · have hup := up_any h4 (j := j) (n := H'.length) (Nat.le_refl _) hj q
    clear hdn hle q
    go_wp2_with fail
    refine hup.mono ?_
    rintro r w5 ⟨⟨u, rfl⟩, G, h5, hmv5, hH5, hc5⟩
    go_wp2_with fail
    go_end0
    exact ⟨⟨_, rfl⟩, G, h5, by rw [hmv5.1]; exact hH5, hc4.trans (hc5.mono (fun b _ q => .inl q)), hpm _ hmv5⟩

set_option maxHeartbeats 1000000 in
theorem hremove_any (h : Rg B p d w H) (hH : M.Hp elt H H.length) {j : Nat} (hj : j < H.length) (hlen : H.length ≤ 1099511627776) :
    Calls Tryz.prog 47 #[.iface 82 (.pointer (some ⟨p, 6, none⟩)), .int .i64 j] w fun r w' => (∃ u, r = .returned u) ∧ ∃ x H', Tu B p d w w' x H' ∧ H'.Perm (H.eraseIdx j) := by
  obtain ⟨n, hn⟩ : ∃ n, H.length = n + 1 := ⟨H.length - 1, by omega⟩
  have hle := hlen_any h
  have hm1 := meth_len h.vx.1
  have hni : IntKind.i64.wrap ((H.length : Int) - 1) = (n : Int) := by rw [IntKind.wrap_i64]; omega
  by_cases hjn : j = n
  · subst hjn
    obtain ⟨e4, he4⟩ : ∃ e, H[j]? = some e := ⟨_, List.getElem?_eq_getElem (by omega)⟩
    have hpp := pop1_any h hn he4
    have hm4 := meth_pop (w := w) (p := p)
    have HH : Hid (M.Hp elt H j ∧ (H.take j).Perm (H.eraseIdx j)) := ⟨fun i a b h1 h2 => hH i a b h1 (by omega), by
      rw [List.eraseIdx_eq_take_drop_succ, List.drop_of_length_le (by omega), List.append_nil]⟩
    have HN : Hid (H.length = j + 1) := hn
    clear he4 hn
    go_enter Tryz.func47, Tryz.ntmps47
    go_wp2_with fail
    refine hle.mono ?_
    rintro r w2 ⟨rfl, rfl⟩
    go_wp2_with fail
    refine hpp.mono ?_
    rintro r w5 ⟨⟨u5, rfl⟩, x5, h5, hx5, hc5⟩
    go_wp2_with fail
    go_ret
    exact ⟨⟨_, rfl⟩, x5, H.take j, Tu.popped HN.out HH.out.1 (Chg.refl _ _) h5 hx5 hc5, HH.out.2⟩
  · have hne : ¬ (n : Int) = (j : Int) := by omega
    have hjn' : j < n := by omega
    have hm2 := meth_swap h.vx.1
    have hsw := hswap_any h (i := j) (j := n) (by omega) (by omega)
    have hX := hH.swX hn hjn' elt_tr
    have HN : Hid (H.length = n + 1) := hn
    have HPM : Hid (((M.sw H j n).take n).Perm (H.eraseIdx j)) := M.sw_last hn hjn'
    clear hjn
    go_enter Tryz.func47, Tryz.ntmps47
    go_wp2_with fail
    refine hle.mono ?_
    rintro r w2 ⟨rfl, rfl⟩
    clear hn
    go_wp2_with fail
    refine hsw.mono ?_
    rintro r w3 ⟨⟨u, rfl⟩, h3, hc3⟩
    have hn2 : H.length = n + 1 := HN.out
    have hdn := down_any h3 (i0 := j) (n := n) (by rw [M.sw_len]; omega) (by omega) (by rw [M.sw_len]; exact hlen) hX
    clear hle hm1 hm2 hsw hX hn2
    go_wp2_with fail
    refine hdn.mono ?_
    rintro r w4 ⟨bo, H', rfl, h4, hmv, hor, hc4⟩
    have hl4 : H'.length = n + 1 := by rw [hmv.1, M.sw_len]; exact HN.out
    have hc34 := hc3.trans (hc4.mono (fun b _ q => .inl q))
    clear hdn
    rcases hor with ⟨rfl, q⟩ | ⟨rfl, rfl, q⟩
    · obtain ⟨e4, he4⟩ : ∃ e, H'[n]? = some e := ⟨_, List.getElem?_eq_getElem (by omega)⟩
      have hm4 := meth_pop (w := w4) (p := p)
      have hpp := pop1_any h4 hl4 he4
      have HF : Hid _ := And.intro q hl4
      clear q hl4 he4
      go_wp2_with fail
      refine hpp.mono ?_
      rintro r w5 ⟨⟨u5, rfl⟩, x5, h5, hx5, hc5⟩
      go_wp2_with fail
      go_ret
      exact ⟨⟨_, rfl⟩, x5, H'.take n, Tu.popped HF.out.2 HF.out.1 hc34 h5 hx5 hc5, hmv.2.1.trans HPM.out⟩
    · have hup := up_any h4 (j := j) (n := n) (by omega) hjn' q
      have HL : Hid _ := hl4
      clear q hl4
      go_wp2_with fail
      refine hup.mono ?_
      rintro r w5 ⟨⟨u, rfl⟩, G, h5, hmv5, hH5, hc5⟩
      have hl5 : G.length = n + 1 := by rw [hmv5.1]; exact HL.out
      obtain ⟨e4, he4⟩ : ∃ e, G[n]? = some e := ⟨_, List.getElem?_eq_getElem (by omega)⟩
      have hm4 := meth_pop (w := w5) (p := p)
      have hpp := pop1_any h5 hl5 he4
      have HF : Hid _ := And.intro hH5 hl5
      clear hH5 hl5 he4 hup
      go_wp2_with fail
      refine hpp.mono ?_
      rintro r w6 ⟨⟨u5, rfl⟩, x5, h6, hx5, hc6⟩
      go_wp2_with fail
      go_ret
      exact ⟨⟨_, rfl⟩, x5, G.take n, Tu.popped HF.out.2 HF.out.1 (hc34.trans (hc5.mono (fun b _ q => .inl q))) h6 hx5 hc6, (hmv5.2.1.trans hmv.2.1).trans HPM.out⟩
end
end Go.Proofs.YtefhinopppdjbaaGreat
