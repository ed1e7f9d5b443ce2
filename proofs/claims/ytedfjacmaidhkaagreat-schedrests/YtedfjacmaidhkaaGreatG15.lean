/- container/heap's down over the queue. -/
import Derived.Test.YtedfjacmaidhkaaGreatG14
namespace Go.Proofs.YtedfjacmaidhkaaGreat
open Go.RowKit
set_option linter.unusedVariables false
set_option maxRecDepth 100000

/-- On the way down: nothing has moved yet, or the place that may be wrong is k. -/
def Dn (lt : Pe → Pe → Bool) (H G : List Pe) (n i0 k : Nat) : Prop := (k = i0 ∧ G = H ∧ M.HpX lt H n i0) ∨ (i0 < k ∧ M.HpD lt G n k)
def Dz (lt : Pe → Pe → Bool) (H G : List Pe) (n i0 k : Nat) : Prop := (i0 < k ∧ M.Hp lt G n) ∨ (k = i0 ∧ G = H ∧ M.HpU lt H n i0)
theorem Dn.none {lt : Pe → Pe → Bool} {H G : List Pe} {n i0 k : Nat} (h : Dn lt H G n i0 k) (hn : n ≤ 2 * k + 1) : Dz lt H G n i0 k := by
  rcases h with ⟨rfl, rfl, h⟩ | ⟨h1, h⟩
  · exact .inr ⟨rfl, rfl, h.none hn⟩
  · exact .inl ⟨h1, h.none hn⟩
theorem Dn.ok {lt : Pe → Pe → Bool} (hO : Ord3 lt) {H G : List Pe} {n i0 k c : Nat} {x z : Pe} (h : Dn lt H G n i0 k) (hx : G[k]? = some x) (hz : G[c]? = some z) (hc : ∀ q a, 0 < q → q < n → (q - 1) / 2 = k → G[q]? = some a → lt a z = false) (hl : lt z x = false) : Dz lt H G n i0 k := by
  rcases h with ⟨rfl, rfl, h⟩ | ⟨h1, h⟩
  · exact .inr ⟨rfl, rfl, h.ok hO.tr hx hz hc hl⟩
  · exact .inl ⟨h1, h.ok hO.tr hx hz hc hl⟩
theorem Dn.down {lt : Pe → Pe → Bool} (hO : Ord3 lt) {H G : List Pe} {n i0 k c : Nat} {x z : Pe} (h : Dn lt H G n i0 k) (hn : n ≤ G.length) (hc0 : 0 < c) (hcn : c < n) (hcj : (c - 1) / 2 = k) (hx : G[k]? = some x) (hz : G[c]? = some z) (hc : ∀ q a, 0 < q → q < n → (q - 1) / 2 = k → G[q]? = some a → lt a z = false) (hl : lt z x = true) : Dn lt H (M.sw G k c) n i0 c := by
  rcases h with ⟨rfl, rfl, h⟩ | ⟨h1, h⟩
  · exact .inr ⟨by omega, h.down hO.asy hn hc0 hcn hcj hx hz hc hl⟩
  · exact .inr ⟨by omega, h.down hO.asy hn hc0 hcn hcj hx hz hc hl⟩

section
variable {B p : Nat} {f : Value} {x : Option Addr × Nat × Nat} {w w' : World} {H : List Pe} {lt : Pe → Pe → Bool}
set_option maxHeartbeats 2000000 in
theorem down_any {w0 : World} (hO : Ord3 lt) (h : Qu B p f x w H) (hA : Ahead w0 f lt) (hB : w0.heap.size ≤ B) (hbw : Below w0.heap.size w0 w) {i0 n : Nat} (hn : n ≤ H.length) (hi : i0 ≤ n) (hlen : H.length ≤ 1099511627776) (hD : M.HpX lt H n i0) :
    Calls Tryz.prog 97 #[.iface 121 (.pointer (some ⟨p, 0, none⟩)), .int .i64 i0, .int .i64 n] w fun e w' => ∃ bo H', e = .returned (.bool bo) ∧ Qu B p f x w' H' ∧ M.Mv n H H' ∧ ((bo = true ∧ M.Hp lt H' n) ∨ (bo = false ∧ H' = H ∧ M.HpU lt H n i0)) ∧ Chg (QuS p x) w w' := by
  have hHl : H.length ≤ 1099511627776 := hlen
  have HE : Hid (∀ (k : Nat) (G : List Pe) (wr : World), Qu B p f x wr G → M.Mv n H G → i0 ≤ k → Dz lt H G n i0 k → Chg (QuS p x) w wr → ∃ bo H', Ending.returned (.bool (decide (i0 < k))) = .returned (.bool bo) ∧ Qu B p f x wr H' ∧ M.Mv n H H' ∧ ((bo = true ∧ M.Hp lt H' n) ∨ (bo = false ∧ H' = H ∧ M.HpU lt H n i0)) ∧ Chg (QuS p x) w wr) := fun k G wr q1 q2 q3 q4 q5 => by
    rcases q4 with ⟨r1, r2⟩ | ⟨rfl, rfl, r⟩
    · exact ⟨true, G, by rw [decide_eq_true (by omega)], q1, q2, .inl ⟨rfl, r2⟩, q5⟩
    · exact ⟨false, G, by rw [decide_eq_false (by omega)], q1, q2, .inr ⟨rfl, rfl, r⟩, q5⟩
  have hstart : Dn lt H H n i0 i0 := .inl ⟨rfl, rfl, hD⟩
  clear hD
  go_enter Tryz.func97, Tryz.ntmps97
  go_wp2_with fail
  go_loopw [7, 8, 9, 10] (fun is _ _ _ wr => ∃ (k : Nat) (G : List Pe), k ≤ n ∧ i0 ≤ k ∧ is = .int .i64 k ∧ Qu B p f x wr G ∧ M.Mv n H G ∧ Hid (Dn lt H G n i0 k) ∧ Chg (QuS p x) w wr) (fun is _ _ _ _ => n - (intOf is).toNat)
  case atStart => exact ⟨i0, H, hi, Nat.le_refl _, rfl, h, M.Mv.refl _ _, hstart, Chg.refl _ _⟩
  case round =>
    obtain ⟨k, G, hk, hkb, rfl, hG, hmv, HU, hch⟩ := hrel
    obtain ⟨j1, hj1⟩ : ∃ j, 2 * k + 1 = j := ⟨_, rfl⟩
    obtain ⟨j2, hj2⟩ : ∃ j, 2 * k + 2 = j := ⟨_, rfl⟩
    have hw1 : IntKind.i64.wrap (2 * (k : Int)) = 2 * (k : Int) := by rw [IntKind.wrap_i64]; omega
    have hw2 : IntKind.i64.wrap (2 * (k : Int) + 1) = (j1 : Int) := by rw [IntKind.wrap_i64]; omega
    have hw3 : IntKind.i64.wrap ((j1 : Int) + 1) = (j2 : Int) := by rw [IntKind.wrap_i64]; omega
    have hgl : G.length = H.length := hmv.1
    have hA1 := hA.below (below_chg hbw hch h hB)
    clear h hstart hA
    by_cases h1 : j1 < n
    · obtain ⟨e1, he1⟩ : ∃ e, G[j1]? = some e := ⟨_, List.getElem?_eq_getElem (by omega)⟩
      obtain ⟨ek, hek⟩ : ∃ e, G[k]? = some e := ⟨_, List.getElem?_eq_getElem (by omega)⟩
      have hm := meth_less (w := wr) (p := p)
      have g1 : ¬ (n : Int) ≤ (j1 : Int) := by omega
      have g2 : ¬ (j1 : Int) < 0 := by omega
      by_cases h2 : j2 < n
      · obtain ⟨e2, he2⟩ : ∃ e, G[j2]? = some e := ⟨_, List.getElem?_eq_getElem (by omega)⟩
        have g3 : (j2 : Int) < (n : Int) := by omega
        have hl2 := qless_any hG hA1 he2 he1
        by_cases hlt : lt e2 e1 = true
        · rw [hlt] at hl2
          go_wp2_with fail
          refine hl2.mono ?_
          rintro e w1 ⟨rfl, hb1⟩
          have hc : ∀ q a, 0 < q → q < n → (q - 1) / 2 = k → G[q]? = some a → lt a e2 = false := fun q a q1 q2 q3 hq => by
              rcases (show q = j1 ∨ q = j2 by omega) with r | r
              · subst r; rw [he1] at hq; obtain rfl := Option.some.inj hq; exact hO.asy _ _ hlt
              · subst r; rw [he2] at hq; obtain rfl := Option.some.inj hq; exact hO.irr _
          have hGa := hG.below hb1 (Nat.le_refl _)
          have hlc := qless_any hGa (hA1.below hb1) he2 hek
          have hm3 := meth_less (w := w1) (p := p)
          by_cases hlt3 : lt e2 ek = true
          · rw [hlt3] at hlc
            have HN : Hid (Dn lt H (M.sw G k j2) n i0 j2 ∧ M.Mv n H (M.sw G k j2)) := ⟨HU.out.down hO (by omega) (by omega) (by omega) (by omega) hek he2 hc hlt3, hmv.trans (M.sw_mv (by omega) (by omega) (by omega))⟩
            clear hlt3 hc hlt
            go_wp2_with fail
            refine hlc.mono ?_
            rintro e w2 ⟨rfl, hb2⟩
            have hG2 := hGa.below hb2 (Nat.le_refl _)
            have hm2 := meth_swap (w := w2) (p := p)
            have hsw := qswap_any hG2 (i := k) (j := j2) (by omega) (by omega)
            clear hm hm3
            go_wp2_with fail
            refine hsw.mono ?_
            rintro e w3 ⟨⟨u, rfl⟩, hG3, hc3⟩
            go_wp2_with fail
            exact ⟨⟨j2, (M.sw G k j2), by omega, by omega, rfl, hG3, HN.out.2, HN.out.1, ((hch.trans (chg_bl hb1)).trans (chg_bl hb2)).trans (hc3.mono (fun b _ q => .inl q))⟩, by simp [intOf]; omega⟩
          · have hlf : lt e2 ek = false := by simpa using hlt3
            rw [hlf] at hlc
            have HN : Hid (Dz lt H G n i0 k) := HU.out.ok hO hek he2 hc hlf
            clear hlt3 hlf hc hlt
            go_wp2_with fail
            refine hlc.mono ?_
            rintro e w2 ⟨rfl, hb2⟩
            go_wp2_with fail
            go_ret
            exact HE.out _ G _ (hGa.below hb2 (Nat.le_refl _)) hmv hkb HN.out ((hch.trans (chg_bl hb1)).trans (chg_bl hb2))
        · have hlf2 : lt e2 e1 = false := by simpa using hlt
          rw [hlf2] at hl2
          go_wp2_with fail
          refine hl2.mono ?_
          rintro e w1 ⟨rfl, hb1⟩
          have hc : ∀ q a, 0 < q → q < n → (q - 1) / 2 = k → G[q]? = some a → lt a e1 = false := fun q a q1 q2 q3 hq => by
              rcases (show q = j1 ∨ q = j2 by omega) with r | r
              · subst r; rw [he1] at hq; obtain rfl := Option.some.inj hq; exact hO.irr _
              · subst r; rw [he2] at hq; obtain rfl := Option.some.inj hq; exact hlf2
          have hGa := hG.below hb1 (Nat.le_refl _)
          clear hlt
          have hlc := qless_any hGa (hA1.below hb1) he1 hek
          have hm3 := meth_less (w := w1) (p := p)
          by_cases hlt3 : lt e1 ek = true
          · rw [hlt3] at hlc
            have HN : Hid (Dn lt H (M.sw G k j1) n i0 j1 ∧ M.Mv n H (M.sw G k j1)) := ⟨HU.out.down hO (by omega) (by omega) (by omega) (by omega) hek he1 hc hlt3, hmv.trans (M.sw_mv (by omega) (by omega) (by omega))⟩
            clear hlt3 hc hlf2
            go_wp2_with fail
            refine hlc.mono ?_
            rintro e w2 ⟨rfl, hb2⟩
            have hG2 := hGa.below hb2 (Nat.le_refl _)
            have hm2 := meth_swap (w := w2) (p := p)
            have hsw := qswap_any hG2 (i := k) (j := j1) (by omega) (by omega)
            clear hm hm3
            go_wp2_with fail
            refine hsw.mono ?_
            rintro e w3 ⟨⟨u, rfl⟩, hG3, hc3⟩
            go_wp2_with fail
            exact ⟨⟨j1, (M.sw G k j1), by omega, by omega, rfl, hG3, HN.out.2, HN.out.1, ((hch.trans (chg_bl hb1)).trans (chg_bl hb2)).trans (hc3.mono (fun b _ q => .inl q))⟩, by simp [intOf]; omega⟩
          · have hlf : lt e1 ek = false := by simpa using hlt3
            rw [hlf] at hlc
            have HN : Hid (Dz lt H G n i0 k) := HU.out.ok hO hek he1 hc hlf
            clear hlt3 hlf hc hlf2
            go_wp2_with fail
            refine hlc.mono ?_
            rintro e w2 ⟨rfl, hb2⟩
            go_wp2_with fail
            go_ret
            exact HE.out _ G _ (hGa.below hb2 (Nat.le_refl _)) hmv hkb HN.out ((hch.trans (chg_bl hb1)).trans (chg_bl hb2))
      · have g3 : ¬ (j2 : Int) < (n : Int) := by omega
        have hlt : True := trivial
        have hc : ∀ q a, 0 < q → q < n → (q - 1) / 2 = k → G[q]? = some a → lt a e1 = false := fun q a q1 q2 q3 hq => by
            obtain rfl : q = j1 := by omega
            rw [he1] at hq; obtain rfl := Option.some.inj hq; exact hO.irr _
        have hlc := qless_any hG hA1 he1 hek
        have hm3 := meth_less (w := wr) (p := p)
        by_cases hlt3 : lt e1 ek = true
        · rw [hlt3] at hlc
          have HN : Hid (Dn lt H (M.sw G k j1) n i0 j1 ∧ M.Mv n H (M.sw G k j1)) := ⟨HU.out.down hO (by omega) (by omega) (by omega) (by omega) hek he1 hc hlt3, hmv.trans (M.sw_mv (by omega) (by omega) (by omega))⟩
          clear hlt3 hc hlt
          go_wp2_with fail
          refine hlc.mono ?_
          rintro e w2 ⟨rfl, hb2⟩
          have hG2 := hG.below hb2 (Nat.le_refl _)
          have hm2 := meth_swap (w := w2) (p := p)
          have hsw := qswap_any hG2 (i := k) (j := j1) (by omega) (by omega)
          clear hm hm3
          go_wp2_with fail
          refine hsw.mono ?_
          rintro e w3 ⟨⟨u, rfl⟩, hG3, hc3⟩
          go_wp2_with fail
          exact ⟨⟨j1, (M.sw G k j1), by omega, by omega, rfl, hG3, HN.out.2, HN.out.1, ((hch).trans (chg_bl hb2)).trans (hc3.mono (fun b _ q => .inl q))⟩, by simp [intOf]; omega⟩
        · have hlf : lt e1 ek = false := by simpa using hlt3
          rw [hlf] at hlc
          have HN : Hid (Dz lt H G n i0 k) := HU.out.ok hO hek he1 hc hlf
          clear hlt3 hlf hc hlt
          go_wp2_with fail
          refine hlc.mono ?_
          rintro e w2 ⟨rfl, hb2⟩
          go_wp2_with fail
          go_ret
          exact HE.out _ G _ (hG.below hb2 (Nat.le_refl _)) hmv hkb HN.out ((hch).trans (chg_bl hb2))
    · have g1 : (n : Int) ≤ (j1 : Int) := by omega
      have HF : Hid _ := HU.out.none (by omega)
      go_wp2_with fail
      go_ret
      exact HE.out _ G _ hG hmv hkb HF.out hch
end
end Go.Proofs.YtedfjacmaidhkaaGreat
