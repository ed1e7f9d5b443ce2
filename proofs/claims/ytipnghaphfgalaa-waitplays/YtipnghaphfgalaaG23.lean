/- container/heap's down over the heap of ways. -/
import Derived.Test.YtipnghaphfgalaaG22
namespace Go.Proofs.Ytipnghaphfgalaa
open Go.RowKit
set_option linter.unusedVariables false
set_option maxRecDepth 100000

section
variable {w0 : World} {x : Nat} {v : Value} {w w' : World} {H A : List HE}
set_option maxHeartbeats 2000000 in
theorem down_any (h : Hq w0 x v w H A) {i0 n : Nat} (hn : n ≤ H.length) (hi : i0 ≤ n) (hlen : H.length ≤ 1099511627776) (hD : M.HpD helt H n i0) :
    Calls Try.prog 48 #[.iface 71 (.pointer (some ⟨x, 0, none⟩)), .int .i64 i0, .int .i64 n] w fun e w' => (∃ b, e = .returned (.bool b)) ∧ ∃ H', Hq w0 x v w' H' A ∧ M.Mv n H H' ∧ M.Hp helt H' n ∧ Chg (fun b => v.ownBlock = some b) w w' := by
  have hHl : H.length ≤ 1099511627776 := hlen
  go_enter Try.func48, Try.ntmps48
  go_wp2_with fail
  go_loopw [7, 8, 9, 10] (fun is _ _ _ wr => ∃ (k : Nat) (G : List HE), k ≤ n ∧ is = .int .i64 k ∧ Hq w0 x v wr G A ∧ M.Mv n H G ∧ Hid (M.HpD helt G n k) ∧ Chg (fun b => v.ownBlock = some b) w wr) (fun is _ _ _ _ => n - (intOf is).toNat)
  case atStart => exact ⟨i0, H, hi, rfl, h, M.Mv.refl _ _, hD, Chg.refl _ _⟩
  case round =>
    obtain ⟨k, G, hk, rfl, hG, hmv, HU, hch⟩ := hrel
    obtain ⟨j1, hj1⟩ : ∃ j, 2 * k + 1 = j := ⟨_, rfl⟩
    obtain ⟨j2, hj2⟩ : ∃ j, 2 * k + 2 = j := ⟨_, rfl⟩
    have hw1 : IntKind.i64.wrap (2 * (k : Int)) = 2 * (k : Int) := by rw [IntKind.wrap_i64]; omega
    have hw2 : IntKind.i64.wrap (2 * (k : Int) + 1) = (j1 : Int) := by rw [IntKind.wrap_i64]; omega
    have hw3 : IntKind.i64.wrap ((j1 : Int) + 1) = (j2 : Int) := by rw [IntKind.wrap_i64]; omega
    have hgl : G.length = H.length := hmv.1
    have hch' : ∀ m, Chg (fun b => v.ownBlock = some b) w (wr.drewN m) := fun m => hch.trans ((Chg.of_below (Below.dN wr m)).mono (fun b h1 h2 => by omega))
    clear h hD
    by_cases h1 : j1 < n
    · obtain ⟨e1, he1⟩ : ∃ e, G[j1]? = some e := ⟨_, List.getElem?_eq_getElem (by omega)⟩
      obtain ⟨ek, hek⟩ : ∃ e, G[k]? = some e := ⟨_, List.getElem?_eq_getElem (by omega)⟩
      have hm := meth_less hG.vx.1
      have g1 : ¬ (n : Int) ≤ (j1 : Int) := by omega
      have g2 : ¬ (j1 : Int) < 0 := by omega
      by_cases h2 : j2 < n
      · obtain ⟨e2, he2⟩ : ∃ e, G[j2]? = some e := ⟨_, List.getElem?_eq_getElem (by omega)⟩
        have g3 : (j2 : Int) < (n : Int) := by omega
        have hl2 := hless_any hG he2 he1
        by_cases hlt : helt e2 e1 = true
        · rw [hlt] at hl2
          go_wp2_with fail
          refine hl2.mono ?_
          rintro e w1 ⟨rfl, m1, rfl⟩
          have hc : ∀ q a, 0 < q → q < n → (q - 1) / 2 = k → G[q]? = some a → helt a e2 = false := fun q a q1 q2 q3 hq => by
              rcases (show q = j1 ∨ q = j2 by omega) with r | r
              · subst r; rw [he1] at hq; obtain rfl := Option.some.inj hq; exact helt_asy _ _ hlt
              · subst r; rw [he2] at hq; obtain rfl := Option.some.inj hq; exact helt_irr _
          have hlc := hless_any (hG.drewN m1) he2 hek
          by_cases hlt3 : helt e2 ek = true
          · rw [hlt3] at hlc
            have HN : Hid (M.HpD helt (M.sw G k j2) n j2 ∧ M.Mv n H (M.sw G k j2)) := ⟨HU.out.down helt_asy (by omega) (by omega) (by omega) (by omega) hek he2 hc hlt3, hmv.trans (M.sw_mv (by omega) (by omega) (by omega))⟩
            have hm3 := meth_less (hG.drewN m1).vx.1
            clear hlt3 hc hlt
            go_wp2_with fail
            refine hlc.mono ?_
            rintro e w2 ⟨rfl, m2, rfl⟩
            have hG2 := hG.drewN (m1 + m2)
            have hm2 := meth_swap hG2.vx.1
            have hsw := hswap_any hG2 (i := k) (j := j2) (by omega) (by omega)
            go_wp2_with fail
            refine hsw.mono ?_
            rintro e w3 ⟨⟨u, rfl⟩, hG3, hc3⟩
            go_wp2_with fail
            exact ⟨⟨j2, M.sw G k j2, by omega, rfl, hG3, HN.out.2, HN.out.1, (hch' (m1 + m2)).trans (hc3.mono (fun b _ q => .inl q))⟩, by simp [intOf]; omega⟩
          · have hlf : helt e2 ek = false := by simpa using hlt3
            rw [hlf] at hlc
            have HN : Hid (M.Hp helt G n) := HU.out.ok helt_tr hek he2 hc hlf
            have hm3 := meth_less (hG.drewN m1).vx.1
            clear hlt3 hlf hc hlt
            go_wp2_with fail
            refine hlc.mono ?_
            rintro e w2 ⟨rfl, m2, rfl⟩
            go_wp2_with fail
            go_ret
            exact ⟨⟨_, rfl⟩, G, hG.drewN (m1 + m2), hmv, HN.out, hch' (m1 + m2)⟩
        · have hlf2 : helt e2 e1 = false := by simpa using hlt
          rw [hlf2] at hl2
          go_wp2_with fail
          refine hl2.mono ?_
          rintro e w1 ⟨rfl, m1, rfl⟩
          have hc : ∀ q a, 0 < q → q < n → (q - 1) / 2 = k → G[q]? = some a → helt a e1 = false := fun q a q1 q2 q3 hq => by
              rcases (show q = j1 ∨ q = j2 by omega) with r | r
              · subst r; rw [he1] at hq; obtain rfl := Option.some.inj hq; exact helt_irr _
              · subst r; rw [he2] at hq; obtain rfl := Option.some.inj hq; exact hlf2
          have hlc := hless_any (hG.drewN m1) he1 hek
          by_cases hlt3 : helt e1 ek = true
          · rw [hlt3] at hlc
            have HN : Hid (M.HpD helt (M.sw G k j1) n j1 ∧ M.Mv n H (M.sw G k j1)) := ⟨HU.out.down helt_asy (by omega) (by omega) (by omega) (by omega) hek he1 hc hlt3, hmv.trans (M.sw_mv (by omega) (by omega) (by omega))⟩
            have hm3 := meth_less (hG.drewN m1).vx.1
            clear hlt3 hc hlt
            clear hlf2
            go_wp2_with fail
            refine hlc.mono ?_
            rintro e w2 ⟨rfl, m2, rfl⟩
            have hG2 := hG.drewN (m1 + m2)
            have hm2 := meth_swap hG2.vx.1
            have hsw := hswap_any hG2 (i := k) (j := j1) (by omega) (by omega)
            go_wp2_with fail
            refine hsw.mono ?_
            rintro e w3 ⟨⟨u, rfl⟩, hG3, hc3⟩
            go_wp2_with fail
            exact ⟨⟨j1, M.sw G k j1, by omega, rfl, hG3, HN.out.2, HN.out.1, (hch' (m1 + m2)).trans (hc3.mono (fun b _ q => .inl q))⟩, by simp [intOf]; omega⟩
          · have hlf : helt e1 ek = false := by simpa using hlt3
            rw [hlf] at hlc
            have HN : Hid (M.Hp helt G n) := HU.out.ok helt_tr hek he1 hc hlf
            have hm3 := meth_less (hG.drewN m1).vx.1
            clear hlt3 hlf hc hlt
            clear hlf2
            go_wp2_with fail
            refine hlc.mono ?_
            rintro e w2 ⟨rfl, m2, rfl⟩
            go_wp2_with fail
            go_ret
            exact ⟨⟨_, rfl⟩, G, hG.drewN (m1 + m2), hmv, HN.out, hch' (m1 + m2)⟩
      · have g3 : ¬ (j2 : Int) < (n : Int) := by omega
        have hlt : True := trivial
        have hc : ∀ q a, 0 < q → q < n → (q - 1) / 2 = k → G[q]? = some a → helt a e1 = false := fun q a q1 q2 q3 hq => by
            obtain rfl : q = j1 := by omega
            rw [he1] at hq; obtain rfl := Option.some.inj hq; exact helt_irr _
        have hlc := hless_any hG he1 hek
        by_cases hlt3 : helt e1 ek = true
        · rw [hlt3] at hlc
          have HN : Hid (M.HpD helt (M.sw G k j1) n j1 ∧ M.Mv n H (M.sw G k j1)) := ⟨HU.out.down helt_asy (by omega) (by omega) (by omega) (by omega) hek he1 hc hlt3, hmv.trans (M.sw_mv (by omega) (by omega) (by omega))⟩
          have hm3 := meth_less hG.vx.1
          clear hlt3 hc hlt
          go_wp2_with fail
          refine hlc.mono ?_
          rintro e w2 ⟨rfl, m2, rfl⟩
          have hG2 := hG.drewN m2
          have hm2 := meth_swap hG2.vx.1
          have hsw := hswap_any hG2 (i := k) (j := j1) (by omega) (by omega)
          go_wp2_with fail
          refine hsw.mono ?_
          rintro e w3 ⟨⟨u, rfl⟩, hG3, hc3⟩
          go_wp2_with fail
          exact ⟨⟨j1, M.sw G k j1, by omega, rfl, hG3, HN.out.2, HN.out.1, (hch' m2).trans (hc3.mono (fun b _ q => .inl q))⟩, by simp [intOf]; omega⟩
        · have hlf : helt e1 ek = false := by simpa using hlt3
          rw [hlf] at hlc
          have HN : Hid (M.Hp helt G n) := HU.out.ok helt_tr hek he1 hc hlf
          have hm3 := meth_less hG.vx.1
          clear hlt3 hlf hc hlt
          go_wp2_with fail
          refine hlc.mono ?_
          rintro e w2 ⟨rfl, m2, rfl⟩
          go_wp2_with fail
          go_ret
          exact ⟨⟨_, rfl⟩, G, hG.drewN m2, hmv, HN.out, hch' m2⟩
    · have g1 : (n : Int) ≤ (j1 : Int) := by omega
      have HF : Hid _ := HU.out.none (by omega)
      go_wp2_with fail
      go_ret
      exact ⟨⟨_, rfl⟩, G, hG, hmv, HF.out, hch⟩
end
end Go.Proofs.Ytipnghaphfgalaa
