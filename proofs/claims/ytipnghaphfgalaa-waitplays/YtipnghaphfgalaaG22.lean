/- container/heap's up over the heap of ways. -/
import Derived.Test.YtipnghaphfgalaaG20
namespace Go.Proofs.Ytipnghaphfgalaa
open Go.RowKit
set_option linter.unusedVariables false
set_option maxRecDepth 100000

section
variable {w0 : World} {x : Nat} {v : Value} {w w' : World} {H A : List HE}
set_option maxHeartbeats 1000000 in
theorem up_any (h : Hq w0 x v w H A) {j : Nat} (hj : j < H.length) (hU : M.HpU helt H H.length j) :
    Calls Try.prog 45 #[.iface 71 (.pointer (some ⟨x, 0, none⟩)), .int .i64 j] w fun e w' => (∃ u, e = .returned u) ∧ ∃ H', Hq w0 x v w' H' A ∧ M.Mv H.length H H' ∧ M.Hp helt H' H.length ∧ Chg (fun b => v.ownBlock = some b) w w' := by
  have hHl : H.length ≤ 9223372036854775807 := by
    obtain ⟨a, c, ev, l1, l2, _⟩ := row_reads h.row
    unfold maxLen at l2
    omega
  go_enter Try.func45, Try.ntmps45
  go_wp2_with fail
  go_loopw [1, 4] (fun js _ wr => ∃ (k : Nat) (G : List HE), k < H.length ∧ js = .int .i64 k ∧ Hq w0 x v wr G A ∧ M.Mv H.length H G ∧ Hid (M.HpU helt G H.length k) ∧ Chg (fun b => v.ownBlock = some b) w wr) (fun js _ _ => (intOf js).toNat)
  case atStart => exact ⟨j, H, hj, rfl, h, M.Mv.refl _ _, hU, Chg.refl _ _⟩
  case round =>
    obtain ⟨k, G, hk, rfl, hG, hmv, HU, hch⟩ := hrel
    by_cases hk0 : k = 0
    · subst hk0
      have HF : Hid _ := HU.out.top
      go_wp2_with fail
      go_end0
      exact ⟨⟨_, rfl⟩, G, hG, hmv, HF.out, hch⟩
    · obtain ⟨p, hp⟩ : ∃ p, (k - 1) / 2 = p := ⟨_, rfl⟩
      have hgl : G.length = H.length := hmv.1
      obtain ⟨ek, hek⟩ : ∃ e, G[k]? = some e := ⟨_, List.getElem?_eq_getElem (by omega)⟩
      obtain ⟨ep, hep⟩ : ∃ e, G[p]? = some e := ⟨_, List.getElem?_eq_getElem (by omega)⟩
      have hlc := hless_any hG hek hep
      have hk1 : IntKind.i64.wrap ((k : Int) - 1) = ((k - 1 : Nat) : Int) := by rw [IntKind.wrap_i64]; omega
      have hpe : (((k : Int) - 1) / 2) = (p : Int) := by omega
      have hne : ¬ (p : Int) = (k : Int) := by omega
      have hm := meth_less hG.vx.1
      have hne2 : ¬ ((k - 1 : Nat) : Int) / 2 = (k : Int) := by omega
      have hpe2 : ((k - 1 : Nat) : Int) / 2 = (p : Int) := by omega
      by_cases hlt : helt ek ep = true
      · rw [hlt] at hlc
        have HN : Hid (∀ n, M.HpU helt (M.sw G p k) H.length p ∧ M.Mv H.length H (M.sw G p k) ∧ Hq w0 x v (wr.drewN n) G A) := fun n => by
          refine ⟨?_, hmv.trans (M.sw_mv (by omega) hk (by omega)), hG.drewN n⟩
          have := HU.out.up helt_tr helt_asy hgl.symm (by omega) hk hek (by rw [hp]; exact hep) hlt
          rw [hp] at this
          exact this
        clear h hU hlt
        go_wp2_with fail
        refine hlc.mono ?_
        rintro e w1 ⟨rfl, n, rfl⟩
        have hm2 := meth_swap (HN.out n).2.2.vx.1
        have hsw := hswap_any (HN.out n).2.2 (i := p) (j := k) (by omega) (by omega)
        go_wp2_with fail
        refine hsw.mono ?_
        rintro e w2 ⟨⟨u, rfl⟩, hG2, hc2⟩
        go_wp2_with fail
        exact ⟨⟨p, M.sw G p k, by omega, rfl, hG2, (HN.out 0).2.1, (HN.out 0).1, (hch.trans ((Chg.of_below (Below.dN wr n)).mono (fun b h1 h2 => by omega))).trans (hc2.mono (fun b _ q => .inl q))⟩, by simp [intOf]; omega⟩
      · have hlf : helt ek ep = false := by simpa using hlt
        rw [hlf] at hlc
        have HN : Hid (M.Hp helt G H.length) := HU.out.ok hek (by rw [hp]; exact hep) hlf
        clear h hU hlt hlf
        go_wp2_with fail
        refine hlc.mono ?_
        rintro e w1 ⟨rfl, n, rfl⟩
        go_wp2_with fail
        go_end0
        exact ⟨⟨_, rfl⟩, G, hG.drewN n, hmv, HN.out, hch.trans ((Chg.of_below (Below.dN wr n)).mono (fun b h1 h2 => by omega))⟩
end
end Go.Proofs.Ytipnghaphfgalaa
