/- container/heap's up over the registered ones. -/
import Derived.Test.YtefhinopppdjbaaGreatG18
namespace Go.Proofs.YtefhinopppdjbaaGreat
open Go.RowKit
set_option linter.unusedVariables false
set_option maxRecDepth 100000

section
variable {B p : Nat} {d : DC} {w w' : World} {H : List EN}
theorem chg_bl {S : Nat → Prop} {w1 w2 : World} (hb : Below w1.heap.size w1 w2) : Chg S w1 w2 := (Chg.of_below hb).mono (fun b q1 q2 => by omega)
set_option maxHeartbeats 1000000 in
theorem up_any (h : Rg B p d w H) {j n : Nat} (hn : n ≤ H.length) (hj : j < n) (hU : M.HpU elt H n j) :
    Calls Tryz.prog 77 #[.iface 82 (.pointer (some ⟨p, 6, none⟩)), .int .i64 j] w fun e w' => (∃ u, e = .returned u) ∧ ∃ H', Rg B p d w' H' ∧ M.Mv n H H' ∧ M.Hp elt H' n ∧ Chg (RgS p d) w w' := by
  have hHl : H.length ≤ 9223372036854775807 := h.max
  go_enter Tryz.func77, Tryz.ntmps77
  go_wp2_with fail
  go_loopw [1, 4] (fun js _ wr => ∃ (k : Nat) (G : List EN), k < n ∧ js = .int .i64 k ∧ Rg B p d wr G ∧ M.Mv n H G ∧ Hid (M.HpU elt G n k) ∧ Chg (RgS p d) w wr) (fun js _ _ => (intOf js).toNat)
  case atStart => exact ⟨j, H, hj, rfl, h, M.Mv.refl _ _, hU, Chg.refl _ _⟩
  case round =>
    obtain ⟨k, G, hk, rfl, hG, hmv, HU, hch⟩ := hrel
    by_cases hk0 : k = 0
    · subst hk0
      have HF : Hid _ := HU.out.top
      go_wp2_with fail
      go_end0
      exact ⟨⟨_, rfl⟩, G, hG, hmv, HF.out, hch⟩
    · obtain ⟨q, hq⟩ : ∃ q, (k - 1) / 2 = q := ⟨_, rfl⟩
      have hgl : G.length = H.length := hmv.1
      obtain ⟨ek, hek⟩ : ∃ e, G[k]? = some e := ⟨_, List.getElem?_eq_getElem (by omega)⟩
      obtain ⟨ep, hep⟩ : ∃ e, G[q]? = some e := ⟨_, List.getElem?_eq_getElem (by omega)⟩
      have hlc := hless_any hG hek hep
      have hk1 : IntKind.i64.wrap ((k : Int) - 1) = ((k - 1 : Nat) : Int) := by rw [IntKind.wrap_i64]; omega
      have hpe : (((k : Int) - 1) / 2) = (q : Int) := by omega
      have hne : ¬ (q : Int) = (k : Int) := by omega
      have hm := meth_less hG.vx.1
      have hne2 : ¬ ((k - 1 : Nat) : Int) / 2 = (k : Int) := by omega
      have hpe2 : ((k - 1 : Nat) : Int) / 2 = (q : Int) := by omega
      by_cases hlt : elt ek ep = true
      · rw [hlt] at hlc
        have HN : Hid (M.HpU elt (M.sw G q k) n q ∧ M.Mv n H (M.sw G q k)) := by
          refine ⟨?_, hmv.trans (M.sw_mv (by omega) hk (by omega))⟩
          have := M.HpU.upN elt_tr elt_asy (by omega) (by omega) hk HU.out hek (by rw [hq]; exact hep) hlt
          rw [hq] at this
          exact this
        clear h hU hlt
        go_wp2_with fail
        refine hlc.mono ?_
        rintro e w1 ⟨rfl, hb1⟩
        have hG1 := hG.below hb1 (Nat.le_refl _)
        have hm2 := meth_swap hG1.vx.1
        have hsw := hswap_any hG1 (i := q) (j := k) (by omega) (by omega)
        clear hm
        go_wp2_with fail
        refine hsw.mono ?_
        rintro e w2 ⟨⟨u, rfl⟩, hG2, hc2⟩
        go_wp2_with fail
        exact ⟨⟨q, M.sw G q k, by omega, rfl, hG2, HN.out.2, HN.out.1, (hch.trans (chg_bl hb1)).trans (hc2.mono (fun b _ q => .inl q))⟩, by simp [intOf]; omega⟩
      · have hlf : elt ek ep = false := by simpa using hlt
        rw [hlf] at hlc
        have HN : Hid (M.Hp elt G n) := HU.out.ok hek (by rw [hq]; exact hep) hlf
        clear h hU hlt hlf
        go_wp2_with fail
        refine hlc.mono ?_
        rintro e w1 ⟨rfl, hb1⟩
        go_wp2_with fail
        go_end0
        exact ⟨⟨_, rfl⟩, G, hG.below hb1 (Nat.le_refl _), hmv, HN.out, hch.trans (chg_bl hb1)⟩
end
end Go.Proofs.YtefhinopppdjbaaGreat
