/- container/heap's up over the queue. -/
import Derived.Test.YtedfjacmaidhkaaGreatG11
import Derived.Test.YtedfjacmaidhkaaGreatG4
namespace Go.Proofs.YtedfjacmaidhkaaGreat
open Go.RowKit
set_option linter.unusedVariables false
set_option maxRecDepth 100000

section
variable {B p : Nat} {f : Value} {x : Option Addr × Nat × Nat} {w w' : World} {H : List Pe} {lt : Pe → Pe → Bool}
/-- An order: who is not ahead, over two steps; who is ahead is not behind; nobody is ahead of itself. -/
structure Ord3 (lt : Pe → Pe → Bool) : Prop where
  tr : ∀ a b c : Pe, lt b a = false → lt c b = false → lt c a = false
  asy : ∀ a b : Pe, lt a b = true → lt b a = false
  irr : ∀ a : Pe, lt a a = false
theorem below_chg {w0 : World} (hb : Below w0.heap.size w0 w) (hc : Chg (QuS p x) w w') (h : Qu B p f x w H) (hB : w0.heap.size ≤ B) : Below w0.heap.size w0 w' :=
  hb.trans (hc.below (fun b q => Nat.le_trans hB (h.blo q)) hb.size)
set_option maxHeartbeats 1000000 in
theorem up_any {w0 : World} (hO : Ord3 lt) (h : Qu B p f x w H) (hA : Ahead w0 f lt) (hB : w0.heap.size ≤ B) (hbw : Below w0.heap.size w0 w) {j n : Nat} (hn : n ≤ H.length) (hj : j < n) (hU : M.HpU lt H n j) :
    Calls Tryz.prog 96 #[.iface 121 (.pointer (some ⟨p, 0, none⟩)), .int .i64 j] w fun e w' => (∃ u, e = .returned u) ∧ ∃ H', Qu B p f x w' H' ∧ M.Mv n H H' ∧ M.Hp lt H' n ∧ Chg (QuS p x) w w' := by
  have hHl : H.length ≤ 9223372036854775807 := h.max
  go_enter Tryz.func96, Tryz.ntmps96
  go_wp2_with fail
  go_loopw [1, 4] (fun js _ wr => ∃ (k : Nat) (G : List Pe), k < n ∧ js = .int .i64 k ∧ Qu B p f x wr G ∧ M.Mv n H G ∧ Hid (M.HpU lt G n k) ∧ Chg (QuS p x) w wr) (fun js _ _ => (intOf js).toNat)
  case atStart => exact ⟨j, H, hj, rfl, h, M.Mv.refl _ _, hU, Chg.refl _ _⟩
  case round =>
    obtain ⟨k, G, hk, rfl, hG, hmv, HU, hch⟩ := hrel
    by_cases hk0 : k = 0
    · subst hk0
      have HF : Hid _ := HU.out.top
      go_wp2_with fail
      go_end0
      exact ⟨⟨_, rfl⟩, G, hG, hmv, HF.out, hch⟩
    · obtain ⟨q, hq⟩ : ∃ q, (k - 1) / 2 = q := ⟨_, rfl⟩
      have hgl : G.length = H.length := hmv.1
      obtain ⟨ek, hek⟩ : ∃ e, G[k]? = some e := ⟨_, List.getElem?_eq_getElem (by omega)⟩
      obtain ⟨ep, hep⟩ : ∃ e, G[q]? = some e := ⟨_, List.getElem?_eq_getElem (by omega)⟩
      have hlc := qless_any hG (hA.below (below_chg hbw hch h hB)) hek hep
      have hk1 : IntKind.i64.wrap ((k : Int) - 1) = ((k - 1 : Nat) : Int) := by rw [IntKind.wrap_i64]; omega
      have hpe : (((k : Int) - 1) / 2) = (q : Int) := by omega
      have hne : ¬ (q : Int) = (k : Int) := by omega
      have hm := meth_less (w := wr) (p := p)
      have hne2 : ¬ ((k - 1 : Nat) : Int) / 2 = (k : Int) := by omega
      have hpe2 : ((k - 1 : Nat) : Int) / 2 = (q : Int) := by omega
      by_cases hlt : lt ek ep = true
      · rw [hlt] at hlc
        have HN : Hid (M.HpU lt (M.sw G q k) n q ∧ M.Mv n H (M.sw G q k)) := by
          refine ⟨?_, hmv.trans (M.sw_mv (by omega) hk (by omega))⟩
          have := M.HpU.upN hO.tr hO.asy (by omega) (by omega) hk HU.out hek (by rw [hq]; exact hep) hlt
          rw [hq] at this
          exact this
        clear h hU hlt
        go_wp2_with fail
        refine hlc.mono ?_
        rintro e w1 ⟨rfl, hb1⟩
        have hG1 := hG.below hb1 (Nat.le_refl _)
        have hm2 := meth_swap (w := w1) (p := p)
        have hsw := qswap_any hG1 (i := q) (j := k) (by omega) (by omega)
        clear hm
        go_wp2_with fail
        refine hsw.mono ?_
        rintro e w2 ⟨⟨u, rfl⟩, hG2, hc2⟩
        go_wp2_with fail
        exact ⟨⟨q, M.sw G q k, by omega, rfl, hG2, HN.out.2, HN.out.1, (hch.trans (chg_bl hb1)).trans (hc2.mono (fun b _ q => .inl q))⟩, by simp [intOf]; omega⟩
      · have hlf : lt ek ep = false := by simpa using hlt
        rw [hlf] at hlc
        have HN : Hid (M.Hp lt G n) := HU.out.ok hek (by rw [hq]; exact hep) hlf
        clear h hU hlt hlf
        go_wp2_with fail
        refine hlc.mono ?_
        rintro e w1 ⟨rfl, hb1⟩
        go_wp2_with fail
        go_end0
        exact ⟨⟨_, rfl⟩, G, hG.below hb1 (Nat.le_refl _), hmv, HN.out, hch.trans (chg_bl hb1)⟩
end
end Go.Proofs.YtedfjacmaidhkaaGreat
