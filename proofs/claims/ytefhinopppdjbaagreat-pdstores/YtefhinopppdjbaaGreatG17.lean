/- The heap's Less, Swap and Len. -/
import Derived.Test.YtefhinopppdjbaaGreatG16
namespace Go.Proofs.YtefhinopppdjbaaGreat
open Go.RowKit
set_option linter.unusedVariables false
set_option maxRecDepth 100000

section
variable {B p : Nat} {d : DC} {w w' : World} {H : List EN}
theorem h_al (w : World) (o : Obj) : Below w.heap.size w (w.alloc o) := (Below.refl _ _).alloc (Nat.le_refl _) o
set_option maxHeartbeats 2000000 in
theorem hless_any (h : Rg B p d w H) {i j : Nat} {a b : EN} (ha : H[i]? = some a) (hb : H[j]? = some b) :
    Calls Tryz.prog 149 #[sv d.ev, .int .i64 i, .int .i64 j] w fun e w' => e = .returned (.bool (elt a b)) ∧ Below w.heap.size w w' := by
  obtain ⟨g, c, hd, h1, h2, hi, a0, a1, fr⟩ := h.at_ ha
  obtain ⟨g', c', ev, _, _, hj, b0, b1, _⟩ := h.at_ hb
  rw [hd] at ev
  simp only [Prod.mk.injEq, Option.some.injEq, Addr.mk.injEq, and_true, true_and] at ev
  obtain ⟨rfl, rfl⟩ := ev
  rw [hd]
  simp only [sv]
  unfold maxLen at h2
  have hii : (i : Int) < (H.length : Int) := by omega
  have hji : (j : Int) < (H.length : Int) := by omega
  have he : elt a b = decide (orF (cmpU a.2 b.2) (cmpU a.1 b.1) < 0) := rfl
  have hcm := fun x y W => compareU_any x y W
  have hor : ∀ W' : World, Calls Tryz.prog 99 #[.slice (some ⟨W'.heap.size, 0, none⟩) 2 2] (W'.alloc (.cells #[.int .i64 (cmpU a.2 b.2), .int .i64 (cmpU a.1 b.1)] 3)).drew fun e w' => e = .returned (.int .i64 (orF (cmpU a.2 b.2) (cmpU a.1 b.1))) ∧ w' = (W'.alloc (.cells #[.int .i64 (cmpU a.2 b.2), .int .i64 (cmpU a.1 b.1)] 3)).drew := fun W' => or_any (show (W'.alloc (.cells #[.int .i64 (cmpU a.2 b.2), .int .i64 (cmpU a.1 b.1)] 3)).cell? _ = _ by rw [World.cell?_alloc_at _ _ _ _ rfl]; rfl) (show (W'.alloc (.cells #[.int .i64 (cmpU a.2 b.2), .int .i64 (cmpU a.1 b.1)] 3)).cell? _ = _ by rw [World.cell?_alloc_at _ _ _ _ rfl]; rfl)
  generalize orF (cmpU a.2 b.2) (cmpU a.1 b.1) = z at *
  have HN : Hid (elt a b = decide (z < 0)) := he
  have hgl : g < w.heap.size := World.block_lt_of_cell? w _ a0
  clear he hd h ha hb
  generalize H.length = n at *
  go_enter Tryz.func149, Tryz.ntmps149
  go_wp2_with fail
  go_region_held3 (fun w' => w'.cell? ⟨g, i * 2, none⟩ = some (.int .u64 (a.1.toNat : Int)) ∧ w'.cell? ⟨g, i * 2 + 1, none⟩ = some (.int .u64 (a.2.toNat : Int)) ∧ w'.cell? ⟨g, j * 2, none⟩ = some (.int .u64 (b.1.toNat : Int)) ∧ w'.cell? ⟨g, j * 2 + 1, none⟩ = some (.int .u64 (b.2.toNat : Int))) (go_keep) (first
    | (go_at_call 99; refine (hor _).mono ?_; rintro e w3 ⟨rfl, rfl⟩)
    | (go_at_call 100; refine (hcm _ _ _).mono ?_; rintro e w1 ⟨rfl, rfl⟩)
    | fail)
  go_wp2_with fail
  go_ret
  refine ⟨?_, ?_⟩
  · rw [HN.out]; rfl
  · exact (h_al w _).trans ((Below.dN _ 1).mono (h_al w _).size)

set_option maxHeartbeats 1000000 in
theorem hswap_any (h : Rg B p d w H) {i j : Nat} (hi : i < H.length) (hj : j < H.length) :
    Calls Tryz.prog 150 #[sv d.ev, .int .i64 i, .int .i64 j] w fun e w' => (∃ u, e = .returned u) ∧ Rg B p d w' (M.sw H i j) ∧ Chg (RgS p d) w w' := by
  obtain ⟨a, ha⟩ : ∃ a, H[i]? = some a := ⟨_, List.getElem?_eq_getElem hi⟩
  obtain ⟨b, hb⟩ : ∃ b, H[j]? = some b := ⟨_, List.getElem?_eq_getElem hj⟩
  obtain ⟨g, c, hd, h1, h2, _, a0, a1, fr⟩ := h.at_ ha
  obtain ⟨g', c', ev, _, _, _, b0, b1, _⟩ := h.at_ hb
  rw [hd] at ev
  simp only [Prod.mk.injEq, Option.some.injEq, Addr.mk.injEq, and_true, true_and] at ev
  obtain ⟨rfl, rfl⟩ := ev
  unfold maxLen at h2
  have hfin : ∀ n (e : EN), (e = b ∨ (i = j ∧ e = a)) → Rg B p d (((((w.drewN n).setCell ⟨g, i * 2, none⟩ (.int .u64 (e.1.toNat : Int))).setCell ⟨g, i * 2 + 1, none⟩ (.int .u64 (e.2.toNat : Int))).setCell ⟨g, j * 2, none⟩ (.int .u64 (a.1.toNat : Int))).setCell ⟨g, j * 2 + 1, none⟩ (.int .u64 (a.2.toNat : Int))) (M.sw H i j) ∧ Chg (RgS p d) w (((((w.drewN n).setCell ⟨g, i * 2, none⟩ (.int .u64 (e.1.toNat : Int))).setCell ⟨g, i * 2 + 1, none⟩ (.int .u64 (e.2.toNat : Int))).setCell ⟨g, j * 2, none⟩ (.int .u64 (a.1.toNat : Int))).setCell ⟨g, j * 2 + 1, none⟩ (.int .u64 (a.2.toNat : Int))) := fun n e he => by
    have heb : e = b := by
      rcases he with q | ⟨q, q2⟩
      · exact q
      · subst q; rw [q2]; exact Option.some.inj (ha.symm.trans hb)
    subst heb
    obtain ⟨r1, r2⟩ := (h.drewN n).set hd i e
    obtain ⟨s1, s2⟩ := r1.set hd j a
    refine ⟨by rw [M.sw_eq ha hb]; exact s1, ?_⟩
    exact ((chg_dN (RgS p d) w n).trans (r2.mono (fun b _ q => .inl q))).trans (s2.mono (fun b _ q => .inl q))
  have hii : (i : Int) < (H.length : Int) := by omega
  have hji : (j : Int) < (H.length : Int) := by omega
  have HF : Hid _ := hfin
  rw [hd]
  simp only [sv]
  clear hfin h ha hb hd
  obtain ⟨x1, x2⟩ := a
  obtain ⟨y1, y2⟩ := b
  simp only [] at *
  go_enter Tryz.func150, Tryz.ntmps150
  go_wp2_with fail
  by_cases hij : i = j
  · subst hij
    go_region
    go_wp2_with fail
    go_end0
    exact ⟨⟨_, rfl⟩, HF.out 1 (x1, x2) (.inr (by simp))⟩
  · have n1 : ¬ j * 2 = i * 2 := by omega
    have n2 : ¬ j * 2 = i * 2 + 1 := by omega
    have n3 : ¬ j * 2 + 1 = i * 2 := by omega
    have n4 : ¬ j * 2 + 1 = i * 2 + 1 := by omega
    go_region
    go_wp2_with fail
    go_end0
    exact ⟨⟨_, rfl⟩, HF.out 1 (y1, y2) (.inl rfl)⟩
theorem hlen_any (h : Rg B p d w H) : Calls Tryz.prog 148 #[sv d.ev] w fun e w' => e = .returned (.int .i64 (H.length : Int)) ∧ w' = w := by
  have hl := h.len
  unfold sv
  rw [hl]
  clear h hl
  go_enter Tryz.func148, Tryz.ntmps148
  go_wp2_with fail
  go_ret
  exact ⟨rfl, rfl⟩
end
end Go.Proofs.YtefhinopppdjbaaGreat
