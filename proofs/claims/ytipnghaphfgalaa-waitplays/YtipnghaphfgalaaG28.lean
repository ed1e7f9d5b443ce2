/- slices.Insert of one edge. -/
import Derived.Test.YtipnghaphfgalaaG27
import Derived.Deep.RegionLaw
namespace Go.Proofs.Ytipnghaphfgalaa
open Go.RowKit
set_option linter.unusedVariables false
set_option maxRecDepth 100000

section
variable {B : Nat} {v : Value} {E : List Ed} {w : World}
set_option maxHeartbeats 2000000 in
/-- There is room. -/
theorem insert_room {g c : Nat} (h : OwE B w (.slice (some ⟨g, 0, none⟩) E.length c) E) (hl : E.length ≤ 4096) {i : Nat} (hi : i < E.length) (hroom : E.length + 1 ≤ c) (p : Nat) (e : Ed) (hp : EdAt w ⟨p, 0, none⟩ e) (hpg : p ≠ g) (hps : w.shape? p = some (31, 2)) (hpf : ∀ j, w.frozen? ⟨p, j, none⟩ = false) :
    Calls Try.prog 21 #[.slice (some ⟨g, 0, none⟩) E.length c, .int .i64 (i : Int), .slice (some ⟨p, 0, none⟩) 1 1] w (InsP B w (.slice (some ⟨g, 0, none⟩) E.length c) E i e) := by
  obtain ⟨hBg, hgl⟩ := h.lt g rfl
  rcases h.blk with ⟨q, _⟩ | ⟨g', c', eq, k1, k2, k3, k4, k5, k6, k7, k8⟩
  · cases q
  simp only [Value.slice.injEq, Option.some.injEq, Addr.mk.injEq, and_true, true_and] at eq
  obtain ⟨rfl, rfl⟩ := eq
  unfold maxLen at k2
  obtain ⟨n, hn⟩ : ∃ n, E.length = n := ⟨_, rfl⟩
  obtain ⟨n1, hn1⟩ : ∃ n1, n + 1 = n1 := ⟨_, rfl⟩
  obtain ⟨i1, hi1⟩ : ∃ i1, i + 1 = i1 := ⟨_, rfl⟩
  have hov : ∀ lb cb, (callFunc 38 #[.slice (some ⟨p, 0, none⟩) 1 1, .slice (some ⟨g, i1 * 2, none⟩) lb cb]).run Try.prog w = .ok (.value (.bool false)) w := fun lb cb => by
    rw [run_callFunc_extern (fn := Try.f38) Try.func38 (by kernel_rfl) (by kernel_rfl) (by kernel_rfl) (e := Extern.SlicesOverlaps.overlaps #[22, 22] #[4]) (by kernel_rfl),
      Lib.run_overlaps_apart w 22 4 31 Try.underlying22 2 (fun w => by kernel_rfl) ⟨p, 0, none⟩ ⟨g, i1 * 2, none⟩ 1 1 lb cb hpg _ _ _ _ hps k8 (by omega) (hpf _) (hpf _)]
    rfl
  have hcp1 : ∀ ty dc sc, (Builtin.copy_ #[22, 22] ty #[.slice (some ⟨g, i1 * 2, none⟩) (n1 - i1) dc, .slice (some ⟨g, i * 2, none⟩) (n1 - i) sc]).run Try.prog w.drew = .ok (goInt ((n1 - i1 : Nat) : Int)) (w.drew.setCells g (i1 * 2) (ecs (E.drop i))) := fun ty dc sc => by
    have hmin : Nat.min (n1 - i) (n1 - i1) = n1 - i1 := Nat.min_eq_right (by omega)
    have := run_copyE w.drew ty g (i1 * 2) (n1 - i1) dc ⟨g, i * 2, none⟩ (n1 - i) sc (ecs (E.drop i)) (by rw [ecs_len, List.length_drop, hmin]; omega)
      (fun j u hj => by
        rw [Addr.add_lit]
        rw [← ecs_drop, List.getElem?_drop] at hj
        exact k5 _ _ hj)
      (fun j hj => by rw [ecs_len, List.length_drop] at hj; exact k6 _ (by omega)) (fun j hj => k7 _) (ecs_one _)
    rw [hmin] at this
    exact this
  obtain ⟨W1, hW1⟩ : ∃ W1, W1 = w.drew.setCells g (i1 * 2) (ecs (E.drop i)) := ⟨_, rfl⟩
  rcases h.2 with ⟨q, q0⟩ | ⟨g', cap, cur, q, hB', hg, q1, q2', q3', q4'⟩
  · cases q
  simp only [Value.slice.injEq, Option.some.injEq, Addr.mk.injEq, and_true, true_and] at q
  obtain ⟨rfl, rfl⟩ := q
  have hd0 : (ecs (E.drop i)).length = (n - i) * 2 := by rw [ecs_len, List.length_drop, hn]
  obtain ⟨cur1, c1, c2, c3⟩ := heap_setCells g 31 (ecs (E.drop i)) (i1 * 2) w.drew cur hg (by omega)
  rw [← hW1] at c1
  obtain ⟨cur2, d1, d2, d3⟩ := heap_setCells g 31 (ec e) (i * 2) W1 cur1 c1 (by rw [ec_len]; omega)
  have hpW : ∀ x : Addr, x.block = p → W1.cell? x = w.cell? x := fun x hx => by
    rw [hW1, World.cell?_setCells_out g _ _ _ _ (fun q => absurd (hx.symm.trans q) hpg)]; rfl
  have hcp2 : ∀ (W : World), (∀ x, W.cell? x = W1.cell? x) → (∀ x, W.frozen? x = W1.frozen? x) → ∀ ty dc, (Builtin.copy_ #[22, 22] ty #[.slice (some ⟨g, i * 2, none⟩) (n1 - i) dc, .slice (some ⟨p, 0, none⟩) 1 1]).run Try.prog W = .ok (goInt 1) (W.setCells g (i * 2) (ec e)) := fun W hWc hWf ty dc => by
    have hmin : Nat.min 1 (n1 - i) = 1 := Nat.min_eq_left (by omega)
    have := run_copyE W ty g (i * 2) (n1 - i) dc ⟨p, 0, none⟩ 1 1 (ec e) (by rw [hmin]; rfl)
      (fun j u hj => by
        rw [hWc, hpW _ (by rw [add_block]), Addr.add_lit, Nat.zero_add]
        match j with
        | 0 => simp [ec] at hj; subst hj; exact hp.c0
        | 1 => simp [ec] at hj; subst hj; exact hp.c1
        | j + 2 => simp [ec] at hj)
      (fun j hj => by
        rw [ec_len] at hj
        rw [hWc, cell_of_row _ _ _ _ _ _ c1, Array.getElem?_eq_getElem (by omega)]; rfl)
      (fun j hj => by rw [hWf]; exact frozen_of_row _ _ _ _ _ c1) (fun u hu => ecs_one [e] u (by simpa [ecs] using hu))
    rw [hmin] at this
    exact this
  have hfin : InsP B w (.slice (some ⟨g, 0, none⟩) E.length c) E i e (.returned (.slice (some ⟨g, 0, none⟩) n1 c)) (W1.setCells g (i * 2) (ec e)) := by
    refine ⟨_, rfl, ?_, ?_, .inl rfl⟩
    · rw [← hn1, ← hn]
      refine ins_row e d1 (by omega) (by omega) hroom (by unfold maxLen; omega) hBg (fun j hj => ?_)
      rw [d3 j, ec_len]
      by_cases z1 : i * 2 ≤ j ∧ j < i * 2 + 2
      · rw [if_pos z1, if_pos z1]
      · rw [if_neg z1, if_neg z1, c3 j, hd0]
        by_cases z2 : i1 * 2 ≤ j
        · rw [if_pos (by omega), if_pos (by omega), hi1]
        · rw [if_neg (by omega), if_neg (by omega)]
          have z3 : j < (ecs E).length := by rw [ecs_len]; omega
          rw [← q4', List.getElem?_take, if_pos (by rw [ecs_len] at z3; exact z3), Array.getElem?_toList]
    · have hd : Chg (fun b => (Value.slice (some ⟨g, 0, none⟩) E.length c).ownBlock = some b) w w.drew := ⟨rfl, rfl, rfl, Nat.le_refl _, fun _ _ _ => rfl⟩
      have hS : ∀ (w1 w2 : World), Chg (fun b => b = g) w1 w2 → Chg (fun b => (Value.slice (some ⟨g, 0, none⟩) E.length c).ownBlock = some b) w1 w2 := fun w1 w2 hc => hc.mono (fun b _ q => by rw [q]; rfl)
      have h1 := hS _ _ (chg_setCellsE g (ecs (E.drop i)) (i1 * 2) w.drew)
      rw [← hW1] at h1
      exact (hd.trans (h1.mono (fun b _ q => .inl q))).trans ((hS _ _ (chg_setCellsE g (ec e) (i * 2) W1)).mono (fun b _ q => .inl q))
  have HF : Hid (InsP B w (.slice (some ⟨g, 0, none⟩) E.length c) E i e (.returned (.slice (some ⟨g, 0, none⟩) n1 c)) (W1.setCells g (i * 2) (ec e))) := hfin
  rw [hn] at HF hi ⊢
  generalize InsP B w (.slice (some ⟨g, 0, none⟩) n c) E i e = POST at *
  rw [← hW1] at hcp1
  have HW1 : Hid (W1 = w.drew.setCells g (i1 * 2) (ecs (E.drop i))) := hW1
  have hw1 : IntKind.i64.wrap ((i : Int) + 1) = (i1 : Int) := by rw [IntKind.wrap_i64]; omega
  have hw2 : IntKind.i64.wrap ((n : Int) + 1) = (n1 : Int) := by rw [IntKind.wrap_i64]; omega
  have g1 : ¬ (i : Int) = (n : Int) := by omega
  have g2 : ¬ (c : Int) < (n1 : Int) := by omega
  have g3 : (n1 : Int) ≤ (c : Int) := by omega
  have g4 : (i1 : Int) ≤ (n1 : Int) := by omega
  have g5 : (i : Int) ≤ (n1 : Int) := by omega
  have g6 : (i : Int) ≤ (n : Int) := by omega
  have g7 : ¬ c = i1 := by omega
  have g8 : ¬ c = i := by omega
  have g9 : (n : Int) ≤ (c : Int) := by omega
  clear hfin h hp hW1 c1 c2 c3 d1 d2 d3 hd0 hg q1 q2' q3' q4' k5 k6 k8 hn hn1 hi1 hpW hps hroom k1 hi hl
  go_enter Try.func21, Try.ntmps21
  go_wp2_with (simp only [hov])
  go_region_held3 (fun w' => True) (trivial) (first
    | (refine step_copyE rfl _ _ rfl (.slice (some ⟨g, i1 * 2, none⟩) (n1 - i1) (c - i1)) (.slice (some ⟨g, i * 2, none⟩) (n1 - i) (c - i)) rfl rfl (hcp1 _ _ _) ?_)
    | fail)
  go_wp2_with (first | (at_builtin; refine wpList_copyE _ rfl _ _ rfl (.slice (some ⟨g, i * 2, none⟩) (n1 - i) (c - i)) (.slice (some ⟨p, 0, none⟩) 1 1) rfl rfl (hcp2 _ (fun _ => rfl) (fun _ => rfl) _ _) ?_) | fail)
  exact HF.out
end
end Go.Proofs.Ytipnghaphfgalaa
