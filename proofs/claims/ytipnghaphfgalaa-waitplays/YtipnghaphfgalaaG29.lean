/- slices.Insert of one edge: no room. -/
import Derived.Test.YtipnghaphfgalaaG27
import Derived.Deep.RegionLaw
namespace Go.Proofs.Ytipnghaphfgalaa
open Go.RowKit
set_option linter.unusedVariables false
set_option maxRecDepth 100000

section
variable {B : Nat} {v : Value} {E : List Ed} {w : World}
set_option maxHeartbeats 2000000 in
theorem insert_grow {g c : Nat} (h : OwE B w (.slice (some ⟨g, 0, none⟩) E.length c) E) (hl : E.length ≤ 4096) {i : Nat} (hi : i < E.length) (hroom : c < E.length + 1) (p : Nat) (e : Ed) (hp : EdAt w ⟨p, 0, none⟩ e) (hB : B ≤ w.heap.size) :
    Calls Try.prog 21 #[.slice (some ⟨g, 0, none⟩) E.length c, .int .i64 (i : Int), .slice (some ⟨p, 0, none⟩) 1 1] w (InsP B w (.slice (some ⟨g, 0, none⟩) E.length c) E i e) := by
  obtain ⟨hBg, hgl⟩ := h.lt g rfl
  have hpl := World.block_lt_of_cell? w _ hp.c0
  simp only [] at hpl
  rcases h.blk with ⟨q, _⟩ | ⟨g', c', eq, k1, k2, k3, k4, k5, k6, k7, k8⟩
  · cases q
  simp only [Value.slice.injEq, Option.some.injEq, Addr.mk.injEq, and_true, true_and] at eq
  obtain ⟨rfl, rfl⟩ := eq
  unfold maxLen at k2
  obtain ⟨i0, hi0, hz0, hzs, hzb⟩ := info_parts Try.infoEd
  obtain ⟨n, hn⟩ : ∃ n, E.length = n := ⟨_, rfl⟩
  obtain ⟨n1, hn1⟩ : ∃ n1, n + 1 = n1 := ⟨_, rfl⟩
  obtain ⟨i1, hi1⟩ : ∃ i1, i + 1 = i1 := ⟨_, rfl⟩
  obtain ⟨nz, hnz⟩ : ∃ nz, n1 - i = nz := ⟨_, rfl⟩
  have hold : (Builtin.firstCells i0.size i (.slice (some ⟨g, 0, none⟩) i c)).run Try.prog w.drew = .ok (ecs (E.take i)).toArray w.drew := by
    rw [hzs]
    exact run_firstCells_some w.drew 2 i ⟨g, 0, none⟩ i c (ecs (E.take i)) (by rw [ecs_len, List.length_take]; omega) (fun j u hj => by
      rw [Addr.add_lit, Nat.zero_add]
      rw [← ecs_take, List.getElem?_take] at hj
      split at hj
      · exact k5 j u hj
      · cases hj)
  obtain ⟨G, hG⟩ : ∃ G, G = grownCap w n1 c 31 := ⟨_, rfl⟩
  obtain ⟨ROW, hROW⟩ : ∃ ROW : Array Value, ROW = (ecs (E.take i)).toArray ++ Builtin.zeroCells (Value.agg #[.int .u64 0, .int .u64 0]).cells nz ++ Builtin.zeroCells (Value.agg #[.int .u64 0, .int .u64 0]).cells (G - n1) := ⟨_, rfl⟩
  have hrz : ∀ ty, (Builtin.append_ #[22, 3] ty #[.slice (some ⟨g, 0, none⟩) i c, .int .i64 (nz : Int)]).run Try.prog w = .ok (.slice (some ⟨w.heap.size, 0, none⟩) n1 G) (w.drew.alloc (.cells ROW 31)) := fun ty => by
    have h0 := Lib.run_append_grow_zeros w 22 3 ty 31 i0 _ .i64 .i64 Try.underlying22 Try.underlying3 hi0 hz0 (some ⟨g, 0, none⟩) i c (ecs (E.take i)) hold nz (by omega) (by omega) (by omega) (by omega) (by rw [hzb]; omega) (by rw [hzb]; exact growslice_fits (by omega) (by omega))
    rw [show i + nz = n1 by omega, ← hG, ← hROW] at h0
    exact h0
  have hGn : n1 ≤ G := by rw [hG]; exact grownCap_ge w _ _ _
  have hGm : G ≤ maxLen := by rw [hG]; exact grownCap_le_maxLen w n1 c _ (by unfold maxLen; omega)
  have hG63 : G ≤ 9223372036854775807 := by unfold maxLen at hGm; omega
  have hRs : ROW.size = G * 2 := by
    rw [hROW]
    simp only [Array.size_append, List.size_toArray, size_zeroCells, ecs_len, List.length_take, hn, Value.cells]
    simp
    rw [Nat.min_eq_left (by omega)]
    omega
  obtain ⟨W1, hW1⟩ : ∃ W1, W1 = w.drew.alloc (.cells ROW 31) := ⟨_, rfl⟩
  have hg1 : W1.heap[w.heap.size]? = some (.cells ROW 31 (0, 0)) := by rw [hW1]; exact heap_alloc_new w.drew _
  have hb1 : Below w.heap.size w W1 := by rw [hW1]; exact Below.tr (Below.dN w 1) (w_al _ _)
  have hpW := fun (x : Addr) (u : Value) (q : w.cell? x = some u) => (show W1.cell? x = some u by rw [hb1.cell (World.block_lt_of_cell? w _ q)]; exact q)
  have hcpA : ∀ (W : World), (∀ x, W.cell? x = W1.cell? x) → (∀ x, W.frozen? x = W1.frozen? x) → ∀ ty dc, (Builtin.copy_ #[22, 22] ty #[.slice (some ⟨w.heap.size, i * 2, none⟩) (n1 - i) dc, .slice (some ⟨p, 0, none⟩) 1 1]).run Try.prog W = .ok (goInt 1) (W.setCells w.heap.size (i * 2) (ec e)) := fun W hWc hWf ty dc => by
    have hmin : Nat.min 1 (n1 - i) = 1 := Nat.min_eq_left (by omega)
    have := run_copyE W ty w.heap.size (i * 2) (n1 - i) dc ⟨p, 0, none⟩ 1 1 (ec e) (by rw [hmin]; rfl)
      (fun j u hj => by
        rw [hWc, Addr.add_lit, Nat.zero_add]
        match j with
        | 0 => simp [ec] at hj; subst hj; exact hpW _ _ hp.c0
        | 1 => simp [ec] at hj; subst hj; exact hpW _ _ hp.c1
        | j + 2 => simp [ec] at hj)
      (fun j hj => by
        rw [ec_len] at hj
        rw [hWc, cell_of_row _ _ _ _ _ _ hg1, Array.getElem?_eq_getElem (by omega)]; rfl)
      (fun j hj => by rw [hWf]; exact frozen_of_row _ _ _ _ _ hg1) (fun u hu => ecs_one [e] u (by simpa [ecs] using hu))
    rw [hmin] at this
    exact this
  obtain ⟨cur1, c1, c2, c3⟩ := heap_setCells w.heap.size 31 (ec e) (i * 2) W1 ROW hg1 (by rw [ec_len]; omega)
  have hd0 : (ecs (E.drop i)).length = (n - i) * 2 := by rw [ecs_len, List.length_drop, hn]
  obtain ⟨W2, hW2⟩ : ∃ W2, W2 = W1.setCells w.heap.size (i * 2) (ec e) := ⟨_, rfl⟩
  rw [← hW2] at c1
  obtain ⟨cur2, d1, d2, d3⟩ := heap_setCells w.heap.size 31 (ecs (E.drop i)) (i1 * 2) W2 cur1 c1 (by omega)
  have hcpB : ∀ (W : World), (∀ x, W.cell? x = W2.cell? x) → (∀ x, W.frozen? x = W2.frozen? x) → ∀ ty dc sc, (Builtin.copy_ #[22, 22] ty #[.slice (some ⟨w.heap.size, i1 * 2, none⟩) (n1 - i1) dc, .slice (some ⟨g, i * 2, none⟩) (n - i) sc]).run Try.prog W = .ok (goInt ((n1 - i1 : Nat) : Int)) (W.setCells w.heap.size (i1 * 2) (ecs (E.drop i))) := fun W hWc hWf ty dc sc => by
    have hmin : Nat.min (n - i) (n1 - i1) = n1 - i1 := Nat.min_eq_right (by omega)
    have := run_copyE W ty w.heap.size (i1 * 2) (n1 - i1) dc ⟨g, i * 2, none⟩ (n - i) sc (ecs (E.drop i)) (by rw [hd0, hmin]; omega)
      (fun j u hj => by
        rw [← ecs_drop, List.getElem?_drop] at hj
        rw [hWc, hW2, World.cell?_setCells_out _ _ _ _ _ (fun q => by rw [add_block] at q; simp only [] at q; omega), Addr.add_lit]
        exact hpW _ _ (k5 _ _ hj))
      (fun j hj => by
        rw [hd0] at hj
        rw [hWc, cell_of_row _ _ _ _ _ _ c1, Array.getElem?_eq_getElem (by omega)]; rfl)
      (fun j hj => by rw [hWf]; exact frozen_of_row _ _ _ _ _ c1) (ecs_one _)
    rw [hmin] at this
    exact this
  have hfin : ∀ W : World, Chg (fun _ => False) w W → (W.heap[w.heap.size]? = (W2.setCells w.heap.size (i1 * 2) (ecs (E.drop i))).heap[w.heap.size]?) → InsP B w (.slice (some ⟨g, 0, none⟩) E.length c) E i e (.returned (.slice (some ⟨w.heap.size, 0, none⟩) n1 G)) W := fun W hch hW => by
    refine ⟨_, rfl, ?_, hch.mono (fun _ _ q => q.elim), .inr ⟨_, rfl, Nat.le_refl _⟩⟩
    rw [← hn1, ← hn]
    refine ins_row e (hW.trans d1) (by omega) (by omega) (by omega) hGm hB (fun j hj => ?_)
    rw [d3 j, hd0]
    by_cases z2 : i1 * 2 ≤ j
    · rw [if_pos (by omega), if_neg (by omega), if_pos (by omega), hi1]
    · rw [if_neg (by omega), c3 j, ec_len]
      by_cases z1 : i * 2 ≤ j ∧ j < i * 2 + 2
      · rw [if_pos z1, if_pos z1]
      · rw [if_neg z1, if_neg z1, if_neg (by omega), hROW]
        have hlt : j < (ecs (E.take i)).length := by rw [ecs_len, List.length_take, Nat.min_eq_left (by omega)]; omega
        rw [Array.append_assoc, Array.getElem?_append_left (by simpa using hlt), List.getElem?_toArray, ← ecs_take, List.getElem?_take, if_pos (by omega)]
  have hS : ∀ (w1 w2 : World), w.heap.size ≤ w1.heap.size → Chg (fun b => b = w.heap.size) w1 w2 → Chg (fun b => False ∨ w.heap.size ≤ b) w1 w2 := fun w1 w2 _ hc => hc.mono (fun b _ q => .inr (by omega))
  have hend : InsP B w (.slice (some ⟨g, 0, none⟩) E.length c) E i e (.returned (.slice (some ⟨w.heap.size, 0, none⟩) n1 G)) ((W2.drew).setCells w.heap.size (i1 * 2) (ecs (E.drop i))) := by
    refine hfin _ ?_ ?_
    · have h0 : Chg (fun _ => False) w W1 := (Chg.of_below hb1).mono (fun b q1 q2 => by omega)
      have h2 : Chg (fun _ => False) w W2 := by rw [hW2]; exact h0.trans (hS _ _ hb1.size (chg_setCellsE _ _ _ _))
      have h3 : Chg (fun _ => False) w W2.drew := h2.trans ⟨rfl, rfl, rfl, Nat.le_refl _, fun _ _ _ => rfl⟩
      exact h3.trans (hS _ _ h3.size (chg_setCellsE _ _ _ _))
    · obtain ⟨cur3, f1, f2, f3⟩ := heap_setCells w.heap.size 31 (ecs (E.drop i)) (i1 * 2) W2.drew cur1 c1 (by omega)
      rw [f1, d1]
      have : cur3 = cur2 := Array.ext_getElem? (fun j => by rw [f3 j, d3 j])
      rw [this]
  have HF : Hid (InsP B w (.slice (some ⟨g, 0, none⟩) E.length c) E i e (.returned (.slice (some ⟨w.heap.size, 0, none⟩) n1 G)) ((W2.drew).setCells w.heap.size (i1 * 2) (ecs (E.drop i)))) := hend
  rw [hn] at HF hi hroom ⊢
  generalize InsP B w (.slice (some ⟨g, 0, none⟩) n c) E i e = POST at *
  rw [← hW1] at hrz
  have hcA2 := fun ty dc => hcpA W1 (fun _ => rfl) (fun _ => rfl) ty dc
  rw [← hW2] at hcA2
  have hcB2 := fun ty dc sc => hcpB W2.drew (fun _ => rfl) (fun _ => rfl) ty dc sc
  have hw1 : IntKind.i64.wrap ((i : Int) + 1) = (i1 : Int) := by rw [IntKind.wrap_i64]; omega
  have hw2 : IntKind.i64.wrap ((n : Int) + 1) = (n1 : Int) := by rw [IntKind.wrap_i64]; omega
  have hw3 : IntKind.i64.wrap ((n1 : Int) - (i : Int)) = (nz : Int) := by rw [IntKind.wrap_i64]; omega
  have g1 : ¬ (i : Int) = (n : Int) := by omega
  have g2 : (c : Int) < (n1 : Int) := by omega
  have g4 : (i1 : Int) ≤ (n1 : Int) := by omega
  have g5 : (i : Int) ≤ (n1 : Int) := by omega
  have g6 : (i : Int) ≤ (n : Int) := by omega
  have g7 : ¬ G = i1 := by omega
  have g8 : ¬ c = i := by omega
  have g9 : ¬ G = i := by omega
  have g10 : (n : Int) ≤ (c : Int) := by omega
  have g11 : (i : Int) ≤ (c : Int) := by omega
  have g12 : (n1 : Int) ≤ (G : Int) := by omega
  clear hfin hend h hp hW1 hW2 c1 c2 c3 d1 d2 d3 hd0 k5 k6 k8 hn hn1 hi1 hnz hpW hroom k1 hi hl hRs hROW hG hold hg1 hb1 hS hcpA hcpB
  go_enter Try.func21, Try.ntmps21
  go_wp2_with (first
    | (at_builtin; refine Lib.wpList_append_run _ rfl _ _ _ _ rfl _ _ rfl rfl _ _ (hrz _) ?_)
    | (at_builtin; refine wpList_copyE _ rfl _ _ rfl (.slice (some ⟨w.heap.size, i * 2, none⟩) (n1 - i) (G - i)) (.slice (some ⟨p, 0, none⟩) 1 1) rfl rfl (hcA2 _ _) ?_)
    | fail)
  go_region_held3 (fun w' => True) (trivial) (first
    | (refine step_copyE rfl _ _ rfl (.slice (some ⟨w.heap.size, i1 * 2, none⟩) (n1 - i1) (G - i1)) (.slice (some ⟨g, i * 2, none⟩) (n - i) (c - i)) rfl rfl (hcB2 _ _ _) ?_)
    | fail)
  go_wp2_with fail
  exact HF.out
end
end Go.Proofs.Ytipnghaphfgalaa
