/- The region behind; the rule merge where nothing is to be merged. -/
import Derived.Test.YtedfjacmaidhkaaGreatG32
import Derived.Test.YtedfjacmaidhkaaGreatG37
namespace Go.Proofs.YtedfjacmaidhkaaGreat
open Go.RowKit Go.Maps
set_option linter.unusedVariables false
set_option linter.unusedSimpArgs false
set_option maxRecDepth 100000

theorem set9_block {w : World} {g : Nat} {u0 u1 u2 u3 u4 u5 u6 u7 u8 : Value} {t : TypeId} (h : w.heap[g]? = some (.cells #[u0, u1, u2, u3, u4, u5, u6, u7, u8] t (0, 0))) (v0 v1 v2 v3 v4 v5 v6 v7 v8 : Value) : (World.setCell (World.setCell (World.setCell (World.setCell (World.setCell (World.setCell (World.setCell (World.setCell (World.setCell w ⟨g, 0, none⟩ v0) ⟨g, 1, none⟩ v1) ⟨g, 2, none⟩ v2) ⟨g, 3, none⟩ v3) ⟨g, 4, none⟩ v4) ⟨g, 5, none⟩ v5) ⟨g, 6, none⟩ v6) ⟨g, 7, none⟩ v7) ⟨g, 8, none⟩ v8).heap[g]? = some (.cells #[v0, v1, v2, v3, v4, v5, v6, v7, v8] t (0, 0)) := by
  have h0 : (World.setCell w ⟨g, 0, none⟩ v0).heap[g]? = some (.cells #[v0, u1, u2, u3, u4, u5, u6, u7, u8] t (0, 0)) := heap_setCell_same _ g 0 _ _ v0 h
  have h1 : (World.setCell (World.setCell w ⟨g, 0, none⟩ v0) ⟨g, 1, none⟩ v1).heap[g]? = some (.cells #[v0, v1, u2, u3, u4, u5, u6, u7, u8] t (0, 0)) := heap_setCell_same _ g 1 _ _ v1 h0
  have h2 : (World.setCell (World.setCell (World.setCell w ⟨g, 0, none⟩ v0) ⟨g, 1, none⟩ v1) ⟨g, 2, none⟩ v2).heap[g]? = some (.cells #[v0, v1, v2, u3, u4, u5, u6, u7, u8] t (0, 0)) := heap_setCell_same _ g 2 _ _ v2 h1
  have h3 : (World.setCell (World.setCell (World.setCell (World.setCell w ⟨g, 0, none⟩ v0) ⟨g, 1, none⟩ v1) ⟨g, 2, none⟩ v2) ⟨g, 3, none⟩ v3).heap[g]? = some (.cells #[v0, v1, v2, v3, u4, u5, u6, u7, u8] t (0, 0)) := heap_setCell_same _ g 3 _ _ v3 h2
  have h4 : (World.setCell (World.setCell (World.setCell (World.setCell (World.setCell w ⟨g, 0, none⟩ v0) ⟨g, 1, none⟩ v1) ⟨g, 2, none⟩ v2) ⟨g, 3, none⟩ v3) ⟨g, 4, none⟩ v4).heap[g]? = some (.cells #[v0, v1, v2, v3, v4, u5, u6, u7, u8] t (0, 0)) := heap_setCell_same _ g 4 _ _ v4 h3
  have h5 : (World.setCell (World.setCell (World.setCell (World.setCell (World.setCell (World.setCell w ⟨g, 0, none⟩ v0) ⟨g, 1, none⟩ v1) ⟨g, 2, none⟩ v2) ⟨g, 3, none⟩ v3) ⟨g, 4, none⟩ v4) ⟨g, 5, none⟩ v5).heap[g]? = some (.cells #[v0, v1, v2, v3, v4, v5, u6, u7, u8] t (0, 0)) := heap_setCell_same _ g 5 _ _ v5 h4
  have h6 : (World.setCell (World.setCell (World.setCell (World.setCell (World.setCell (World.setCell (World.setCell w ⟨g, 0, none⟩ v0) ⟨g, 1, none⟩ v1) ⟨g, 2, none⟩ v2) ⟨g, 3, none⟩ v3) ⟨g, 4, none⟩ v4) ⟨g, 5, none⟩ v5) ⟨g, 6, none⟩ v6).heap[g]? = some (.cells #[v0, v1, v2, v3, v4, v5, v6, u7, u8] t (0, 0)) := heap_setCell_same _ g 6 _ _ v6 h5
  have h7 : (World.setCell (World.setCell (World.setCell (World.setCell (World.setCell (World.setCell (World.setCell (World.setCell w ⟨g, 0, none⟩ v0) ⟨g, 1, none⟩ v1) ⟨g, 2, none⟩ v2) ⟨g, 3, none⟩ v3) ⟨g, 4, none⟩ v4) ⟨g, 5, none⟩ v5) ⟨g, 6, none⟩ v6) ⟨g, 7, none⟩ v7).heap[g]? = some (.cells #[v0, v1, v2, v3, v4, v5, v6, v7, u8] t (0, 0)) := heap_setCell_same _ g 7 _ _ v7 h6
  have h8 : (World.setCell (World.setCell (World.setCell (World.setCell (World.setCell (World.setCell (World.setCell (World.setCell (World.setCell w ⟨g, 0, none⟩ v0) ⟨g, 1, none⟩ v1) ⟨g, 2, none⟩ v2) ⟨g, 3, none⟩ v3) ⟨g, 4, none⟩ v4) ⟨g, 5, none⟩ v5) ⟨g, 6, none⟩ v6) ⟨g, 7, none⟩ v7) ⟨g, 8, none⟩ v8).heap[g]? = some (.cells #[v0, v1, v2, v3, v4, v5, v6, v7, v8] t (0, 0)) := heap_setCell_same _ g 8 _ _ v8 h7
  exact h8
theorem set9_chg (w : World) (g : Nat) (v0 v1 v2 v3 v4 v5 v6 v7 v8 : Value) : Chg (fun b => b = g) w (World.setCell (World.setCell (World.setCell (World.setCell (World.setCell (World.setCell (World.setCell (World.setCell (World.setCell w ⟨g, 0, none⟩ v0) ⟨g, 1, none⟩ v1) ⟨g, 2, none⟩ v2) ⟨g, 3, none⟩ v3) ⟨g, 4, none⟩ v4) ⟨g, 5, none⟩ v5) ⟨g, 6, none⟩ v6) ⟨g, 7, none⟩ v7) ⟨g, 8, none⟩ v8) :=
  (((((((((Chg.refl (fun b => b = g) w).put g 0 v0 rfl).put g 1 v1 rfl).put g 2 v2 rfl).put g 3 v3 rfl).put g 4 v4 rfl).put g 5 v5 rfl).put g 6 v6 rfl).put g 7 v7 rfl).put g 8 v8 rfl
theorem cells9 {w : World} {g : Nat} {u0 u1 u2 u3 u4 u5 u6 u7 u8 : Value} {t : TypeId} (h : w.heap[g]? = some (.cells #[u0, u1, u2, u3, u4, u5, u6, u7, u8] t (0, 0))) : w.cell? ⟨g, 0, none⟩ = some u0 ∧ w.cell? ⟨g, 1, none⟩ = some u1 ∧ w.cell? ⟨g, 2, none⟩ = some u2 ∧ w.cell? ⟨g, 3, none⟩ = some u3 ∧ w.cell? ⟨g, 4, none⟩ = some u4 ∧ w.cell? ⟨g, 5, none⟩ = some u5 ∧ w.cell? ⟨g, 6, none⟩ = some u6 ∧ w.cell? ⟨g, 7, none⟩ = some u7 ∧ w.cell? ⟨g, 8, none⟩ = some u8 ∧ ∀ i, w.frozen? ⟨g, i, none⟩ = false := by
  have k : ∀ i v, (#[u0, u1, u2, u3, u4, u5, u6, u7, u8] : Array Value)[i]? = some v → w.cell? ⟨g, i, none⟩ = some v := fun i v hv => by rw [cell_of_row _ _ _ _ _ _ h]; exact hv
  exact ⟨k 0 _ rfl, k 1 _ rfl, k 2 _ rfl, k 3 _ rfl, k 4 _ rfl, k 5 _ rfl, k 6 _ rfl, k 7 _ rfl, k 8 _ rfl, fun i => frozen_of_row _ _ _ _ _ h⟩
def zRV : RV := ⟨0, none, 0, none, 0, 0, 0, none, 0, 0, 0, false, [], [], []⟩
/-- What behind answers. -/
def BehA (w : World) (p : PD) (r : RV) (e : Ending) (w' : World) : Prop := ∃ (b : Bool) (q : RV), e = .returned (.tuple #[.agg (r9 q), .bool b]) ∧ (b = true → ∃ i : Nat, p.st r.e = some (i : Int) ∧ p.rs[i]? = some q ∧ r.e ≠ []) ∧ (b = false → p.st r.e = none ∨ r.e = []) ∧ Below w.heap.size w w'
theorem BehA.mk {w w' : World} {p : PD} {r : RV} {e : Ending} (b : Bool) (q : RV) (h1 : e = .returned (.tuple #[.agg (r9 q), .bool b])) (h2 : b = true → ∃ i : Nat, p.st r.e = some (i : Int) ∧ p.rs[i]? = some q ∧ r.e ≠ []) (h3 : b = false → p.st r.e = none ∨ r.e = []) (h4 : Below w.heap.size w w') : BehA w p r e w' := ⟨b, q, h1, h2, h3, h4⟩
section
variable {x : Nat} {d : PL} {p : PD} {r : RV} {w : World}
set_option maxHeartbeats 4000000 in
theorem behind_any (h : Pln x d p w) (hr : It9 w r) (hst : ∀ k v, p.st k = some v → ∃ i : Nat, v = (i : Int) ∧ i < p.rs.length) :
    Calls Tryz.prog 68 #[.pointer (some ⟨x, 0, none⟩), .agg #[.int .u64 (r.id.toNat : Int), .slice r.sa r.s.length r.sc, .slice r.ea r.e.length r.ec, .int .u64 r.cf, .int .u64 r.vr, .slice r.pa r.ps.length r.pc, .int .i64 r.ld, .int .i64 r.sz, .bool r.bz]] w fun e w' => BehA w p r e w' := by
  obtain ⟨hkb, hk4, hb0⟩ := two_bx w (.cells #[.int .u64 (r.id.toNat : Int), .slice r.sa r.s.length r.sc, .slice r.ea r.e.length r.ec, .int .u64 r.cf, .int .u64 r.vr, .slice r.pa r.ps.length r.pc, .int .i64 r.ld, .int .i64 r.sz, .bool r.bz] 42) (.cells #[.int .u64 0, .slice none 0 0, .slice none 0 0, .int .u64 0, .int .u64 0, .slice none 0 0, .int .i64 0, .int .i64 0, .bool false] 42)
  have h0 := h.below hb0
  have hr0 := hr.below hb0 (Nat.le_refl _)
  clear h hr
  go_enter Tryz.func68, Tryz.ntmps68
  go_upto_region 1 with fail
  generalize World.alloc (World.alloc w _) _ = w0 at *
  have HP : Hid (Pln x d p w0) := h0
  have HB : Hid (∀ W, Below w0.heap.size w0 W → Below w.heap.size w W) := fun W hW => hb0.trans (hW.mono hb0.size)
  have HE : Hid (∀ W, Below w0.heap.size w0 W → W.cell? ⟨w.heap.size, 2, none⟩ = some (.slice r.ea r.e.length r.ec)) := fun W hW => (nine_at (r := r) (keep_blk hkb hW)).2.2.1
  have HK4 : Hid (∀ W, Below w0.heap.size w0 W → W.heap[w.heap.size + 1]? = some (.cells #[.int .u64 0, .slice none 0 0, .slice none 0 0, .int .u64 0, .int .u64 0, .slice none 0 0, .int .i64 0, .int .i64 0, .bool false] 42 (0, 0))) := fun W hW => keep_blk hk4 hW
  have HX : Hid (∀ W, Below w0.heap.size w0 W → W.cell? ⟨x, 6, none⟩ = some (.map (some d.ms))) := fun W hW => (HP.out.below hW).at_ rfl
  have HCV : Hid (∀ W, Below w0.heap.size w0 W → (convert 35 9 (.slice r.ea r.e.length r.ec)).run Tryz.prog W = .ok (.string ⟨r.e.toArray⟩) W) := fun W hW => conv_rd (hr0.e.below hW (Nat.le_refl _))
  have hel : r.e.length ≤ maxLen := hr0.e.len
  obtain ⟨ns, hsm⟩ := h0.st
  have HL : Hid (∀ W, Below w0.heap.size w0 W → (Instr.lookup 67 (.map (some d.ms)) (.string ⟨r.e.toArray⟩) true).run Tryz.prog W = .ok (.tuple #[.int .i64 ((p.st r.e).getD 0), .bool (p.st r.e).isSome]) W) := fun W hW => by
    have := (hsm.below hW (Nat.le_refl _)).look ⟨r.e.toArray⟩ (by show r.e.toArray.size ≤ _; simpa using hel)
    simpa using this
  obtain ⟨I, hI⟩ : ∃ I : Int, (p.st r.e).getD 0 = I := ⟨_, rfl⟩
  obtain ⟨S, hS'⟩ : ∃ S : Bool, (p.st r.e).isSome = S := ⟨_, rfl⟩
  rw [hI, hS'] at HL
  have HIS : Hid ((p.st r.e).getD 0 = I ∧ (p.st r.e).isSome = S) := ⟨hI, hS'⟩
  clear h0 hr0 hkb hk4 hsm hI hS'
  go_cut [6, 7] from 8 to 36 (fun i s wx => i = .int .i64 I ∧ s = .bool S ∧ Below w0.heap.size w0 wx)
  case first =>
    refine wp_region_heldN (S := fun W => Below w0.heap.size w0 W) (L := []) (by kernel_rfl) ?_
    have hS0 : Below w0.heap.size w0 w0.drew := (Below.refl _ _).drew
    generalize w0.drew = wd at *
    refine wpAnyN_take (i := 0) (v := .pointer (some ⟨x, 0, none⟩)) rfl (by kernel_rfl) (by kernel_rfl) (by kernel_rfl) (by kernel_rfl) (fun _ _ _ h => h) (.inl ⟨by kernel_rfl, fun W hW => by kernel_rfl⟩) hS0 ?_
    refine wpAnyN_take (i := 1) (v := .pointer (some ⟨x, 0, none⟩)) rfl (by kernel_rfl) (by kernel_rfl) (by kernel_rfl) (by kernel_rfl) (fun _ _ _ h => h) (.inl ⟨by kernel_rfl, fun W hW => by kernel_rfl⟩) hS0 ?_
    refine wpAnyN_take (i := 2) (v := .pointer (some ⟨x, 6, none⟩)) rfl (by kernel_rfl) (by kernel_rfl) (by kernel_rfl) (by kernel_rfl) (fun _ _ _ h => h) (.inl ⟨by kernel_rfl, fun W hW => by kernel_rfl⟩) hS0 ?_
    refine wpAnyN_take (i := 3) (v := .map (some d.ms)) rfl (by kernel_rfl) (by kernel_rfl) (by kernel_rfl) (by kernel_rfl) (fun _ _ _ h => h) (.inl ⟨by kernel_rfl, fun W hW => by have c := HX.out W hW; go_simp⟩) hS0 ?_
    refine wpAnyN_take (i := 4) (v := .pointer (some ⟨w.heap.size, 0, none⟩)) rfl (by kernel_rfl) (by kernel_rfl) (by kernel_rfl) (by kernel_rfl) (fun _ _ _ h => h) (.inl ⟨by kernel_rfl, fun W hW => by kernel_rfl⟩) hS0 ?_
    refine wpAnyN_take (i := 5) (v := .pointer (some ⟨w.heap.size, 2, none⟩)) rfl (by kernel_rfl) (by kernel_rfl) (by kernel_rfl) (by kernel_rfl) (fun _ _ _ h => h) (.inl ⟨by kernel_rfl, fun W hW => by kernel_rfl⟩) hS0 ?_
    refine wpAnyN_take (i := 6) (v := .slice r.ea r.e.length r.ec) rfl (by kernel_rfl) (by kernel_rfl) (by kernel_rfl) (by kernel_rfl) (fun _ _ _ h => h) (.inl ⟨by kernel_rfl, fun W hW => by have c := HE.out W hW; go_simp⟩) hS0 ?_
    refine wpAnyN_take (i := 7) (v := .string ⟨r.e.toArray⟩) rfl (by kernel_rfl) (by kernel_rfl) (by kernel_rfl) (by kernel_rfl) (fun _ _ _ h => h) (.inl ⟨by kernel_rfl, fun W hW => by have c := HCV.out W hW; go_simp⟩) hS0 ?_
    refine wpAnyN_take (i := 8) (v := .tuple #[.int .i64 I, .bool S]) rfl (by kernel_rfl) (by kernel_rfl) (by kernel_rfl) (by kernel_rfl) (fun _ _ _ h => h) (.inl ⟨by kernel_rfl, fun W hW => by have c := HL.out W hW; go_simp⟩) hS0 ?_
    refine wpAnyN_take (i := 9) (v := .tuple #[.int .i64 I, .bool S]) rfl (by kernel_rfl) (by kernel_rfl) (by kernel_rfl) (by kernel_rfl) (fun _ _ _ h => h) (.inl ⟨by kernel_rfl, fun W hW => by kernel_rfl⟩) hS0 ?_
    refine wpAnyN_take (i := 10) (v := .int .i64 I) rfl (by kernel_rfl) (by kernel_rfl) (by kernel_rfl) (by kernel_rfl) (fun _ _ _ h => h) (.inl ⟨by kernel_rfl, fun W hW => by kernel_rfl⟩) hS0 ?_
    refine wpAnyN_take (i := 11) (v := .bool S) rfl (by kernel_rfl) (by kernel_rfl) (by kernel_rfl) (by kernel_rfl) (fun _ _ _ h => h) (.inl ⟨by kernel_rfl, fun W hW => by kernel_rfl⟩) hS0 ?_
    refine wpAnyN_one (i := 12) (by kernel_rfl) rfl (fun K hK => ?_)
    rw [if_pos (by kernel_rfl)]
    go_simp
    refine hK _ _ (fun _ => hS0) ?_
    clear hK K
    refine wpAnyN_one (i := 13) (by kernel_rfl) rfl (fun K hK => ?_)
    rw [if_pos (by kernel_rfl)]
    go_simp
    refine hK _ _ (fun _ => hS0) ?_
    clear hK K
    refine ⟨by kernel_rfl, ?_⟩
    go_simp
    go_wp2_with fail
    go_meet
    exact ⟨rfl, rfl, hS0⟩
  case rest =>
  obtain ⟨rfl, rfl, hS⟩ := hcut
  cases S with
  | false =>
    have HN : Hid (p.st r.e = none) := by
      have := HIS.out.2
      show _ = _
      cases hq : p.st r.e with
      | none => rfl
      | some v => rw [hq] at this; cases this
    go_upto_region 3 with fail
    have hkR := HK4.out wc hS
    have hbW := HB.out wc hS
    obtain ⟨m0, m1, m2, m3, m4, m5, m6, m7, m8, m9⟩ := cells9 hkR
    have f0 := m9 0
    have f1 := m9 1
    have f2 := m9 2
    have f3 := m9 3
    have f4 := m9 4
    have f5 := m9 5
    have f6 := m9 6
    have f7 := m9 7
    have f8 := m9 8
    have hst := set9_block hkR (.int .u64 0) (.slice none 0 0) (.slice none 0 0) (.int .u64 0) (.int .u64 0) (.slice none 0 0) (.int .i64 0) (.int .i64 0) (.bool false)
    have hch := set9_chg wc (w.heap.size + 1) (.int .u64 0) (.slice none 0 0) (.slice none 0 0) (.int .u64 0) (.int .u64 0) (.slice none 0 0) (.int .i64 0) (.int .i64 0) (.bool false)
    have HF : Hid _ := hbW.trans (hch.below (fun b q => by omega) hbW.size)
    clear m9 hch
    go_wp2_with fail
    generalize World.setCell _ ⟨_, 8, none⟩ _ = wz at *
    obtain ⟨k0, k1, k2, k3, k4, k5, k6, k7, k8, _⟩ := cells9 hst
    refine bodyPost_ret (v := .tuple #[.agg #[.int .u64 0, .slice none 0 0, .slice none 0 0, .int .u64 0, .int .u64 0, .slice none 0 0, .int .i64 0, .int .i64 0, .bool false], .bool false]) (by simp [results, Tryz.results68, go_sem, k0, k1, k2, k3, k4, k5, k6, k7, k8]; try rfl) rfl ?_
    exact BehA.mk false zRV rfl (fun q => by cases q) (fun _ => .inl HN.out) HF.out
  | true =>
    by_cases he : r.e = []
    · have HE0 : Hid (r.e = []) := he
      have c2 := HE.out wc hS
      have c3 : ((r.e.length : Int) == 0) = true := by rw [he]; rfl
      clear he
      generalize r.e.length = ne at *
      go_upto_region 3 with fail
      clear c2 c3
      have hkR := HK4.out wc hS
      have hbW := HB.out wc hS
      obtain ⟨m0, m1, m2, m3, m4, m5, m6, m7, m8, m9⟩ := cells9 hkR
      have f0 := m9 0
      have f1 := m9 1
      have f2 := m9 2
      have f3 := m9 3
      have f4 := m9 4
      have f5 := m9 5
      have f6 := m9 6
      have f7 := m9 7
      have f8 := m9 8
      have hst := set9_block hkR (.int .u64 0) (.slice none 0 0) (.slice none 0 0) (.int .u64 0) (.int .u64 0) (.slice none 0 0) (.int .i64 0) (.int .i64 0) (.bool false)
      have hch := set9_chg wc (w.heap.size + 1) (.int .u64 0) (.slice none 0 0) (.slice none 0 0) (.int .u64 0) (.int .u64 0) (.slice none 0 0) (.int .i64 0) (.int .i64 0) (.bool false)
      have HF : Hid _ := hbW.trans (hch.below (fun b q => by omega) hbW.size)
      clear m9 hch
      go_wp2_with fail
      generalize World.setCell _ ⟨_, 8, none⟩ _ = wz at *
      obtain ⟨k0, k1, k2, k3, k4, k5, k6, k7, k8, _⟩ := cells9 hst
      refine bodyPost_ret (v := .tuple #[.agg #[.int .u64 0, .slice none 0 0, .slice none 0 0, .int .u64 0, .int .u64 0, .slice none 0 0, .int .i64 0, .int .i64 0, .bool false], .bool false]) (by simp [results, Tryz.results68, go_sem, k0, k1, k2, k3, k4, k5, k6, k7, k8]; try rfl) rfl ?_
      exact BehA.mk false zRV rfl (fun q => by cases q) (fun _ => .inr HE0.out) HF.out
    · have HNE : Hid (r.e ≠ []) := he
      have hpos : 0 < r.e.length := List.length_pos_iff.2 he
      have c2 := HE.out wc hS
      have c3 : ((r.e.length : Int) == 0) = false := by rw [beq_eq_false_iff_ne]; omega
      obtain ⟨i, HIi, hil⟩ : ∃ i : Nat, Hid (p.st r.e = some (i : Int) ∧ I = (i : Int)) ∧ i < p.rs.length := by
        have := HIS.out.2
        cases hq : p.st r.e with
        | none => rw [hq] at this; cases this
        | some v =>
          obtain ⟨i, rfl, hi⟩ := hst _ _ hq
          have h1 := HIS.out.1
          rw [hq] at h1
          exact ⟨i, ⟨rfl, h1.symm⟩, hi⟩
      obtain ⟨q, hq⟩ : ∃ q, p.rs[i]? = some q := ⟨_, List.getElem?_eq_getElem hil⟩
      have HQ : Hid (p.rs[i]? = some q) := hq
      have hII : I = (i : Int) := HIi.out.2
      subst hII
      have x5 : wc.cell? ⟨x, 5, none⟩ = some (sv d.rv) := (HP.out.below hS).at_ rfl
      obtain ⟨ao, c, erv, g1, g2, g4⟩ := (HP.out.below hS).rs
      obtain ⟨-, a, rfl, hat⟩ := g4 i q hq
      rw [erv] at x5
      have hii : (i : Int) < (p.rs.length : Int) := by omega
      obtain ⟨d0, d1, d2, d3, d4, d5, d6, d7, d8⟩ := hat.nine
      clear he hpos g4 hat hq erv
      generalize p.rs.length = nr at *
      go_upto_region 4 with fail
      clear c2 c3
      have hkR := HK4.out wc hS
      have hbW := HB.out wc hS
      obtain ⟨m0, m1, m2, m3, m4, m5, m6, m7, m8, m9⟩ := cells9 hkR
      have f0 := m9 0
      have f1 := m9 1
      have f2 := m9 2
      have f3 := m9 3
      have f4 := m9 4
      have f5 := m9 5
      have f6 := m9 6
      have f7 := m9 7
      have f8 := m9 8
      have hst := set9_block hkR (.int .u64 (q.id.toNat : Int)) (.slice q.sa q.s.length q.sc) (.slice q.ea q.e.length q.ec) (.int .u64 q.cf) (.int .u64 q.vr) (.slice q.pa q.ps.length q.pc) (.int .i64 q.ld) (.int .i64 q.sz) (.bool q.bz)
      have hch := set9_chg wc (w.heap.size + 1) (.int .u64 (q.id.toNat : Int)) (.slice q.sa q.s.length q.sc) (.slice q.ea q.e.length q.ec) (.int .u64 q.cf) (.int .u64 q.vr) (.slice q.pa q.ps.length q.pc) (.int .i64 q.ld) (.int .i64 q.sz) (.bool q.bz)
      have HF : Hid _ := hbW.trans (hch.below (fun b q => by omega) hbW.size)
      clear m9 hch
      go_wp2_with fail
      generalize World.setCell _ ⟨_, 8, none⟩ _ = wz at *
      obtain ⟨k0, k1, k2, k3, k4, k5, k6, k7, k8, _⟩ := cells9 hst
      refine bodyPost_ret (v := .tuple #[.agg #[.int .u64 (q.id.toNat : Int), .slice q.sa q.s.length q.sc, .slice q.ea q.e.length q.ec, .int .u64 q.cf, .int .u64 q.vr, .slice q.pa q.ps.length q.pc, .int .i64 q.ld, .int .i64 q.sz, .bool q.bz], .bool true]) (by simp [results, Tryz.results68, go_sem, k0, k1, k2, k3, k4, k5, k6, k7, k8]; try rfl) rfl ?_
      exact BehA.mk true q rfl (fun _ => ⟨i, HIi.out.1, HQ.out, HNE.out⟩) (fun q => by cases q) HF.out
end
end Go.Proofs.YtedfjacmaidhkaaGreat
