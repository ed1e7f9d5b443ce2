/- decide of a merge that is decided. -/
import Derived.Test.YtlfdcnojbbigbaaG18
namespace Go.Proofs.Ytlfdcnojbbigbaa
open Go.RowKit Go.Maps
set_option linter.unusedVariables false
set_option linter.unusedSimpArgs false
set_option maxRecDepth 100000
section
variable {n k cc p id : Nat} {g : Nat → Bool} {f : Nat → Option Value} {w w' : World} {d : DC} {s t : RC}
set_option maxHeartbeats 2000000 in
theorem decided2 (c : PC) (hcn : c.n < 18446744073709551616) (hd : Drv p d w) (hm : Mm d.mm n f w) (hf : f c.n = some (.agg (mgA id s t 2))) :
    Calls Try.prog 33 #[.pointer (some ⟨p, 0, none⟩), .agg (pcA c)] w fun e w' => e = .returned (prA 0 0 2) ∧ Below w.heap.size w w' := by
  have hbx := Bxd.new c w
  have hB0 := (two_new w (.cells (pcA c) 40) (.cells #[.int .i64 0, .int .u64 0, .int .i64 0] 42)).2.2
  have hd0 := hd.belowN hB0 (Nat.le_refl _)
  have hm0 := hm.below hB0 (Nat.le_refl _)
  have hml := hm.lt
  go_enter Try.func33, Try.ntmps33
  go_upto_region 1 with fail
  have hz0 : (World.alloc (World.alloc w (.cells (pcA c) 40)) (.cells #[.int .i64 0, .int .u64 0, .int .i64 0] 42)).heap.size = w.heap.size + 2 := by simp
  generalize World.alloc (World.alloc w _) _ = W0 at *
  have HLK : Hid (∀ W, Below W0.heap.size W0 W → W.cell? ⟨p, 7, none⟩ = some (.map (some d.mm)) ∧ W.cell? ⟨w.heap.size, 1, none⟩ = some (.int .u64 (c.n : Int)) ∧ (Instr.lookup 49 (.map (some d.mm)) (.int .u64 (c.n : Int)) true).run Try.prog W = .ok (.tuple #[.agg (mgA id s t 2), .bool true]) W) := fun W hW =>
    ⟨(hd0.belowN hW (Nat.le_refl _)).at_ rfl, (hbx.next (Chg.of_below hW) (by omega) (by omega)).at_ rfl, by have := (hm0.below hW (Nat.le_refl _)).look hcn; rw [hf] at this; exact this⟩
  have hS0 : Below W0.heap.size W0 W0.drew := (Below.refl _ _).drew
  refine wp_region_heldN (S := fun W => Below W0.heap.size W0 W) (L := []) (by kernel_rfl) ?_
  refine wpAnyN_take (i := 0) (v := .pointer (some ⟨p, 0, none⟩)) rfl (by kernel_rfl) (by kernel_rfl) (by kernel_rfl) (by kernel_rfl) (fun _ _ _ h => h) (.inl ⟨by kernel_rfl, fun W hW => by kernel_rfl⟩) hS0 ?_
  refine wpAnyN_take (i := 1) (v := .pointer (some ⟨p, 0, none⟩)) rfl (by kernel_rfl) (by kernel_rfl) (by kernel_rfl) (by kernel_rfl) (fun _ _ _ h => h) (.inl ⟨by kernel_rfl, fun W hW => by kernel_rfl⟩) hS0 ?_
  refine wpAnyN_take (i := 2) (v := .pointer (some ⟨p, 7, none⟩)) rfl (by kernel_rfl) (by kernel_rfl) (by kernel_rfl) (by kernel_rfl) (fun _ _ _ h => h) (.inl ⟨by kernel_rfl, fun W hW => by kernel_rfl⟩) hS0 ?_
  refine wpAnyN_take (i := 3) (v := .map (some d.mm)) rfl (by kernel_rfl) (by kernel_rfl) (by kernel_rfl) (by kernel_rfl) (fun _ _ _ h => h) (.inl ⟨by kernel_rfl, fun W hW => by obtain ⟨m0, m1, m2⟩ := HLK.out W hW; go_simp⟩) hS0 ?_
  refine wpAnyN_take (i := 4) (v := .pointer (some ⟨w.heap.size, 1, none⟩)) rfl (by kernel_rfl) (by kernel_rfl) (by kernel_rfl) (by kernel_rfl) (fun _ _ _ h => h) (.inl ⟨by kernel_rfl, fun W hW => by kernel_rfl⟩) hS0 ?_
  refine wpAnyN_take (i := 5) (v := .int .u64 (c.n : Int)) rfl (by kernel_rfl) (by kernel_rfl) (by kernel_rfl) (by kernel_rfl) (fun _ _ _ h => h) (.inl ⟨by kernel_rfl, fun W hW => by obtain ⟨m0, m1, m2⟩ := HLK.out W hW; go_simp⟩) hS0 ?_
  refine wpAnyN_take (i := 6) (v := .tuple #[.agg (mgA id s t 2), .bool true]) rfl (by kernel_rfl) (by kernel_rfl) (by kernel_rfl) (by kernel_rfl) (fun _ _ _ h => h) (.inl ⟨by kernel_rfl, fun W hW => by obtain ⟨m0, m1, m2⟩ := HLK.out W hW; go_simp⟩) hS0 ?_
  refine wpAnyN_take (i := 7) (v := .tuple #[.agg (mgA id s t 2), .bool true]) rfl (by kernel_rfl) (by kernel_rfl) (by kernel_rfl) (by kernel_rfl) (fun _ _ _ h => h) (.inl ⟨by kernel_rfl, fun W hW => by kernel_rfl⟩) hS0 ?_
  refine wpAnyN_take (i := 8) (v := .agg (mgA id s t 2)) rfl (by kernel_rfl) (by kernel_rfl) (by kernel_rfl) (by kernel_rfl) (fun _ _ _ h => h) (.inl ⟨by kernel_rfl, fun W hW => by kernel_rfl⟩) hS0 ?_
  refine wpAnyN_take (i := 9) (v := .bool true) rfl (by kernel_rfl) (by kernel_rfl) (by kernel_rfl) (by kernel_rfl) (fun _ _ _ h => h) (.inl ⟨by kernel_rfl, fun W hW => by kernel_rfl⟩) hS0 ?_
  refine wpAnyN_one (i := 10) (by kernel_rfl) rfl (fun K hK => ?_)
  rw [if_pos (by kernel_rfl)]
  go_simp
  have hB1 : Below W0.heap.size W0 (W0.alloc (.cells #[.int .u64 0, .int .u64 0, .slice none 0 0, .slice none 0 0, .int .u64 0, .int .u64 0, .slice none 0 0, .int .u64 0, .slice none 0 0, .slice none 0 0, .int .u64 0, .int .u64 0, .slice none 0 0, .int .i64 0] 64)).drew := ((Below.refl _ _).alloc (Nat.le_refl _) _).drew
  have hq1 : (W0.alloc (.cells #[.int .u64 0, .int .u64 0, .slice none 0 0, .slice none 0 0, .int .u64 0, .int .u64 0, .slice none 0 0, .int .u64 0, .slice none 0 0, .slice none 0 0, .int .u64 0, .int .u64 0, .slice none 0 0, .int .i64 0] 64)).drew.heap[w.heap.size + 2]? = some (.cells #[.int .u64 0, .int .u64 0, .slice none 0 0, .slice none 0 0, .int .u64 0, .int .u64 0, .slice none 0 0, .int .u64 0, .slice none 0 0, .slice none 0 0, .int .u64 0, .int .u64 0, .slice none 0 0, .int .i64 0] 64 (0, 0)) := by rw [← hz0]; exact heap_new W0 _
  refine hK _ _ (fun _ => hB1) ?_
  clear hK K
  generalize (W0.alloc (.cells #[.int .u64 0, .int .u64 0, .slice none 0 0, .slice none 0 0, .int .u64 0, .int .u64 0, .slice none 0 0, .int .u64 0, .slice none 0 0, .slice none 0 0, .int .u64 0, .int .u64 0, .slice none 0 0, .int .i64 0] 64)).drew = W1 at *
  obtain ⟨y0, y1, y2, y3, y4, y5, y6, y7, y8, y9, y10, y11, y12, y13, yy⟩ := cells14 hq1
  have yy0 := yy 0
  have yy1 := yy 1
  have yy2 := yy 2
  have yy3 := yy 3
  have yy4 := yy 4
  have yy5 := yy 5
  have yy6 := yy 6
  have yy7 := yy 7
  have yy8 := yy 8
  have yy9 := yy 9
  have yy10 := yy 10
  have yy11 := yy 11
  have yy12 := yy 12
  have yy13 := yy 13
  have hq2 : ((((((((((((((W1.setCell ⟨w.heap.size + 2, 0, none⟩ (.int .u64 (id : Int))).setCell ⟨w.heap.size + 2, 1, none⟩ (.int .u64 (s.id : Int))).setCell ⟨w.heap.size + 2, 2, none⟩ (.slice s.s.1 s.s.2.1 s.s.2.2)).setCell ⟨w.heap.size + 2, 3, none⟩ (.slice s.e.1 s.e.2.1 s.e.2.2)).setCell ⟨w.heap.size + 2, 4, none⟩ (.int .u64 (s.cf : Int))).setCell ⟨w.heap.size + 2, 5, none⟩ (.int .u64 (s.vr : Int))).setCell ⟨w.heap.size + 2, 6, none⟩ (.slice s.p.1 s.p.2.1 s.p.2.2)).setCell ⟨w.heap.size + 2, 7, none⟩ (.int .u64 (t.id : Int))).setCell ⟨w.heap.size + 2, 8, none⟩ (.slice t.s.1 t.s.2.1 t.s.2.2)).setCell ⟨w.heap.size + 2, 9, none⟩ (.slice t.e.1 t.e.2.1 t.e.2.2)).setCell ⟨w.heap.size + 2, 10, none⟩ (.int .u64 (t.cf : Int))).setCell ⟨w.heap.size + 2, 11, none⟩ (.int .u64 (t.vr : Int))).setCell ⟨w.heap.size + 2, 12, none⟩ (.slice t.p.1 t.p.2.1 t.p.2.2)).setCell ⟨w.heap.size + 2, 13, none⟩ (.int .i64 2)).heap[w.heap.size + 2]? = some (.cells (mgA id s t 2) 64 (0, 0)) := set14_block hq1 (.int .u64 (id : Int)) (.int .u64 (s.id : Int)) (.slice s.s.1 s.s.2.1 s.s.2.2) (.slice s.e.1 s.e.2.1 s.e.2.2) (.int .u64 (s.cf : Int)) (.int .u64 (s.vr : Int)) (.slice s.p.1 s.p.2.1 s.p.2.2) (.int .u64 (t.id : Int)) (.slice t.s.1 t.s.2.1 t.s.2.2) (.slice t.e.1 t.e.2.1 t.e.2.2) (.int .u64 (t.cf : Int)) (.int .u64 (t.vr : Int)) (.slice t.p.1 t.p.2.1 t.p.2.2) (.int .i64 2)
  have hB2 : Below W0.heap.size W0 ((((((((((((((W1.setCell ⟨w.heap.size + 2, 0, none⟩ (.int .u64 (id : Int))).setCell ⟨w.heap.size + 2, 1, none⟩ (.int .u64 (s.id : Int))).setCell ⟨w.heap.size + 2, 2, none⟩ (.slice s.s.1 s.s.2.1 s.s.2.2)).setCell ⟨w.heap.size + 2, 3, none⟩ (.slice s.e.1 s.e.2.1 s.e.2.2)).setCell ⟨w.heap.size + 2, 4, none⟩ (.int .u64 (s.cf : Int))).setCell ⟨w.heap.size + 2, 5, none⟩ (.int .u64 (s.vr : Int))).setCell ⟨w.heap.size + 2, 6, none⟩ (.slice s.p.1 s.p.2.1 s.p.2.2)).setCell ⟨w.heap.size + 2, 7, none⟩ (.int .u64 (t.id : Int))).setCell ⟨w.heap.size + 2, 8, none⟩ (.slice t.s.1 t.s.2.1 t.s.2.2)).setCell ⟨w.heap.size + 2, 9, none⟩ (.slice t.e.1 t.e.2.1 t.e.2.2)).setCell ⟨w.heap.size + 2, 10, none⟩ (.int .u64 (t.cf : Int))).setCell ⟨w.heap.size + 2, 11, none⟩ (.int .u64 (t.vr : Int))).setCell ⟨w.heap.size + 2, 12, none⟩ (.slice t.p.1 t.p.2.1 t.p.2.2)).setCell ⟨w.heap.size + 2, 13, none⟩ (.int .i64 2)) := hB1.trans ((set14_chg W1 (w.heap.size + 2) (.int .u64 (id : Int)) (.int .u64 (s.id : Int)) (.slice s.s.1 s.s.2.1 s.s.2.2) (.slice s.e.1 s.e.2.1 s.e.2.2) (.int .u64 (s.cf : Int)) (.int .u64 (s.vr : Int)) (.slice s.p.1 s.p.2.1 s.p.2.2) (.int .u64 (t.id : Int)) (.slice t.s.1 t.s.2.1 t.s.2.2) (.slice t.e.1 t.e.2.1 t.e.2.2) (.int .u64 (t.cf : Int)) (.int .u64 (t.vr : Int)) (.slice t.p.1 t.p.2.1 t.p.2.2) (.int .i64 2)).below (fun b q => by omega) hB1.size)
  refine wpAnyN_one (i := 11) (by kernel_rfl) rfl (fun K hK => ?_)
  rw [if_pos (by kernel_rfl)]
  simp only [mgA]
  go_simp
  refine hK _ _ (fun _ => hB2) ?_
  clear hK K y0 y1 y2 y3 y4 y5 y6 y7 y8 y9 y10 y11 y12 y13 yy0 yy1 yy2 yy3 yy4 yy5 yy6 yy7 yy8 yy9 yy10 yy11 yy12 yy13 yy hq1
  generalize ((((((((((((((W1.setCell ⟨w.heap.size + 2, 0, none⟩ (.int .u64 (id : Int))).setCell ⟨w.heap.size + 2, 1, none⟩ (.int .u64 (s.id : Int))).setCell ⟨w.heap.size + 2, 2, none⟩ (.slice s.s.1 s.s.2.1 s.s.2.2)).setCell ⟨w.heap.size + 2, 3, none⟩ (.slice s.e.1 s.e.2.1 s.e.2.2)).setCell ⟨w.heap.size + 2, 4, none⟩ (.int .u64 (s.cf : Int))).setCell ⟨w.heap.size + 2, 5, none⟩ (.int .u64 (s.vr : Int))).setCell ⟨w.heap.size + 2, 6, none⟩ (.slice s.p.1 s.p.2.1 s.p.2.2)).setCell ⟨w.heap.size + 2, 7, none⟩ (.int .u64 (t.id : Int))).setCell ⟨w.heap.size + 2, 8, none⟩ (.slice t.s.1 t.s.2.1 t.s.2.2)).setCell ⟨w.heap.size + 2, 9, none⟩ (.slice t.e.1 t.e.2.1 t.e.2.2)).setCell ⟨w.heap.size + 2, 10, none⟩ (.int .u64 (t.cf : Int))).setCell ⟨w.heap.size + 2, 11, none⟩ (.int .u64 (t.vr : Int))).setCell ⟨w.heap.size + 2, 12, none⟩ (.slice t.p.1 t.p.2.1 t.p.2.2)).setCell ⟨w.heap.size + 2, 13, none⟩ (.int .i64 2)) = W2 at *
  refine wpAnyN_one (i := 12) (by kernel_rfl) rfl (fun K hK => ?_)
  rw [if_pos (by kernel_rfl)]
  go_simp
  refine hK _ _ (fun _ => hB2) ?_
  clear hK K
  refine ⟨by kernel_rfl, ?_⟩
  go_simp
  have hbx2 := hbx.next (Chg.of_below hB2) (by omega) (by omega)
  obtain ⟨x0, x1, x2, x3, x4, x5, x6, x7, x8, x9, x10, x11, x12, x13, xx⟩ := cells14 hq2
  clear x0 x1 x2 x3 x4 x5 x6 x7 x8 x9 x10 x11 x12 xx
  obtain ⟨r0, r1, r2, f5, f6, f7⟩ := hbx2.rs
  go_wp2_with fail
  obtain ⟨⟨k0, k1, k2⟩, hc⟩ := pr_fin hbx2.res (.int .i64 0) (.int .u64 0) (.int .i64 2)
  have hfin : Below w.heap.size w _ := (hB0.trans (hB2.mono hB0.size)).trans (hc.below (fun b q => by omega) (by have := hB2.size; omega))
  clear hc
  generalize World.setCell _ ⟨_, 2, none⟩ _ = wz at *
  refine bodyPost_ret (v := prA 0 0 2) (by simp [results, Try.results33, go_sem, k0, k1, k2]; try rfl) rfl ?_
  exact ⟨rfl, hfin⟩
set_option maxHeartbeats 2000000 in
theorem decided3 (c : PC) (hcn : c.n < 18446744073709551616) (hd : Drv p d w) (hm : Mm d.mm n f w) (hf : f c.n = some (.agg (mgA id s t 3))) :
    Calls Try.prog 33 #[.pointer (some ⟨p, 0, none⟩), .agg (pcA c)] w fun e w' => e = .returned (prA 0 0 3) ∧ Below w.heap.size w w' := by
  have hbx := Bxd.new c w
  have hB0 := (two_new w (.cells (pcA c) 40) (.cells #[.int .i64 0, .int .u64 0, .int .i64 0] 42)).2.2
  have hd0 := hd.belowN hB0 (Nat.le_refl _)
  have hm0 := hm.below hB0 (Nat.le_refl _)
  have hml := hm.lt
  go_enter Try.func33, Try.ntmps33
  go_upto_region 1 with fail
  have hz0 : (World.alloc (World.alloc w (.cells (pcA c) 40)) (.cells #[.int .i64 0, .int .u64 0, .int .i64 0] 42)).heap.size = w.heap.size + 2 := by simp
  generalize World.alloc (World.alloc w _) _ = W0 at *
  have HLK : Hid (∀ W, Below W0.heap.size W0 W → W.cell? ⟨p, 7, none⟩ = some (.map (some d.mm)) ∧ W.cell? ⟨w.heap.size, 1, none⟩ = some (.int .u64 (c.n : Int)) ∧ (Instr.lookup 49 (.map (some d.mm)) (.int .u64 (c.n : Int)) true).run Try.prog W = .ok (.tuple #[.agg (mgA id s t 3), .bool true]) W) := fun W hW =>
    ⟨(hd0.belowN hW (Nat.le_refl _)).at_ rfl, (hbx.next (Chg.of_below hW) (by omega) (by omega)).at_ rfl, by have := (hm0.below hW (Nat.le_refl _)).look hcn; rw [hf] at this; exact this⟩
  have hS0 : Below W0.heap.size W0 W0.drew := (Below.refl _ _).drew
  refine wp_region_heldN (S := fun W => Below W0.heap.size W0 W) (L := []) (by kernel_rfl) ?_
  refine wpAnyN_take (i := 0) (v := .pointer (some ⟨p, 0, none⟩)) rfl (by kernel_rfl) (by kernel_rfl) (by kernel_rfl) (by kernel_rfl) (fun _ _ _ h => h) (.inl ⟨by kernel_rfl, fun W hW => by kernel_rfl⟩) hS0 ?_
  refine wpAnyN_take (i := 1) (v := .pointer (some ⟨p, 0, none⟩)) rfl (by kernel_rfl) (by kernel_rfl) (by kernel_rfl) (by kernel_rfl) (fun _ _ _ h => h) (.inl ⟨by kernel_rfl, fun W hW => by kernel_rfl⟩) hS0 ?_
  refine wpAnyN_take (i := 2) (v := .pointer (some ⟨p, 7, none⟩)) rfl (by kernel_rfl) (by kernel_rfl) (by kernel_rfl) (by kernel_rfl) (fun _ _ _ h => h) (.inl ⟨by kernel_rfl, fun W hW => by kernel_rfl⟩) hS0 ?_
  refine wpAnyN_take (i := 3) (v := .map (some d.mm)) rfl (by kernel_rfl) (by kernel_rfl) (by kernel_rfl) (by kernel_rfl) (fun _ _ _ h => h) (.inl ⟨by kernel_rfl, fun W hW => by obtain ⟨m0, m1, m2⟩ := HLK.out W hW; go_simp⟩) hS0 ?_
  refine wpAnyN_take (i := 4) (v := .pointer (some ⟨w.heap.size, 1, none⟩)) rfl (by kernel_rfl) (by kernel_rfl) (by kernel_rfl) (by kernel_rfl) (fun _ _ _ h => h) (.inl ⟨by kernel_rfl, fun W hW => by kernel_rfl⟩) hS0 ?_
  refine wpAnyN_take (i := 5) (v := .int .u64 (c.n : Int)) rfl (by kernel_rfl) (by kernel_rfl) (by kernel_rfl) (by kernel_rfl) (fun _ _ _ h => h) (.inl ⟨by kernel_rfl, fun W hW => by obtain ⟨m0, m1, m2⟩ := HLK.out W hW; go_simp⟩) hS0 ?_
  refine wpAnyN_take (i := 6) (v := .tuple #[.agg (mgA id s t 3), .bool true]) rfl (by kernel_rfl) (by kernel_rfl) (by kernel_rfl) (by kernel_rfl) (fun _ _ _ h => h) (.inl ⟨by kernel_rfl, fun W hW => by obtain ⟨m0, m1, m2⟩ := HLK.out W hW; go_simp⟩) hS0 ?_
  refine wpAnyN_take (i := 7) (v := .tuple #[.agg (mgA id s t 3), .bool true]) rfl (by kernel_rfl) (by kernel_rfl) (by kernel_rfl) (by kernel_rfl) (fun _ _ _ h => h) (.inl ⟨by kernel_rfl, fun W hW => by kernel_rfl⟩) hS0 ?_
  refine wpAnyN_take (i := 8) (v := .agg (mgA id s t 3)) rfl (by kernel_rfl) (by kernel_rfl) (by kernel_rfl) (by kernel_rfl) (fun _ _ _ h => h) (.inl ⟨by kernel_rfl, fun W hW => by kernel_rfl⟩) hS0 ?_
  refine wpAnyN_take (i := 9) (v := .bool true) rfl (by kernel_rfl) (by kernel_rfl) (by kernel_rfl) (by kernel_rfl) (fun _ _ _ h => h) (.inl ⟨by kernel_rfl, fun W hW => by kernel_rfl⟩) hS0 ?_
  refine wpAnyN_one (i := 10) (by kernel_rfl) rfl (fun K hK => ?_)
  rw [if_pos (by kernel_rfl)]
  go_simp
  have hB1 : Below W0.heap.size W0 (W0.alloc (.cells #[.int .u64 0, .int .u64 0, .slice none 0 0, .slice none 0 0, .int .u64 0, .int .u64 0, .slice none 0 0, .int .u64 0, .slice none 0 0, .slice none 0 0, .int .u64 0, .int .u64 0, .slice none 0 0, .int .i64 0] 64)).drew := ((Below.refl _ _).alloc (Nat.le_refl _) _).drew
  have hq1 : (W0.alloc (.cells #[.int .u64 0, .int .u64 0, .slice none 0 0, .slice none 0 0, .int .u64 0, .int .u64 0, .slice none 0 0, .int .u64 0, .slice none 0 0, .slice none 0 0, .int .u64 0, .int .u64 0, .slice none 0 0, .int .i64 0] 64)).drew.heap[w.heap.size + 2]? = some (.cells #[.int .u64 0, .int .u64 0, .slice none 0 0, .slice none 0 0, .int .u64 0, .int .u64 0, .slice none 0 0, .int .u64 0, .slice none 0 0, .slice none 0 0, .int .u64 0, .int .u64 0, .slice none 0 0, .int .i64 0] 64 (0, 0)) := by rw [← hz0]; exact heap_new W0 _
  refine hK _ _ (fun _ => hB1) ?_
  clear hK K
  generalize (W0.alloc (.cells #[.int .u64 0, .int .u64 0, .slice none 0 0, .slice none 0 0, .int .u64 0, .int .u64 0, .slice none 0 0, .int .u64 0, .slice none 0 0, .slice none 0 0, .int .u64 0, .int .u64 0, .slice none 0 0, .int .i64 0] 64)).drew = W1 at *
  obtain ⟨y0, y1, y2, y3, y4, y5, y6, y7, y8, y9, y10, y11, y12, y13, yy⟩ := cells14 hq1
  have yy0 := yy 0
  have yy1 := yy 1
  have yy2 := yy 2
  have yy3 := yy 3
  have yy4 := yy 4
  have yy5 := yy 5
  have yy6 := yy 6
  have yy7 := yy 7
  have yy8 := yy 8
  have yy9 := yy 9
  have yy10 := yy 10
  have yy11 := yy 11
  have yy12 := yy 12
  have yy13 := yy 13
  have hq2 : ((((((((((((((W1.setCell ⟨w.heap.size + 2, 0, none⟩ (.int .u64 (id : Int))).setCell ⟨w.heap.size + 2, 1, none⟩ (.int .u64 (s.id : Int))).setCell ⟨w.heap.size + 2, 2, none⟩ (.slice s.s.1 s.s.2.1 s.s.2.2)).setCell ⟨w.heap.size + 2, 3, none⟩ (.slice s.e.1 s.e.2.1 s.e.2.2)).setCell ⟨w.heap.size + 2, 4, none⟩ (.int .u64 (s.cf : Int))).setCell ⟨w.heap.size + 2, 5, none⟩ (.int .u64 (s.vr : Int))).setCell ⟨w.heap.size + 2, 6, none⟩ (.slice s.p.1 s.p.2.1 s.p.2.2)).setCell ⟨w.heap.size + 2, 7, none⟩ (.int .u64 (t.id : Int))).setCell ⟨w.heap.size + 2, 8, none⟩ (.slice t.s.1 t.s.2.1 t.s.2.2)).setCell ⟨w.heap.size + 2, 9, none⟩ (.slice t.e.1 t.e.2.1 t.e.2.2)).setCell ⟨w.heap.size + 2, 10, none⟩ (.int .u64 (t.cf : Int))).setCell ⟨w.heap.size + 2, 11, none⟩ (.int .u64 (t.vr : Int))).setCell ⟨w.heap.size + 2, 12, none⟩ (.slice t.p.1 t.p.2.1 t.p.2.2)).setCell ⟨w.heap.size + 2, 13, none⟩ (.int .i64 3)).heap[w.heap.size + 2]? = some (.cells (mgA id s t 3) 64 (0, 0)) := set14_block hq1 (.int .u64 (id : Int)) (.int .u64 (s.id : Int)) (.slice s.s.1 s.s.2.1 s.s.2.2) (.slice s.e.1 s.e.2.1 s.e.2.2) (.int .u64 (s.cf : Int)) (.int .u64 (s.vr : Int)) (.slice s.p.1 s.p.2.1 s.p.2.2) (.int .u64 (t.id : Int)) (.slice t.s.1 t.s.2.1 t.s.2.2) (.slice t.e.1 t.e.2.1 t.e.2.2) (.int .u64 (t.cf : Int)) (.int .u64 (t.vr : Int)) (.slice t.p.1 t.p.2.1 t.p.2.2) (.int .i64 3)
  have hB2 : Below W0.heap.size W0 ((((((((((((((W1.setCell ⟨w.heap.size + 2, 0, none⟩ (.int .u64 (id : Int))).setCell ⟨w.heap.size + 2, 1, none⟩ (.int .u64 (s.id : Int))).setCell ⟨w.heap.size + 2, 2, none⟩ (.slice s.s.1 s.s.2.1 s.s.2.2)).setCell ⟨w.heap.size + 2, 3, none⟩ (.slice s.e.1 s.e.2.1 s.e.2.2)).setCell ⟨w.heap.size + 2, 4, none⟩ (.int .u64 (s.cf : Int))).setCell ⟨w.heap.size + 2, 5, none⟩ (.int .u64 (s.vr : Int))).setCell ⟨w.heap.size + 2, 6, none⟩ (.slice s.p.1 s.p.2.1 s.p.2.2)).setCell ⟨w.heap.size + 2, 7, none⟩ (.int .u64 (t.id : Int))).setCell ⟨w.heap.size + 2, 8, none⟩ (.slice t.s.1 t.s.2.1 t.s.2.2)).setCell ⟨w.heap.size + 2, 9, none⟩ (.slice t.e.1 t.e.2.1 t.e.2.2)).setCell ⟨w.heap.size + 2, 10, none⟩ (.int .u64 (t.cf : Int))).setCell ⟨w.heap.size + 2, 11, none⟩ (.int .u64 (t.vr : Int))).setCell ⟨w.heap.size + 2, 12, none⟩ (.slice t.p.1 t.p.2.1 t.p.2.2)).setCell ⟨w.heap.size + 2, 13, none⟩ (.int .i64 3)) := hB1.trans ((set14_chg W1 (w.heap.size + 2) (.int .u64 (id : Int)) (.int .u64 (s.id : Int)) (.slice s.s.1 s.s.2.1 s.s.2.2) (.slice s.e.1 s.e.2.1 s.e.2.2) (.int .u64 (s.cf : Int)) (.int .u64 (s.vr : Int)) (.slice s.p.1 s.p.2.1 s.p.2.2) (.int .u64 (t.id : Int)) (.slice t.s.1 t.s.2.1 t.s.2.2) (.slice t.e.1 t.e.2.1 t.e.2.2) (.int .u64 (t.cf : Int)) (.int .u64 (t.vr : Int)) (.slice t.p.1 t.p.2.1 t.p.2.2) (.int .i64 3)).below (fun b q => by omega) hB1.size)
  refine wpAnyN_one (i := 11) (by kernel_rfl) rfl (fun K hK => ?_)
  rw [if_pos (by kernel_rfl)]
  simp only [mgA]
  go_simp
  refine hK _ _ (fun _ => hB2) ?_
  clear hK K y0 y1 y2 y3 y4 y5 y6 y7 y8 y9 y10 y11 y12 y13 yy0 yy1 yy2 yy3 yy4 yy5 yy6 yy7 yy8 yy9 yy10 yy11 yy12 yy13 yy hq1
  generalize ((((((((((((((W1.setCell ⟨w.heap.size + 2, 0, none⟩ (.int .u64 (id : Int))).setCell ⟨w.heap.size + 2, 1, none⟩ (.int .u64 (s.id : Int))).setCell ⟨w.heap.size + 2, 2, none⟩ (.slice s.s.1 s.s.2.1 s.s.2.2)).setCell ⟨w.heap.size + 2, 3, none⟩ (.slice s.e.1 s.e.2.1 s.e.2.2)).setCell ⟨w.heap.size + 2, 4, none⟩ (.int .u64 (s.cf : Int))).setCell ⟨w.heap.size + 2, 5, none⟩ (.int .u64 (s.vr : Int))).setCell ⟨w.heap.size + 2, 6, none⟩ (.slice s.p.1 s.p.2.1 s.p.2.2)).setCell ⟨w.heap.size + 2, 7, none⟩ (.int .u64 (t.id : Int))).setCell ⟨w.heap.size + 2, 8, none⟩ (.slice t.s.1 t.s.2.1 t.s.2.2)).setCell ⟨w.heap.size + 2, 9, none⟩ (.slice t.e.1 t.e.2.1 t.e.2.2)).setCell ⟨w.heap.size + 2, 10, none⟩ (.int .u64 (t.cf : Int))).setCell ⟨w.heap.size + 2, 11, none⟩ (.int .u64 (t.vr : Int))).setCell ⟨w.heap.size + 2, 12, none⟩ (.slice t.p.1 t.p.2.1 t.p.2.2)).setCell ⟨w.heap.size + 2, 13, none⟩ (.int .i64 3)) = W2 at *
  refine wpAnyN_one (i := 12) (by kernel_rfl) rfl (fun K hK => ?_)
  rw [if_pos (by kernel_rfl)]
  go_simp
  refine hK _ _ (fun _ => hB2) ?_
  clear hK K
  refine ⟨by kernel_rfl, ?_⟩
  go_simp
  have hbx2 := hbx.next (Chg.of_below hB2) (by omega) (by omega)
  obtain ⟨x0, x1, x2, x3, x4, x5, x6, x7, x8, x9, x10, x11, x12, x13, xx⟩ := cells14 hq2
  clear x0 x1 x2 x3 x4 x5 x6 x7 x8 x9 x10 x11 x12 xx
  obtain ⟨r0, r1, r2, f5, f6, f7⟩ := hbx2.rs
  go_wp2_with fail
  obtain ⟨⟨k0, k1, k2⟩, hc⟩ := pr_fin hbx2.res (.int .i64 0) (.int .u64 0) (.int .i64 3)
  have hfin : Below w.heap.size w _ := (hB0.trans (hB2.mono hB0.size)).trans (hc.below (fun b q => by omega) (by have := hB2.size; omega))
  clear hc
  generalize World.setCell _ ⟨_, 2, none⟩ _ = wz at *
  refine bodyPost_ret (v := prA 0 0 3) (by simp [results, Try.results33, go_sem, k0, k1, k2]; try rfl) rfl ?_
  exact ⟨rfl, hfin⟩
theorem decided_any (c : PC) (hcn : c.n < 18446744073709551616) (hd : Drv p d w) (hm : Mm d.mm n f w) {b : Bool} (hf : f c.n = some (.agg (mgA id s t (if b then 2 else 3)))) :
    Calls Try.prog 33 #[.pointer (some ⟨p, 0, none⟩), .agg (pcA c)] w fun e w' => e = .returned (prA 0 0 (if b then 2 else 3)) ∧ Below w.heap.size w w' := by
  cases b
  · exact decided3 c hcn hd hm hf
  · exact decided2 c hcn hd hm hf
end
end Go.Proofs.Ytlfdcnojbbigbaa
