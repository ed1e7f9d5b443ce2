/- decide. -/
import Derived.Test.YtlfdcnojbbigbaaG17
import Derived.Deep.Cut
import Derived.Test.YtlfdcnojbbigbaaG9
namespace Go.Proofs.Ytlfdcnojbbigbaa
open Go.RowKit Go.Maps
set_option linter.unusedVariables false
set_option linter.unusedSimpArgs false
set_option maxRecDepth 100000

/-- A region's cells. -/
structure RC where
  id : Nat
  s : Option Addr × Nat × Nat
  e : Option Addr × Nat × Nat
  cf : Nat
  vr : Nat
  p : Option Addr × Nat × Nat
def mgA (id : Nat) (s t : RC) (st : Int) : Array Value := #[.int .u64 (id : Int), .int .u64 (s.id : Int), .slice s.s.1 s.s.2.1 s.s.2.2, .slice s.e.1 s.e.2.1 s.e.2.2, .int .u64 (s.cf : Int), .int .u64 (s.vr : Int), .slice s.p.1 s.p.2.1 s.p.2.2, .int .u64 (t.id : Int), .slice t.s.1 t.s.2.1 t.s.2.2, .slice t.e.1 t.e.2.1 t.e.2.2, .int .u64 (t.cf : Int), .int .u64 (t.vr : Int), .slice t.p.1 t.p.2.1 t.p.2.2, .int .i64 st]
theorem set14_block {W : World} {b : Nat} {ty : TypeId} {z0 z1 z2 z3 z4 z5 z6 z7 z8 z9 z10 z11 z12 z13 : Value} (h : W.heap[b]? = some (.cells #[z0, z1, z2, z3, z4, z5, z6, z7, z8, z9, z10, z11, z12, z13] ty (0, 0))) (u0 u1 u2 u3 u4 u5 u6 u7 u8 u9 u10 u11 u12 u13 : Value) : ((((((((((((((W.setCell ⟨b, 0, none⟩ u0).setCell ⟨b, 1, none⟩ u1).setCell ⟨b, 2, none⟩ u2).setCell ⟨b, 3, none⟩ u3).setCell ⟨b, 4, none⟩ u4).setCell ⟨b, 5, none⟩ u5).setCell ⟨b, 6, none⟩ u6).setCell ⟨b, 7, none⟩ u7).setCell ⟨b, 8, none⟩ u8).setCell ⟨b, 9, none⟩ u9).setCell ⟨b, 10, none⟩ u10).setCell ⟨b, 11, none⟩ u11).setCell ⟨b, 12, none⟩ u12).setCell ⟨b, 13, none⟩ u13).heap[b]? = some (.cells #[u0, u1, u2, u3, u4, u5, u6, u7, u8, u9, u10, u11, u12, u13] ty (0, 0)) := by
  have h0 : (W.setCell ⟨b, 0, none⟩ u0).heap[b]? = some (.cells #[u0, z1, z2, z3, z4, z5, z6, z7, z8, z9, z10, z11, z12, z13] ty (0, 0)) := heap_setCell_same _ b 0 _ _ u0 h
  have h1 : ((W.setCell ⟨b, 0, none⟩ u0).setCell ⟨b, 1, none⟩ u1).heap[b]? = some (.cells #[u0, u1, z2, z3, z4, z5, z6, z7, z8, z9, z10, z11, z12, z13] ty (0, 0)) := heap_setCell_same _ b 1 _ _ u1 h0
  have h2 : (((W.setCell ⟨b, 0, none⟩ u0).setCell ⟨b, 1, none⟩ u1).setCell ⟨b, 2, none⟩ u2).heap[b]? = some (.cells #[u0, u1, u2, z3, z4, z5, z6, z7, z8, z9, z10, z11, z12, z13] ty (0, 0)) := heap_setCell_same _ b 2 _ _ u2 h1
  have h3 : ((((W.setCell ⟨b, 0, none⟩ u0).setCell ⟨b, 1, none⟩ u1).setCell ⟨b, 2, none⟩ u2).setCell ⟨b, 3, none⟩ u3).heap[b]? = some (.cells #[u0, u1, u2, u3, z4, z5, z6, z7, z8, z9, z10, z11, z12, z13] ty (0, 0)) := heap_setCell_same _ b 3 _ _ u3 h2
  have h4 : (((((W.setCell ⟨b, 0, none⟩ u0).setCell ⟨b, 1, none⟩ u1).setCell ⟨b, 2, none⟩ u2).setCell ⟨b, 3, none⟩ u3).setCell ⟨b, 4, none⟩ u4).heap[b]? = some (.cells #[u0, u1, u2, u3, u4, z5, z6, z7, z8, z9, z10, z11, z12, z13] ty (0, 0)) := heap_setCell_same _ b 4 _ _ u4 h3
  have h5 : ((((((W.setCell ⟨b, 0, none⟩ u0).setCell ⟨b, 1, none⟩ u1).setCell ⟨b, 2, none⟩ u2).setCell ⟨b, 3, none⟩ u3).setCell ⟨b, 4, none⟩ u4).setCell ⟨b, 5, none⟩ u5).heap[b]? = some (.cells #[u0, u1, u2, u3, u4, u5, z6, z7, z8, z9, z10, z11, z12, z13] ty (0, 0)) := heap_setCell_same _ b 5 _ _ u5 h4
  have h6 : (((((((W.setCell ⟨b, 0, none⟩ u0).setCell ⟨b, 1, none⟩ u1).setCell ⟨b, 2, none⟩ u2).setCell ⟨b, 3, none⟩ u3).setCell ⟨b, 4, none⟩ u4).setCell ⟨b, 5, none⟩ u5).setCell ⟨b, 6, none⟩ u6).heap[b]? = some (.cells #[u0, u1, u2, u3, u4, u5, u6, z7, z8, z9, z10, z11, z12, z13] ty (0, 0)) := heap_setCell_same _ b 6 _ _ u6 h5
  have h7 : ((((((((W.setCell ⟨b, 0, none⟩ u0).setCell ⟨b, 1, none⟩ u1).setCell ⟨b, 2, none⟩ u2).setCell ⟨b, 3, none⟩ u3).setCell ⟨b, 4, none⟩ u4).setCell ⟨b, 5, none⟩ u5).setCell ⟨b, 6, none⟩ u6).setCell ⟨b, 7, none⟩ u7).heap[b]? = some (.cells #[u0, u1, u2, u3, u4, u5, u6, u7, z8, z9, z10, z11, z12, z13] ty (0, 0)) := heap_setCell_same _ b 7 _ _ u7 h6
  have h8 : (((((((((W.setCell ⟨b, 0, none⟩ u0).setCell ⟨b, 1, none⟩ u1).setCell ⟨b, 2, none⟩ u2).setCell ⟨b, 3, none⟩ u3).setCell ⟨b, 4, none⟩ u4).setCell ⟨b, 5, none⟩ u5).setCell ⟨b, 6, none⟩ u6).setCell ⟨b, 7, none⟩ u7).setCell ⟨b, 8, none⟩ u8).heap[b]? = some (.cells #[u0, u1, u2, u3, u4, u5, u6, u7, u8, z9, z10, z11, z12, z13] ty (0, 0)) := heap_setCell_same _ b 8 _ _ u8 h7
  have h9 : ((((((((((W.setCell ⟨b, 0, none⟩ u0).setCell ⟨b, 1, none⟩ u1).setCell ⟨b, 2, none⟩ u2).setCell ⟨b, 3, none⟩ u3).setCell ⟨b, 4, none⟩ u4).setCell ⟨b, 5, none⟩ u5).setCell ⟨b, 6, none⟩ u6).setCell ⟨b, 7, none⟩ u7).setCell ⟨b, 8, none⟩ u8).setCell ⟨b, 9, none⟩ u9).heap[b]? = some (.cells #[u0, u1, u2, u3, u4, u5, u6, u7, u8, u9, z10, z11, z12, z13] ty (0, 0)) := heap_setCell_same _ b 9 _ _ u9 h8
  have h10 : (((((((((((W.setCell ⟨b, 0, none⟩ u0).setCell ⟨b, 1, none⟩ u1).setCell ⟨b, 2, none⟩ u2).setCell ⟨b, 3, none⟩ u3).setCell ⟨b, 4, none⟩ u4).setCell ⟨b, 5, none⟩ u5).setCell ⟨b, 6, none⟩ u6).setCell ⟨b, 7, none⟩ u7).setCell ⟨b, 8, none⟩ u8).setCell ⟨b, 9, none⟩ u9).setCell ⟨b, 10, none⟩ u10).heap[b]? = some (.cells #[u0, u1, u2, u3, u4, u5, u6, u7, u8, u9, u10, z11, z12, z13] ty (0, 0)) := heap_setCell_same _ b 10 _ _ u10 h9
  have h11 : ((((((((((((W.setCell ⟨b, 0, none⟩ u0).setCell ⟨b, 1, none⟩ u1).setCell ⟨b, 2, none⟩ u2).setCell ⟨b, 3, none⟩ u3).setCell ⟨b, 4, none⟩ u4).setCell ⟨b, 5, none⟩ u5).setCell ⟨b, 6, none⟩ u6).setCell ⟨b, 7, none⟩ u7).setCell ⟨b, 8, none⟩ u8).setCell ⟨b, 9, none⟩ u9).setCell ⟨b, 10, none⟩ u10).setCell ⟨b, 11, none⟩ u11).heap[b]? = some (.cells #[u0, u1, u2, u3, u4, u5, u6, u7, u8, u9, u10, u11, z12, z13] ty (0, 0)) := heap_setCell_same _ b 11 _ _ u11 h10
  have h12 : (((((((((((((W.setCell ⟨b, 0, none⟩ u0).setCell ⟨b, 1, none⟩ u1).setCell ⟨b, 2, none⟩ u2).setCell ⟨b, 3, none⟩ u3).setCell ⟨b, 4, none⟩ u4).setCell ⟨b, 5, none⟩ u5).setCell ⟨b, 6, none⟩ u6).setCell ⟨b, 7, none⟩ u7).setCell ⟨b, 8, none⟩ u8).setCell ⟨b, 9, none⟩ u9).setCell ⟨b, 10, none⟩ u10).setCell ⟨b, 11, none⟩ u11).setCell ⟨b, 12, none⟩ u12).heap[b]? = some (.cells #[u0, u1, u2, u3, u4, u5, u6, u7, u8, u9, u10, u11, u12, z13] ty (0, 0)) := heap_setCell_same _ b 12 _ _ u12 h11
  have h13 : ((((((((((((((W.setCell ⟨b, 0, none⟩ u0).setCell ⟨b, 1, none⟩ u1).setCell ⟨b, 2, none⟩ u2).setCell ⟨b, 3, none⟩ u3).setCell ⟨b, 4, none⟩ u4).setCell ⟨b, 5, none⟩ u5).setCell ⟨b, 6, none⟩ u6).setCell ⟨b, 7, none⟩ u7).setCell ⟨b, 8, none⟩ u8).setCell ⟨b, 9, none⟩ u9).setCell ⟨b, 10, none⟩ u10).setCell ⟨b, 11, none⟩ u11).setCell ⟨b, 12, none⟩ u12).setCell ⟨b, 13, none⟩ u13).heap[b]? = some (.cells #[u0, u1, u2, u3, u4, u5, u6, u7, u8, u9, u10, u11, u12, u13] ty (0, 0)) := heap_setCell_same _ b 13 _ _ u13 h12
  exact h13
theorem set14_chg (W : World) (b : Nat) (u0 u1 u2 u3 u4 u5 u6 u7 u8 u9 u10 u11 u12 u13 : Value) : Chg (fun x => x = b) W ((((((((((((((W.setCell ⟨b, 0, none⟩ u0).setCell ⟨b, 1, none⟩ u1).setCell ⟨b, 2, none⟩ u2).setCell ⟨b, 3, none⟩ u3).setCell ⟨b, 4, none⟩ u4).setCell ⟨b, 5, none⟩ u5).setCell ⟨b, 6, none⟩ u6).setCell ⟨b, 7, none⟩ u7).setCell ⟨b, 8, none⟩ u8).setCell ⟨b, 9, none⟩ u9).setCell ⟨b, 10, none⟩ u10).setCell ⟨b, 11, none⟩ u11).setCell ⟨b, 12, none⟩ u12).setCell ⟨b, 13, none⟩ u13) := by
  have h := Chg.refl (fun x => x = b) W
  have h := h.put b 0 u0 rfl
  have h := h.put b 1 u1 rfl
  have h := h.put b 2 u2 rfl
  have h := h.put b 3 u3 rfl
  have h := h.put b 4 u4 rfl
  have h := h.put b 5 u5 rfl
  have h := h.put b 6 u6 rfl
  have h := h.put b 7 u7 rfl
  have h := h.put b 8 u8 rfl
  have h := h.put b 9 u9 rfl
  have h := h.put b 10 u10 rfl
  have h := h.put b 11 u11 rfl
  have h := h.put b 12 u12 rfl
  have h := h.put b 13 u13 rfl
  exact h
theorem cells14 {W : World} {b : Nat} {ty : TypeId} {u0 u1 u2 u3 u4 u5 u6 u7 u8 u9 u10 u11 u12 u13 : Value} (h : W.heap[b]? = some (.cells #[u0, u1, u2, u3, u4, u5, u6, u7, u8, u9, u10, u11, u12, u13] ty (0, 0))) : W.cell? ⟨b, 0, none⟩ = some u0 ∧ W.cell? ⟨b, 1, none⟩ = some u1 ∧ W.cell? ⟨b, 2, none⟩ = some u2 ∧ W.cell? ⟨b, 3, none⟩ = some u3 ∧ W.cell? ⟨b, 4, none⟩ = some u4 ∧ W.cell? ⟨b, 5, none⟩ = some u5 ∧ W.cell? ⟨b, 6, none⟩ = some u6 ∧ W.cell? ⟨b, 7, none⟩ = some u7 ∧ W.cell? ⟨b, 8, none⟩ = some u8 ∧ W.cell? ⟨b, 9, none⟩ = some u9 ∧ W.cell? ⟨b, 10, none⟩ = some u10 ∧ W.cell? ⟨b, 11, none⟩ = some u11 ∧ W.cell? ⟨b, 12, none⟩ = some u12 ∧ W.cell? ⟨b, 13, none⟩ = some u13 ∧ ∀ i, W.frozen? ⟨b, i, none⟩ = false :=
  ⟨by rw [cell_of_row _ _ _ _ _ _ h]; rfl, by rw [cell_of_row _ _ _ _ _ _ h]; rfl, by rw [cell_of_row _ _ _ _ _ _ h]; rfl, by rw [cell_of_row _ _ _ _ _ _ h]; rfl, by rw [cell_of_row _ _ _ _ _ _ h]; rfl, by rw [cell_of_row _ _ _ _ _ _ h]; rfl, by rw [cell_of_row _ _ _ _ _ _ h]; rfl, by rw [cell_of_row _ _ _ _ _ _ h]; rfl, by rw [cell_of_row _ _ _ _ _ _ h]; rfl, by rw [cell_of_row _ _ _ _ _ _ h]; rfl, by rw [cell_of_row _ _ _ _ _ _ h]; rfl, by rw [cell_of_row _ _ _ _ _ _ h]; rfl, by rw [cell_of_row _ _ _ _ _ _ h]; rfl, by rw [cell_of_row _ _ _ _ _ _ h]; rfl, fun i => frozen_of_row _ _ _ _ _ h⟩
section
variable {n k cc p id : Nat} {g : Nat → Bool} {f : Nat → Option Value} {w w' : World} {d : DC} {s t : RC}
set_option maxHeartbeats 2000000 in
theorem decide_any (c : PC) (hcn : c.n < 18446744073709551616) (hd : Drv p d w) (hm : Mm d.mm n f w) (hg : Gs d.gm k g cc w) (hne : d.mm ≠ d.gm) (hf : f c.n = some (.agg (mgA id s t 1))) (hs : s.id < 18446744073709551616) (ht : t.id < 18446744073709551616) (hn : n < 1048576) :
    Calls Try.prog 33 #[.pointer (some ⟨p, 0, none⟩), .agg (pcA c)] w fun e w' => e = .returned (prA 0 0 (if c.cm then 2 else 3)) ∧ Mm d.mm (n + 1) (mPut f c.n (.agg (mgA id s t (if c.cm then 2 else 3)))) w' ∧ (∃ c', Gs d.gm k (gDel (gDel g s.id) t.id) c' w' ∧ (g s.id = true → g t.id = true → s.id ≠ t.id → c' = cc - 2)) ∧ Chg (fun b => b = d.mm ∨ b = d.gm) w w' := by
  obtain ⟨st, hst⟩ : ∃ st : Int, st = if c.cm then 2 else 3 := ⟨_, rfl⟩
  rw [← hst]
  have ho : ∀ W, Calls Try.prog 51 #[.bool c.cm] W fun e w' => e = .returned (.int .i64 st) ∧ w' = W := fun W => by have := outcome_any c.cm W; rw [← hst] at this; exact this
  clear hst
  have hbx := Bxd.new c w
  have hB0 := (two_new w (.cells (pcA c) 40) (.cells #[.int .i64 0, .int .u64 0, .int .i64 0] 42)).2.2
  have hd0 := hd.belowN hB0 (Nat.le_refl _)
  have hm0 := hm.below hB0 (Nat.le_refl _)
  have hg0 := hg.below hB0 (Nat.le_refl _)
  have hml := hm.lt
  have hgl := hg.lt
  go_enter Try.func33, Try.ntmps33
  go_upto_region 1 with fail
  have hz0 : (World.alloc (World.alloc w (.cells (pcA c) 40)) (.cells #[.int .i64 0, .int .u64 0, .int .i64 0] 42)).heap.size = w.heap.size + 2 := by simp
  generalize World.alloc (World.alloc w _) _ = W0 at *
  have HLK : Hid (∀ W, Below W0.heap.size W0 W → W.cell? ⟨p, 7, none⟩ = some (.map (some d.mm)) ∧ W.cell? ⟨w.heap.size, 1, none⟩ = some (.int .u64 (c.n : Int)) ∧ (Instr.lookup 49 (.map (some d.mm)) (.int .u64 (c.n : Int)) true).run Try.prog W = .ok (.tuple #[.agg (mgA id s t 1), .bool true]) W) := fun W hW =>
    ⟨(hd0.belowN hW (Nat.le_refl _)).at_ rfl, (hbx.next (Chg.of_below hW) (by omega) (by omega)).at_ rfl, by have := (hm0.below hW (Nat.le_refl _)).look hcn; rw [hf] at this; exact this⟩
  have hS0 : Below W0.heap.size W0 W0.drew := (Below.refl _ _).drew
  refine wp_region_heldN (S := fun W => Below W0.heap.size W0 W) (L := []) (by kernel_rfl) ?_
  refine wpAnyN_take (i := 0) (v := .pointer (some ⟨p, 0, none⟩)) rfl (by kernel_rfl) (by kernel_rfl) (by kernel_rfl) (by kernel_rfl) (fun _ _ _ h => h) (.inl ⟨by kernel_rfl, fun W hW => by kernel_rfl⟩) hS0 ?_
  refine wpAnyN_take (i := 1) (v := .pointer (some ⟨p, 0, none⟩)) rfl (by kernel_rfl) (by kernel_rfl) (by kernel_rfl) (by kernel_rfl) (fun _ _ _ h => h) (.inl ⟨by kernel_rfl, fun W hW => by kernel_rfl⟩) hS0 ?_
  refine wpAnyN_take (i := 2) (v := .pointer (some ⟨p, 7, none⟩)) rfl (by kernel_rfl) (by kernel_rfl) (by kernel_rfl) (by kernel_rfl) (fun _ _ _ h => h) (.inl ⟨by kernel_rfl, fun W hW => by kernel_rfl⟩) hS0 ?_
  refine wpAnyN_take (i := 3) (v := .map (some d.mm)) rfl (by kernel_rfl) (by kernel_rfl) (by kernel_rfl) (by kernel_rfl) (fun _ _ _ h => h) (.inl ⟨by kernel_rfl, fun W hW => by obtain ⟨m0, m1, m2⟩ := HLK.out W hW; go_simp⟩) hS0 ?_
  refine wpAnyN_take (i := 4) (v := .pointer (some ⟨w.heap.size, 1, none⟩)) rfl (by kernel_rfl) (by kernel_rfl) (by kernel_rfl) (by kernel_rfl) (fun _ _ _ h => h) (.inl ⟨by kernel_rfl, fun W hW => by kernel_rfl⟩) hS0 ?_
  refine wpAnyN_take (i := 5) (v := .int .u64 (c.n : Int)) rfl (by kernel_rfl) (by kernel_rfl) (by kernel_rfl) (by kernel_rfl) (fun _ _ _ h => h) (.inl ⟨by kernel_rfl, fun W hW => by obtain ⟨m0, m1, m2⟩ := HLK.out W hW; go_simp⟩) hS0 ?_
  refine wpAnyN_take (i := 6) (v := .tuple #[.agg (mgA id s t 1), .bool true]) rfl (by kernel_rfl) (by kernel_rfl) (by kernel_rfl) (by kernel_rfl) (fun _ _ _ h => h) (.inl ⟨by kernel_rfl, fun W hW => by obtain ⟨m0, m1, m2⟩ := HLK.out W hW; go_simp⟩) hS0 ?_
  refine wpAnyN_take (i := 7) (v := .tuple #[.agg (mgA id s t 1), .bool true]) rfl (by kernel_rfl) (by kernel_rfl) (by kernel_rfl) (by kernel_rfl) (fun _ _ _ h => h) (.inl ⟨by kernel_rfl, fun W hW => by kernel_rfl⟩) hS0 ?_
  refine wpAnyN_take (i := 8) (v := .agg (mgA id s t 1)) rfl (by kernel_rfl) (by kernel_rfl) (by kernel_rfl) (by kernel_rfl) (fun _ _ _ h => h) (.inl ⟨by kernel_rfl, fun W hW => by kernel_rfl⟩) hS0 ?_
  refine wpAnyN_take (i := 9) (v := .bool true) rfl (by kernel_rfl) (by kernel_rfl) (by kernel_rfl) (by kernel_rfl) (fun _ _ _ h => h) (.inl ⟨by kernel_rfl, fun W hW => by kernel_rfl⟩) hS0 ?_
  refine wpAnyN_one (i := 10) (by kernel_rfl) rfl (fun K hK => ?_)
  rw [if_pos (by kernel_rfl)]
  go_simp
  have hB1 : Below W0.heap.size W0 (W0.alloc (.cells #[.int .u64 0, .int .u64 0, .slice none 0 0, .slice none 0 0, .int .u64 0, .int .u64 0, .slice none 0 0, .int .u64 0, .slice none 0 0, .slice none 0 0, .int .u64 0, .int .u64 0, .slice none 0 0, .int .i64 0] 64)).drew := ((Below.refl _ _).alloc (Nat.le_refl _) _).drew
  have hq1 : (W0.alloc (.cells #[.int .u64 0, .int .u64 0, .slice none 0 0, .slice none 0 0, .int .u64 0, .int .u64 0, .slice none 0 0, .int .u64 0, .slice none 0 0, .slice none 0 0, .int .u64 0, .int .u64 0, .slice none 0 0, .int .i64 0] 64)).drew.heap[w.heap.size + 2]? = some (.cells #[.int .u64 0, .int .u64 0, .slice none 0 0, .slice none 0 0, .int .u64 0, .int .u64 0, .slice none 0 0, .int .u64 0, .slice none 0 0, .slice none 0 0, .int .u64 0, .int .u64 0, .slice none 0 0, .int .i64 0] 64 (0, 0)) := by rw [← hz0]; exact heap_new W0 _
  refine hK _ _ (fun _ => hB1) ?_
  clear hK K
  generalize (W0.alloc (.cells #[.int .u64 0, .int .u64 0, .slice none 0 0, .slice none 0 0, .int .u64 0, .int .u64 0, .slice none 0 0, .int .u64 0, .slice none 0 0, .slice none 0 0, .int .u64 0, .int .u64 0, .slice none 0 0, .int .i64 0] 64)).drew = W1 at *
  obtain ⟨y0, y1, y2, y3, y4, y5, y6, y7, y8, y9, y10, y11, y12, y13, yy⟩ := cells14 hq1
  have yy0 := yy 0
  have yy1 := yy 1
  have yy2 := yy 2
  have yy3 := yy 3
  have yy4 := yy 4
  have yy5 := yy 5
  have yy6 := yy 6
  have yy7 := yy 7
  have yy8 := yy 8
  have yy9 := yy 9
  have yy10 := yy 10
  have yy11 := yy 11
  have yy12 := yy 12
  have yy13 := yy 13
  have hq2 : ((((((((((((((W1.setCell ⟨w.heap.size + 2, 0, none⟩ (.int .u64 (id : Int))).setCell ⟨w.heap.size + 2, 1, none⟩ (.int .u64 (s.id : Int))).setCell ⟨w.heap.size + 2, 2, none⟩ (.slice s.s.1 s.s.2.1 s.s.2.2)).setCell ⟨w.heap.size + 2, 3, none⟩ (.slice s.e.1 s.e.2.1 s.e.2.2)).setCell ⟨w.heap.size + 2, 4, none⟩ (.int .u64 (s.cf : Int))).setCell ⟨w.heap.size + 2, 5, none⟩ (.int .u64 (s.vr : Int))).setCell ⟨w.heap.size + 2, 6, none⟩ (.slice s.p.1 s.p.2.1 s.p.2.2)).setCell ⟨w.heap.size + 2, 7, none⟩ (.int .u64 (t.id : Int))).setCell ⟨w.heap.size + 2, 8, none⟩ (.slice t.s.1 t.s.2.1 t.s.2.2)).setCell ⟨w.heap.size + 2, 9, none⟩ (.slice t.e.1 t.e.2.1 t.e.2.2)).setCell ⟨w.heap.size + 2, 10, none⟩ (.int .u64 (t.cf : Int))).setCell ⟨w.heap.size + 2, 11, none⟩ (.int .u64 (t.vr : Int))).setCell ⟨w.heap.size + 2, 12, none⟩ (.slice t.p.1 t.p.2.1 t.p.2.2)).setCell ⟨w.heap.size + 2, 13, none⟩ (.int .i64 1)).heap[w.heap.size + 2]? = some (.cells (mgA id s t 1) 64 (0, 0)) := set14_block hq1 (.int .u64 (id : Int)) (.int .u64 (s.id : Int)) (.slice s.s.1 s.s.2.1 s.s.2.2) (.slice s.e.1 s.e.2.1 s.e.2.2) (.int .u64 (s.cf : Int)) (.int .u64 (s.vr : Int)) (.slice s.p.1 s.p.2.1 s.p.2.2) (.int .u64 (t.id : Int)) (.slice t.s.1 t.s.2.1 t.s.2.2) (.slice t.e.1 t.e.2.1 t.e.2.2) (.int .u64 (t.cf : Int)) (.int .u64 (t.vr : Int)) (.slice t.p.1 t.p.2.1 t.p.2.2) (.int .i64 1)
  have hB2 : Below W0.heap.size W0 ((((((((((((((W1.setCell ⟨w.heap.size + 2, 0, none⟩ (.int .u64 (id : Int))).setCell ⟨w.heap.size + 2, 1, none⟩ (.int .u64 (s.id : Int))).setCell ⟨w.heap.size + 2, 2, none⟩ (.slice s.s.1 s.s.2.1 s.s.2.2)).setCell ⟨w.heap.size + 2, 3, none⟩ (.slice s.e.1 s.e.2.1 s.e.2.2)).setCell ⟨w.heap.size + 2, 4, none⟩ (.int .u64 (s.cf : Int))).setCell ⟨w.heap.size + 2, 5, none⟩ (.int .u64 (s.vr : Int))).setCell ⟨w.heap.size + 2, 6, none⟩ (.slice s.p.1 s.p.2.1 s.p.2.2)).setCell ⟨w.heap.size + 2, 7, none⟩ (.int .u64 (t.id : Int))).setCell ⟨w.heap.size + 2, 8, none⟩ (.slice t.s.1 t.s.2.1 t.s.2.2)).setCell ⟨w.heap.size + 2, 9, none⟩ (.slice t.e.1 t.e.2.1 t.e.2.2)).setCell ⟨w.heap.size + 2, 10, none⟩ (.int .u64 (t.cf : Int))).setCell ⟨w.heap.size + 2, 11, none⟩ (.int .u64 (t.vr : Int))).setCell ⟨w.heap.size + 2, 12, none⟩ (.slice t.p.1 t.p.2.1 t.p.2.2)).setCell ⟨w.heap.size + 2, 13, none⟩ (.int .i64 1)) := hB1.trans ((set14_chg W1 (w.heap.size + 2) (.int .u64 (id : Int)) (.int .u64 (s.id : Int)) (.slice s.s.1 s.s.2.1 s.s.2.2) (.slice s.e.1 s.e.2.1 s.e.2.2) (.int .u64 (s.cf : Int)) (.int .u64 (s.vr : Int)) (.slice s.p.1 s.p.2.1 s.p.2.2) (.int .u64 (t.id : Int)) (.slice t.s.1 t.s.2.1 t.s.2.2) (.slice t.e.1 t.e.2.1 t.e.2.2) (.int .u64 (t.cf : Int)) (.int .u64 (t.vr : Int)) (.slice t.p.1 t.p.2.1 t.p.2.2) (.int .i64 1)).below (fun b q => by omega) hB1.size)
  refine wpAnyN_one (i := 11) (by kernel_rfl) rfl (fun K hK => ?_)
  rw [if_pos (by kernel_rfl)]
  simp only [mgA]
  go_simp
  refine hK _ _ (fun _ => hB2) ?_
  clear hK K y0 y1 y2 y3 y4 y5 y6 y7 y8 y9 y10 y11 y12 y13 yy0 yy1 yy2 yy3 yy4 yy5 yy6 yy7 yy8 yy9 yy10 yy11 yy12 yy13 yy hq1
  generalize ((((((((((((((W1.setCell ⟨w.heap.size + 2, 0, none⟩ (.int .u64 (id : Int))).setCell ⟨w.heap.size + 2, 1, none⟩ (.int .u64 (s.id : Int))).setCell ⟨w.heap.size + 2, 2, none⟩ (.slice s.s.1 s.s.2.1 s.s.2.2)).setCell ⟨w.heap.size + 2, 3, none⟩ (.slice s.e.1 s.e.2.1 s.e.2.2)).setCell ⟨w.heap.size + 2, 4, none⟩ (.int .u64 (s.cf : Int))).setCell ⟨w.heap.size + 2, 5, none⟩ (.int .u64 (s.vr : Int))).setCell ⟨w.heap.size + 2, 6, none⟩ (.slice s.p.1 s.p.2.1 s.p.2.2)).setCell ⟨w.heap.size + 2, 7, none⟩ (.int .u64 (t.id : Int))).setCell ⟨w.heap.size + 2, 8, none⟩ (.slice t.s.1 t.s.2.1 t.s.2.2)).setCell ⟨w.heap.size + 2, 9, none⟩ (.slice t.e.1 t.e.2.1 t.e.2.2)).setCell ⟨w.heap.size + 2, 10, none⟩ (.int .u64 (t.cf : Int))).setCell ⟨w.heap.size + 2, 11, none⟩ (.int .u64 (t.vr : Int))).setCell ⟨w.heap.size + 2, 12, none⟩ (.slice t.p.1 t.p.2.1 t.p.2.2)).setCell ⟨w.heap.size + 2, 13, none⟩ (.int .i64 1)) = W2 at *
  refine wpAnyN_one (i := 12) (by kernel_rfl) rfl (fun K hK => ?_)
  rw [if_pos (by kernel_rfl)]
  go_simp
  refine hK _ _ (fun _ => hB2) ?_
  clear hK K
  refine ⟨by kernel_rfl, ?_⟩
  go_simp
  have hpl := hd.lt
  have hd2 := hd0.belowN hB2 (Nat.le_refl _)
  have hm2 := hm0.below hB2 (Nat.le_refl _)
  have hg2 := hg0.below hB2 (Nat.le_refl _)
  have hbx2 := hbx.next (Chg.of_below hB2) (by omega) (by omega)
  have hs2 := hB2.size
  have ch3 : Chg (fun b => b = w.heap.size + 2) W2 (W2.setCell ⟨w.heap.size + 2, 13, none⟩ (.int .i64 st)) := chg_p _ 13 _ W2
  have hq3 : (W2.setCell ⟨w.heap.size + 2, 13, none⟩ (.int .i64 st)).heap[w.heap.size + 2]? = some (.cells (mgA id s t st) 64 (0, 0)) := heap_setCell_same _ _ 13 _ _ _ hq2
  have hd3 := hd2.next ch3 (by omega)
  have hm3 := hm2.next ch3 (by omega)
  have hg3 := hg2.next ch3 (by omega)
  have hbx3 := hbx2.next ch3 (by omega) (by omega)
  have hB3 : Below W0.heap.size W0 (W2.setCell ⟨w.heap.size + 2, 13, none⟩ (.int .i64 st)) := hB2.trans (ch3.below (fun b q => by omega) hB2.size)
  have hs3 := hB3.size
  have c17 : W2.cell? ⟨w.heap.size, 17, none⟩ = some (.bool c.cm) := hbx2.at_ rfl
  obtain ⟨x0, x1, x2, x3, x4, x5, x6, x7, x8, x9, x10, x11, x12, x13, xx⟩ := cells14 hq2
  have xx13 := xx 13
  have HW3 : Hid _ := And.intro hq3 (And.intro hd3 (And.intro hm3 (And.intro hg3 (And.intro hbx3 hB3))))
  clear hq3 hd3 hm3 hg3 hbx3 hB3 ch3 xx x0 x1 x2 x3 x4 x5 x6 x7 x8 x9 x10 x11 x12
  go_wp2_with fail
  refine (ho _).mono ?_
  rintro e w3 ⟨rfl, rfl⟩
  go_upto_region 6 with fail
  clear c17 x13 xx13 hd2 hm2 hg2 hbx2 hq2 hs2 hd0 hm0 hg0 hbx hB2 ho HLK hS0
  obtain ⟨hq3, hd3, hm3, hg3, hbx3, hB3⟩ := HW3.out
  clear HW3
  generalize (w3.setCell ⟨w.heap.size + 2, 13, none⟩ (.int .i64 st)) = W3 at *
  have p7 : W3.cell? ⟨p, 7, none⟩ = some (.map (some d.mm)) := hd3.at_ rfl
  have b1 : W3.cell? ⟨w.heap.size, 1, none⟩ = some (.int .u64 (c.n : Int)) := hbx3.at_ rfl
  obtain ⟨x0, x1, x2, x3, x4, x5, x6, x7, x8, x9, x10, x11, x12, x13, xx⟩ := cells14 hq3
  obtain ⟨W4, hrun4, hm4, ch4⟩ := (hm3.next (chg_dN (fun _ => False) W3 1) (fun q => q)).put hcn (mgA id s t st) hn
  have ch4' : Chg (fun b => b = d.mm) W3 W4 := (chg_dN (fun b => b = d.mm) W3 1).trans (ch4.mono (fun b _ q => .inl q))
  have hrun4' : (Instr.mapUpdate 49 (.map (some d.mm)) (.int .u64 (c.n : Int)) (.agg #[.int .u64 (id : Int), .int .u64 (s.id : Int), .slice s.s.1 s.s.2.1 s.s.2.2, .slice s.e.1 s.e.2.1 s.e.2.2, .int .u64 (s.cf : Int), .int .u64 (s.vr : Int), .slice s.p.1 s.p.2.1 s.p.2.2, .int .u64 (t.id : Int), .slice t.s.1 t.s.2.1 t.s.2.2, .slice t.e.1 t.e.2.1 t.e.2.2, .int .u64 (t.cf : Int), .int .u64 (t.vr : Int), .slice t.p.1 t.p.2.1 t.p.2.2, .int .i64 st])).run Try.prog W3.drew = .ok () W4 := hrun4
  have hd4 := hd3.next ch4' (by have := hm3.nem hd3; omega)
  have hg4 := hg3.next ch4' (by omega)
  have hbx4 := hbx3.next ch4' (by omega) (by omega)
  have hq4 := (ch4'.block (w.heap.size + 2) (by have := (Array.getElem?_eq_some_iff.1 hq3).1; omega) (by omega)).trans hq3
  have H4 : Hid _ := And.intro hd4 (And.intro hg4 (And.intro hbx4 (And.intro hq4 (And.intro hm4 ch4'))))
  clear hrun4 ch4 ch4' hd4 hg4 hbx4 hq4 hm4 hq3 hd3 hm3 hg3 hbx3 xx
  go_region
  clear hrun4' p7 b1 x0 x1 x2 x3 x4 x5 x6 x7 x8 x9 x10 x11 x12 x13
  obtain ⟨hd4, hg4, hbx4, hq4, hm4, ch4⟩ := H4.out
  clear H4
  have p8 : W4.cell? ⟨p, 8, none⟩ = some (.map (some d.gm)) := hd4.at_ rfl
  obtain ⟨x0, x1, x2, x3, x4, x5, x6, x7, x8, x9, x10, x11, x12, x13, xx⟩ := cells14 hq4
  obtain ⟨W5, hrun5, hg5, ch5⟩ := (hg4.next (chg_dN (fun _ => False) W4 1) (fun q => q)).drop hs 0
  have ch5' : Chg (fun b => b = d.gm) W4 W5 := (chg_dN (fun b => b = d.gm) W4 1).trans (ch5.mono (fun b _ q => .inl q))
  have hrun5' : (Builtin.delete_ #[50, 22] 0 #[.map (some d.gm), .int .u64 (s.id : Int)]).run Try.prog W4.drew = .ok (.tuple #[]) W5 := hrun5
  have hd5 := hd4.next ch5' (by have := hg4.nem hd4; omega)
  have hm5 := hm4.next ch5' (by omega)
  have hbx5 := hbx4.next ch5' (by omega) (by omega)
  have hq5 := (ch5'.block (w.heap.size + 2) (by have := (Array.getElem?_eq_some_iff.1 hq4).1; omega) (by omega)).trans hq4
  have H5 : Hid _ := And.intro hd5 (And.intro hg5 (And.intro hbx5 (And.intro hq5 (And.intro hm5 (And.intro ch4 ch5')))))
  clear hrun5 ch5 ch5' hd5 hm5 hbx5 hq5 hg5 ch4 hd4 hg4 hbx4 hq4 hm4 xx x0 x2 x3 x4 x5 x6 x7 x8 x9 x10 x11 x12 x13
  go_upto_region 7 with fail
  go_region
  clear hrun5' p8 x1
  obtain ⟨hd5, hg5, hbx5, hq5, hm5, ch4, ch5⟩ := H5.out
  clear H5
  have p8 : W5.cell? ⟨p, 8, none⟩ = some (.map (some d.gm)) := hd5.at_ rfl
  obtain ⟨x0, x1, x2, x3, x4, x5, x6, x7, x8, x9, x10, x11, x12, x13, xx⟩ := cells14 hq5
  obtain ⟨W6, hrun6, hg6, ch6⟩ := (hg5.next (chg_dN (fun _ => False) W5 1) (fun q => q)).drop ht 0
  have ch6' : Chg (fun b => b = d.gm) W5 W6 := (chg_dN (fun b => b = d.gm) W5 1).trans (ch6.mono (fun b _ q => .inl q))
  have hrun6' : (Builtin.delete_ #[50, 22] 0 #[.map (some d.gm), .int .u64 (t.id : Int)]).run Try.prog W5.drew = .ok (.tuple #[]) W6 := hrun6
  have hm6 := hm5.next ch6' (by omega)
  have hbx6 := hbx5.next ch6' (by omega) (by omega)
  have hq6 := (ch6'.block (w.heap.size + 2) (by have := (Array.getElem?_eq_some_iff.1 hq5).1; omega) (by omega)).trans hq5
  have h1 : Chg (fun b => b = d.mm ∨ b = d.gm) W0 W6 := ((((Chg.of_below hB3).mono (fun b q1 q2 => by omega)).trans (ch4.mono (fun b _ q => .inl (.inl q)))).trans (ch5.mono (fun b _ q => .inl (.inr q)))).trans (ch6'.mono (fun b _ q => .inl (.inr q)))
  have H6 : Hid _ := And.intro hg6 (And.intro hbx6 (And.intro hq6 (And.intro hm6 h1)))
  clear hrun6 ch6 ch6' hm6 hbx6 hq6 hg6 ch4 ch5 hd5 hg5 hbx5 hq5 hm5 xx x0 x1 x2 x3 x4 x5 x6 x8 x9 x10 x11 x12 x13 h1
  go_upto_region 8 with fail
  go_region
  clear hrun6' p8 x7
  obtain ⟨hg6, hbx6, hq6, hm6, h1⟩ := H6.out
  clear H6
  obtain ⟨x0, x1, x2, x3, x4, x5, x6, x7, x8, x9, x10, x11, x12, x13, xx⟩ := cells14 hq6
  clear hq6 xx x0 x1 x2 x3 x4 x5 x6 x7 x8 x9 x10 x11 x12
  obtain ⟨r0, r1, r2, f5, f6, f7⟩ := hbx6.rs
  go_wp2_with fail
  obtain ⟨⟨k0, k1, k2⟩, hc⟩ := pr_fin hbx6.res (.int .i64 0) (.int .u64 0) (.int .i64 st)
  have hfin := fin_chg hB0 h1 hc
  have hm7 := hm6.next hc (by show ¬ d.mm = _; omega)
  have hg7 := hg6.next hc (by show ¬ d.gm = _; omega)
  clear hc
  generalize World.setCell _ ⟨_, 2, none⟩ _ = wz at *
  refine bodyPost_ret (v := prA 0 0 st) (by simp [results, Try.results33, go_sem, k0, k1, k2]; try rfl) rfl ?_
  refine ⟨rfl, hm7, ⟨_, hg7, fun q1 q2 q3 => ?_⟩, hfin⟩
  have q4 : gDel g s.id t.id = true := by unfold gDel; rw [if_neg (fun q => q3 q.symm)]; exact q2
  rw [if_pos q4, if_pos q1]
  omega
end
end Go.Proofs.Ytlfdcnojbbigbaa
