/- Is a region named by an order ahead? -/
import Derived.Test.YtedfjacmaidhkaaGreatG23
import Derived.Test.YtedfjacmaidhkaaGreatG5
import Derived.Deep.CutRange
namespace Go.Proofs.YtedfjacmaidhkaaGreat
open Go.RowKit Go.Maps
set_option linter.unusedVariables false
set_option linter.unusedSimpArgs false
set_option maxRecDepth 100000

section
variable {x : Nat} {d : PL} {p : PD} {r : RV} {w : World}
set_option maxHeartbeats 1000000 in
theorem isNamed_any (h : Pln x d p w) : Calls Tryz.prog 20 #[.pointer (some ⟨x, 0, none⟩), .agg #[.int .u64 (r.id.toNat : Int), .slice r.sa r.s.length r.sc, .slice r.ea r.e.length r.ec, .int .u64 r.cf, .int .u64 r.vr, .slice r.pa r.ps.length r.pc, .int .i64 r.ld, .int .i64 r.sz, .bool r.bz]] w fun e w' => e = .returned (.bool (p.nm r.id.toNat)) ∧ Below w.heap.size w w' := by
  have hkb := heap_new w (.cells #[.int .u64 (r.id.toNat : Int), .slice r.sa r.s.length r.sc, .slice r.ea r.e.length r.ec, .int .u64 r.cf, .int .u64 r.vr, .slice r.pa r.ps.length r.pc, .int .i64 r.ld, .int .i64 r.sz, .bool r.bz] 42)
  have hb0 := ob_al w (.cells #[.int .u64 (r.id.toNat : Int), .slice r.sa r.s.length r.sc, .slice r.ea r.e.length r.ec, .int .u64 r.cf, .int .u64 r.vr, .slice r.pa r.ps.length r.pc, .int .i64 r.ld, .int .i64 r.sz, .bool r.bz] 42)
  have h0 := h.below hb0
  obtain ⟨n, hg⟩ := h0.nm
  generalize hres : p.nm r.id.toNat = res
  have HR : Hid (p.nm r.id.toNat = res) := hres
  clear h hres
  go_enter Tryz.func20, Tryz.ntmps20
  go_upto_region 1 with fail
  generalize World.alloc w _ = w0 at *
  have HN : Hid (∀ W, Below w0.heap.size w0 W → W.cell? ⟨w.heap.size, 0, none⟩ = some (.int .u64 (r.id.toNat : Int))) := fun W hW => (nine_at (r := r) (keep_blk hkb hW)).1
  have HX : Hid (∀ W, Below w0.heap.size w0 W → W.cell? ⟨x, 9, none⟩ = some (.map (some d.mn))) := fun W hW => (h0.below hW).at_ rfl
  have HL : Hid (∀ W, Below w0.heap.size w0 W → (Instr.lookup 69 (.map (some d.mn)) (.int .u64 (r.id.toNat : Int)) true).run Tryz.prog W = .ok (.tuple #[.agg #[], .bool res]) W) := fun W hW => by rw [← HR.out]; exact (hg.below hW (Nat.le_refl _)).look r.id.toNat_lt
  clear h0 hg hkb
  generalize d.mn = m at *
  refine wp_region_heldN (S := fun W => Below w0.heap.size w0 W) (L := []) (by kernel_rfl) ?_
  have hS0 : Below w0.heap.size w0 w0.drew := (Below.refl _ _).drew
  generalize w0.drew = wd at *
  refine wpAnyN_take (i := 0) (v := .pointer (some ⟨x, 0, none⟩)) rfl (by kernel_rfl) (by kernel_rfl) (by kernel_rfl) (by kernel_rfl) (fun _ _ _ h => h) (.inl ⟨by kernel_rfl, fun W hW => by kernel_rfl⟩) hS0 ?_
  refine wpAnyN_take (i := 1) (v := .pointer (some ⟨x, 0, none⟩)) rfl (by kernel_rfl) (by kernel_rfl) (by kernel_rfl) (by kernel_rfl) (fun _ _ _ h => h) (.inl ⟨by kernel_rfl, fun W hW => by kernel_rfl⟩) hS0 ?_
  refine wpAnyN_take (i := 2) (v := .pointer (some ⟨x, 9, none⟩)) rfl (by kernel_rfl) (by kernel_rfl) (by kernel_rfl) (by kernel_rfl) (fun _ _ _ h => h) (.inl ⟨by kernel_rfl, fun W hW => by kernel_rfl⟩) hS0 ?_
  refine wpAnyN_take (i := 3) (v := .map (some m)) rfl (by kernel_rfl) (by kernel_rfl) (by kernel_rfl) (by kernel_rfl) (fun _ _ _ h => h) (.inl ⟨by kernel_rfl, fun W hW => by have c := HX.out W hW; go_simp⟩) hS0 ?_
  refine wpAnyN_take (i := 4) (v := .pointer (some ⟨w.heap.size, 0, none⟩)) rfl (by kernel_rfl) (by kernel_rfl) (by kernel_rfl) (by kernel_rfl) (fun _ _ _ h => h) (.inl ⟨by kernel_rfl, fun W hW => by kernel_rfl⟩) hS0 ?_
  refine wpAnyN_take (i := 5) (v := .pointer (some ⟨w.heap.size, 0, none⟩)) rfl (by kernel_rfl) (by kernel_rfl) (by kernel_rfl) (by kernel_rfl) (fun _ _ _ h => h) (.inl ⟨by kernel_rfl, fun W hW => by kernel_rfl⟩) hS0 ?_
  refine wpAnyN_take (i := 6) (v := .int .u64 (r.id.toNat : Int)) rfl (by kernel_rfl) (by kernel_rfl) (by kernel_rfl) (by kernel_rfl) (fun _ _ _ h => h) (.inl ⟨by kernel_rfl, fun W hW => by have c := HN.out W hW; go_simp⟩) hS0 ?_
  refine wpAnyN_take (i := 7) (v := .tuple #[.agg #[], .bool res]) rfl (by kernel_rfl) (by kernel_rfl) (by kernel_rfl) (by kernel_rfl) (fun _ _ _ h => h) (.inl ⟨by kernel_rfl, fun W hW => by have c := HL.out W hW; go_simp⟩) hS0 ?_
  refine wpAnyN_take (i := 8) (v := .tuple #[.agg #[], .bool res]) rfl (by kernel_rfl) (by kernel_rfl) (by kernel_rfl) (by kernel_rfl) (fun _ _ _ h => h) (.inl ⟨by kernel_rfl, fun W hW => by kernel_rfl⟩) hS0 ?_
  refine wpAnyN_take (i := 9) (v := .agg #[]) rfl (by kernel_rfl) (by kernel_rfl) (by kernel_rfl) (by kernel_rfl) (fun _ _ _ h => h) (.inl ⟨by kernel_rfl, fun W hW => by kernel_rfl⟩) hS0 ?_
  refine wpAnyN_take (i := 10) (v := .bool res) rfl (by kernel_rfl) (by kernel_rfl) (by kernel_rfl) (by kernel_rfl) (fun _ _ _ h => h) (.inl ⟨by kernel_rfl, fun W hW => by kernel_rfl⟩) hS0 ?_
  refine wpAnyN_one (i := 11) (by kernel_rfl) rfl (fun K hK => ?_)
  rw [if_pos (by kernel_rfl)]
  go_simp
  have hal := ob_al wd (.cells #[] 90)
  have hS1 := hS0.trans (hal.mono hS0.size)
  refine hK _ _ (fun _ => hS1) ?_
  clear hK K
  refine wpAnyN_one (i := 12) (by kernel_rfl) rfl (fun K hK => ?_)
  rw [if_pos (by kernel_rfl)]
  go_simp
  refine hK _ _ (fun _ => hS1) ?_
  clear hK K
  refine wpAnyN_one (i := 13) (by kernel_rfl) rfl (fun K hK => ?_)
  rw [if_pos (by kernel_rfl)]
  go_simp
  refine hK _ _ (fun _ => hS1) ?_
  clear hK K
  refine ⟨by kernel_rfl, ?_⟩
  go_simp
  go_wp2_with fail
  go_ret
  exact ⟨rfl, hb0.trans (hS1.mono hb0.size)⟩
end
end Go.Proofs.YtedfjacmaidhkaaGreat
