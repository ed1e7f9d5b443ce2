/- open of what is free. -/
import Derived.Test.YtlfdcnojbbigbaaG31
namespace Go.Proofs.Ytlfdcnojbbigbaa
open Go.RowKit Go.Maps
set_option linter.unusedVariables false
set_option linter.unusedSimpArgs false
set_option maxRecDepth 100000
/-- A region's cells own what they read. -/
def OwC (B : Nat) (w : World) (r : RC) (s e : List UInt8) (ps : List Pe) : Prop := OwR B w (.slice r.s.1 r.s.2.1 r.s.2.2) (.slice r.e.1 r.e.2.1 r.e.2.2) (.slice r.p.1 r.p.2.1 r.p.2.2) s e ps
def rcR (c : PC) : RC := ⟨c.rid, c.rs, c.re, c.rcf, c.rvr, c.rp⟩
def rcO (c : PC) : RC := ⟨c.oid, c.os, c.oe, c.ocf, c.ovr, c.op⟩
section
variable {n k cc p id : Nat} {g : Nat → Bool} {f : Nat → Option Value} {w w' : World} {d : DC} {s t : RC} {sb se tb te : List UInt8} {sp tp : List Pe}
set_option maxHeartbeats 4000000 in
theorem open_ok (c : PC) (hcn : c.n < 18446744073709551616) (hc0 : c.n ≠ 0) (hd : Drv p d w) (hm : Mm d.mm n f w) (hg : Gs d.gm k g cc w) (hne : d.mm ≠ d.gm) (hM : Merges c w) {st : Int} (hf : (f c.n).getD zeroM = .agg (mgA id s t st)) (hr : c.rid < 18446744073709551616) (ho : c.oid < 18446744073709551616) (hkn : (f c.n).isSome = false) (hgr : g c.rid = false) (hgo : g c.oid = false) (hro : c.rid ≠ c.oid) (hcc : cc < 128) (hn : n < 1048576) (hk : k + 1 < 1048576) (hR : RdC w (rcR c) sb se sp) (hO : RdC w (rcO c) tb te tp) :
    Calls Try.prog 32 #[.pointer (some ⟨p, 0, none⟩), .agg (pcA c)] w fun e w' => e = .returned (prA 0 0 1) ∧ ∃ a b : RC, (a.id = c.rid ∧ a.cf = c.rcf ∧ a.vr = c.rvr) ∧ (b.id = c.oid ∧ b.cf = c.ocf ∧ b.vr = c.ovr) ∧ OwC w.heap.size w' a sb se sp ∧ OwC w.heap.size w' b tb te tp ∧ Mm d.mm (n + 1) (mPut f c.n (.agg (mgA c.n a b 1))) w' ∧ Gs d.gm (k + 2) (gPut (gPut g c.rid) c.oid) (cc + 2) w' ∧ Chg (fun x => x = d.mm ∨ x = d.gm) w w' := by
  have HRR : Hid (RdC w (rcR c) sb se sp ∧ RdC w (rcO c) tb te tp) := ⟨hR, hO⟩
  clear hR hO
  have h128 : ¬ (128 ≤ (cc : Int)) := by omega
  have hbx := Bxd.new c w
  have hB0 := (two_new w (.cells (pcA c) 40) (.cells #[.int .i64 0, .int .u64 0, .int .i64 0] 42)).2.2
  have hml := hm.lt
  have hgl := hg.lt
  have hpl := hd.lt
  have hc0' : ¬ ((c.n : Int) = 0) := by omega
  go_enter Try.func32, Try.ntmps32
  go_upto_region 1 with fail
  have hz0 : (World.alloc (World.alloc w (.cells (pcA c) 40)) (.cells #[.int .i64 0, .int .u64 0, .int .i64 0] 42)).heap.size = w.heap.size + 2 := by simp
  generalize World.alloc (World.alloc w _) _ = W0 at *
  have c5 : W0.cell? ⟨w.heap.size, 5, none⟩ = _ := hbx.at_ rfl
  have c6 : W0.cell? ⟨w.heap.size, 6, none⟩ = _ := hbx.at_ rfl
  have c7 : W0.cell? ⟨w.heap.size, 7, none⟩ = _ := hbx.at_ rfl
  have c8 : W0.cell? ⟨w.heap.size, 8, none⟩ = _ := hbx.at_ rfl
  have c9 : W0.cell? ⟨w.heap.size, 9, none⟩ = _ := hbx.at_ rfl
  have c10 : W0.cell? ⟨w.heap.size, 10, none⟩ = _ := hbx.at_ rfl
  have c11 : W0.cell? ⟨w.heap.size, 11, none⟩ = _ := hbx.at_ rfl
  have c12 : W0.cell? ⟨w.heap.size, 12, none⟩ = _ := hbx.at_ rfl
  have c13 : W0.cell? ⟨w.heap.size, 13, none⟩ = _ := hbx.at_ rfl
  have c14 : W0.cell? ⟨w.heap.size, 14, none⟩ = _ := hbx.at_ rfl
  have c15 : W0.cell? ⟨w.heap.size, 15, none⟩ = _ := hbx.at_ rfl
  have c16 : W0.cell? ⟨w.heap.size, 16, none⟩ = _ := hbx.at_ rfl
  go_wp2_with fail
  clear c5 c6 c7 c8 c9 c10 c11 c12 c13 c14 c15 c16
  refine (hM W0 hB0).mono ?_
  rintro x w1 ⟨⟨i, s1, s2, s3, e1, e2, e3, cf, vr, p1, p2, p3, rfl⟩, b1⟩
  have hl1 := b1.size
  have hB1 : Below w.heap.size w (w1.alloc (.cells #[.int .u64 i, .slice s1 s2 s3, .slice e1 e2 e3, .int .u64 cf, .int .u64 vr, .slice p1 p2 p3] 34)) := (hB0.trans (b1.mono hB0.size)).alloc (by omega) _
  have hbx1 : Bxd c w.heap.size (w.heap.size + 1) (w1.alloc (.cells #[.int .u64 i, .slice s1 s2 s3, .slice e1 e2 e3, .int .u64 cf, .int .u64 vr, .slice p1 p2 p3] 34)) := (hbx.next (Chg.of_below b1) (by omega) (by omega)).next (Chg.of_below ((Below.refl _ w1).alloc (Nat.le_refl _) _)) (by omega) (by omega)
  have b1n : (w1.alloc (.cells #[.int .u64 i, .slice s1 s2 s3, .slice e1 e2 e3, .int .u64 cf, .int .u64 vr, .slice p1 p2 p3] 34)).cell? ⟨w.heap.size, 1, none⟩ = some (.int .u64 (c.n : Int)) := hbx1.at_ rfl
  have hl2 : (w1.alloc (.cells #[.int .u64 i, .slice s1 s2 s3, .slice e1 e2 e3, .int .u64 cf, .int .u64 vr, .slice p1 p2 p3] 34)).heap.size = w1.heap.size + 1 := by simp
  have HB1 : Hid _ := And.intro hB1 hbx1
  clear hB1 hbx1
  go_upto_region 4 with fail
  clear b1n
  obtain ⟨hB1, hbx1⟩ := HB1.out
  clear HB1 hbx hB0 b1
  generalize (w1.alloc _) = W1 at *
  have hl3 : w.heap.size + 3 ≤ W1.heap.size := by omega
  have hl4 : W0.heap.size ≤ w1.heap.size := hl1
  clear hl1 hl2
  have hd1 := hd.belowN hB1 (Nat.le_refl _)
  have hm1 := hm.below hB1 (Nat.le_refl _)
  have hg1 := hg.below hB1 (Nat.le_refl _)
  obtain ⟨kb, hkb⟩ : ∃ kb, kb = (f c.n).isSome := ⟨_, rfl⟩
  have HLK : Hid (∀ W, Below W1.heap.size W1 W → W.cell? ⟨p, 7, none⟩ = some (.map (some d.mm)) ∧ W.cell? ⟨w.heap.size, 1, none⟩ = some (.int .u64 (c.n : Int)) ∧ (Instr.lookup 49 (.map (some d.mm)) (.int .u64 (c.n : Int)) true).run Try.prog W = .ok (.tuple #[.agg (mgA id s t st), .bool kb]) W) := fun W hW =>
    ⟨(hd1.belowN hW (Nat.le_refl _)).at_ rfl, (hbx1.next (Chg.of_below hW) (by omega) (by omega)).at_ rfl, by have := (hm1.below hW (Nat.le_refl _)).look hcn; rw [hf, ← hkb] at this; exact this⟩
  have HKB : Hid (kb = (f c.n).isSome) := hkb
  clear hkb
  have hS0 : Below W1.heap.size W1 W1.drew := (Below.refl _ _).drew
  refine wp_region_heldN (S := fun W => Below W1.heap.size W1 W) (L := []) (by kernel_rfl) ?_
  refine wpAnyN_take (i := 0) (v := .pointer (some ⟨p, 0, none⟩)) rfl (by kernel_rfl) (by kernel_rfl) (by kernel_rfl) (by kernel_rfl) (fun _ _ _ h => h) (.inl ⟨by kernel_rfl, fun W hW => by kernel_rfl⟩) hS0 ?_
  refine wpAnyN_take (i := 1) (v := .pointer (some ⟨p, 0, none⟩)) rfl (by kernel_rfl) (by kernel_rfl) (by kernel_rfl) (by kernel_rfl) (fun _ _ _ h => h) (.inl ⟨by kernel_rfl, fun W hW => by kernel_rfl⟩) hS0 ?_
  refine wpAnyN_take (i := 2) (v := .pointer (some ⟨p, 7, none⟩)) rfl (by kernel_rfl) (by kernel_rfl) (by kernel_rfl) (by kernel_rfl) (fun _ _ _ h => h) (.inl ⟨by kernel_rfl, fun W hW => by kernel_rfl⟩) hS0 ?_
  refine wpAnyN_take (i := 3) (v := .map (some d.mm)) rfl (by kernel_rfl) (by kernel_rfl) (by kernel_rfl) (by kernel_rfl) (fun _ _ _ h => h) (.inl ⟨by kernel_rfl, fun W hW => by obtain ⟨m0, m1, m2⟩ := HLK.out W hW; go_simp⟩) hS0 ?_
  refine wpAnyN_take (i := 4) (v := .pointer (some ⟨w.heap.size, 1, none⟩)) rfl (by kernel_rfl) (by kernel_rfl) (by kernel_rfl) (by kernel_rfl) (fun _ _ _ h => h) (.inl ⟨by kernel_rfl, fun W hW => by kernel_rfl⟩) hS0 ?_
  refine wpAnyN_take (i := 5) (v := .int .u64 (c.n : Int)) rfl (by kernel_rfl) (by kernel_rfl) (by kernel_rfl) (by kernel_rfl) (fun _ _ _ h => h) (.inl ⟨by kernel_rfl, fun W hW => by obtain ⟨m0, m1, m2⟩ := HLK.out W hW; go_simp⟩) hS0 ?_
  refine wpAnyN_take (i := 6) (v := .tuple #[.agg (mgA id s t st), .bool kb]) rfl (by kernel_rfl) (by kernel_rfl) (by kernel_rfl) (by kernel_rfl) (fun _ _ _ h => h) (.inl ⟨by kernel_rfl, fun W hW => by obtain ⟨m0, m1, m2⟩ := HLK.out W hW; go_simp⟩) hS0 ?_
  refine wpAnyN_take (i := 7) (v := .tuple #[.agg (mgA id s t st), .bool kb]) rfl (by kernel_rfl) (by kernel_rfl) (by kernel_rfl) (by kernel_rfl) (fun _ _ _ h => h) (.inl ⟨by kernel_rfl, fun W hW => by kernel_rfl⟩) hS0 ?_
  refine wpAnyN_take (i := 8) (v := .agg (mgA id s t st)) rfl (by kernel_rfl) (by kernel_rfl) (by kernel_rfl) (by kernel_rfl) (fun _ _ _ h => h) (.inl ⟨by kernel_rfl, fun W hW => by kernel_rfl⟩) hS0 ?_
  refine wpAnyN_take (i := 9) (v := .bool kb) rfl (by kernel_rfl) (by kernel_rfl) (by kernel_rfl) (by kernel_rfl) (fun _ _ _ h => h) (.inl ⟨by kernel_rfl, fun W hW => by kernel_rfl⟩) hS0 ?_
  refine wpAnyN_one (i := 10) (by kernel_rfl) rfl (fun K hK => ?_)
  rw [if_pos (by kernel_rfl)]
  go_simp
  have hB2 : Below W1.heap.size W1 (W1.alloc (.cells #[.int .u64 0, .int .u64 0, .slice none 0 0, .slice none 0 0, .int .u64 0, .int .u64 0, .slice none 0 0, .int .u64 0, .slice none 0 0, .slice none 0 0, .int .u64 0, .int .u64 0, .slice none 0 0, .int .i64 0] 64)).drew := ((Below.refl _ _).alloc (Nat.le_refl _) _).drew
  have hq1 : (W1.alloc (.cells #[.int .u64 0, .int .u64 0, .slice none 0 0, .slice none 0 0, .int .u64 0, .int .u64 0, .slice none 0 0, .int .u64 0, .slice none 0 0, .slice none 0 0, .int .u64 0, .int .u64 0, .slice none 0 0, .int .i64 0] 64)).drew.heap[W1.heap.size]? = some (.cells #[.int .u64 0, .int .u64 0, .slice none 0 0, .slice none 0 0, .int .u64 0, .int .u64 0, .slice none 0 0, .int .u64 0, .slice none 0 0, .slice none 0 0, .int .u64 0, .int .u64 0, .slice none 0 0, .int .i64 0] 64 (0, 0)) := heap_new W1 _
  refine hK _ _ (fun _ => hB2) ?_
  clear hK K HLK hS0
  generalize (W1.alloc (.cells #[.int .u64 0, .int .u64 0, .slice none 0 0, .slice none 0 0, .int .u64 0, .int .u64 0, .slice none 0 0, .int .u64 0, .slice none 0 0, .slice none 0 0, .int .u64 0, .int .u64 0, .slice none 0 0, .int .i64 0] 64)).drew = W2 at *
  obtain ⟨y0, y1, y2, y3, y4, y5, y6, y7, y8, y9, y10, y11, y12, y13, yy⟩ := cells14 hq1
  have yy0 := yy 0
  have yy1 := yy 1
  have yy2 := yy 2
  have yy3 := yy 3
  have yy4 := yy 4
  have yy5 := yy 5
  have yy6 := yy 6
  have yy7 := yy 7
  have yy8 := yy 8
  have yy9 := yy 9
  have yy10 := yy 10
  have yy11 := yy 11
  have yy12 := yy 12
  have yy13 := yy 13
  have hB3 : Below W1.heap.size W1 ((((((((((((((W2.setCell ⟨W1.heap.size, 0, none⟩ (.int .u64 (id : Int))).setCell ⟨W1.heap.size, 1, none⟩ (.int .u64 (s.id : Int))).setCell ⟨W1.heap.size, 2, none⟩ (.slice s.s.1 s.s.2.1 s.s.2.2)).setCell ⟨W1.heap.size, 3, none⟩ (.slice s.e.1 s.e.2.1 s.e.2.2)).setCell ⟨W1.heap.size, 4, none⟩ (.int .u64 (s.cf : Int))).setCell ⟨W1.heap.size, 5, none⟩ (.int .u64 (s.vr : Int))).setCell ⟨W1.heap.size, 6, none⟩ (.slice s.p.1 s.p.2.1 s.p.2.2)).setCell ⟨W1.heap.size, 7, none⟩ (.int .u64 (t.id : Int))).setCell ⟨W1.heap.size, 8, none⟩ (.slice t.s.1 t.s.2.1 t.s.2.2)).setCell ⟨W1.heap.size, 9, none⟩ (.slice t.e.1 t.e.2.1 t.e.2.2)).setCell ⟨W1.heap.size, 10, none⟩ (.int .u64 (t.cf : Int))).setCell ⟨W1.heap.size, 11, none⟩ (.int .u64 (t.vr : Int))).setCell ⟨W1.heap.size, 12, none⟩ (.slice t.p.1 t.p.2.1 t.p.2.2)).setCell ⟨W1.heap.size, 13, none⟩ (.int .i64 st)) := hB2.trans ((set14_chg W2 (W1.heap.size) (.int .u64 (id : Int)) (.int .u64 (s.id : Int)) (.slice s.s.1 s.s.2.1 s.s.2.2) (.slice s.e.1 s.e.2.1 s.e.2.2) (.int .u64 (s.cf : Int)) (.int .u64 (s.vr : Int)) (.slice s.p.1 s.p.2.1 s.p.2.2) (.int .u64 (t.id : Int)) (.slice t.s.1 t.s.2.1 t.s.2.2) (.slice t.e.1 t.e.2.1 t.e.2.2) (.int .u64 (t.cf : Int)) (.int .u64 (t.vr : Int)) (.slice t.p.1 t.p.2.1 t.p.2.2) (.int .i64 st)).below (fun b q => by omega) hB2.size)
  refine wpAnyN_one (i := 11) (by kernel_rfl) rfl (fun K hK => ?_)
  rw [if_pos (by kernel_rfl)]
  simp only [mgA]
  go_simp
  refine hK _ _ (fun _ => hB3) ?_
  clear hK K y0 y1 y2 y3 y4 y5 y6 y7 y8 y9 y10 y11 y12 y13 yy0 yy1 yy2 yy3 yy4 yy5 yy6 yy7 yy8 yy9 yy10 yy11 yy12 yy13 yy hq1 hB2
  generalize ((((((((((((((W2.setCell ⟨W1.heap.size, 0, none⟩ (.int .u64 (id : Int))).setCell ⟨W1.heap.size, 1, none⟩ (.int .u64 (s.id : Int))).setCell ⟨W1.heap.size, 2, none⟩ (.slice s.s.1 s.s.2.1 s.s.2.2)).setCell ⟨W1.heap.size, 3, none⟩ (.slice s.e.1 s.e.2.1 s.e.2.2)).setCell ⟨W1.heap.size, 4, none⟩ (.int .u64 (s.cf : Int))).setCell ⟨W1.heap.size, 5, none⟩ (.int .u64 (s.vr : Int))).setCell ⟨W1.heap.size, 6, none⟩ (.slice s.p.1 s.p.2.1 s.p.2.2)).setCell ⟨W1.heap.size, 7, none⟩ (.int .u64 (t.id : Int))).setCell ⟨W1.heap.size, 8, none⟩ (.slice t.s.1 t.s.2.1 t.s.2.2)).setCell ⟨W1.heap.size, 9, none⟩ (.slice t.e.1 t.e.2.1 t.e.2.2)).setCell ⟨W1.heap.size, 10, none⟩ (.int .u64 (t.cf : Int))).setCell ⟨W1.heap.size, 11, none⟩ (.int .u64 (t.vr : Int))).setCell ⟨W1.heap.size, 12, none⟩ (.slice t.p.1 t.p.2.1 t.p.2.2)).setCell ⟨W1.heap.size, 13, none⟩ (.int .i64 st)) = W3 at *
  refine wpAnyN_one (i := 12) (by kernel_rfl) rfl (fun K hK => ?_)
  rw [if_pos (by kernel_rfl)]
  go_simp
  refine hK _ _ (fun _ => hB3) ?_
  clear hK K
  refine ⟨by kernel_rfl, ?_⟩
  have hd3 := hd1.belowN hB3 (Nat.le_refl _)
  have hm3 := hm1.below hB3 (Nat.le_refl _)
  have hg3 := hg1.below hB3 (Nat.le_refl _)
  have hbx3 := hbx1.next (Chg.of_below hB3) (by omega) (by omega)
  have hB4 : Below w.heap.size w W3 := hB1.trans (hB3.mono hB1.size)
  have hl5 := hB3.size
  clear hd1 hm1 hg1 hbx1 hB1 hB3
  go_simp
  have c5 : W3.cell? ⟨w.heap.size, 5, none⟩ = some (.int .u64 (c.rid : Int)) := hbx3.at_ rfl
  have hkf : kb = false := by rw [HKB.out]; exact hkn
  subst hkf
  clear hkn HKB hf
  have HG : Hid (g c.rid = false ∧ g c.oid = false) := ⟨hgr, hgo⟩
  clear hgr hgo
  go_wp2_with fail
  refine (isMerging_any hd3 hg3 hr).mono ?_
  rintro e w5 ⟨rfl, b5⟩
  rw [HG.out.1]
  clear c5
  have c11 : w5.cell? ⟨w.heap.size, 11, none⟩ = some (.int .u64 (c.oid : Int)) := (hbx3.next (Chg.of_below b5) (by omega) (by omega)).at_ rfl
  go_wp2_with fail
  refine (isMerging_any (hd3.belowN b5 (Nat.le_refl _)) (hg3.below b5 (Nat.le_refl _)) ho).mono ?_
  rintro e w6 ⟨rfl, b6⟩
  rw [HG.out.2]
  clear c11
  have b7 : Below W3.heap.size W3 w6 := b5.trans (b6.mono b5.size)
  have hd6 := hd3.belowN b7 (Nat.le_refl _)
  have hm6 := hm3.below b7 (Nat.le_refl _)
  have hg6 := hg3.below b7 (Nat.le_refl _)
  have hbx6 := hbx3.next (Chg.of_below b7) (by omega) (by omega)
  have hB6 : Below w.heap.size w w6 := hB4.trans (b7.mono hB4.size)
  have hl6 : w.heap.size + 3 ≤ w6.heap.size := by have := b7.size; omega
  clear hd3 hm3 hg3 hbx3 hB4 b5 b6 b7
  have p8 : w6.cell? ⟨p, 8, none⟩ = some (.map (some d.gm)) := hd6.at_ rfl
  have hlen := hg6.len 3
  go_upto_region 9 with fail
  clear p8 hlen h128
  have HL9 : Hid (∀ W, Below w6.heap.size w6 W → W.cell? ⟨p, 7, none⟩ = some (.map (some d.mm)) ∧ W.cell? ⟨w.heap.size, 1, none⟩ = some (.int .u64 (c.n : Int)) ∧ True) := fun W hW =>
    ⟨(hd6.belowN hW (Nat.le_refl _)).at_ rfl, (hbx6.next (Chg.of_below hW) (by omega) (by omega)).at_ rfl, trivial⟩
  have HLR : Hid (∀ W, Below w6.heap.size w6 W → W.cell? ⟨w.heap.size, 5, none⟩ = some (.int .u64 (c.rid : Int)) ∧ W.cell? ⟨w.heap.size, 6, none⟩ = some (.slice c.rs.1 c.rs.2.1 c.rs.2.2) ∧ W.cell? ⟨w.heap.size, 7, none⟩ = some (.slice c.re.1 c.re.2.1 c.re.2.2) ∧ W.cell? ⟨w.heap.size, 8, none⟩ = some (.int .u64 (c.rcf : Int)) ∧ W.cell? ⟨w.heap.size, 9, none⟩ = some (.int .u64 (c.rvr : Int)) ∧ W.cell? ⟨w.heap.size, 10, none⟩ = some (.slice c.rp.1 c.rp.2.1 c.rp.2.2)) := fun W hW => by
    have q := hbx6.next (Chg.of_below hW) (by omega) (by omega)
    exact ⟨q.at_ rfl, q.at_ rfl, q.at_ rfl, q.at_ rfl, q.at_ rfl, q.at_ rfl⟩
  have HLO : Hid (∀ W, Below w6.heap.size w6 W → W.cell? ⟨w.heap.size, 11, none⟩ = some (.int .u64 (c.oid : Int)) ∧ W.cell? ⟨w.heap.size, 12, none⟩ = some (.slice c.os.1 c.os.2.1 c.os.2.2) ∧ W.cell? ⟨w.heap.size, 13, none⟩ = some (.slice c.oe.1 c.oe.2.1 c.oe.2.2) ∧ W.cell? ⟨w.heap.size, 14, none⟩ = some (.int .u64 (c.ocf : Int)) ∧ W.cell? ⟨w.heap.size, 15, none⟩ = some (.int .u64 (c.ovr : Int)) ∧ W.cell? ⟨w.heap.size, 16, none⟩ = some (.slice c.op.1 c.op.2.1 c.op.2.2)) := fun W hW => by
    have q := hbx6.next (Chg.of_below hW) (by omega) (by omega)
    exact ⟨q.at_ rfl, q.at_ rfl, q.at_ rfl, q.at_ rfl, q.at_ rfl, q.at_ rfl⟩
  have hT0 : Below w6.heap.size w6 w6.drew := (Below.refl _ _).drew
  refine wp_region_heldN (S := fun W => Below w6.heap.size w6 W) (L := [15]) (by kernel_rfl) ?_
  refine wpAnyN_take (i := 0) (v := .pointer (some ⟨p, 0, none⟩)) rfl (by kernel_rfl) (by kernel_rfl) (by kernel_rfl) (by kernel_rfl) (fun _ _ _ h => h) (.inl ⟨by kernel_rfl, fun W hW => by kernel_rfl⟩) hT0 ?_
  refine wpAnyN_take (i := 1) (v := .pointer (some ⟨p, 0, none⟩)) rfl (by kernel_rfl) (by kernel_rfl) (by kernel_rfl) (by kernel_rfl) (fun _ _ _ h => h) (.inl ⟨by kernel_rfl, fun W hW => by kernel_rfl⟩) hT0 ?_
  refine wpAnyN_take (i := 2) (v := .pointer (some ⟨p, 7, none⟩)) rfl (by kernel_rfl) (by kernel_rfl) (by kernel_rfl) (by kernel_rfl) (fun _ _ _ h => h) (.inl ⟨by kernel_rfl, fun W hW => by kernel_rfl⟩) hT0 ?_
  refine wpAnyN_take (i := 3) (v := .map (some d.mm)) rfl (by kernel_rfl) (by kernel_rfl) (by kernel_rfl) (by kernel_rfl) (fun _ _ _ h => h) (.inl ⟨by kernel_rfl, fun W hW => by obtain ⟨m0, m1, m2⟩ := HL9.out W hW; go_simp⟩) hT0 ?_
  refine wpAnyN_take (i := 4) (v := .pointer (some ⟨w.heap.size, 1, none⟩)) rfl (by kernel_rfl) (by kernel_rfl) (by kernel_rfl) (by kernel_rfl) (fun _ _ _ h => h) (.inl ⟨by kernel_rfl, fun W hW => by kernel_rfl⟩) hT0 ?_
  refine wpAnyN_take (i := 5) (v := .int .u64 (c.n : Int)) rfl (by kernel_rfl) (by kernel_rfl) (by kernel_rfl) (by kernel_rfl) (fun _ _ _ h => h) (.inl ⟨by kernel_rfl, fun W hW => by obtain ⟨m0, m1, m2⟩ := HL9.out W hW; go_simp⟩) hT0 ?_
  refine wpAnyN_take (i := 6) (v := .pointer (some ⟨w.heap.size, 1, none⟩)) rfl (by kernel_rfl) (by kernel_rfl) (by kernel_rfl) (by kernel_rfl) (fun _ _ _ h => h) (.inl ⟨by kernel_rfl, fun W hW => by kernel_rfl⟩) hT0 ?_
  refine wpAnyN_take (i := 7) (v := .int .u64 (c.n : Int)) rfl (by kernel_rfl) (by kernel_rfl) (by kernel_rfl) (by kernel_rfl) (fun _ _ _ h => h) (.inl ⟨by kernel_rfl, fun W hW => by obtain ⟨m0, m1, m2⟩ := HL9.out W hW; go_simp⟩) hT0 ?_
  refine wpAnyN_take (i := 8) (v := .pointer (some ⟨w.heap.size, 5, none⟩)) rfl (by kernel_rfl) (by kernel_rfl) (by kernel_rfl) (by kernel_rfl) (fun _ _ _ h => h) (.inl ⟨by kernel_rfl, fun W hW => by kernel_rfl⟩) hT0 ?_
  refine wpAnyN_take (i := 9) (v := .agg #[.int .u64 (c.rid : Int), .slice c.rs.1 c.rs.2.1 c.rs.2.2, .slice c.re.1 c.re.2.1 c.re.2.2, .int .u64 (c.rcf : Int), .int .u64 (c.rvr : Int), .slice c.rp.1 c.rp.2.1 c.rp.2.2]) rfl (by kernel_rfl) (by kernel_rfl) (by kernel_rfl) (by kernel_rfl) (fun _ _ _ h => h) (.inl ⟨by kernel_rfl, fun W hW => by obtain ⟨m5, m6, m7, m8, m9, m10⟩ := HLR.out W hW; go_simp⟩) hT0 ?_
  refine wpAnyN_take (i := 11) (v := .pointer (some ⟨w.heap.size, 11, none⟩)) rfl (by kernel_rfl) (by kernel_rfl) (by kernel_rfl) (by kernel_rfl) (fun _ _ _ h => h) (.inl ⟨by kernel_rfl, fun W hW => by kernel_rfl⟩) hT0 ?_
  refine wpAnyN_take (i := 12) (v := .agg #[.int .u64 (c.oid : Int), .slice c.os.1 c.os.2.1 c.os.2.2, .slice c.oe.1 c.oe.2.1 c.oe.2.2, .int .u64 (c.ocf : Int), .int .u64 (c.ovr : Int), .slice c.op.1 c.op.2.1 c.op.2.2]) rfl (by kernel_rfl) (by kernel_rfl) (by kernel_rfl) (by kernel_rfl) (fun _ _ _ h => h) (.inl ⟨by kernel_rfl, fun W hW => by obtain ⟨m5, m6, m7, m8, m9, m10⟩ := HLO.out W hW; go_simp⟩) hT0 ?_
  refine wpAnyN_one (i := 10) (by kernel_rfl) rfl (fun K hK => ?_)
  rw [if_pos (by kernel_rfl)]
  go_simp
  have hB7 : Below w.heap.size w w6.drew := hB6.drew
  have r7 := HRR.out.1.below hB7 (Nat.le_refl _)
  refine (fresh_rg (id := (c.rid : Int)) (cf := (c.rcf : Int)) (vr := (c.rvr : Int)) r7.rs r7.re r7.rp r7.sl r7.el r7.pl).mono ?_
  rintro y w7 ⟨v1, v2, v3, rfl, o7, b7⟩
  obtain ⟨a1, d1, rfl⟩ := o7.s.shp
  obtain ⟨a2, d2, rfl⟩ := o7.e.shp
  obtain ⟨a3, d3, rfl⟩ := o7.p.shape
  simp only []
  have hT1 : Below w6.heap.size w6 w7 := hT0.trans (b7.mono hT0.size)
  have hB8 : Below w.heap.size w w7 := hB7.trans (b7.mono hB7.size)
  refine hK _ _ (fun _ => hT1) ?_
  clear hK K
  refine wpAnyN_one (i := 13) (by kernel_rfl) rfl (fun K hK => ?_)
  rw [if_pos (by kernel_rfl)]
  go_simp
  have r8 := HRR.out.2.below hB8 (Nat.le_refl _)
  refine (fresh_rg (id := (c.oid : Int)) (cf := (c.ocf : Int)) (vr := (c.ovr : Int)) r8.rs r8.re r8.rp r8.sl r8.el r8.pl).mono ?_
  rintro y w8 ⟨v4, v5, v6, rfl, o8, b8⟩
  obtain ⟨a4, d4, rfl⟩ := o8.s.shp
  obtain ⟨a5, d5, rfl⟩ := o8.e.shp
  obtain ⟨a6, d6, rfl⟩ := o8.p.shape
  simp only []
  have hT2 : Below w6.heap.size w6 w8 := hT1.trans (b8.mono hT1.size)
  have hB9 : Below w.heap.size w w8 := hB8.trans (b8.mono hB8.size)
  refine hK _ _ (fun _ => hT2) ?_
  clear hK K
  refine wpAnyN_one (i := 14) (by kernel_rfl) rfl (fun K hK => ?_)
  rw [if_pos (by kernel_rfl)]
  go_simp
  refine hK _ _ (fun _ => hT2) ?_
  clear hK K HL9 HLR HLO
  have hl7 := b7.size
  have hl8 := b8.size
  have hl7' : w6.heap.size ≤ w6.drew.heap.size := Nat.le_refl _
  have oA : OwC w6.heap.size w8 ⟨c.rid, (a1, sb.length, d1), (a2, se.length, d2), c.rcf, c.rvr, (a3, sp.length, d3)⟩ sb se sp := OwR.mono (o7.below b8 (Nat.le_refl _)) hl7'
  have oB : OwC w6.heap.size w8 ⟨c.oid, (a4, tb.length, d4), (a5, te.length, d5), c.ocf, c.ovr, (a6, tp.length, d6)⟩ tb te tp := OwR.mono o8 (Nat.le_trans hl7' hl7)
  have hd8 := hd6.belowN hT2 (Nat.le_refl _)
  have hm8 := hm6.below hT2 (Nat.le_refl _)
  have hg8 := hg6.below hT2 (Nat.le_refl _)
  have hbx8 := hbx6.next (Chg.of_below hT2) (by omega) (by omega)
  obtain ⟨W9, hrun9, hm9, ch9⟩ := hm8.put hcn #[.int .u64 (c.n : Int), .int .u64 (c.rid : Int), .slice a1 sb.length d1, .slice a2 se.length d2, .int .u64 (c.rcf : Int), .int .u64 (c.rvr : Int), .slice a3 sp.length d3, .int .u64 (c.oid : Int), .slice a4 tb.length d4, .slice a5 te.length d5, .int .u64 (c.ocf : Int), .int .u64 (c.ovr : Int), .slice a6 tp.length d6, .int .i64 1] hn
  have hd9 := hd8.next ch9 (by have := hm8.nem hd8; omega)
  have hg9 := hg8.next ch9 (by omega)
  have hbx9 := hbx8.next ch9 (by omega) (by omega)
  have oA9 : OwC w6.heap.size W9 ⟨c.rid, (a1, sb.length, d1), (a2, se.length, d2), c.rcf, c.rvr, (a3, sp.length, d3)⟩ sb se sp := OwR.keptC oA ch9 (fun b q1 q2 => by omega)
  have oB9 : OwC w6.heap.size W9 ⟨c.oid, (a4, tb.length, d4), (a5, te.length, d5), c.ocf, c.ovr, (a6, tp.length, d6)⟩ tb te tp := OwR.keptC oB ch9 (fun b q1 q2 => by omega)
  have hC9 : Chg (fun x => x = d.mm ∨ x = d.gm) w W9 := ((Chg.of_below hB9).mono (fun b q1 q2 => by omega)).trans (ch9.mono (fun b _ q => .inl (.inl q)))
  have H9 : Hid _ := And.intro hd9 (And.intro hm9 (And.intro hg9 (And.intro hbx9 (And.intro oA9 (And.intro oB9 hC9)))))
  clear hd9 hm9 hg9 hbx9 oA9 oB9 hC9 ch9 oA oB hd8 hm8 hg8 hbx8 o7 o8 b7 b8 r7 r8 hd6 hm6 hg6 hbx6 hT0 hT1 hT2 hB6 hB7 hB8 hB9
  refine wpAnyN_one (i := 15) (by kernel_rfl) rfl (fun K hK => ?_)
  rw [if_pos (by kernel_rfl)]
  go_simp
  refine hK _ _ (fun h => absurd h (by decide)) ?_
  clear hK K hrun9
  refine ⟨by kernel_rfl, ?_⟩
  obtain ⟨hd9, hm9, hg9, hbx9, oA9, oB9, hC9⟩ := H9.out
  clear H9
  have p8 : W9.cell? ⟨p, 8, none⟩ = some (.map (some d.gm)) := hd9.at_ rfl
  have c5 : W9.cell? ⟨w.heap.size, 5, none⟩ = some (.int .u64 (c.rid : Int)) := hbx9.at_ rfl
  obtain ⟨W10, hrun10, hg10, ch10⟩ := (hg9.next (chg_dN (fun _ => False) W9 1) (fun q => q)).put hr (show k < 1048576 by omega)
  rw [HG.out.1, if_neg (by decide)] at hg10
  have ch10' : Chg (fun b => b = d.gm) W9 W10 := (chg_dN (fun b => b = d.gm) W9 1).trans (ch10.mono (fun b _ q => .inl q))
  have hrun10' : (Instr.mapUpdate 50 (.map (some d.gm)) (.int .u64 (c.rid : Int)) (.agg #[])).run Try.prog W9.drew = .ok () W10 := hrun10
  have hd10 := hd9.next ch10' (by have := hg9.nem hd9; omega)
  have hm10 := hm9.next ch10' (by omega)
  have hbx10 := hbx9.next ch10' (by omega) (by omega)
  have oA10 : OwC w6.heap.size W10 ⟨c.rid, (a1, sb.length, d1), (a2, se.length, d2), c.rcf, c.rvr, (a3, sp.length, d3)⟩ sb se sp := OwR.keptC oA9 ch10' (fun b q1 q2 => by omega)
  have oB10 : OwC w6.heap.size W10 ⟨c.oid, (a4, tb.length, d4), (a5, te.length, d5), c.ocf, c.ovr, (a6, tp.length, d6)⟩ tb te tp := OwR.keptC oB9 ch10' (fun b q1 q2 => by omega)
  have hC10 : Chg (fun x => x = d.mm ∨ x = d.gm) w W10 := hC9.trans (ch10'.mono (fun b _ q => .inl (.inr q)))
  have H10 : Hid _ := And.intro hd10 (And.intro hm10 (And.intro hg10 (And.intro hbx10 (And.intro oA10 (And.intro oB10 hC10)))))
  clear hd10 hm10 hg10 hbx10 oA10 oB10 hC10 ch10 ch10' hrun10 hd9 hm9 hg9 hbx9 oA9 oB9 hC9
  go_simp
  go_upto_region 10 with fail
  go_region
  clear p8 c5 hrun10'
  obtain ⟨hd10, hm10, hg10, hbx10, oA10, oB10, hC10⟩ := H10.out
  clear H10
  have p8 : W10.cell? ⟨p, 8, none⟩ = some (.map (some d.gm)) := hd10.at_ rfl
  have c11 : W10.cell? ⟨w.heap.size, 11, none⟩ = some (.int .u64 (c.oid : Int)) := hbx10.at_ rfl
  obtain ⟨W11, hrun11, hg11, ch11⟩ := (hg10.next (chg_dN (fun _ => False) W10 1) (fun q => q)).put ho (show k + 1 < 1048576 by omega)
  have hgq : gPut g c.rid c.oid = false := by unfold gPut; rw [if_neg (fun q => hro q.symm)]; exact HG.out.2
  rw [hgq, if_neg (by decide)] at hg11
  have ch11' : Chg (fun b => b = d.gm) W10 W11 := (chg_dN (fun b => b = d.gm) W10 1).trans (ch11.mono (fun b _ q => .inl q))
  have hrun11' : (Instr.mapUpdate 50 (.map (some d.gm)) (.int .u64 (c.oid : Int)) (.agg #[])).run Try.prog W10.drew = .ok () W11 := hrun11
  have hm11 := hm10.next ch11' (by omega)
  have hbx11 := hbx10.next ch11' (by omega) (by omega)
  have oA11 : OwC w6.heap.size W11 ⟨c.rid, (a1, sb.length, d1), (a2, se.length, d2), c.rcf, c.rvr, (a3, sp.length, d3)⟩ sb se sp := OwR.keptC oA10 ch11' (fun b q1 q2 => by omega)
  have oB11 : OwC w6.heap.size W11 ⟨c.oid, (a4, tb.length, d4), (a5, te.length, d5), c.ocf, c.ovr, (a6, tp.length, d6)⟩ tb te tp := OwR.keptC oB10 ch11' (fun b q1 q2 => by omega)
  have hC11 : Chg (fun x => x = d.mm ∨ x = d.gm) w W11 := hC10.trans (ch11'.mono (fun b _ q => .inl (.inr q)))
  have hs11 := (Array.getElem?_eq_some_iff.1 hbx11.res).1
  have H11 : Hid _ := And.intro hm11 (And.intro hg11 (And.intro hbx11 (And.intro oA11 (And.intro oB11 hC11))))
  clear hm11 hg11 hbx11 oA11 oB11 hC11 ch11 ch11' hrun11 hd10 hm10 hg10 hbx10 oA10 oB10 hC10 hgq
  go_upto_region 11 with fail
  go_region
  clear p8 c11 hrun11'
  obtain ⟨hm11, hg11, hbx11, oA11, oB11, hC11⟩ := H11.out
  clear H11
  obtain ⟨r0, r1, r2, f5, f6, f7⟩ := hbx11.rs
  go_wp2_with fail
  obtain ⟨⟨k0, k1, k2⟩, hc⟩ := pr_fin hbx11.res (.int .i64 0) (.int .u64 0) (.int .i64 1)
  have hfin : Chg (fun x => x = d.mm ∨ x = d.gm) w _ := hC11.trans (hc.mono (fun b _ q => .inr (by omega)))
  have hmz := hm11.next hc (by show ¬ d.mm = _; omega)
  have hgz := hg11.next hc (by show ¬ d.gm = _; omega)
  have oAz : OwC w.heap.size _ ⟨c.rid, (a1, sb.length, d1), (a2, se.length, d2), c.rcf, c.rvr, (a3, sp.length, d3)⟩ sb se sp := OwR.mono (OwR.keptC oA11 hc (fun b q1 q2 => by omega)) (by omega)
  have oBz : OwC w.heap.size _ ⟨c.oid, (a4, tb.length, d4), (a5, te.length, d5), c.ocf, c.ovr, (a6, tp.length, d6)⟩ tb te tp := OwR.mono (OwR.keptC oB11 hc (fun b q1 q2 => by omega)) (by omega)
  clear hc hm11 hg11 hbx11 oA11 oB11 hC11
  generalize World.setCell _ ⟨_, 2, none⟩ _ = wz at *
  refine bodyPost_ret (v := prA 0 0 1) (by simp [results, Try.results32, go_sem, k0, k1, k2]; try rfl) rfl ?_
  exact ⟨rfl, ⟨c.rid, (a1, sb.length, d1), (a2, se.length, d2), c.rcf, c.rvr, (a3, sp.length, d3)⟩, ⟨c.oid, (a4, tb.length, d4), (a5, te.length, d5), c.ocf, c.ovr, (a6, tp.length, d6)⟩, ⟨rfl, rfl, rfl⟩, ⟨rfl, rfl, rfl⟩, oAz, oBz, hmz, hgz, hfin⟩
end
end Go.Proofs.Ytlfdcnojbbigbaa
