/- open: up to what is known. -/
import Derived.Test.YtlfdcnojbbigbaaG30
namespace Go.Proofs.Ytlfdcnojbbigbaa
open Go.RowKit Go.Maps
set_option linter.unusedVariables false
set_option linter.unusedSimpArgs false
set_option maxRecDepth 100000
theorem mrefused_any (er : Int) (w : World) : Calls Try.prog 14 #[.int .i64 er] w fun e w' => e = .returned (prA er 0 0) ∧ Below w.heap.size w w' := by
  go_enter Try.func14, Try.ntmps14
  go_wp2_with fail
  refine bodyPost_ret (v := prA er 0 0) (by simp [results, Try.results14, go_sem]; try rfl) rfl ?_
  exact ⟨rfl, (Below.refl _ _).alloc (Nat.le_refl _) _⟩
/-- region.Merge of a command's two regions goes well. -/
def Merges (c : PC) (w : World) : Prop := ∀ W, Below w.heap.size w W → Calls Try.prog 49 #[.agg #[.int .u64 (c.oid : Int), .slice c.os.1 c.os.2.1 c.os.2.2, .slice c.oe.1 c.oe.2.1 c.oe.2.2, .int .u64 (c.ocf : Int), .int .u64 (c.ovr : Int), .slice c.op.1 c.op.2.1 c.op.2.2], .agg #[.int .u64 (c.rid : Int), .slice c.rs.1 c.rs.2.1 c.rs.2.2, .slice c.re.1 c.re.2.1 c.re.2.2, .int .u64 (c.rcf : Int), .int .u64 (c.rvr : Int), .slice c.rp.1 c.rp.2.1 c.rp.2.2]] W fun x w' => (∃ i s1 s2 s3 e1 e2 e3 cf vr p1 p2 p3, x = .returned (.tuple #[.agg #[.int .u64 i, .slice s1 s2 s3, .slice e1 e2 e3, .int .u64 cf, .int .u64 vr, .slice p1 p2 p3], .int .i64 0])) ∧ Below W.heap.size W w'
section
variable {n k cc p id : Nat} {g : Nat → Bool} {f : Nat → Option Value} {w w' : World} {d : DC} {s t : RC} {sb se tb te : List UInt8} {sp tp : List Pe}
set_option maxHeartbeats 2000000 in
theorem open_known (c : PC) (hcn : c.n < 18446744073709551616) (hc0 : c.n ≠ 0) (hd : Drv p d w) (hm : Mm d.mm n f w) (hg : Gs d.gm k g cc w) (hM : Merges c w) {st : Int} (hf : (f c.n).getD zeroM = .agg (mgA id s t st)) (hr : c.rid < 18446744073709551616) (hkn : (f c.n).isSome = true ∨ g c.rid = true) :
    Calls Try.prog 32 #[.pointer (some ⟨p, 0, none⟩), .agg (pcA c)] w fun e w' => e = .returned (prA 161 0 0) ∧ Below w.heap.size w w' := by
  have hbx := Bxd.new c w
  have hB0 := (two_new w (.cells (pcA c) 40) (.cells #[.int .i64 0, .int .u64 0, .int .i64 0] 42)).2.2
  have hml := hm.lt
  have hgl := hg.lt
  have hpl := hd.lt
  have hc0' : ¬ ((c.n : Int) = 0) := by omega
  go_enter Try.func32, Try.ntmps32
  go_upto_region 1 with fail
  have hz0 : (World.alloc (World.alloc w (.cells (pcA c) 40)) (.cells #[.int .i64 0, .int .u64 0, .int .i64 0] 42)).heap.size = w.heap.size + 2 := by simp
  generalize World.alloc (World.alloc w _) _ = W0 at *
  have c5 : W0.cell? ⟨w.heap.size, 5, none⟩ = _ := hbx.at_ rfl
  have c6 : W0.cell? ⟨w.heap.size, 6, none⟩ = _ := hbx.at_ rfl
  have c7 : W0.cell? ⟨w.heap.size, 7, none⟩ = _ := hbx.at_ rfl
  have c8 : W0.cell? ⟨w.heap.size, 8, none⟩ = _ := hbx.at_ rfl
  have c9 : W0.cell? ⟨w.heap.size, 9, none⟩ = _ := hbx.at_ rfl
  have c10 : W0.cell? ⟨w.heap.size, 10, none⟩ = _ := hbx.at_ rfl
  have c11 : W0.cell? ⟨w.heap.size, 11, none⟩ = _ := hbx.at_ rfl
  have c12 : W0.cell? ⟨w.heap.size, 12, none⟩ = _ := hbx.at_ rfl
  have c13 : W0.cell? ⟨w.heap.size, 13, none⟩ = _ := hbx.at_ rfl
  have c14 : W0.cell? ⟨w.heap.size, 14, none⟩ = _ := hbx.at_ rfl
  have c15 : W0.cell? ⟨w.heap.size, 15, none⟩ = _ := hbx.at_ rfl
  have c16 : W0.cell? ⟨w.heap.size, 16, none⟩ = _ := hbx.at_ rfl
  go_wp2_with fail
  clear c5 c6 c7 c8 c9 c10 c11 c12 c13 c14 c15 c16
  refine (hM W0 hB0).mono ?_
  rintro x w1 ⟨⟨i, s1, s2, s3, e1, e2, e3, cf, vr, p1, p2, p3, rfl⟩, b1⟩
  have hl1 := b1.size
  have hB1 : Below w.heap.size w (w1.alloc (.cells #[.int .u64 i, .slice s1 s2 s3, .slice e1 e2 e3, .int .u64 cf, .int .u64 vr, .slice p1 p2 p3] 34)) := (hB0.trans (b1.mono hB0.size)).alloc (by omega) _
  have hbx1 : Bxd c w.heap.size (w.heap.size + 1) (w1.alloc (.cells #[.int .u64 i, .slice s1 s2 s3, .slice e1 e2 e3, .int .u64 cf, .int .u64 vr, .slice p1 p2 p3] 34)) := (hbx.next (Chg.of_below b1) (by omega) (by omega)).next (Chg.of_below ((Below.refl _ w1).alloc (Nat.le_refl _) _)) (by omega) (by omega)
  have b1n : (w1.alloc (.cells #[.int .u64 i, .slice s1 s2 s3, .slice e1 e2 e3, .int .u64 cf, .int .u64 vr, .slice p1 p2 p3] 34)).cell? ⟨w.heap.size, 1, none⟩ = some (.int .u64 (c.n : Int)) := hbx1.at_ rfl
  have hl2 : (w1.alloc (.cells #[.int .u64 i, .slice s1 s2 s3, .slice e1 e2 e3, .int .u64 cf, .int .u64 vr, .slice p1 p2 p3] 34)).heap.size = w1.heap.size + 1 := by simp
  have HB1 : Hid _ := And.intro hB1 hbx1
  clear hB1 hbx1
  go_upto_region 4 with fail
  clear b1n
  obtain ⟨hB1, hbx1⟩ := HB1.out
  clear HB1 hbx hB0 b1
  generalize (w1.alloc _) = W1 at *
  have hl3 : w.heap.size + 3 ≤ W1.heap.size := by omega
  have hl4 : W0.heap.size ≤ w1.heap.size := hl1
  clear hl1 hl2
  have hd1 := hd.belowN hB1 (Nat.le_refl _)
  have hm1 := hm.below hB1 (Nat.le_refl _)
  have hg1 := hg.below hB1 (Nat.le_refl _)
  obtain ⟨kb, hkb⟩ : ∃ kb, kb = (f c.n).isSome := ⟨_, rfl⟩
  have HLK : Hid (∀ W, Below W1.heap.size W1 W → W.cell? ⟨p, 7, none⟩ = some (.map (some d.mm)) ∧ W.cell? ⟨w.heap.size, 1, none⟩ = some (.int .u64 (c.n : Int)) ∧ (Instr.lookup 49 (.map (some d.mm)) (.int .u64 (c.n : Int)) true).run Try.prog W = .ok (.tuple #[.agg (mgA id s t st), .bool kb]) W) := fun W hW =>
    ⟨(hd1.belowN hW (Nat.le_refl _)).at_ rfl, (hbx1.next (Chg.of_below hW) (by omega) (by omega)).at_ rfl, by have := (hm1.below hW (Nat.le_refl _)).look hcn; rw [hf, ← hkb] at this; exact this⟩
  have HKB : Hid (kb = (f c.n).isSome) := hkb
  clear hkb
  have hS0 : Below W1.heap.size W1 W1.drew := (Below.refl _ _).drew
  refine wp_region_heldN (S := fun W => Below W1.heap.size W1 W) (L := []) (by kernel_rfl) ?_
  refine wpAnyN_take (i := 0) (v := .pointer (some ⟨p, 0, none⟩)) rfl (by kernel_rfl) (by kernel_rfl) (by kernel_rfl) (by kernel_rfl) (fun _ _ _ h => h) (.inl ⟨by kernel_rfl, fun W hW => by kernel_rfl⟩) hS0 ?_
  refine wpAnyN_take (i := 1) (v := .pointer (some ⟨p, 0, none⟩)) rfl (by kernel_rfl) (by kernel_rfl) (by kernel_rfl) (by kernel_rfl) (fun _ _ _ h => h) (.inl ⟨by kernel_rfl, fun W hW => by kernel_rfl⟩) hS0 ?_
  refine wpAnyN_take (i := 2) (v := .pointer (some ⟨p, 7, none⟩)) rfl (by kernel_rfl) (by kernel_rfl) (by kernel_rfl) (by kernel_rfl) (fun _ _ _ h => h) (.inl ⟨by kernel_rfl, fun W hW => by kernel_rfl⟩) hS0 ?_
  refine wpAnyN_take (i := 3) (v := .map (some d.mm)) rfl (by kernel_rfl) (by kernel_rfl) (by kernel_rfl) (by kernel_rfl) (fun _ _ _ h => h) (.inl ⟨by kernel_rfl, fun W hW => by obtain ⟨m0, m1, m2⟩ := HLK.out W hW; go_simp⟩) hS0 ?_
  refine wpAnyN_take (i := 4) (v := .pointer (some ⟨w.heap.size, 1, none⟩)) rfl (by kernel_rfl) (by kernel_rfl) (by kernel_rfl) (by kernel_rfl) (fun _ _ _ h => h) (.inl ⟨by kernel_rfl, fun W hW => by kernel_rfl⟩) hS0 ?_
  refine wpAnyN_take (i := 5) (v := .int .u64 (c.n : Int)) rfl (by kernel_rfl) (by kernel_rfl) (by kernel_rfl) (by kernel_rfl) (fun _ _ _ h => h) (.inl ⟨by kernel_rfl, fun W hW => by obtain ⟨m0, m1, m2⟩ := HLK.out W hW; go_simp⟩) hS0 ?_
  refine wpAnyN_take (i := 6) (v := .tuple #[.agg (mgA id s t st), .bool kb]) rfl (by kernel_rfl) (by kernel_rfl) (by kernel_rfl) (by kernel_rfl) (fun _ _ _ h => h) (.inl ⟨by kernel_rfl, fun W hW => by obtain ⟨m0, m1, m2⟩ := HLK.out W hW; go_simp⟩) hS0 ?_
  refine wpAnyN_take (i := 7) (v := .tuple #[.agg (mgA id s t st), .bool kb]) rfl (by kernel_rfl) (by kernel_rfl) (by kernel_rfl) (by kernel_rfl) (fun _ _ _ h => h) (.inl ⟨by kernel_rfl, fun W hW => by kernel_rfl⟩) hS0 ?_
  refine wpAnyN_take (i := 8) (v := .agg (mgA id s t st)) rfl (by kernel_rfl) (by kernel_rfl) (by kernel_rfl) (by kernel_rfl) (fun _ _ _ h => h) (.inl ⟨by kernel_rfl, fun W hW => by kernel_rfl⟩) hS0 ?_
  refine wpAnyN_take (i := 9) (v := .bool kb) rfl (by kernel_rfl) (by kernel_rfl) (by kernel_rfl) (by kernel_rfl) (fun _ _ _ h => h) (.inl ⟨by kernel_rfl, fun W hW => by kernel_rfl⟩) hS0 ?_
  refine wpAnyN_one (i := 10) (by kernel_rfl) rfl (fun K hK => ?_)
  rw [if_pos (by kernel_rfl)]
  go_simp
  have hB2 : Below W1.heap.size W1 (W1.alloc (.cells #[.int .u64 0, .int .u64 0, .slice none 0 0, .slice none 0 0, .int .u64 0, .int .u64 0, .slice none 0 0, .int .u64 0, .slice none 0 0, .slice none 0 0, .int .u64 0, .int .u64 0, .slice none 0 0, .int .i64 0] 64)).drew := ((Below.refl _ _).alloc (Nat.le_refl _) _).drew
  have hq1 : (W1.alloc (.cells #[.int .u64 0, .int .u64 0, .slice none 0 0, .slice none 0 0, .int .u64 0, .int .u64 0, .slice none 0 0, .int .u64 0, .slice none 0 0, .slice none 0 0, .int .u64 0, .int .u64 0, .slice none 0 0, .int .i64 0] 64)).drew.heap[W1.heap.size]? = some (.cells #[.int .u64 0, .int .u64 0, .slice none 0 0, .slice none 0 0, .int .u64 0, .int .u64 0, .slice none 0 0, .int .u64 0, .slice none 0 0, .slice none 0 0, .int .u64 0, .int .u64 0, .slice none 0 0, .int .i64 0] 64 (0, 0)) := heap_new W1 _
  refine hK _ _ (fun _ => hB2) ?_
  clear hK K HLK hS0
  generalize (W1.alloc (.cells #[.int .u64 0, .int .u64 0, .slice none 0 0, .slice none 0 0, .int .u64 0, .int .u64 0, .slice none 0 0, .int .u64 0, .slice none 0 0, .slice none 0 0, .int .u64 0, .int .u64 0, .slice none 0 0, .int .i64 0] 64)).drew = W2 at *
  obtain ⟨y0, y1, y2, y3, y4, y5, y6, y7, y8, y9, y10, y11, y12, y13, yy⟩ := cells14 hq1
  have yy0 := yy 0
  have yy1 := yy 1
  have yy2 := yy 2
  have yy3 := yy 3
  have yy4 := yy 4
  have yy5 := yy 5
  have yy6 := yy 6
  have yy7 := yy 7
  have yy8 := yy 8
  have yy9 := yy 9
  have yy10 := yy 10
  have yy11 := yy 11
  have yy12 := yy 12
  have yy13 := yy 13
  have hB3 : Below W1.heap.size W1 ((((((((((((((W2.setCell ⟨W1.heap.size, 0, none⟩ (.int .u64 (id : Int))).setCell ⟨W1.heap.size, 1, none⟩ (.int .u64 (s.id : Int))).setCell ⟨W1.heap.size, 2, none⟩ (.slice s.s.1 s.s.2.1 s.s.2.2)).setCell ⟨W1.heap.size, 3, none⟩ (.slice s.e.1 s.e.2.1 s.e.2.2)).setCell ⟨W1.heap.size, 4, none⟩ (.int .u64 (s.cf : Int))).setCell ⟨W1.heap.size, 5, none⟩ (.int .u64 (s.vr : Int))).setCell ⟨W1.heap.size, 6, none⟩ (.slice s.p.1 s.p.2.1 s.p.2.2)).setCell ⟨W1.heap.size, 7, none⟩ (.int .u64 (t.id : Int))).setCell ⟨W1.heap.size, 8, none⟩ (.slice t.s.1 t.s.2.1 t.s.2.2)).setCell ⟨W1.heap.size, 9, none⟩ (.slice t.e.1 t.e.2.1 t.e.2.2)).setCell ⟨W1.heap.size, 10, none⟩ (.int .u64 (t.cf : Int))).setCell ⟨W1.heap.size, 11, none⟩ (.int .u64 (t.vr : Int))).setCell ⟨W1.heap.size, 12, none⟩ (.slice t.p.1 t.p.2.1 t.p.2.2)).setCell ⟨W1.heap.size, 13, none⟩ (.int .i64 st)) := hB2.trans ((set14_chg W2 (W1.heap.size) (.int .u64 (id : Int)) (.int .u64 (s.id : Int)) (.slice s.s.1 s.s.2.1 s.s.2.2) (.slice s.e.1 s.e.2.1 s.e.2.2) (.int .u64 (s.cf : Int)) (.int .u64 (s.vr : Int)) (.slice s.p.1 s.p.2.1 s.p.2.2) (.int .u64 (t.id : Int)) (.slice t.s.1 t.s.2.1 t.s.2.2) (.slice t.e.1 t.e.2.1 t.e.2.2) (.int .u64 (t.cf : Int)) (.int .u64 (t.vr : Int)) (.slice t.p.1 t.p.2.1 t.p.2.2) (.int .i64 st)).below (fun b q => by omega) hB2.size)
  refine wpAnyN_one (i := 11) (by kernel_rfl) rfl (fun K hK => ?_)
  rw [if_pos (by kernel_rfl)]
  simp only [mgA]
  go_simp
  refine hK _ _ (fun _ => hB3) ?_
  clear hK K y0 y1 y2 y3 y4 y5 y6 y7 y8 y9 y10 y11 y12 y13 yy0 yy1 yy2 yy3 yy4 yy5 yy6 yy7 yy8 yy9 yy10 yy11 yy12 yy13 yy hq1 hB2
  generalize ((((((((((((((W2.setCell ⟨W1.heap.size, 0, none⟩ (.int .u64 (id : Int))).setCell ⟨W1.heap.size, 1, none⟩ (.int .u64 (s.id : Int))).setCell ⟨W1.heap.size, 2, none⟩ (.slice s.s.1 s.s.2.1 s.s.2.2)).setCell ⟨W1.heap.size, 3, none⟩ (.slice s.e.1 s.e.2.1 s.e.2.2)).setCell ⟨W1.heap.size, 4, none⟩ (.int .u64 (s.cf : Int))).setCell ⟨W1.heap.size, 5, none⟩ (.int .u64 (s.vr : Int))).setCell ⟨W1.heap.size, 6, none⟩ (.slice s.p.1 s.p.2.1 s.p.2.2)).setCell ⟨W1.heap.size, 7, none⟩ (.int .u64 (t.id : Int))).setCell ⟨W1.heap.size, 8, none⟩ (.slice t.s.1 t.s.2.1 t.s.2.2)).setCell ⟨W1.heap.size, 9, none⟩ (.slice t.e.1 t.e.2.1 t.e.2.2)).setCell ⟨W1.heap.size, 10, none⟩ (.int .u64 (t.cf : Int))).setCell ⟨W1.heap.size, 11, none⟩ (.int .u64 (t.vr : Int))).setCell ⟨W1.heap.size, 12, none⟩ (.slice t.p.1 t.p.2.1 t.p.2.2)).setCell ⟨W1.heap.size, 13, none⟩ (.int .i64 st)) = W3 at *
  refine wpAnyN_one (i := 12) (by kernel_rfl) rfl (fun K hK => ?_)
  rw [if_pos (by kernel_rfl)]
  go_simp
  refine hK _ _ (fun _ => hB3) ?_
  clear hK K
  refine ⟨by kernel_rfl, ?_⟩
  have hd3 := hd1.belowN hB3 (Nat.le_refl _)
  have hm3 := hm1.below hB3 (Nat.le_refl _)
  have hg3 := hg1.below hB3 (Nat.le_refl _)
  have hbx3 := hbx1.next (Chg.of_below hB3) (by omega) (by omega)
  have hB4 : Below w.heap.size w W3 := hB1.trans (hB3.mono hB1.size)
  have hl5 := hB3.size
  clear hd1 hm1 hg1 hbx1 hB1 hB3
  go_simp
  have c5 : W3.cell? ⟨w.heap.size, 5, none⟩ = some (.int .u64 (c.rid : Int)) := hbx3.at_ rfl
  cases kb
  · have hgr : g c.rid = true := by rcases hkn with q | q; rw [← HKB.out] at q; cases q; exact q
    go_wp2_with fail
    refine (isMerging_any hd3 hg3 hr).mono ?_
    rintro e w5 ⟨rfl, b5⟩
    rw [hgr]
    go_wp2_with fail
    refine (mrefused_any 161 _).mono ?_
    rintro e w6 ⟨rfl, b6⟩
    have b7 : Below W3.heap.size W3 w6 := b5.trans (b6.mono b5.size)
    have hbz := hbx3.next (Chg.of_below b7) (by omega) (by omega)
    obtain ⟨r0, r1, r2, f5, f6, f7⟩ := hbz.rs
    simp only [prA]
    go_wp2_with fail
    obtain ⟨⟨k0, k1, k2⟩, hc⟩ := pr_fin hbz.res (.int .i64 161) (.int .u64 0) (.int .i64 0)
    have hfin : Below w.heap.size w _ := (hB4.trans (b7.mono hB4.size)).trans (hc.below (fun b q => by omega) (by have := b7.size; omega))
    clear hc
    generalize World.setCell _ ⟨_, 2, none⟩ _ = wz at *
    refine bodyPost_ret (v := prA 161 0 0) (by simp [results, Try.results32, go_sem, k0, k1, k2]; try rfl) rfl ?_
    exact ⟨rfl, hfin⟩
  · go_wp2_with fail
    refine (mrefused_any 161 _).mono ?_
    rintro e w6 ⟨rfl, b7⟩
    have hbz := hbx3.next (Chg.of_below b7) (by omega) (by omega)
    obtain ⟨r0, r1, r2, f5, f6, f7⟩ := hbz.rs
    simp only [prA]
    go_wp2_with fail
    obtain ⟨⟨k0, k1, k2⟩, hc⟩ := pr_fin hbz.res (.int .i64 161) (.int .u64 0) (.int .i64 0)
    have hfin : Below w.heap.size w _ := (hB4.trans (b7.mono hB4.size)).trans (hc.below (fun b q => by omega) (by have := b7.size; omega))
    clear hc
    generalize World.setCell _ ⟨_, 2, none⟩ _ = wz at *
    refine bodyPost_ret (v := prA 161 0 0) (by simp [results, Try.results32, go_sem, k0, k1, k2]; try rfl) rfl ?_
    exact ⟨rfl, hfin⟩
end
end Go.Proofs.Ytlfdcnojbbigbaa
