/- Merge of a number that is known. -/
import Derived.Test.YtlfdcnojbbigbaaG18
import Derived.Test.YtlfdcnojbbigbaaG29
namespace Go.Proofs.Ytlfdcnojbbigbaa
open Go.RowKit Go.Maps
set_option linter.unusedVariables false
set_option linter.unusedSimpArgs false
set_option maxRecDepth 100000
/-- A region's cells read as a region's. -/
structure RdC (w : World) (r : RC) (s e : List UInt8) (ps : List Pe) : Prop where
  rs : Rd w (.slice r.s.1 r.s.2.1 r.s.2.2) s
  re : Rd w (.slice r.e.1 r.e.2.1 r.e.2.2) e
  rp : RdPe w (.slice r.p.1 r.p.2.1 r.p.2.2) ps
  sl : s.length ≤ 140737488355328
  el : e.length ≤ 140737488355328
  pl : ps.length ≤ 1099511627776
theorem RdC.below {B : Nat} {w w' : World} {r : RC} {s e : List UInt8} {ps : List Pe} (h : RdC w r s e ps) (hb : Below B w w') (hB : w.heap.size ≤ B) : RdC w' r s e ps := ⟨h.rs.below hb hB, h.re.below hb hB, h.rp.below hb hB, h.sl, h.el, h.pl⟩
section
variable {n k cc p id : Nat} {g : Nat → Bool} {f : Nat → Option Value} {w w' : World} {d : DC} {s t : RC} {sb se tb te : List UInt8} {sp tp : List Pe}
set_option maxHeartbeats 2000000 in
theorem mergeOf_any {x : Nat} (hx : x < 18446744073709551616) (hd : Drv p d w) (hm : Mm d.mm n f w) {st : Int} (hf : f x = some (.agg (mgA id s t st))) (hs : RdC w s sb se sp) (ht : RdC w t tb te tp) :
    Calls Try.prog 8 #[.pointer (some ⟨p, 0, none⟩), .int .u64 (x : Int)] w fun e w' => ∃ sv ev pv tv fv qv, e = .returned (.tuple #[.agg #[.int .u64 (s.id : Int), sv, ev, .int .u64 (s.cf : Int), .int .u64 (s.vr : Int), pv], .agg #[.int .u64 (t.id : Int), tv, fv, .int .u64 (t.cf : Int), .int .u64 (t.vr : Int), qv], .int .i64 st]) ∧ OwR w.heap.size w' sv ev pv sb se sp ∧ OwR w.heap.size w' tv fv qv tb te tp ∧ Below w.heap.size w w' := by
  have HRR : Hid (RdC w s sb se sp ∧ RdC w t tb te tp) := ⟨hs, ht⟩
  clear hs ht
  have hml := hm.lt
  have hpl := hd.lt
  have hB0 := (two_new w (.cells #[.int .u64 0, .slice none 0 0, .slice none 0 0, .int .u64 0, .int .u64 0, .slice none 0 0] 34) (.cells #[.int .u64 0, .slice none 0 0, .slice none 0 0, .int .u64 0, .int .u64 0, .slice none 0 0] 34)).2.2
  have hr0 := (two_new w (.cells #[.int .u64 0, .slice none 0 0, .slice none 0 0, .int .u64 0, .int .u64 0, .slice none 0 0] 34) (.cells #[.int .u64 0, .slice none 0 0, .slice none 0 0, .int .u64 0, .int .u64 0, .slice none 0 0] 34)).1
  have hr1 := (two_new w (.cells #[.int .u64 0, .slice none 0 0, .slice none 0 0, .int .u64 0, .int .u64 0, .slice none 0 0] 34) (.cells #[.int .u64 0, .slice none 0 0, .slice none 0 0, .int .u64 0, .int .u64 0, .slice none 0 0] 34)).2.1
  have hz0 : ((w.alloc (.cells #[.int .u64 0, .slice none 0 0, .slice none 0 0, .int .u64 0, .int .u64 0, .slice none 0 0] 34)).alloc (.cells #[.int .u64 0, .slice none 0 0, .slice none 0 0, .int .u64 0, .int .u64 0, .slice none 0 0] 34)).heap.size = w.heap.size + 2 := by simp
  go_enter Try.func8, Try.ntmps8
  go_upto_region 1 with fail
  generalize ((w.alloc (.cells #[.int .u64 0, .slice none 0 0, .slice none 0 0, .int .u64 0, .int .u64 0, .slice none 0 0] 34)).alloc (.cells #[.int .u64 0, .slice none 0 0, .slice none 0 0, .int .u64 0, .int .u64 0, .slice none 0 0] 34)) = W0 at *
  have p7 : W0.cell? ⟨p, 7, none⟩ = some (.map (some d.mm)) := (hd.belowN hB0 (Nat.le_refl _)).at_ rfl
  have hlk : (Instr.lookup 49 (.map (some d.mm)) (.int .u64 (x : Int)) true).run Try.prog W0 = .ok (.tuple #[.agg #[.int .u64 (id : Int), .int .u64 (s.id : Int), .slice s.s.1 s.s.2.1 s.s.2.2, .slice s.e.1 s.e.2.1 s.e.2.2, .int .u64 (s.cf : Int), .int .u64 (s.vr : Int), .slice s.p.1 s.p.2.1 s.p.2.2, .int .u64 (t.id : Int), .slice t.s.1 t.s.2.1 t.s.2.2, .slice t.e.1 t.e.2.1 t.e.2.2, .int .u64 (t.cf : Int), .int .u64 (t.vr : Int), .slice t.p.1 t.p.2.1 t.p.2.2, .int .i64 st], .bool true]) W0 := by
    have := (hm.below hB0 (Nat.le_refl _)).look hx
    rw [hf] at this
    exact this
  have hB1 : Below w.heap.size w (W0.alloc (.cells #[.int .u64 (id : Int), .int .u64 (s.id : Int), .slice s.s.1 s.s.2.1 s.s.2.2, .slice s.e.1 s.e.2.1 s.e.2.2, .int .u64 (s.cf : Int), .int .u64 (s.vr : Int), .slice s.p.1 s.p.2.1 s.p.2.2, .int .u64 (t.id : Int), .slice t.s.1 t.s.2.1 t.s.2.2, .slice t.e.1 t.e.2.1 t.e.2.2, .int .u64 (t.cf : Int), .int .u64 (t.vr : Int), .slice t.p.1 t.p.2.1 t.p.2.2, .int .i64 st] 64)) := hB0.alloc (by omega) _
  have hq1 : (W0.alloc (.cells #[.int .u64 (id : Int), .int .u64 (s.id : Int), .slice s.s.1 s.s.2.1 s.s.2.2, .slice s.e.1 s.e.2.1 s.e.2.2, .int .u64 (s.cf : Int), .int .u64 (s.vr : Int), .slice s.p.1 s.p.2.1 s.p.2.2, .int .u64 (t.id : Int), .slice t.s.1 t.s.2.1 t.s.2.2, .slice t.e.1 t.e.2.1 t.e.2.2, .int .u64 (t.cf : Int), .int .u64 (t.vr : Int), .slice t.p.1 t.p.2.1 t.p.2.2, .int .i64 st] 64)).heap[w.heap.size + 2]? = some (.cells (mgA id s t st) 64 (0, 0)) := by rw [← hz0]; exact heap_new W0 _
  have hs0 : (W0.alloc (.cells #[.int .u64 (id : Int), .int .u64 (s.id : Int), .slice s.s.1 s.s.2.1 s.s.2.2, .slice s.e.1 s.e.2.1 s.e.2.2, .int .u64 (s.cf : Int), .int .u64 (s.vr : Int), .slice s.p.1 s.p.2.1 s.p.2.2, .int .u64 (t.id : Int), .slice t.s.1 t.s.2.1 t.s.2.2, .slice t.e.1 t.e.2.1 t.e.2.2, .int .u64 (t.cf : Int), .int .u64 (t.vr : Int), .slice t.p.1 t.p.2.1 t.p.2.2, .int .i64 st] 64)).heap[w.heap.size]? = some (.cells #[.int .u64 0, .slice none 0 0, .slice none 0 0, .int .u64 0, .int .u64 0, .slice none 0 0] 34 (0, 0)) := (Below.heap_alloc W0 _ _ (by omega)).trans hr0
  have hs1 : (W0.alloc (.cells #[.int .u64 (id : Int), .int .u64 (s.id : Int), .slice s.s.1 s.s.2.1 s.s.2.2, .slice s.e.1 s.e.2.1 s.e.2.2, .int .u64 (s.cf : Int), .int .u64 (s.vr : Int), .slice s.p.1 s.p.2.1 s.p.2.2, .int .u64 (t.id : Int), .slice t.s.1 t.s.2.1 t.s.2.2, .slice t.e.1 t.e.2.1 t.e.2.2, .int .u64 (t.cf : Int), .int .u64 (t.vr : Int), .slice t.p.1 t.p.2.1 t.p.2.2, .int .i64 st] 64)).heap[w.heap.size + 1]? = some (.cells #[.int .u64 0, .slice none 0 0, .slice none 0 0, .int .u64 0, .int .u64 0, .slice none 0 0] 34 (0, 0)) := (Below.heap_alloc W0 _ _ (by omega)).trans hr1
  have HB : Hid _ := And.intro hB1 (And.intro hq1 (And.intro hs0 hs1))
  clear hB1 hq1 hs0 hs1 hr0 hr1
  go_upto_region 4 with fail
  obtain ⟨hB1, hq1, hs0, hs1⟩ := HB.out
  clear HB
  generalize (W0.alloc (.cells #[.int .u64 (id : Int), .int .u64 (s.id : Int), .slice s.s.1 s.s.2.1 s.s.2.2, .slice s.e.1 s.e.2.1 s.e.2.2, .int .u64 (s.cf : Int), .int .u64 (s.vr : Int), .slice s.p.1 s.p.2.1 s.p.2.2, .int .u64 (t.id : Int), .slice t.s.1 t.s.2.1 t.s.2.2, .slice t.e.1 t.e.2.1 t.e.2.2, .int .u64 (t.cf : Int), .int .u64 (t.vr : Int), .slice t.p.1 t.p.2.1 t.p.2.2, .int .i64 st] 64)) = W1 at *
  refine wp_region_heldN (S := fun W => W.heap[w.heap.size + 2]? = some (.cells (mgA id s t st) 64 (0, 0))) (L := []) (by kernel_rfl) ?_
  have hB2 : Below w.heap.size w W1.drew := hB1.drew
  have hq2 : W1.drew.heap[w.heap.size + 2]? = _ := hq1
  have hk0 : W1.drew.heap[w.heap.size]? = _ := hs0
  have hk1 : W1.drew.heap[w.heap.size + 1]? = _ := hs1
  clear hB1 hq1 hs0 hs1 hlk p7
  generalize W1.drew = W2 at *
  refine wpAnyN_take (i := 0) (v := .pointer (some ⟨w.heap.size + 2, 1, none⟩)) rfl (by kernel_rfl) (by kernel_rfl) (by kernel_rfl) (by kernel_rfl) (fun _ _ _ h => h) (.inl ⟨by kernel_rfl, fun W hW => by kernel_rfl⟩) hq2 ?_
  refine wpAnyN_take (i := 1) (v := .agg #[.int .u64 (s.id : Int), .slice s.s.1 s.s.2.1 s.s.2.2, .slice s.e.1 s.e.2.1 s.e.2.2, .int .u64 (s.cf : Int), .int .u64 (s.vr : Int), .slice s.p.1 s.p.2.1 s.p.2.2]) rfl (by kernel_rfl) (by kernel_rfl) (by kernel_rfl) (by kernel_rfl) (fun _ _ _ h => h) (.inl ⟨by kernel_rfl, fun W hW => by obtain ⟨m0, m1, m2, m3, m4, m5, m6, m7, m8, m9, m10, m11, m12, m13, _⟩ := cells14 hW; go_simp⟩) hq2 ?_
  refine wpAnyN_take (i := 3) (v := .pointer (some ⟨w.heap.size + 2, 7, none⟩)) rfl (by kernel_rfl) (by kernel_rfl) (by kernel_rfl) (by kernel_rfl) (fun _ _ _ h => h) (.inl ⟨by kernel_rfl, fun W hW => by kernel_rfl⟩) hq2 ?_
  refine wpAnyN_take (i := 4) (v := .agg #[.int .u64 (t.id : Int), .slice t.s.1 t.s.2.1 t.s.2.2, .slice t.e.1 t.e.2.1 t.e.2.2, .int .u64 (t.cf : Int), .int .u64 (t.vr : Int), .slice t.p.1 t.p.2.1 t.p.2.2]) rfl (by kernel_rfl) (by kernel_rfl) (by kernel_rfl) (by kernel_rfl) (fun _ _ _ h => h) (.inl ⟨by kernel_rfl, fun W hW => by obtain ⟨m0, m1, m2, m3, m4, m5, m6, m7, m8, m9, m10, m11, m12, m13, _⟩ := cells14 hW; go_simp⟩) hq2 ?_
  refine wpAnyN_take (i := 6) (v := .pointer (some ⟨w.heap.size + 2, 13, none⟩)) rfl (by kernel_rfl) (by kernel_rfl) (by kernel_rfl) (by kernel_rfl) (fun _ _ _ h => h) (.inl ⟨by kernel_rfl, fun W hW => by kernel_rfl⟩) hq2 ?_
  refine wpAnyN_take (i := 7) (v := .int .i64 st) rfl (by kernel_rfl) (by kernel_rfl) (by kernel_rfl) (by kernel_rfl) (fun _ _ _ h => h) (.inl ⟨by kernel_rfl, fun W hW => by obtain ⟨m0, m1, m2, m3, m4, m5, m6, m7, m8, m9, m10, m11, m12, m13, _⟩ := cells14 hW; go_simp⟩) hq2 ?_
  refine wpAnyN_one (i := 2) (by kernel_rfl) rfl (fun K hK => ?_)
  rw [if_pos (by kernel_rfl)]
  go_simp
  have hl2 : w.heap.size + 2 < W2.heap.size := (Array.getElem?_eq_some_iff.1 hq2).1
  have rs2 := HRR.out.1.below hB2 (Nat.le_refl _)
  refine (fresh_rg (id := (s.id : Int)) (cf := (s.cf : Int)) (vr := (s.vr : Int)) rs2.rs rs2.re rs2.rp rs2.sl rs2.el rs2.pl).mono ?_
  rintro y w3 ⟨sv, ev, pv, rfl, o3, b3⟩
  obtain ⟨sa, sc, rfl⟩ := o3.s.shp
  obtain ⟨ea, ec, rfl⟩ := o3.e.shp
  obtain ⟨pa, pc, rfl⟩ := o3.p.shape
  simp only []
  have hq3 : w3.heap[w.heap.size + 2]? = _ := (b3.block _ (by omega)).trans hq2
  have hk0' : w3.heap[w.heap.size]? = _ := (b3.block _ (by omega)).trans hk0
  have hk1' : w3.heap[w.heap.size + 1]? = _ := (b3.block _ (by omega)).trans hk1
  have hB3 : Below w.heap.size w w3 := hB2.trans (b3.mono hB2.size)
  refine hK _ _ (fun _ => hq3) ?_
  clear hK K
  refine wpAnyN_one (i := 5) (by kernel_rfl) rfl (fun K hK => ?_)
  rw [if_pos (by kernel_rfl)]
  go_simp
  have rt3 := HRR.out.2.below hB3 (Nat.le_refl _)
  have hl3 := b3.size
  refine (fresh_rg (id := (t.id : Int)) (cf := (t.cf : Int)) (vr := (t.vr : Int)) rt3.rs rt3.re rt3.rp rt3.sl rt3.el rt3.pl).mono ?_
  rintro y w4 ⟨tv, fv, qv, rfl, o4, b4⟩
  obtain ⟨ta, tc, rfl⟩ := o4.s.shp
  obtain ⟨fa, fc, rfl⟩ := o4.e.shp
  obtain ⟨qa, qc, rfl⟩ := o4.p.shape
  simp only []
  have hq4 : w4.heap[w.heap.size + 2]? = _ := (b4.block _ (by omega)).trans hq3
  have hj0 : w4.heap[w.heap.size]? = _ := (b4.block _ (by omega)).trans hk0'
  have hj1 : w4.heap[w.heap.size + 1]? = _ := (b4.block _ (by omega)).trans hk1'
  have hB4 : Below w.heap.size w w4 := hB3.trans (b4.mono hB3.size)
  have oA : OwR W2.heap.size w4 (.slice sa sb.length sc) (.slice ea se.length ec) (.slice pa sp.length pc) sb se sp := o3.below b4 (Nat.le_refl _)
  have hl4 := b4.size
  refine hK _ _ (fun _ => hq4) ?_
  clear hK K
  obtain ⟨c0, c1, c2, c3, c4, c5, cz⟩ := cells6 hj0
  have z0 := cz 0
  have z1 := cz 1
  have z2 := cz 2
  have z3 := cz 3
  have z4 := cz 4
  have z5 := cz 5
  have ch5 : Chg (fun b => b = w.heap.size) w4 ((((((w4.setCell ⟨w.heap.size, 0, none⟩ (.int .u64 (s.id : Int))).setCell ⟨w.heap.size, 1, none⟩ (.slice sa sb.length sc)).setCell ⟨w.heap.size, 2, none⟩ (.slice ea se.length ec)).setCell ⟨w.heap.size, 3, none⟩ (.int .u64 (s.cf : Int))).setCell ⟨w.heap.size, 4, none⟩ (.int .u64 (s.vr : Int))).setCell ⟨w.heap.size, 5, none⟩ (.slice pa sp.length pc)) := set6_chg w4 w.heap.size (.int .u64 (s.id : Int)) (.slice sa sb.length sc) (.slice ea se.length ec) (.int .u64 (s.cf : Int)) (.int .u64 (s.vr : Int)) (.slice pa sp.length pc)
  have hA5 : ((((((w4.setCell ⟨w.heap.size, 0, none⟩ (.int .u64 (s.id : Int))).setCell ⟨w.heap.size, 1, none⟩ (.slice sa sb.length sc)).setCell ⟨w.heap.size, 2, none⟩ (.slice ea se.length ec)).setCell ⟨w.heap.size, 3, none⟩ (.int .u64 (s.cf : Int))).setCell ⟨w.heap.size, 4, none⟩ (.int .u64 (s.vr : Int))).setCell ⟨w.heap.size, 5, none⟩ (.slice pa sp.length pc)).heap[w.heap.size]? = some (.cells #[.int .u64 (s.id : Int), .slice sa sb.length sc, .slice ea se.length ec, .int .u64 (s.cf : Int), .int .u64 (s.vr : Int), .slice pa sp.length pc] 34 (0, 0)) := set6_block hj0 (.int .u64 (s.id : Int)) (.slice sa sb.length sc) (.slice ea se.length ec) (.int .u64 (s.cf : Int)) (.int .u64 (s.vr : Int)) (.slice pa sp.length pc)
  have hq5 : ((((((w4.setCell ⟨w.heap.size, 0, none⟩ (.int .u64 (s.id : Int))).setCell ⟨w.heap.size, 1, none⟩ (.slice sa sb.length sc)).setCell ⟨w.heap.size, 2, none⟩ (.slice ea se.length ec)).setCell ⟨w.heap.size, 3, none⟩ (.int .u64 (s.cf : Int))).setCell ⟨w.heap.size, 4, none⟩ (.int .u64 (s.vr : Int))).setCell ⟨w.heap.size, 5, none⟩ (.slice pa sp.length pc)).heap[w.heap.size + 2]? = _ := (ch5.block _ (by omega) (by omega)).trans hq4
  have hj5 : ((((((w4.setCell ⟨w.heap.size, 0, none⟩ (.int .u64 (s.id : Int))).setCell ⟨w.heap.size, 1, none⟩ (.slice sa sb.length sc)).setCell ⟨w.heap.size, 2, none⟩ (.slice ea se.length ec)).setCell ⟨w.heap.size, 3, none⟩ (.int .u64 (s.cf : Int))).setCell ⟨w.heap.size, 4, none⟩ (.int .u64 (s.vr : Int))).setCell ⟨w.heap.size, 5, none⟩ (.slice pa sp.length pc)).heap[w.heap.size + 1]? = _ := (ch5.block _ (by omega) (by omega)).trans hj1
  have hB5 : Below w.heap.size w ((((((w4.setCell ⟨w.heap.size, 0, none⟩ (.int .u64 (s.id : Int))).setCell ⟨w.heap.size, 1, none⟩ (.slice sa sb.length sc)).setCell ⟨w.heap.size, 2, none⟩ (.slice ea se.length ec)).setCell ⟨w.heap.size, 3, none⟩ (.int .u64 (s.cf : Int))).setCell ⟨w.heap.size, 4, none⟩ (.int .u64 (s.vr : Int))).setCell ⟨w.heap.size, 5, none⟩ (.slice pa sp.length pc)) := hB4.trans (ch5.below (fun b q => by omega) hB4.size)
  have oA5 := oA.keptC ch5 (fun b q1 q2 => by omega)
  have oB5 := o4.keptC ch5 (fun b q1 q2 => by omega)
  have H5 : Hid _ := And.intro hA5 (And.intro hq5 (And.intro hj5 (And.intro hB5 (And.intro oA5 oB5))))
  have hl5 : w4.heap.size ≤ ((((((w4.setCell ⟨w.heap.size, 0, none⟩ (.int .u64 (s.id : Int))).setCell ⟨w.heap.size, 1, none⟩ (.slice sa sb.length sc)).setCell ⟨w.heap.size, 2, none⟩ (.slice ea se.length ec)).setCell ⟨w.heap.size, 3, none⟩ (.int .u64 (s.cf : Int))).setCell ⟨w.heap.size, 4, none⟩ (.int .u64 (s.vr : Int))).setCell ⟨w.heap.size, 5, none⟩ (.slice pa sp.length pc)).heap.size := ch5.size
  clear hA5 hj5 hB5 oA5 oB5 ch5 cz hj0 hj1 hq4 hB4 oA o4
  refine wpAnyN_one (i := 8) (by kernel_rfl) rfl (fun K hK => ?_)
  rw [if_pos (by kernel_rfl)]
  go_simp
  refine hK _ _ (fun _ => hq5) ?_
  clear hK K hq5 c0 c1 c2 c3 c4 c5 z0 z1 z2 z3 z4 z5
  obtain ⟨hA5, hq5, hj5, hB5, oA5, oB5⟩ := H5.out
  clear H5
  generalize ((((((w4.setCell ⟨w.heap.size, 0, none⟩ (.int .u64 (s.id : Int))).setCell ⟨w.heap.size, 1, none⟩ (.slice sa sb.length sc)).setCell ⟨w.heap.size, 2, none⟩ (.slice ea se.length ec)).setCell ⟨w.heap.size, 3, none⟩ (.int .u64 (s.cf : Int))).setCell ⟨w.heap.size, 4, none⟩ (.int .u64 (s.vr : Int))).setCell ⟨w.heap.size, 5, none⟩ (.slice pa sp.length pc)) = W5 at *
  obtain ⟨c0, c1, c2, c3, c4, c5, cz⟩ := cells6 hj5
  have z0 := cz 0
  have z1 := cz 1
  have z2 := cz 2
  have z3 := cz 3
  have z4 := cz 4
  have z5 := cz 5
  have ch6 : Chg (fun b => b = w.heap.size + 1) W5 ((((((W5.setCell ⟨w.heap.size + 1, 0, none⟩ (.int .u64 (t.id : Int))).setCell ⟨w.heap.size + 1, 1, none⟩ (.slice ta tb.length tc)).setCell ⟨w.heap.size + 1, 2, none⟩ (.slice fa te.length fc)).setCell ⟨w.heap.size + 1, 3, none⟩ (.int .u64 (t.cf : Int))).setCell ⟨w.heap.size + 1, 4, none⟩ (.int .u64 (t.vr : Int))).setCell ⟨w.heap.size + 1, 5, none⟩ (.slice qa tp.length qc)) := set6_chg W5 (w.heap.size + 1) (.int .u64 (t.id : Int)) (.slice ta tb.length tc) (.slice fa te.length fc) (.int .u64 (t.cf : Int)) (.int .u64 (t.vr : Int)) (.slice qa tp.length qc)
  have hD6 : ((((((W5.setCell ⟨w.heap.size + 1, 0, none⟩ (.int .u64 (t.id : Int))).setCell ⟨w.heap.size + 1, 1, none⟩ (.slice ta tb.length tc)).setCell ⟨w.heap.size + 1, 2, none⟩ (.slice fa te.length fc)).setCell ⟨w.heap.size + 1, 3, none⟩ (.int .u64 (t.cf : Int))).setCell ⟨w.heap.size + 1, 4, none⟩ (.int .u64 (t.vr : Int))).setCell ⟨w.heap.size + 1, 5, none⟩ (.slice qa tp.length qc)).heap[w.heap.size + 1]? = some (.cells #[.int .u64 (t.id : Int), .slice ta tb.length tc, .slice fa te.length fc, .int .u64 (t.cf : Int), .int .u64 (t.vr : Int), .slice qa tp.length qc] 34 (0, 0)) := set6_block hj5 (.int .u64 (t.id : Int)) (.slice ta tb.length tc) (.slice fa te.length fc) (.int .u64 (t.cf : Int)) (.int .u64 (t.vr : Int)) (.slice qa tp.length qc)
  have hA6 : ((((((W5.setCell ⟨w.heap.size + 1, 0, none⟩ (.int .u64 (t.id : Int))).setCell ⟨w.heap.size + 1, 1, none⟩ (.slice ta tb.length tc)).setCell ⟨w.heap.size + 1, 2, none⟩ (.slice fa te.length fc)).setCell ⟨w.heap.size + 1, 3, none⟩ (.int .u64 (t.cf : Int))).setCell ⟨w.heap.size + 1, 4, none⟩ (.int .u64 (t.vr : Int))).setCell ⟨w.heap.size + 1, 5, none⟩ (.slice qa tp.length qc)).heap[w.heap.size]? = _ := (ch6.block _ (by omega) (by omega)).trans hA5
  have hq6 : ((((((W5.setCell ⟨w.heap.size + 1, 0, none⟩ (.int .u64 (t.id : Int))).setCell ⟨w.heap.size + 1, 1, none⟩ (.slice ta tb.length tc)).setCell ⟨w.heap.size + 1, 2, none⟩ (.slice fa te.length fc)).setCell ⟨w.heap.size + 1, 3, none⟩ (.int .u64 (t.cf : Int))).setCell ⟨w.heap.size + 1, 4, none⟩ (.int .u64 (t.vr : Int))).setCell ⟨w.heap.size + 1, 5, none⟩ (.slice qa tp.length qc)).heap[w.heap.size + 2]? = _ := (ch6.block _ (by omega) (by omega)).trans hq5
  have hB6 : Below w.heap.size w ((((((W5.setCell ⟨w.heap.size + 1, 0, none⟩ (.int .u64 (t.id : Int))).setCell ⟨w.heap.size + 1, 1, none⟩ (.slice ta tb.length tc)).setCell ⟨w.heap.size + 1, 2, none⟩ (.slice fa te.length fc)).setCell ⟨w.heap.size + 1, 3, none⟩ (.int .u64 (t.cf : Int))).setCell ⟨w.heap.size + 1, 4, none⟩ (.int .u64 (t.vr : Int))).setCell ⟨w.heap.size + 1, 5, none⟩ (.slice qa tp.length qc)) := hB5.trans (ch6.below (fun b q => by omega) hB5.size)
  have oA6 := oA5.keptC ch6 (fun b q1 q2 => by omega)
  have oB6 := oB5.keptC ch6 (fun b q1 q2 => by omega)
  have H6 : Hid _ := And.intro hA6 (And.intro hD6 (And.intro hB6 (And.intro oA6 oB6)))
  clear hA6 hD6 hB6 oA6 oB6 ch6 cz hj5 hA5 hq5 hB5 oA5 oB5
  refine wpAnyN_one (i := 9) (by kernel_rfl) rfl (fun K hK => ?_)
  rw [if_pos (by kernel_rfl)]
  go_simp
  refine hK _ _ (fun _ => hq6) ?_
  clear hK K c0 c1 c2 c3 c4 c5 z0 z1 z2 z3 z4 z5
  obtain ⟨hA6, hD6, hB6, oA6, oB6⟩ := H6.out
  clear H6
  generalize ((((((W5.setCell ⟨w.heap.size + 1, 0, none⟩ (.int .u64 (t.id : Int))).setCell ⟨w.heap.size + 1, 1, none⟩ (.slice ta tb.length tc)).setCell ⟨w.heap.size + 1, 2, none⟩ (.slice fa te.length fc)).setCell ⟨w.heap.size + 1, 3, none⟩ (.int .u64 (t.cf : Int))).setCell ⟨w.heap.size + 1, 4, none⟩ (.int .u64 (t.vr : Int))).setCell ⟨w.heap.size + 1, 5, none⟩ (.slice qa tp.length qc)) = W6 at *
  refine wpAnyN_one (i := 10) (by kernel_rfl) rfl (fun K hK => ?_)
  rw [if_pos (by kernel_rfl)]
  go_simp
  refine hK _ _ (fun _ => hq6) ?_
  clear hK K
  refine ⟨by kernel_rfl, ?_⟩
  obtain ⟨k0, k1, k2, k3, k4, k5, _⟩ := cells6 hA6
  obtain ⟨j0, j1, j2, j3, j4, j5, _⟩ := cells6 hD6
  go_simp
  go_wp2_with fail
  refine bodyPost_ret (v := .tuple #[.agg #[.int .u64 (s.id : Int), .slice sa sb.length sc, .slice ea se.length ec, .int .u64 (s.cf : Int), .int .u64 (s.vr : Int), .slice pa sp.length pc], .agg #[.int .u64 (t.id : Int), .slice ta tb.length tc, .slice fa te.length fc, .int .u64 (t.cf : Int), .int .u64 (t.vr : Int), .slice qa tp.length qc], .int .i64 st]) (by simp [results, Try.results8, go_sem, k0, k1, k2, k3, k4, k5, j0, j1, j2, j3, j4, j5]; try rfl) rfl ?_
  exact ⟨_, _, _, _, _, _, rfl, oA6.mono (by omega), oB6.mono (by omega), hB6⟩
end
end Go.Proofs.Ytlfdcnojbbigbaa
