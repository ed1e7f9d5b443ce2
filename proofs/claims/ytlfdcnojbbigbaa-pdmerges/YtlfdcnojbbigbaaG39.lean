/- Split. -/
import Derived.Test.YtlfdcnojbbigbaaG38
import Derived.Deep.RegionHeld3
import Derived.Deep.CutRange
namespace Go.Proofs.Ytlfdcnojbbigbaa
open Go.RowKit
set_option linter.unusedVariables false
set_option maxRecDepth 100000

/-- The new region's peers. -/
def numP (ps : List Pe) (L : List UInt64) : List Pe := List.zipWith (fun p n => (n, p.2)) ps L
/-- A block holds a region whose lists are of the call's own. -/
structure BxR (B g : Nat) (id cf vr : Int) (s e : List UInt8) (ps : List Pe) (sv ev pv : Value) (w : World) : Prop where
  blk : w.heap[g]? = some (.cells #[.int .u64 id, sv, ev, .int .u64 cf, .int .u64 vr, pv] 34 (0, 0))
  own : OwR B w sv ev pv s e ps
  ns : ∀ b, (sv.ownBlock = some b ∨ ev.ownBlock = some b ∨ pv.ownBlock = some b) → b ≠ g

def zeroR : Obj := .cells #[.int .u64 0, .slice none 0 0, .slice none 0 0, .int .u64 0, .int .u64 0, .slice none 0 0] 34
set_option maxHeartbeats 40000000 in
theorem split_ok {id nid vr : UInt64} {cf : Int} {sv ev pv kv lv : Value} {s e k : List UInt8} {ps : List Pe} {L : List UInt64} {w : World} (hs : Rd w sv s) (he : Rd w ev e) (hp : RdPe w pv ps) (hk : Rd w kv k) (hL : Ru w lv L) (hok : cspE id nid vr s e k ps L = 0) (hsl : s.length ≤ 64) (hel : e.length ≤ 64) (hpl : ps.length ≤ 9) (hkl : k.length ≤ 64) (hvr : vr.toNat < 18446744073709551615) (hLp : L.length = ps.length) :
    Calls Try.prog 6 #[.agg #[.int .u64 (id.toNat : Int), sv, ev, .int .u64 cf, .int .u64 (vr.toNat : Int), pv], kv, .int .u64 (nid.toNat : Int), lv] w fun x w' => ∃ sv1 kv1 pv1 kv2 ev2 pv2, x = .returned (.tuple #[.agg #[.int .u64 (id.toNat : Int), sv1, kv1, .int .u64 cf, .int .u64 ((vr.toNat : Int) + 1), pv1], .agg #[.int .u64 (nid.toNat : Int), kv2, ev2, .int .u64 cf, .int .u64 ((vr.toNat : Int) + 1), pv2], .int .i64 0]) ∧ OwR w.heap.size w' sv1 kv1 pv1 s k ps ∧ OwR w.heap.size w' kv2 ev2 pv2 k e (numP ps L) ∧ Below w.heap.size w w' := by
  have HRS : Hid (Rd w sv s ∧ Rd w ev e ∧ RdPe w pv ps ∧ Rd w kv k ∧ Ru w lv L) := ⟨hs, he, hp, hk, hL⟩
  have HLP : Hid _ := hLp
  clear hLp
  have hcs : ∀ W, Below w.heap.size w W → Calls Try.prog 10 #[.agg #[.int .u64 (id.toNat : Int), sv, ev, .int .u64 cf, .int .u64 (vr.toNat : Int), pv], kv, .int .u64 (nid.toNat : Int), lv] W fun x w' => x = .returned (.int .i64 0) ∧ Below W.heap.size W w' := fun W hW => by
    have := checkSplit_any (cf := cf) (id := id) (nid := nid) (vr := vr) (hs.below hW (Nat.le_refl _)) (he.below hW (Nat.le_refl _)) (hp.below hW (Nat.le_refl _)) (hk.below hW (Nat.le_refl _)) (hL.below hW (Nat.le_refl _))
    rw [hok] at this
    exact this
  have hcl : ∀ W, Below w.heap.size w W → Calls Try.prog 11 #[.agg #[.int .u64 (id.toNat : Int), sv, ev, .int .u64 cf, .int .u64 ((vr.toNat : Int) + 1), pv]] W fun x w' => ∃ sv' ev' pv', x = .returned (.agg #[.int .u64 (id.toNat : Int), sv', ev', .int .u64 cf, .int .u64 ((vr.toNat : Int) + 1), pv']) ∧ OwR W.heap.size w' sv' ev' pv' s e ps ∧ Below W.heap.size W w' := fun W hW => clone_rg (hs.below hW (Nat.le_refl _)) (he.below hW (Nat.le_refl _)) (hp.below hW (Nat.le_refl _)) (by omega) (by omega) (by omega)
  obtain ⟨sa, sc, rfl⟩ := hs.shp
  obtain ⟨ea, ec, rfl⟩ := he.shp
  obtain ⟨pa, pk, rfl, _⟩ := hp.shape
  obtain ⟨ka, kc, rfl⟩ := hk.shp
  obtain ⟨la, lc, rfl⟩ := hL.shape
  clear hs he hp hk hL hok
  have hB0 : Below w.heap.size w (((w.alloc (.cells #[.int .u64 (id.toNat : Int), .slice sa s.length sc, .slice ea e.length ec, .int .u64 cf, .int .u64 (vr.toNat : Int), .slice pa ps.length pk] 34)).alloc (.cells #[.int .u64 0, .slice none 0 0, .slice none 0 0, .int .u64 0, .int .u64 0, .slice none 0 0] 34)).alloc (.cells #[.int .u64 0, .slice none 0 0, .slice none 0 0, .int .u64 0, .int .u64 0, .slice none 0 0] 34)) := ((g_al w _).alloc (by simp) _).alloc (by simp; omega) _
  have hk0 : (((w.alloc (.cells #[.int .u64 (id.toNat : Int), .slice sa s.length sc, .slice ea e.length ec, .int .u64 cf, .int .u64 (vr.toNat : Int), .slice pa ps.length pk] 34)).alloc (.cells #[.int .u64 0, .slice none 0 0, .slice none 0 0, .int .u64 0, .int .u64 0, .slice none 0 0] 34)).alloc (.cells #[.int .u64 0, .slice none 0 0, .slice none 0 0, .int .u64 0, .int .u64 0, .slice none 0 0] 34)).heap[w.heap.size]? = some (.cells #[.int .u64 (id.toNat : Int), .slice sa s.length sc, .slice ea e.length ec, .int .u64 cf, .int .u64 (vr.toNat : Int), .slice pa ps.length pk] 34 (0, 0)) := by
    rw [Below.heap_alloc _ _ _ (by simp; omega), Below.heap_alloc _ _ _ (by simp)]; exact heap_alloc_new w _
  have hr0 : (((w.alloc (.cells #[.int .u64 (id.toNat : Int), .slice sa s.length sc, .slice ea e.length ec, .int .u64 cf, .int .u64 (vr.toNat : Int), .slice pa ps.length pk] 34)).alloc (.cells #[.int .u64 0, .slice none 0 0, .slice none 0 0, .int .u64 0, .int .u64 0, .slice none 0 0] 34)).alloc (.cells #[.int .u64 0, .slice none 0 0, .slice none 0 0, .int .u64 0, .int .u64 0, .slice none 0 0] 34)).heap[w.heap.size + 1]? = some (.cells #[.int .u64 0, .slice none 0 0, .slice none 0 0, .int .u64 0, .int .u64 0, .slice none 0 0] 34 (0, 0)) := by
    rw [Below.heap_alloc _ _ _ (by simp)]
    have := heap_alloc_new (w.alloc (.cells #[.int .u64 (id.toNat : Int), .slice sa s.length sc, .slice ea e.length ec, .int .u64 cf, .int .u64 (vr.toNat : Int), .slice pa ps.length pk] 34)) (.cells #[.int .u64 0, .slice none 0 0, .slice none 0 0, .int .u64 0, .int .u64 0, .slice none 0 0] 34)
    rw [World.size_alloc] at this
    exact this
  have hr1 : (((w.alloc (.cells #[.int .u64 (id.toNat : Int), .slice sa s.length sc, .slice ea e.length ec, .int .u64 cf, .int .u64 (vr.toNat : Int), .slice pa ps.length pk] 34)).alloc (.cells #[.int .u64 0, .slice none 0 0, .slice none 0 0, .int .u64 0, .int .u64 0, .slice none 0 0] 34)).alloc (.cells #[.int .u64 0, .slice none 0 0, .slice none 0 0, .int .u64 0, .int .u64 0, .slice none 0 0] 34)).heap[w.heap.size + 1 + 1]? = some (.cells #[.int .u64 0, .slice none 0 0, .slice none 0 0, .int .u64 0, .int .u64 0, .slice none 0 0] 34 (0, 0)) := by
    have := heap_alloc_new ((w.alloc (.cells #[.int .u64 (id.toNat : Int), .slice sa s.length sc, .slice ea e.length ec, .int .u64 cf, .int .u64 (vr.toNat : Int), .slice pa ps.length pk] 34)).alloc (.cells #[.int .u64 0, .slice none 0 0, .slice none 0 0, .int .u64 0, .int .u64 0, .slice none 0 0] 34)) (.cells #[.int .u64 0, .slice none 0 0, .slice none 0 0, .int .u64 0, .int .u64 0, .slice none 0 0] 34)
    rw [World.size_alloc, World.size_alloc] at this
    exact this
  have hz0 : (((w.alloc (.cells #[.int .u64 (id.toNat : Int), .slice sa s.length sc, .slice ea e.length ec, .int .u64 cf, .int .u64 (vr.toNat : Int), .slice pa ps.length pk] 34)).alloc (.cells #[.int .u64 0, .slice none 0 0, .slice none 0 0, .int .u64 0, .int .u64 0, .slice none 0 0] 34)).alloc (.cells #[.int .u64 0, .slice none 0 0, .slice none 0 0, .int .u64 0, .int .u64 0, .slice none 0 0] 34)).heap.size > w.heap.size + 1 + 1 := by simp
  go_enter Try.func6, Try.ntmps6
  go_wp2_with fail
  generalize (((w.alloc (.cells #[.int .u64 (id.toNat : Int), .slice sa s.length sc, .slice ea e.length ec, .int .u64 cf, .int .u64 (vr.toNat : Int), .slice pa ps.length pk] 34)).alloc (.cells #[.int .u64 0, .slice none 0 0, .slice none 0 0, .int .u64 0, .int .u64 0, .slice none 0 0] 34)).alloc (.cells #[.int .u64 0, .slice none 0 0, .slice none 0 0, .int .u64 0, .int .u64 0, .slice none 0 0] 34)) = W0 at *
  refine (hcs _ hB0).mono ?_
  rintro x w1 ⟨rfl, b1⟩
  have hs1 := b1.size
  have hk1 : w1.heap[w.heap.size]? = _ := (b1.block _ (by omega)).trans hk0
  have hr01 : w1.heap[w.heap.size + 1]? = _ := (b1.block _ (by omega)).trans hr0
  have hr11 : w1.heap[w.heap.size + 1 + 1]? = _ := (b1.block _ (by omega)).trans hr1
  have hB1 : Below w.heap.size w w1 := hB0.trans (b1.mono hB0.size)
  obtain ⟨c0, c1, c2, c3, c4, c5, cz⟩ := cells6 hk1
  have z4 := cz 4
  have ch1 := put1_chg w1 w.heap.size 4 (.int .u64 ((vr.toNat : Int) + 1))
  have hq1 : (w1.setCell ⟨w.heap.size, 4, none⟩ (.int .u64 ((vr.toNat : Int) + 1))).heap[w.heap.size]? = some (.cells #[.int .u64 (id.toNat : Int), .slice sa s.length sc, .slice ea e.length ec, .int .u64 cf, .int .u64 ((vr.toNat : Int) + 1), .slice pa ps.length pk] 34 (0, 0)) := put1_block hk1 _
  have hp1 : (w1.setCell ⟨w.heap.size, 4, none⟩ (.int .u64 ((vr.toNat : Int) + 1))).heap[w.heap.size + 1]? = _ := (ch1.block _ (by omega) (by omega)).trans hr01
  have hp2 : (w1.setCell ⟨w.heap.size, 4, none⟩ (.int .u64 ((vr.toNat : Int) + 1))).heap[w.heap.size + 1 + 1]? = _ := (ch1.block _ (by omega) (by omega)).trans hr11
  have hC1 : Below w.heap.size w (w1.setCell ⟨w.heap.size, 4, none⟩ (.int .u64 ((vr.toNat : Int) + 1))) := hB1.trans (ch1.below (fun b q => by omega) hB1.size)
  have hss1 : (w1.setCell ⟨w.heap.size, 4, none⟩ (.int .u64 ((vr.toNat : Int) + 1))).heap.size > w.heap.size + 1 + 1 := by have := ch1.size; omega
  clear cz hk0 hr0 hr1 hk1 hr01 hr11 ch1 hB1 b1 hs1
  go_upto_region 5 with fail
  clear c0 c1 c2 c3 c4 c5 z4
  generalize (w1.setCell ⟨w.heap.size, 4, none⟩ (.int .u64 ((vr.toNat : Int) + 1))) = W1 at *
  obtain ⟨c0, c1, c2, c3, c4, c5, _⟩ := cells6 hq1
  have hD0 : Below W1.heap.size W1 W1.drew := Below.dN W1 1
  have HKK : Hid (∀ W, Below W1.heap.size W1 W → W.heap[w.heap.size]? = some (.cells #[.int .u64 (id.toNat : Int), .slice sa s.length sc, .slice ea e.length ec, .int .u64 cf, .int .u64 ((vr.toNat : Int) + 1), .slice pa ps.length pk] 34 (0, 0))) := fun W hW => by rw [hW.block _ (by omega)]; exact hq1
  have hcl2 : ∀ W, Below W1.heap.size W1 W → Calls Try.prog 11 #[.agg #[.int .u64 (id.toNat : Int), .slice sa s.length sc, .slice ea e.length ec, .int .u64 cf, .int .u64 ((vr.toNat : Int) + 1), .slice pa ps.length pk]] W fun x w' => ∃ a1 d1 a2 d2 a3 d3, x = .returned (.agg #[.int .u64 (id.toNat : Int), .slice a1 s.length d1, .slice a2 e.length d2, .int .u64 cf, .int .u64 ((vr.toNat : Int) + 1), .slice a3 ps.length d3]) ∧ OwR W.heap.size w' (.slice a1 s.length d1) (.slice a2 e.length d2) (.slice a3 ps.length d3) s e ps ∧ Below W.heap.size W w' ∧ Below W1.heap.size W1 w' ∧ w'.cell? ⟨w.heap.size, 0, none⟩ = some (.int .u64 (id.toNat : Int)) ∧ w'.cell? ⟨w.heap.size, 1, none⟩ = some (.slice sa s.length sc) ∧ w'.cell? ⟨w.heap.size, 2, none⟩ = some (.slice ea e.length ec) ∧ w'.cell? ⟨w.heap.size, 3, none⟩ = some (.int .u64 cf) ∧ w'.cell? ⟨w.heap.size, 4, none⟩ = some (.int .u64 ((vr.toNat : Int) + 1)) ∧ w'.cell? ⟨w.heap.size, 5, none⟩ = some (.slice pa ps.length pk) := fun W hW => (hcl W (hC1.trans (hW.mono hC1.size))).mono (by
    rintro x w' ⟨v1, v2, v3, rfl, ho, hb⟩
    obtain ⟨a1, d1, rfl⟩ := ho.s.shp
    obtain ⟨a2, d2, rfl⟩ := ho.e.shp
    obtain ⟨a3, d3, rfl⟩ := ho.p.shape
    have hb2 : Below W1.heap.size W1 w' := hW.trans (hb.mono hW.size)
    obtain ⟨q0, q1, q2, q3, q4, q5, _⟩ := cells6 (HKK.out w' hb2)
    exact ⟨a1, d1, a2, d2, a3, d3, rfl, ho, hb, hb2, q0, q1, q2, q3, q4, q5⟩)
  have hA1 : Below W1.heap.size W1 (W1.alloc (.cells #[.int .u64 0, .slice none 0 0, .slice none 0 0, .int .u64 0, .int .u64 0, .slice none 0 0] 34)).drew := (g_al W1 _).trans ((Below.dN _ 1).mono (g_al W1 _).size)
  have hA2 : Below W1.heap.size W1 ((W1.alloc (.cells #[.int .u64 0, .slice none 0 0, .slice none 0 0, .int .u64 0, .int .u64 0, .slice none 0 0] 34)).alloc (.cells #[.int .u64 0, .slice none 0 0, .slice none 0 0, .int .u64 0, .int .u64 0, .slice none 0 0] 34)).drew := ((g_al W1 _).alloc (g_al W1 _).size _).trans ((Below.dN _ 1).mono ((g_al W1 _).alloc (g_al W1 _).size _).size)
  have nw1 : ¬ w.heap.size = W1.heap.size := by omega
  have nw2 : ¬ W1.heap.size = w.heap.size := by omega
  have nw3 : ¬ w.heap.size = W1.heap.size + 1 := by omega
  have nw4 : ¬ W1.heap.size + 1 = w.heap.size := by omega
  go_cut [12, 13] from 16 to 59 (fun p q wx => ∃ (gl gh : Nat) (u v x u2 v2 x2 : Value), p = .pointer (some ⟨gl, 0, none⟩) ∧ q = .pointer (some ⟨gh, 0, none⟩) ∧ Sp5 W1 (id.toNat : Int) cf ((vr.toNat : Int) + 1) s e ps gl gh u v x u2 v2 x2 wx)
  case first =>
    go_region_held3 (fun w' => w'.cell? ⟨w.heap.size, 0, none⟩ = some (.int .u64 (id.toNat : Int)) ∧ w'.cell? ⟨w.heap.size, 1, none⟩ = some (.slice sa s.length sc) ∧ w'.cell? ⟨w.heap.size, 2, none⟩ = some (.slice ea e.length ec) ∧ w'.cell? ⟨w.heap.size, 3, none⟩ = some (.int .u64 cf) ∧ w'.cell? ⟨w.heap.size, 4, none⟩ = some (.int .u64 ((vr.toNat : Int) + 1)) ∧ w'.cell? ⟨w.heap.size, 5, none⟩ = some (.slice pa ps.length pk)) (first | go_keep | simp only [World.cell?_setCell_far, World.cell?_alloc_some, ne_eq, not_false_eq_true, Option.isSome_some, and_self, nw1, nw2, nw3, nw4, ne1a, ne1b, ne2a, ne2b, ne7a, ne7b, ne8a, ne8b, r0, r1, r2, r3, r4, r5]) (first
    | (go_at_call 11; refine (hcl2 _ ((y4.alloc y4.size _).alloc (Nat.le_trans y4.size (by simp)) _)).mono ?_; rintro x w4 ⟨f1, g1, f2, g2, f3, g3, rfl, po, pb, pb4, r0, r1, r2, r3, r4, r5⟩; obtain ⟨v0, v1, v2, v3, v4, v5, _⟩ := cells6 (HKK.out (w4.alloc (.cells #[.int .u64 0, .slice none 0 0, .slice none 0 0, .int .u64 0, .int .u64 0, .slice none 0 0] 34)) (pb4.alloc pb4.size _)); have ps4 : w3.heap.size + 1 + 1 ≤ w4.heap.size := (by have h := pb.size; rw [World.size_alloc, World.size_alloc] at h; exact h); have zC : w4.heap[w3.heap.size]? = some (.cells #[.int .u64 0, .slice none 0 0, .slice none 0 0, .int .u64 0, .int .u64 0, .slice none 0 0] 34 (0, 0)) := (pb.block _ (by simp; omega)).trans ((Below.heap_alloc _ _ _ (by simp)).trans (heap_alloc_new w3 _)); have zD : w4.heap[w3.heap.size + 1]? = some (.cells #[.int .u64 0, .slice none 0 0, .slice none 0 0, .int .u64 0, .int .u64 0, .slice none 0 0] 34 (0, 0)) := (pb.block _ (by simp)).trans (by have := heap_alloc_new (w3.alloc (.cells #[.int .u64 0, .slice none 0 0, .slice none 0 0, .int .u64 0, .int .u64 0, .slice none 0 0] 34)) (.cells #[.int .u64 0, .slice none 0 0, .slice none 0 0, .int .u64 0, .int .u64 0, .slice none 0 0] 34); rw [World.size_alloc] at this; exact this); obtain ⟨tc0, tc1, tc2, tc3, tc4, tc5, tcz⟩ := cells6 zC; have tcz0 := tcz 0; have tcz1 := tcz 1; have tcz2 := tcz 2; have tcz3 := tcz 3; have tcz4 := tcz 4; have tcz5 := tcz 5; clear tcz; obtain ⟨td0, td1, td2, td3, td4, td5, tdz⟩ := cells6 zD; have tdz0 := tdz 0; have tdz1 := tdz 1; have tdz2 := tdz 2; have tdz3 := tdz 3; have tdz4 := tdz 4; have tdz5 := tdz 5; clear tdz; have po0 : OwR W1.heap.size w4 (.slice f1 s.length g1) (.slice f2 e.length g2) (.slice f3 ps.length g3) s e ps := po.mono ((y4.alloc y4.size (.cells #[.int .u64 0, .slice none 0 0, .slice none 0 0, .int .u64 0, .int .u64 0, .slice none 0 0] 34)).alloc (Nat.le_trans y4.size (by simp)) (.cells #[.int .u64 0, .slice none 0 0, .slice none 0 0, .int .u64 0, .int .u64 0, .slice none 0 0] 34)).size; have yo4 : OwR W1.heap.size w4 (.slice a1 s.length d1) (.slice a2 e.length d2) (.slice a3 ps.length d3) s e ps := ((yo0.below (g_al w3 _) (Nat.le_refl _)).below (g_al _ _) (Nat.le_refl _)).below pb (Nat.le_refl _); have pL : ∀ b, Bl (.slice f1 s.length g1) (.slice f2 e.length g2) (.slice f3 ps.length g3) b → w3.heap.size + 1 + 1 ≤ b ∧ b < w4.heap.size := (fun b q => ⟨Nat.le_trans (show w3.heap.size + 1 + 1 ≤ ((w3.alloc (.cells #[.int .u64 0, .slice none 0 0, .slice none 0 0, .int .u64 0, .int .u64 0, .slice none 0 0] 34)).alloc (.cells #[.int .u64 0, .slice none 0 0, .slice none 0 0, .int .u64 0, .int .u64 0, .slice none 0 0] 34)).heap.size from by simp) (po.lt q).1, (po.lt q).2⟩); have ne7a : ¬ w.heap.size = w4.heap.size := (by omega); have ne7b : ¬ w4.heap.size = w.heap.size := (by omega); have ne8a : ¬ w.heap.size = w4.heap.size + 1 := (by omega); have ne8b : ¬ w4.heap.size + 1 = w.heap.size := (by omega); (try (have ne9a : ¬ W1.heap.size = w4.heap.size := (by omega); have ne9b : ¬ w4.heap.size = W1.heap.size := (by omega))); (try (have ne10a : ¬ W1.heap.size = w4.heap.size + 1 := (by omega); have ne10b : ¬ w4.heap.size + 1 = W1.heap.size := (by omega))); (try (have ne11a : ¬ W1.heap.size + 1 = w4.heap.size := (by omega); have ne11b : ¬ w4.heap.size = W1.heap.size + 1 := (by omega))); (try (have ne12a : ¬ W1.heap.size + 1 = w4.heap.size + 1 := (by omega); have ne12b : ¬ w4.heap.size + 1 = W1.heap.size + 1 := (by omega))); (try (have ne13a : ¬ w3.heap.size = w4.heap.size := (by omega); have ne13b : ¬ w4.heap.size = w3.heap.size := (by omega))); (try (have ne14a : ¬ w3.heap.size = w4.heap.size + 1 := (by omega); have ne14b : ¬ w4.heap.size + 1 = w3.heap.size := (by omega))); (try (have ne15a : ¬ w3.heap.size + 1 = w4.heap.size := (by omega); have ne15b : ¬ w4.heap.size = w3.heap.size + 1 := (by omega))); (try (have ne16a : ¬ w3.heap.size + 1 = w4.heap.size + 1 := (by omega); have ne16b : ¬ w4.heap.size + 1 = w3.heap.size + 1 := (by omega))))
    | (go_at_call 11; refine (hcl2 _ (y4.alloc y4.size _)).mono ?_; rintro x w4 ⟨f1, g1, f2, g2, f3, g3, rfl, po, pb, pb4, r0, r1, r2, r3, r4, r5⟩; obtain ⟨v0, v1, v2, v3, v4, v5, _⟩ := cells6 (HKK.out (w4.alloc (.cells #[.int .u64 0, .slice none 0 0, .slice none 0 0, .int .u64 0, .int .u64 0, .slice none 0 0] 34)) (pb4.alloc pb4.size _)); have ps4 : w3.heap.size + 1 ≤ w4.heap.size := (by have h := pb.size; rw [World.size_alloc] at h; exact h); have zC : w4.heap[w3.heap.size]? = some (.cells #[.int .u64 0, .slice none 0 0, .slice none 0 0, .int .u64 0, .int .u64 0, .slice none 0 0] 34 (0, 0)) := (pb.block _ (by simp)).trans (heap_alloc_new w3 _); obtain ⟨tc0, tc1, tc2, tc3, tc4, tc5, tcz⟩ := cells6 zC; have tcz0 := tcz 0; have tcz1 := tcz 1; have tcz2 := tcz 2; have tcz3 := tcz 3; have tcz4 := tcz 4; have tcz5 := tcz 5; clear tcz; have zC5 : ∀ o, (w4.alloc o).heap[w3.heap.size]? = some (.cells #[.int .u64 0, .slice none 0 0, .slice none 0 0, .int .u64 0, .int .u64 0, .slice none 0 0] 34 (0, 0)) := fun o => (Below.heap_alloc _ _ _ (by omega)).trans zC; have uc0 := fun o => (cells6 (zC5 o)).1; have uc1 := fun o => (cells6 (zC5 o)).2.1; have uc2 := fun o => (cells6 (zC5 o)).2.2.1; have uc3 := fun o => (cells6 (zC5 o)).2.2.2.1; have uc4 := fun o => (cells6 (zC5 o)).2.2.2.2.1; have uc5 := fun o => (cells6 (zC5 o)).2.2.2.2.2.1; have ucz0 := fun o => (cells6 (zC5 o)).2.2.2.2.2.2 0; have ucz1 := fun o => (cells6 (zC5 o)).2.2.2.2.2.2 1; have ucz2 := fun o => (cells6 (zC5 o)).2.2.2.2.2.2 2; have ucz3 := fun o => (cells6 (zC5 o)).2.2.2.2.2.2 3; have ucz4 := fun o => (cells6 (zC5 o)).2.2.2.2.2.2 4; have ucz5 := fun o => (cells6 (zC5 o)).2.2.2.2.2.2 5; (try (have zA4 := (pb.block W1.heap.size (by simp; omega)).trans ((Below.heap_alloc _ _ _ (by omega)).trans zA); obtain ⟨ta0, ta1, ta2, ta3, ta4, ta5, taz⟩ := cells6 zA4; have taz0 := taz 0; have taz1 := taz 1; have taz2 := taz 2; have taz3 := taz 3; have taz4 := taz 4; have taz5 := taz 5; clear taz; skip)); have po0 : OwR W1.heap.size w4 (.slice f1 s.length g1) (.slice f2 e.length g2) (.slice f3 ps.length g3) s e ps := po.mono (y4.alloc y4.size (.cells #[.int .u64 0, .slice none 0 0, .slice none 0 0, .int .u64 0, .int .u64 0, .slice none 0 0] 34)).size; have yo4 : OwR W1.heap.size w4 (.slice a1 s.length d1) (.slice a2 e.length d2) (.slice a3 ps.length d3) s e ps := (yo0.below (g_al w3 _) (Nat.le_refl _)).below pb (Nat.le_refl _); have pL : ∀ b, Bl (.slice f1 s.length g1) (.slice f2 e.length g2) (.slice f3 ps.length g3) b → w3.heap.size + 1 ≤ b ∧ b < w4.heap.size := (fun b q => ⟨Nat.le_trans (show w3.heap.size + 1 ≤ (w3.alloc (.cells #[.int .u64 0, .slice none 0 0, .slice none 0 0, .int .u64 0, .int .u64 0, .slice none 0 0] 34)).heap.size from by simp) (po.lt q).1, (po.lt q).2⟩); have ne7a : ¬ w.heap.size = w4.heap.size := (by omega); have ne7b : ¬ w4.heap.size = w.heap.size := (by omega); have ne8a : ¬ w.heap.size = w4.heap.size + 1 := (by omega); have ne8b : ¬ w4.heap.size + 1 = w.heap.size := (by omega); (try (have ne9a : ¬ W1.heap.size = w4.heap.size := (by omega); have ne9b : ¬ w4.heap.size = W1.heap.size := (by omega))); (try (have ne10a : ¬ W1.heap.size = w4.heap.size + 1 := (by omega); have ne10b : ¬ w4.heap.size + 1 = W1.heap.size := (by omega))); (try (have ne11a : ¬ W1.heap.size + 1 = w4.heap.size := (by omega); have ne11b : ¬ w4.heap.size = W1.heap.size + 1 := (by omega))); (try (have ne12a : ¬ W1.heap.size + 1 = w4.heap.size + 1 := (by omega); have ne12b : ¬ w4.heap.size + 1 = W1.heap.size + 1 := (by omega))); (try (have ne13a : ¬ w3.heap.size = w4.heap.size := (by omega); have ne13b : ¬ w4.heap.size = w3.heap.size := (by omega))); (try (have ne14a : ¬ w3.heap.size = w4.heap.size + 1 := (by omega); have ne14b : ¬ w4.heap.size + 1 = w3.heap.size := (by omega))); (try (have ne15a : ¬ w3.heap.size + 1 = w4.heap.size := (by omega); have ne15b : ¬ w4.heap.size = w3.heap.size + 1 := (by omega))); (try (have ne16a : ¬ w3.heap.size + 1 = w4.heap.size + 1 := (by omega); have ne16b : ¬ w4.heap.size + 1 = w3.heap.size + 1 := (by omega))))
    | (go_at_call 11; refine (hcl2 _ y4).mono ?_; rintro x w4 ⟨f1, g1, f2, g2, f3, g3, rfl, po, pb, pb4, r0, r1, r2, r3, r4, r5⟩; obtain ⟨v0, v1, v2, v3, v4, v5, _⟩ := cells6 (HKK.out (w4.alloc (.cells #[.int .u64 0, .slice none 0 0, .slice none 0 0, .int .u64 0, .int .u64 0, .slice none 0 0] 34)) (pb4.alloc pb4.size _)); have ps4 := pb.size; (try (have zA4 := (pb.block W1.heap.size (by omega)).trans zA; obtain ⟨ta0, ta1, ta2, ta3, ta4, ta5, taz⟩ := cells6 zA4; have taz0 := taz 0; have taz1 := taz 1; have taz2 := taz 2; have taz3 := taz 3; have taz4 := taz 4; have taz5 := taz 5; clear taz; have zA5 : ∀ o, (w4.alloc o).heap[W1.heap.size]? = some (.cells #[.int .u64 0, .slice none 0 0, .slice none 0 0, .int .u64 0, .int .u64 0, .slice none 0 0] 34 (0, 0)) := fun o => (Below.heap_alloc _ _ _ (by omega)).trans zA4; have ua0 := fun o => (cells6 (zA5 o)).1; have ua1 := fun o => (cells6 (zA5 o)).2.1; have ua2 := fun o => (cells6 (zA5 o)).2.2.1; have ua3 := fun o => (cells6 (zA5 o)).2.2.2.1; have ua4 := fun o => (cells6 (zA5 o)).2.2.2.2.1; have ua5 := fun o => (cells6 (zA5 o)).2.2.2.2.2.1; have uaz0 := fun o => (cells6 (zA5 o)).2.2.2.2.2.2 0; have uaz1 := fun o => (cells6 (zA5 o)).2.2.2.2.2.2 1; have uaz2 := fun o => (cells6 (zA5 o)).2.2.2.2.2.2 2; have uaz3 := fun o => (cells6 (zA5 o)).2.2.2.2.2.2 3; have uaz4 := fun o => (cells6 (zA5 o)).2.2.2.2.2.2 4; have uaz5 := fun o => (cells6 (zA5 o)).2.2.2.2.2.2 5; skip)); (try (have zB4 := (pb.block (W1.heap.size + 1) (by omega)).trans zB; obtain ⟨tb0, tb1, tb2, tb3, tb4, tb5, tbz⟩ := cells6 zB4; have tbz0 := tbz 0; have tbz1 := tbz 1; have tbz2 := tbz 2; have tbz3 := tbz 3; have tbz4 := tbz 4; have tbz5 := tbz 5; clear tbz; skip)); have po0 : OwR W1.heap.size w4 (.slice f1 s.length g1) (.slice f2 e.length g2) (.slice f3 ps.length g3) s e ps := po.mono y4.size; have yo4 : OwR W1.heap.size w4 (.slice a1 s.length d1) (.slice a2 e.length d2) (.slice a3 ps.length d3) s e ps := yo0.below pb (Nat.le_refl _); have pL : ∀ b, Bl (.slice f1 s.length g1) (.slice f2 e.length g2) (.slice f3 ps.length g3) b → w3.heap.size ≤ b ∧ b < w4.heap.size := (fun b q => ⟨Nat.le_trans (show w3.heap.size ≤ w3.heap.size from by exact Nat.le_refl _) (po.lt q).1, (po.lt q).2⟩); have ne7a : ¬ w.heap.size = w4.heap.size := (by omega); have ne7b : ¬ w4.heap.size = w.heap.size := (by omega); have ne8a : ¬ w.heap.size = w4.heap.size + 1 := (by omega); have ne8b : ¬ w4.heap.size + 1 = w.heap.size := (by omega); (try (have ne9a : ¬ W1.heap.size = w4.heap.size := (by omega); have ne9b : ¬ w4.heap.size = W1.heap.size := (by omega))); (try (have ne10a : ¬ W1.heap.size = w4.heap.size + 1 := (by omega); have ne10b : ¬ w4.heap.size + 1 = W1.heap.size := (by omega))); (try (have ne11a : ¬ W1.heap.size + 1 = w4.heap.size := (by omega); have ne11b : ¬ w4.heap.size = W1.heap.size + 1 := (by omega))); (try (have ne12a : ¬ W1.heap.size + 1 = w4.heap.size + 1 := (by omega); have ne12b : ¬ w4.heap.size + 1 = W1.heap.size + 1 := (by omega))); (try (have ne13a : ¬ w3.heap.size = w4.heap.size := (by omega); have ne13b : ¬ w4.heap.size = w3.heap.size := (by omega))); (try (have ne14a : ¬ w3.heap.size = w4.heap.size + 1 := (by omega); have ne14b : ¬ w4.heap.size + 1 = w3.heap.size := (by omega))); (try (have ne15a : ¬ w3.heap.size + 1 = w4.heap.size := (by omega); have ne15b : ¬ w4.heap.size = w3.heap.size + 1 := (by omega))); (try (have ne16a : ¬ w3.heap.size + 1 = w4.heap.size + 1 := (by omega); have ne16b : ¬ w4.heap.size + 1 = w3.heap.size + 1 := (by omega))))
    | (go_at_call 11; refine (hcl2 _ hA2).mono ?_; rintro x w3 ⟨a1, d1, a2, d2, a3, d3, rfl, yo, yb, y4, q0, q1, q2, q3, q4, q5⟩; have ys : W1.heap.size + 1 + 1 ≤ w3.heap.size := (by have h : ((W1.alloc (.cells #[.int .u64 0, .slice none 0 0, .slice none 0 0, .int .u64 0, .int .u64 0, .slice none 0 0] 34)).alloc (.cells #[.int .u64 0, .slice none 0 0, .slice none 0 0, .int .u64 0, .int .u64 0, .slice none 0 0] 34)).heap.size ≤ w3.heap.size := yb.size; rw [World.size_alloc, World.size_alloc] at h; exact h); have zA : w3.heap[W1.heap.size]? = some (.cells #[.int .u64 0, .slice none 0 0, .slice none 0 0, .int .u64 0, .int .u64 0, .slice none 0 0] 34 (0, 0)) := (yb.block W1.heap.size (show W1.heap.size < ((W1.alloc (.cells #[.int .u64 0, .slice none 0 0, .slice none 0 0, .int .u64 0, .int .u64 0, .slice none 0 0] 34)).alloc (.cells #[.int .u64 0, .slice none 0 0, .slice none 0 0, .int .u64 0, .int .u64 0, .slice none 0 0] 34)).heap.size from by rw [World.size_alloc, World.size_alloc]; omega)).trans ((show ((W1.alloc (.cells #[.int .u64 0, .slice none 0 0, .slice none 0 0, .int .u64 0, .int .u64 0, .slice none 0 0] 34)).alloc (.cells #[.int .u64 0, .slice none 0 0, .slice none 0 0, .int .u64 0, .int .u64 0, .slice none 0 0] 34)).heap[W1.heap.size]? = (W1.alloc (.cells #[.int .u64 0, .slice none 0 0, .slice none 0 0, .int .u64 0, .int .u64 0, .slice none 0 0] 34)).heap[W1.heap.size]? from Below.heap_alloc _ _ _ (by rw [World.size_alloc]; omega)).trans (heap_alloc_new W1 _)); have zB : w3.heap[W1.heap.size + 1]? = some (.cells #[.int .u64 0, .slice none 0 0, .slice none 0 0, .int .u64 0, .int .u64 0, .slice none 0 0] 34 (0, 0)) := (yb.block (W1.heap.size + 1) (show W1.heap.size + 1 < ((W1.alloc (.cells #[.int .u64 0, .slice none 0 0, .slice none 0 0, .int .u64 0, .int .u64 0, .slice none 0 0] 34)).alloc (.cells #[.int .u64 0, .slice none 0 0, .slice none 0 0, .int .u64 0, .int .u64 0, .slice none 0 0] 34)).heap.size from by rw [World.size_alloc, World.size_alloc]; omega)).trans (show ((W1.alloc (.cells #[.int .u64 0, .slice none 0 0, .slice none 0 0, .int .u64 0, .int .u64 0, .slice none 0 0] 34)).alloc (.cells #[.int .u64 0, .slice none 0 0, .slice none 0 0, .int .u64 0, .int .u64 0, .slice none 0 0] 34)).heap[W1.heap.size + 1]? = _ from by have := heap_alloc_new (W1.alloc (.cells #[.int .u64 0, .slice none 0 0, .slice none 0 0, .int .u64 0, .int .u64 0, .slice none 0 0] 34)) (.cells #[.int .u64 0, .slice none 0 0, .slice none 0 0, .int .u64 0, .int .u64 0, .slice none 0 0] 34); rw [World.size_alloc] at this; exact this); have yo0 : OwR W1.heap.size w3 (.slice a1 s.length d1) (.slice a2 e.length d2) (.slice a3 ps.length d3) s e ps := yo.mono hA2.size; have yL : ∀ b, Bl (.slice a1 s.length d1) (.slice a2 e.length d2) (.slice a3 ps.length d3) b → W1.heap.size + 1 + 1 ≤ b ∧ b < w3.heap.size := (fun b q => ⟨Nat.le_trans (show W1.heap.size + 1 + 1 ≤ ((W1.alloc (.cells #[.int .u64 0, .slice none 0 0, .slice none 0 0, .int .u64 0, .int .u64 0, .slice none 0 0] 34)).alloc (.cells #[.int .u64 0, .slice none 0 0, .slice none 0 0, .int .u64 0, .int .u64 0, .slice none 0 0] 34)).heap.size from by simp) (yo.lt q).1, (yo.lt q).2⟩); (try (have ne1a : ¬ w.heap.size = w3.heap.size := (by omega); have ne1b : ¬ w3.heap.size = w.heap.size := (by omega))); (try (have ne2a : ¬ w.heap.size = w3.heap.size + 1 := (by omega); have ne2b : ¬ w3.heap.size + 1 = w.heap.size := (by omega))); (try (have ne3a : ¬ W1.heap.size = w3.heap.size := (by omega); have ne3b : ¬ w3.heap.size = W1.heap.size := (by omega))); (try (have ne4a : ¬ W1.heap.size = w3.heap.size + 1 := (by omega); have ne4b : ¬ w3.heap.size + 1 = W1.heap.size := (by omega))); (try (have ne5a : ¬ W1.heap.size + 1 = w3.heap.size := (by omega); have ne5b : ¬ w3.heap.size = W1.heap.size + 1 := (by omega))); (try (have ne6a : ¬ W1.heap.size + 1 = w3.heap.size + 1 := (by omega); have ne6b : ¬ w3.heap.size + 1 = W1.heap.size + 1 := (by omega))))
    | (go_at_call 11; refine (hcl2 _ hA1).mono ?_; rintro x w3 ⟨a1, d1, a2, d2, a3, d3, rfl, yo, yb, y4, q0, q1, q2, q3, q4, q5⟩; have ys : W1.heap.size + 1 ≤ w3.heap.size := (by have h : (W1.alloc (.cells #[.int .u64 0, .slice none 0 0, .slice none 0 0, .int .u64 0, .int .u64 0, .slice none 0 0] 34)).heap.size ≤ w3.heap.size := yb.size; rw [World.size_alloc] at h; exact h); have zA : w3.heap[W1.heap.size]? = some (.cells #[.int .u64 0, .slice none 0 0, .slice none 0 0, .int .u64 0, .int .u64 0, .slice none 0 0] 34 (0, 0)) := (yb.block W1.heap.size (show W1.heap.size < (W1.alloc (.cells #[.int .u64 0, .slice none 0 0, .slice none 0 0, .int .u64 0, .int .u64 0, .slice none 0 0] 34)).heap.size from by rw [World.size_alloc]; omega)).trans (heap_alloc_new W1 _); have yo0 : OwR W1.heap.size w3 (.slice a1 s.length d1) (.slice a2 e.length d2) (.slice a3 ps.length d3) s e ps := yo.mono hA1.size; have yL : ∀ b, Bl (.slice a1 s.length d1) (.slice a2 e.length d2) (.slice a3 ps.length d3) b → W1.heap.size + 1 ≤ b ∧ b < w3.heap.size := (fun b q => ⟨Nat.le_trans (show W1.heap.size + 1 ≤ (W1.alloc (.cells #[.int .u64 0, .slice none 0 0, .slice none 0 0, .int .u64 0, .int .u64 0, .slice none 0 0] 34)).heap.size from by simp) (yo.lt q).1, (yo.lt q).2⟩); (try (have ne1a : ¬ w.heap.size = w3.heap.size := (by omega); have ne1b : ¬ w3.heap.size = w.heap.size := (by omega))); (try (have ne2a : ¬ w.heap.size = w3.heap.size + 1 := (by omega); have ne2b : ¬ w3.heap.size + 1 = w.heap.size := (by omega))); (try (have ne3a : ¬ W1.heap.size = w3.heap.size := (by omega); have ne3b : ¬ w3.heap.size = W1.heap.size := (by omega))); (try (have ne4a : ¬ W1.heap.size = w3.heap.size + 1 := (by omega); have ne4b : ¬ w3.heap.size + 1 = W1.heap.size := (by omega))); (try (have ne5a : ¬ W1.heap.size + 1 = w3.heap.size := (by omega); have ne5b : ¬ w3.heap.size = W1.heap.size + 1 := (by omega))); (try (have ne6a : ¬ W1.heap.size + 1 = w3.heap.size + 1 := (by omega); have ne6b : ¬ w3.heap.size + 1 = W1.heap.size + 1 := (by omega))))
    | (go_at_call 11; refine (hcl2 _ hD0).mono ?_; rintro x w3 ⟨a1, d1, a2, d2, a3, d3, rfl, yo, yb, y4, q0, q1, q2, q3, q4, q5⟩; have ys : W1.heap.size ≤ w3.heap.size := y4.size; have yo0 : OwR W1.heap.size w3 (.slice a1 s.length d1) (.slice a2 e.length d2) (.slice a3 ps.length d3) s e ps := yo.mono hD0.size; have yL : ∀ b, Bl (.slice a1 s.length d1) (.slice a2 e.length d2) (.slice a3 ps.length d3) b → W1.heap.size ≤ b ∧ b < w3.heap.size := (fun b q => ⟨Nat.le_trans (show W1.heap.size ≤ W1.heap.size from by exact Nat.le_refl _) (yo.lt q).1, (yo.lt q).2⟩); (try (have ne1a : ¬ w.heap.size = w3.heap.size := (by omega); have ne1b : ¬ w3.heap.size = w.heap.size := (by omega))); (try (have ne2a : ¬ w.heap.size = w3.heap.size + 1 := (by omega); have ne2b : ¬ w3.heap.size + 1 = w.heap.size := (by omega))); (try (have ne3a : ¬ W1.heap.size = w3.heap.size := (by omega); have ne3b : ¬ w3.heap.size = W1.heap.size := (by omega))); (try (have ne4a : ¬ W1.heap.size = w3.heap.size + 1 := (by omega); have ne4b : ¬ w3.heap.size + 1 = W1.heap.size := (by omega))); (try (have ne5a : ¬ W1.heap.size + 1 = w3.heap.size := (by omega); have ne5b : ¬ w3.heap.size = W1.heap.size + 1 := (by omega))); (try (have ne6a : ¬ W1.heap.size + 1 = w3.heap.size + 1 := (by omega); have ne6b : ¬ w3.heap.size + 1 = W1.heap.size + 1 := (by omega))))
    | fail)
    · go_wp2_with fail
      go_meet
      exact ⟨w4.heap.size, w4.heap.size + 1, Value.slice a1 s.length d1, Value.slice a2 e.length d2, Value.slice a3 ps.length d3, Value.slice f1 s.length g1, Value.slice f2 e.length g2, Value.slice f3 ps.length g3, rfl, rfl, Sp5.fD yo4 po0 (Nat.le_refl _) (Nat.le_refl _) (fun b q r => by have := yL b q; have := pL b r; omega) pb4⟩
    · go_wp2_with fail
      go_meet
      exact ⟨w4.heap.size + 1, w4.heap.size, Value.slice a1 s.length d1, Value.slice a2 e.length d2, Value.slice a3 ps.length d3, Value.slice f1 s.length g1, Value.slice f2 e.length g2, Value.slice f3 ps.length g3, rfl, rfl, Sp5.fE yo4 po0 (Nat.le_refl _) (Nat.le_refl _) (fun b q r => by have := yL b q; have := pL b r; omega) pb4⟩
    · go_wp2_with fail
      go_meet
      exact ⟨w3.heap.size, w4.heap.size, Value.slice a1 s.length d1, Value.slice a2 e.length d2, Value.slice a3 ps.length d3, Value.slice f1 s.length g1, Value.slice f2 e.length g2, Value.slice f3 ps.length g3, rfl, rfl, Sp5.fB zC yo4 po0 (Nat.le_refl _) (Nat.le_refl _) (fun b q => ⟨by have := yL b q; omega, fun r => by have := yL b q; have := pL b r; omega⟩) (fun b r => by have := pL b r; omega) (by omega) pb4⟩
    · go_wp2_with fail
      go_meet
      exact ⟨w3.heap.size, w3.heap.size + 1, Value.slice a1 s.length d1, Value.slice a2 e.length d2, Value.slice a3 ps.length d3, Value.slice f1 s.length g1, Value.slice f2 e.length g2, Value.slice f3 ps.length g3, rfl, rfl, Sp5.fA zC zD yo4 po0 (Nat.le_refl _) (Nat.le_refl _) (by omega) (fun b q => ⟨by have := yL b q; omega, by have := yL b q; omega, fun r => by have := yL b q; have := pL b r; omega⟩) (fun b r => ⟨by have := pL b r; omega, by have := pL b r; omega⟩) (by omega) (by omega) pb4⟩
    · go_wp2_with fail
      go_meet
      exact ⟨w4.heap.size, w3.heap.size, Value.slice a1 s.length d1, Value.slice a2 e.length d2, Value.slice a3 ps.length d3, Value.slice f1 s.length g1, Value.slice f2 e.length g2, Value.slice f3 ps.length g3, rfl, rfl, Sp5.fC zC yo4 po0 (Nat.le_refl _) (Nat.le_refl _) (fun b q => ⟨by have := yL b q; omega, fun r => by have := yL b q; have := pL b r; omega⟩) (fun b r => by have := pL b r; omega) (by omega) pb4⟩
    · go_wp2_with fail
      go_meet
      exact ⟨w3.heap.size + 1, w3.heap.size, Value.slice a1 s.length d1, Value.slice a2 e.length d2, Value.slice a3 ps.length d3, Value.slice f1 s.length g1, Value.slice f2 e.length g2, Value.slice f3 ps.length g3, rfl, rfl, Sp5.fA zD zC yo4 po0 (Nat.le_refl _) (Nat.le_refl _) (by omega) (fun b q => ⟨by have := yL b q; omega, by have := yL b q; omega, fun r => by have := yL b q; have := pL b r; omega⟩) (fun b r => ⟨by have := pL b r; omega, by have := pL b r; omega⟩) (by omega) (by omega) pb4⟩
    · go_wp2_with fail
      go_meet
      exact ⟨W1.heap.size, w4.heap.size, Value.slice a1 s.length d1, Value.slice a2 e.length d2, Value.slice a3 ps.length d3, Value.slice f1 s.length g1, Value.slice f2 e.length g2, Value.slice f3 ps.length g3, rfl, rfl, Sp5.fB zA4 yo4 po0 (Nat.le_refl _) (Nat.le_refl _) (fun b q => ⟨by have := yL b q; omega, fun r => by have := yL b q; have := pL b r; omega⟩) (fun b r => by have := pL b r; omega) (by omega) pb4⟩
    · go_wp2_with fail
      go_meet
      exact ⟨W1.heap.size, w3.heap.size, Value.slice a1 s.length d1, Value.slice a2 e.length d2, Value.slice a3 ps.length d3, Value.slice f1 s.length g1, Value.slice f2 e.length g2, Value.slice f3 ps.length g3, rfl, rfl, Sp5.fA zA4 zC yo4 po0 (Nat.le_refl _) (Nat.le_refl _) (by omega) (fun b q => ⟨by have := yL b q; omega, by have := yL b q; omega, fun r => by have := yL b q; have := pL b r; omega⟩) (fun b r => ⟨by have := pL b r; omega, by have := pL b r; omega⟩) (by omega) (by omega) pb4⟩
    · go_wp2_with fail
      go_meet
      exact ⟨W1.heap.size, W1.heap.size + 1, Value.slice a1 s.length d1, Value.slice a2 e.length d2, Value.slice a3 ps.length d3, Value.slice f1 s.length g1, Value.slice f2 e.length g2, Value.slice f3 ps.length g3, rfl, rfl, Sp5.fA zA4 zB4 yo4 po0 (Nat.le_refl _) (Nat.le_refl _) (by omega) (fun b q => ⟨by have := yL b q; omega, by have := yL b q; omega, fun r => by have := yL b q; have := pL b r; omega⟩) (fun b r => ⟨by have := pL b r; omega, by have := pL b r; omega⟩) (by omega) (by omega) pb4⟩
    · go_wp2_with fail
      go_meet
      exact ⟨w4.heap.size, W1.heap.size, Value.slice a1 s.length d1, Value.slice a2 e.length d2, Value.slice a3 ps.length d3, Value.slice f1 s.length g1, Value.slice f2 e.length g2, Value.slice f3 ps.length g3, rfl, rfl, Sp5.fC zA4 yo4 po0 (Nat.le_refl _) (Nat.le_refl _) (fun b q => ⟨by have := yL b q; omega, fun r => by have := yL b q; have := pL b r; omega⟩) (fun b r => by have := pL b r; omega) (by omega) pb4⟩
    · go_wp2_with fail
      go_meet
      exact ⟨w3.heap.size, W1.heap.size, Value.slice a1 s.length d1, Value.slice a2 e.length d2, Value.slice a3 ps.length d3, Value.slice f1 s.length g1, Value.slice f2 e.length g2, Value.slice f3 ps.length g3, rfl, rfl, Sp5.fA zC zA4 yo4 po0 (Nat.le_refl _) (Nat.le_refl _) (by omega) (fun b q => ⟨by have := yL b q; omega, by have := yL b q; omega, fun r => by have := yL b q; have := pL b r; omega⟩) (fun b r => ⟨by have := pL b r; omega, by have := pL b r; omega⟩) (by omega) (by omega) pb4⟩
    · go_wp2_with fail
      go_meet
      exact ⟨W1.heap.size + 1, W1.heap.size, Value.slice a1 s.length d1, Value.slice a2 e.length d2, Value.slice a3 ps.length d3, Value.slice f1 s.length g1, Value.slice f2 e.length g2, Value.slice f3 ps.length g3, rfl, rfl, Sp5.fA zB4 zA4 yo4 po0 (Nat.le_refl _) (Nat.le_refl _) (by omega) (fun b q => ⟨by have := yL b q; omega, by have := yL b q; omega, fun r => by have := yL b q; have := pL b r; omega⟩) (fun b r => ⟨by have := pL b r; omega, by have := pL b r; omega⟩) (by omega) (by omega) pb4⟩
  case rest =>
    obtain ⟨gl, gh, u, v, x, u2, v2, x2, rfl, rfl, hS⟩ := hcut
    have hbw : Below w.heap.size w wc := hC1.trans (hS.be.mono hC1.size)
    have hsz := hS.be.size
    have r1c : wc.heap[w.heap.size + 1]? = some zeroC := (hS.be.block _ (by omega)).trans hp1
    have r2c : wc.heap[w.heap.size + 1 + 1]? = some zeroC := (hS.be.block _ (by omega)).trans hp2
    obtain ⟨ua, uc, rfl⟩ := hS.o1.s.shp
    obtain ⟨va, vc, rfl⟩ := hS.o1.e.shp
    obtain ⟨xa, xc, rfl⟩ := hS.o1.p.shape
    obtain ⟨ua2, uc2, rfl⟩ := hS.o2.s.shp
    obtain ⟨va2, vc2, rfl⟩ := hS.o2.e.shp
    obtain ⟨xa2, xc2, rfl⟩ := hS.o2.p.shape
    have hg1 := hS.g1
    have hg2 := hS.g2
    have hne1 : ¬ gl = gh := hS.ne
    have hne2 : ¬ gh = gl := fun q => hS.ne q.symm
    have hk5 := clone_any (HRS.out.2.2.2.1.below hbw (Nat.le_refl _)) (by omega)
    have HS : Hid (Sp5 W1 (id.toNat : Int) cf ((vr.toNat : Int) + 1) s e ps gl gh (.slice ua s.length uc) (.slice va e.length vc) (.slice xa ps.length xc) (.slice ua2 s.length uc2) (.slice va2 e.length vc2) (.slice xa2 ps.length xc2) wc) := hS
    clear hS c0 c1 c2 c3 c4 c5 hD0 HKK hcl2 hcl hcs hA1 hA2 nw1 nw2 nw3 nw4 hq1 hp1 hp2
    go_wp2_with fail
    refine hk5.mono ?_
    rintro y w5 ⟨kv1, rfl, ok1, b5⟩
    obtain ⟨ka1, kc1, rfl⟩ := ok1.shp
    have hs5 := b5.size
    have bl5 := (b5.block _ (lt_of_some HS.out.bl)).trans HS.out.bl
    have bh5 := (b5.block _ (lt_of_some HS.out.bh)).trans HS.out.bh
    have r15 := (b5.block _ (lt_of_some r1c)).trans r1c
    have r25 := (b5.block _ (lt_of_some r2c)).trans r2c
    have hll := lt_of_some HS.out.bl
    have hlh := lt_of_some HS.out.bh
    obtain ⟨l0, l1, l2, l3, l4, l5, lz⟩ := cells6 bl5
    obtain ⟨m0, m1, m2, m3, m4, m5, mz⟩ := cells6 bh5
    have lz2 := lz 2
    have mz0 := mz 0
    have c6 : Chg (fun b => b = gl ∨ b = gh) w5 ((w5.setCell ⟨gl, 2, none⟩ (.slice ka1 k.length kc1)).setCell ⟨gh, 0, none⟩ (.int .u64 (nid.toNat : Int))) := (((Chg.refl (fun b => b = gl ∨ b = gh) w5).put gl 2 _ (.inl rfl)).put gh 0 _ (.inr rfl))
    have bl6a : (w5.setCell ⟨gl, 2, none⟩ (.slice ka1 k.length kc1)).heap[gl]? = some (rgC (id.toNat : Int) cf ((vr.toNat : Int) + 1) (.slice ua s.length uc) (.slice ka1 k.length kc1) (.slice xa ps.length xc)) := put1_block bl5 _
    have bl6 : ((w5.setCell ⟨gl, 2, none⟩ (.slice ka1 k.length kc1)).setCell ⟨gh, 0, none⟩ (.int .u64 (nid.toNat : Int))).heap[gl]? = some (rgC (id.toNat : Int) cf ((vr.toNat : Int) + 1) (.slice ua s.length uc) (.slice ka1 k.length kc1) (.slice xa ps.length xc)) := ((put1_chg _ gh 0 _).block _ (lt_of_some bl6a) hne1).trans bl6a
    have bh6 : ((w5.setCell ⟨gl, 2, none⟩ (.slice ka1 k.length kc1)).setCell ⟨gh, 0, none⟩ (.int .u64 (nid.toNat : Int))).heap[gh]? = some (rgC (nid.toNat : Int) cf ((vr.toNat : Int) + 1) (.slice ua2 s.length uc2) (.slice va2 e.length vc2) (.slice xa2 ps.length xc2)) := put1_block (((put1_chg w5 gl 2 _).block _ (by omega) hne2).trans bh5) _
    have r16 := (c6.block _ (lt_of_some r15) (by omega)).trans r15
    have r26 := (c6.block _ (lt_of_some r25) (by omega)).trans r25
    have hb56 : Below w.heap.size w ((w5.setCell ⟨gl, 2, none⟩ (.slice ka1 k.length kc1)).setCell ⟨gh, 0, none⟩ (.int .u64 (nid.toNat : Int))) := (hbw.trans (b5.mono hbw.size)).trans (c6.below (fun b q => by omega) (by omega))
    have ok6 : Ow wc.heap.size ((w5.setCell ⟨gl, 2, none⟩ (.slice ka1 k.length kc1)).setCell ⟨gh, 0, none⟩ (.int .u64 (nid.toNat : Int))) (.slice ka1 k.length kc1) k := ok1.keptC c6 (fun b q r => by have := (ok1.lt0 b q).1; omega)
    have o16 := (HS.out.o1.below b5 (Nat.le_refl _)).keptB c6 (fun b q r => by have := HS.out.n1 b q; omega)
    have o26 := (HS.out.o2.below b5 (Nat.le_refl _)).keptB c6 (fun b q r => by have := HS.out.n2 b q; omega)
    have hs6 : w5.heap.size ≤ ((w5.setCell ⟨gl, 2, none⟩ (.slice ka1 k.length kc1)).setCell ⟨gh, 0, none⟩ (.int .u64 (nid.toNat : Int))).heap.size := c6.size
    clear lz mz hk5 c6 bl6a ok1 r15 r25 bl5 bh5 r1c r2c
    go_wp2_with fail
    clear l0 l1 l2 l3 l4 l5 m0 m1 m2 m3 m4 m5 lz2 mz0
    generalize ((w5.setCell ⟨gl, 2, none⟩ (.slice ka1 k.length kc1)).setCell ⟨gh, 0, none⟩ (.int .u64 (nid.toNat : Int))) = W6 at *
    refine (clone_any (HRS.out.2.2.2.1.below hb56 (Nat.le_refl _)) (by omega)).mono ?_
    rintro y w7 ⟨kv2, rfl, ok2, b7⟩
    obtain ⟨ka2, kc2, rfl⟩ := ok2.shp
    have hs7 := b7.size
    have bl7 := (b7.block _ (lt_of_some bl6)).trans bl6
    have bh7 := (b7.block _ (lt_of_some bh6)).trans bh6
    have r17 := (b7.block _ (lt_of_some r16)).trans r16
    have r27 := (b7.block _ (lt_of_some r26)).trans r26
    obtain ⟨m0, m1, m2, m3, m4, m5, mz⟩ := cells6 bh7
    have mz1 := mz 1
    have c8 := put1_chg w7 gh 1 (.slice ka2 k.length kc2)
    have bh8 : (w7.setCell ⟨gh, 1, none⟩ (.slice ka2 k.length kc2)).heap[gh]? = some (rgC (nid.toNat : Int) cf ((vr.toNat : Int) + 1) (.slice ka2 k.length kc2) (.slice va2 e.length vc2) (.slice xa2 ps.length xc2)) := put1_block bh7 _
    have bl8 := (c8.block _ (lt_of_some bl7) hne1).trans bl7
    have r18 := (c8.block _ (lt_of_some r17) (by omega)).trans r17
    have r28 := (c8.block _ (lt_of_some r27) (by omega)).trans r27
    have hb8 : Below w.heap.size w (w7.setCell ⟨gh, 1, none⟩ (.slice ka2 k.length kc2)) := (hb56.trans (b7.mono hb56.size)).trans (c8.below (fun b q => by omega) (by omega))
    have ok8 : Ow wc.heap.size (w7.setCell ⟨gh, 1, none⟩ (.slice ka2 k.length kc2)) (.slice ka1 k.length kc1) k := (ok6.below b7 (Nat.le_refl _)).keptC c8 (fun b q r => by have := (ok6.lt0 b q).1; omega)
    have okb8 : Ow W6.heap.size (w7.setCell ⟨gh, 1, none⟩ (.slice ka2 k.length kc2)) (.slice ka2 k.length kc2) k := ok2.keptC c8 (fun b q r => by have := (ok2.lt0 b q).1; omega)
    have o18 := (o16.below b7 (Nat.le_refl _)).keptB c8 (fun b q r => by have := HS.out.n1 b q; omega)
    have o28 := (o26.below b7 (Nat.le_refl _)).keptB c8 (fun b q r => by have := HS.out.n2 b q; omega)
    have old1 : ∀ b, Bl (.slice ua s.length uc) (.slice va e.length vc) (.slice xa ps.length xc) b → b < wc.heap.size := fun b q => (HS.out.o1.lt q).2
    have old2 : ∀ b, Bl (.slice ua2 s.length uc2) (.slice va2 e.length vc2) (.slice xa2 ps.length xc2) b → b < wc.heap.size := fun b q => (HS.out.o2.lt q).2
    have hk1l : ∀ b, (Value.slice ka1 k.length kc1).ownBlock = some b → wc.heap.size ≤ b ∧ b < W6.heap.size := fun b q => ok6.lt0 b q
    have hk2l : ∀ b, (Value.slice ka2 k.length kc2).ownBlock = some b → W6.heap.size ≤ b := fun b q => (ok2.lt0 b q).1
    have O1 : OwR W1.heap.size (w7.setCell ⟨gh, 1, none⟩ (.slice ka2 k.length kc2)) (.slice ua s.length uc) (.slice ka1 k.length kc1) (.slice xa ps.length xc) s k ps := ⟨o18.s, ok8.mono hsz, o18.p, fun b q r => by have := old1 b (.inl q); have := hk1l b r; omega, o18.sp, fun b q r => by have := old1 b (.inr (.inr r)); have := hk1l b q; omega⟩
    have O2 : OwR W1.heap.size (w7.setCell ⟨gh, 1, none⟩ (.slice ka2 k.length kc2)) (.slice ka2 k.length kc2) (.slice va2 e.length vc2) (.slice xa2 ps.length xc2) k e ps := ⟨okb8.mono (by omega), o28.e, o28.p, fun b q r => by have := old2 b (.inr (.inl r)); have := hk2l b q; omega, fun b q r => by have := old2 b (.inr (.inr r)); have := hk2l b q; omega, o28.ep⟩
    have AP : Hid (∀ b, (Value.slice xa2 ps.length xc2).ownBlock = some b → W1.heap.size ≤ b ∧ b ≠ gl ∧ b ≠ gh ∧ ¬ Bl (.slice ua s.length uc) (.slice ka1 k.length kc1) (.slice xa ps.length xc) b) := fun b q => by
      have h2 := HS.out.n2 b (.inr (.inr q))
      refine ⟨(HS.out.o2.lt (.inr (.inr q))).1, h2.1, h2.2, fun r => ?_⟩
      rcases r with r | r | r
      · exact (HS.out.n1 b (.inl r)).2.2 (.inr (.inr q))
      · have := hk1l b r; have := old2 b (.inr (.inr q)); omega
      · exact (HS.out.n1 b (.inr (.inr r))).2.2 (.inr (.inr q))
    have HW : Hid _ := And.intro O1 (And.intro O2 (And.intro bl8 (And.intro bh8 (And.intro r18 (And.intro r28 hb8)))))
    have hs8 : w7.heap.size ≤ (w7.setCell ⟨gh, 1, none⟩ (.slice ka2 k.length kc2)).heap.size := c8.size
    clear mz c8 ok6 ok2 o16 o26 o18 o28 okb8 ok8 old1 old2 hk1l hk2l r16 r26 r17 r27 bl6 bh6 bl7 bh7 hb56 O1 O2 bl8 bh8 r18 r28 hb8 b5 b7
    go_wp2_with fail
    clear m0 m1 m2 m3 m4 m5 mz1
    generalize (w7.setCell ⟨gh, 1, none⟩ (.slice ka2 k.length kc2)) = W8 at *
    go_loopw [14, 15, 46] (fun _ _ i wr => ∃ j : Nat, i = .int .i64 (j : Int) ∧ j ≤ ps.length ∧ OwPe W1.heap.size wr (.slice xa2 ps.length xc2) (mixP ps L j) ∧ Chg (fun b => (Value.slice xa2 ps.length xc2).ownBlock = some b) W8 wr) (fun _ _ i _ => ps.length - (intOf i).toNat)
    case atStart => exact ⟨0, rfl, Nat.zero_le _, by rw [mixP_zero]; exact HW.out.2.1.p, Chg.refl _ _⟩
    case round =>
      obtain ⟨j, rfl, hj, hO, hCh⟩ := hrel
      have hW8 := HW.out.2.2.2.2.2.2.size
      have hbr : Below w.heap.size w wr := HW.out.2.2.2.2.2.2.trans (hCh.below (fun b q => by have := AP.out b q; omega) hW8)
      have hll2 := lt_of_some HW.out.2.2.1
      have hlh2 := lt_of_some HW.out.2.2.2.1
      have bhr := (hCh.block gh hlh2 (fun q => (AP.out gh q).2.2.1 rfl)).trans HW.out.2.2.2.1
      by_cases hlt : j < L.length
      · have hjp : j < ps.length := by have := HLP.out; omega
        obtain ⟨p, hp⟩ : ∃ p, ps[j]? = some p := ⟨_, List.getElem?_eq_getElem hjp⟩
        obtain ⟨m, hm⟩ : ∃ m, L[j]? = some m := ⟨_, List.getElem?_eq_getElem hlt⟩
        obtain ⟨la', lc', e1, _, _, _, hlc⟩ := HRS.out.2.2.2.2.below hbr (Nat.le_refl _)
        simp only [Value.slice.injEq, true_and] at e1
        obtain ⟨rfl, rfl⟩ := e1
        obtain ⟨a, rfl, hLc⟩ := hlc j hlt
        have hmL : L[j] = m := by rw [List.getElem?_eq_getElem hlt] at hm; exact Option.some.inj hm
        rw [hmL] at hLc
        obtain ⟨a3, c3, hv, _, _, _, q4⟩ := row_reads hO
        simp only [Value.slice.injEq] at hv
        obtain ⟨ea3, _, _⟩ := hv
        obtain ⟨gp, e4, hcell⟩ := q4 (j * 3) (.int .u64 (p.1.toNat : Int)) (by have := fm_at pc_len (mixP ps L j) j 0 p (mixP_at ps L j HLP.out p hp) (by omega); simpa [pcs, pc] using this)
        rw [← ea3] at e4
        subst e4
        have hfz := row_frozP hO (j * 3)
        obtain ⟨_, _, _, _, _, h5, _⟩ := cells6 bhr
        have hO2 := hO.num (mixP_at ps L j HLP.out p hp) m
        rw [mixP_step ps L j HLP.out p m hp hm] at hO2
        have hC2 : Chg (fun b => (Value.slice (some ⟨gp, 0, none⟩) ps.length xc2).ownBlock = some b) W8 (wr.setCell ⟨gp, j * 3, none⟩ (.int .u64 (m.toNat : Int))) := hCh.put gp (j * 3) _ rfl
        have HE : Hid _ := And.intro hO2 hC2
        have hg1' : (j : Int) < (L.length : Int) := by omega
        have hg2' : (j : Int) < (ps.length : Int) := by omega
        clear hO2 hC2 hlc hp hm hmL q4 ea3 bhr hO hCh
        go_wp2_with fail
        exact ⟨⟨j + 1, by go_num, by omega, HE.out.1, HE.out.2⟩, by simp [intOf]; omega⟩
      · obtain rfl : j = ps.length := by have := HLP.out; omega
        rw [mixP_all ps L HLP.out] at hO
        have blr := (hCh.block gl hll2 (fun q => (AP.out gl q).2.1 rfl)).trans HW.out.2.2.1
        have r1r := (hCh.block _ (lt_of_some HW.out.2.2.2.2.1) (fun q => by have := (AP.out _ q).1; omega)).trans HW.out.2.2.2.2.1
        have r2r := (hCh.block _ (lt_of_some HW.out.2.2.2.2.2.1) (fun q => by have := (AP.out _ q).1; omega)).trans HW.out.2.2.2.2.2.1
        have O1r := HW.out.1.keptB hCh (fun b q r => (AP.out b r).2.2.2 q)
        have O2r : OwR W1.heap.size wr (.slice ka2 k.length kc2) (.slice va2 e.length vc2) (.slice xa2 ps.length xc2) k e (numP ps L) := ⟨HW.out.2.1.s.keptC hCh (fun b q r => HW.out.2.1.sp b q r), HW.out.2.1.e.keptC hCh (fun b q r => HW.out.2.1.ep b q r), hO, HW.out.2.1.se, HW.out.2.1.sp, HW.out.2.1.ep⟩
        obtain ⟨l0, l1, l2, l3, l4, l5, _⟩ := cells6 blr
        obtain ⟨m0, m1, m2, m3, m4, m5, _⟩ := cells6 bhr
        obtain ⟨s0, s1, s2, s3, s4, s5, sz⟩ := cells6 r1r
        obtain ⟨t0, t1, t2, t3, t4, t5, tz⟩ := cells6 r2r
        have sz0 := sz 0
        have sz1 := sz 1
        have sz2 := sz 2
        have sz3 := sz 3
        have sz4 := sz 4
        have sz5 := sz 5
        have tz0 := tz 0
        have tz1 := tz 1
        have tz2 := tz 2
        have tz3 := tz 3
        have tz4 := tz 4
        have tz5 := tz 5
        have n1 : ¬ gl = w.heap.size + 1 := by omega
        have n2 : ¬ w.heap.size + 1 = gl := by omega
        have n3 : ¬ gl = w.heap.size + 1 + 1 := by omega
        have n4 : ¬ w.heap.size + 1 + 1 = gl := by omega
        have n5 : ¬ gh = w.heap.size + 1 := by omega
        have n6 : ¬ w.heap.size + 1 = gh := by omega
        have n7 : ¬ gh = w.heap.size + 1 + 1 := by omega
        have n8 : ¬ w.heap.size + 1 + 1 = gh := by omega
        have HF : Hid _ := And.intro blr (And.intro bhr (And.intro r1r (And.intro r2r (And.intro O1r (And.intro O2r hbr)))))
        clear sz tz blr bhr r1r r2r O1r O2r hO hCh hbr
        go_upto_region 14 with fail
        go_region_held3 (fun w' => w'.cell? ⟨gl, 0, none⟩ = some (.int .u64 (id.toNat : Int)) ∧ w'.cell? ⟨gl, 1, none⟩ = some (.slice ua s.length uc) ∧ w'.cell? ⟨gl, 2, none⟩ = some (.slice ka1 k.length kc1) ∧ w'.cell? ⟨gl, 3, none⟩ = some (.int .u64 cf) ∧ w'.cell? ⟨gl, 4, none⟩ = some (.int .u64 ((vr.toNat : Int) + 1)) ∧ w'.cell? ⟨gl, 5, none⟩ = some (.slice xa ps.length xc) ∧ w'.cell? ⟨gh, 0, none⟩ = some (.int .u64 (nid.toNat : Int)) ∧ w'.cell? ⟨gh, 1, none⟩ = some (.slice ka2 k.length kc2) ∧ w'.cell? ⟨gh, 2, none⟩ = some (.slice va2 e.length vc2) ∧ w'.cell? ⟨gh, 3, none⟩ = some (.int .u64 cf) ∧ w'.cell? ⟨gh, 4, none⟩ = some (.int .u64 ((vr.toNat : Int) + 1)) ∧ w'.cell? ⟨gh, 5, none⟩ = some (.slice xa2 ps.length xc2)) (first | go_keep | simp only [World.cell?_setCell_far, ne_eq, not_false_eq_true, and_self, n1, n2, n3, n4, n5, n6, n7, n8, l0, l1, l2, l3, l4, l5, m0, m1, m2, m3, m4, m5]) (fail)
        go_wp2_with fail
        obtain ⟨blr, bhr, r1r, r2r, O1r, O2r, hbr⟩ := HF.out
        have HY := ret_two r1r r2r (by omega) (id.toNat : Int) cf ((vr.toNat : Int) + 1) (.slice ua s.length uc) (.slice ka1 k.length kc1) (.slice xa ps.length xc) (nid.toNat : Int) cf ((vr.toNat : Int) + 1) (.slice ka2 k.length kc2) (.slice va2 e.length vc2) (.slice xa2 ps.length xc2)
        unfold set6 at HY
        generalize ((((((((((((wr.setCell ⟨w.heap.size + 1, 0, none⟩ (.int .u64 (id.toNat : Int))).setCell ⟨w.heap.size + 1, 1, none⟩ (.slice ua s.length uc)).setCell ⟨w.heap.size + 1, 2, none⟩ (.slice ka1 k.length kc1)).setCell ⟨w.heap.size + 1, 3, none⟩ (.int .u64 cf)).setCell ⟨w.heap.size + 1, 4, none⟩ (.int .u64 ((vr.toNat : Int) + 1))).setCell ⟨w.heap.size + 1, 5, none⟩ (.slice xa ps.length xc)).setCell ⟨w.heap.size + 1 + 1, 0, none⟩ (.int .u64 (nid.toNat : Int))).setCell ⟨w.heap.size + 1 + 1, 1, none⟩ (.slice ka2 k.length kc2)).setCell ⟨w.heap.size + 1 + 1, 2, none⟩ (.slice va2 e.length vc2)).setCell ⟨w.heap.size + 1 + 1, 3, none⟩ (.int .u64 cf)).setCell ⟨w.heap.size + 1 + 1, 4, none⟩ (.int .u64 ((vr.toNat : Int) + 1))).setCell ⟨w.heap.size + 1 + 1, 5, none⟩ (.slice xa2 ps.length xc2)).drew = wz at *
        obtain ⟨y1, y2, yc⟩ := HY
        obtain ⟨k0, k1, k2, k3, k4, k5, _⟩ := cells6 y1
        obtain ⟨j0, j1, j2, j3, j4, j5, _⟩ := cells6 y2
        refine bodyPost_ret (v := .tuple #[.agg #[.int .u64 (id.toNat : Int), .slice ua s.length uc, .slice ka1 k.length kc1, .int .u64 cf, .int .u64 ((vr.toNat : Int) + 1), .slice xa ps.length xc], .agg #[.int .u64 (nid.toNat : Int), .slice ka2 k.length kc2, .slice va2 e.length vc2, .int .u64 cf, .int .u64 ((vr.toNat : Int) + 1), .slice xa2 ps.length xc2], .int .i64 0]) (by simp [results, Try.results6, go_sem, k0, k1, k2, k3, k4, k5, j0, j1, j2, j3, j4, j5]; try rfl) rfl ?_
        exact ⟨_, _, _, _, _, _, rfl, (O1r.keptB yc (fun b q r => by have := (O1r.lt q).1; omega)).mono (by omega), (O2r.keptB yc (fun b q r => by have := (O2r.lt q).1; omega)).mono (by omega), hbr.trans (yc.below (fun b q => by omega) hbr.size)⟩
end Go.Proofs.Ytlfdcnojbbigbaa
