/- wholeOf and written: a piece's bytes. -/
import Derived.Test.YtlajncjamafomaaG11
import Derived.Test.YtlajncjamafomaaG14
import Derived.Test.YtlajncjamafomaaG17
import Derived.Test.YtlajncjamafomaaG3
import Derived.Deep.RegionHeld3
namespace Go.Proofs.Ytlajncjamafomaa
open Go.RowKit
set_option linter.unusedVariables false
set_option maxRecDepth 100000

theorem pk_al (w : World) (o : Obj) : Below w.heap.size w (w.alloc o) := (Below.refl _ _).alloc (Nat.le_refl _) o
theorem pk_drew (w : World) : Below w.heap.size w w.drew := Below.dN w 1
theorem rds5 {w : World} {x0 x1 x2 x3 x4 : Value} {a0 a1 a2 a3 a4 : List UInt8} (h0 : Rd w x0 a0) (h1 : Rd w x1 a1) (h2 : Rd w x2 a2) (h3 : Rd w x3 a3) (h4 : Rd w x4 a4) (t : TypeId) (g : Nat) (hg : g = w.heap.size) : Rds (w.alloc (.cells #[x0, x1, x2, x3, x4] t)) (.slice (some ⟨g, 0, none⟩) 5 5) [a0, a1, a2, a3, a4] := by
  subst hg
  have hb := pk_al w (.cells #[x0, x1, x2, x3, x4] t)
  have hc : ∀ j u, #[x0, x1, x2, x3, x4][j]? = some u → (w.alloc (.cells #[x0, x1, x2, x3, x4] t)).cell? ⟨w.heap.size, j, none⟩ = some u := fun j u e => by
    rw [World.cell?_alloc_at _ _ _ _ rfl]; exact e
  refine ⟨some ⟨w.heap.size, 0, none⟩, 5, rfl, by simp, by simp [maxLen], fun i hi => ?_⟩
  match i, hi with
  | 0, _ => exact ⟨_, x0, rfl, hc 0 x0 rfl, h0.below hb (Nat.le_refl _)⟩
  | 1, _ => exact ⟨_, x1, rfl, hc 1 x1 rfl, h1.below hb (Nat.le_refl _)⟩
  | 2, _ => exact ⟨_, x2, rfl, hc 2 x2 rfl, h2.below hb (Nat.le_refl _)⟩
  | 3, _ => exact ⟨_, x3, rfl, hc 3 x3 rfl, h3.below hb (Nat.le_refl _)⟩
  | 4, _ => exact ⟨_, x4, rfl, hc 4 x4 rfl, h4.below hb (Nat.le_refl _)⟩
theorem box5 {w : World} {x0 x1 x2 x3 x4 : Value} {t : TypeId} {b : Nat} {W : World} (hb : Below (b + 1) (w.alloc (.cells #[x0, x1, x2, x3, x4] t)) W) (e : b = w.heap.size) : W.cell? ⟨b, 0, none⟩ = some x0 ∧ W.cell? ⟨b, 1, none⟩ = some x1 ∧ W.cell? ⟨b, 2, none⟩ = some x2 ∧ W.cell? ⟨b, 3, none⟩ = some x3 ∧ W.cell? ⟨b, 4, none⟩ = some x4 := by
  subst e
  have hc : ∀ j u, #[x0, x1, x2, x3, x4][j]? = some u → W.cell? ⟨w.heap.size, j, none⟩ = some u := fun j u e => by
    rw [hb.cell (by simp), World.cell?_alloc_at _ _ _ _ rfl]; exact e
  exact ⟨hc 0 x0 rfl, hc 1 x1 rfl, hc 2 x2 rfl, hc 3 x3 rfl, hc 4 x4 rfl⟩

set_option maxHeartbeats 4000000 in
theorem written_any {s n m i : Nat} {ao : Option Addr} {pn pc : Nat} {p : List UInt8} {w : World} (hs : s < 18446744073709551616) (hn : n < 18446744073709551616) (hm : m < 18446744073709551616) (hi : i < 18446744073709551616)
    (hp : Rd w (.slice ao pn pc) p) (hl : p.length ≤ 1099511627000) :
    Calls Try.prog 32 #[.agg #[.int .u64 (s : Int), .int .u64 (n : Int), .int .u64 (m : Int), .int .u64 (i : Int), .slice ao pn pc]] w fun e w' => ∃ v', e = .returned v' ∧ Ow w.heap.size w' v' (pkW s n m i p) ∧ Below w.heap.size w w' := by
  have hrl := pkRow_len s n m i p
  have hB0 : Below w.heap.size w (w.alloc (.cells #[.int .u64 (s : Int), .int .u64 (n : Int), .int .u64 (m : Int), .int .u64 (i : Int), .slice ao pn pc] 69)) := pk_al w _
  have hz0 : (w.alloc (.cells #[.int .u64 (s : Int), .int .u64 (n : Int), .int .u64 (m : Int), .int .u64 (i : Int), .slice ao pn pc] 69)).heap.size = w.heap.size + 1 := by simp
  have kc : ∀ W, Below (w.heap.size + 1) (w.alloc (.cells #[.int .u64 (s : Int), .int .u64 (n : Int), .int .u64 (m : Int), .int .u64 (i : Int), .slice ao pn pc] 69)) W → W.cell? ⟨w.heap.size, 0, none⟩ = some (.int .u64 (s : Int)) ∧ W.cell? ⟨w.heap.size, 1, none⟩ = some (.int .u64 (n : Int)) ∧ W.cell? ⟨w.heap.size, 2, none⟩ = some (.int .u64 (m : Int)) ∧ W.cell? ⟨w.heap.size, 3, none⟩ = some (.int .u64 (i : Int)) ∧ W.cell? ⟨w.heap.size, 4, none⟩ = some (.slice ao pn pc) := fun W hW => box5 hW rfl
  have fin : ∀ (W0 w1 w2 w3 w4 : World) (q1 q2 q3 q4 : Value), Below w.heap.size w W0 → Below W0.heap.size W0 w1 → Below w1.heap.size w1 w2 → Below w2.heap.size w2 w3 → Below w3.heap.size w3 w4 → Ow W0.heap.size w1 q1 (M.vi s) → Ow w1.heap.size w2 q2 (M.vi n) → Ow w2.heap.size w3 q3 (M.vi m) → Ow w3.heap.size w4 q4 (M.vi i) →
      Calls Try.prog 53 #[.slice (some ⟨w4.heap.size, 0, none⟩) 5 5] (w4.alloc (.cells #[q1, q2, q3, q4, .slice ao pn pc] 22)) fun e w' => ∃ v', e = .returned v' ∧ Ow w.heap.size w' v' (M.row [M.vi s, M.vi n, M.vi m, M.vi i, p]) ∧ Below w.heap.size w w' ∧ Below W0.heap.size W0 w' := fun W0 w1 w2 w3 w4 q1 q2 q3 q4 hB0 g1 g2 g3 g4 o1 o2 o3 o4 => by
    have t2 : Below w1.heap.size w1 w4 := g2.trans ((g3.mono g2.size).trans (g4.mono (Nat.le_trans g2.size g3.size)))
    have t3 : Below w2.heap.size w2 w4 := g3.trans (g4.mono g3.size)
    have b0 : Below W0.heap.size W0 w4 := g1.trans (t2.mono g1.size)
    have b4 : Below w.heap.size w w4 := hB0.trans (b0.mono hB0.size)
    refine (row_any (rds5 (o1.below t2 (Nat.le_refl _)).rd (o2.below t3 (Nat.le_refl _)).rd (o3.below g4 (Nat.le_refl _)).rd o4.rd (hp.below b4 (Nat.le_refl _)) 22 _ rfl) (by omega) (by simp)).mono ?_
    rintro e w' ⟨v', rfl, ho, hb⟩
    have s4 := b4.size
    have s0 := b0.size
    exact ⟨v', rfl, ho.mono (by simp; omega), b4.trans (((Below.refl w.heap.size w4).alloc s4 _).trans (hb.mono (by simp; omega))), b0.trans (((Below.refl W0.heap.size w4).alloc s0 _).trans (hb.mono (by simp; omega)))⟩
  have frm : ∀ (W0 w5 : World) (v : Value), Below w.heap.size w w5 → Below W0.heap.size W0 w5 → Ow w.heap.size w5 v (M.row [M.vi s, M.vi n, M.vi m, M.vi i, p]) → Calls Try.prog 52 #[v] w5 fun e w' => ∃ v', e = .returned v' ∧ Ow w.heap.size w' v' (pkW s n m i p) ∧ Below w.heap.size w w' ∧ Below W0.heap.size W0 w' := fun W0 w5 v g1 g0 o => by
    refine (frame_any o.rd (by omega)).mono ?_
    rintro e w' ⟨v', rfl, ho, hb⟩
    exact ⟨v', rfl, ho.mono g1.size, g1.trans (hb.mono g1.size), g0.trans (hb.mono g0.size)⟩
  have n1 : ∀ W, Calls Try.prog 54 #[.int .u64 (s : Int)] W fun e w' => ∃ v', e = .returned v' ∧ Ow W.heap.size w' v' (M.vi s) ∧ Below W.heap.size W w' := fun W => varint_any s W hs
  have n2 : ∀ W, Calls Try.prog 54 #[.int .u64 (n : Int)] W fun e w' => ∃ v', e = .returned v' ∧ Ow W.heap.size w' v' (M.vi n) ∧ Below W.heap.size W w' := fun W => varint_any n W hn
  have n3 : ∀ W, Calls Try.prog 54 #[.int .u64 (m : Int)] W fun e w' => ∃ v', e = .returned v' ∧ Ow W.heap.size w' v' (M.vi m) ∧ Below W.heap.size W w' := fun W => varint_any m W hm
  have n4 : ∀ W, Calls Try.prog 54 #[.int .u64 (i : Int)] W fun e w' => ∃ v', e = .returned v' ∧ Ow W.heap.size w' v' (M.vi i) ∧ Below W.heap.size W w' := fun W => varint_any i W hi
  generalize pkW s n m i p = PW at *
  generalize hRW : M.row [M.vi s, M.vi n, M.vi m, M.vi i, p] = RW at *
  generalize M.vi s = vs at *
  generalize M.vi n = vn at *
  generalize M.vi m = vm at *
  generalize M.vi i = vi at *
  have HF : Hid _ := And.intro fin frm
  clear fin frm hRW hrl hp
  go_enter Try.func32, Try.ntmps32
  obtain ⟨c0, c1, c2, c3, c4⟩ := kc _ (Below.refl _ _)
  go_wp2_with fail
  generalize (w.alloc (.cells #[.int .u64 (s : Int), .int .u64 (n : Int), .int .u64 (m : Int), .int .u64 (i : Int), .slice ao pn pc] 69)) = W0 at *
  rw [← hz0] at kc
  go_region_held3 (fun w' => w'.cell? ⟨w.heap.size, 0, none⟩ = some (.int .u64 (s : Int)) ∧ w'.cell? ⟨w.heap.size, 1, none⟩ = some (.int .u64 (n : Int)) ∧ w'.cell? ⟨w.heap.size, 2, none⟩ = some (.int .u64 (m : Int)) ∧ w'.cell? ⟨w.heap.size, 3, none⟩ = some (.int .u64 (i : Int)) ∧ w'.cell? ⟨w.heap.size, 4, none⟩ = some (.slice ao pn pc)) (go_keep) (first
    | (go_at_call 52; refine (HF.out.2 W0 w5 _ hb5 hz5 ho5).mono ?_; rintro e w6 ⟨v6, rfl, ho6, hb6, hz6⟩; obtain ⟨z0, z1, z2, z3, z4⟩ := kc w6 hz6)
    | (go_at_call 53; refine (HF.out.1 W0 w1 w2 w3 w4 _ _ _ _ hB0 hb1 hb2 hb3 hb4 ho1 ho2 ho3 ho4).mono ?_; rintro e w5 ⟨v5, rfl, ho5, hb5, hz5⟩; obtain ⟨y0, y1, y2, y3, y4⟩ := kc w5 hz5)
    | (go_at_call 54; refine (n4 w3).mono ?_; rintro e w4 ⟨v4, rfl, ho4, hb4⟩; obtain ⟨a4, d4, rfl⟩ := ho4.shape; have hB4 := hB3.trans (hb4.mono hB3.size); obtain ⟨x0, x1, x2, x3, x4⟩ := kc w4 hB4)
    | (go_at_call 54; refine (n3 w2).mono ?_; rintro e w3 ⟨v3, rfl, ho3, hb3⟩; obtain ⟨a3, d3, rfl⟩ := ho3.shape; have hB3 := hB2.trans (hb3.mono hB2.size); obtain ⟨u0, u1, u2, u3, u4⟩ := kc w3 hB3)
    | (go_at_call 54; refine (n2 w1).mono ?_; rintro e w2 ⟨v2, rfl, ho2, hb2⟩; obtain ⟨a2, d2, rfl⟩ := ho2.shape; have hB2 := hb1.trans (hb2.mono hb1.size); obtain ⟨t0, t1, t2, t3, t4⟩ := kc w2 hB2)
    | (go_at_call 54; refine (n1 W0.drew).mono ?_; rintro e w1 ⟨v1, rfl, ho1, hb1'⟩; have hb1 : Below W0.heap.size W0 w1 := (pk_drew W0).trans hb1'; obtain ⟨a1, d1, rfl⟩ := ho1.shape; obtain ⟨s0, s1, s2, s3, s4⟩ := kc w1 hb1)
    | fail)
  go_wp2_with fail
  go_ret
  exact ⟨_, rfl, ho6, hb6⟩

theorem pk_new (w : World) (o : Obj) : (w.alloc o).heap[w.heap.size]? = some o := by
  show (w.heap.push _)[_]? = _
  simp
theorem set2_block {w : World} {g : Nat} {u0 u1 : Value} {t : TypeId} (h : w.heap[g]? = some (.cells #[u0, u1] t (0, 0))) (v0 v1 : Value) : ((w.setCell ⟨g, 0, none⟩ v0).setCell ⟨g, 1, none⟩ v1).heap[g]? = some (.cells #[v0, v1] t (0, 0)) := by
  have h0 := heap_setCell_same w g 0 _ _ v0 h
  have h1 := heap_setCell_same _ g 1 _ _ v1 h0
  rw [h1]
  rfl
theorem set2_chg (w : World) (g : Nat) (v0 v1 : Value) : Chg (fun b => b = g) w ((w.setCell ⟨g, 0, none⟩ v0).setCell ⟨g, 1, none⟩ v1) :=
  ((Chg.refl (fun b => b = g) w).put g 0 v0 rfl).put g 1 v1 rfl
theorem cells2 {w : World} {g : Nat} {u0 u1 : Value} {t : TypeId} (h : w.heap[g]? = some (.cells #[u0, u1] t (0, 0))) : w.cell? ⟨g, 0, none⟩ = some u0 ∧ w.cell? ⟨g, 1, none⟩ = some u1 ∧ ∀ i, w.frozen? ⟨g, i, none⟩ = false :=
  ⟨by rw [cell_of_row _ _ _ _ _ _ h]; rfl, by rw [cell_of_row _ _ _ _ _ _ h]; rfl, fun i => frozen_of_row _ _ _ _ _ h⟩

theorem wholeOf_any {v : Value} {l : List UInt8} {w : World} (hr : Rd w v l) : Calls Try.prog 31 #[v] w fun e w' => e = .returned (.agg #[.int .u64 (M.crc l : Int), .int .u64 (l.length : Int)]) ∧ Below w.heap.size w w' := by
  have hr' := hr
  obtain ⟨ao, c, rfl, h1, h2, h3, h4⟩ := hr
  unfold maxLen at h2
  clear h3 h4
  have hc := M.crc_lt l
  have hb0 := pk_al w (.cells #[.int .u64 0, .int .u64 0] 66)
  have hsum := sum_any (hr'.below hb0 (Nat.le_refl _))
  generalize M.crc l = C at *
  have hwr : IntKind.u64.wrap (C : Int) = (C : Int) := by rw [IntKind.wrap_u64]; omega
  have hR0 := pk_new w (.cells #[.int .u64 0, .int .u64 0] 66)
  go_enter Try.func31, Try.ntmps31
  go_wp2_with fail
  refine hsum.mono ?_
  rintro e w1 ⟨rfl, k1, rfl⟩
  have hR : ((w.alloc (.cells #[.int .u64 0, .int .u64 0] 66)).drewN k1).heap[w.heap.size]? = some (.cells #[.int .u64 0, .int .u64 0] 66 (0, 0)) := hR0
  have hB := below_drewN hb0 k1
  generalize (w.alloc (.cells #[.int .u64 0, .int .u64 0] 66)).drewN k1 = W at *
  obtain ⟨q0, q1, qz⟩ := cells2 hR
  have z0 := qz 0
  have z1 := qz 1
  have hS := set2_block hR (.int .u64 (C : Int)) (.int .u64 (l.length : Int))
  have hlt : w.heap.size < W.heap.size := (Array.getElem?_eq_some_iff.1 hR).1
  have hC : Below w.heap.size W ((W.setCell ⟨w.heap.size, 0, none⟩ (.int .u64 (C : Int))).setCell ⟨w.heap.size, 1, none⟩ (.int .u64 (l.length : Int))) := (set2_chg W w.heap.size _ _).below (fun b q => by omega) (by omega)
  go_wp2_with fail
  generalize (W.setCell ⟨w.heap.size, 0, none⟩ (.int .u64 (C : Int))).setCell ⟨w.heap.size, 1, none⟩ (.int .u64 (l.length : Int)) = wz at *
  obtain ⟨k0, k1', _⟩ := cells2 hS
  refine bodyPost_ret (v := .agg #[.int .u64 (C : Int), .int .u64 (l.length : Int)]) (by simp [results, Try.results31, go_sem, k0, k1']; try rfl) rfl ?_
  exact ⟨rfl, hB.trans hC⟩
end Go.Proofs.Ytlajncjamafomaa
