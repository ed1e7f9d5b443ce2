/- A graph in memory; the place of an edge: find. -/
import Derived.Test.YtipnghaphfgalaaG12
import Derived.Test.YtipnghaphfgalaaG13
import Derived.Test.YtipnghaphfgalaaG10
import Derived.Deep.RegionHeld3
import Derived.Deep.CutRange
namespace Go.Proofs.Ytipnghaphfgalaa
open Go.RowKit
set_option linter.unusedVariables false
set_option maxRecDepth 100000

theorem w_al (w : World) (o : Obj) : Below w.heap.size w (w.alloc o) := (Below.refl _ _).alloc (Nat.le_refl _) o
theorem box2 {W : World} {u0 u1 : Value} {t : TypeId} {g : Nat} (h : W.heap[g]? = some (.cells #[u0, u1] t (0, 0))) : W.cell? ⟨g, 0, none⟩ = some u0 ∧ W.cell? ⟨g, 1, none⟩ = some u1 ∧ ∀ i, W.frozen? ⟨g, i, none⟩ = false :=
  ⟨by rw [cell_of_row _ _ _ _ _ _ h]; rfl, by rw [cell_of_row _ _ _ _ _ _ h]; rfl, fun i => frozen_of_row _ _ _ _ _ h⟩

/-- A graph: its block x, its edges E in the slice v. -/
structure Gr (B x : Nat) (v : Value) (E : List Ed) (w : World) : Prop where
  cell : w.heap[x]? = some (.cells #[v] 52 (0, 0))
  row : OwE B w v E
  ne : v.ownBlock ≠ some x
  lo : B ≤ x
  ris : W.Ris E
  len : E.length ≤ 4096
theorem Gr.vx {B x : Nat} {v : Value} {E : List Ed} {w : World} (h : Gr B x v E w) : w.cell? ⟨x, 0, none⟩ = some v ∧ ∀ j, w.frozen? ⟨x, j, none⟩ = false :=
  ⟨by rw [cell_of_row _ _ _ _ _ _ h.cell]; rfl, fun j => frozen_of_row _ _ _ _ _ h.cell⟩
theorem Gr.xlt {B x : Nat} {v : Value} {E : List Ed} {w : World} (h : Gr B x v E w) : x < w.heap.size := (Array.getElem?_eq_some_iff.1 h.cell).1
theorem Gr.keptC {S : Nat → Prop} {B x : Nat} {v : Value} {E : List Ed} {w w' : World} (h : Gr B x v E w) (hc : Chg S w w') (hx : ¬ S x) (hv : ∀ b, v.ownBlock = some b → ¬ S b) : Gr B x v E w' :=
  ⟨by rw [hc.block x h.xlt hx]; exact h.cell, h.row.keptC hc hv, h.ne, h.lo, h.ris, h.len⟩
theorem Gr.below {B C x : Nat} {v : Value} {E : List Ed} {w w' : World} (h : Gr B x v E w) (hb : Below C w w') (hC : w.heap.size ≤ C) : Gr B x v E w' :=
  h.keptC (Chg.of_below hb) (fun q => by have := h.xlt; omega) (fun b e q => by have := (h.row.lt b e).2; omega)

def cmpE (a b : Ed) : Int := orF (cmpU a.1 b.1) (cmpU a.2 b.2)
theorem cmpE_lt (a b : Ed) : cmpE a b < 0 ↔ W.elt a b := by
  unfold cmpE orF cmpU W.elt
  split <;> split <;> (try split) <;> omega
theorem cmpE_eq (a b : Ed) : cmpE a b = 0 ↔ a = b := by
  constructor
  · intro h
    refine Prod.ext (UInt64.toNat_inj.1 ?_) (UInt64.toNat_inj.1 ?_)
    · revert h; unfold cmpE orF cmpU; split <;> split <;> (try split) <;> omega
    · revert h; unfold cmpE orF cmpU; split <;> split <;> (try split) <;> omega
  · rintro rfl; unfold cmpE orF cmpU; simp

set_option maxHeartbeats 2000000 in
theorem find1_any (a b : Ed) (w : World) : Calls Try.prog 35 #[.agg #[.int .u64 (a.1.toNat : Int), .int .u64 (a.2.toNat : Int)], .agg #[.int .u64 (b.1.toNat : Int), .int .u64 (b.2.toNat : Int)]] w fun e w' => e = .returned (.int .i64 (cmpE a b)) ∧ Below w.heap.size w w' := by
  obtain ⟨a1, a2⟩ := a
  obtain ⟨b1, b2⟩ := b
  have hn : cmpE (a1, a2) (b1, b2) = orF (cmpU a1 b1) (cmpU a2 b2) := rfl
  have hcm := fun x y W => compareU_any x y W
  simp only []
  have hb0 : Below w.heap.size w ((w.alloc (.cells #[.int .u64 (a1.toNat : Int), .int .u64 (a2.toNat : Int)] 31)).alloc (.cells #[.int .u64 (b1.toNat : Int), .int .u64 (b2.toNat : Int)] 31)) := (w_al w _).alloc (by simp) _
  have hl0 : ((w.alloc (.cells #[.int .u64 (a1.toNat : Int), .int .u64 (a2.toNat : Int)] 31)).alloc (.cells #[.int .u64 (b1.toNat : Int), .int .u64 (b2.toNat : Int)] 31)).heap[w.heap.size]? = some (.cells #[.int .u64 (a1.toNat : Int), .int .u64 (a2.toNat : Int)] 31 (0, 0)) := (Below.heap_alloc _ _ _ (by simp)).trans (heap_alloc_new w _)
  have hh0 : ((w.alloc (.cells #[.int .u64 (a1.toNat : Int), .int .u64 (a2.toNat : Int)] 31)).alloc (.cells #[.int .u64 (b1.toNat : Int), .int .u64 (b2.toNat : Int)] 31)).heap[w.heap.size + 1]? = some (.cells #[.int .u64 (b1.toNat : Int), .int .u64 (b2.toNat : Int)] 31 (0, 0)) := by
    have := heap_alloc_new (w.alloc (.cells #[.int .u64 (a1.toNat : Int), .int .u64 (a2.toNat : Int)] 31)) (.cells #[.int .u64 (b1.toNat : Int), .int .u64 (b2.toNat : Int)] 31)
    rw [World.size_alloc] at this
    exact this
  go_enter Try.func35, Try.ntmps35
  go_upto_region 1 with fail
  generalize ((w.alloc (.cells #[.int .u64 (a1.toNat : Int), .int .u64 (a2.toNat : Int)] 31)).alloc (.cells #[.int .u64 (b1.toNat : Int), .int .u64 (b2.toNat : Int)] 31)) = W at *
  obtain ⟨a0, a1', _⟩ := box2 hl0
  obtain ⟨b0, b1', _⟩ := box2 hh0
  have hlt0 := (Array.getElem?_eq_some_iff.1 hl0).1
  have hlt1 := (Array.getElem?_eq_some_iff.1 hh0).1
  have hor : ∀ W' : World, Calls Try.prog 36 #[.slice (some ⟨W'.heap.size, 0, none⟩) 2 2] (W'.alloc (.cells #[.int .i64 (cmpU a1 b1), .int .i64 (cmpU a2 b2)] 3)).drew fun e w' => e = .returned (.int .i64 (orF (cmpU a1 b1) (cmpU a2 b2))) ∧ w' = (W'.alloc (.cells #[.int .i64 (cmpU a1 b1), .int .i64 (cmpU a2 b2)] 3)).drew := fun W' => or_any (show (W'.alloc (.cells #[.int .i64 (cmpU a1 b1), .int .i64 (cmpU a2 b2)] 3)).cell? _ = _ by rw [World.cell?_alloc_at _ _ _ _ rfl]; rfl) (show (W'.alloc (.cells #[.int .i64 (cmpU a1 b1), .int .i64 (cmpU a2 b2)] 3)).cell? _ = _ by rw [World.cell?_alloc_at _ _ _ _ rfl]; rfl)
  generalize orF (cmpU a1 b1) (cmpU a2 b2) = z at *
  have HN : Hid (cmpE (a1, a2) (b1, b2) = z) := hn
  clear hn hl0 hh0
  go_region_held3 (fun w' => w'.cell? ⟨w.heap.size, 0, none⟩ = some (.int .u64 (a1.toNat : Int)) ∧ w'.cell? ⟨w.heap.size, 1, none⟩ = some (.int .u64 (a2.toNat : Int)) ∧ w'.cell? ⟨w.heap.size + 1, 0, none⟩ = some (.int .u64 (b1.toNat : Int)) ∧ w'.cell? ⟨w.heap.size + 1, 1, none⟩ = some (.int .u64 (b2.toNat : Int))) (go_keep) (first
    | (go_at_call 36; refine (hor _).mono ?_; rintro e w3 ⟨rfl, rfl⟩)
    | (go_at_call 37; refine (hcm _ _ _).mono ?_; rintro e w1 ⟨rfl, rfl⟩)
    | fail)
  go_wp2_with fail
  go_ret
  refine ⟨?_, ?_⟩
  · rw [HN.out]; rfl
  · exact hb0.trans (((w_al W _).trans ((Below.dN _ 1).mono (w_al W _).size)).mono hb0.size)

set_option maxHeartbeats 2000000 in
theorem esearch_any {B : Nat} {v : Value} {E : List Ed} {w : World} (h : OwE B w v E) (hU : W.Ris E) (hl : E.length ≤ 4096) (e : Ed) :
    Calls Try.prog 34 #[v, .agg #[.int .u64 (e.1.toNat : Int), .int .u64 (e.2.toNat : Int)], .func (.func 35) #[] #[]] w fun r w' => r = .returned (.tuple #[.int .i64 (W.pl E e : Int), .bool (W.is E e)]) ∧ Below w.heap.size w w' := by
  obtain ⟨a, c, rfl, h1, h2, h3, h4⟩ := h.rd
  unfold maxLen at h2
  have hbw := w_al w (.cells #[.int .u64 (e.1.toNat : Int), .int .u64 (e.2.toNat : Int)] 31)
  have hnw := heap_alloc_new w (.cells #[.int .u64 (e.1.toNat : Int), .int .u64 (e.2.toNat : Int)] 31)
  have hsz : (w.alloc (.cells #[.int .u64 (e.1.toNat : Int), .int .u64 (e.2.toNat : Int)] 31)).heap.size = w.heap.size + 1 := by simp
  have hf := fun x W => find1_any x e W
  obtain ⟨e1, e2⟩ := e
  simp only [] at *
  go_enter Try.func34, Try.ntmps34
  go_wp2_with fail
  generalize (w.alloc (.cells #[.int .u64 (e1.toNat : Int), .int .u64 (e2.toNat : Int)] 31)) = W0 at *
  go_loopw [9, 10] (fun i j wr => ∃ (i0 j0 : Nat), i0 ≤ j0 ∧ j0 ≤ E.length ∧ i = .int .i64 i0 ∧ j = .int .i64 j0 ∧ (∀ k p, k < i0 → E[k]? = some p → W.elt p (e1, e2)) ∧ (∀ k p, j0 ≤ k → E[k]? = some p → ¬ W.elt p (e1, e2)) ∧ Below w.heap.size w wr ∧ wr.heap[w.heap.size]? = some (.cells #[.int .u64 (e1.toNat : Int), .int .u64 (e2.toNat : Int)] 31 (0, 0))) (fun i j _ => (intOf j).toNat - (intOf i).toNat)
  case atStart => exact ⟨0, E.length, by omega, by omega, rfl, rfl, (fun k p q => by omega), (fun k p q e => by have := (List.getElem?_eq_some_iff.1 e).1; omega), hbw, hnw⟩
  case round =>
    obtain ⟨i0, j0, hij, hjn, rfl, rfl, hlo, hhi, hb, hT⟩ := hrel
    obtain ⟨t0, t1, _⟩ := box2 hT
    have hTl := (Array.getElem?_eq_some_iff.1 hT).1
    have hTn : ∀ w1 : World, Below (wr.heap.size) wr w1 → w1.heap[w.heap.size]? = some (.cells #[.int .u64 (e1.toNat : Int), .int .u64 (e2.toNat : Int)] 31 (0, 0)) := fun w1 q => by rw [q.block _ hTl]; exact hT
    have HTn : Hid _ := hTn
    clear hTn hT hbw hnw hsz
    by_cases hlt : i0 < j0
    · obtain ⟨k, hk⟩ : ∃ k, (i0 + j0) / 2 = k := ⟨_, rfl⟩
      have hkl : k < E.length := by omega
      obtain ⟨⟨p1, p2⟩, hp⟩ : ∃ p, E[k]? = some p := ⟨E[k], List.getElem?_eq_getElem hkl⟩
      obtain ⟨g, rfl, hg⟩ := h4 k _ hp
      have hg' := hg.below hb (Nat.le_refl _)
      obtain ⟨r0, r1⟩ := hg'
      clear h4 hg
      have hki : ((i0 : Int) + (j0 : Int)) / 2 = (k : Int) := by omega
      have hk1 : i0 ≤ k ∧ k < j0 := by omega
      have HR : Hid _ := And.intro hU hp
      have HL : Hid _ := And.intro hlo hhi
      clear hU hp hlo hhi hk h
      have hf1 := hf (p1, p2)
      clear hf
      have hc1 := cmpE_lt (p1, p2) (e1, e2)
      simp only [] at r0 r1 hf1
      have hkp : ∀ w1 : World, Below (wr.heap.size) wr w1 → w1.cell? ⟨w.heap.size, 0, none⟩ = some (.int .u64 (e1.toNat : Int)) ∧ w1.cell? ⟨w.heap.size, 1, none⟩ = some (.int .u64 (e2.toNat : Int)) ∧ w1.cell? (g.add (k * 2)) = some (.int .u64 (p1.toNat : Int)) ∧ w1.cell? ⟨(g.add (k * 2)).block, (g.add (k * 2)).off + 1, none⟩ = some (.int .u64 (p2.toNat : Int)) := fun w1 q => by
        have hq : ∀ x u, wr.cell? x = some u → w1.cell? x = some u := fun x u e => by rw [q.cell (World.block_lt_of_cell? wr _ e)]; exact e
        exact ⟨hq _ _ t0, hq _ _ t1, hq _ _ r0, hq _ _ r1⟩
      generalize cmpE (p1, p2) (e1, e2) = z at *
      by_cases hlt2 : z < 0
      · have hE := hc1.1 hlt2
        clear hc1
        go_wp2_with fail
        go_region_held3 (fun w' => w'.cell? ⟨w.heap.size, 0, none⟩ = some (.int .u64 (e1.toNat : Int)) ∧ w'.cell? ⟨w.heap.size, 1, none⟩ = some (.int .u64 (e2.toNat : Int)) ∧ w'.cell? (g.add (k * 2)) = some (.int .u64 (p1.toNat : Int)) ∧ w'.cell? ⟨(g.add (k * 2)).block, (g.add (k * 2)).off + 1, none⟩ = some (.int .u64 (p2.toNat : Int))) (go_keep) (first
          | (refine (hf1 _).mono ?_; rintro r w1 ⟨rfl, hb1⟩; obtain ⟨k0, k1, k2, k3⟩ := hkp _ (Below.tr (Below.dN wr _) hb1))
          | fail)
        go_wp2_with fail
        refine ⟨⟨k + 1, j0, by omega, hjn, by go_num, rfl, fun k' p hk' e => ?_, HL.out.2, Below.tr hb (Below.tr (Below.dN wr _) hb1), HTn.out _ (Below.tr (Below.dN wr _) hb1)⟩, by simp [intOf]; omega⟩
        rcases Nat.lt_or_ge k' k with q | q
        · have h1 : k' < E.length := by omega
          have h2 := List.pairwise_iff_getElem.1 HR.out.1 k' k h1 hkl q
          obtain ⟨_, e4⟩ := List.getElem?_eq_some_iff.1 HR.out.2
          obtain ⟨_, e5⟩ := List.getElem?_eq_some_iff.1 e
          rw [e4, e5] at h2
          exact W.elt_trans h2 hE
        · obtain rfl : k' = k := by omega
          rw [HR.out.2] at e
          obtain rfl := Option.some.inj e
          exact hE
      · have hE := fun q => hlt2 (hc1.2 q)
        clear hc1
        have hzd : decide (z < 0) = false := decide_eq_false hlt2
        go_wp2_with fail
        go_region_held3 (fun w' => w'.cell? ⟨w.heap.size, 0, none⟩ = some (.int .u64 (e1.toNat : Int)) ∧ w'.cell? ⟨w.heap.size, 1, none⟩ = some (.int .u64 (e2.toNat : Int)) ∧ w'.cell? (g.add (k * 2)) = some (.int .u64 (p1.toNat : Int)) ∧ w'.cell? ⟨(g.add (k * 2)).block, (g.add (k * 2)).off + 1, none⟩ = some (.int .u64 (p2.toNat : Int))) (go_keep) (first
          | (refine (hf1 _).mono ?_; rintro r w1 ⟨rfl, hb1⟩; obtain ⟨k0, k1, k2, k3⟩ := hkp _ (Below.tr (Below.dN wr _) hb1))
          | fail)
        go_wp2_with fail
        refine ⟨⟨i0, k, by omega, by omega, rfl, by go_num, HL.out.1, fun k' p hk' e => ?_, Below.tr hb (Below.tr (Below.dN wr _) hb1), HTn.out _ (Below.tr (Below.dN wr _) hb1)⟩, by simp [intOf]; omega⟩
        rcases Nat.lt_or_ge k k' with q | q
        · have h1 : k' < E.length := (List.getElem?_eq_some_iff.1 e).1
          have h2 := List.pairwise_iff_getElem.1 HR.out.1 k k' hkl h1 q
          obtain ⟨_, e4⟩ := List.getElem?_eq_some_iff.1 HR.out.2
          obtain ⟨_, e5⟩ := List.getElem?_eq_some_iff.1 e
          rw [e4, e5] at h2
          exact fun q2 => hE (W.elt_trans h2 q2)
        · obtain rfl : k' = k := by omega
          rw [HR.out.2] at e
          obtain rfl := Option.some.inj e
          exact hE
    · obtain rfl : i0 = j0 := by omega
      have hpl : W.pl E (e1, e2) = i0 := W.pl_eq hlo (fun x e => hhi i0 x (Nat.le_refl _) e) hjn
      by_cases hlt3 : i0 < E.length
      · obtain ⟨⟨p1, p2⟩, hp⟩ : ∃ p, E[i0]? = some p := ⟨E[i0], List.getElem?_eq_getElem hlt3⟩
        obtain ⟨g, rfl, hg⟩ := h4 i0 _ hp
        have hg' := hg.below hb (Nat.le_refl _)
        obtain ⟨r0, r1⟩ := hg'
        clear h4 hg
        have hf1 := hf (p1, p2)
        clear hf
        have hc1 := cmpE_eq (p1, p2) (e1, e2)
        simp only [] at r0 r1 hf1
        have hkp : ∀ w1 : World, Below (wr.heap.size) wr w1 → w1.cell? ⟨w.heap.size, 0, none⟩ = some (.int .u64 (e1.toNat : Int)) ∧ w1.cell? ⟨w.heap.size, 1, none⟩ = some (.int .u64 (e2.toNat : Int)) ∧ w1.cell? (g.add (i0 * 2)) = some (.int .u64 (p1.toNat : Int)) ∧ w1.cell? ⟨(g.add (i0 * 2)).block, (g.add (i0 * 2)).off + 1, none⟩ = some (.int .u64 (p2.toNat : Int)) := fun w1 q => by
          have hq : ∀ x u, wr.cell? x = some u → w1.cell? x = some u := fun x u e => by rw [q.cell (World.block_lt_of_cell? wr _ e)]; exact e
          exact ⟨hq _ _ t0, hq _ _ t1, hq _ _ r0, hq _ _ r1⟩
        generalize cmpE (p1, p2) (e1, e2) = z at *
        have his : W.is E (e1, e2) = (z == 0) := by
          unfold W.is
          rw [hpl, hp, Bool.eq_iff_iff, beq_iff_eq, beq_iff_eq, hc1]
          exact ⟨fun q => Option.some.inj q, fun q => by rw [q]⟩
        have HP : Hid _ := And.intro hpl his
        clear hpl his hlo hhi hU h hp hc1
        go_wp2_with fail
        go_region_held3 (fun w' => w'.cell? ⟨w.heap.size, 0, none⟩ = some (.int .u64 (e1.toNat : Int)) ∧ w'.cell? ⟨w.heap.size, 1, none⟩ = some (.int .u64 (e2.toNat : Int)) ∧ w'.cell? (g.add (i0 * 2)) = some (.int .u64 (p1.toNat : Int)) ∧ w'.cell? ⟨(g.add (i0 * 2)).block, (g.add (i0 * 2)).off + 1, none⟩ = some (.int .u64 (p2.toNat : Int))) (go_keep) (first
          | (refine (hf1 _).mono ?_; rintro r w1 ⟨rfl, hb1⟩; obtain ⟨k0, k1, k2, k3⟩ := hkp _ (Below.tr (Below.dN wr _) hb1))
          | fail)
        go_wp2_with fail
        go_ret2
        rw [HP.out.1, HP.out.2]
        exact ⟨rfl, Below.tr hb (Below.tr (Below.dN wr _) hb1)⟩
      · have his : W.is E (e1, e2) = false := by unfold W.is; rw [hpl, List.getElem?_eq_none (by omega)]; rfl
        have HP : Hid _ := And.intro hpl his
        clear hpl his hlo hhi hU h h4 hf
        go_wp2_with fail
        go_quiet (fail)
        go_wp2_with fail
        go_ret2
        rw [HP.out.1, HP.out.2]
        exact ⟨rfl, Below.tr hb (Below.dN wr _)⟩

theorem gfind_any {B x : Nat} {v : Value} {E : List Ed} {w : World} (h : Gr B x v E w) (e : Ed) :
    Calls Try.prog 20 #[.pointer (some ⟨x, 0, none⟩), .int .u64 (e.1.toNat : Int), .int .u64 (e.2.toNat : Int)] w fun r w' => r = .returned (.tuple #[.int .i64 (W.pl E e : Int), .bool (W.is E e)]) ∧ Below w.heap.size w w' := by
  obtain ⟨c0, cz⟩ := h.vx
  have hs := esearch_any h.row h.ris h.len e
  obtain ⟨e1, e2⟩ := e
  simp only [] at *
  clear h
  go_enter Try.func20, Try.ntmps20
  go_wp2_with fail
  refine hs.mono ?_
  rintro r w1 ⟨rfl, hb1⟩
  go_wp2_with fail
  go_ret2
  exact ⟨rfl, hb1⟩
end Go.Proofs.Ytipnghaphfgalaa
