/- A driver in memory; what may turn of it; a command as it is handed in. -/
import Derived.Test.YtlfdcnojbbigbaaG12
namespace Go.Proofs.Ytlfdcnojbbigbaa
open Go.RowKit
set_option linter.unusedVariables false
set_option maxRecDepth 100000

/-- A block that a driver may turn: its own, a row of registered ones, a map. -/
def Tk : Obj → Prop
  | .cells _ t _ => t = 55 ∨ t = 84
  | .map _ _ => True
  | _ => False
def Tn (B : Nat) (w : World) (b : Nat) : Prop := B ≤ b ∧ ∃ o, w.heap[b]? = some o ∧ Tk o
/-- Of what was there only such blocks from B on have turned. -/
def Ik (B : Nat) (w w' : World) : Prop := Chg (Tn B w) w w'
section
variable {B : Nat} {w w' w'' : World} {S : Nat → Prop}
theorem Ik.refl (B : Nat) (w : World) : Ik B w w := Chg.refl _ w
theorem Ik.trans (h : Ik B w w') (k : Ik B w' w'') : Ik B w w'' :=
  Chg.trans h (Chg.mono k (fun b hb q => by
    by_cases hl : b < w.heap.size
    · refine .inl ?_
      by_cases ht : Tn B w b
      · exact ht
      · obtain ⟨q1, o, q2, q3⟩ := q
        rw [h.block b hl ht] at q2
        exact ⟨q1, o, q2, q3⟩
    · exact .inr (by omega)))
theorem Ik.of_below {C : Nat} (h : Below C w w') (hC : w.heap.size ≤ C) : Ik B w w' := (Chg.of_below h).mono (fun b q1 q2 => by omega)
theorem Ik.of_chg (h : Chg S w w') (hS : ∀ b, b < w.heap.size → S b → Tn B w b) : Ik B w w' := h.mono hS
theorem Ik.below (h : Ik B w w') (hB : B ≤ w.heap.size) : Below B w w' := Chg.below h (fun b q => q.1) hB
theorem Ik.block (h : Ik B w w') {b : Nat} {o : Obj} (hb : w.heap[b]? = some o) (ho : ¬ Tk o) : w'.heap[b]? = some o := by
  rw [Chg.block h b (Array.getElem?_eq_some_iff.1 hb).1 (fun q => by
    obtain ⟨_, o', q2, q3⟩ := q
    rw [hb] at q2
    obtain rfl := Option.some.inj q2
    exact ho q3)]
  exact hb
theorem Ik.size (h : Ik B w w') : w.heap.size ≤ w'.heap.size := Chg.size h
theorem ownsRow_ik {e : TypeId} {size n : Nat} {v : Value} {xs : List Value} {C : Nat} (h : w.ownsRow C e size v n xs) (hi : Ik B w w') (he : e ≠ 55 ∧ e ≠ 84) : w'.ownsRow C e size v n xs := by
  refine ⟨h.1, ?_⟩
  rcases h.2 with h2 | ⟨g, cap, cur, rfl, hb, hh, r⟩
  · exact .inl h2
  · exact .inr ⟨g, cap, cur, rfl, hb, hi.block hh (fun q => by rcases q with q | q; exact he.1 q; exact he.2 q), r⟩
theorem heap_new (w : World) (o : Obj) : (w.alloc o).heap[w.heap.size]? = some o := by
  show (w.heap.push o)[w.heap.size]? = some o
  simp
end

/-- A driver's cells. -/
structure DC where
  g : Nat
  l : Nat
  c : Nat
  s : Nat
  hm : Nat
  rv : Option Addr × Nat × Nat
  ev : Option Addr × Nat × Nat
  mm : Nat
  gm : Nat
def sv (s : Option Addr × Nat × Nat) : Value := .slice s.1 s.2.1 s.2.2
def dcA (d : DC) : Array Value := #[.int .u64 (d.g : Int), .int .u64 (d.l : Int), .int .u64 (d.c : Int), .int .u64 (d.s : Int), .map (some d.hm), .slice d.rv.1 d.rv.2.1 d.rv.2.2, .slice d.ev.1 d.ev.2.1 d.ev.2.2, .map (some d.mm), .map (some d.gm)]
def Drv (p : Nat) (d : DC) (w : World) : Prop := w.heap[p]? = some (.cells (dcA d) 55 (0, 0))
section
variable {B p : Nat} {d : DC} {w w' : World}
theorem Drv.lt (h : Drv p d w) : p < w.heap.size := (Array.getElem?_eq_some_iff.1 h).1
theorem Drv.next {S : Nat → Prop} (h : Drv p d w) (hc : Chg S w w') (hp : ¬ S p) : Drv p d w' := by
  unfold Drv
  rw [hc.block p h.lt hp]; exact h
theorem Drv.belowN {C : Nat} (h : Drv p d w) (hb : Below C w w') (hC : w.heap.size ≤ C) : Drv p d w' := h.next (Chg.of_below hb) (fun q => by have := h.lt; omega)
theorem Drv.tn (h : Drv p d w) (hB : B ≤ p) : Tn B w p := ⟨hB, _, h, .inl rfl⟩
theorem Drv.ik (h : Drv p d w) (hB : B ≤ p) (hc : Chg (fun b => b = p) w w') : Ik B w w' := Ik.of_chg hc (fun b _ e => by rw [e]; exact h.tn hB)
theorem Drv.at_ (h : Drv p d w) {i : Nat} {v : Value} (hv : (dcA d)[i]? = some v) : w.cell? ⟨p, i, none⟩ = some v := by rw [cell_of_row _ _ _ _ _ _ h]; exact hv
theorem Drv.froz (h : Drv p d w) (i : Nat) : w.frozen? ⟨p, i, none⟩ = false := frozen_of_row _ _ _ _ _ h
theorem Drv.setG (h : Drv p d w) (x : Nat) : Drv p { d with g := x } (w.setCell ⟨p, 0, none⟩ (.int .u64 (x : Int))) := by
  unfold Drv; rw [heap_setCell_same _ _ 0 _ _ _ h]; rfl
theorem Drv.setL (h : Drv p d w) (x : Nat) : Drv p { d with l := x } (w.setCell ⟨p, 1, none⟩ (.int .u64 (x : Int))) := by
  unfold Drv; rw [heap_setCell_same _ _ 1 _ _ _ h]; rfl
theorem Drv.setC (h : Drv p d w) (x : Nat) : Drv p { d with c := x } (w.setCell ⟨p, 2, none⟩ (.int .u64 (x : Int))) := by
  unfold Drv; rw [heap_setCell_same _ _ 2 _ _ _ h]; rfl
theorem Drv.setS (h : Drv p d w) (x : Nat) : Drv p { d with s := x } (w.setCell ⟨p, 3, none⟩ (.int .u64 (x : Int))) := by
  unfold Drv; rw [heap_setCell_same _ _ 3 _ _ _ h]; rfl
theorem Drv.setR (h : Drv p d w) (x : Option Addr × Nat × Nat) : Drv p { d with rv := x } (w.setCell ⟨p, 5, none⟩ (.slice x.1 x.2.1 x.2.2)) := by
  unfold Drv; rw [heap_setCell_same _ _ 5 _ _ _ h]; rfl
theorem Drv.setE (h : Drv p d w) (x : Option Addr × Nat × Nat) : Drv p { d with ev := x } (w.setCell ⟨p, 6, none⟩ (.slice x.1 x.2.1 x.2.2)) := by
  unfold Drv; rw [heap_setCell_same _ _ 6 _ _ _ h]; rfl
theorem chg_p (p i : Nat) (u : Value) (w : World) : Chg (fun b => b = p) w (w.setCell ⟨p, i, none⟩ u) := (Chg.refl _ w).put p i u rfl
theorem chg_dN (S : Nat → Prop) (w : World) (n : Nat) : Chg S w (w.drewN n) := (Chg.of_below (below_drewN (Below.refl w.heap.size w) n)).mono (fun b hb h => by omega)
end

/-- A command's cells. -/
structure PC where
  kind : Int
  n : Nat
  ts : Nat
  ttl : Nat
  store : Int
  rid : Nat
  rs : Option Addr × Nat × Nat
  re : Option Addr × Nat × Nat
  rcf : Nat
  rvr : Nat
  rp : Option Addr × Nat × Nat
  oid : Nat
  os : Option Addr × Nat × Nat
  oe : Option Addr × Nat × Nat
  ocf : Nat
  ovr : Nat
  op : Option Addr × Nat × Nat
  cm : Bool
def pcA (c : PC) : Array Value := #[.int .i64 c.kind, .int .u64 (c.n : Int), .int .u64 (c.ts : Int), .int .u64 (c.ttl : Int), .int .i64 c.store, .int .u64 (c.rid : Int), .slice c.rs.1 c.rs.2.1 c.rs.2.2, .slice c.re.1 c.re.2.1 c.re.2.2, .int .u64 (c.rcf : Int), .int .u64 (c.rvr : Int), .slice c.rp.1 c.rp.2.1 c.rp.2.2, .int .u64 (c.oid : Int), .slice c.os.1 c.os.2.1 c.os.2.2, .slice c.oe.1 c.oe.2.1 c.oe.2.2, .int .u64 (c.ocf : Int), .int .u64 (c.ovr : Int), .slice c.op.1 c.op.2.1 c.op.2.2, .bool c.cm]
theorem pcA_cell (c : PC) (w : World) (j : Nat) (v : Value) (h : (pcA c)[j]? = some v) : (w.alloc (.cells (pcA c) 40)).cell? ⟨w.heap.size, j, none⟩ = some v := by
  rw [cell_of_row _ _ _ _ _ _ (heap_new w _)]; exact h
/-- A command of a kind with three numbers and a store. -/
def pc0 (kind : Int) (n ts ttl : Nat) (store : Int) : PC := ⟨kind, n, ts, ttl, store, 0, (none, 0, 0), (none, 0, 0), 0, 0, (none, 0, 0), 0, (none, 0, 0), (none, 0, 0), 0, 0, (none, 0, 0), false⟩
/-- What is answered. -/
def prA (er n st : Int) : Value := .agg #[.int .i64 er, .int .u64 n, .int .i64 st]
/-- The answer is laid into the result's block. -/
theorem pr_fin {W : World} {rb : Nat} {u0 u1 u2 : Value} (h : W.heap[rb]? = some (.cells #[u0, u1, u2] 42 (0, 0))) (x y z : Value) : ((((W.setCell ⟨rb, 0, none⟩ x).setCell ⟨rb, 1, none⟩ y).setCell ⟨rb, 2, none⟩ z).cell? ⟨rb, 0, none⟩ = some x ∧ (((W.setCell ⟨rb, 0, none⟩ x).setCell ⟨rb, 1, none⟩ y).setCell ⟨rb, 2, none⟩ z).cell? ⟨rb, 1, none⟩ = some y ∧ (((W.setCell ⟨rb, 0, none⟩ x).setCell ⟨rb, 1, none⟩ y).setCell ⟨rb, 2, none⟩ z).cell? ⟨rb, 2, none⟩ = some z) ∧ Chg (fun b => b = rb) W (((W.setCell ⟨rb, 0, none⟩ x).setCell ⟨rb, 1, none⟩ y).setCell ⟨rb, 2, none⟩ z) := by
  obtain ⟨k0, k1, k2, _⟩ := cells3 (set3_block h x y z)
  exact ⟨⟨k0, k1, k2⟩, set3_chg W rb x y z⟩
/-- What a command begins with: its box and the result's block. -/
theorem two_new (w : World) (a b : Obj) : ((w.alloc a).alloc b).heap[w.heap.size]? = some a ∧ ((w.alloc a).alloc b).heap[w.heap.size + 1]? = some b ∧ Below w.heap.size w ((w.alloc a).alloc b) := by
  have hz : (w.alloc a).heap.size = w.heap.size + 1 := by simp
  refine ⟨?_, ?_, ((Below.refl _ _).alloc (Nat.le_refl _) a).alloc (by rw [hz]; omega) b⟩
  · rw [Below.heap_alloc _ _ _ (by rw [hz]; omega)]; exact heap_new w a
  · rw [← hz]; exact heap_new _ b
/-- A command's box in a world. -/
structure Bxd (c : PC) (x r : Nat) (w : World) : Prop where
  box : w.heap[x]? = some (.cells (pcA c) 40 (0, 0))
  res : w.heap[r]? = some (.cells #[.int .i64 0, .int .u64 0, .int .i64 0] 42 (0, 0))
theorem Bxd.new (c : PC) (w : World) : Bxd c w.heap.size (w.heap.size + 1) ((w.alloc (.cells (pcA c) 40)).alloc (.cells #[.int .i64 0, .int .u64 0, .int .i64 0] 42)) := ⟨(two_new w _ _).1, (two_new w _ _).2.1⟩
theorem Bxd.at_ {c : PC} {x r : Nat} {w : World} (h : Bxd c x r w) {i : Nat} {v : Value} (hv : (pcA c)[i]? = some v) : w.cell? ⟨x, i, none⟩ = some v := by rw [cell_of_row _ _ _ _ _ _ h.box]; exact hv
theorem Bxd.rs {c : PC} {x r : Nat} {w : World} (h : Bxd c x r w) : w.cell? ⟨r, 0, none⟩ = some (.int .i64 0) ∧ w.cell? ⟨r, 1, none⟩ = some (.int .u64 0) ∧ w.cell? ⟨r, 2, none⟩ = some (.int .i64 0) ∧ w.frozen? ⟨r, 0, none⟩ = false ∧ w.frozen? ⟨r, 1, none⟩ = false ∧ w.frozen? ⟨r, 2, none⟩ = false := by
  obtain ⟨a, b, c, f⟩ := cells3 h.res
  exact ⟨a, b, c, f 0, f 1, f 2⟩
theorem Bxd.next {S : Nat → Prop} {c : PC} {x r : Nat} {w w' : World} (h : Bxd c x r w) (hc : Chg S w w') (h1 : ¬ S x) (h2 : ¬ S r) : Bxd c x r w' :=
  ⟨by rw [hc.block x (Array.getElem?_eq_some_iff.1 h.box).1 h1]; exact h.box, by rw [hc.block r (Array.getElem?_eq_some_iff.1 h.res).1 h2]; exact h.res⟩
theorem Bxd.ik {B : Nat} {c : PC} {x r : Nat} {w w' : World} (h : Bxd c x r w) (hc : Ik B w w') : Bxd c x r w' :=
  ⟨hc.block h.box (by rintro (q | q) <;> simp at q), hc.block h.res (by rintro (q | q) <;> simp at q)⟩
theorem Drv.drewN {p : Nat} {d : DC} {w : World} (h : Drv p d w) (n : Nat) : Drv p d (w.drewN n) := h
theorem Bxd.drewN {c : PC} {x r : Nat} {w : World} (h : Bxd c x r w) (n : Nat) : Bxd c x r (w.drewN n) := ⟨h.box, h.res⟩
/-- From a command's beginning to its end. -/
theorem fin_chg {w W W1 wz : World} {S : Nat → Prop} (h0 : Below w.heap.size w W) (h1 : Chg S W W1) (hc : Chg (fun b => b = w.heap.size + 1) W1 wz) : Chg S w wz :=
  (((Chg.of_below h0).mono (fun b q1 q2 => by omega)).trans (h1.mono (fun b _ q => .inl q))).trans (hc.mono (fun b _ q => .inr (by omega)))
theorem fin_ik {B : Nat} {w W W1 wz : World} (h0 : Below w.heap.size w W) (h1 : Ik B W W1) (hc : Chg (fun b => b = w.heap.size + 1) W1 wz) : Ik B w wz :=
  Chg.trans (Ik.trans (Ik.of_below h0 (Nat.le_refl _)) h1) (hc.mono (fun b _ q => .inr (by omega)))
end Go.Proofs.Ytlfdcnojbbigbaa
