/- A plan in memory, the views and the orders. -/
import Derived.Test.YtedfjacmaidhkaaGreatG6
namespace Go.Proofs.YtedfjacmaidhkaaGreat
open Go.RowKit Go.Maps
set_option linter.unusedVariables false
set_option linter.unusedSimpArgs false
set_option maxRecDepth 100000

/-- A store's view: its number, whether it lives. -/
abbrev Sw := Int × Bool
def swc (p : Sw) : List Value := [.int .i64 p.1, .bool p.2]
def swcs (l : List Sw) : List Value := l.flatMap swc
theorem swc_len (p : Sw) : (swc p).length = 2 := rfl
theorem swcs_len (l : List Sw) : (swcs l).length = l.length * 2 := fm_len swc_len l
theorem swcs_app (a b : List Sw) : swcs (a ++ b) = swcs a ++ swcs b := by simp [swcs]
theorem swcs_one (l : List Sw) : ∀ u ∈ swcs l, u.oneCell' = true := by
  intro u hu
  obtain ⟨p, _, h⟩ := List.mem_flatMap.1 hu
  simp only [swc, List.mem_cons, List.not_mem_nil, or_false] at h
  rcases h with rfl | rfl <;> rfl
/-- The slice value reads as these views. -/
def RdSw (w : World) (v : Value) (l : List Sw) : Prop :=
  ∃ ao c, v = .slice ao l.length c ∧ l.length ≤ c ∧ c ≤ 9223372036854775807 ∧ ∀ i p, l[i]? = some p → ∃ a, ao = some a ∧ w.cell? (a.add (i * 2)) = some (.int .i64 p.1) ∧ w.cell? ⟨(a.add (i * 2)).block, (a.add (i * 2)).off + 1, none⟩ = some (.bool p.2)
theorem RdSw.nil (w : World) : RdSw w (.slice none 0 0) [] := ⟨none, 0, rfl, Nat.le_refl _, by omega, fun i p h => by simp at h⟩
theorem RdSw.below {B : Nat} {w w' : World} {v : Value} {l : List Sw} (h : RdSw w v l) (hb : Below B w w') (hB : w.heap.size ≤ B) : RdSw w' v l := by
  obtain ⟨ao, c, h0, h1, h2, h4⟩ := h
  have k : ∀ x u, w.cell? x = some u → w'.cell? x = some u := fun x u q => by rw [hb.cell (by have := World.block_lt_of_cell? w _ q; omega)]; exact q
  refine ⟨ao, c, h0, h1, h2, fun i p hi => ?_⟩
  obtain ⟨a, e, q1, q2⟩ := h4 i p hi
  exact ⟨a, e, k _ _ q1, k _ _ q2⟩
/-- An order. -/
structure Or where
  kind : Int
  reg : Nat
  store : Int
  peer : Nat
  other : Nat
def or5 (o : Or) : List Value := [.int .i64 o.kind, .int .u64 (o.reg : Int), .int .i64 o.store, .int .u64 (o.peer : Int), .int .u64 (o.other : Int)]
def orV (o : Or) : Value := .agg #[.int .i64 o.kind, .int .u64 (o.reg : Int), .int .i64 o.store, .int .u64 (o.peer : Int), .int .u64 (o.other : Int)]
def ors (l : List Or) : List Value := l.flatMap or5
theorem or5_len (o : Or) : (or5 o).length = 5 := rfl
theorem ors_len (l : List Or) : (ors l).length = l.length * 5 := fm_len or5_len l
theorem ors_app (a b : List Or) : ors (a ++ b) = ors a ++ ors b := by simp [ors]
theorem ors_one (l : List Or) : ∀ u ∈ ors l, u.oneCell' = true := by
  intro u hu
  obtain ⟨p, _, h⟩ := List.mem_flatMap.1 hu
  simp only [or5, List.mem_cons, List.not_mem_nil, or_false] at h
  rcases h with rfl | rfl | rfl | rfl | rfl <;> rfl
def noOr : Or := ⟨0, 0, 0, 0, 0⟩
/-- A region's view: its cells, and what they read as. -/
structure RV where
  id : UInt64
  sa : Option Addr
  sc : Nat
  ea : Option Addr
  ec : Nat
  cf : Int
  vr : Int
  pa : Option Addr
  pc : Nat
  ld : Int
  sz : Int
  bz : Bool
  s : List UInt8
  e : List UInt8
  ps : List Pe
def r9 (r : RV) : Array Value := #[.int .u64 (r.id.toNat : Int), .slice r.sa r.s.length r.sc, .slice r.ea r.e.length r.ec, .int .u64 r.cf, .int .u64 r.vr, .slice r.pa r.ps.length r.pc, .int .i64 r.ld, .int .i64 r.sz, .bool r.bz]
/-- .. does read so. -/
structure It9 (w : World) (r : RV) : Prop where
  s : Rd w (.slice r.sa r.s.length r.sc) r.s
  e : Rd w (.slice r.ea r.e.length r.ec) r.e
  p : RdPe w (.slice r.pa r.ps.length r.pc) r.ps
theorem It9.below {B : Nat} {w w' : World} {r : RV} (h : It9 w r) (hb : Below B w w') (hB : w.heap.size ≤ B) : It9 w' r := ⟨h.s.below hb hB, h.e.below hb hB, h.p.below hb hB⟩
/-- The cells of a view that lies in a block, from a place on. -/
def At9 (w : World) (a : Addr) (r : RV) : Prop := ∀ (j : Nat) (x : Value), (r9 r)[j]? = some x → w.cell? (if j = 0 then a else ⟨a.block, a.off + j, none⟩) = some x
theorem At9.below {B : Nat} {w w' : World} {a : Addr} {r : RV} (h : At9 w a r) (hb : Below B w w') (hB : w.heap.size ≤ B) : At9 w' a r := fun j x e => by
  have := h j x e
  rw [hb.cell (by have := World.block_lt_of_cell? w _ this; omega)]; exact this
theorem At9.nine {w : World} {a : Addr} {r : RV} (h : At9 w a r) : w.cell? a = some (.int .u64 (r.id.toNat : Int)) ∧ w.cell? ⟨a.block, a.off + 1, none⟩ = some (.slice r.sa r.s.length r.sc) ∧ w.cell? ⟨a.block, a.off + 2, none⟩ = some (.slice r.ea r.e.length r.ec) ∧ w.cell? ⟨a.block, a.off + 3, none⟩ = some (.int .u64 r.cf) ∧ w.cell? ⟨a.block, a.off + 4, none⟩ = some (.int .u64 r.vr) ∧ w.cell? ⟨a.block, a.off + 5, none⟩ = some (.slice r.pa r.ps.length r.pc) ∧ w.cell? ⟨a.block, a.off + 6, none⟩ = some (.int .i64 r.ld) ∧ w.cell? ⟨a.block, a.off + 7, none⟩ = some (.int .i64 r.sz) ∧ w.cell? ⟨a.block, a.off + 8, none⟩ = some (.bool r.bz) :=
  ⟨h 0 _ rfl, h 1 _ rfl, h 2 _ rfl, h 3 _ rfl, h 4 _ rfl, h 5 _ rfl, h 6 _ rfl, h 7 _ rfl, h 8 _ rfl⟩
/-- A box of a view in a world. -/
theorem nine_at {w : World} {g : Nat} {r : RV} (h : w.heap[g]? = some (.cells (r9 r) 42 (0, 0))) : w.cell? ⟨g, 0, none⟩ = some (.int .u64 (r.id.toNat : Int)) ∧ w.cell? ⟨g, 1, none⟩ = some (.slice r.sa r.s.length r.sc) ∧ w.cell? ⟨g, 2, none⟩ = some (.slice r.ea r.e.length r.ec) ∧ w.cell? ⟨g, 3, none⟩ = some (.int .u64 r.cf) ∧ w.cell? ⟨g, 4, none⟩ = some (.int .u64 r.vr) ∧ w.cell? ⟨g, 5, none⟩ = some (.slice r.pa r.ps.length r.pc) ∧ w.cell? ⟨g, 6, none⟩ = some (.int .i64 r.ld) ∧ w.cell? ⟨g, 7, none⟩ = some (.int .i64 r.sz) ∧ w.cell? ⟨g, 8, none⟩ = some (.bool r.bz) := by
  have k : ∀ i v, (r9 r)[i]? = some v → w.cell? ⟨g, i, none⟩ = some v := fun i v hv => by rw [cell_of_row _ _ _ _ _ _ h]; exact hv
  exact ⟨k 0 _ rfl, k 1 _ rfl, k 2 _ rfl, k 3 _ rfl, k 4 _ rfl, k 5 _ rfl, k 6 _ rfl, k 7 _ rfl, k 8 _ rfl⟩
/-- The slice value reads as these views. -/
def RdRv (w : World) (v : Value) (l : List RV) : Prop :=
  ∃ ao c, v = .slice ao l.length c ∧ l.length ≤ c ∧ c ≤ 9223372036854775807 ∧ ∀ i r, l[i]? = some r → It9 w r ∧ ∃ a, ao = some a ∧ At9 w (a.add (i * 9)) r
theorem RdRv.below {B : Nat} {w w' : World} {v : Value} {l : List RV} (h : RdRv w v l) (hb : Below B w w') (hB : w.heap.size ≤ B) : RdRv w' v l := by
  obtain ⟨ao, c, h0, h1, h2, h4⟩ := h
  refine ⟨ao, c, h0, h1, h2, fun i r hi => ?_⟩
  obtain ⟨q, a, e, hc⟩ := h4 i r hi
  exact ⟨q.below hb hB, a, e, hc.below hb hB⟩
/-- A plan's cells. -/
structure PL where
  pr : Int
  psp : Int
  pmg : Int
  rep : Int
  sv : Option Addr × Nat × Nat
  rv : Option Addr × Nat × Nat
  ms : Nat
  ml : Nat
  md : Nat
  mn : Nat
  ov : Option Addr × Nat × Nat
  ru : Option Nat
def plA (d : PL) : Array Value := #[.int .i64 d.pr, .int .i64 d.psp, .int .i64 d.pmg, .int .i64 d.rep, sv d.sv, sv d.rv, .map (some d.ms), .map (some d.ml), .map (some d.md), .map (some d.mn), sv d.ov]
/-- What is in a plan. -/
structure PD where
  ss : List Sw
  rs : List RV
  st : List UInt8 → Option Int
  ld : Int → Int
  le : Int → Int
  nm : Nat → Bool
/-- A plan at x, as the rules read it. -/
structure Pln (x : Nat) (d : PL) (p : PD) (w : World) : Prop where
  blk : w.heap[x]? = some (.cells (plA d) 71 (0, 0))
  ss : RdSw w (sv d.sv) p.ss
  rs : RdRv w (sv d.rv) p.rs
  st : ∃ n, St d.ms n p.st w
  ld : ∃ n, Im d.ml n p.ld w
  le : ∃ n, Im d.md n p.le w
  nm : ∃ n, Gs d.mn n p.nm w
section
variable {x : Nat} {d : PL} {p : PD} {w w' : World}
theorem Pln.lt (h : Pln x d p w) : x < w.heap.size := (Array.getElem?_eq_some_iff.1 h.blk).1
theorem Pln.below (h : Pln x d p w) (hb : Below w.heap.size w w') : Pln x d p w' := by
  obtain ⟨n1, h1⟩ := h.st
  obtain ⟨n2, h2⟩ := h.ld
  obtain ⟨n3, h3⟩ := h.le
  obtain ⟨n4, h4⟩ := h.nm
  exact ⟨(hb.block x h.lt).trans h.blk, h.ss.below hb (Nat.le_refl _), h.rs.below hb (Nat.le_refl _), ⟨n1, h1.below hb (Nat.le_refl _)⟩, ⟨n2, h2.below hb (Nat.le_refl _)⟩, ⟨n3, h3.below hb (Nat.le_refl _)⟩, ⟨n4, h4.below hb (Nat.le_refl _)⟩⟩
theorem Pln.at_ (h : Pln x d p w) {i : Nat} {v : Value} (hv : (plA d)[i]? = some v) : w.cell? ⟨x, i, none⟩ = some v := by rw [cell_of_row _ _ _ _ _ _ h.blk]; exact hv
end
/-- Does a store that is told live? -/
def livF (ss : List Sw) (q : Pe) : Bool := ss.contains (q.2.1, true)
end Go.Proofs.YtedfjacmaidhkaaGreat
