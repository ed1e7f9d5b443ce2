/- What PdMerges keeps; Split and SameRegion as it asks them. -/
import Derived.Test.YtlfdcnojbbigbaaG40
namespace Go.Proofs.Ytlfdcnojbbigbaa
open Go.RowKit Go.Maps
set_option linter.unusedVariables false
set_option linter.unusedSimpArgs false
set_option maxRecDepth 100000

def rA (r : RC) : Array Value := #[.int .u64 (r.id : Int), .slice r.s.1 r.s.2.1 r.s.2.2, .slice r.e.1 r.e.2.1 r.e.2.2, .int .u64 (r.cf : Int), .int .u64 (r.vr : Int), .slice r.p.1 r.p.2.1 r.p.2.2]
/-- A region in a block. -/
def Rb6 (g : Nat) (r : RC) (w : World) : Prop := w.heap[g]? = some (.cells (rA r) 34 (0, 0))
theorem Rb6.lt {g : Nat} {r : RC} {w : World} (h : Rb6 g r w) : g < w.heap.size := (Array.getElem?_eq_some_iff.1 h).1
theorem Rb6.next {S : Nat → Prop} {g : Nat} {r : RC} {w w' : World} (h : Rb6 g r w) (hc : Chg S w w') (hp : ¬ S g) : Rb6 g r w' := by unfold Rb6; rw [hc.block g h.lt hp]; exact h
/-- The driver, the command, the two regions: the law's state. -/
structure MI (B p o qa qb : Nat) (d : DC) (c : PC) (k k2 cc : Nat) (f : Nat → Option Value) (g : Nat → Bool) (key : List UInt8) (w0 w : World) : Prop where
  drv : Drv p d w
  mm : Mm d.mm k f w
  gs : Gs d.gm k2 g cc w
  cm : Cm o c w
  oa : OwC B w (rcO c) [] key [Pe1]
  ob : OwC B w (rcR c) key [] [Pe8]
  ba : Rb6 qa (rcO c) w
  bb : Rb6 qb (rcR c) w
  bl : Below w0.heap.size w0 w
  ord : w0.heap.size ≤ d.mm ∧ d.mm < B ∧ w0.heap.size ≤ d.gm ∧ d.gm < B ∧ p < B ∧ B ≤ o ∧ B ≤ qa ∧ B ≤ qb ∧ d.mm ≠ d.gm ∧ p ≠ d.mm ∧ p ≠ d.gm
section
variable {B p o qa qb k k2 cc : Nat} {d : DC} {c : PC} {f : Nat → Option Value} {g : Nat → Bool} {key : List UInt8} {w0 w w' : World}
theorem MI.below (h : MI B p o qa qb d c k k2 cc f g key w0 w) (hb : Below w.heap.size w w') : MI B p o qa qb d c k k2 cc f g key w0 w' :=
  ⟨h.drv.belowN hb (Nat.le_refl _), h.mm.below hb (Nat.le_refl _), h.gs.below hb (Nat.le_refl _), h.cm.next (Chg.of_below hb) (fun q => by have := h.cm.lt; omega), OwR.below h.oa hb (Nat.le_refl _), OwR.below h.ob hb (Nat.le_refl _), h.ba.next (Chg.of_below hb) (fun q => by have := h.ba.lt; omega), h.bb.next (Chg.of_below hb) (fun q => by have := h.bb.lt; omega), h.bl.trans (hb.mono h.bl.size), h.ord⟩
theorem MI.alloc (h : MI B p o qa qb d c k k2 cc f g key w0 w) (ob : Obj) : MI B p o qa qb d c k k2 cc f g key w0 (w.alloc ob) := h.below ((Below.refl _ _).alloc (Nat.le_refl _) ob)
theorem MI.step {k' k2' cc' : Nat} {f' : Nat → Option Value} {g' : Nat → Bool} (h : MI B p o qa qb d c k k2 cc f g key w0 w) (hc : Chg (fun x => x = d.mm ∨ x = d.gm) w w') (hm : Mm d.mm k' f' w') (hg : Gs d.gm k2' g' cc' w') : MI B p o qa qb d c k' k2' cc' f' g' key w0 w' := by
  obtain ⟨q1, q2, q3, q4, q5, q6, q7, q8, q9, q10, q11⟩ := h.ord
  exact ⟨h.drv.next hc (by omega), hm, hg, h.cm.next hc (by omega), OwR.keptC h.oa hc (fun b q => by omega), OwR.keptC h.ob hc (fun b q => by omega), h.ba.next hc (by omega), h.bb.next hc (by omega), h.bl.trans (hc.below (fun b q => by omega) h.bl.size), h.ord⟩
theorem OwC.keptT {B r : Nat} {w w' : World} {x : RC} {s e : List UInt8} {ps : List Pe} {cs : Array Value} {ty : TypeId} {fr : Nat × Nat} (h : OwC B w x s e ps) (hb : w.heap[r]? = some (.cells cs ty fr)) (h1 : 5 ≠ ty) (h2 : 31 ≠ ty) (hc : Chg (fun b => b = r) w w') : OwC B w' x s e ps :=
  ⟨h.s.keptC hc (row_ner h.s hb h1), h.e.keptC hc (row_ner h.e hb h1), h.p.keptC hc (row_ner h.p hb h2), h.se, h.sp, h.ep⟩
theorem MI.setN (h : MI B p o qa qb d c k k2 cc f g key w0 w) (x : Nat) (hqa : qa ≠ o) (hqb : qb ≠ o) : MI B p o qa qb d { c with n := x } k k2 cc f g key w0 (w.setCell ⟨o, 1, none⟩ (.int .u64 (x : Int))) := by
  obtain ⟨q1, q2, q3, q4, q5, q6, q7, q8, q9, q10, q11⟩ := h.ord
  have hc := chg_p o 1 (.int .u64 (x : Int)) w
  have ow := h.bl.size
  have hml := h.mm.lt
  exact ⟨h.drv.next hc (by omega), h.mm.next hc (by omega), h.gs.next hc (by omega), h.cm.setN x, h.oa.keptT h.cm (by decide) (by decide) hc, h.ob.keptT h.cm (by decide) (by decide) hc, h.ba.next hc (by omega), h.bb.next hc (by omega), h.bl.trans (hc.below (fun b q => by omega) ow), h.ord⟩
/-- A merge that the driver keeps: its regions. -/
structure MJ (B o : Nat) (d : DC) (s t : RC) (key : List UInt8) (w : World) : Prop where
  os : OwC B w s key [] [Pe8]
  ot : OwC B w t [] key [Pe1]
  si : s.id = 7 ∧ s.cf = 1 ∧ s.vr = 2
  ti : t.id = 1 ∧ t.cf = 1 ∧ t.vr = 2
  bd : d.mm < B ∧ d.gm < B
variable {s t : RC}
theorem MJ.below (h : MJ B o d s t key w) (hb : Below w.heap.size w w') : MJ B o d s t key w' := ⟨OwR.below h.os hb (Nat.le_refl _), OwR.below h.ot hb (Nat.le_refl _), h.si, h.ti, h.bd⟩
theorem MJ.alloc (h : MJ B o d s t key w) (ob : Obj) : MJ B o d s t key (w.alloc ob) := h.below ((Below.refl _ _).alloc (Nat.le_refl _) ob)
theorem MJ.step (h : MJ B o d s t key w) (hc : Chg (fun x => x = d.mm ∨ x = d.gm) w w') : MJ B o d s t key w' := ⟨OwR.keptC h.os hc (fun b q => by have := h.bd; omega), OwR.keptC h.ot hc (fun b q => by have := h.bd; omega), h.si, h.ti, h.bd⟩
theorem MJ.setN (h : MJ B o d s t key w) (hcm : Cm o c w) (x : Value) : MJ B o d s t key (w.setCell ⟨o, 1, none⟩ x) :=
  ⟨h.os.keptT hcm (by decide) (by decide) (chg_p o 1 x w), h.ot.keptT hcm (by decide) (by decide) (chg_p o 1 x w), h.si, h.ti, h.bd⟩
end
theorem pm_split_ok {pv kv lv : Value} {key : List UInt8} {W : World} (hp : RdPe W pv [Pe1]) (hk : Rd W kv key) (hL : Ru W lv [8]) (h0 : key.length ≠ 0) (h : key.length ≤ 64) :
    Calls Try.prog 6 #[.agg #[.int .u64 1, .slice none 0 0, .slice none 0 0, .int .u64 1, .int .u64 1, pv], kv, .int .u64 7, lv] W fun x w' => ∃ sa sc ea ec pa pc ta tc fa fc qa qc, x = .returned (.tuple #[.agg #[.int .u64 1, .slice sa 0 sc, .slice ea key.length ec, .int .u64 1, .int .u64 2, .slice pa 1 pc], .agg #[.int .u64 7, .slice ta key.length tc, .slice fa 0 fc, .int .u64 1, .int .u64 2, .slice qa 1 qc], .int .i64 0]) ∧ OwC W.heap.size w' ⟨1, (sa, 0, sc), (ea, key.length, ec), 1, 2, (pa, 1, pc)⟩ [] key [Pe1] ∧ OwC W.heap.size w' ⟨7, (ta, key.length, tc), (fa, 0, fc), 1, 2, (qa, 1, qc)⟩ key [] [Pe8] ∧ Below W.heap.size W w' := by
  have hc : cspE 1 7 1 [] [] key [Pe1] [8] = 0 := by rw [pm_csp, if_neg h0, if_neg (by omega)]
  have := split_ok (id := 1) (nid := 7) (vr := 1) (cf := 1) (Rd.nil W) (Rd.nil W) hp hk hL hc (by simp) (by simp) (by simp) h (by decide) rfl
  refine Calls.mono this ?_
  rintro x w' ⟨sv1, kv1, pv1, kv2, ev2, pv2, rfl, o1, o2, hb⟩
  obtain ⟨a1, d1, rfl⟩ := o1.s.shp
  obtain ⟨a2, d2, rfl⟩ := o1.e.shp
  obtain ⟨a3, d3, rfl⟩ := o1.p.shape
  obtain ⟨a4, d4, rfl⟩ := o2.s.shp
  obtain ⟨a5, d5, rfl⟩ := o2.e.shp
  obtain ⟨a6, d6, rfl⟩ := o2.p.shape
  exact ⟨_, _, _, _, _, _, _, _, _, _, _, _, rfl, o1, o2, hb⟩
theorem pm_split_err {pv kv lv : Value} {key : List UInt8} {W : World} (hp : RdPe W pv [Pe1]) (hk : Rd W kv key) (hL : Ru W lv [8]) (h0 : key.length = 0 ∨ 64 < key.length) :
    Calls Try.prog 6 #[.agg #[.int .u64 1, .slice none 0 0, .slice none 0 0, .int .u64 1, .int .u64 1, pv], kv, .int .u64 7, lv] W fun x w' => ∃ ce : Int, (ce != 0) = true ∧ x = .returned (.tuple #[.agg #[.int .u64 0, .slice none 0 0, .slice none 0 0, .int .u64 0, .int .u64 0, .slice none 0 0], .agg #[.int .u64 0, .slice none 0 0, .slice none 0 0, .int .u64 0, .int .u64 0, .slice none 0 0], .int .i64 ce]) ∧ Below W.heap.size W w' := by
  have hc : cspE 1 7 1 [] [] key [Pe1] [8] ≠ 0 := by
    rw [pm_csp]
    by_cases q : key.length = 0
    · rw [if_pos q]; decide
    · rw [if_neg q, if_pos (by omega)]; decide
  have := split_err (id := 1) (nid := 7) (vr := 1) (cf := 1) (Rd.nil W) (Rd.nil W) hp hk hL hc
  refine Calls.mono this ?_
  rintro x w' ⟨rfl, hb⟩
  exact ⟨_, by simpa using hc, rfl, hb⟩
theorem pm_same {i cf vr : Nat} {sv ev pv tv fv qv : Value} {s e : List UInt8} {ps : List Pe} {w : World} (hi : i < 18446744073709551616) (hcf : cf < 18446744073709551616) (hv : vr < 18446744073709551616) (hs : Rd w sv s) (he : Rd w ev e) (hp : RdPe w pv ps) (ht : Rd w tv s) (hf : Rd w fv e) (hq : RdPe w qv ps) :
    Calls Try.prog 9 #[.agg #[.int .u64 (i : Int), sv, ev, .int .u64 (cf : Int), .int .u64 (vr : Int), pv], .agg #[.int .u64 (i : Int), tv, fv, .int .u64 (cf : Int), .int .u64 (vr : Int), qv]] w fun x w' => x = .returned (.bool true) ∧ Below w.heap.size w w' := by
  have e1 : (UInt64.ofNat i).toNat = i := by rw [UInt64.toNat_ofNat']; omega
  have e2 : (UInt64.ofNat cf).toNat = cf := by rw [UInt64.toNat_ofNat']; omega
  have e3 : (UInt64.ofNat vr).toNat = vr := by rw [UInt64.toNat_ofNat']; omega
  have := sameRegion_any (id := UInt64.ofNat i) (cf := UInt64.ofNat cf) (vr := UInt64.ofNat vr) (id' := UInt64.ofNat i) (cf' := UInt64.ofNat cf) (vr' := UInt64.ofNat vr) hs he hp ht hf hq
  rw [e1, e2, e3] at this
  refine this.mono ?_
  rintro x w' ⟨rfl, hb⟩
  exact ⟨by simp, hb⟩
/-- Do of the command that lies in a block. -/
theorem zeroM_eq : zeroM = .agg (mgA 0 ⟨0, (none, 0, 0), (none, 0, 0), 0, 0, (none, 0, 0)⟩ ⟨0, (none, 0, 0), (none, 0, 0), 0, 0, (none, 0, 0)⟩ 0) := rfl
end Go.Proofs.Ytlfdcnojbbigbaa
