/- Do of a merge and of a decision. -/
import Derived.Test.YtlfdcnojbbigbaaG16
import Derived.Test.YtlfdcnojbbigbaaG32
import Derived.Test.YtlfdcnojbbigbaaG19
namespace Go.Proofs.Ytlfdcnojbbigbaa
open Go.RowKit Go.Maps
set_option linter.unusedVariables false
set_option linter.unusedSimpArgs false
set_option maxRecDepth 100000
section
variable {B m n k cc p id : Nat} {g : Nat → Bool} {f : Nat → Option Value} {w w' : World} {d : DC} {s t : RC} {sb se tb te : List UInt8} {sp tp : List Pe}
theorem Merges.below {c : PC} {W : World} (h : Merges c w) (hb : Below w.heap.size w W) : Merges c W := fun W' hW => h W' (hb.trans (hW.mono hb.size))
theorem ddecided (c : PC) (hk : c.kind = 10) (hcn : c.n < 18446744073709551616) (hd : Drv p d w) (hm : Mm d.mm n f w) {b : Bool} (hf : f c.n = some (.agg (mgA id s t (if b then 2 else 3)))) :
    Calls Try.prog 7 #[.pointer (some ⟨p, 0, none⟩), .agg (pcA c)] w fun e w' => e = .returned (prA 0 0 (if b then 2 else 3)) ∧ Below w.heap.size w w' := by
  have := do_any c 10 33 hk (by decide) (by decide) rfl (enters_of Try.func33 (by kernel_rfl) rfl) (p := p) (B := 0) (w := w) (P := fun er m st w' => er = 0 ∧ m = 0 ∧ st = (if b then 2 else 3) ∧ Below w.heap.size w w')
    (fun W hb => (decided_any c hcn (hd.belowN hb (Nat.le_refl _)) (hm.below hb (Nat.le_refl _)) hf).mono (fun e w' q => ⟨_, _, _, q.1, ⟨rfl, rfl, rfl, hb.trans (q.2.mono hb.size)⟩, Ik.of_below q.2 (Nat.le_refl _)⟩))
    (fun er m st w1 w2 q hbx hc => ⟨q.1, q.2.1, q.2.2.1, q.2.2.2.trans (hc.below (fun b q => by omega) q.2.2.2.size)⟩)
  refine this.mono ?_
  rintro e w' ⟨er, m, st, rfl, ⟨rfl, rfl, rfl, q1⟩, _⟩
  exact ⟨rfl, q1⟩
theorem Mm.tn (h : Mm m n f w) : Tn 0 w m := by
  obtain ⟨D, h⟩ := h
  obtain ⟨es, clock, hh, r⟩ := h.map
  exact ⟨Nat.zero_le _, _, hh, trivial⟩
theorem Gs.tn (h : Gs m n g cc w) : Tn 0 w m := by
  obtain ⟨D, h⟩ := h
  obtain ⟨es, clock, hh, r⟩ := h.map
  exact ⟨Nat.zero_le _, _, hh, trivial⟩
theorem dknown (c : PC) (hk : c.kind = 9) (hcn : c.n < 18446744073709551616) (hc0 : c.n ≠ 0) (hd : Drv p d w) (hm : Mm d.mm n f w) (hg : Gs d.gm k g cc w) (hM : Merges c w) {st : Int} (hf : (f c.n).getD zeroM = .agg (mgA id s t st)) (hr : c.rid < 18446744073709551616) (hkn : (f c.n).isSome = true ∨ g c.rid = true) :
    Calls Try.prog 7 #[.pointer (some ⟨p, 0, none⟩), .agg (pcA c)] w fun e w' => e = .returned (prA 161 0 0) ∧ Below w.heap.size w w' := by
  have := do_any c 9 32 hk (by decide) (by decide) rfl (enters_of Try.func32 (by kernel_rfl) rfl) (p := p) (B := 0) (w := w) (P := fun er m st w' => er = 161 ∧ m = 0 ∧ st = 0 ∧ Below w.heap.size w w')
    (fun W hb => (open_known c hcn hc0 (hd.belowN hb (Nat.le_refl _)) (hm.below hb (Nat.le_refl _)) (hg.below hb (Nat.le_refl _)) (hM.below hb) hf hr hkn).mono (fun e w' q => ⟨_, _, _, q.1, ⟨rfl, rfl, rfl, hb.trans (q.2.mono hb.size)⟩, Ik.of_below q.2 (Nat.le_refl _)⟩))
    (fun er m st w1 w2 q hbx hc => ⟨q.1, q.2.1, q.2.2.1, q.2.2.2.trans (hc.below (fun b q => by omega) q.2.2.2.size)⟩)
  refine this.mono ?_
  rintro e w' ⟨er, m, st, rfl, ⟨rfl, rfl, rfl, q1⟩, _⟩
  exact ⟨rfl, q1⟩
theorem ddecide (c : PC) (hk : c.kind = 10) (hcn : c.n < 18446744073709551616) (hd : Drv p d w) (hm : Mm d.mm n f w) (hg : Gs d.gm k g cc w) (hne : d.mm ≠ d.gm) (hf : f c.n = some (.agg (mgA id s t 1))) (hs : s.id < 18446744073709551616) (ht : t.id < 18446744073709551616) (hn : n < 1048576) :
    Calls Try.prog 7 #[.pointer (some ⟨p, 0, none⟩), .agg (pcA c)] w fun e w' => e = .returned (prA 0 0 (if c.cm then 2 else 3)) ∧ Mm d.mm (n + 1) (mPut f c.n (.agg (mgA id s t (if c.cm then 2 else 3)))) w' ∧ (∃ c', Gs d.gm k (gDel (gDel g s.id) t.id) c' w' ∧ (g s.id = true → g t.id = true → s.id ≠ t.id → c' = cc - 2)) ∧ Chg (fun b => b = d.mm ∨ b = d.gm) w w' := by
  have hml := hm.lt
  have hgl := hg.lt
  have := do_any c 10 33 hk (by decide) (by decide) rfl (enters_of Try.func33 (by kernel_rfl) rfl) (p := p) (B := 0) (w := w) (P := fun er m st w' => er = 0 ∧ m = 0 ∧ st = (if c.cm then 2 else 3) ∧ Mm d.mm (n + 1) (mPut f c.n (.agg (mgA id s t (if c.cm then 2 else 3)))) w' ∧ (∃ c', Gs d.gm k (gDel (gDel g s.id) t.id) c' w' ∧ (g s.id = true → g t.id = true → s.id ≠ t.id → c' = cc - 2)) ∧ Chg (fun b => b = d.mm ∨ b = d.gm) w w')
    (fun W hb => (decide_any c hcn (hd.belowN hb (Nat.le_refl _)) (hm.below hb (Nat.le_refl _)) (hg.below hb (Nat.le_refl _)) hne hf hs ht hn).mono (fun e w' q => ⟨_, _, _, q.1, ⟨rfl, rfl, rfl, q.2.1, q.2.2.1, chg_of_bl hb q.2.2.2⟩, Ik.of_chg q.2.2.2 (fun b _ e => by rcases e with e | e; rw [e]; exact (hm.below hb (Nat.le_refl _)).tn; rw [e]; exact (hg.below hb (Nat.le_refl _)).tn)⟩))
    (fun er m st w1 w2 q hbx hc => by
      obtain ⟨q1, q2, q3, q4, ⟨c', q5, q6⟩, q7⟩ := q
      exact ⟨q1, q2, q3, q4.next hc (by show ¬ d.mm = _; omega), ⟨c', q5.next hc (by show ¬ d.gm = _; omega), q6⟩, q7.trans (hc.mono (fun b _ q => .inr (by omega)))⟩)
  refine this.mono ?_
  rintro e w' ⟨er, m, st, rfl, ⟨rfl, rfl, rfl, q1, q2, q3⟩, _⟩
  exact ⟨rfl, q1, q2, q3⟩
theorem row_ner {e t : TypeId} {size x r : Nat} {v : Value} {xs : List Value} {C : Nat} {cs : Array Value} {fr : Nat × Nat} (h : w.ownsRow C e size v x xs) (hb : w.heap[r]? = some (.cells cs t fr)) (he : e ≠ t) : ∀ b, v.ownBlock = some b → ¬ b = r := by
  intro b q1 q2
  rcases h.2 with ⟨rfl, _⟩ | ⟨y, cap, cur, rfl, _, hh, _⟩
  · cases q1
  · have q3 : y = b := Option.some.inj q1
    rw [q3, q2, hb] at hh
    simp only [Option.some.injEq, Obj.cells.injEq] at hh
    exact he hh.2.1.symm
theorem OwC.res {r : RC} {c : PC} {x y : Nat} (h : OwC B w r sb se sp) (hb : Bxd c x y w) (hc : Chg (fun b => b = y) w w') : OwC B w' r sb se sp :=
  ⟨h.s.keptC hc (row_ner h.s hb.res (by decide)), h.e.keptC hc (row_ner h.e hb.res (by decide)), h.p.keptC hc (row_ner h.p hb.res (by decide)), h.se, h.sp, h.ep⟩
theorem dopen (c : PC) (hk : c.kind = 9) (hcn : c.n < 18446744073709551616) (hc0 : c.n ≠ 0) (hd : Drv p d w) (hm : Mm d.mm n f w) (hg : Gs d.gm k g cc w) (hne : d.mm ≠ d.gm) (hM : Merges c w) {st : Int} (hf : (f c.n).getD zeroM = .agg (mgA id s t st)) (hr : c.rid < 18446744073709551616) (ho : c.oid < 18446744073709551616) (hkn : (f c.n).isSome = false) (hgr : g c.rid = false) (hgo : g c.oid = false) (hro : c.rid ≠ c.oid) (hcc : cc < 128) (hn : n < 1048576) (hk1 : k + 1 < 1048576) (hR : RdC w (rcR c) sb se sp) (hO : RdC w (rcO c) tb te tp) :
    Calls Try.prog 7 #[.pointer (some ⟨p, 0, none⟩), .agg (pcA c)] w fun e w' => e = .returned (prA 0 0 1) ∧ ∃ a b : RC, (a.id = c.rid ∧ a.cf = c.rcf ∧ a.vr = c.rvr) ∧ (b.id = c.oid ∧ b.cf = c.ocf ∧ b.vr = c.ovr) ∧ OwC w.heap.size w' a sb se sp ∧ OwC w.heap.size w' b tb te tp ∧ Mm d.mm (n + 1) (mPut f c.n (.agg (mgA c.n a b 1))) w' ∧ Gs d.gm (k + 2) (gPut (gPut g c.rid) c.oid) (cc + 2) w' ∧ Chg (fun x => x = d.mm ∨ x = d.gm) w w' := by
  have hml := hm.lt
  have hgl := hg.lt
  have := do_any c 9 32 hk (by decide) (by decide) rfl (enters_of Try.func32 (by kernel_rfl) rfl) (p := p) (B := 0) (w := w) (P := fun er m st w' => er = 0 ∧ m = 0 ∧ st = 1 ∧ ∃ a b : RC, (a.id = c.rid ∧ a.cf = c.rcf ∧ a.vr = c.rvr) ∧ (b.id = c.oid ∧ b.cf = c.ocf ∧ b.vr = c.ovr) ∧ OwC w.heap.size w' a sb se sp ∧ OwC w.heap.size w' b tb te tp ∧ Mm d.mm (n + 1) (mPut f c.n (.agg (mgA c.n a b 1))) w' ∧ Gs d.gm (k + 2) (gPut (gPut g c.rid) c.oid) (cc + 2) w' ∧ Chg (fun x => x = d.mm ∨ x = d.gm) w w')
    (fun W hb => (open_ok c hcn hc0 (hd.belowN hb (Nat.le_refl _)) (hm.below hb (Nat.le_refl _)) (hg.below hb (Nat.le_refl _)) hne (hM.below hb) hf hr ho hkn hgr hgo hro hcc hn hk1 (hR.below hb (Nat.le_refl _)) (hO.below hb (Nat.le_refl _))).mono (fun e w' q => by
      obtain ⟨q0, a, b, q1, q2, q3, q4, q5, q6, q7⟩ := q
      exact ⟨_, _, _, q0, ⟨rfl, rfl, rfl, a, b, q1, q2, OwR.mono q3 hb.size, OwR.mono q4 hb.size, q5, q6, chg_of_bl hb q7⟩, Ik.of_chg q7 (fun b _ e => by rcases e with e | e; rw [e]; exact (hm.below hb (Nat.le_refl _)).tn; rw [e]; exact (hg.below hb (Nat.le_refl _)).tn)⟩))
    (fun er m st w1 w2 q hbx hc => by
      obtain ⟨i1, i2, i3, a, b, q1, q2, q3, q4, q5, q6, q7⟩ := q
      exact ⟨i1, i2, i3, a, b, q1, q2, q3.res hbx hc, q4.res hbx hc, q5.next hc (by show ¬ d.mm = _; omega), q6.next hc (by show ¬ d.gm = _; omega), q7.trans (hc.mono (fun b _ q => .inr (by omega)))⟩)
  refine this.mono ?_
  rintro e w' ⟨er, m, st, rfl, ⟨rfl, rfl, rfl, q1⟩, _⟩
  exact ⟨rfl, q1⟩
end
end Go.Proofs.Ytlfdcnojbbigbaa
