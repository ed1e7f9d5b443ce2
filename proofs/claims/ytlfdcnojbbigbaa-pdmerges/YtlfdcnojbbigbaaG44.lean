/- Do as PdMerges asks it, each in what the law keeps. -/
import Derived.Test.YtlfdcnojbbigbaaG41
namespace Go.Proofs.Ytlfdcnojbbigbaa
open Go.RowKit Go.Maps
set_option linter.unusedVariables false
set_option linter.unusedSimpArgs false
set_option maxRecDepth 100000

/-- The command that opens. -/
structure CF (c : PC) (N : Nat) : Prop where
  k : c.kind = 9
  n : c.n = N
  r : c.rid = 7
  o : c.oid = 1
  rc : c.rcf = 1
  rv : c.rvr = 2
  oc : c.ocf = 1
  ov : c.ovr = 2
theorem CF.setN {c : PC} {N M : Nat} (h : CF c N) : CF { c with n := M } M := ⟨h.k, rfl, h.r, h.o, h.rc, h.rv, h.oc, h.ov⟩
/-- Merge of the two goes well, wherever they lie. -/
def HMs (key : List UInt8) : Prop := ∀ (c : PC) (w : World), RdC w (rcO c) [] key [Pe1] → RdC w (rcR c) key [] [Pe8] → c.oid = 1 → c.rid = 7 → c.ovr = 2 → c.rvr = 2 → Merges c w
section
variable {B p o qa qb k k2 cc N : Nat} {d : DC} {c : PC} {f : Nat → Option Value} {g : Nat → Bool} {key : List UInt8} {w0 w w' : World} {s t : RC}
theorem MI.rd (h : MI B p o qa qb d c k k2 cc f g key w0 w) (hk : key.length ≤ 64) : RdC w (rcO c) [] key [Pe1] ∧ RdC w (rcR c) key [] [Pe8] :=
  ⟨h.oa.rd (by simp) hk (by simp), h.ob.rd hk (by simp) (by simp)⟩
theorem MI.mg (h : MI B p o qa qb d c k k2 cc f g key w0 w) (HM : HMs key) (hk : key.length ≤ 64) (hc : CF c N) : Merges c w :=
  HM c w (h.rd hk).1 (h.rd hk).2 hc.o hc.r hc.ov hc.rv
theorem MI.bl2 (h : MI B p o qa qb d c k k2 cc f g key w0 w) : B ≤ w.heap.size := by
  have := h.cm.lt; have := h.ord; omega
theorem chgB {S : Nat → Prop} {w1 w2 : World} (hb : Below w1.heap.size w1 w2) : Chg S w1 w2 := (Chg.of_below hb).mono (fun b q1 q2 => by omega)
theorem Rz.nextD {x : Nat} {er m st : Int} (h : Rz x er m st w) (hc : Chg (fun x => x = d.mm ∨ x = d.gm) w w') (hx : B ≤ x) (ho : d.mm < B ∧ d.gm < B) : Rz x er m st w' := h.next hc (by omega)
theorem mi_open (HM : HMs key) (hkey : key.length ≤ 64) (h : MI B p o qa qb d c k k2 cc f g key w0 w) (hc : CF c N) (hN : 1 ≤ N ∧ N ≤ 1125899906842625) (hf : f N = none) (h7 : g 7 = false) (h1 : g 1 = false) (hcc : cc < 128) (hk : k < 1000) (hk2 : k2 < 1000) :
    Calls Try.prog 7 #[.pointer (some ⟨p, 0, none⟩), .agg (pcA c)] w fun e w' => e = .returned (prA 0 0 1) ∧ ∃ s t, MI B p o qa qb d c (k + 1) (k2 + 2) (cc + 2) (mPut f N (.agg (mgA N s t 1))) (gPut (gPut g 7) 1) key w0 w' ∧ MJ B o d s t key w' ∧ Chg (fun x => x = d.mm ∨ x = d.gm) w w' := by
  have hn := hc.n
  have hor := h.ord
  have := dopen c hc.k (by omega) (by omega) h.drv h.mm h.gs hor.2.2.2.2.2.2.2.2.1 (h.mg HM hkey hc) (id := 0) (s := ⟨0, (none, 0, 0), (none, 0, 0), 0, 0, (none, 0, 0)⟩) (t := ⟨0, (none, 0, 0), (none, 0, 0), 0, 0, (none, 0, 0)⟩) (st := 0) (by rw [hn, hf]; exact zeroM_eq) (by rw [hc.r]; decide) (by rw [hc.o]; decide) (by rw [hn, hf]; rfl) (by rw [hc.r]; exact h7) (by rw [hc.o]; exact h1) (by rw [hc.r, hc.o]; decide) hcc (by omega) (by omega) (h.rd hkey).2 (h.rd hkey).1
  refine this.mono ?_
  rintro e w' ⟨rfl, s, t, ⟨s1, s2, s3⟩, ⟨t1, t2, t3⟩, o1, o2, m1, g1, ch⟩
  rw [hn] at m1
  rw [hc.r, hc.o] at g1
  refine ⟨rfl, s, t, h.step ch m1 g1, ⟨OwR.mono o1 h.bl2, OwR.mono o2 h.bl2, ⟨by rw [s1, hc.r], by rw [s2, hc.rc], by rw [s3, hc.rv]⟩, ⟨by rw [t1, hc.o], by rw [t2, hc.oc], by rw [t3, hc.ov]⟩, hor.2.1, hor.2.2.2.1⟩, ch⟩
theorem mi_known (HM : HMs key) (hkey : key.length ≤ 64) (h : MI B p o qa qb d c k k2 cc f g key w0 w) (hc : CF c N) (hN : 1 ≤ N ∧ N ≤ 1125899906842625) {id : Nat} {s' t' : RC} {st : Int} (hf : (f N).getD zeroM = .agg (mgA id s' t' st)) (hkn : (f N).isSome = true ∨ g 7 = true) (hJ : MJ B o d s t key w) :
    Calls Try.prog 7 #[.pointer (some ⟨p, 0, none⟩), .agg (pcA c)] w fun e w' => e = .returned (prA 161 0 0) ∧ MI B p o qa qb d c k k2 cc f g key w0 w' ∧ MJ B o d s t key w' ∧ Chg (fun x => x = d.mm ∨ x = d.gm) w w' := by
  have hn := hc.n
  have := dknown c hc.k (by omega) (by omega) h.drv h.mm h.gs (h.mg HM hkey hc) (by rw [hn]; exact hf) (by rw [hc.r]; decide) (by rw [hn, hc.r]; exact hkn)
  refine this.mono ?_
  rintro e w' ⟨rfl, hb⟩
  exact ⟨rfl, h.below hb, hJ.below hb, chgB hb⟩
/-- The command that decides. -/
def cD (N : Nat) (b : Bool) : PC := ⟨10, N, 0, 0, 0, 0, (none, 0, 0), (none, 0, 0), 0, 0, (none, 0, 0), 0, (none, 0, 0), (none, 0, 0), 0, 0, (none, 0, 0), b⟩
theorem mi_decide (b : Bool) (h : MI B p o qa qb d c k k2 2 f g key w0 w) (hJ : MJ B o d s t key w) (hN : N ≤ 1125899906842625) (hf : f N = some (.agg (mgA N s t 1))) (h7 : g 7 = true) (h1 : g 1 = true) (hk : k < 1000) :
    Calls Try.prog 7 #[.pointer (some ⟨p, 0, none⟩), .agg (pcA (cD N b))] w fun e w' => e = .returned (prA 0 0 (if b then 2 else 3)) ∧ MI B p o qa qb d c (k + 1) k2 0 (mPut f N (.agg (mgA N s t (if b then 2 else 3)))) (gDel (gDel g 7) 1) key w0 w' ∧ MJ B o d s t key w' ∧ Chg (fun x => x = d.mm ∨ x = d.gm) w w' := by
  have hs := hJ.si.1
  have ht := hJ.ti.1
  have := ddecide (cD N b) rfl (by show N < _; omega) h.drv h.mm h.gs h.ord.2.2.2.2.2.2.2.2.1 hf (by rw [hs]; decide) (by rw [ht]; decide) (by omega)
  refine this.mono ?_
  rintro e w' ⟨rfl, m1, ⟨c', g1, g2⟩, ch⟩
  rw [hs, ht] at g1 g2
  obtain rfl : c' = 0 := g2 h7 h1 (by decide)
  exact ⟨rfl, h.step ch m1 g1, hJ.step ch, ch⟩
theorem mi_decided (b b' : Bool) (h : MI B p o qa qb d c k k2 cc f g key w0 w) (hJ : MJ B o d s t key w) (hN : N ≤ 1125899906842625) (hf : f N = some (.agg (mgA N s t (if b then 2 else 3)))) :
    Calls Try.prog 7 #[.pointer (some ⟨p, 0, none⟩), .agg (pcA (cD N b'))] w fun e w' => e = .returned (prA 0 0 (if b then 2 else 3)) ∧ MI B p o qa qb d c k k2 cc f g key w0 w' ∧ MJ B o d s t key w' ∧ Chg (fun x => x = d.mm ∨ x = d.gm) w w' := by
  have := ddecided (cD N b') rfl (by show N < _; omega) h.drv h.mm (b := b) hf
  refine this.mono ?_
  rintro e w' ⟨rfl, hb⟩
  exact ⟨rfl, h.below hb, hJ.below hb, chgB hb⟩
theorem mi_merge (h : MI B p o qa qb d c k k2 cc f g key w0 w) (hJ : MJ B o d s t key w) (hN : N ≤ 1125899906842625) {st : Int} (hf : f N = some (.agg (mgA N s t st))) (hkey : key.length ≤ 64) :
    Calls Try.prog 8 #[.pointer (some ⟨p, 0, none⟩), .int .u64 (N : Int)] w fun e w' => ∃ sa sc ea ec pa pc ta tc fa fc qa' qc, e = .returned (.tuple #[.agg #[.int .u64 7, .slice sa key.length sc, .slice ea 0 ec, .int .u64 1, .int .u64 2, .slice pa 1 pc], .agg #[.int .u64 1, .slice ta 0 tc, .slice fa key.length fc, .int .u64 1, .int .u64 2, .slice qa' 1 qc], .int .i64 st]) ∧ (Rd w' (.slice sa key.length sc) key ∧ Rd w' (.slice ea 0 ec) [] ∧ RdPe w' (.slice pa 1 pc) [Pe8]) ∧ (Rd w' (.slice ta 0 tc) [] ∧ Rd w' (.slice fa key.length fc) key ∧ RdPe w' (.slice qa' 1 qc) [Pe1]) ∧ MI B p o qa qb d c k k2 cc f g key w0 w' ∧ MJ B o d s t key w' ∧ Chg (fun x => x = d.mm ∨ x = d.gm) w w' := by
  have hs := hJ.si
  have ht := hJ.ti
  have := mergeOf_any (x := N) (by omega) h.drv h.mm hf (hJ.os.rd hkey (by simp) (by simp)) (hJ.ot.rd (by simp) hkey (by simp))
  rw [hs.1, hs.2.1, hs.2.2, ht.1, ht.2.1, ht.2.2] at this
  refine this.mono ?_
  rintro e w' ⟨sv', ev', pv', tv', fv', qv', rfl, o1, o2, hb⟩
  obtain ⟨a1, d1, rfl⟩ := o1.s.shp
  obtain ⟨a2, d2, rfl⟩ := o1.e.shp
  obtain ⟨a3, d3, rfl⟩ := o1.p.shape
  obtain ⟨a4, d4, rfl⟩ := o2.s.shp
  obtain ⟨a5, d5, rfl⟩ := o2.e.shp
  obtain ⟨a6, d6, rfl⟩ := o2.p.shape
  exact ⟨_, _, _, _, _, _, _, _, _, _, _, _, rfl, ⟨o1.s.rd, o1.e.rd, o1.p.rd⟩, ⟨o2.s.rd, o2.e.rd, o2.p.rd⟩, h.below hb, hJ.below hb, chgB hb⟩
end
end Go.Proofs.Ytlfdcnojbbigbaa
