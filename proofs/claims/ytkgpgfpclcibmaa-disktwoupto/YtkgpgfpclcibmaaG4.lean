/- How a list of steps that came in is read: cell by cell. -/
import Derived.Test.YtkgpgfpclcibmaaG3
import Derived.Test.YtkgpgfpclcibmaaG2
import Derived.JoinedCond
import Derived.SliceStrings
import Derived.ProofKit
import Derived.OpenShut
import Derived.ChangeOld
import Derived.SizedLaws
import Derived.Sort.Walk0
import Derived.Lib.SliceRun
namespace Go.Proofs.Ytkgpgfpclcibmaa
open Go.ChangeShapes Go.WideShapes Go.ChangeAt Go.RowKit
set_option linter.unusedVariables false
set_option maxRecDepth 100000

/-- A step, as its six cells say it. -/
structure SV where
  act : Int
  num : Int
  nm : ByteArray
  to : ByteArray
  data : List UInt8
  ad : Option Addr
  cd : Nat
  ak : Option Addr
  lk : Nat
  ck : Nat

structure StepAt (w : World) (a : Addr) (x : SV) : Prop where
  c0 : w.cell? (a.add 0) = some (.int .i64 x.act)
  c1 : w.cell? (a.add 1) = some (.int .i64 x.num)
  c2 : w.cell? (a.add 2) = some (.string x.nm)
  c3 : w.cell? (a.add 3) = some (.string x.to)
  c4 : w.cell? (a.add 4) = some (.slice x.ad x.data.length x.cd)
  c5 : w.cell? (a.add 5) = some (.slice x.ak x.lk x.ck)
  rd : Rd w (.slice x.ad x.data.length x.cd) x.data
  l2 : x.nm.size ≤ maxLen
  l3 : x.to.size ≤ maxLen

def Steps (w : World) (v : Value) (xs : List SV) : Prop :=
  ∃ ao c, v = .slice ao xs.length c ∧ xs.length ≤ c ∧ c ≤ maxLen ∧ ∀ i, (h : i < xs.length) → ∃ a, ao = some a ∧ StepAt w (a.add (i * 6)) xs[i]

theorem bulk_pos {H : Type} (d : DataW H) : 1 ≤ Rows.uptoBulk d := by
  cases d with
  | lit x => cases x <;> simp [Rows.uptoBulk]
  | nil => simp [Rows.uptoBulk]
  | ptr d => simp [Rows.uptoBulk]
  | slice a b => simp [Rows.uptoBulk]
  | agg a => simp [Rows.uptoBulk]
  | iface t d => simp [Rows.uptoBulk]
  | map a => simp [Rows.uptoBulk]
  | held h => simp [Rows.uptoBulk]
theorem bulk_ge {H : Type} (ds : List (DataW H)) : ds.length ≤ Rows.uptoBulkAll ds := by
  induction ds with
  | nil => simp [Rows.uptoBulkAll]
  | cons d ds ih =>
    have := bulk_pos d
    simp only [Rows.uptoBulkAll, List.length_cons]
    omega
theorem bulk_mem {H : Type} (ds : List (DataW H)) (d : DataW H) (h : d ∈ ds) : Rows.uptoBulk d ≤ Rows.uptoBulkAll ds := by
  induction ds with
  | nil => cases h
  | cons x r ih =>
    rcases List.mem_cons.1 h with rfl | h
    · simp only [Rows.uptoBulkAll]; omega
    · have := ih h; simp only [Rows.uptoBulkAll]; omega

theorem open_bytes_cs {H : Type} {enc : TypeId × Value → H} {W : World} {fuel : Nat} {cs : List Value} {x : DataW H × List MemPlace} (hf : DataW.trod enc Try.prog W 0 (fun _ => true) true fuel 29 cs = some x) :
    ∃ a l c, cs = [.slice a l.length c] ∧ Rd W (.slice a l.length c) l ∧ l.length + 1 ≤ Rows.uptoBulk x.1 := by
  rcases open_ints Try.underlying29 Try.underlying5 (by kernel_rfl) hf with ⟨hcs, hx⟩ | ⟨a, len, cap, zs, hcs, _, hl, hm, hz, hd, hcell, hwz⟩
  · subst hx
    exact ⟨none, [], 0, hcs, Rd.nil _, by simp [Rows.uptoBulk]⟩
  · have hz' : zs.length = cap := by simpa using hz
    have hlen : ((zs.take len).map (fun z => UInt8.ofNat z.toNat)).length = len := by simp; omega
    refine ⟨some a, (zs.take len).map (fun z => UInt8.ofNat z.toNat), cap, by rw [hlen]; exact hcs, Rd.mk rfl (by omega) hm (fun i hi => ?_), ?_⟩
    · have hi' : i < zs.length := by omega
      rw [hcell i hi']
      have hw := hwz (zs[i]) (List.getElem_mem hi')
      have hx : 0 ≤ zs[i] ∧ zs[i] ≤ 255 := by simpa [Lit.wf, IntKind.min, IntKind.max, IntKind.signed, IntKind.bits] using hw
      have e : zs.getD i 0 = zs[i] := by simp [hi']
      rw [e]
      simp only [List.getElem_map, List.getElem_take]
      rw [M.u8_ofNat]
      congr 2
      omega
    · rw [hlen, hd]
      have := bulk_ge (H := H) (lits .u8 (zs.take len))
      simp only [Rows.uptoBulk]
      simp only [lits, List.length_map, List.length_take] at this
      simp only [lits]
      omega

theorem open_step {H : Type} {enc : TypeId × Value → H} {W : World} {fuel : Nat} {a : Addr} {x : DataW H × List MemPlace}
    (hf : (W.cells? 0 a 6).bind (DataW.trod enc Try.prog W 0 (fun _ => true) true fuel 32) = some x) : ∃ s : SV, StepAt W a s ∧ s.data.length + 1 ≤ Rows.uptoBulk x.1 := by
  rw [Option.bind_eq_some_iff] at hf
  obtain ⟨cs, hcs, ht⟩ := hf
  obtain ⟨_, hlen, hcell⟩ := World.cells?_some hcs
  obtain ⟨xs, n, _, rfl, hl, hxl, hfs⟩ := DataW.trod_struct Try.underlying32 ht
  have k3 : Try.prog.cellsOf 3 = 1 := by kernel_rfl
  have k9 : Try.prog.cellsOf 9 = 1 := by kernel_rfl
  have k29 : Try.prog.cellsOf 29 = 1 := by kernel_rfl
  have k30 : Try.prog.cellsOf 30 = 1 := by kernel_rfl
  match cs, hlen with
  | [v0, v1, v2, v3, v4, v5], _ =>
    match xs, hxl with
    | [y0, y1, y2, y3, y4, y5], _ =>
      have f0 : DataW.trod enc Try.prog W 0 (fun _ => true) true n 3 (List.take (Try.prog.cellsOf 3) (List.drop 0 [v0, v1, v2, v3, v4, v5])) = some y0 := hfs 0 _ rfl
      have f1 : DataW.trod enc Try.prog W 0 (fun _ => true) true n 3 (List.take (Try.prog.cellsOf 3) (List.drop 1 [v0, v1, v2, v3, v4, v5])) = some y1 := hfs 1 _ rfl
      have f2 : DataW.trod enc Try.prog W 0 (fun _ => true) true n 9 (List.take (Try.prog.cellsOf 9) (List.drop 2 [v0, v1, v2, v3, v4, v5])) = some y2 := hfs 2 _ rfl
      have f3 : DataW.trod enc Try.prog W 0 (fun _ => true) true n 9 (List.take (Try.prog.cellsOf 9) (List.drop 3 [v0, v1, v2, v3, v4, v5])) = some y3 := hfs 3 _ rfl
      have f4 : DataW.trod enc Try.prog W 0 (fun _ => true) true n 29 (List.take (Try.prog.cellsOf 29) (List.drop 4 [v0, v1, v2, v3, v4, v5])) = some y4 := hfs 4 _ rfl
      have f5 : DataW.trod enc Try.prog W 0 (fun _ => true) true n 30 (List.take (Try.prog.cellsOf 30) (List.drop 5 [v0, v1, v2, v3, v4, v5])) = some y5 := hfs 5 _ rfl
      rw [k3] at f0
      replace f0 : DataW.trod enc Try.prog W 0 (fun _ => true) true n 3 [v0] = some y0 := f0
      rw [k3] at f1
      replace f1 : DataW.trod enc Try.prog W 0 (fun _ => true) true n 3 [v1] = some y1 := f1
      rw [k9] at f2
      replace f2 : DataW.trod enc Try.prog W 0 (fun _ => true) true n 9 [v2] = some y2 := f2
      rw [k9] at f3
      replace f3 : DataW.trod enc Try.prog W 0 (fun _ => true) true n 9 [v3] = some y3 := f3
      rw [k29] at f4
      replace f4 : DataW.trod enc Try.prog W 0 (fun _ => true) true n 29 [v4] = some y4 := f4
      rw [k30] at f5
      replace f5 : DataW.trod enc Try.prog W 0 (fun _ => true) true n 30 [v5] = some y5 := f5
      obtain ⟨n0, e0, _, _⟩ := DataW.trod_int Try.underlying3 f0
      obtain ⟨n1, e1, _, _⟩ := DataW.trod_int Try.underlying3 f1
      obtain ⟨s2, e2, _, l2⟩ := DataW.trod_string Try.underlying9 f2
      obtain ⟨s3, e3, _, l3⟩ := DataW.trod_string Try.underlying9 f3
      obtain ⟨a4, l4, c4, e4, r4, b4⟩ := open_bytes_cs f4
      have h5 : ∃ a l c, v5 = .slice a l c := by
        rcases open_ints Try.underlying30 Try.underlying3 (by kernel_rfl) f5 with ⟨q, _⟩ | ⟨a, len, cap, zs, q, _⟩
        · simp only [List.cons.injEq, and_true] at q; exact ⟨_, _, _, q⟩
        · simp only [List.cons.injEq, and_true] at q; exact ⟨_, _, _, q⟩
      obtain ⟨a5, l5, c5, e5⟩ := h5
      simp only [List.cons.injEq, and_true] at e0 e1 e2 e3 e4
      have q0 := hcell 0 (by omega)
      have q1 := hcell 1 (by omega)
      have q2 := hcell 2 (by omega)
      have q3 := hcell 3 (by omega)
      have q4 := hcell 4 (by omega)
      have q5 := hcell 5 (by omega)
      simp only [List.getElem?_cons_zero, List.getElem?_cons_succ] at q0 q1 q2 q3 q4 q5
      refine ⟨⟨n0, n1, s2, s3, l4, a4, c4, a5, l5, c5⟩, ⟨by rw [q0, e0], by rw [q1, e1], by rw [q2, e2], by rw [q3, e3], by rw [q4, e4], by rw [q5, e5], r4, l2, l3⟩, ?_⟩
      have := bulk_mem (H := H) [y0.1, y1.1, y2.1, y3.1, y4.1, y5.1] y4.1 (by simp)
      simp only [List.map_cons, List.map_nil, Rows.uptoBulk]
      omega

/-- A list of steps that came in. -/
theorem open_steps {H : Type} {enc : TypeId × Value → H} {W : World} {a0 : Option Addr} {len cap : Nat} {d : DataW H} {p : List MemPlace} (h : DataW.Trod enc Try.prog W 0 (fun _ => true) true 22 (.slice a0 len cap) d p) :
    ∃ xs : List SV, Steps W (.slice a0 len cap) xs ∧ xs.length ≤ Rows.uptoBulk d ∧ ∀ x ∈ xs, x.data.length ≤ Rows.uptoBulk d := by
  obtain ⟨fuel, hf⟩ := h
  have hc6 : Try.prog.cellsOf 32 = 6 := by kernel_rfl
  rcases DataW.trod_slice Try.underlying22 hf with ⟨hcs, hx⟩ | ⟨a, len', cap', elems, rest, n, _, hcs, hx, _, hl, hm, hlen, hel, _, _⟩
  · simp [Value.cells] at hcs
    obtain ⟨rfl, rfl, rfl⟩ := hcs
    exact ⟨[], ⟨none, 0, rfl, by simp, by simp, fun i hi => by simp at hi⟩, by simp, by simp⟩
  · simp [Value.cells] at hcs
    obtain ⟨rfl, rfl, rfl⟩ := hcs
    have hd : d = .slice (elems.map (·.1)) (rest.map (·.1)) := congrArg Prod.fst hx
    have each : ∀ i, i < len → ∃ s : SV, StepAt W (a.add (i * 6)) s ∧ s.data.length ≤ Rows.uptoBulk d := by
      intro i hi
      have h1 := hel i hi
      rw [hc6, List.getElem?_eq_getElem (by omega)] at h1
      obtain ⟨s, hs, hb⟩ := open_step h1
      refine ⟨s, hs, ?_⟩
      have := bulk_mem (elems.map (·.1)) elems[i].1 (List.mem_map_of_mem (List.getElem_mem (by omega)))
      rw [hd]
      simp only [Rows.uptoBulk]
      omega
    have hall : ∃ g : Nat → SV, ∀ i, i < len → StepAt W (a.add (i * 6)) (g i) ∧ (g i).data.length ≤ Rows.uptoBulk d := by
      refine ⟨fun i => if h : i < len then Classical.choose (each i h) else ⟨0, 0, ⟨#[]⟩, ⟨#[]⟩, [], none, 0, none, 0, 0⟩, fun i hi => ?_⟩
      simp only [dif_pos hi]
      exact Classical.choose_spec (each i hi)
    obtain ⟨g, hg⟩ := hall
    have hgl : ((List.range len).map g).length = len := by simp
    refine ⟨(List.range len).map g, ⟨some a, cap, by rw [hgl], by omega, hm, fun i hi => ⟨a, rfl, ?_⟩⟩, ?_, fun x hx' => ?_⟩
    · have hi' : i < len := by omega
      simpa using (hg i hi').1
    · rw [hgl, hd]
      have := bulk_ge (elems.map (·.1))
      rw [List.length_map] at this
      simp only [Rows.uptoBulk]
      omega
    · obtain ⟨i, hi, rfl⟩ := List.mem_map.1 hx'
      exact (hg i (by simpa using hi)).2
end Go.Proofs.Ytkgpgfpclcibmaa

/- A list of steps that came in, with the numbers that a Crash is handed. -/
namespace Go.Proofs.Ytkgpgfpclcibmaa
open Go.ChangeShapes Go.WideShapes Go.ChangeAt Go.RowKit
set_option linter.unusedVariables false
set_option maxRecDepth 100000

structure SV2 where
  act : Int
  num : Int
  nm : ByteArray
  to : ByteArray
  data : List UInt8
  ad : Option Addr
  cd : Nat
  keep : List Int
  ak : Option Addr
  ck : Nat
structure StepAt2 (w : World) (a : Addr) (x : SV2) : Prop where
  c0 : w.cell? (a.add 0) = some (.int .i64 x.act)
  c1 : w.cell? (a.add 1) = some (.int .i64 x.num)
  c2 : w.cell? (a.add 2) = some (.string x.nm)
  c3 : w.cell? (a.add 3) = some (.string x.to)
  c4 : w.cell? (a.add 4) = some (.slice x.ad x.data.length x.cd)
  c5 : w.cell? (a.add 5) = some (.slice x.ak x.keep.length x.ck)
  rd : Rd w (.slice x.ad x.data.length x.cd) x.data
  ri : RdI w (.slice x.ak x.keep.length x.ck) x.keep
  l2 : x.nm.size ≤ maxLen
  l3 : x.to.size ≤ maxLen
  ln : -9223372036854775808 ≤ x.num ∧ x.num ≤ 9223372036854775807
  lk : ∀ k ∈ x.keep, -9223372036854775808 ≤ k ∧ k ≤ 9223372036854775807
  kn : x.ak = none → x.ck = 0
def Steps2 (w : World) (v : Value) (xs : List SV2) : Prop :=
  ∃ ao c, v = .slice ao xs.length c ∧ xs.length ≤ c ∧ c ≤ maxLen ∧ ∀ i, (h : i < xs.length) → ∃ a, ao = some a ∧ StepAt2 w (a.add (i * 6)) xs[i]
theorem StepAt2.below {w w' : World} {a : Addr} {x : SV2} (h : StepAt2 w a x) (hb : Below w.heap.size w w') : StepAt2 w' a x := by
  have k : ∀ i v, w.cell? (a.add i) = some v → w'.cell? (a.add i) = some v := fun i v q => by rw [hb.cell (World.block_lt_of_cell? w _ q)]; exact q
  exact ⟨k _ _ h.c0, k _ _ h.c1, k _ _ h.c2, k _ _ h.c3, k _ _ h.c4, k _ _ h.c5, h.rd.below hb (Nat.le_refl _), h.ri.below hb, h.l2, h.l3, h.ln, h.lk, h.kn⟩

theorem open_ints_cs {H : Type} {enc : TypeId × Value → H} {W : World} {fuel : Nat} {cs : List Value} {x : DataW H × List MemPlace} (hf : DataW.trod enc Try.prog W 0 (fun _ => true) true fuel 30 cs = some x) :
    ∃ a, ∃ l : List Int, ∃ c, cs = [.slice a l.length c] ∧ RdI W (.slice a l.length c) l ∧ l.length + 1 ≤ Rows.uptoBulk x.1 ∧ (∀ k ∈ l, -9223372036854775808 ≤ k ∧ k ≤ 9223372036854775807) ∧ (a = none → c = 0) := by
  rcases open_ints Try.underlying30 Try.underlying3 (by kernel_rfl) hf with ⟨hcs, hx⟩ | ⟨a, len, cap, zs, hcs, _, hl, hm, hz, hd, hcell, hwz⟩
  · subst hx
    exact ⟨none, [], 0, hcs, ⟨none, 0, rfl, by simp, by simp, fun i hi => by simp at hi⟩, by simp [Rows.uptoBulk], by simp, fun _ => rfl⟩
  · have hz' : zs.length = cap := by simpa using hz
    have hlen : (zs.take len).length = len := by simp; omega
    refine ⟨some a, zs.take len, cap, by rw [hlen]; exact hcs, ⟨some a, cap, rfl, by omega, hm, fun i hi => ⟨a, rfl, ?_⟩⟩, ?_, fun k hk => ?_, fun e => by cases e⟩
    · have hi' : i < zs.length := by omega
      rw [hcell i hi']
      have e : zs.getD i 0 = zs[i] := by simp [hi']
      rw [e]
      simp
    · rw [hlen, hd]
      have := bulk_ge (H := H) (lits .i64 (zs.take len))
      simp only [Rows.uptoBulk]
      simp only [lits, List.length_map, List.length_take] at this
      simp only [lits]
      omega
    · have hw := hwz k (List.mem_of_mem_take hk)
      simpa [Lit.wf, IntKind.min, IntKind.max, IntKind.signed, IntKind.bits] using hw

theorem open_step2 {H : Type} {enc : TypeId × Value → H} {W : World} {fuel : Nat} {a : Addr} {x : DataW H × List MemPlace}
    (hf : (W.cells? 0 a 6).bind (DataW.trod enc Try.prog W 0 (fun _ => true) true fuel 32) = some x) : ∃ s : SV2, StepAt2 W a s ∧ s.data.length + s.keep.length + 1 ≤ Rows.uptoBulk x.1 := by
  rw [Option.bind_eq_some_iff] at hf
  obtain ⟨cs, hcs, ht⟩ := hf
  obtain ⟨_, hlen, hcell⟩ := World.cells?_some hcs
  obtain ⟨xs, n, _, rfl, hl, hxl, hfs⟩ := DataW.trod_struct Try.underlying32 ht
  have k3 : Try.prog.cellsOf 3 = 1 := by kernel_rfl
  have k9 : Try.prog.cellsOf 9 = 1 := by kernel_rfl
  have k29 : Try.prog.cellsOf 29 = 1 := by kernel_rfl
  have k30 : Try.prog.cellsOf 30 = 1 := by kernel_rfl
  match cs, hlen with
  | [v0, v1, v2, v3, v4, v5], _ =>
    match xs, hxl with
    | [y0, y1, y2, y3, y4, y5], _ =>
      have f0 : DataW.trod enc Try.prog W 0 (fun _ => true) true n 3 (List.take (Try.prog.cellsOf 3) (List.drop 0 [v0, v1, v2, v3, v4, v5])) = some y0 := hfs 0 _ rfl
      have f1 : DataW.trod enc Try.prog W 0 (fun _ => true) true n 3 (List.take (Try.prog.cellsOf 3) (List.drop 1 [v0, v1, v2, v3, v4, v5])) = some y1 := hfs 1 _ rfl
      have f2 : DataW.trod enc Try.prog W 0 (fun _ => true) true n 9 (List.take (Try.prog.cellsOf 9) (List.drop 2 [v0, v1, v2, v3, v4, v5])) = some y2 := hfs 2 _ rfl
      have f3 : DataW.trod enc Try.prog W 0 (fun _ => true) true n 9 (List.take (Try.prog.cellsOf 9) (List.drop 3 [v0, v1, v2, v3, v4, v5])) = some y3 := hfs 3 _ rfl
      have f4 : DataW.trod enc Try.prog W 0 (fun _ => true) true n 29 (List.take (Try.prog.cellsOf 29) (List.drop 4 [v0, v1, v2, v3, v4, v5])) = some y4 := hfs 4 _ rfl
      have f5 : DataW.trod enc Try.prog W 0 (fun _ => true) true n 30 (List.take (Try.prog.cellsOf 30) (List.drop 5 [v0, v1, v2, v3, v4, v5])) = some y5 := hfs 5 _ rfl
      rw [k3] at f0
      replace f0 : DataW.trod enc Try.prog W 0 (fun _ => true) true n 3 [v0] = some y0 := f0
      rw [k3] at f1
      replace f1 : DataW.trod enc Try.prog W 0 (fun _ => true) true n 3 [v1] = some y1 := f1
      rw [k9] at f2
      replace f2 : DataW.trod enc Try.prog W 0 (fun _ => true) true n 9 [v2] = some y2 := f2
      rw [k9] at f3
      replace f3 : DataW.trod enc Try.prog W 0 (fun _ => true) true n 9 [v3] = some y3 := f3
      rw [k29] at f4
      replace f4 : DataW.trod enc Try.prog W 0 (fun _ => true) true n 29 [v4] = some y4 := f4
      rw [k30] at f5
      replace f5 : DataW.trod enc Try.prog W 0 (fun _ => true) true n 30 [v5] = some y5 := f5
      obtain ⟨n0, e0, _, _⟩ := DataW.trod_int Try.underlying3 f0
      obtain ⟨n1, e1, _, hw1⟩ := DataW.trod_int Try.underlying3 f1
      obtain ⟨s2, e2, _, l2⟩ := DataW.trod_string Try.underlying9 f2
      obtain ⟨s3, e3, _, l3⟩ := DataW.trod_string Try.underlying9 f3
      obtain ⟨a4, l4, c4, e4, r4, b4⟩ := open_bytes_cs f4
      obtain ⟨a5, l5, c5, e5, r5, b5, w5, n5⟩ := open_ints_cs f5
      simp only [List.cons.injEq, and_true] at e0 e1 e2 e3 e4 e5
      have q0 := hcell 0 (by omega)
      have q1 := hcell 1 (by omega)
      have q2 := hcell 2 (by omega)
      have q3 := hcell 3 (by omega)
      have q4 := hcell 4 (by omega)
      have q5 := hcell 5 (by omega)
      simp only [List.getElem?_cons_zero, List.getElem?_cons_succ] at q0 q1 q2 q3 q4 q5
      refine ⟨⟨n0, n1, s2, s3, l4, a4, c4, l5, a5, c5⟩, ⟨by rw [q0, e0], by rw [q1, e1], by rw [q2, e2], by rw [q3, e3], by rw [q4, e4], by rw [q5, e5], r4, r5, l2, l3, by simpa [Lit.wf, IntKind.min, IntKind.max, IntKind.signed, IntKind.bits] using hw1, w5, n5⟩, ?_⟩
      simp only [List.map_cons, List.map_nil, Rows.uptoBulk, Rows.uptoBulkAll]
      omega

/-- A list of steps that came in. -/
theorem open_steps2 {H : Type} {enc : TypeId × Value → H} {W : World} {a0 : Option Addr} {len cap : Nat} {d : DataW H} {p : List MemPlace} (h : DataW.Trod enc Try.prog W 0 (fun _ => true) true 22 (.slice a0 len cap) d p) :
    ∃ xs : List SV2, Steps2 W (.slice a0 len cap) xs ∧ xs.length ≤ Rows.uptoBulk d ∧ ∀ x ∈ xs, x.data.length + x.keep.length ≤ Rows.uptoBulk d := by
  obtain ⟨fuel, hf⟩ := h
  have hc6 : Try.prog.cellsOf 32 = 6 := by kernel_rfl
  rcases DataW.trod_slice Try.underlying22 hf with ⟨hcs, hx⟩ | ⟨a, len', cap', elems, rest, n, _, hcs, hx, _, hl, hm, hlen, hel, _, _⟩
  · simp [Value.cells] at hcs
    obtain ⟨rfl, rfl, rfl⟩ := hcs
    exact ⟨[], ⟨none, 0, rfl, by simp, by simp, fun i hi => by simp at hi⟩, by simp, by simp⟩
  · simp [Value.cells] at hcs
    obtain ⟨rfl, rfl, rfl⟩ := hcs
    have hd : d = .slice (elems.map (·.1)) (rest.map (·.1)) := congrArg Prod.fst hx
    have each : ∀ i, i < len → ∃ s : SV2, StepAt2 W (a.add (i * 6)) s ∧ s.data.length + s.keep.length ≤ Rows.uptoBulk d := by
      intro i hi
      have h1 := hel i hi
      rw [hc6, List.getElem?_eq_getElem (by omega)] at h1
      obtain ⟨s, hs, hb⟩ := open_step2 h1
      refine ⟨s, hs, ?_⟩
      have := bulk_mem (elems.map (·.1)) elems[i].1 (List.mem_map_of_mem (List.getElem_mem (by omega)))
      rw [hd]
      simp only [Rows.uptoBulk]
      omega
    have hall : ∃ g : Nat → SV2, ∀ i, i < len → StepAt2 W (a.add (i * 6)) (g i) ∧ (g i).data.length + (g i).keep.length ≤ Rows.uptoBulk d := by
      refine ⟨fun i => if h : i < len then Classical.choose (each i h) else ⟨0, 0, ⟨#[]⟩, ⟨#[]⟩, [], none, 0, [], none, 0⟩, fun i hi => ?_⟩
      simp only [dif_pos hi]
      exact Classical.choose_spec (each i hi)
    obtain ⟨g, hg⟩ := hall
    have hgl : ((List.range len).map g).length = len := by simp
    refine ⟨(List.range len).map g, ⟨some a, cap, by rw [hgl], by omega, hm, fun i hi => ⟨a, rfl, ?_⟩⟩, ?_, fun x hx' => ?_⟩
    · have hi' : i < len := by omega
      simpa using (hg i hi').1
    · rw [hgl, hd]
      have := bulk_ge (elems.map (·.1))
      rw [List.length_map] at this
      simp only [Rows.uptoBulk]
      omega
    · obtain ⟨i, hi, rfl⟩ := List.mem_map.1 hx'
      exact (hg i (by simpa using hi)).2
end Go.Proofs.Ytkgpgfpclcibmaa

/- Words for DiskNames: the states that it goes through. -/
namespace Go.Proofs.Ytkgpgfpclcibmaa
open Go.ChangeShapes Go.WideShapes Go.ChangeAt Go.RowKit
set_option linter.unusedVariables false
set_option maxRecDepth 100000

/-- An operation whose guard lets it by is carried out as one without a guard. -/
theorem wpList_unguard {P : Program} {w : World} {ops : Array Oper} {rest : List Oper} {o : Oper} {a : Act} {Q : Exit → Act → World → Prop} (hw : Region.wanted o (yielded ops a.tmps) = true) (h : wpList P ops Q ({ o with guard := none } :: rest) a w) : wpList P ops Q (o :: rest) a w := by
  unfold wpList at h ⊢
  rw [if_pos hw]
  rw [if_pos (by rfl)] at h
  exact h

theorem rdI_nil (w : World) : RdI w (.slice none 0 0) [] := ⟨none, 0, rfl, by simp, by simp, fun i hi => by simp at hi⟩

section
variable {B d n : Nat} {own : Nat → Option Role} {st : Nm → Option (List UInt8 × Nat)} {sz : Nat} {left : Int} {w : World}
/-- Read of a file that isn't there. -/
theorem read_no (h : Dk B d n own st sz (alive d) left w) (s : ByteArray) (hs : s.size ≤ maxLen) (e : st s.data.toList = none) :
    Calls Try.prog 34 #[.pointer (some ⟨d, 0, none⟩), .string s] w fun e w' => e = .returned (.tuple #[.slice none 0 0, .int .i64 20]) ∧ ∃ q, w' = w.drewN q := by
  have hrf := fun q => refuseFile_any (h.drN q) s hs
  simp only [e, if_true] at hrf
  obtain ⟨m, D, fb, fv, h⟩ := h
  have c2 : w.cell? ⟨d, 2, none⟩ = some (.func (.func 35) #[.pointer (some ⟨d, 0, none⟩)] #[]) := by rw [cell_of_row _ _ _ _ _ _ h.cell]; rfl
  go_enter Try.func34, Try.ntmps34
  go_wp2_with fail
  go_quiet (first | (go_at_call 73; refine Calls.quiet_of (v := .int .i64 20) (hrf _)) | (go_at_call 35; refine Calls.quiet_of_same (v := .int .i64 20) (alive_any _ _ _ _)) | fail)
  go_wp2_with fail
  go_ret2
  exact ⟨rfl, _, rfl⟩
end

def PP : Nm := [112]
def QQ : Nm := [113]
def sp1 (f : List UInt8 × Nat) : St := setF none0 PP (some f)
def sp2 (f g : List UInt8 × Nat) : St := setF (sp1 f) QQ (some g)
theorem sp1_at (f : List UInt8 × Nat) : sp1 f PP = some f := setF_same _ _ _
theorem sp1_set (f g : List UInt8 × Nat) : setF (sp1 f) PP (some g) = sp1 g := setF_setF _ _ _ _
theorem sp2_file (f g : List UInt8 × Nat) : sp2 f g PP = some f := by
  unfold sp2; rw [setF_other _ _ (by decide)]; exact sp1_at f
theorem sp2_new (f g : List UInt8 × Nat) : sp2 f g QQ = some g := setF_same _ _ _
theorem sp2_setF (f g h : List UInt8 × Nat) : setF (sp2 f g) PP (some h) = sp2 h g := by
  funext k
  by_cases h1 : k = PP
  · subst h1; rw [setF_same, sp2_file]
  · rw [setF_other _ _ h1]
    by_cases h2 : k = QQ
    · subst h2; rw [sp2_new, sp2_new]
    · unfold sp2 sp1; rw [setF_other _ _ h2, setF_other _ _ h2, setF_other _ _ h1, setF_other _ _ h1]
theorem sp2_setN (f g h : List UInt8 × Nat) : setF (sp2 f g) QQ (some h) = sp2 f h := setF_setF _ _ _ _
theorem sp2_names (f g : List UInt8 × Nat) : NamesOf (sp2 f g) [PP, QQ] := by
  refine ⟨fun nm => ?_, by decide, by simp only [List.pairwise_cons, List.mem_singleton, forall_eq, List.not_mem_nil, false_implies, implies_true, List.Pairwise.nil, and_true]; decide⟩
  by_cases h1 : nm = PP
  · subst h1; simp [sp2_file]
  · by_cases h2 : nm = QQ
    · subst h2; simp [sp2_new]
    · simp [h1, h2, sp2, sp1, setF_other _ _ h1, setF_other _ _ h2, none0]
theorem sp2_small (f g : List UInt8 × Nat) (hf : f.1.length ≤ 16777216) (hg : g.1.length ≤ 16777216) : ∀ nm x, sp2 f g nm = some x → x.1.length ≤ 16777216 := by
  intro nm x e
  by_cases h1 : nm = PP
  · subst h1; rw [sp2_file] at e; obtain rfl := Option.some.inj e; exact hf
  · by_cases h2 : nm = QQ
    · subst h2; rw [sp2_new] at e; obtain rfl := Option.some.inj e; exact hg
    · simp [sp2, sp1, setF_other _ _ h1, setF_other _ _ h2, none0] at e
theorem sp2_sum (f g : List UInt8 × Nat) : sumB (sp2 f g) [PP, QQ] = f.1.length + g.1.length := by simp [sumB, sp2_file, sp2_new]


/-- The file under its new name alone. -/
def sq (f : List UInt8 × Nat) : St := setF none0 QQ (some f)
theorem sq_at (f : List UInt8 × Nat) : sq f QQ = some f := setF_same _ _ _
theorem sq_of (f g : List UInt8 × Nat) : setF (setF (sp2 f g) PP none) QQ (some f) = sq f := by
  funext k
  by_cases h2 : k = QQ
  · subst h2; rw [setF_same, sq_at]
  · rw [setF_other _ _ h2]
    by_cases h1 : k = PP
    · subst h1; rw [setF_same]; unfold sq; rw [setF_other _ _ h2]; rfl
    · rw [setF_other _ _ h1]; unfold sp2 sp1 sq; rw [setF_other _ _ h2, setF_other _ _ h1, setF_other _ _ h2]
theorem sq_no (f : List UInt8 × Nat) : sq f PP = none := by unfold sq; rw [setF_other _ _ (by decide)]; rfl
theorem sq_set (f g : List UInt8 × Nat) : setF (sq f) QQ (some g) = sq g := setF_setF _ _ _ _
theorem sq_names (f : List UInt8 × Nat) : NamesOf (sq f) [QQ] := by
  refine ⟨fun nm => ?_, by simp, by simp⟩
  by_cases h : nm = QQ
  · subst h; simp [sq_at]
  · simp [h, sq, setF_other _ _ h, none0]
theorem sq_small (f : List UInt8 × Nat) (hf : f.1.length ≤ 16777216) : ∀ nm x, sq f nm = some x → x.1.length ≤ 16777216 := by
  intro nm x e
  by_cases h : nm = QQ
  · subst h; rw [sq_at] at e; obtain rfl := Option.some.inj e; exact hf
  · simp [sq, setF_other _ _ h, none0] at e
theorem sp2_over (f g : List UInt8 × Nat) : setF (sp2 f g) PP none QQ = some g := by rw [setF_other _ _ (by decide)]; exact sp2_new f g
theorem sp2_again (f g : List UInt8 × Nat) : setF (setF (sp2 f g) PP none) PP (some f) = sp2 f g := by rw [setF_setF, sp2_setF]

theorem take_own (a m : List UInt8) : (a ++ m).take a.length = a := List.take_left' rfl
theorem crash_q (a m : List UInt8) (sz : Nat) : crashF [QQ] [] 0 (sq (a ++ m, a.length)) sz = (sq (a, a.length), sz - m.length) := by
  by_cases h : m = []
  · subst h; simp [crashF, sq_at]
  · have hp : 0 < m.length := List.length_pos_iff.2 h
    have hne : ¬ a.length = (a ++ m).length := by rw [List.length_append]; omega
    have hl : (a ++ m).length - a.length = m.length := by rw [List.length_append]; omega
    have hs0 : stays (keepAt [] 0) m.length = 0 := by simp [stays, keepAt]
    rw [crashF, sq_at]
    simp only [if_neg hne, hl, hs0, Nat.add_zero, take_own, sq_set, Nat.sub_zero, crashF]
theorem crash_pq (a m b : List UInt8) (sz : Nat) : crashF [PP, QQ] [] 0 (sp2 (a ++ m, a.length) (b, b.length)) sz = (sp2 (a, a.length) (b, b.length), sz - m.length) := by
  by_cases h : m = []
  · subst h; simp [crashF, sp2_file, sp2_new]
  · have hp : 0 < m.length := List.length_pos_iff.2 h
    have hne : ¬ a.length = (a ++ m).length := by rw [List.length_append]; omega
    have hl : (a ++ m).length - a.length = m.length := by rw [List.length_append]; omega
    have hs0 : stays (keepAt [] 0) m.length = 0 := by simp [stays, keepAt]
    rw [crashF, sp2_file]
    simp only [if_neg hne, hl, hs0, Nat.add_zero, take_own, sp2_setF, Nat.sub_zero]
    rw [crashF, sp2_new]
    simp only [if_true, crashF]
end Go.Proofs.Ytkgpgfpclcibmaa

/- The calls of a dead disk. -/
namespace Go.Proofs.Ytkgpgfpclcibmaa
open Go.RowKit
set_option linter.unusedVariables false
set_option maxRecDepth 100000

section
variable {B d n : Nat} {own : Nat → Option Role} {st : Nm → Option (List UInt8 × Nat)} {sz : Nat} {left : Int} {w : World}

theorem remove_dead (h : Dk B d n own st sz (dead d) left w) (s : ByteArray) (hs : s.size ≤ maxLen) :
    Calls Try.prog 41 #[.pointer (some ⟨d, 0, none⟩), .string s] w fun e w' => e = .returned (.int .i64 21) ∧ ∃ q, w' = w.drewN q := by
  have hrf := fun q => refuseFile_any (h.drN q) s hs
  obtain ⟨_, _, c2, _⟩ := h.cell3
  unfold dead at c2
  generalize (if st s.data.toList = none then (20 : Int) else 0) = v at hrf
  go_enter Try.func41, Try.ntmps41
  go_wp2_with fail
  go_quiet (first | (go_at_call 73; refine Calls.quiet_of (v := .int .i64 v) (hrf _)) | (go_at_call 95; refine Calls.quiet_of_same (v := .int .i64 21) (dead_any _ _ _ _)) | fail)
  go_wp2_with fail
  go_ret
  exact ⟨rfl, _, rfl⟩

theorem write_dead (h : Dk B d n own st sz (dead d) left w) (s : ByteArray) {vb : Value} {l : List UInt8} (hr : Rd w vb l) (hl : l.length ≤ 1099511627776) (hz : sz ≤ 16777216) :
    Calls Try.prog 31 #[.pointer (some ⟨d, 0, none⟩), .string s, vb] w fun e w' => e = .returned (.int .i64 21) ∧ ∃ q, w' = w.drewN q := by
  have hrf := fun q => refuseWrite_any (h.drN q) s l.length hl hz
  obtain ⟨_, _, c2, _⟩ := h.cell3
  unfold dead at c2
  obtain ⟨av, cv, rfl, _, hcv, _, _⟩ := hr
  unfold maxLen at hcv
  generalize ((wErr s l.length sz : Nat) : Int) = v at hrf
  go_enter Try.func31, Try.ntmps31
  go_wp2_with fail
  go_quiet (first | (go_at_call 72; refine Calls.quiet_of (v := .int .i64 v) (hrf _)) | (go_at_call 95; refine Calls.quiet_of_same (v := .int .i64 21) (dead_any _ _ _ _)) | fail)
  go_wp2_with fail
  go_ret
  exact ⟨rfl, _, rfl⟩

theorem rename_dead (h : Dk B d n own st sz (dead d) left w) (s t : ByteArray) (hs : s.size ≤ maxLen) :
    Calls Try.prog 43 #[.pointer (some ⟨d, 0, none⟩), .string s, .string t] w fun e w' => e = .returned (.int .i64 21) ∧ ∃ q, w' = w.drewN q := by
  have hrf := fun q => refuseRename_any (h.drN q) s t hs
  obtain ⟨_, _, c2, _⟩ := h.cell3
  unfold dead at c2
  generalize ((rErr st s t : Nat) : Int) = v at hrf
  go_enter Try.func43, Try.ntmps43
  go_wp2_with fail
  go_quiet (first | (go_at_call 81; refine Calls.quiet_of (v := .int .i64 v) (hrf _)) | (go_at_call 95; refine Calls.quiet_of_same (v := .int .i64 21) (dead_any _ _ _ _)) | fail)
  go_wp2_with fail
  go_ret
  exact ⟨rfl, _, rfl⟩

theorem size_dead (h : Dk B d n own st sz (dead d) left w) :
    Calls Try.prog 52 #[.pointer (some ⟨d, 0, none⟩)] w fun e w' => e = .returned (.int .i64 0) ∧ ∃ q, w' = w.drewN q := by
  go_enter Try.func52, Try.ntmps52
  go_wp2_with fail
  refine (deadQ_dead h).mono ?_
  rintro e w1 ⟨rfl, q1, rfl⟩
  go_wp2_with fail
  go_ret
  exact ⟨rfl, _, rfl⟩
theorem arm_dead (h : Dk B d n own st sz (dead d) left w) (k : Int) :
    Calls Try.prog 45 #[.pointer (some ⟨d, 0, none⟩), .int .i64 k] w fun e w' => (∃ v, e = .returned v) ∧ ∃ q, w' = w.drewN q := by
  go_enter Try.func45, Try.ntmps45
  go_wp2_with fail
  refine (deadQ_dead h).mono ?_
  rintro e w1 ⟨rfl, q1, rfl⟩
  go_wp2_with fail
  (try simp only [Exit.inBlock, Exit.then])
  refine bodyPost_ret (results_none rfl _ _ _) rfl ?_
  exact ⟨⟨_, rfl⟩, _, rfl⟩
end
end Go.Proofs.Ytkgpgfpclcibmaa

/- What a living disk refuses; Remove of a living disk. -/
namespace Go.Proofs.Ytkgpgfpclcibmaa
open Go.RowKit
set_option linter.unusedVariables false
set_option maxRecDepth 100000

section
variable {B d n : Nat} {own : Nat → Option Role} {st : Nm → Option (List UInt8 × Nat)} {sz : Nat} {left : Int} {w : World}

theorem sync_no (h : Dk B d n own st sz (alive d) left w) (s : ByteArray) (hs : s.size ≤ maxLen) (e : st s.data.toList = none) :
    Calls Try.prog 32 #[.pointer (some ⟨d, 0, none⟩), .string s] w fun e w' => e = .returned (.int .i64 20) ∧ ∃ q, w' = w.drewN q := by
  have hrf := fun q => refuseFile_any (h.drN q) s hs
  obtain ⟨_, _, c2, _⟩ := h.cell3
  unfold alive at c2
  simp only [e, if_true] at hrf
  have hne : (20 : Int) ≠ 0 := by decide
  have hne2 : ((20 : Int) != 0) = true := by decide
  generalize (20 : Int) = v at *
  go_enter Try.func32, Try.ntmps32
  go_wp2_with fail
  go_quiet (first | (go_at_call 73; refine Calls.quiet_of (v := .int .i64 v) (hrf _)) | (go_at_call 35; refine Calls.quiet_of_same (v := .int .i64 v) (alive_any _ _ _ _)) | fail)
  go_wp2_with fail
  go_ret
  exact ⟨rfl, _, rfl⟩

theorem remove_no (h : Dk B d n own st sz (alive d) left w) (s : ByteArray) (hs : s.size ≤ maxLen) (e : st s.data.toList = none) :
    Calls Try.prog 41 #[.pointer (some ⟨d, 0, none⟩), .string s] w fun e w' => e = .returned (.int .i64 20) ∧ ∃ q, w' = w.drewN q := by
  have hrf := fun q => refuseFile_any (h.drN q) s hs
  obtain ⟨_, _, c2, _⟩ := h.cell3
  unfold alive at c2
  simp only [e, if_true] at hrf
  have hne : (20 : Int) ≠ 0 := by decide
  have hne2 : ((20 : Int) != 0) = true := by decide
  generalize (20 : Int) = v at *
  go_enter Try.func41, Try.ntmps41
  go_wp2_with fail
  go_quiet (first | (go_at_call 73; refine Calls.quiet_of (v := .int .i64 v) (hrf _)) | (go_at_call 35; refine Calls.quiet_of_same (v := .int .i64 v) (alive_any _ _ _ _)) | fail)
  go_wp2_with fail
  go_ret
  exact ⟨rfl, _, rfl⟩

theorem write_no (h : Dk B d n own st sz (alive d) left w) (s : ByteArray) {vb : Value} {l : List UInt8} (hr : Rd w vb l) (hl : l.length ≤ 1099511627776) (hz : sz ≤ 16777216) (e : wErr s l.length sz ≠ 0) :
    Calls Try.prog 31 #[.pointer (some ⟨d, 0, none⟩), .string s, vb] w fun e w' => e = .returned (.int .i64 (wErr s l.length sz : Int)) ∧ ∃ q, w' = w.drewN q := by
  have hrf := fun q => refuseWrite_any (h.drN q) s l.length hl hz
  obtain ⟨_, _, c2, _⟩ := h.cell3
  unfold alive at c2
  obtain ⟨av, cv, rfl, _, hcv, _, _⟩ := hr
  unfold maxLen at hcv
  have hne : ((wErr s l.length sz : Nat) : Int) ≠ 0 := by omega
  have hne2 : (((wErr s l.length sz : Nat) : Int) != 0) = true := by simpa using hne
  generalize ((wErr s l.length sz : Nat) : Int) = v at *
  go_enter Try.func31, Try.ntmps31
  go_wp2_with fail
  go_quiet (first | (go_at_call 72; refine Calls.quiet_of (v := .int .i64 v) (hrf _)) | (go_at_call 35; refine Calls.quiet_of_same (v := .int .i64 v) (alive_any _ _ _ _)) | fail)
  go_wp2_with fail
  go_ret
  exact ⟨rfl, _, rfl⟩

theorem rename_no (h : Dk B d n own st sz (alive d) left w) (s t : ByteArray) (hs : s.size ≤ maxLen) (e : rErr st s t ≠ 0) :
    Calls Try.prog 43 #[.pointer (some ⟨d, 0, none⟩), .string s, .string t] w fun e w' => e = .returned (.int .i64 (rErr st s t : Int)) ∧ ∃ q, w' = w.drewN q := by
  have hrf := fun q => refuseRename_any (h.drN q) s t hs
  obtain ⟨_, _, c2, _⟩ := h.cell3
  unfold alive at c2
  have hne : ((rErr st s t : Nat) : Int) ≠ 0 := by omega
  have hne2 : (((rErr st s t : Nat) : Int) != 0) = true := by simpa using hne
  generalize ((rErr st s t : Nat) : Int) = v at *
  go_enter Try.func43, Try.ntmps43
  go_wp2_with fail
  go_quiet (first | (go_at_call 81; refine Calls.quiet_of (v := .int .i64 v) (hrf _)) | (go_at_call 35; refine Calls.quiet_of_same (v := .int .i64 v) (alive_any _ _ _ _)) | fail)
  go_wp2_with fail
  go_ret
  exact ⟨rfl, _, rfl⟩

theorem remove_alive (h : Dk B d n own st sz (alive d) left w) (s : ByteArray) (hs : s.size ≤ maxLen) (f : List UInt8 × Nat) (e : st s.data.toList = some f) (hf : f.1.length ≤ sz) (hz : sz ≤ 1099511627776) :
    Calls Try.prog 41 #[.pointer (some ⟨d, 0, none⟩), .string s] w fun e w' => e = .returned (.int .i64 0) ∧ (∃ own', Dk B d n own' (setF st s.data.toList none) (sz - f.1.length) (alive d) left w' ∧ ∀ b, own' b ≠ none → own b ≠ none ∨ w.heap.size ≤ b) ∧ Chg (fun b => own b ≠ none) w w' := by
  have hrf := fun q => refuseFile_any (h.drN q) s hs
  simp only [e, if_neg (show ¬ (some f = none) by simp)] at hrf
  obtain ⟨_, _, c2, _⟩ := h.cell3
  unfold alive at c2
  go_enter Try.func41, Try.ntmps41
  go_wp2_with fail
  go_quiet (first | (go_at_call 73; refine Calls.quiet_of (v := .int .i64 0) (hrf _)) | (go_at_call 35; refine Calls.quiet_of_same (v := .int .i64 0) (alive_any _ _ _ _)) | fail)
  go_wp2_with fail
  refine (drop_there (h.drN nq) s hs f e hf hz).mono ?_
  rintro e w3 ⟨⟨v3, rfl⟩, hd3, hc3⟩
  go_wp2_with fail
  go_ret
  exact ⟨rfl, ⟨_, hd3, fun b hb => Or.inl (strike_sub hb)⟩, (Chg.dNo _ w nq).trans (hc3.mono (fun b _ q => Or.inl (by rcases q with q | q <;> rw [q] <;> simp)))⟩
end
end Go.Proofs.Ytkgpgfpclcibmaa

/- What an armed disk tells: Read, Size, Names; Arm of an armed disk. -/
namespace Go.Proofs.Ytkgpgfpclcibmaa
open Go.RowKit
set_option linter.unusedVariables false
set_option maxRecDepth 100000

section
variable {B d n : Nat} {own : Nat → Option Role} {st : Nm → Option (List UInt8 × Nat)} {sz : Nat} {left : Int} {w : World}

theorem read_armed (h : Dk B d n own st sz (armed d) left w) (s : ByteArray) (hs : s.size ≤ maxLen) (f : List UInt8 × Nat) (e : st s.data.toList = some f) (hl : f.1.length ≤ 140737488355328) :
    Calls Try.prog 34 #[.pointer (some ⟨d, 0, none⟩), .string s] w fun e w' => ∃ v, e = .returned (.tuple #[v, .int .i64 0]) ∧ Ow w.heap.size w' v f.1 ∧ Below w.heap.size w w' := by
  have hrf := fun q => refuseFile_any (h.drN q) s hs
  simp only [e, if_neg (show ¬ (some f = none) by simp)] at hrf
  obtain ⟨_, _, c2, _⟩ := h.cell3
  unfold armed at c2
  obtain ⟨m, D, fb, fv, h⟩ := h
  have c0 : w.cell? ⟨d, 0, none⟩ = some (.map (some m)) := by rw [cell_of_row _ _ _ _ _ _ h.cell]; rfl
  have hrun := fun q => (h.drN q).look s hs f e
  obtain ⟨fa, fc, efv, hln, f0, f1, hfz, hrd⟩ := h.fcell e
  clear h hfz efv
  generalize fb s.data.toList = g at *
  go_enter Try.func34, Try.ntmps34
  go_wp2_with fail
  go_quiet (first | (go_at_call 73; refine Calls.quiet_of (v := .int .i64 0) (hrf _)) | (go_at_call 82; refine Calls.quiet_of_same (v := .int .i64 0) (armed_pass _ _ _ _ (Or.inl rfl))) | fail)
  go_wp2_with fail
  refine (dclone_any (hrd.drewN nq) hl).mono ?_
  rintro e w2 ⟨v2, rfl, ho2, hb2⟩
  go_wp2_with fail
  go_ret2
  exact ⟨_, rfl, ho2, Below.tr (Below.dN w nq) hb2⟩
theorem read_noA (h : Dk B d n own st sz (armed d) left w) (s : ByteArray) (hs : s.size ≤ maxLen) (e : st s.data.toList = none) :
    Calls Try.prog 34 #[.pointer (some ⟨d, 0, none⟩), .string s] w fun e w' => e = .returned (.tuple #[.slice none 0 0, .int .i64 20]) ∧ ∃ q, w' = w.drewN q := by
  have hrf := fun q => refuseFile_any (h.drN q) s hs
  simp only [e, if_true] at hrf
  obtain ⟨_, _, c2, _⟩ := h.cell3
  unfold armed at c2
  go_enter Try.func34, Try.ntmps34
  go_wp2_with fail
  go_quiet (first | (go_at_call 73; refine Calls.quiet_of (v := .int .i64 20) (hrf _)) | (go_at_call 82; refine Calls.quiet_of_same (v := .int .i64 20) (armed_pass _ _ _ _ (Or.inl rfl))) | fail)
  go_wp2_with fail
  go_ret2
  exact ⟨rfl, _, rfl⟩
theorem size_armed (h : Dk B d n own st sz (armed d) left w) :
    Calls Try.prog 52 #[.pointer (some ⟨d, 0, none⟩)] w fun e w' => e = .returned (.int .i64 (sz : Int)) ∧ ∃ q, w' = w.drewN q := by
  have hc := h.cell1.1
  go_enter Try.func52, Try.ntmps52
  go_wp2_with fail
  refine (deadQ_armed h).mono ?_
  rintro e w1 ⟨rfl, q1, rfl⟩
  go_wp2_with fail
  go_ret
  exact ⟨rfl, _, rfl⟩
theorem namesQ_alive (h : Dk B d n own st sz (alive d) left w) {L : List Nm} (hL : NamesOf st L) (hn : n ≤ 1099511627776) :
    Calls Try.prog 50 #[.pointer (some ⟨d, 0, none⟩)] w fun e w' => ∃ v, e = .returned v ∧ w'.ownsRow w.heap.size 9 1 v L.length (L.map encStr) ∧ Below w.heap.size w w' := by
  go_enter Try.func50, Try.ntmps50
  go_wp2_with fail
  refine (dead_alive h).mono ?_
  rintro e w1 ⟨rfl, q1, rfl⟩
  go_wp2_with fail
  refine (names_any (h.drN q1) hL hn).mono ?_
  rintro e w2 ⟨v2, rfl, ho2, hb2⟩
  go_wp2_with fail
  go_ret
  exact ⟨_, rfl, ho2, Below.tr (Below.dN w q1) hb2⟩
theorem namesQ_armed (h : Dk B d n own st sz (armed d) left w) {L : List Nm} (hL : NamesOf st L) (hn : n ≤ 1099511627776) :
    Calls Try.prog 50 #[.pointer (some ⟨d, 0, none⟩)] w fun e w' => ∃ v, e = .returned v ∧ w'.ownsRow w.heap.size 9 1 v L.length (L.map encStr) ∧ Below w.heap.size w w' := by
  go_enter Try.func50, Try.ntmps50
  go_wp2_with fail
  refine (deadQ_armed h).mono ?_
  rintro e w1 ⟨rfl, q1, rfl⟩
  go_wp2_with fail
  refine (names_any (h.drN q1) hL hn).mono ?_
  rintro e w2 ⟨v2, rfl, ho2, hb2⟩
  go_wp2_with fail
  go_ret
  exact ⟨_, rfl, ho2, Below.tr (Below.dN w q1) hb2⟩
theorem arm_armed (h : Dk B d n own st sz (armed d) left w) (k : Int) (hk : -9223372036854775808 ≤ k ∧ k ≤ 9223372036854775807) :
    Calls Try.prog 45 #[.pointer (some ⟨d, 0, none⟩), .int .i64 k] w fun e w' => (∃ v, e = .returned v) ∧ Dk B d n own st sz (armed d) (max k 0) w' ∧ Chg (fun b => own b ≠ none) w w' := by
  obtain ⟨c3, z3, c2, z2⟩ := h.cell3
  have c2' : ∀ v, (w.setCell ⟨d, 3, none⟩ v).cell? ⟨d, 2, none⟩ = some (armed d) := fun v => by
    rw [show (w.setCell ⟨d, 3, none⟩ v).cell? ⟨d, 2, none⟩ = w.cell? ⟨d, 2, none⟩ from World.cell?_setCell_other _ _ _ _ (by simp)]; exact c2
  have hfin := ((h.setLeft (max k 0)).setMay (armed d))
  have hchg : Chg (fun b => own b ≠ none) w ((w.setCell ⟨d, 3, none⟩ (.int .i64 (max k 0))).setCell ⟨d, 2, none⟩ (armed d)) := (h.chgD 3 _).trans (((h.setLeft (max k 0)).chgD 2 _).mono (fun b _ q => Or.inl q))
  have H : Hid _ := And.intro hfin hchg
  clear hfin hchg
  go_enter Try.func45, Try.ntmps45
  go_wp2_with fail
  refine (deadQ_armed h).mono ?_
  rintro e w1 ⟨rfl, q1, rfl⟩
  go_wp2_with fail
  go_end0
  exact ⟨⟨_, rfl⟩, H.out.1.drN q1, H.out.2.dN q1⟩
end
end Go.Proofs.Ytkgpgfpclcibmaa

/- My own words for the document's disk in memory: 'Rf': a Disk struct in block r whose files are the list L, in an array of its own, each with its bytes in memory of its own. -/
namespace Go.Proofs.Ytkgpgfpclcibmaa
open Go.RowKit
set_option linter.unusedVariables false
set_option maxRecDepth 100000

/-- The cells of a file, with the value of its bytes. -/
def flC (x : Fl × Value) : List Value := [encStr x.1.1, x.2, .int .i64 (x.1.2.2 : Int)]
def flCs (P : List (Fl × Value)) : List Value := P.flatMap flC

theorem flCs_cons (x : Fl × Value) (P : List (Fl × Value)) : flCs (x :: P) = flC x ++ flCs P := rfl
theorem flCs_app (P Q : List (Fl × Value)) : flCs (P ++ Q) = flCs P ++ flCs Q := by simp [flCs]
theorem flCs_length (P : List (Fl × Value)) : (flCs P).length = P.length * 3 := by
  induction P with
  | nil => rfl
  | cons x P ih => rw [flCs_cons, List.length_append, ih]; simp [flC]; omega
theorem flCs_at (P : List (Fl × Value)) (i : Nat) (x : Fl × Value) (e : P[i]? = some x) : (flCs P)[i * 3]? = some (encStr x.1.1) ∧ (flCs P)[i * 3 + 1]? = some x.2 ∧ (flCs P)[i * 3 + 2]? = some (.int .i64 (x.1.2.2 : Int)) := by
  induction P generalizing i with
  | nil => simp at e
  | cons y P ih =>
    cases i with
    | zero => simp at e; subst e; simp [flCs_cons, flC]
    | succ i =>
      have := ih i (by simpa using e)
      have h3 : ∀ j, (flCs (y :: P))[3 + j]? = (flCs P)[j]? := fun j => by
        rw [flCs_cons, List.getElem?_append_right (by simp [flC])]
        simp [flC]
      refine ⟨?_, ?_, ?_⟩
      · rw [show (i + 1) * 3 = 3 + i * 3 by omega, h3]; exact this.1
      · rw [show (i + 1) * 3 + 1 = 3 + (i * 3 + 1) by omega, h3]; exact this.2.1
      · rw [show (i + 1) * 3 + 2 = 3 + (i * 3 + 2) by omega, h3]; exact this.2.2
theorem flCs_take (P : List (Fl × Value)) (k : Nat) : (flCs P).take (k * 3) = flCs (P.take k) := by
  induction P generalizing k with
  | nil => simp [flCs]
  | cons x P ih =>
    cases k with
    | zero => simp [flCs]
    | succ k =>
      rw [List.take_succ_cons, flCs_cons, flCs_cons, ← ih k, List.take_append, show (k + 1) * 3 - (flC x).length = k * 3 by simp [flC]; omega, List.take_of_length_le (by simp [flC]; omega)]
theorem flCs_drop (P : List (Fl × Value)) (k : Nat) : (flCs P).drop (k * 3) = flCs (P.drop k) := by
  induction P generalizing k with
  | nil => simp [flCs]
  | cons x P ih =>
    cases k with
    | zero => simp [flCs]
    | succ k =>
      rw [List.drop_succ_cons, flCs_cons, ← ih k, List.drop_append, show (k + 1) * 3 - (flC x).length = k * 3 by simp [flC]; omega, List.drop_of_length_le (by simp [flC]; omega), List.nil_append]

/-- The document's disk, all of it by name. -/
structure RfI (B r : Nat) (fv : Value) (P : List (Fl × Value)) (S : Nat → Prop) (left : Int) (dd : Bool) (w : World) : Prop where
  cell : w.heap[r]? = some (.cells #[fv, .int .i64 left, .bool dd] 82 (0, 0))
  row : w.ownsRow B 130 3 fv P.length (flCs P)
  data : ∀ x ∈ P, Rd w x.2 x.1.2.1 ∧ x.1.2.2 ≤ x.1.2.1.length ∧ x.1.1.length ≤ 64
  sr : S r
  sf : ∀ b, fv.ownBlock = some b → S b
  sd : ∀ x ∈ P, ∀ b, x.2.ownBlock = some b → S b ∧ b ≠ r ∧ fv.ownBlock ≠ some b
  rf : fv.ownBlock ≠ some r
  lo : ∀ b, S b → B ≤ b ∧ b < w.heap.size

/-- The document's disk. -/
def Rf (B r : Nat) (S : Nat → Prop) (L : List Fl) (left : Int) (dd : Bool) (w : World) : Prop := ∃ fv P, P.map (·.1) = L ∧ RfI B r fv P S left dd w

theorem RfI.next {B r : Nat} {fv : Value} {P : List (Fl × Value)} {S T : Nat → Prop} {left : Int} {dd : Bool} {w w' : World} (h : RfI B r fv P S left dd w) (hc : Chg T w w') (hT : ∀ b, S b → ¬ T b) : RfI B r fv P S left dd w' :=
  ⟨by rw [hc.block r (h.lo r h.sr).2 (hT r h.sr)]; exact h.cell, ownsRow_keptC h.row hc (fun b hb => hT b (h.sf b hb)), fun x hx => ⟨(h.data x hx).1.keptC hc (fun b hb => hT b (h.sd x hx b hb).1), (h.data x hx).2⟩, h.sr, h.sf, h.sd, h.rf,
    fun b hb => ⟨(h.lo b hb).1, Nat.lt_of_lt_of_le (h.lo b hb).2 hc.size⟩⟩
theorem Rf.next {B r : Nat} {S T : Nat → Prop} {L : List Fl} {left : Int} {dd : Bool} {w w' : World} (h : Rf B r S L left dd w) (hc : Chg T w w') (hT : ∀ b, S b → ¬ T b) : Rf B r S L left dd w' := by
  obtain ⟨fv, P, e, h⟩ := h
  exact ⟨fv, P, e, h.next hc hT⟩
theorem RfI.drN {B r : Nat} {fv : Value} {P : List (Fl × Value)} {S : Nat → Prop} {left : Int} {dd : Bool} {w : World} (h : RfI B r fv P S left dd w) (q : Nat) : RfI B r fv P S left dd (w.drewN q) :=
  h.next (T := fun _ => False) (Chg.refl _ _ |>.dN q) (fun _ _ => id)
theorem Rf.drN {B r : Nat} {S : Nat → Prop} {L : List Fl} {left : Int} {dd : Bool} {w : World} (h : Rf B r S L left dd w) (q : Nat) : Rf B r S L left dd (w.drewN q) := by
  obtain ⟨fv, P, e, h⟩ := h
  exact ⟨fv, P, e, h.drN q⟩
theorem Rf.below {B r : Nat} {S : Nat → Prop} {L : List Fl} {left : Int} {dd : Bool} {w w' : World} (h : Rf B r S L left dd w) (hb : Below w.heap.size w w') : Rf B r S L left dd w' := by
  obtain ⟨fv, P, e, h⟩ := h
  exact ⟨fv, P, e, h.next (Chg.of_below hb) (fun b hs q => by have := (h.lo b hs).2; omega)⟩
theorem Rf.chg {B r : Nat} {S : Nat → Prop} {L : List Fl} {left : Int} {dd : Bool} {w w' : World} (h : Rf B r S L left dd w) (hc : Chg S w w') : Below B w w' := by
  obtain ⟨fv, P, e, h⟩ := h
  exact hc.below (fun b hb => (h.lo b hb).1) (by have := h.lo r h.sr; omega)

section
variable {B r : Nat} {fv : Value} {P : List (Fl × Value)} {S : Nat → Prop} {left : Int} {dd : Bool} {w : World}
/-- How the disk's own cells read. -/
theorem RfI.cells (h : RfI B r fv P S left dd w) : w.cell? ⟨r, 0, none⟩ = some fv ∧ w.cell? ⟨r, 1, none⟩ = some (.int .i64 left) ∧ w.cell? ⟨r, 2, none⟩ = some (.bool dd) ∧ ∀ i, w.frozen? ⟨r, i, none⟩ = false :=
  ⟨by rw [cell_of_row _ _ _ _ _ _ h.cell]; rfl, by rw [cell_of_row _ _ _ _ _ _ h.cell]; rfl, by rw [cell_of_row _ _ _ _ _ _ h.cell]; rfl, fun i => frozen_of_row _ _ _ _ _ h.cell⟩
/-- How the files' array reads. -/
theorem RfI.shape (h : RfI B r fv P S left dd w) : ∃ a c, fv = .slice a P.length c ∧ P.length ≤ c ∧ c ≤ maxLen ∧ (a = none → c = 0) ∧ ∀ i x, P[i]? = some x → ∃ g, a = some ⟨g, 0, none⟩ ∧ w.cell? ⟨g, i * 3, none⟩ = some (encStr x.1.1) ∧ w.cell? ⟨g, i * 3 + 1, none⟩ = some x.2 ∧ w.cell? ⟨g, i * 3 + 2, none⟩ = some (.int .i64 (x.1.2.2 : Int)) ∧ ∀ j, w.frozen? ⟨g, j, none⟩ = false := by
  rcases h.row.2 with ⟨q, q0⟩ | ⟨g, cap, cur, q, hB, hg, q1, q2, q3, q4⟩
  · refine ⟨none, 0, by rw [q, q0], by omega, by simp, fun _ => rfl, fun i x e => ?_⟩
    have := (List.getElem?_eq_some_iff.1 e).1
    omega
  · refine ⟨some ⟨g, 0, none⟩, cap, q, q1, q2, (fun e => by cases e), fun i x e => ⟨g, rfl, ?_⟩⟩
    have hc : ∀ j u, (flCs P)[j]? = some u → w.cell? ⟨g, j, none⟩ = some u := fun j u hu => by
      have := h.row.cells (g := g) (by rw [q]; rfl) j u hu
      rw [Addr.add_lit, Nat.zero_add] at this
      exact this
    obtain ⟨e1, e2, e3⟩ := flCs_at P i x e
    exact ⟨hc _ _ e1, hc _ _ e2, hc _ _ e3, fun j => frozen_of_row _ _ _ _ _ hg⟩
end
end Go.Proofs.Ytkgpgfpclcibmaa

/- The place of a file in the document's disk. -/
namespace Go.Proofs.Ytkgpgfpclcibmaa
open Go.RowKit
set_option linter.unusedVariables false
set_option maxRecDepth 100000

theorem less_is (nm : Nm) (s : ByteArray) : Op.bytesLess nm s.toList = decide (nm < s.data.toList) := by
  rw [ByteArray.toList_eq]; exact bytesLess_eq _ _
theorem place_at (P : List (Fl × Value)) (nm : Nm) {k : Nat} (h1 : ∀ j x, j < k → P[j]? = some x → x.1.1 < nm) (h2 : ∀ x, P[k]? = some x → ¬ x.1.1 < nm) (h3 : k ≤ P.length) : place (P.map (·.1)) nm = k := by
  refine place_eq (fun j x hj e => ?_) (fun x e => ?_) (by simpa using h3)
  · rw [List.getElem?_map] at e
    obtain ⟨y, hy, rfl⟩ := Option.map_eq_some_iff.1 e
    exact h1 j y hj hy
  · rw [List.getElem?_map] at e
    obtain ⟨y, hy, rfl⟩ := Option.map_eq_some_iff.1 e
    exact h2 y hy

section
variable {B r : Nat} {S : Nat → Prop} {L : List Fl} {left : Int} {dd : Bool} {w : World}

theorem rfind_any (h : Rf B r S L left dd w) (s : ByteArray) :
    Calls Try.prog 77 #[.pointer (some ⟨r, 0, none⟩), .string s] w fun e w' => ∃ b, e = .returned (.tuple #[.int .i64 (place L s.data.toList : Int), .bool b]) ∧ (b = true ↔ ∃ f, L[place L s.data.toList]? = some (s.data.toList, f)) ∧ ∃ q, w' = w.drewN q := by
  obtain ⟨fv, P, rfl, h⟩ := h
  obtain ⟨c0, c1, c2, _⟩ := h.cells
  obtain ⟨a, c, rfl, h1, h2, h3, h4⟩ := h.shape
  unfold maxLen at h2
  go_enter Try.func77, Try.ntmps77
  go_wp2_with fail
  go_loopw [6] (fun i wr => ∃ (k q : Nat), k ≤ P.length ∧ i = .int .i64 k ∧ wr = w.drewN q ∧ ∀ j x, j < k → P[j]? = some x → x.1.1 < s.data.toList) (fun i _ => P.length - (intOf i).toNat)
  case atStart => exact ⟨0, 0, by omega, rfl, rfl, fun j x q => by omega⟩
  case round =>
    obtain ⟨k, q, hk, rfl, rfl, hlow⟩ := hrel
    by_cases hlt : k < P.length
    · obtain ⟨g, rfl, g0, g1, g2, gz⟩ := h4 k P[k] (List.getElem?_eq_getElem hlt)
      generalize hx : P[k] = x at *
      obtain ⟨⟨nm, f⟩, dv⟩ := x
      simp only [] at *
      replace g0 : w.cell? ⟨g, k * 3, none⟩ = some (.string ⟨nm.toArray⟩) := g0
      have hbl := less_is nm s
      by_cases hless : nm < s.data.toList
      · rw [decide_eq_true hless] at hbl
        go_wp2_with fail
        refine ⟨⟨k + 1, q, by omega, by go_num, rfl, fun j x hj e => ?_⟩, by simp [intOf]; omega⟩
        rcases Nat.lt_or_ge j k with q | q
        · exact hlow j x q e
        · obtain rfl : j = k := by omega
          rw [List.getElem?_eq_getElem hlt, hx] at e
          obtain rfl := Option.some.inj e
          exact hless
      · rw [decide_eq_false hless] at hbl
        have hpl : place (P.map (·.1)) s.data.toList = k := place_at _ _ hlow (fun x e => by rw [List.getElem?_eq_getElem hlt, hx] at e; obtain rfl := Option.some.inj e; exact hless) hk
        have HP : Hid _ := hpl
        have hq : (P.map (·.1))[k]? = some (nm, f) := by rw [List.getElem?_map, List.getElem?_eq_getElem hlt, hx]; rfl
        have H : Hid _ := hq
        clear hq hlow hpl h4
        go_wp2_with fail
        go_quiet (fail)
        go_wp2_with fail
        go_ret2
        rw [HP.out]
        refine ⟨_, rfl, ?_, q + nq, by simp [World.drewN, Nat.add_assoc]⟩
        rw [H.out, ByteArray.toList_eq]
        constructor
        · intro e
          exact ⟨f, by rw [eq_of_beq e]⟩
        · rintro ⟨f2, e⟩
          simp only [Option.some.injEq, Prod.mk.injEq] at e
          simp [e.1]
    · obtain rfl : k = P.length := by omega
      have hpl : place (P.map (·.1)) s.data.toList = P.length := place_at _ _ hlow (fun x e => by simp at e) (Nat.le_refl _)
      have HP : Hid _ := hpl
      clear hpl hlow h4
      go_wp2_with fail
      go_ret2
      rw [HP.out]
      exact ⟨false, rfl, by simp, q, rfl⟩

theorem rfind_there (hU : Up L) (h : Rf B r S L left dd w) (s : ByteArray) {f : List UInt8 × Nat} (hs : stOf L s.data.toList = some f) {k : Nat} (hk : place L s.data.toList = k) :
    Calls Try.prog 77 #[.pointer (some ⟨r, 0, none⟩), .string s] w fun e w' => e = .returned (.tuple #[.int .i64 (k : Int), .bool true]) ∧ ∃ q, w' = w.drewN q := by
  refine (rfind_any h s).mono ?_
  rintro e w1 ⟨b, rfl, hb, hq⟩
  obtain rfl : b = true := hb.2 ⟨f, (stOf_at hU _ f).1 hs⟩
  exact ⟨by rw [hk], hq⟩
theorem rfind_not (hU : Up L) (h : Rf B r S L left dd w) (s : ByteArray) (hs : stOf L s.data.toList = none) {k : Nat} (hk : place L s.data.toList = k) :
    Calls Try.prog 77 #[.pointer (some ⟨r, 0, none⟩), .string s] w fun e w' => e = .returned (.tuple #[.int .i64 (k : Int), .bool false]) ∧ ∃ q, w' = w.drewN q := by
  refine (rfind_any h s).mono ?_
  rintro e w1 ⟨b, rfl, hb, hq⟩
  obtain rfl : b = false := by
    cases b with
    | false => rfl
    | true =>
      obtain ⟨f, e⟩ := hb.1 rfl
      rw [(stOf_at hU _ f).2 e] at hs
      cases hs
  exact ⟨by rw [hk], hq⟩
/-- A file that is there, in memory. -/
theorem RfI.there {fv : Value} {P : List (Fl × Value)} (hU : Up (P.map (·.1))) (h : RfI B r fv P S left dd w) {nm : Nm} {f : List UInt8 × Nat} (hs : stOf (P.map (·.1)) nm = some f) {k : Nat} (hk : place (P.map (·.1)) nm = k) :
    ∃ g c dv, fv = .slice (some ⟨g, 0, none⟩) P.length c ∧ k < P.length ∧ P.length ≤ c ∧ c ≤ maxLen ∧ P[k]? = some ((nm, f), dv) ∧ w.cell? ⟨r, 0, none⟩ = some (.slice (some ⟨g, 0, none⟩) P.length c) ∧ w.cell? ⟨g, k * 3, none⟩ = some (.string ⟨nm.toArray⟩) ∧ w.cell? ⟨g, k * 3 + 1, none⟩ = some dv ∧ w.cell? ⟨g, k * 3 + 2, none⟩ = some (.int .i64 (f.2 : Int)) ∧ (∀ j, w.frozen? ⟨g, j, none⟩ = false) ∧ Rd w dv f.1 := by
  have hat := (stOf_at hU _ f).1 hs
  rw [hk, List.getElem?_map] at hat
  obtain ⟨⟨y, dv⟩, hy, e⟩ := Option.map_eq_some_iff.1 hat
  simp only [] at e
  subst e
  obtain ⟨c0, _, _, _⟩ := h.cells
  obtain ⟨a, c, rfl, h1, h2, h3, h4⟩ := h.shape
  obtain ⟨g, rfl, g0, g1, g2, gz⟩ := h4 k _ hy
  exact ⟨g, c, dv, rfl, (List.getElem?_eq_some_iff.1 hy).1, h1, h2, hy, c0, g0, g1, g2, gz, (h.data _ (List.mem_of_getElem? hy)).1⟩
end
end Go.Proofs.Ytkgpgfpclcibmaa

/- Size of the document's disk. -/
namespace Go.Proofs.Ytkgpgfpclcibmaa
open Go.RowKit
set_option linter.unusedVariables false
set_option maxRecDepth 100000

theorem sumL_take (L : List Fl) (k : Nat) (x : Fl) (e : L[k]? = some x) : sumL (L.take (k + 1)) = sumL (L.take k) + x.2.1.length := by
  rw [List.take_add_one, e]
  simp [sumL]
theorem sumL_app (L M : List Fl) : sumL (L ++ M) = sumL L + sumL M := by simp [sumL]
theorem sumL_le (L : List Fl) (k : Nat) : sumL (L.take k) ≤ sumL L := by
  have := sumL_app (L.take k) (L.drop k)
  rw [List.take_append_drop] at this
  omega

section
variable {B r : Nat} {fv : Value} {P : List (Fl × Value)} {S : Nat → Prop} {L : List Fl} {left : Int} {dd : Bool} {w : World}

theorem rsize_dead (h : Rf B r S L left true w) : Calls Try.prog 53 #[.pointer (some ⟨r, 0, none⟩)] w fun e w' => e = .returned (.int .i64 0) ∧ w' = w := by
  obtain ⟨fv, P, rfl, h⟩ := h
  obtain ⟨c0, c1, c2, _⟩ := h.cells
  obtain ⟨a, c, rfl, h1, h2, h3, h4⟩ := h.shape
  unfold maxLen at h2
  go_enter Try.func53, Try.ntmps53
  go_wp2_with fail
  go_loopw [3, 4] (fun k i wr => k = .int .i64 0 ∧ i = .int .i64 0 ∧ wr = w) (fun _ _ _ => 0)
  case atStart => exact ⟨rfl, rfl, rfl⟩
  case round =>
    obtain ⟨rfl, rfl, rfl⟩ := hrel
    by_cases hlt : 0 < P.length
    · go_wp2_with fail
      go_ret
      exact ⟨rfl, rfl⟩
    · go_wp2_with fail
      go_ret
      exact ⟨rfl, rfl⟩
theorem rsize_any (h : Rf B r S L left false w) (hm : sumL L ≤ 1099511627776) : Calls Try.prog 53 #[.pointer (some ⟨r, 0, none⟩)] w fun e w' => e = .returned (.int .i64 (sumL L : Int)) ∧ w' = w := by
  obtain ⟨fv, P, rfl, h⟩ := h
  obtain ⟨c0, c1, c2, _⟩ := h.cells
  obtain ⟨a, c, rfl, h1, h2, h3, h4⟩ := h.shape
  unfold maxLen at h2
  have hdata := h.data
  clear h
  go_enter Try.func53, Try.ntmps53
  go_wp2_with fail
  go_loopw [3, 4] (fun n i wr => ∃ k : Nat, k ≤ P.length ∧ n = .int .i64 (sumL ((P.map (·.1)).take k) : Int) ∧ i = .int .i64 k ∧ wr = w) (fun _ i _ => P.length - (intOf i).toNat)
  case atStart => exact ⟨0, by omega, rfl, rfl, rfl⟩
  case round =>
    obtain ⟨k, hk, rfl, rfl, rfl⟩ := hrel
    have hle := sumL_le (P.map (·.1)) k
    by_cases hlt : k < P.length
    · obtain ⟨g, rfl, g0, g1, g2, gz⟩ := h4 k P[k] (List.getElem?_eq_getElem hlt)
      have hd := hdata P[k] (List.getElem_mem hlt)
      have hst := sumL_take (P.map (·.1)) k P[k].1 (by rw [List.getElem?_map, List.getElem?_eq_getElem hlt]; rfl)
      have hle2 := sumL_le (P.map (·.1)) (k + 1)
      generalize hx : P[k] = x at *
      obtain ⟨⟨nm, f⟩, dv⟩ := x
      simp only [] at *
      obtain ⟨⟨ad, cd, rfl, _⟩, _, _⟩ := hd
      generalize sumL ((P.map (·.1)).take k) = A at *
      have HS : Hid _ := hst
      clear h4 hdata
      go_wp2_with fail
      exact ⟨⟨k + 1, by omega, by rw [HS.out]; go_num, by go_num, by first | rfl | trivial⟩, by simp [intOf]; omega⟩
    · obtain rfl : k = P.length := by omega
      clear h4 hdata
      have he : sumL ((P.map (·.1)).take P.length) = sumL (P.map (·.1)) := by rw [List.take_of_length_le (by simp)]
      have HE : Hid _ := he
      clear he
      go_wp2_with fail
      go_ret
      rw [HE.out]
      exact ⟨rfl, rfl⟩
end
end Go.Proofs.Ytkgpgfpclcibmaa

/- Take and Arm of the document's disk: its own cells alone turn. -/
namespace Go.Proofs.Ytkgpgfpclcibmaa
open Go.RowKit
set_option linter.unusedVariables false
set_option maxRecDepth 100000

section
variable {B r : Nat} {fv : Value} {P : List (Fl × Value)} {S : Nat → Prop} {L : List Fl} {left : Int} {dd : Bool} {w : World}

/-- The disk's own cells turned. -/
theorem RfI.turn (h : RfI B r fv P S left dd w) {w' : World} {left' : Int} {dd' : Bool} (hc : Chg (fun b => b = r) w w') (hr : w'.heap[r]? = some (.cells #[fv, .int .i64 left', .bool dd'] 82 (0, 0))) : RfI B r fv P S left' dd' w' :=
  ⟨hr, ownsRow_keptC h.row hc (fun b hb e => h.rf (by rw [hb, e])), fun x hx => ⟨(h.data x hx).1.keptC hc (fun b hb e => (h.sd x hx b hb).2.1 e), (h.data x hx).2⟩, h.sr, h.sf, h.sd, h.rf,
    fun b hb => ⟨(h.lo b hb).1, Nat.lt_of_lt_of_le (h.lo b hb).2 hc.size⟩⟩
theorem Rf.setLeft (h : Rf B r S L left dd w) (k : Int) : Rf B r S L k dd (w.setCell ⟨r, 1, none⟩ (.int .i64 k)) ∧ Chg S w (w.setCell ⟨r, 1, none⟩ (.int .i64 k)) := by
  obtain ⟨fv, P, e, h⟩ := h
  exact ⟨⟨fv, P, e, h.turn ((Chg.refl (fun b => b = r) w).put r 1 _ rfl) (by rw [heap_setCell_same _ _ 1 _ _ _ h.cell]; rfl)⟩, (Chg.refl _ w).put r 1 _ h.sr⟩
theorem Rf.setDead (h : Rf B r S L left dd w) (k : Bool) : Rf B r S L left k (w.setCell ⟨r, 2, none⟩ (.bool k)) ∧ Chg S w (w.setCell ⟨r, 2, none⟩ (.bool k)) := by
  obtain ⟨fv, P, e, h⟩ := h
  exact ⟨⟨fv, P, e, h.turn ((Chg.refl (fun b => b = r) w).put r 2 _ rfl) (by rw [heap_setCell_same _ _ 2 _ _ _ h.cell]; rfl)⟩, (Chg.refl _ w).put r 2 _ h.sr⟩
theorem Rf.cells (h : Rf B r S L left dd w) : w.cell? ⟨r, 1, none⟩ = some (.int .i64 left) ∧ w.cell? ⟨r, 2, none⟩ = some (.bool dd) ∧ w.frozen? ⟨r, 1, none⟩ = false ∧ w.frozen? ⟨r, 2, none⟩ = false := by
  obtain ⟨fv, P, e, h⟩ := h
  exact ⟨h.cells.2.1, h.cells.2.2.1, h.cells.2.2.2 1, h.cells.2.2.2 2⟩

/-- A disk that is not armed. -/
theorem rtake_free (h : Rf B r S L (-1) dd w) : Calls Try.prog 76 #[.pointer (some ⟨r, 0, none⟩)] w fun e w' => e = .returned (.bool true) ∧ w' = w := by
  obtain ⟨c1, c2, z1, z2⟩ := h.cells
  go_enter Try.func76, Try.ntmps76
  go_wp2_with fail
  go_ret
  exact ⟨rfl, rfl⟩
theorem rtake_dies (h : Rf B r S L 0 dd w) : Calls Try.prog 76 #[.pointer (some ⟨r, 0, none⟩)] w fun e w' => e = .returned (.bool false) ∧ Rf B r S L 0 true w' ∧ Chg S w w' := by
  obtain ⟨c1, c2, z1, z2⟩ := h.cells
  have H : Hid _ := h.setDead true
  go_enter Try.func76, Try.ntmps76
  go_wp2_with fail
  go_ret
  exact ⟨rfl, H.out⟩
theorem rtake_one {K : Nat} (hK : K ≤ 9223372036854775806) (h : Rf B r S L ((K + 1 : Nat) : Int) dd w) : Calls Try.prog 76 #[.pointer (some ⟨r, 0, none⟩)] w fun e w' => e = .returned (.bool true) ∧ Rf B r S L (K : Int) dd w' ∧ Chg S w w' := by
  obtain ⟨c1, c2, z1, z2⟩ := h.cells
  have H : Hid _ := h.setLeft (K : Int)
  have hne : (((K + 1 : Nat) : Int) == 0) = false := by rw [beq_eq_false_iff_ne]; omega
  have hgt : decide (0 < ((K + 1 : Nat) : Int)) = true := decide_eq_true (by omega)
  have he : ((K + 1 : Nat) : Int) - 1 = (K : Int) := by omega
  have hr : ((K + 1 : Nat) : Int) ≤ 9223372036854775807 ∧ (0 : Int) < ((K + 1 : Nat) : Int) := by omega
  clear h
  generalize ((K + 1 : Nat) : Int) = J at *
  go_enter Try.func76, Try.ntmps76
  go_wp2_with fail
  go_ret
  exact ⟨rfl, H.out⟩
theorem rarm_any (h : Rf B r S L left dd w) (k : Int) (hk : -9223372036854775808 ≤ k ∧ k ≤ 9223372036854775807) : Calls Try.prog 46 #[.pointer (some ⟨r, 0, none⟩), .int .i64 k] w fun e w' => (∃ v, e = .returned v) ∧ Rf B r S L (max k 0) dd w' ∧ Chg S w w' := by
  obtain ⟨c1, c2, z1, z2⟩ := h.cells
  have H : Hid _ := h.setLeft (max k 0)
  clear h
  by_cases q : k < 0
  · rw [show max k 0 = 0 by omega] at H
    go_enter Try.func46, Try.ntmps46
    go_wp2_with fail
    go_end0
    rw [show max k 0 = 0 by omega]
    exact ⟨⟨_, rfl⟩, H.out⟩
  · rw [show max k 0 = k by omega] at H
    go_enter Try.func46, Try.ntmps46
    go_wp2_with fail
    go_end0
    rw [show max k 0 = k by omega]
    exact ⟨⟨_, rfl⟩, H.out⟩
end
end Go.Proofs.Ytkgpgfpclcibmaa

/- Read of the document's disk. -/
namespace Go.Proofs.Ytkgpgfpclcibmaa
open Go.RowKit
set_option linter.unusedVariables false
set_option maxRecDepth 100000

/-- What the document's own Copy answers. -/
theorem rcopy_any {v : Value} {l : List UInt8} {w : World} (hr : Rd w v l) (hl : l.length ≤ 140737488355328) :
    Calls Try.prog 78 #[v] w fun e w' => ∃ v', e = .returned v' ∧ Ow w.heap.size w' v' l ∧ Below w.heap.size w w' := by
  go_enter Try.func78, Try.ntmps78
  go_wp2_with (first | (at_builtin; refine wpList_app rfl _ _ rfl w.heap.size _ [] rfl (Ow.nil _ _) _ l rfl hr (Nat.le_refl _) (by simpa using hl) ?_; intro v' w' ho' hb' hg') | fail)
  go_ret
  exact ⟨_, rfl, ho', hb'⟩

section
variable {B r : Nat} {S : Nat → Prop} {L : List Fl} {left left' : Int} {dd : Bool} {w : World}

/-- A change that is let through, and what is left then. -/
def Goes (left left' : Int) : Prop := (left = -1 ∧ left' = -1) ∨ (0 ≤ left' ∧ left = left' + 1 ∧ left ≤ 9223372036854775807)
theorem rtake_ok (h : Rf B r S L left dd w) (hg : Goes left left') : Calls Try.prog 76 #[.pointer (some ⟨r, 0, none⟩)] w fun e w' => e = .returned (.bool true) ∧ Rf B r S L left' dd w' ∧ Chg S w w' := by
  rcases hg with ⟨rfl, rfl⟩ | ⟨h0, rfl, h1⟩
  · refine (rtake_free h).mono ?_
    rintro e w' ⟨rfl, rfl⟩
    exact ⟨rfl, h, Chg.refl _ _⟩
  · obtain ⟨K, rfl⟩ := Int.eq_ofNat_of_zero_le h0
    exact rtake_one (by omega) (by simpa using h)

theorem rread_dead (h : Rf B r S L left true w) (s : ByteArray) :
    Calls Try.prog 40 #[.pointer (some ⟨r, 0, none⟩), .string s] w fun e w' => e = .returned (.tuple #[.slice none 0 0, .int .i64 21]) ∧ ∃ q, w' = w.drewN q := by
  obtain ⟨c1, c2, z1, z2⟩ := h.cells
  go_enter Try.func40, Try.ntmps40
  go_wp2_with fail
  refine (rfind_any h s).mono ?_
  rintro e w1 ⟨b, rfl, hb, q1, rfl⟩
  go_wp2_with fail
  go_ret2
  exact ⟨rfl, _, rfl⟩
theorem rread_no (hU : Up L) (h : Rf B r S L left false w) (s : ByteArray) (hs : stOf L s.data.toList = none) :
    Calls Try.prog 40 #[.pointer (some ⟨r, 0, none⟩), .string s] w fun e w' => e = .returned (.tuple #[.slice none 0 0, .int .i64 20]) ∧ ∃ q, w' = w.drewN q := by
  obtain ⟨c1, c2, z1, z2⟩ := h.cells
  go_enter Try.func40, Try.ntmps40
  go_wp2_with fail
  refine (rfind_not hU h s hs rfl).mono ?_
  rintro e w1 ⟨rfl, q1, rfl⟩
  go_wp2_with fail
  go_ret2
  exact ⟨rfl, _, rfl⟩
theorem rread_ok (hU : Up L) (h : Rf B r S L left false w) (s : ByteArray) (f : List UInt8 × Nat) (hs : stOf L s.data.toList = some f) (hl : f.1.length ≤ 16777216) :
    Calls Try.prog 40 #[.pointer (some ⟨r, 0, none⟩), .string s] w fun e w' => ∃ v, e = .returned (.tuple #[v, .int .i64 0]) ∧ Ow w.heap.size w' v f.1 ∧ Below w.heap.size w w' := by
  obtain ⟨c1, c2, z1, z2⟩ := h.cells
  have hfind := rfind_there hU h s hs rfl
  obtain ⟨fv, P, rfl, h⟩ := h
  obtain ⟨g, c, dv, _, hkl, h1, h2, _, c0, g0, g1, g2, gz, hd⟩ := h.there hU hs rfl
  unfold maxLen at h2
  clear h hs hU g0 g2 gz z1 z2
  generalize place (P.map (·.1)) s.data.toList = k at *
  generalize P.length = n at *
  go_enter Try.func40, Try.ntmps40
  go_wp2_with fail
  refine hfind.mono ?_
  rintro e w1 ⟨rfl, q1, rfl⟩
  go_wp2_with fail
  refine (rcopy_any (hd.drewN q1) (by omega)).mono ?_
  rintro e w2 ⟨v2, rfl, ho2, hb2⟩
  go_wp2_with fail
  go_ret2
  exact ⟨_, rfl, ho2, Below.tr (Below.dN w q1) hb2⟩
end
end Go.Proofs.Ytkgpgfpclcibmaa

/- A cell of a file of the document's disk is set; Sync of the document's disk. -/
namespace Go.Proofs.Ytkgpgfpclcibmaa
open Go.RowKit
set_option linter.unusedVariables false
set_option maxRecDepth 100000

theorem ownsRow_set {w : World} {B : Nat} {e : TypeId} {size n g : Nat} {v : Value} {xs : List Value} (h : w.ownsRow B e size v n xs) (hv : v.ownBlock = some g) (j : Nat) (u : Value) : (w.setCell ⟨g, j, none⟩ u).ownsRow B e size v n (xs.set j u) := by
  refine ⟨by rw [List.length_set]; exact h.1, ?_⟩
  rcases h.2 with ⟨q, q0⟩ | ⟨g', cap, cur, q, hB, hg, q1, q2, q3, q4⟩
  · rw [q] at hv; cases hv
  · rw [q] at hv
    obtain rfl : g' = g := Option.some.inj hv
    refine .inr ⟨g', cap, cur.setIfInBounds j u, q, hB, heap_setCell_same _ _ _ _ _ _ hg, q1, q2, by simpa using q3, ?_⟩
    rw [Array.toList_setIfInBounds, List.take_set, q4]

theorem flCs_setK (P : List (Fl × Value)) (k : Nat) (nm : Nm) (d : List UInt8) (n m : Nat) (dv : Value) (e : P[k]? = some ((nm, (d, n)), dv)) : (flCs P).set (k * 3 + 2) (.int .i64 (m : Int)) = flCs (P.set k ((nm, (d, m)), dv)) := by
  induction P generalizing k with
  | nil => simp at e
  | cons y P ih =>
    cases k with
    | zero => simp at e; subst e; simp [flCs_cons, flC]
    | succ k =>
      rw [List.set_cons_succ, flCs_cons, flCs_cons, ← ih k (by simpa using e), List.set_append_right _ _ (by simp [flC]; omega), show (k + 1) * 3 + 2 - (flC y).length = k * 3 + 2 by simp [flC]; omega]
theorem flCs_setD (P : List (Fl × Value)) (k : Nat) (nm : Nm) (d d' : List UInt8) (n : Nat) (dv dv' : Value) (e : P[k]? = some ((nm, (d, n)), dv)) : (flCs P).set (k * 3 + 1) dv' = flCs (P.set k ((nm, (d', n)), dv')) := by
  induction P generalizing k with
  | nil => simp at e
  | cons y P ih =>
    cases k with
    | zero => simp at e; subst e; simp [flCs_cons, flC]
    | succ k =>
      rw [List.set_cons_succ, flCs_cons, flCs_cons, ← ih k (by simpa using e), List.set_append_right _ _ (by simp [flC]; omega), show (k + 1) * 3 + 1 - (flC y).length = k * 3 + 1 by simp [flC]; omega]

section
variable {B r : Nat} {fv : Value} {P : List (Fl × Value)} {S S' : Nat → Prop} {L : List Fl} {left left' : Int} {dd : Bool} {w : World}

theorem RfI.setAt (h : RfI B r fv P S left dd w) {g k : Nat} (hv : fv.ownBlock = some g) (j : Nat) (u : Value) (x : Fl × Value) (hcells : (flCs P).set j u = flCs (P.set k x)) (hS : ∀ b, S b → S' b) (hx : Rd w x.2 x.1.2.1) (hxk : x.1.2.2 ≤ x.1.2.1.length) (hxn : x.1.1.length ≤ 64)
    (hxb : ∀ b, x.2.ownBlock = some b → S' b ∧ b ≠ r ∧ fv.ownBlock ≠ some b) (hlo : ∀ b, S' b → B ≤ b ∧ b < w.heap.size) : RfI B r fv (P.set k x) S' left dd (w.setCell ⟨g, j, none⟩ u) := by
  have hc : Chg (fun b => b = g) w (w.setCell ⟨g, j, none⟩ u) := (Chg.refl (fun b => b = g) w).put g j u rfl
  have hrg : r ≠ g := fun e => h.rf (by rw [hv, e])
  refine ⟨by rw [hc.block r (h.lo r h.sr).2 hrg]; exact h.cell, ?_, fun y hy => ?_, hS _ h.sr, fun b hb => hS b (h.sf b hb), fun y hy b hb => ?_, h.rf, fun b hb => ⟨(hlo b hb).1, by simpa using (hlo b hb).2⟩⟩
  · rw [← hcells, List.length_set]
    exact ownsRow_set h.row hv j u
  · rcases List.mem_or_eq_of_mem_set hy with q | q
    · exact ⟨(h.data y q).1.keptC hc (fun b hb e => (h.sd y q b hb).2.2 (by rw [hv, e])), (h.data y q).2⟩
    · subst q
      exact ⟨hx.keptC hc (fun b hb e => (hxb b hb).2.2 (by rw [hv, e])), hxk, hxn⟩
  · rcases List.mem_or_eq_of_mem_set hy with q | q
    · exact ⟨hS b (h.sd y q b hb).1, (h.sd y q b hb).2⟩
    · subst q
      exact hxb b hb
theorem map_set1 (P : List (Fl × Value)) (k : Nat) (x : Fl × Value) : (P.set k x).map (·.1) = (P.map (·.1)).set k x.1 := by
  rw [List.map_set]

theorem rsync_dead (h : Rf B r S L left true w) (s : ByteArray) :
    Calls Try.prog 39 #[.pointer (some ⟨r, 0, none⟩), .string s] w fun e w' => e = .returned (.int .i64 21) ∧ ∃ q, w' = w.drewN q := by
  obtain ⟨c1, c2, z1, z2⟩ := h.cells
  go_enter Try.func39, Try.ntmps39
  go_wp2_with fail
  refine (rfind_any h s).mono ?_
  rintro e w1 ⟨b, rfl, hb, q1, rfl⟩
  go_wp2_with fail
  go_ret
  exact ⟨rfl, _, rfl⟩
theorem rsync_no (hU : Up L) (h : Rf B r S L left false w) (s : ByteArray) (hs : stOf L s.data.toList = none) :
    Calls Try.prog 39 #[.pointer (some ⟨r, 0, none⟩), .string s] w fun e w' => e = .returned (.int .i64 20) ∧ ∃ q, w' = w.drewN q := by
  obtain ⟨c1, c2, z1, z2⟩ := h.cells
  go_enter Try.func39, Try.ntmps39
  go_wp2_with fail
  refine (rfind_not hU h s hs rfl).mono ?_
  rintro e w1 ⟨rfl, q1, rfl⟩
  go_wp2_with fail
  go_ret
  exact ⟨rfl, _, rfl⟩
theorem rsync_dies (hU : Up L) (h : Rf B r S L 0 false w) (s : ByteArray) {f : List UInt8 × Nat} (hs : stOf L s.data.toList = some f) :
    Calls Try.prog 39 #[.pointer (some ⟨r, 0, none⟩), .string s] w fun e w' => e = .returned (.int .i64 21) ∧ Rf B r S L 0 true w' ∧ Chg S w w' := by
  obtain ⟨c1, c2, z1, z2⟩ := h.cells
  go_enter Try.func39, Try.ntmps39
  go_wp2_with fail
  refine (rfind_there hU h s hs rfl).mono ?_
  rintro e w1 ⟨rfl, q1, rfl⟩
  go_wp2_with fail
  refine (rtake_dies (h.drN q1)).mono ?_
  rintro e w2 ⟨rfl, h2, hc2⟩
  go_wp2_with fail
  go_ret
  exact ⟨rfl, h2, (Chg.refl S w |>.dN q1).trans (hc2.mono (fun b _ q => .inl q))⟩
theorem rsync_ok (hU : Up L) (h : Rf B r S L left false w) (hg : Goes left left') (s : ByteArray) {f : List UInt8 × Nat} (hs : stOf L s.data.toList = some f) (hl : f.1.length ≤ 16777216) :
    Calls Try.prog 39 #[.pointer (some ⟨r, 0, none⟩), .string s] w fun e w' => e = .returned (.int .i64 0) ∧ Rf B r S (L.set (place L s.data.toList) (s.data.toList, (f.1, f.1.length))) left' false w' ∧ Chg S w w' := by
  obtain ⟨c1, c2, z1, z2⟩ := h.cells
  go_enter Try.func39, Try.ntmps39
  go_wp2_with fail
  refine (rfind_there hU h s hs rfl).mono ?_
  rintro e w1 ⟨rfl, q1, rfl⟩
  go_wp2_with fail
  refine (rtake_ok (h.drN q1) hg).mono ?_
  rintro e w2 ⟨rfl, h2, hc2⟩
  have hc02 : Chg S w w2 := (Chg.refl S w |>.dN q1).trans (hc2.mono (fun b _ q => .inl q))
  clear hc2 h c1 c2 z1 z2
  obtain ⟨fv, P, rfl, h⟩ := h2
  obtain ⟨g, c, dv, rfl, hkl, h1, h2, hP, c0, g0, g1, g2, gz, hd⟩ := h.there hU hs rfl
  have gz2 := gz (place (P.map (·.1)) s.data.toList * 3 + 2)
  obtain ⟨d, n0⟩ := f
  have hn64 := (h.data _ (List.mem_of_getElem? hP)).2.2
  have hsd := h.sd _ (List.mem_of_getElem? hP)
  simp only [] at hn64 hsd
  have hfin : RfI B r _ (P.set (place (P.map (·.1)) s.data.toList) ((s.data.toList, (d, d.length)), dv)) S left' false _ := h.setAt (S' := S) (k := place (P.map (·.1)) s.data.toList) rfl (place (P.map (·.1)) s.data.toList * 3 + 2) (.int .i64 (d.length : Int)) ((s.data.toList, (d, d.length)), dv) (flCs_setK P _ _ _ _ _ _ hP) (fun _ => id) hd (Nat.le_refl _) hn64 hsd h.lo
  have hchg : Chg S w2 (w2.setCell ⟨g, place (P.map (·.1)) s.data.toList * 3 + 2, none⟩ (.int .i64 (d.length : Int))) := (Chg.refl S w2).put g _ _ (h.sf g rfl)
  have H : Hid _ := And.intro hfin hchg
  have HM := map_set1 P (place (P.map (·.1)) s.data.toList) ((s.data.toList, (d, d.length)), dv)
  clear hfin hchg h hP g0 gz hs hU
  obtain ⟨ad, cd, rfl, d1, d2, _⟩ := hd
  unfold maxLen at h2 d2
  simp only [] at hl g1 g2 H HM
  generalize hkk : place (P.map (·.1)) s.data.toList = k at *
  generalize P.length = n at *
  have HM : Hid _ := And.intro HM hkk
  clear hkk
  go_wp2_with fail
  go_region
  all_goals go_wp2_with fail
  all_goals go_ret
  all_goals
    rw [HM.out.2]
    exact ⟨rfl, ⟨_, _, HM.out.1, H.out.1.drN 1⟩, (hc02.trans (H.out.2.mono (fun b _ q => .inl q))).dN 1⟩
end
end Go.Proofs.Ytkgpgfpclcibmaa
