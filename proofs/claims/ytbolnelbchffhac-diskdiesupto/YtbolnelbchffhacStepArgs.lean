/- How a list of steps that came in is read: cell by cell. -/
import Derived.Test.YtbolnelbchffhacOpenB
import Derived.Test.YtbolnelbchffhacDkAwake
import Derived.JoinedCond
import Derived.SliceStrings
namespace Go.Proofs.Ytbolnelbchffhac
open Go.ChangeShapes Go.WideShapes Go.ChangeAt Go.RowKit
set_option linter.unusedVariables false
set_option maxRecDepth 100000

/-- A step, as its six cells say it. -/
structure SV where
  act : Int
  num : Int
  nm : ByteArray
  to : ByteArray
  data : List UInt8
  ad : Option Addr
  cd : Nat
  ak : Option Addr
  lk : Nat
  ck : Nat

structure StepAt (w : World) (a : Addr) (x : SV) : Prop where
  c0 : w.cell? (a.add 0) = some (.int .i64 x.act)
  c1 : w.cell? (a.add 1) = some (.int .i64 x.num)
  c2 : w.cell? (a.add 2) = some (.string x.nm)
  c3 : w.cell? (a.add 3) = some (.string x.to)
  c4 : w.cell? (a.add 4) = some (.slice x.ad x.data.length x.cd)
  c5 : w.cell? (a.add 5) = some (.slice x.ak x.lk x.ck)
  rd : Rd w (.slice x.ad x.data.length x.cd) x.data
  l2 : x.nm.size ≤ maxLen
  l3 : x.to.size ≤ maxLen

def Steps (w : World) (v : Value) (xs : List SV) : Prop :=
  ∃ ao c, v = .slice ao xs.length c ∧ xs.length ≤ c ∧ c ≤ maxLen ∧ ∀ i, (h : i < xs.length) → ∃ a, ao = some a ∧ StepAt w (a.add (i * 6)) xs[i]

theorem bulk_pos {H : Type} (d : DataW H) : 1 ≤ Rows.uptoBulk d := by
  cases d with
  | lit x => cases x <;> simp [Rows.uptoBulk]
  | nil => simp [Rows.uptoBulk]
  | ptr d => simp [Rows.uptoBulk]
  | slice a b => simp [Rows.uptoBulk]
  | agg a => simp [Rows.uptoBulk]
  | iface t d => simp [Rows.uptoBulk]
  | map a => simp [Rows.uptoBulk]
  | held h => simp [Rows.uptoBulk]
theorem bulk_ge {H : Type} (ds : List (DataW H)) : ds.length ≤ Rows.uptoBulkAll ds := by
  induction ds with
  | nil => simp [Rows.uptoBulkAll]
  | cons d ds ih =>
    have := bulk_pos d
    simp only [Rows.uptoBulkAll, List.length_cons]
    omega
theorem bulk_mem {H : Type} (ds : List (DataW H)) (d : DataW H) (h : d ∈ ds) : Rows.uptoBulk d ≤ Rows.uptoBulkAll ds := by
  induction ds with
  | nil => cases h
  | cons x r ih =>
    rcases List.mem_cons.1 h with rfl | h
    · simp only [Rows.uptoBulkAll]; omega
    · have := ih h; simp only [Rows.uptoBulkAll]; omega

theorem open_bytes_cs {H : Type} {enc : TypeId × Value → H} {W : World} {fuel : Nat} {cs : List Value} {x : DataW H × List MemPlace} (hf : DataW.trod enc Try.prog W 0 (fun _ => true) true fuel 29 cs = some x) :
    ∃ a l c, cs = [.slice a l.length c] ∧ Rd W (.slice a l.length c) l ∧ l.length + 1 ≤ Rows.uptoBulk x.1 := by
  rcases open_ints Try.underlying29 Try.underlying5 (by kernel_rfl) hf with ⟨hcs, hx⟩ | ⟨a, len, cap, zs, hcs, _, hl, hm, hz, hd, hcell, hwz⟩
  · subst hx
    exact ⟨none, [], 0, hcs, Rd.nil _, by simp [Rows.uptoBulk]⟩
  · have hz' : zs.length = cap := by simpa using hz
    have hlen : ((zs.take len).map (fun z => UInt8.ofNat z.toNat)).length = len := by simp; omega
    refine ⟨some a, (zs.take len).map (fun z => UInt8.ofNat z.toNat), cap, by rw [hlen]; exact hcs, Rd.mk rfl (by omega) hm (fun i hi => ?_), ?_⟩
    · have hi' : i < zs.length := by omega
      rw [hcell i hi']
      have hw := hwz (zs[i]) (List.getElem_mem hi')
      have hx : 0 ≤ zs[i] ∧ zs[i] ≤ 255 := by simpa [Lit.wf, IntKind.min, IntKind.max, IntKind.signed, IntKind.bits] using hw
      have e : zs.getD i 0 = zs[i] := by simp [hi']
      rw [e]
      simp only [List.getElem_map, List.getElem_take]
      rw [M.u8_ofNat]
      congr 2
      omega
    · rw [hlen, hd]
      have := bulk_ge (H := H) (lits .u8 (zs.take len))
      simp only [Rows.uptoBulk]
      simp only [lits, List.length_map, List.length_take] at this
      simp only [lits]
      omega

theorem open_step {H : Type} {enc : TypeId × Value → H} {W : World} {fuel : Nat} {a : Addr} {x : DataW H × List MemPlace}
    (hf : (W.cells? 0 a 6).bind (DataW.trod enc Try.prog W 0 (fun _ => true) true fuel 32) = some x) : ∃ s : SV, StepAt W a s ∧ s.data.length + 1 ≤ Rows.uptoBulk x.1 := by
  rw [Option.bind_eq_some_iff] at hf
  obtain ⟨cs, hcs, ht⟩ := hf
  obtain ⟨_, hlen, hcell⟩ := World.cells?_some hcs
  obtain ⟨xs, n, _, rfl, hl, hxl, hfs⟩ := DataW.trod_struct Try.underlying32 ht
  have k3 : Try.prog.cellsOf 3 = 1 := by kernel_rfl
  have k9 : Try.prog.cellsOf 9 = 1 := by kernel_rfl
  have k29 : Try.prog.cellsOf 29 = 1 := by kernel_rfl
  have k30 : Try.prog.cellsOf 30 = 1 := by kernel_rfl
  match cs, hlen with
  | [v0, v1, v2, v3, v4, v5], _ =>
    match xs, hxl with
    | [y0, y1, y2, y3, y4, y5], _ =>
      have f0 : DataW.trod enc Try.prog W 0 (fun _ => true) true n 3 (List.take (Try.prog.cellsOf 3) (List.drop 0 [v0, v1, v2, v3, v4, v5])) = some y0 := hfs 0 _ rfl
      have f1 : DataW.trod enc Try.prog W 0 (fun _ => true) true n 3 (List.take (Try.prog.cellsOf 3) (List.drop 1 [v0, v1, v2, v3, v4, v5])) = some y1 := hfs 1 _ rfl
      have f2 : DataW.trod enc Try.prog W 0 (fun _ => true) true n 9 (List.take (Try.prog.cellsOf 9) (List.drop 2 [v0, v1, v2, v3, v4, v5])) = some y2 := hfs 2 _ rfl
      have f3 : DataW.trod enc Try.prog W 0 (fun _ => true) true n 9 (List.take (Try.prog.cellsOf 9) (List.drop 3 [v0, v1, v2, v3, v4, v5])) = some y3 := hfs 3 _ rfl
      have f4 : DataW.trod enc Try.prog W 0 (fun _ => true) true n 29 (List.take (Try.prog.cellsOf 29) (List.drop 4 [v0, v1, v2, v3, v4, v5])) = some y4 := hfs 4 _ rfl
      have f5 : DataW.trod enc Try.prog W 0 (fun _ => true) true n 30 (List.take (Try.prog.cellsOf 30) (List.drop 5 [v0, v1, v2, v3, v4, v5])) = some y5 := hfs 5 _ rfl
      rw [k3] at f0
      replace f0 : DataW.trod enc Try.prog W 0 (fun _ => true) true n 3 [v0] = some y0 := f0
      rw [k3] at f1
      replace f1 : DataW.trod enc Try.prog W 0 (fun _ => true) true n 3 [v1] = some y1 := f1
      rw [k9] at f2
      replace f2 : DataW.trod enc Try.prog W 0 (fun _ => true) true n 9 [v2] = some y2 := f2
      rw [k9] at f3
      replace f3 : DataW.trod enc Try.prog W 0 (fun _ => true) true n 9 [v3] = some y3 := f3
      rw [k29] at f4
      replace f4 : DataW.trod enc Try.prog W 0 (fun _ => true) true n 29 [v4] = some y4 := f4
      rw [k30] at f5
      replace f5 : DataW.trod enc Try.prog W 0 (fun _ => true) true n 30 [v5] = some y5 := f5
      obtain ⟨n0, e0, _, _⟩ := DataW.trod_int Try.underlying3 f0
      obtain ⟨n1, e1, _, _⟩ := DataW.trod_int Try.underlying3 f1
      obtain ⟨s2, e2, _, l2⟩ := DataW.trod_string Try.underlying9 f2
      obtain ⟨s3, e3, _, l3⟩ := DataW.trod_string Try.underlying9 f3
      obtain ⟨a4, l4, c4, e4, r4, b4⟩ := open_bytes_cs f4
      have h5 : ∃ a l c, v5 = .slice a l c := by
        rcases open_ints Try.underlying30 Try.underlying3 (by kernel_rfl) f5 with ⟨q, _⟩ | ⟨a, len, cap, zs, q, _⟩
        · simp only [List.cons.injEq, and_true] at q; exact ⟨_, _, _, q⟩
        · simp only [List.cons.injEq, and_true] at q; exact ⟨_, _, _, q⟩
      obtain ⟨a5, l5, c5, e5⟩ := h5
      simp only [List.cons.injEq, and_true] at e0 e1 e2 e3 e4
      have q0 := hcell 0 (by omega)
      have q1 := hcell 1 (by omega)
      have q2 := hcell 2 (by omega)
      have q3 := hcell 3 (by omega)
      have q4 := hcell 4 (by omega)
      have q5 := hcell 5 (by omega)
      simp only [List.getElem?_cons_zero, List.getElem?_cons_succ] at q0 q1 q2 q3 q4 q5
      refine ⟨⟨n0, n1, s2, s3, l4, a4, c4, a5, l5, c5⟩, ⟨by rw [q0, e0], by rw [q1, e1], by rw [q2, e2], by rw [q3, e3], by rw [q4, e4], by rw [q5, e5], r4, l2, l3⟩, ?_⟩
      have := bulk_mem (H := H) [y0.1, y1.1, y2.1, y3.1, y4.1, y5.1] y4.1 (by simp)
      simp only [List.map_cons, List.map_nil, Rows.uptoBulk]
      omega

/-- A list of steps that came in. -/
theorem open_steps {H : Type} {enc : TypeId × Value → H} {W : World} {a0 : Option Addr} {len cap : Nat} {d : DataW H} {p : List MemPlace} (h : DataW.Trod enc Try.prog W 0 (fun _ => true) true 22 (.slice a0 len cap) d p) :
    ∃ xs : List SV, Steps W (.slice a0 len cap) xs ∧ xs.length ≤ Rows.uptoBulk d ∧ ∀ x ∈ xs, x.data.length ≤ Rows.uptoBulk d := by
  obtain ⟨fuel, hf⟩ := h
  have hc6 : Try.prog.cellsOf 32 = 6 := by kernel_rfl
  rcases DataW.trod_slice Try.underlying22 hf with ⟨hcs, hx⟩ | ⟨a, len', cap', elems, rest, n, _, hcs, hx, _, hl, hm, hlen, hel, _, _⟩
  · simp [Value.cells] at hcs
    obtain ⟨rfl, rfl, rfl⟩ := hcs
    exact ⟨[], ⟨none, 0, rfl, by simp, by simp, fun i hi => by simp at hi⟩, by simp, by simp⟩
  · simp [Value.cells] at hcs
    obtain ⟨rfl, rfl, rfl⟩ := hcs
    have hd : d = .slice (elems.map (·.1)) (rest.map (·.1)) := congrArg Prod.fst hx
    have each : ∀ i, i < len → ∃ s : SV, StepAt W (a.add (i * 6)) s ∧ s.data.length ≤ Rows.uptoBulk d := by
      intro i hi
      have h1 := hel i hi
      rw [hc6, List.getElem?_eq_getElem (by omega)] at h1
      obtain ⟨s, hs, hb⟩ := open_step h1
      refine ⟨s, hs, ?_⟩
      have := bulk_mem (elems.map (·.1)) elems[i].1 (List.mem_map_of_mem (List.getElem_mem (by omega)))
      rw [hd]
      simp only [Rows.uptoBulk]
      omega
    have hall : ∃ g : Nat → SV, ∀ i, i < len → StepAt W (a.add (i * 6)) (g i) ∧ (g i).data.length ≤ Rows.uptoBulk d := by
      refine ⟨fun i => if h : i < len then Classical.choose (each i h) else ⟨0, 0, ⟨#[]⟩, ⟨#[]⟩, [], none, 0, none, 0, 0⟩, fun i hi => ?_⟩
      simp only [dif_pos hi]
      exact Classical.choose_spec (each i hi)
    obtain ⟨g, hg⟩ := hall
    have hgl : ((List.range len).map g).length = len := by simp
    refine ⟨(List.range len).map g, ⟨some a, cap, by rw [hgl], by omega, hm, fun i hi => ⟨a, rfl, ?_⟩⟩, ?_, fun x hx' => ?_⟩
    · have hi' : i < len := by omega
      simpa using (hg i hi').1
    · rw [hgl, hd]
      have := bulk_ge (elems.map (·.1))
      rw [List.length_map] at this
      simp only [Rows.uptoBulk]
      omega
    · obtain ⟨i, hi, rfl⟩ := List.mem_map.1 hx'
      exact (hg i (by simpa using hi)).2
end Go.Proofs.Ytbolnelbchffhac
