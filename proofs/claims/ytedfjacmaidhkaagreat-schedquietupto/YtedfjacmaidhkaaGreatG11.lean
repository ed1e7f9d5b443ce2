/- How a policy, a list of views of stores and a list of views of regions that came in are read. -/
import Derived.Test.YtedfjacmaidhkaaGreatG10
import Derived.Test.YtedfjacmaidhkaaGreatG5
namespace Go.Proofs.YtedfjacmaidhkaaGreat
open Go.ChangeShapes Go.WideShapes Go.ChangeAt Go.RowKit
set_option linter.unusedVariables false
set_option maxRecDepth 100000

theorem bulk_memS {H : Type} (ds : List (DataW H)) (d : DataW H) (h : d ∈ ds) : Rows.uptoBulk d ≤ Rows.uptoBulkAll ds := by
  induction ds with
  | nil => cases h
  | cons x r ih =>
    rcases List.mem_cons.1 h with rfl | h
    · simp only [Rows.uptoBulkAll]; omega
    · have := ih h; simp only [Rows.uptoBulkAll]; omega
theorem i64_wf {z : Int} (w : (Lit.int .i64 z).wf) : -9223372036854775808 ≤ z ∧ z ≤ 9223372036854775807 := by simpa [Lit.wf, IntKind.min, IntKind.max, IntKind.signed, IntKind.bits] using w
theorem open_policy {H : Type} {enc : TypeId × Value → H} {W : World} {xs : Array Value} {d : DataW H} {p : List MemPlace} (h : DataW.Trod enc Tryz.prog W 0 (fun _ => true) true 23 (.agg xs) d p) :
    ∃ a b c : Int, xs = #[.int .i64 a, .int .i64 b, .int .i64 c] ∧ i64 a ∧ i64 b ∧ i64 c := by
  obtain ⟨fuel, ht⟩ := h
  obtain ⟨ys, n, _, hx, hl, hxl, hfs⟩ := DataW.trod_struct Tryz.underlying23 ht
  have ki : Tryz.prog.cellsOf 3 = 1 := by kernel_rfl
  have hcz : Tryz.prog.cellsOf 23 = 3 := by kernel_rfl
  rw [hcz] at hl
  obtain ⟨xs⟩ := xs
  have hc : (Value.agg ⟨xs⟩).cells.toList = xs := rfl
  rw [hc] at hl hfs
  obtain ⟨v0, v1, v2, rfl⟩ : ∃ a b c, xs = [a, b, c] := by
    match xs, hl with
    | [a, b, c], _ => exact ⟨a, b, c, rfl⟩
  obtain ⟨y0, y1, y2, rfl⟩ : ∃ a b c, ys = [a, b, c] := by
    have hxl' : ys.length = 3 := hxl
    match ys, hxl' with
    | [a, b, c], _ => exact ⟨a, b, c, rfl⟩
  have f0 : DataW.trod enc Tryz.prog W 0 (fun _ => true) true n 3 (List.take (Tryz.prog.cellsOf 3) (List.drop 0 [v0, v1, v2])) = some y0 := hfs 0 _ rfl
  have f1 : DataW.trod enc Tryz.prog W 0 (fun _ => true) true n 3 (List.take (Tryz.prog.cellsOf 3) (List.drop 1 [v0, v1, v2])) = some y1 := hfs 1 _ rfl
  have f2 : DataW.trod enc Tryz.prog W 0 (fun _ => true) true n 3 (List.take (Tryz.prog.cellsOf 3) (List.drop 2 [v0, v1, v2])) = some y2 := hfs 2 _ rfl
  rw [ki] at f0 f1 f2
  replace f0 : DataW.trod enc Tryz.prog W 0 (fun _ => true) true n 3 [v0] = some y0 := f0
  replace f1 : DataW.trod enc Tryz.prog W 0 (fun _ => true) true n 3 [v1] = some y1 := f1
  replace f2 : DataW.trod enc Tryz.prog W 0 (fun _ => true) true n 3 [v2] = some y2 := f2
  obtain ⟨z0, e0, _, w0⟩ := DataW.trod_int Tryz.underlying3 f0
  obtain ⟨z1, e1, _, w1⟩ := DataW.trod_int Tryz.underlying3 f1
  obtain ⟨z2, e2, _, w2⟩ := DataW.trod_int Tryz.underlying3 f2
  simp only [List.cons.injEq, and_true] at e0 e1 e2
  subst e0; subst e1; subst e2
  exact ⟨z0, z1, z2, rfl, i64_wf w0, i64_wf w1, i64_wf w2⟩
theorem open_sw {H : Type} {enc : TypeId × Value → H} {W : World} {fuel : Nat} {a : Addr} {x : DataW H × List MemPlace}
    (hf : (W.cells? 0 a 2).bind (DataW.trod enc Tryz.prog W 0 (fun _ => true) true fuel 48) = some x) : ∃ p : Sw, W.cell? a = some (.int .i64 p.1) ∧ W.cell? ⟨a.block, a.off + 1, none⟩ = some (.bool p.2) ∧ i64 p.1 := by
  rw [Option.bind_eq_some_iff] at hf
  obtain ⟨cs, hcs, ht⟩ := hf
  obtain ⟨_, hlen, hcell⟩ := World.cells?_some hcs
  obtain ⟨xs, n, _, rfl, hl, hxl, hfs⟩ := DataW.trod_struct Tryz.underlying48 ht
  have ki : Tryz.prog.cellsOf 3 = 1 := by kernel_rfl
  have kb : Tryz.prog.cellsOf 4 = 1 := by kernel_rfl
  match cs, hlen with
  | [v0, v1], _ =>
    match xs, hxl with
    | [y0, y1], _ =>
      have f0 : DataW.trod enc Tryz.prog W 0 (fun _ => true) true n 3 (List.take (Tryz.prog.cellsOf 3) (List.drop 0 [v0, v1])) = some y0 := hfs 0 _ rfl
      have f1 : DataW.trod enc Tryz.prog W 0 (fun _ => true) true n 4 (List.take (Tryz.prog.cellsOf 4) (List.drop 1 [v0, v1])) = some y1 := hfs 1 _ rfl
      rw [ki] at f0
      rw [kb] at f1
      replace f0 : DataW.trod enc Tryz.prog W 0 (fun _ => true) true n 3 [v0] = some y0 := f0
      replace f1 : DataW.trod enc Tryz.prog W 0 (fun _ => true) true n 4 [v1] = some y1 := f1
      obtain ⟨z0, e0, _, w0⟩ := DataW.trod_int Tryz.underlying3 f0
      obtain ⟨z1, e1, _⟩ := DataW.trod_bool Tryz.underlying4 f1
      simp only [List.cons.injEq, and_true] at e0 e1
      have q0 := hcell 0 (by omega)
      have q1 := hcell 1 (by omega)
      simp only [List.getElem?_cons_zero, List.getElem?_cons_succ] at q0 q1
      exact ⟨(z0, z1), by rw [← e0]; exact q0, by rw [← e1]; exact q1, i64_wf w0⟩
/-- A list of views of stores that came in. -/
theorem open_sws {H : Type} {enc : TypeId × Value → H} {W : World} {a0 : Option Addr} {len cap : Nat} {d : DataW H} {p : List MemPlace} (h : DataW.Trod enc Tryz.prog W 0 (fun _ => true) true 24 (.slice a0 len cap) d p) :
    ∃ xs : List Sw, RdSw W (.slice a0 len cap) xs ∧ (∀ x ∈ xs, i64 x.1) ∧ xs.length ≤ Rows.uptoBulk d := by
  obtain ⟨fuel, hf⟩ := h
  have hc2 : Tryz.prog.cellsOf 48 = 2 := by kernel_rfl
  rcases DataW.trod_slice Tryz.underlying24 hf with ⟨hcs, hx⟩ | ⟨a, len', cap', elems, rest, n, _, hcs, hx, _, hl, hm, hlen, hel, _, _⟩
  · simp [Value.cells] at hcs
    obtain ⟨rfl, rfl, rfl⟩ := hcs
    exact ⟨[], RdSw.nil _, by simp, by simp⟩
  · simp [Value.cells] at hcs
    obtain ⟨rfl, rfl, rfl⟩ := hcs
    have hd : d = .slice (elems.map (·.1)) (rest.map (·.1)) := congrArg Prod.fst hx
    have each : ∀ i, i < len → ∃ p : Sw, W.cell? (a.add (i * 2)) = some (.int .i64 p.1) ∧ W.cell? ⟨(a.add (i * 2)).block, (a.add (i * 2)).off + 1, none⟩ = some (.bool p.2) ∧ i64 p.1 := by
      intro i hi
      have h1 := hel i hi
      rw [hc2, List.getElem?_eq_getElem (by omega)] at h1
      exact open_sw h1
    obtain ⟨g, hg⟩ : ∃ g : Nat → Sw, ∀ i, i < len → W.cell? (a.add (i * 2)) = some (.int .i64 (g i).1) ∧ W.cell? ⟨(a.add (i * 2)).block, (a.add (i * 2)).off + 1, none⟩ = some (.bool (g i).2) ∧ i64 (g i).1 := by
      refine ⟨fun i => if h : i < len then Classical.choose (each i h) else (0, false), fun i hi => ?_⟩
      simp only [dif_pos hi]
      exact Classical.choose_spec (each i hi)
    have hgl : ((List.range len).map g).length = len := by simp
    refine ⟨(List.range len).map g, ⟨some a, cap, by rw [hgl], by omega, by unfold maxLen at hm; omega, fun i q hq => ?_⟩, fun q hq => ?_, ?_⟩
    · have hi : i < len := by have := (List.getElem?_eq_some_iff.1 hq).1; omega
      have e3 : ((List.range len).map g)[i]? = some (g i) := by simp [hi]
      rw [e3] at hq
      obtain rfl := Option.some.inj hq
      exact ⟨a, rfl, (hg i hi).1, (hg i hi).2.1⟩
    · obtain ⟨i, hi, rfl⟩ := List.mem_map.1 hq
      exact (hg i (List.mem_range.1 hi)).2.2
    · rw [hgl, hd]
      have := bulk_ge (H := H) (elems.map (·.1))
      rw [List.length_map] at this
      simp only [Rows.uptoBulk]
      omega
def rvOk (r : RV) : Prop := (∀ q ∈ r.ps, i64 q.2.1) ∧ i64 r.ld ∧ i64 r.sz
theorem open_rv {H : Type} {enc : TypeId × Value → H} {W : World} {fuel : Nat} {a : Addr} {x : DataW H × List MemPlace}
    (hf : (W.cells? 0 a 9).bind (DataW.trod enc Tryz.prog W 0 (fun _ => true) true fuel 42) = some x) : ∃ r : RV, At9 W a r ∧ It9 W r ∧ rvOk r ∧ r.ps.length + 1 ≤ Rows.uptoBulk x.1 := by
  rw [Option.bind_eq_some_iff] at hf
  obtain ⟨cs, hcs, ht⟩ := hf
  obtain ⟨_, hlen, hcell⟩ := World.cells?_some hcs
  obtain ⟨xs, n, _, rfl, hl, hxl, hfs⟩ := DataW.trod_struct Tryz.underlying42 ht
  have ki : Tryz.prog.cellsOf 3 = 1 := by kernel_rfl
  have kb : Tryz.prog.cellsOf 4 = 1 := by kernel_rfl
  have kr : Tryz.prog.cellsOf 40 = 6 := by kernel_rfl
  match cs, hlen with
  | [v0, v1, v2, v3, v4, v5, v6, v7, v8], _ =>
    match xs, hxl with
    | [y0, y1, y2, y3], _ =>
      have f0 : DataW.trod enc Tryz.prog W 0 (fun _ => true) true n 40 (List.take (Tryz.prog.cellsOf 40) (List.drop 0 [v0, v1, v2, v3, v4, v5, v6, v7, v8])) = some y0 := hfs 0 _ rfl
      have f1 : DataW.trod enc Tryz.prog W 0 (fun _ => true) true n 3 (List.take (Tryz.prog.cellsOf 3) (List.drop 6 [v0, v1, v2, v3, v4, v5, v6, v7, v8])) = some y1 := hfs 1 _ rfl
      have f2 : DataW.trod enc Tryz.prog W 0 (fun _ => true) true n 3 (List.take (Tryz.prog.cellsOf 3) (List.drop 7 [v0, v1, v2, v3, v4, v5, v6, v7, v8])) = some y2 := hfs 2 _ rfl
      have f3 : DataW.trod enc Tryz.prog W 0 (fun _ => true) true n 4 (List.take (Tryz.prog.cellsOf 4) (List.drop 8 [v0, v1, v2, v3, v4, v5, v6, v7, v8])) = some y3 := hfs 3 _ rfl
      rw [kr] at f0
      rw [ki] at f1 f2
      rw [kb] at f3
      replace f0 : DataW.trod enc Tryz.prog W 0 (fun _ => true) true n 40 [v0, v1, v2, v3, v4, v5] = some y0 := f0
      replace f1 : DataW.trod enc Tryz.prog W 0 (fun _ => true) true n 3 [v6] = some y1 := f1
      replace f2 : DataW.trod enc Tryz.prog W 0 (fun _ => true) true n 3 [v7] = some y2 := f2
      replace f3 : DataW.trod enc Tryz.prog W 0 (fun _ => true) true n 4 [v8] = some y3 := f3
      obtain ⟨id, cf, vr, sv, ev, pv, s, e, ps, hxs, hs, he, hp, hb, hm⟩ := open_regionU (xs := #[v0, v1, v2, v3, v4, v5]) (d := y0.1) (p := y0.2) ⟨n, f0⟩
      simp only [Array.mk.injEq, List.cons.injEq, and_true] at hxs
      obtain ⟨rfl, rfl, rfl, rfl, rfl, rfl⟩ := hxs
      obtain ⟨z1, e1, _, w1⟩ := DataW.trod_int Tryz.underlying3 f1
      obtain ⟨z2, e2, _, w2⟩ := DataW.trod_int Tryz.underlying3 f2
      obtain ⟨z3, e3, _⟩ := DataW.trod_bool Tryz.underlying4 f3
      simp only [List.cons.injEq, and_true] at e1 e2 e3
      obtain ⟨sa, sc, rfl⟩ := hs.shp
      obtain ⟨ea, ec, rfl⟩ := he.shp
      obtain ⟨pa, pk, rfl, _⟩ := hp.shape
      subst e1; subst e2; subst e3
      refine ⟨⟨id, sa, sc, ea, ec, cf.toNat, vr.toNat, pa, pk, z1, z2, z3, s, e, ps⟩, fun j u hu => ?_, ⟨hs, he, hp⟩, ⟨hb, i64_wf w1, i64_wf w2⟩, ?_⟩
      · have hj : j < 9 := (Array.getElem?_eq_some_iff.1 hu).1
        have q := hcell j hj
        match j, hj with
        | 0, _ => rw [if_pos rfl]; exact q.trans hu
        | 1, _ => exact q.trans hu
        | 2, _ => exact q.trans hu
        | 3, _ => exact q.trans hu
        | 4, _ => exact q.trans hu
        | 5, _ => exact q.trans hu
        | 6, _ => exact q.trans hu
        | 7, _ => exact q.trans hu
        | 8, _ => exact q.trans hu
      · have := bulk_memS (H := H) [y0.1, y1.1, y2.1, y3.1] y0.1 (by simp)
        simp only [List.map_cons, List.map_nil, Rows.uptoBulk]
        omega
theorem bulk_sum {H : Type} {α : Type} (f : α → Nat) : ∀ (ds : List (DataW H)) (xs : List α), xs.length = ds.length → (∀ i (h : i < ds.length) (h2 : i < xs.length), f xs[i] + 1 ≤ Rows.uptoBulk ds[i]) → (xs.map f).sum + xs.length ≤ Rows.uptoBulkAll ds
  | [], [], _, _ => by simp
  | d :: ds, x :: xs, hl, h => by
    have h0 := h 0 (by simp) (by simp)
    have h1 := bulk_sum f ds xs (by simpa using hl) (fun i h2 h3 => h (i + 1) (by simp; omega) (by simp; omega))
    simp only [List.map_cons, List.sum_cons, List.length_cons, Rows.uptoBulkAll]
    simp only [List.getElem_cons_zero] at h0
    omega
/-- A list of views of regions that came in. -/
theorem open_rvs {H : Type} {enc : TypeId × Value → H} {W : World} {a0 : Option Addr} {len cap : Nat} {d : DataW H} {p : List MemPlace} (h : DataW.Trod enc Tryz.prog W 0 (fun _ => true) true 25 (.slice a0 len cap) d p) :
    ∃ xs : List RV, RdRv W (.slice a0 len cap) xs ∧ (∀ x ∈ xs, rvOk x) ∧ (xs.map (fun r => r.ps.length)).sum + xs.length ≤ Rows.uptoBulk d := by
  obtain ⟨fuel, hf⟩ := h
  have hc9 : Tryz.prog.cellsOf 42 = 9 := by kernel_rfl
  rcases DataW.trod_slice Tryz.underlying25 hf with ⟨hcs, hx⟩ | ⟨a, len', cap', elems, rest, n, _, hcs, hx, _, hl, hm, hlen, hel, _, _⟩
  · simp [Value.cells] at hcs
    obtain ⟨rfl, rfl, rfl⟩ := hcs
    exact ⟨[], ⟨none, 0, rfl, Nat.le_refl _, by omega, fun i r h => by simp at h⟩, by simp, by simp⟩
  · simp [Value.cells] at hcs
    obtain ⟨rfl, rfl, rfl⟩ := hcs
    have hd : d = .slice (elems.map (·.1)) (rest.map (·.1)) := congrArg Prod.fst hx
    have each : ∀ i, (hi : i < len) → ∃ r : RV, At9 W (a.add (i * 9)) r ∧ It9 W r ∧ rvOk r ∧ r.ps.length + 1 ≤ Rows.uptoBulk (elems[i]'(by omega)).1 := by
      intro i hi
      have h1 := hel i hi
      rw [hc9, List.getElem?_eq_getElem (by omega)] at h1
      exact open_rv h1
    obtain ⟨g, hg⟩ : ∃ g : Nat → RV, ∀ i, (hi : i < len) → At9 W (a.add (i * 9)) (g i) ∧ It9 W (g i) ∧ rvOk (g i) ∧ (g i).ps.length + 1 ≤ Rows.uptoBulk (elems[i]'(by omega)).1 := by
      refine ⟨fun i => if h : i < len then Classical.choose (each i h) else ⟨0, none, 0, none, 0, 0, 0, none, 0, 0, 0, false, [], [], []⟩, fun i hi => ?_⟩
      simp only [dif_pos hi]
      exact Classical.choose_spec (each i hi)
    have hgl : ((List.range len).map g).length = len := by simp
    refine ⟨(List.range len).map g, ⟨some a, cap, by rw [hgl], by omega, by unfold maxLen at hm; omega, fun i q hq => ?_⟩, fun q hq => ?_, ?_⟩
    · have hi : i < len := by have := (List.getElem?_eq_some_iff.1 hq).1; omega
      have e3 : ((List.range len).map g)[i]? = some (g i) := by simp [hi]
      rw [e3] at hq
      obtain rfl := Option.some.inj hq
      exact ⟨(hg i hi).2.1, a, rfl, (hg i hi).1⟩
    · obtain ⟨i, hi, rfl⟩ := List.mem_map.1 hq
      exact (hg i (List.mem_range.1 hi)).2.2.1
    · have := bulk_sum (H := H) (fun r : RV => r.ps.length) (elems.map (·.1)) ((List.range len).map g) (by simp; omega) (fun i h2 h3 => by
        have hi : i < len := by simpa using h3
        have := (hg i hi).2.2.2
        simpa using this)
      rw [hd]
      simp only [Rows.uptoBulk]
      omega
end Go.Proofs.YtedfjacmaidhkaaGreat
