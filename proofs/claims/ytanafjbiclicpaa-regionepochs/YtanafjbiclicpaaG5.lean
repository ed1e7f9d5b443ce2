/- How an epoch that came in is read. -/
import Derived.Test.YtanafjbiclicpaaG4
import Derived.Test.YtanafjbiclicpaaG2
import Derived.Lib.SlBytesConst
namespace Go.Proofs.Ytanafjbiclicpaa
open Go.ChangeShapes Go.WideShapes Go.ChangeAt Go.RowKit
set_option linter.unusedVariables false
set_option maxRecDepth 100000

theorem open_epoch {H : Type} {enc : TypeId × Value → H} {W : World} {xs : Array Value} {d : DataW H} {p : List MemPlace} (h : DataW.Trod enc Try.prog W 0 (fun _ => true) true 25 (.agg xs) d p) :
    ∃ cf vr : UInt64, xs = #[.int .u64 (cf.toNat : Int), .int .u64 (vr.toNat : Int)] := by
  obtain ⟨fuel, ht⟩ := h
  obtain ⟨ys, n, _, hx, hl, hxl, hfs⟩ := DataW.trod_struct Try.underlying25 ht
  have ku : Try.prog.cellsOf 22 = 1 := by kernel_rfl
  have hcz : Try.prog.cellsOf 25 = 2 := by kernel_rfl
  rw [hcz] at hl
  clear hx
  obtain ⟨xs⟩ := xs
  have hc : (Value.agg ⟨xs⟩).cells.toList = xs := rfl
  rw [hc] at hl hfs
  obtain ⟨v0, v1, rfl⟩ : ∃ a b, xs = [a, b] := by
    match xs, hl with
    | [a, b], _ => exact ⟨a, b, rfl⟩
  obtain ⟨y0, y1, rfl⟩ : ∃ a b, ys = [a, b] := by
    have hxl' : ys.length = 2 := hxl
    match ys, hxl' with
    | [a, b], _ => exact ⟨a, b, rfl⟩
  have f0 : DataW.trod enc Try.prog W 0 (fun _ => true) true n 22 (List.take (Try.prog.cellsOf 22) (List.drop 0 [v0, v1])) = some y0 := hfs 0 _ rfl
  have f1 : DataW.trod enc Try.prog W 0 (fun _ => true) true n 22 (List.take (Try.prog.cellsOf 22) (List.drop 1 [v0, v1])) = some y1 := hfs 1 _ rfl
  rw [ku] at f0 f1
  replace f0 : DataW.trod enc Try.prog W 0 (fun _ => true) true n 22 [v0] = some y0 := f0
  replace f1 : DataW.trod enc Try.prog W 0 (fun _ => true) true n 22 [v1] = some y1 := f1
  obtain ⟨z0, e0, _, w0⟩ := DataW.trod_int Try.underlying22 f0
  obtain ⟨z1, e1, _, w1⟩ := DataW.trod_int Try.underlying22 f1
  have b0 : 0 ≤ z0 ∧ z0 ≤ 18446744073709551615 := by simpa [Lit.wf, IntKind.min, IntKind.max, IntKind.signed, IntKind.bits] using w0
  have b1 : 0 ≤ z1 ∧ z1 ≤ 18446744073709551615 := by simpa [Lit.wf, IntKind.min, IntKind.max, IntKind.signed, IntKind.bits] using w1
  have q0 : v0 = .int .u64 z0 := by simpa using e0
  have q1 : v1 = .int .u64 z1 := by simpa using e1
  subst q0; subst q1
  refine ⟨UInt64.ofNat z0.toNat, UInt64.ofNat z1.toNat, ?_⟩
  rw [g_ofNat _ b0, g_ofNat _ b1]
end Go.Proofs.Ytanafjbiclicpaa

/- slices.SortFunc over spans: by Start. -/
namespace Go.Proofs.Ytanafjbiclicpaa
open Go.RowKit Go.Shelf Go.Lib
open Go.Sort hiding Below
set_option linter.unusedVariables false
set_option maxRecDepth 100000

theorem Try.isAggS (w : World) : (isAgg 94).run Try.prog w = .ok true w := by kernel_rfl
theorem Try.sizeOfS (w : World) : (Go.sizeOf 94).run Try.prog w = .ok 6 w := by kernel_rfl
/-- A span whose lists lie elsewhere than in the row. -/
structure SpI (w0 : World) (blk : Nat) where
  r : R3
  hi : It w0 r
  hs : r.1.2.1.ownBlock = some blk → r.2.1 = []
  he : r.1.2.2.1.ownBlock = some blk → r.2.2 = []
def r30 : R3 := ((0, .slice none 0 0, .slice none 0 0, 0, 0, .slice none 0 0), [], [])
def spi0 (w0 : World) (blk : Nat) : SpI w0 blk := ⟨r30, ⟨Rd.nil _, Rd.nil _, _, _, _, rfl⟩, fun _ => rfl, fun _ => rfl⟩
section
variable {w0 : World} {blk : Nat}
def encS (x : SpI w0 blk) : List Value := c6 x.r.1
def cfS (x y : SpI w0 blk) : Int := M.cmpL x.r.2.1 y.r.2.1
theorem swoS : SWO (ltOf (cfS (w0 := w0) (blk := blk))) where
  irrefl x := by unfold ltOf cfS; rw [M.cmpL_self]; rfl
  trans x y z h1 h2 := by
    unfold ltOf cfS at *
    exact decide_eq_true (M.cmpL_trans (of_decide_eq_true h1) (of_decide_eq_true h2))
  ntrans x y z h1 h2 := by
    unfold ltOf cfS at *
    have a1 := of_decide_eq_false h1
    have a2 := of_decide_eq_false h2
    have b1 := M.cmpL_swap x.r.2.1 y.r.2.1
    have b2 := M.cmpL_swap y.r.2.1 z.r.2.1
    have b3 := M.cmpL_swap x.r.2.1 z.r.2.1
    have c := cmpL_le_le (a := z.r.2.1) (b := y.r.2.1) (c := x.r.2.1) (by omega) (by omega)
    exact decide_eq_false (by omega)
end
theorem order_any {a0 a3 a4 b0 b3 b4 : Int} {sv ev sv' ev' : Value} {pa pa' : Option Addr} {pn pk pn' pk' : Nat} {s s' : List UInt8} {W : World} (hs : Rd W sv s) (hs' : Rd W sv' s') (he : Sl ev) (he' : Sl ev') :
    Calls Try.prog 67 #[.agg #[.int .u64 a0, sv, ev, .int .u64 a3, .int .u64 a4, .slice pa pn pk], .agg #[.int .u64 b0, sv', ev', .int .u64 b3, .int .u64 b4, .slice pa' pn' pk']] W fun e w' => e = .returned (.int .i64 (M.cmpL s s')) ∧ ∃ q os', w' = grow (W.drewN q) os' := by
  have hcm := fun o o' => bcompare_any ((hs.alloc o).alloc o') ((hs'.alloc o).alloc o')
  obtain ⟨sa, sc, rfl⟩ := hs.shp
  obtain ⟨sa', sc', rfl⟩ := hs'.shp
  obtain ⟨ea, en, ec, rfl⟩ := he
  obtain ⟨ea', en', ec', rfl⟩ := he'
  generalize M.cmpL s s' = r at *
  clear hs hs'
  go_enter Try.func67, Try.ntmps67
  go_wp2_with fail
  refine (hcm _ _).mono ?_
  rintro e w1 ⟨rfl, rfl⟩
  go_wp2_with fail
  go_ret
  exact ⟨rfl, 0, _, by rw [alloc_eq_grow, alloc_eq_grow, grow_grow]; rfl⟩
theorem sort_chg {α : Type} [Inhabited α] (enc : α → List Value) (k : Nat) (w : World) (blk off n : Nat) (d : Array α) (os : Array Obj) : Chg (fun b => b = blk) w (sortWorldK enc k w blk off n d os) := by
  have e : (sortWorldK enc k w blk off n d os).heap = w.heap.modify blk (onCells (putCells id off (flatK enc k d))) ++ os := rfl
  refine ⟨rfl, rfl, rfl, ?_, fun b hb hne => ?_⟩
  · rw [e]; simp
  · rw [e, Array.getElem?_append_left (by simpa using hb), Array.getElem?_modify, if_neg (fun q => hne q.symm)]
theorem Rd.keptE {S : Nat → Prop} {w w' : World} {v : Value} {l : List UInt8} (h : Rd w v l) (hg : Chg S w w') (hne : ∀ b, v.ownBlock = some b → S b → l = []) : Rd w' v l := by
  by_cases hl : l = []
  · subst hl
    obtain ⟨ao, c, h0, h1, h2, h3, _⟩ := h
    exact ⟨ao, c, h0, h1, h2, h3, fun i hi => by simp at hi⟩
  · exact h.keptC hg (fun b e q => hl (hne b e q))
theorem Rd.blk {w : World} {v : Value} {l : List UInt8} (h : Rd w v l) (hl : l ≠ []) {b : Nat} (hb : v.ownBlock = some b) : b < w.heap.size := by
  obtain ⟨ao, c, rfl, h1, h2, h3, h4⟩ := h
  obtain ⟨a, rfl, hc⟩ := h4 0 (List.length_pos_iff.2 hl)
  have := World.block_lt_of_cell? w _ hc
  have e : a.block = b := Option.some.inj hb
  rw [← e]
  exact this
theorem spi_list {w : World} {g : Nat} : ∀ rs : List R3, (∀ r ∈ rs, It w r ∧ (r.1.2.1.ownBlock = some g → r.2.1 = []) ∧ (r.1.2.2.1.ownBlock = some g → r.2.2 = [])) → ∃ l : List (SpI w g), l.map (·.r) = rs
  | [], _ => ⟨[], rfl⟩
  | r :: rs, h => by
    obtain ⟨l, e⟩ := spi_list rs (fun x hx => h x (List.mem_cons_of_mem _ hx))
    obtain ⟨h1, h2, h3⟩ := h r (List.mem_cons_self ..)
    exact ⟨⟨r, h1, h2, h3⟩ :: l, by simp [e]⟩
theorem It.keptC {S : Nat → Prop} {w w' : World} {r : R3} (h : It w r) (hg : Chg S w w') (h1 : ∀ b, r.1.2.1.ownBlock = some b → S b → r.2.1 = []) (h2 : ∀ b, r.1.2.2.1.ownBlock = some b → S b → r.2.2 = []) : It w' r := ⟨h.s.keptE hg h1, h.e.keptE hg h2, h.p⟩
theorem Rd.sl {w : World} {v : Value} {l : List UInt8} (h : Rd w v l) : Sl v := by obtain ⟨a, c, e⟩ := h.shp; exact ⟨a, _, c, e⟩
/-- Sorted by Start: the same spans, none below the one ahead of it. -/
theorem sortS_any {v : Value} {rs : List R3} {w : World} {B : Nat} (ho : OwS B w v (rs.map (·.1))) (hit : ∀ r ∈ rs, It w r) (hof : ∀ r ∈ rs, ∀ b, v.ownBlock = some b → (r.1.2.1.ownBlock = some b → r.2.1 = []) ∧ (r.1.2.2.1.ownBlock = some b → r.2.2 = [])) (hne : rs ≠ []) (hl : rs.length ≤ 1099511627776) :
    Calls Try.prog 66 #[v, .func (.func 67) #[] #[]] w fun e w' => e = .returned (.tuple #[]) ∧ ∃ q : List R3, q.Perm rs ∧ q.Pairwise (fun a b => ¬ M.cmpL b.2.1 a.2.1 < 0) ∧ (∃ g c, v = .slice (some ⟨g, 0, none⟩) rs.length c ∧ rs.length ≤ c ∧ c ≤ maxLen ∧ ∀ i r, q[i]? = some r → At6 w' (⟨g, i * 6, none⟩) r.1) ∧ (∀ r ∈ q, It w' r) ∧ Chg (fun b => v.ownBlock = some b) w w' := by
  have hrow := ho
  have hlen0 : 0 < rs.length := List.length_pos_iff.2 hne
  unfold OwS at ho
  rw [List.length_map] at ho
  rcases ho.2 with ⟨_, q0⟩ | ⟨g, cap, cur, rfl, hB, hh, hn, hcap, hsz, htake⟩
  · omega
  haveI : Inhabited (SpI w g) := ⟨spi0 w g⟩
  obtain ⟨lst, hlst⟩ := spi_list (w := w) (g := g) rs (fun r hr => ⟨hit r hr, (hof r hr g rfl).1, (hof r hr g rfl).2⟩)
  have hln : lst.length = rs.length := by rw [← hlst, List.length_map]
  have hat : ∀ (j : Nat) (x : SpI w g), lst[j]? = some x → rs[j]? = some x.r := fun j x e => by rw [← hlst, List.getElem?_map, e]; rfl
  have hH : HoldsK encS 6 w g 0 lst.toArray := fun j hj => by
    rw [size_flatK] at hj
    have hj2 : j < lst.length * 6 := by simpa using hj
    have hd : j / 6 < lst.length := by omega
    rw [get_flatK _ _ _ _ hj]
    refine ⟨?_, frozen_of_row _ _ _ _ _ hh⟩
    have e0 : lst.toArray[j / 6]! = lst[j / 6] := by simp [hd]
    rw [e0]
    have hx := hat (j / 6) lst[j / 6] (List.getElem?_eq_getElem hd)
    have hm : j % 6 < 6 := Nat.mod_lt _ (by omega)
    have hcl := hrow.cells (g := g) rfl j ((encS lst[j / 6])[j % 6]!) (by
      unfold c6s
      have e1 := fm_at c6_len (rs.map (·.1)) (j / 6) (j % 6) lst[j / 6].r.1 (by rw [List.getElem?_map, hx]; rfl) hm
      rw [show j / 6 * 6 + j % 6 = j by omega] at e1
      rw [e1]
      show (c6 lst[j / 6].r.1)[j % 6]? = _
      rw [getElem!_pos (encS lst[j / 6]) (j % 6) hm]
      exact List.getElem?_eq_getElem hm)
    rw [Addr.add_lit] at hcl
    exact hcl
  have hcmp : CmpLays Try.prog 67 #[] (encS (w0 := w) (blk := g)) 6 cfS g 0 lst.toArray.size w := fun m os dk hs x y => by
    have ch := sort_chg (encS (w0 := w) (blk := g)) 6 w g 0 m dk os
    have hx := x.hi.s.keptE ch (fun b e q => x.hs (by rw [e, q]))
    have hy := y.hi.s.keptE ch (fun b e q => y.hs (by rw [e, q]))
    obtain ⟨⟨⟨x0, x1, x2, x3, x4, x5⟩, xs, xe⟩, xi, xh, xk⟩ := x
    obtain ⟨⟨⟨y0, y1, y2, y3, y4, y5⟩, ys, ye⟩, yi, yh, yk⟩ := y
    obtain ⟨pa, pn, pk, e3⟩ := xi.p
    obtain ⟨pa', pn', pk', e3'⟩ := yi.p
    simp only [] at e3 e3'
    subst e3
    subst e3'
    exact order_any hx hy xi.e.sl yi.e.sl
  have eg : ∀ args w, (callFunc 67 args).run Try.prog w = .ok (.enter 67 args) w := enters_of Try.func67 (by kernel_rfl) rfl
  have hcon := AnyQ.slices_SortFunc Try.sortS 6 Try.isAggS Try.sizeOfS (encS (w0 := w) (blk := g)) (fun _ => rfl) (fun x v hv => x.hi.one v hv) cfS swoS 67 #[] g 0 cap lst.toArray w eg hcmp hH (Array.getElem?_eq_some_iff.1 hh).1 (by simp; omega)
  have hs0 : lst.toArray.size = rs.length := by simp [hln]
  rw [hs0] at hcon
  refine Calls.mono hcon ?_
  rintro e w' ⟨rfl, d', n, os, hperm, hsort, rfl⟩
  have hd' : d'.size = rs.length := by rw [hperm.1, hs0]
  have ch := sort_chg (encS (w0 := w) (blk := g)) 6 w g 0 n d' os
  have hH' := holdsK_sortWorldK (encS (w0 := w) (blk := g)) 6 w g 0 n lst.toArray d' os (Array.getElem?_eq_some_iff.1 hh).1 hH (by rw [hd', hs0])
  have hbang : ∀ i (h : i < d'.size), d'[i]! = d'[i] := fun i h => getElem!_pos d' i h
  refine ⟨rfl, d'.toList.map (·.r), ?_, ?_, ⟨g, cap, rfl, hn, hcap, fun i r hr => ?_⟩, fun r hr => ?_, ch.mono (fun b _ q => by rw [q]; rfl)⟩
  · have hp := hperm.2.2
    rw [← hd', Array.extract_size, hd', ← hs0, Array.extract_size] at hp
    have := hp.map (·.r)
    rw [show lst.toArray.toList = lst from rfl, hlst] at this
    exact this
  · rw [List.pairwise_map, List.pairwise_iff_getElem]
    intro i j hi hj hij
    have hi2 : i < d'.size := by simpa using hi
    have hj2 : j < d'.size := by simpa using hj
    have := hsort i j (Nat.zero_le _) hij (by omega)
    rw [hbang i hi2, hbang j hj2] at this
    unfold ltOf cfS at this
    exact of_decide_eq_false this
  · obtain ⟨hi, rfl⟩ := List.getElem?_eq_some_iff.1 hr
    have hi2 : i < d'.size := by simpa using hi
    intro j x hx
    have hj6 : j < 6 := (List.getElem?_eq_some_iff.1 hx).1
    have hc := (hH'.cell hi2 hj6).1
    rw [hbang i hi2] at hc
    have e1 : (encS d'[i])[j]! = x := by
      rw [getElem!_pos (encS d'[i]) j hj6]
      have := List.getElem?_eq_some_iff.1 hx
      obtain ⟨_, hh2⟩ := this
      rw [← hh2]
      simp [encS]
    rw [e1, Nat.zero_add] at hc
    by_cases hj0 : j = 0
    · subst hj0; rw [if_pos rfl]; simpa using hc
    · rw [if_neg hj0]; exact hc
  · obtain ⟨x, hx, rfl⟩ := List.mem_map.1 hr
    exact x.hi.keptC ch (fun b e q => x.hs (by rw [e, q])) (fun b e q => x.he (by rw [e, q]))
end Go.Proofs.Ytanafjbiclicpaa

/- Partition. -/
namespace Go.Proofs.Ytanafjbiclicpaa
open Go.RowKit
set_option linter.unusedVariables false
set_option maxRecDepth 100000

/-- Does each begin where the one ahead ends, and the last one have no end? -/
def chkP : Nat → List UInt8 → List R3 → Bool
  | _, en, [] => decide (en.length = 0)
  | i, en, r :: q => if (0 < i ∧ en.length = 0) ∨ r.2.1 ≠ en then false else chkP (i + 1) r.2.2 q
set_option maxHeartbeats 2000000 in
theorem partition_any {v : Value} {rs : List R3} {w : World} (hr : RdRs w v rs) (hl : rs.length ≤ 1099511627775) (hne : fullR rs ≠ []) :
    Calls Try.prog 37 #[v] w fun x w' => ∃ q : List R3, q.Perm (fullR rs) ∧ q.Pairwise (fun a b => 0 ≤ M.cmpL b.2.1 a.2.1) ∧ x = .returned (.bool (chkP 0 [] q)) ∧ Below w.heap.size w w' := by
  have hsp := spansOf_any hr hl
  have hfl := fullR_len rs
  have hitw : ∀ r ∈ fullR rs, It w r := fun r hm => by
    obtain ⟨ao, c, _, _, _, h4⟩ := hr
    obtain ⟨i, ei⟩ := List.mem_iff_getElem?.1 (show r ∈ rs by unfold fullR at hm; exact (List.mem_filter.1 hm).1)
    exact (h4 i r ei).1
  obtain ⟨ao, c, rfl, h1, h2, _⟩ := hr
  generalize fullR rs = fs at *
  go_enter Try.func37, Try.ntmps37
  go_wp2_with fail
  refine hsp.mono ?_
  rintro x w1 ⟨v1, rfl, ho1, hb1⟩
  clear hsp
  have hlo : ∀ b, v1.ownBlock = some b → w.heap.size ≤ b := fun b e => (World.ownsRow.lt ho1 b e).1
  have hso := sortS_any ho1 (fun r hm => (hitw r hm).below hb1 (Nat.le_refl _)) (fun r hm b e => ⟨fun q => by
      by_cases hz : r.2.1 = []
      · exact hz
      · have := (hitw r hm).s.blk hz q; have := hlo b e; omega, fun q => by
      by_cases hz : r.2.2 = []
      · exact hz
      · have := (hitw r hm).e.blk hz q; have := hlo b e; omega⟩) hne (by omega)
  clear hitw
  go_wp2_with fail
  refine hso.mono ?_
  rintro x w2 ⟨rfl, q, hqp, hqs, ⟨g, cp, rfl, hc1, hc2, hat⟩, hiq, hch⟩
  have hb2 : Below w.heap.size w w2 := hb1.trans (hch.below (fun b e => hlo b e) hb1.size)
  have hql : q.length = fs.length := hqp.length_eq
  have hf0 : 0 < fs.length := List.length_pos_iff.2 hne
  have HQ : Hid (q.Perm fs ∧ q.Pairwise (fun a b => 0 ≤ M.cmpL b.2.1 a.2.1) ∧ q.length = fs.length) := ⟨hqp, hqs, hql⟩
  have HIT : Hid (∀ r ∈ q, It w2 r) := hiq
  unfold maxLen at hc2
  clear hso ho1 hch hlo hqp hqs hql hiq hb1
  go_wp2_with fail
  go_loopw [4, 5, 6, 13] (fun en _ _ i wr => ∃ (k : Nat) (el : List UInt8), k ≤ fs.length ∧ i = .int .i64 k ∧ Rd wr en el ∧ Hid (chkP 0 [] q = chkP k el (q.drop k)) ∧ Below w2.heap.size w2 wr) (fun _ _ _ i _ => fs.length - (intOf i).toNat)
  case atStart => exact ⟨0, [], Nat.zero_le _, rfl, Rd.nil _, rfl, Below.refl _ _⟩
  case round =>
    obtain ⟨k, el, hk, rfl, hrd, HX, hbr⟩ := hrel
    have hBr : Below w.heap.size w wr := hb2.trans (hbr.mono hb2.size)
    have hel := hrd.len
    unfold maxLen at hel
    by_cases hlt : k < fs.length
    · obtain ⟨r, hrk⟩ : ∃ r, q[k]? = some r := ⟨_, List.getElem?_eq_getElem (by have := HQ.out.2.2; omega)⟩
      have hitr := (HIT.out r (List.mem_of_getElem? hrk)).below hbr (Nat.le_refl _)
      obtain ⟨c0, c1, c2, c3, c4, c5⟩ := ((hat k r hrk).below hbr (Nat.le_refl _)).six
      have HC : Hid (chkP k el (q.drop k) = if (0 < k ∧ el.length = 0) ∨ r.2.1 ≠ el then false else chkP (k + 1) r.2.2 (q.drop (k + 1))) := by
        show _ = _
        obtain ⟨hh, rfl⟩ := List.getElem?_eq_some_iff.1 hrk
        rw [List.drop_eq_getElem_cons hh]; rfl
      have hE := hitr.e
      obtain ⟨ea, ec, e2⟩ := hitr.e.shp
      obtain ⟨sa, sc, e1⟩ := hitr.s.shp
      obtain ⟨pa, pn, pk, e3⟩ := hitr.p
      have heq : ∀ W, Below wr.heap.size wr W → Calls Try.prog 68 #[r.1.2.1, _] W fun x w' => x = .returned (.bool (decide (r.2.1 = el))) ∧ w' = W := fun W hW => bequal_any (hitr.s.below hW (Nat.le_refl _)) (hrd.below hW (Nat.le_refl _))
      obtain ⟨na, nc, e4⟩ := hrd.shp
      obtain ⟨⟨u0, u1, u2, u3, u4, u5⟩, rs0, re0⟩ := r
      simp only [] at e1 e2 e3 c0 c1 c2 c3 c4 c5 HC heq hE
      subst e1
      subst e2
      subst e3
      subst e4
      have hbA : Below wr.heap.size wr (wr.alloc (.cells #[.int .u64 u0, .slice sa rs0.length sc, .slice ea re0.length ec, .int .u64 u3, .int .u64 u4, .slice pa pn pk] 94)) := g_al _ _
      have HE : Hid _ := And.intro hE hrd
      clear hitr hrk hE hrd
      by_cases hk0 : 0 < k ∧ el.length < 1
      · have g0 : (0 : Int) < (k : Int) := by omega
        have HB : Hid (chkP 0 [] q = false) := by show _ = _; rw [HX.out, HC.out, if_pos (.inl ⟨hk0.1, by omega⟩)]
        obtain ⟨hk0a, hk0b⟩ := hk0
        obtain rfl : el = [] := List.length_eq_zero_iff.1 (by omega)
        go_wp2_with fail
        go_ret
        exact ⟨q, HQ.out.1, HQ.out.2.1, by rw [HB.out]; rfl, hBr.alloc hBr.size _⟩
      · have hcase : (k = 0) ∨ (0 < k ∧ ¬ el.length = 0) := by omega
        have heqA := heq _ hbA
        by_cases hse : rs0 = el
        · have HN : Hid (chkP 0 [] q = chkP (k + 1) re0 (q.drop (k + 1))) := by
            show _ = _
            rw [HX.out, HC.out, if_neg (by rintro (r | r); exact hk0 ⟨r.1, by omega⟩; exact r hse)]
          rw [decide_eq_true hse] at heqA
          clear hse hk0
          rcases hcase with hk0 | ⟨hk1, hk2⟩
          · have g0 : ¬ (0 : Int) < (k : Int) := by omega
            clear hk0
            go_wp2_with fail
            refine heqA.mono ?_
            rintro x w5 ⟨rfl, rfl⟩
            go_wp2_with fail
            exact ⟨⟨k + 1, re0, by omega, by go_num, HE.out.1.below hbA (Nat.le_refl _), HN, hbr.trans (hbA.mono hbr.size)⟩, by simp [intOf]; omega⟩
          · have g0 : (0 : Int) < (k : Int) := by omega
            have g1 : ((el.length : Int) == 0) = false := beq_eq_false_iff_ne.2 (show ((el.length : Int)) ≠ 0 by omega)
            have g2 : ¬ (el.length : Int) = 0 := by omega
            go_wp2_with fail
            refine heqA.mono ?_
            rintro x w5 ⟨rfl, rfl⟩
            go_wp2_with fail
            exact ⟨⟨k + 1, re0, by omega, by go_num, HE.out.1.below hbA (Nat.le_refl _), HN, hbr.trans (hbA.mono hbr.size)⟩, by simp [intOf]; omega⟩
        · have HB : Hid (chkP 0 [] q = false) := by show _ = _; rw [HX.out, HC.out, if_pos (.inr hse)]
          rw [decide_eq_false hse] at heqA
          clear hse hk0
          rcases hcase with hk0 | ⟨hk1, hk2⟩
          · have g0 : ¬ (0 : Int) < (k : Int) := by omega
            clear hk0
            go_wp2_with fail
            refine heqA.mono ?_
            rintro x w5 ⟨rfl, rfl⟩
            go_wp2_with fail
            go_ret
            exact ⟨q, HQ.out.1, HQ.out.2.1, by rw [HB.out]; rfl, hBr.alloc hBr.size _⟩
          · have g0 : (0 : Int) < (k : Int) := by omega
            have g1 : ((el.length : Int) == 0) = false := beq_eq_false_iff_ne.2 (show ((el.length : Int)) ≠ 0 by omega)
            have g2 : ¬ (el.length : Int) = 0 := by omega
            go_wp2_with fail
            refine heqA.mono ?_
            rintro x w5 ⟨rfl, rfl⟩
            go_wp2_with fail
            go_ret
            exact ⟨q, HQ.out.1, HQ.out.2.1, by rw [HB.out]; rfl, hBr.alloc hBr.size _⟩
    · obtain rfl : k = fs.length := by omega
      have HN : Hid (chkP 0 [] q = decide (el.length = 0)) := by
        show _ = _
        rw [HX.out, List.drop_of_length_le (by have := HQ.out.2.2; omega)]; rfl
      have g0 : (0 : Int) < (fs.length : Int) := by omega
      obtain ⟨na, nc, e4⟩ := hrd.shp
      subst e4
      by_cases hel0 : el.length < 1
      · obtain rfl : el = [] := List.length_eq_zero_iff.1 (by omega)
        go_wp2_with fail
        go_ret
        exact ⟨q, HQ.out.1, HQ.out.2.1, by rw [HN.out]; rfl, hBr⟩
      · have HM : Hid (chkP 0 [] q = false) := by show _ = _; rw [HN.out]; exact decide_eq_false (by omega)
        have g1 : ((el.length : Int) == 0) = false := beq_eq_false_iff_ne.2 (show ((el.length : Int)) ≠ 0 by omega)
        have g2 : ¬ (el.length : Int) = 0 := by omega
        go_wp2_with fail
        go_ret
        exact ⟨q, HQ.out.1, HQ.out.2.1, by rw [HM.out]; rfl, hBr⟩
end Go.Proofs.Ytanafjbiclicpaa

/- What awake answers: true. -/
namespace Go.Proofs.Ytanafjbiclicpaa
open Go.RowKit
set_option linter.unusedVariables false
set_option maxRecDepth 100000

theorem perm2 {α : Type} {q : List α} {a b : α} (h : q.Perm [a, b]) : q = [a, b] ∨ q = [b, a] := by
  match q, h.length_eq with
  | [x, y], _ =>
    have hx : x ∈ [a, b] := h.mem_iff.1 (List.mem_cons_self ..)
    simp only [List.mem_cons, List.not_mem_nil, or_false] at hx
    rcases hx with rfl | rfl
    · have := List.perm_singleton.1 (h.cons_inv)
      simp at this; subst this
      exact .inl rfl
    · have := List.perm_singleton.1 ((h.trans (List.Perm.swap _ _ _)).cons_inv)
      simp at this; subst this
      exact .inr rfl
theorem rd_lit1 (w : World) (x : UInt8) (z : Int) (hz : z = (x.toNat : Int)) (g : Nat) (hg : g = w.heap.size) (t : TypeId) : Rd (w.alloc (.cells #[.int .u8 z] t)) (.slice (some ⟨g, 0, none⟩) 1 1) [x] := by
  subst hz; subst hg
  refine Rd.mk rfl (by simp) (by simp [maxLen]) (fun i hi => ?_)
  obtain rfl : i = 0 := by simpa using hi
  rw [Addr.add_lit, Nat.zero_add, World.cell?_alloc_at _ _ _ _ rfl]; rfl
theorem rdpe_lit1 (w : World) (p : Pe) (z : Int) (hz : z = (p.1.toNat : Int)) (g : Nat) (hg : g = w.heap.size) (t : TypeId) : RdPe (w.alloc (.cells #[.int .u64 z, .int .i64 p.2.1, .bool p.2.2] t)) (.slice (some ⟨g, 0, none⟩) 1 1) [p] := by
  subst hz; subst hg
  refine ⟨some ⟨w.heap.size, 0, none⟩, 1, rfl, by simp, by simp [maxLen], (fun e => by cases e), fun i q hi => ?_⟩
  match i with
  | 0 =>
    simp at hi; subst hi
    refine ⟨_, rfl, ?_, ?_, ?_⟩ <;> rw [Addr.add_lit] <;> simp only [Nat.zero_add, Nat.zero_mul] <;> rw [World.cell?_alloc_at _ _ _ _ rfl] <;> rfl
  | i + 1 => simp at hi
theorem at6_of {w : World} {g o : Nat} {u : V6} {cs : Array Value} {t : TypeId} (h : w.heap[g]? = some (.cells cs t (0, 0))) (hc : ∀ (j : Nat) (x : Value), (c6 u)[j]? = some x → cs[o + j]? = some x) : At6 w ⟨g, o, none⟩ u := fun j x e => by
  by_cases hj : j = 0
  · subst hj
    rw [if_pos rfl, cell_of_row _ _ _ _ _ _ h]
    exact hc 0 x e
  · rw [if_neg hj, cell_of_row _ _ _ _ _ _ h]
    exact hc j x e
theorem rdrs_lit1 (w : World) (r : R3) (hr : It w r) (g : Nat) (hg : g = w.heap.size) (t : TypeId) (cs : Array Value) (hcs : cs = (c6 r.1).toArray) : RdRs (w.alloc (.cells cs t)) (.slice (some ⟨g, 0, none⟩) 1 1) [r] := by
  subst hg; subst hcs
  refine ⟨some ⟨w.heap.size, 0, none⟩, 1, rfl, by simp, by simp [maxLen], fun i q hi => ?_⟩
  match i with
  | 0 =>
    simp at hi; subst hi
    refine ⟨hr.below (g_al _ _) (Nat.le_refl _), _, rfl, ?_⟩
    rw [Addr.add_lit, Nat.zero_add, Nat.zero_mul]
    exact at6_of (heap_alloc_new w _) (fun j x e => by rw [Nat.zero_add]; simpa using e)
  | i + 1 => simp at hi
theorem rdrs_lit2 (w : World) (r r' : R3) (hr : It w r) (hr' : It w r') (g : Nat) (hg : g = w.heap.size) (t : TypeId) (cs : Array Value) (hcs : cs = (c6 r.1 ++ c6 r'.1).toArray) : RdRs (w.alloc (.cells cs t)) (.slice (some ⟨g, 0, none⟩) 2 2) [r, r'] := by
  subst hg; subst hcs
  refine ⟨some ⟨w.heap.size, 0, none⟩, 2, rfl, by simp, by simp [maxLen], fun i q hi => ?_⟩
  match i with
  | 0 =>
    simp at hi; subst hi
    refine ⟨hr.below (g_al _ _) (Nat.le_refl _), _, rfl, ?_⟩
    rw [Addr.add_lit, Nat.zero_add, Nat.zero_mul]
    exact at6_of (heap_alloc_new w _) (fun j x e => by
      have hj : j < 6 := (List.getElem?_eq_some_iff.1 e).1
      rw [Nat.zero_add, List.getElem?_toArray, List.getElem?_append_left hj]; exact e)
  | 1 =>
    simp at hi; subst hi
    refine ⟨hr'.below (g_al _ _) (Nat.le_refl _), _, rfl, ?_⟩
    rw [Addr.add_lit, Nat.zero_add, Nat.one_mul]
    exact at6_of (heap_alloc_new w _) (fun j x e => by
      rw [List.getElem?_toArray, List.getElem?_append_right (by rw [c6_len]; omega), c6_len, Nat.add_sub_cancel_left]; exact e)
  | i + 2 => simp at hi
theorem aw_csp : cspE 1 7 1 [] [] [109] [((1 : UInt64), (1 : Int), false)] [4] = 0 := by decide +kernel
theorem aw_full {u u' : V6} : fullR [(u, [], [109]), (u', [109], [])] = [(u, [], [109]), (u', [109], [])] := by
  have h1 : cov [] [109] [] = true := by decide +kernel
  have h2 : cov [109] [] [109] = true := by decide +kernel
  simp [fullR, h1, h2]
theorem aw_full1 {u : V6} : fullR [(u, [], [109])] = [(u, [], [109])] := by
  have h1 : cov [] [109] [] = true := by decide +kernel
  simp [fullR, h1]
theorem aw_two {u u' : V6} {q : List R3} (hp : q.Perm (fullR [(u, [], [109]), (u', [109], [])])) (hs : q.Pairwise (fun a b => 0 ≤ M.cmpL b.2.1 a.2.1)) : chkP 0 [] q = true := by
  rw [aw_full] at hp
  rcases perm2 hp with rfl | rfl
  · simp [chkP]
  · have := List.rel_of_pairwise_cons hs (List.mem_singleton_self _)
    exact absurd this (by show ¬ 0 ≤ M.cmpL [] [109]; decide)
theorem aw_one {u : V6} {q : List R3} (hp : q.Perm (fullR [(u, [], [109])])) : chkP 0 [] q = false := by
  rw [aw_full1] at hp
  rw [List.perm_singleton.1 hp]
  simp [chkP]
theorem aw_cov : cov [109] [] [122] = true := by decide +kernel

theorem conv_at (w : World) (C : Array Value) (n c g : Nat) (hg : g = w.heap.size) : (convert 23 23 (.slice (some ⟨g, 0, none⟩) n c)).run Try.prog (w.alloc (.cells C 5)) = .ok (.slice (some ⟨g, 0, none⟩) n c) (w.alloc (.cells C 5 (C.size, C.size + 1))) := by
  subst hg; exact Lib.run_convert_bytes_const (P := Try.prog) w 23 5 C n c Try.underlying23 Try.underlying5
theorem rd_litH (w : World) (H : Nat) (hH : w.heap.size = H) (b : UInt8) (z : Int) (hz : z = (b.toNat : Int)) (fr : Nat × Nat) (t : TypeId) : Rd (w.alloc (.cells #[.int .u8 z] t fr)) (.slice (some ⟨H, 0, none⟩) 1 1) [b] := by
  subst hH
  subst hz
  refine Rd.mk rfl (by simp) (by simp [maxLen]) (fun i hi => ?_)
  obtain rfl : i = 0 := by simpa using hi
  have e : (w.alloc (.cells #[.int .u8 (b.toNat : Int)] t fr)).heap[w.heap.size]? = some (.cells #[.int .u8 (b.toNat : Int)] t fr) := by
    show (w.heap.push _)[w.heap.size]? = _
    simp
  rw [Addr.add_lit, Nat.zero_add, cell_of_row _ _ _ _ _ _ e]
  rfl
set_option maxHeartbeats 4000000 in
theorem awake_any (w : World) : Calls Try.prog 9 #[] w fun e w' => e = .returned (.bool true) ∧ Below w.heap.size w w' := by
  have hcv := conv_at
  have hb4 : Below w.heap.size w ((((w.alloc (.cells #[.int .u64 1, .int .i64 1, .bool false] 31)).alloc (.cells #[.int .u64 1, .slice none 0 0, .slice none 0 0, .int .u64 1, .int .u64 1, .slice (some ⟨w.heap.size, 0, none⟩) 1 1] 28)).alloc (.cells #[.int .u8 109] 5 (1, 2))).alloc (.cells #[.int .u64 4] 22)) := (((g_al w _).alloc (by simp) _).alloc (by simp; omega) _).alloc (by simp; omega) _
  have hpe : RdPe ((((w.alloc (.cells #[.int .u64 1, .int .i64 1, .bool false] 31)).alloc (.cells #[.int .u64 1, .slice none 0 0, .slice none 0 0, .int .u64 1, .int .u64 1, .slice (some ⟨w.heap.size, 0, none⟩) 1 1] 28)).alloc (.cells #[.int .u8 109] 5 (1, 2))).alloc (.cells #[.int .u64 4] 22)) (.slice (some ⟨w.heap.size, 0, none⟩) 1 1) [((1 : UInt64), (1 : Int), false)] := (((rdpe_lit1 w ((1 : UInt64), (1 : Int), false) 1 rfl w.heap.size rfl 31).below (g_al _ _) (Nat.le_refl _)).below (g_al _ _) (Nat.le_refl _)).below (g_al _ _) (Nat.le_refl _)
  have hkk : Rd ((((w.alloc (.cells #[.int .u64 1, .int .i64 1, .bool false] 31)).alloc (.cells #[.int .u64 1, .slice none 0 0, .slice none 0 0, .int .u64 1, .int .u64 1, .slice (some ⟨w.heap.size, 0, none⟩) 1 1] 28)).alloc (.cells #[.int .u8 109] 5 (1, 2))).alloc (.cells #[.int .u64 4] 22)) (.slice (some ⟨w.heap.size + 1 + 1, 0, none⟩) 1 1) [109] := (rd_litH ((w.alloc (.cells #[.int .u64 1, .int .i64 1, .bool false] 31)).alloc (.cells #[.int .u64 1, .slice none 0 0, .slice none 0 0, .int .u64 1, .int .u64 1, .slice (some ⟨w.heap.size, 0, none⟩) 1 1] 28)) (w.heap.size + 1 + 1) (by simp) 109 109 rfl (1, 2) 5).below (g_al _ _) (Nat.le_refl _)
  have hnn : Ru ((((w.alloc (.cells #[.int .u64 1, .int .i64 1, .bool false] 31)).alloc (.cells #[.int .u64 1, .slice none 0 0, .slice none 0 0, .int .u64 1, .int .u64 1, .slice (some ⟨w.heap.size, 0, none⟩) 1 1] 28)).alloc (.cells #[.int .u8 109] 5 (1, 2))).alloc (.cells #[.int .u64 4] 22)) (.slice (some ⟨w.heap.size + 1 + 1 + 1, 0, none⟩) 1 1) [4] := ru_one (((w.alloc (.cells #[.int .u64 1, .int .i64 1, .bool false] 31)).alloc (.cells #[.int .u64 1, .slice none 0 0, .slice none 0 0, .int .u64 1, .int .u64 1, .slice (some ⟨w.heap.size, 0, none⟩) 1 1] 28)).alloc (.cells #[.int .u8 109] 5 (1, 2))) 4 4 rfl 22 (w.heap.size + 1 + 1 + 1) (by simp)
  have hsp : Calls Try.prog 34 #[.agg #[.int .u64 1, .slice none 0 0, .slice none 0 0, .int .u64 1, .int .u64 1, .slice (some ⟨w.heap.size, 0, none⟩) 1 1], .slice (some ⟨w.heap.size + 1 + 1, 0, none⟩) 1 1, .int .u64 7, .slice (some ⟨w.heap.size + 1 + 1 + 1, 0, none⟩) 1 1] ((((w.alloc (.cells #[.int .u64 1, .int .i64 1, .bool false] 31)).alloc (.cells #[.int .u64 1, .slice none 0 0, .slice none 0 0, .int .u64 1, .int .u64 1, .slice (some ⟨w.heap.size, 0, none⟩) 1 1] 28)).alloc (.cells #[.int .u8 109] 5 (1, 2))).alloc (.cells #[.int .u64 4] 22)) fun x w' => ∃ sv1 kv1 pv1 kv2 ev2 pv2, x = .returned (.tuple #[.agg #[.int .u64 1, sv1, kv1, .int .u64 1, .int .u64 2, pv1], .agg #[.int .u64 7, kv2, ev2, .int .u64 1, .int .u64 2, pv2], .int .i64 0]) ∧ OwR _ w' sv1 kv1 pv1 [] [109] [((1 : UInt64), (1 : Int), false)] ∧ OwR _ w' kv2 ev2 pv2 [109] [] (numP [((1 : UInt64), (1 : Int), false)] [4]) ∧ Below _ _ w' := split_ok (id := 1) (nid := 7) (vr := 1) (cf := 1) (Rd.nil _) (Rd.nil _) hpe hkk hnn aw_csp (by simp) (by simp) (by simp) (by simp) (by decide) rfl
  go_enter Try.func9, Try.ntmps9
  go_wp2_with fail
  refine hsp.mono ?_
  rintro x w5 ⟨sv1, kv1, pv1, kv2, ev2, pv2, rfl, o1, o2, hb5⟩
  have hB5 : Below w.heap.size w w5 := hb4.trans (hb5.mono hb4.size)
  obtain ⟨a1, d1, rfl⟩ := o1.s.shp
  obtain ⟨a2, d2, rfl⟩ := o1.e.shp
  obtain ⟨a3, d3, rfl⟩ := o1.p.shape
  obtain ⟨f1, g1, rfl⟩ := o2.s.shp
  obtain ⟨f2, g2, rfl⟩ := o2.e.shp
  obtain ⟨f3, g3, rfl⟩ := o2.p.shape
  have HI1 : Hid (It w5 ((1, .slice a1 0 d1, .slice a2 1 d2, 1, 2, .slice a3 1 d3), [], [109])) := ⟨o1.s.rd, o1.e.rd, _, _, _, rfl⟩
  have HI2 : Hid (It w5 ((7, .slice f1 1 g1, .slice f2 0 g2, 1, 2, .slice f3 1 g3), [109], [])) := ⟨o2.s.rd, o2.e.rd, _, _, _, rfl⟩
  have hn3 : (numP [((1 : UInt64), (1 : Int), false)] [4]).length = 1 := rfl
  simp only [List.length_nil, List.length_cons, Nat.zero_add, hn3]
  clear hsp hpe hkk hnn o1 o2
  go_wp2_with fail
  have hW6 : Below w5.heap.size w5 ((w5.alloc (.cells #[.int .u64 1, .slice a1 0 d1, .slice a2 1 d2, .int .u64 1, .int .u64 2, .slice a3 1 d3] 28)).alloc (.cells #[.int .u64 7, .slice f1 1 g1, .slice f2 0 g2, .int .u64 1, .int .u64 2, .slice f3 1 g3] 28)) := (g_al w5 _).alloc (by simp) _
  have hz6 : ((w5.alloc (.cells #[.int .u64 1, .slice a1 0 d1, .slice a2 1 d2, .int .u64 1, .int .u64 2, .slice a3 1 d3] 28)).alloc (.cells #[.int .u64 7, .slice f1 1 g1, .slice f2 0 g2, .int .u64 1, .int .u64 2, .slice f3 1 g3] 28)).heap.size = w5.heap.size + 1 + 1 := by simp
  have hl6 : ((w5.alloc (.cells #[.int .u64 1, .slice a1 0 d1, .slice a2 1 d2, .int .u64 1, .int .u64 2, .slice a3 1 d3] 28)).alloc (.cells #[.int .u64 7, .slice f1 1 g1, .slice f2 0 g2, .int .u64 1, .int .u64 2, .slice f3 1 g3] 28)).heap[w5.heap.size]? = some (.cells #[.int .u64 1, .slice a1 0 d1, .slice a2 1 d2, .int .u64 1, .int .u64 2, .slice a3 1 d3] 28 (0, 0)) := (Below.heap_alloc _ _ _ (by simp)).trans (heap_alloc_new w5 _)
  have hh6 : ((w5.alloc (.cells #[.int .u64 1, .slice a1 0 d1, .slice a2 1 d2, .int .u64 1, .int .u64 2, .slice a3 1 d3] 28)).alloc (.cells #[.int .u64 7, .slice f1 1 g1, .slice f2 0 g2, .int .u64 1, .int .u64 2, .slice f3 1 g3] 28)).heap[w5.heap.size + 1]? = some (.cells #[.int .u64 7, .slice f1 1 g1, .slice f2 0 g2, .int .u64 1, .int .u64 2, .slice f3 1 g3] 28 (0, 0)) := by
    have := heap_alloc_new (w5.alloc (.cells #[.int .u64 1, .slice a1 0 d1, .slice a2 1 d2, .int .u64 1, .int .u64 2, .slice a3 1 d3] 28)) (.cells #[.int .u64 7, .slice f1 1 g1, .slice f2 0 g2, .int .u64 1, .int .u64 2, .slice f3 1 g3] 28)
    rw [World.size_alloc] at this
    exact this
  have hrd := rdrs_lit2 ((w5.alloc (.cells #[.int .u64 1, .slice a1 0 d1, .slice a2 1 d2, .int .u64 1, .int .u64 2, .slice a3 1 d3] 28)).alloc (.cells #[.int .u64 7, .slice f1 1 g1, .slice f2 0 g2, .int .u64 1, .int .u64 2, .slice f3 1 g3] 28)) _ _ (HI1.out.below hW6 (Nat.le_refl _)) (HI2.out.below hW6 (Nat.le_refl _)) (w5.heap.size + 1 + 1) (by simp) 28 _ rfl
  have hpt := partition_any hrd (by simp) (by rw [aw_full]; simp)
  generalize ((w5.alloc (.cells #[.int .u64 1, .slice a1 0 d1, .slice a2 1 d2, .int .u64 1, .int .u64 2, .slice a3 1 d3] 28)).alloc (.cells #[.int .u64 7, .slice f1 1 g1, .slice f2 0 g2, .int .u64 1, .int .u64 2, .slice f3 1 g3] 28)) = X6 at *
  refine Calls.mono hpt ?_
  rintro x w7 ⟨q, hqp, hqs, rfl, hb7⟩
  rw [aw_two hqp hqs]
  have hb67 : Below X6.heap.size X6 w7 := (g_al X6 _).trans (hb7.mono (g_al X6 _).size)
  have HL : Hid (∀ W, Below X6.heap.size X6 W → W.heap[w5.heap.size]? = some (.cells #[.int .u64 1, .slice a1 0 d1, .slice a2 1 d2, .int .u64 1, .int .u64 2, .slice a3 1 d3] 28 (0, 0)) ∧ W.heap[w5.heap.size + 1]? = some (.cells #[.int .u64 7, .slice f1 1 g1, .slice f2 0 g2, .int .u64 1, .int .u64 2, .slice f3 1 g3] 28 (0, 0))) := fun W hW => ⟨(hW.block _ (lt_of_some hl6)).trans hl6, (hW.block _ (lt_of_some hh6)).trans hh6⟩
  obtain ⟨l0, l1, l2, l3, l4, l5, _⟩ := cells6 (HL.out w7 hb67).1
  have hrd1 := rdrs_lit1 w7 _ ((HI1.out.below hW6 (Nat.le_refl _)).below hb67 (Nat.le_refl _)) w7.heap.size rfl 28 _ rfl
  have hpt1 := partition_any hrd1 (by simp) (by rw [aw_full1]; simp)
  clear hrd hpt hqp hqs hrd1 hz6 hl6 hh6
  go_wp2_with fail
  refine Calls.mono hpt1 ?_
  rintro x w8 ⟨q1, hq1p, _, rfl, hb8⟩
  rw [aw_one hq1p]
  have hb68 : Below X6.heap.size X6 w8 := hb67.trans (((g_al w7 _).trans (hb8.mono (g_al w7 _).size)).mono hb67.size)
  clear l0 l1 l2 l3 l4 l5
  obtain ⟨m0, m1, m2, m3, m4, m5, _⟩ := cells6 (HL.out w8 hb68).2
  have HI8 := (HI2.out.below hW6 (Nat.le_refl _)).below hb68 (Nat.le_refl _)
  have hb58 : Below w.heap.size w w8 := hB5.trans ((hW6.trans (hb68.mono hW6.size)).mono hB5.size)
  have hcz : Calls Try.prog 21 #[.agg #[.int .u64 7, .slice f1 1 g1, .slice f2 0 g2, .int .u64 1, .int .u64 2, .slice f3 1 g3], .slice (some ⟨w8.heap.size, 0, none⟩) 1 1] (w8.alloc (.cells #[.int .u8 122] 5 (1, 2))) fun x w' => x = .returned (.bool true) ∧ Below (w8.alloc (.cells #[.int .u8 122] 5 (1, 2))).heap.size (w8.alloc (.cells #[.int .u8 122] 5 (1, 2))) w' := by
    have := covers_any (i := 7) (c := 1) (r := 2) (pa := f3) (pn := 1) (pk := g3) (HI8.s.alloc (.cells #[.int .u8 122] 5 (1, 2))) (HI8.e.alloc (.cells #[.int .u8 122] 5 (1, 2))) (rd_litH w8 _ rfl 122 122 rfl (1, 2) 5)
    rw [aw_cov] at this
    exact this
  clear hpt1 hq1p
  go_wp2_with fail
  refine Calls.mono hcz ?_
  rintro x w9 ⟨rfl, hb9⟩
  go_wp2_with fail
  go_ret
  exact ⟨rfl, (hb58.alloc hb58.size _).trans (hb9.mono (Nat.le_trans hb58.size (g_al w8 _).size))⟩
end Go.Proofs.Ytanafjbiclicpaa
