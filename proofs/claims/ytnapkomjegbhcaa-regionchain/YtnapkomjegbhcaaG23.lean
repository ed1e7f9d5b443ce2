/- slices.SortFunc over spans: by Start. -/
import Derived.Test.YtnapkomjegbhcaaG21
import Derived.Test.YtnapkomjegbhcaaG3
namespace Go.Proofs.Ytnapkomjegbhcaa
open Go.RowKit Go.Shelf Go.Lib
open Go.Sort hiding Below
set_option linter.unusedVariables false
set_option maxRecDepth 100000

theorem Try.isAggS (w : World) : (isAgg 63).run Try.prog w = .ok true w := by kernel_rfl
theorem Try.sizeOfS (w : World) : (Go.sizeOf 63).run Try.prog w = .ok 6 w := by kernel_rfl
/-- A span whose lists lie elsewhere than in the row. -/
structure SpI (w0 : World) (blk : Nat) where
  r : R3
  hi : It w0 r
  hs : r.1.2.1.ownBlock = some blk → r.2.1 = []
  he : r.1.2.2.1.ownBlock = some blk → r.2.2 = []
def r30 : R3 := ((0, .slice none 0 0, .slice none 0 0, 0, 0, .slice none 0 0), [], [])
def spi0 (w0 : World) (blk : Nat) : SpI w0 blk := ⟨r30, ⟨Rd.nil _, Rd.nil _, _, _, _, rfl⟩, fun _ => rfl, fun _ => rfl⟩
section
variable {w0 : World} {blk : Nat}
def encS (x : SpI w0 blk) : List Value := c6 x.r.1
def cfS (x y : SpI w0 blk) : Int := M.cmpL x.r.2.1 y.r.2.1
theorem swoS : SWO (ltOf (cfS (w0 := w0) (blk := blk))) where
  irrefl x := by unfold ltOf cfS; rw [M.cmpL_self]; rfl
  trans x y z h1 h2 := by
    unfold ltOf cfS at *
    exact decide_eq_true (M.cmpL_trans (of_decide_eq_true h1) (of_decide_eq_true h2))
  ntrans x y z h1 h2 := by
    unfold ltOf cfS at *
    have a1 := of_decide_eq_false h1
    have a2 := of_decide_eq_false h2
    have b1 := M.cmpL_swap x.r.2.1 y.r.2.1
    have b2 := M.cmpL_swap y.r.2.1 z.r.2.1
    have b3 := M.cmpL_swap x.r.2.1 z.r.2.1
    have c := cmpL_le_le (a := z.r.2.1) (b := y.r.2.1) (c := x.r.2.1) (by omega) (by omega)
    exact decide_eq_false (by omega)
end
theorem order_any {a0 a3 a4 b0 b3 b4 : Int} {sv ev sv' ev' : Value} {pa pa' : Option Addr} {pn pk pn' pk' : Nat} {s s' : List UInt8} {W : World} (hs : Rd W sv s) (hs' : Rd W sv' s') (he : Sl ev) (he' : Sl ev') :
    Calls Try.prog 28 #[.agg #[.int .u64 a0, sv, ev, .int .u64 a3, .int .u64 a4, .slice pa pn pk], .agg #[.int .u64 b0, sv', ev', .int .u64 b3, .int .u64 b4, .slice pa' pn' pk']] W fun e w' => e = .returned (.int .i64 (M.cmpL s s')) ∧ ∃ q os', w' = grow (W.drewN q) os' := by
  have hcm := fun o o' => bcompare_any ((hs.alloc o).alloc o') ((hs'.alloc o).alloc o')
  obtain ⟨sa, sc, rfl⟩ := hs.shp
  obtain ⟨sa', sc', rfl⟩ := hs'.shp
  obtain ⟨ea, en, ec, rfl⟩ := he
  obtain ⟨ea', en', ec', rfl⟩ := he'
  generalize M.cmpL s s' = r at *
  clear hs hs'
  go_enter Try.func28, Try.ntmps28
  go_wp2_with fail
  refine (hcm _ _).mono ?_
  rintro e w1 ⟨rfl, rfl⟩
  go_wp2_with fail
  go_ret
  exact ⟨rfl, 0, _, by rw [alloc_eq_grow, alloc_eq_grow, grow_grow]; rfl⟩
theorem sort_chg {α : Type} [Inhabited α] (enc : α → List Value) (k : Nat) (w : World) (blk off n : Nat) (d : Array α) (os : Array Obj) : Chg (fun b => b = blk) w (sortWorldK enc k w blk off n d os) := by
  have e : (sortWorldK enc k w blk off n d os).heap = w.heap.modify blk (onCells (putCells id off (flatK enc k d))) ++ os := rfl
  refine ⟨rfl, rfl, rfl, ?_, fun b hb hne => ?_⟩
  · rw [e]; simp
  · rw [e, Array.getElem?_append_left (by simpa using hb), Array.getElem?_modify, if_neg (fun q => hne q.symm)]
theorem Rd.keptE {S : Nat → Prop} {w w' : World} {v : Value} {l : List UInt8} (h : Rd w v l) (hg : Chg S w w') (hne : ∀ b, v.ownBlock = some b → S b → l = []) : Rd w' v l := by
  by_cases hl : l = []
  · subst hl
    obtain ⟨ao, c, h0, h1, h2, h3, _⟩ := h
    exact ⟨ao, c, h0, h1, h2, h3, fun i hi => by simp at hi⟩
  · exact h.keptC hg (fun b e q => hl (hne b e q))
theorem Rd.blk {w : World} {v : Value} {l : List UInt8} (h : Rd w v l) (hl : l ≠ []) {b : Nat} (hb : v.ownBlock = some b) : b < w.heap.size := by
  obtain ⟨ao, c, rfl, h1, h2, h3, h4⟩ := h
  obtain ⟨a, rfl, hc⟩ := h4 0 (List.length_pos_iff.2 hl)
  have := World.block_lt_of_cell? w _ hc
  have e : a.block = b := Option.some.inj hb
  rw [← e]
  exact this
theorem spi_list {w : World} {g : Nat} : ∀ rs : List R3, (∀ r ∈ rs, It w r ∧ (r.1.2.1.ownBlock = some g → r.2.1 = []) ∧ (r.1.2.2.1.ownBlock = some g → r.2.2 = [])) → ∃ l : List (SpI w g), l.map (·.r) = rs
  | [], _ => ⟨[], rfl⟩
  | r :: rs, h => by
    obtain ⟨l, e⟩ := spi_list rs (fun x hx => h x (List.mem_cons_of_mem _ hx))
    obtain ⟨h1, h2, h3⟩ := h r (List.mem_cons_self ..)
    exact ⟨⟨r, h1, h2, h3⟩ :: l, by simp [e]⟩
theorem It.keptC {S : Nat → Prop} {w w' : World} {r : R3} (h : It w r) (hg : Chg S w w') (h1 : ∀ b, r.1.2.1.ownBlock = some b → S b → r.2.1 = []) (h2 : ∀ b, r.1.2.2.1.ownBlock = some b → S b → r.2.2 = []) : It w' r := ⟨h.s.keptE hg h1, h.e.keptE hg h2, h.p⟩
theorem Rd.sl {w : World} {v : Value} {l : List UInt8} (h : Rd w v l) : Sl v := by obtain ⟨a, c, e⟩ := h.shp; exact ⟨a, _, c, e⟩
/-- Sorted by Start: the same spans, none below the one ahead of it. -/
theorem sortS_any {v : Value} {rs : List R3} {w : World} {B : Nat} (ho : OwS B w v (rs.map (·.1))) (hit : ∀ r ∈ rs, It w r) (hof : ∀ r ∈ rs, ∀ b, v.ownBlock = some b → (r.1.2.1.ownBlock = some b → r.2.1 = []) ∧ (r.1.2.2.1.ownBlock = some b → r.2.2 = [])) (hne : rs ≠ []) (hl : rs.length ≤ 1099511627776) :
    Calls Try.prog 27 #[v, .func (.func 28) #[] #[]] w fun e w' => e = .returned (.tuple #[]) ∧ ∃ q : List R3, q.Perm rs ∧ q.Pairwise (fun a b => ¬ M.cmpL b.2.1 a.2.1 < 0) ∧ (∃ g c, v = .slice (some ⟨g, 0, none⟩) rs.length c ∧ rs.length ≤ c ∧ c ≤ maxLen ∧ ∀ i r, q[i]? = some r → At6 w' (⟨g, i * 6, none⟩) r.1) ∧ (∀ r ∈ q, It w' r) ∧ Chg (fun b => v.ownBlock = some b) w w' := by
  have hrow := ho
  have hlen0 : 0 < rs.length := List.length_pos_iff.2 hne
  unfold OwS at ho
  rw [List.length_map] at ho
  rcases ho.2 with ⟨_, q0⟩ | ⟨g, cap, cur, rfl, hB, hh, hn, hcap, hsz, htake⟩
  · omega
  haveI : Inhabited (SpI w g) := ⟨spi0 w g⟩
  obtain ⟨lst, hlst⟩ := spi_list (w := w) (g := g) rs (fun r hr => ⟨hit r hr, (hof r hr g rfl).1, (hof r hr g rfl).2⟩)
  have hln : lst.length = rs.length := by rw [← hlst, List.length_map]
  have hat : ∀ (j : Nat) (x : SpI w g), lst[j]? = some x → rs[j]? = some x.r := fun j x e => by rw [← hlst, List.getElem?_map, e]; rfl
  have hH : HoldsK encS 6 w g 0 lst.toArray := fun j hj => by
    rw [size_flatK] at hj
    have hj2 : j < lst.length * 6 := by simpa using hj
    have hd : j / 6 < lst.length := by omega
    rw [get_flatK _ _ _ _ hj]
    refine ⟨?_, frozen_of_row _ _ _ _ _ hh⟩
    have e0 : lst.toArray[j / 6]! = lst[j / 6] := by simp [hd]
    rw [e0]
    have hx := hat (j / 6) lst[j / 6] (List.getElem?_eq_getElem hd)
    have hm : j % 6 < 6 := Nat.mod_lt _ (by omega)
    have hcl := hrow.cells (g := g) rfl j ((encS lst[j / 6])[j % 6]!) (by
      unfold c6s
      have e1 := fm_at c6_len (rs.map (·.1)) (j / 6) (j % 6) lst[j / 6].r.1 (by rw [List.getElem?_map, hx]; rfl) hm
      rw [show j / 6 * 6 + j % 6 = j by omega] at e1
      rw [e1]
      show (c6 lst[j / 6].r.1)[j % 6]? = _
      rw [getElem!_pos (encS lst[j / 6]) (j % 6) hm]
      exact List.getElem?_eq_getElem hm)
    rw [Addr.add_lit] at hcl
    exact hcl
  have hcmp : CmpLays Try.prog 28 #[] (encS (w0 := w) (blk := g)) 6 cfS g 0 lst.toArray.size w := fun m os dk hs x y => by
    have ch := sort_chg (encS (w0 := w) (blk := g)) 6 w g 0 m dk os
    have hx := x.hi.s.keptE ch (fun b e q => x.hs (by rw [e, q]))
    have hy := y.hi.s.keptE ch (fun b e q => y.hs (by rw [e, q]))
    obtain ⟨⟨⟨x0, x1, x2, x3, x4, x5⟩, xs, xe⟩, xi, xh, xk⟩ := x
    obtain ⟨⟨⟨y0, y1, y2, y3, y4, y5⟩, ys, ye⟩, yi, yh, yk⟩ := y
    obtain ⟨pa, pn, pk, e3⟩ := xi.p
    obtain ⟨pa', pn', pk', e3'⟩ := yi.p
    simp only [] at e3 e3'
    subst e3
    subst e3'
    exact order_any hx hy xi.e.sl yi.e.sl
  have eg : ∀ args w, (callFunc 28 args).run Try.prog w = .ok (.enter 28 args) w := enters_of Try.func28 (by kernel_rfl) rfl
  have hcon := AnyQ.slices_SortFunc Try.sortS 6 Try.isAggS Try.sizeOfS (encS (w0 := w) (blk := g)) (fun _ => rfl) (fun x v hv => x.hi.one v hv) cfS swoS 28 #[] g 0 cap lst.toArray w eg hcmp hH (Array.getElem?_eq_some_iff.1 hh).1 (by simp; omega)
  have hs0 : lst.toArray.size = rs.length := by simp [hln]
  rw [hs0] at hcon
  refine Calls.mono hcon ?_
  rintro e w' ⟨rfl, d', n, os, hperm, hsort, rfl⟩
  have hd' : d'.size = rs.length := by rw [hperm.1, hs0]
  have ch := sort_chg (encS (w0 := w) (blk := g)) 6 w g 0 n d' os
  have hH' := holdsK_sortWorldK (encS (w0 := w) (blk := g)) 6 w g 0 n lst.toArray d' os (Array.getElem?_eq_some_iff.1 hh).1 hH (by rw [hd', hs0])
  have hbang : ∀ i (h : i < d'.size), d'[i]! = d'[i] := fun i h => getElem!_pos d' i h
  refine ⟨rfl, d'.toList.map (·.r), ?_, ?_, ⟨g, cap, rfl, hn, hcap, fun i r hr => ?_⟩, fun r hr => ?_, ch.mono (fun b _ q => by rw [q]; rfl)⟩
  · have hp := hperm.2.2
    rw [← hd', Array.extract_size, hd', ← hs0, Array.extract_size] at hp
    have := hp.map (·.r)
    rw [show lst.toArray.toList = lst from rfl, hlst] at this
    exact this
  · rw [List.pairwise_map, List.pairwise_iff_getElem]
    intro i j hi hj hij
    have hi2 : i < d'.size := by simpa using hi
    have hj2 : j < d'.size := by simpa using hj
    have := hsort i j (Nat.zero_le _) hij (by omega)
    rw [hbang i hi2, hbang j hj2] at this
    unfold ltOf cfS at this
    exact of_decide_eq_false this
  · obtain ⟨hi, rfl⟩ := List.getElem?_eq_some_iff.1 hr
    have hi2 : i < d'.size := by simpa using hi
    intro j x hx
    have hj6 : j < 6 := (List.getElem?_eq_some_iff.1 hx).1
    have hc := (hH'.cell hi2 hj6).1
    rw [hbang i hi2] at hc
    have e1 : (encS d'[i])[j]! = x := by
      rw [getElem!_pos (encS d'[i]) j hj6]
      have := List.getElem?_eq_some_iff.1 hx
      obtain ⟨_, hh2⟩ := this
      rw [← hh2]
      simp [encS]
    rw [e1, Nat.zero_add] at hc
    by_cases hj0 : j = 0
    · subst hj0; rw [if_pos rfl]; simpa using hc
    · rw [if_neg hj0]; exact hc
  · obtain ⟨x, hx, rfl⟩ := List.mem_map.1 hr
    exact x.hi.keptC ch (fun b e q => x.hs (by rw [e, q])) (fun b e q => x.he (by rw [e, q]))
end Go.Proofs.Ytnapkomjegbhcaa
