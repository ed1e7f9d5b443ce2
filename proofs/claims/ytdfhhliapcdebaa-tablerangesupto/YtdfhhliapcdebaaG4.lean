/- What Row answers of any fields. -/
import Derived.Test.YtdfhhliapcdebaaG3
import Derived.Test.YtdfhhliapcdebaaG2
import Derived.Deep.RegionHeld3
import Derived.Lib.SlBytesConst
namespace Go.Proofs.Ytdfhhliapcdebaa
open Go.RowKit
set_option linter.unusedVariables false
set_option maxRecDepth 100000

set_option maxHeartbeats 1000000 in
theorem row_any {v : Value} {ls : List (List UInt8)} {w : World} (hr : Rds w v ls) (hl : (M.row ls).length ≤ 1099511627776) (hn : ls.length ≤ 1099511627776) :
    Calls Try.prog 33 #[v] w fun e w' => ∃ v', e = .returned v' ∧ Ow w.heap.size w' v' (M.row ls) ∧ Below w.heap.size w w' := by
  obtain ⟨ao, c, rfl, h1, h2, h4⟩ := hr
  unfold maxLen at h2
  have hvl := vi_len ls.length
  have hrl : (M.rowB ls).length ≤ 1099511627776 := by simp [M.row] at hl; omega
  clear hl
  go_enter Try.func33, Try.ntmps33
  go_wp2_with fail
  refine (varint_any ls.length _ (by omega)).mono ?_
  rintro e w1 ⟨v1, rfl, ho1, hb1⟩
  go_wp2_with fail
  go_loopw [3, 5, 12] (fun out _ i wr => ∃ k : Nat, k ≤ ls.length ∧ i = .int .i64 k ∧ Ow w.heap.size wr out (M.vi ls.length ++ M.rowB (ls.take k)) ∧ Below w.heap.size w wr) (fun _ _ i _ => ls.length - (intOf i).toNat)
  case atStart => exact ⟨0, Nat.zero_le _, rfl, by simpa [M.rowB] using ho1, hb1⟩
  case round =>
    obtain ⟨k, hk, rfl, ho, hb⟩ := hrel
    clear ho1 hb1
    have hB := hb.size
    by_cases hlt : k < ls.length
    · obtain ⟨a, u, rfl, hc, hru⟩ := h4 k hlt
      have hcx : wr.cell? (a.add k) = some u := by rw [hb.cell (World.block_lt_of_cell? w _ hc)]; exact hc
      have hfl := M.rowB_field ls k hlt
      have hvf := vi_len ls[k].length
      have hsn := M.rowB_snoc ls k hlt
      have HSN : Hid _ := hsn
      have hru' := hru
      obtain ⟨au, cu, rfl, u1, u2, _, _⟩ := hru
      unfold maxLen at u2
      have hdl : (M.vi ls.length ++ M.rowB (ls.take k)).length + (M.vi ls[k].length).length + ls[k].length ≤ 1099511628000 := by simp only [List.length_append]; omega
      generalize hcur : M.vi ls.length ++ M.rowB (ls.take k) = cur at *
      generalize hfk : ls[k] = fk at *
      have HC : Hid _ := And.intro hcur hfk
      clear hcur hsn hfl hc h4
      go_wp2_with fail
      refine (varint_any fk.length _ (by omega)).mono ?_
      rintro e w2 ⟨v2, rfl, ho2, hb2⟩
      have ho' := ho.below hb2 (Nat.le_refl _)
      have hb' : Below w.heap.size w w2 := hb.trans (hb2.mono hB)
      have hB2 := hb'.size
      go_wp2_with (first | (at_builtin; refine wpList_app rfl _ _ rfl w.heap.size _ cur rfl ho' _ (M.vi fk.length) rfl ho2.rd hB2 (by omega) ?_; intro v3 w3 ho3 hb3 hg3) | (at_builtin; refine wpList_app rfl _ _ rfl w.heap.size _ (cur ++ M.vi fk.length) rfl ho3 _ fk rfl ?r1 ?r2 ?r3 ?_; rotate_right; intro v4 w4 ho4 hb4 hg4) | fail)
      case r1 => exact hru'.below (hb'.trans hb3) (Nat.le_refl _)
      case r2 => exact (hb'.trans hb3).size
      case r3 => rw [List.length_append]; omega
      refine ⟨⟨k + 1, by omega, by go_num, ?_, (hb'.trans hb3).trans hb4⟩, by simp [intOf]; omega⟩
      have e : M.vi ls.length ++ M.rowB (ls.take (k + 1)) = cur ++ M.vi fk.length ++ fk := by
        rw [HSN.out, ← HC.out.1]; simp
      rw [e]; exact ho4
    · obtain rfl : k = ls.length := by omega
      go_wp2_with fail
      go_ret
      refine ⟨_, rfl, ?_, hb⟩
      rw [List.take_of_length_le (Nat.le_refl _)] at ho
      exact ho
end Go.Proofs.Ytdfhhliapcdebaa

/- What pairRow answers of a pair. -/
namespace Go.Proofs.Ytdfhhliapcdebaa
open Go.RowKit
set_option linter.unusedVariables false
set_option maxRecDepth 100000

/-- Three texts in a new block. -/
theorem rds_three (w : World) (H : Nat) (hH : w.heap.size = H) {x y z : Value} {k l m : List UInt8} (t : TypeId) (h1 : Rd w x k) (h2 : Rd w y l) (h3 : Rd w z m) : Rds (w.alloc (.cells #[x, y, z] t)) (.slice (some ⟨H, 0, none⟩) 3 3) [k, l, m] := by
  subst hH
  have hb := bel_al w (.cells #[x, y, z] t)
  refine ⟨some ⟨w.heap.size, 0, none⟩, 3, rfl, by simp, by simp [maxLen], fun i hi => ?_⟩
  have hc : ∀ j u, #[x, y, z][j]? = some u → (w.alloc (.cells #[x, y, z] t)).cell? ((⟨w.heap.size, 0, none⟩ : Addr).add j) = some u := fun j u e => by
    rw [Addr.add_lit, Nat.zero_add, World.cell?_alloc_at _ _ _ _ rfl]; exact e
  match i, hi with
  | 0, _ => exact ⟨_, x, rfl, hc 0 x rfl, h1.below hb (Nat.le_refl _)⟩
  | 1, _ => exact ⟨_, y, rfl, hc 1 y rfl, h2.below hb (Nat.le_refl _)⟩
  | 2, _ => exact ⟨_, z, rfl, hc 2 z rfl, h3.below hb (Nat.le_refl _)⟩

theorem rd_oneH (w : World) (H : Nat) (hH : w.heap.size = H) (z : Int) (b : UInt8) (hz : z = (b.toNat : Int)) (t : TypeId) : Rd (w.alloc (.cells #[.int .u8 z] t)) (.slice (some ⟨H, 0, none⟩) 1 1) [b] := by
  subst hH; exact rd_one w z b hz t
theorem prow_len (p : P3) : (M.prow p).length ≤ p.1.length + p.2.1.length + 60 := by
  have h0 := vi_len (0 + 1 + 1 + 1)
  have h1 := vi_len p.1.length
  have h2 := vi_len p.2.1.length
  have h3 := vi_len (0 + 1)
  simp only [M.prow, M.row, M.rowB, List.length_append, List.length_cons, List.length_nil]
  have e : ([if p.2.2 then (1 : UInt8) else 0]).length = 1 := rfl
  omega

set_option maxHeartbeats 1000000 in
theorem pairrow_any {x y : Value} {p : P3} {w : World} (h1 : Rd w x p.1) (h2 : Rd w y p.2.1) (hl : p.1.length + p.2.1.length ≤ 1099511627000) :
    Calls Try.prog 31 #[.agg #[x, y, .bool p.2.2]] w fun e w' => ∃ v', e = .returned v' ∧ Ow w.heap.size w' v' (M.prow p) ∧ Below w.heap.size w w' := by
  have hlen := prow_len p
  have hrow : ∀ (z : Value) (W : World), Rds W z [p.1, p.2.1, [if p.2.2 then 1 else 0]] → Below w.heap.size w W → Calls Try.prog 33 #[z] W fun e w' => ∃ v', e = .returned v' ∧ Ow w.heap.size w' v' (M.prow p) ∧ Below w.heap.size w w' := fun z W hz hW => by
    refine (row_any hz (by unfold M.prow at hlen; omega) (by simp)).mono ?_
    rintro e w' ⟨v', rfl, ho, hb⟩
    exact ⟨v', rfl, ho.mono hW.size, hW.trans (hb.mono hW.size)⟩
  clear hlen
  obtain ⟨k, v, g⟩ := p
  simp only [] at *
  generalize hR : M.prow (k, v, g) = R at *
  clear hR
  have q1 := h1
  have q2 := h2
  obtain ⟨ax, cx, rfl, _⟩ := h1
  obtain ⟨ay, cy, rfl, _⟩ := h2
  cases g
  all_goals
    go_enter Try.func31, Try.ntmps31
    go_wp2_with fail
    refine (hrow _ _ ?ha ?hb).mono ?_
    case ha => exact rds_three _ _ (by simp) _ ((q1.alloc _).alloc _) ((q2.alloc _).alloc _) (rd_oneH _ _ (by simp) _ _ rfl _)
    case hb => exact ((bel_al w _).alloc (by simp) _).alloc (by simp; omega) _
    rintro e w' ⟨v', rfl, ho, hb⟩
    go_wp2_with fail
    go_ret
    exact ⟨_, rfl, ho, hb⟩
end Go.Proofs.Ytdfhhliapcdebaa

/- What Build answers of any pairs. -/
namespace Go.Proofs.Ytdfhhliapcdebaa
open Go.RowKit
set_option linter.unusedVariables false
set_option maxRecDepth 100000

theorem rows_tot (ps : List P3) : (M.rowB (ps.map M.prow)).length ≤ 30 * totP ps := by
  induction ps with
  | nil => simp [M.rowB]
  | cons p r ih =>
    have h1 := prow_len p
    have h2 := vi_len (M.prow p).length
    simp only [List.map_cons, M.rowB, List.length_append, totP]
    omega
theorem row_tot (ps : List P3) : (M.row (ps.map M.prow)).length ≤ 30 * totP ps + 10 := by
  have h1 := rows_tot ps
  have h2 := vi_len (ps.map M.prow).length
  simp only [M.row, List.length_append]
  omega

theorem Try.infoL : (Try.prog.info? 25).map (fun i => (i.zero, i.size, i.bytes)) = some (some (.slice none 0 0), 1, 24) := by kernel_rfl
theorem lists_made {w : World} {B g n : Nat} (h : w.ownsRow B 25 1 (.slice (some ⟨g, 0, none⟩) n n) n (madeCells (Value.slice none 0 0).cells (n * 1)).toList) : w.ownsRow B 25 1 (.slice (some ⟨g, 0, none⟩) n n) n (List.replicate n (.slice none 0 0)) := by
  have e : (madeCells (Value.slice none 0 0).cells (n * 1)).toList = List.replicate n (Value.slice none 0 0) := by
    rw [show (Value.slice none 0 0).cells = #[Value.slice none 0 0] from rfl, toList_madeCells_one]
    simp
  rw [← e]; exact h
theorem row_put {w : World} {B : Nat} {e : TypeId} {size n g : Nat} {v : Value} {xs : List Value} (h : w.ownsRow B e size v n xs) (hv : v.ownBlock = some g) (j : Nat) (u : Value) : (w.setCell ⟨g, j, none⟩ u).ownsRow B e size v n (xs.set j u) := by
  refine ⟨by rw [List.length_set]; exact h.1, ?_⟩
  rcases h.2 with ⟨q, q0⟩ | ⟨g', cap, cur, q, hB, hg, q1, q2, q3, q4⟩
  · rw [q] at hv; cases hv
  · rw [q] at hv
    obtain rfl : g' = g := Option.some.inj hv
    refine .inr ⟨g', cap, cur.setIfInBounds j u, q, hB, by rw [heap_setCell_same _ _ j _ _ _ hg], q1, q2, by rw [Array.size_setIfInBounds]; exact q3, ?_⟩
    rw [← q4]
    simp [List.take_set]
theorem row_froz {w : World} {B : Nat} {e : TypeId} {size n c k g : Nat} {xs : List Value} (h : w.ownsRow B e size (.slice (some ⟨g, 0, none⟩) n c) k xs) (j : Nat) : w.frozen? ⟨g, j, none⟩ = false := by
  rcases h.2 with ⟨q, q0⟩ | ⟨g', cap, cur, q, hB, hg, _⟩
  · cases q
  · simp only [Value.slice.injEq, Option.some.injEq, Addr.mk.injEq, and_true] at q
    rw [q.1]; exact frozen_of_row _ _ _ _ _ hg

/-- The array of fields while it is filled: the first k are told. -/
structure Fil (B g : Nat) (ls : List (List UInt8)) (k : Nat) (us : List Value) (w : World) : Prop where
  row : w.ownsRow B 25 1 (.slice (some ⟨g, 0, none⟩) ls.length ls.length) ls.length us
  el : ∀ i u l, i < k → us[i]? = some u → ls[i]? = some l → Rd w u l ∧ ∀ b, u.ownBlock = some b → b ≠ g

theorem Fil.below {B g : Nat} {ls : List (List UInt8)} {k : Nat} {us : List Value} {w w' : World} (h : Fil B g ls k us w) (hb : Below w.heap.size w w') : Fil B g ls k us w' :=
  ⟨ownsRow_belW h.row hb (Nat.le_refl _), fun i u l hi e1 e2 => ⟨(h.el i u l hi e1 e2).1.below hb (Nat.le_refl _), (h.el i u l hi e1 e2).2⟩⟩
theorem Fil.put {B g : Nat} {ls : List (List UInt8)} {k : Nat} {us : List Value} {w : World} (h : Fil B g ls k us w) {u : Value} {l : List UInt8} (hl : ls[k]? = some l) (hu : Rd w u l) (hg : ∀ b, u.ownBlock = some b → b ≠ g) : Fil B g ls (k + 1) (us.set k u) (w.setCell ⟨g, k, none⟩ u) := by
  have hch : Chg (fun b => b = g) w (w.setCell ⟨g, k, none⟩ u) := (Chg.refl _ w).put g k u rfl
  have hul : us.length = ls.length := by have := h.row.1; simpa using this
  refine ⟨row_put h.row rfl k u, fun i x m hi e1 e2 => ?_⟩
  by_cases hik : i = k
  · subst hik
    have hlt : i < us.length := by have := (List.getElem?_eq_some_iff.1 hl).1; omega
    rw [List.getElem?_set_self hlt] at e1
    obtain rfl := Option.some.inj e1
    rw [hl] at e2
    obtain rfl := Option.some.inj e2
    exact ⟨hu.keptC hch (fun b e q => hg b e q), hg⟩
  · rw [List.getElem?_set_ne (by omega)] at e1
    have := h.el i x m (by omega) e1 e2
    exact ⟨this.1.keptC hch (fun b e q => this.2 b e q), this.2⟩
theorem Fil.rds {B g : Nat} {ls : List (List UInt8)} {us : List Value} {w : World} (h : Fil B g ls ls.length us w) : Rds w (.slice (some ⟨g, 0, none⟩) ls.length ls.length) ls := by
  have hul : us.length = ls.length := by have := h.row.1; simpa using this
  obtain ⟨a, c, e, h1, h2, _, h4⟩ := row_reads h.row
  simp only [Value.slice.injEq, true_and] at e
  obtain ⟨rfl, rfl⟩ := e
  refine ⟨_, _, rfl, Nat.le_refl _, h2, fun i hi => ?_⟩
  have hu : us[i]? = some (us[i]'(by omega)) := by simp [show i < us.length by omega]
  obtain ⟨g', eg, hc⟩ := h4 i _ hu
  simp only [Option.some.injEq, Addr.mk.injEq, and_true] at eg
  subst eg
  exact ⟨_, us[i]'(by omega), rfl, by rw [Addr.add_lit, Nat.zero_add]; exact hc, (h.el i _ _ hi hu (by simp [hi])).1⟩

set_option maxHeartbeats 2000000 in
theorem build_any {v : Value} {ps : List P3} {w : World} (hr : RdQ w v ps) (hl : totP ps ≤ 4194304) :
    Calls Try.prog 11 #[v] w fun e w' => ∃ v', e = .returned (.tuple #[v', .int .i64 (M.bld ps).2]) ∧ Ow w.heap.size w' v' (M.bld ps).1 ∧ Below w.heap.size w w' := by
  have hpl := totP_len ps
  have hrt := row_tot ps
  have hris := rising_any hr
  obtain ⟨ao, c, rfl, h1, h2, h4⟩ := hr
  unfold maxLen at h2
  by_cases hri : M.ris ps = true
  · have e : M.bld ps = (M.tab ps, 0) := by unfold M.bld; rw [if_pos hri]
    rw [e]
    rw [hri] at hris
    clear e
    unfold M.tab
    obtain ⟨i, hi, hz0, hz1, hz2⟩ := info_parts Try.infoL
    have hml : (ps.map M.prow).length = ps.length := by simp
    go_enter Try.func11, Try.ntmps11
    go_wp2_with fail
    refine hris.mono ?_
    rintro e w0 ⟨rfl, n0, rfl⟩
    go_wp2_with (first | (at_make; refine wpList_make_full _ rfl _ _ 64 rfl w.heap.size 25 i _ 1 Try.underlying64 hi hz0 hz1 _ _ _ _ ps.length rfl rfl rfl rfl (by rw [hz2]; omega) (by unfold maxLen; omega) (Nat.le_refl _) ?_; intro w1 hown hgr) | fail)
    have hb1 : Below w.heap.size w w1 := ((Below.dN w n0).grown hgr (Nat.le_refl _) (fun k e => by cases e))
    have hf1 : Fil w.heap.size w.heap.size (ps.map M.prow) 0 (List.replicate ps.length (.slice none 0 0)) w1 := ⟨by rw [hml]; exact lists_made hown, fun i u l h => by omega⟩
    clear hown hgr
    go_loopw [5, 6, 15] (fun _ _ i wr => ∃ (k : Nat) (us : List Value), k ≤ ps.length ∧ i = .int .i64 k ∧ Fil w.heap.size w.heap.size (ps.map M.prow) k us wr ∧ Below w.heap.size w wr ∧ w.heap.size < wr.heap.size) (fun _ _ i _ => ps.length - (intOf i).toNat)
    case atStart => exact ⟨0, _, Nat.zero_le _, rfl, hf1, hb1, by
      have := hf1.row
      obtain ⟨g, hg⟩ : ∃ g, g = w.heap.size := ⟨_, rfl⟩
      exact (World.ownsRow.lt this _ rfl).2⟩
    case round =>
      obtain ⟨k, us, hk, rfl, hf, hb, hsz⟩ := hrel
      clear hf1 hb1 hris
      by_cases hlt : k < ps.length
      · obtain ⟨p, hp⟩ : ∃ p, ps[k]? = some p := ⟨_, List.getElem?_eq_getElem hlt⟩
        have hm := totP_mem ps p (List.mem_of_getElem? hp)
        obtain ⟨a, u1, u2, rfl, hpa⟩ := h4 k p hp
        have hpr := hpa.below hb (Nat.le_refl _)
        have c0 := hpr.c0
        have c1 := hpr.c1
        have c2 := hpr.c2
        have r1 := hpr.r1
        have r2 := hpr.r2
        have hq : (ps.map M.prow)[k]? = some (M.prow p) := by rw [List.getElem?_map, hp]; rfl
        clear hpa hpr h4
        obtain ⟨pk, pv, pg⟩ := p
        simp only [] at *
        have q1 := r1
        have q2 := r2
        obtain ⟨x1, y1, rfl, _⟩ := r1
        obtain ⟨x2, y2, rfl, _⟩ := r2
        have hul : us.length = ps.length := by have := hf.row.1; simpa using this
        have hki : (k : Int) < (ps.length : Int) := by omega
        go_wp2_with fail
        refine (pairrow_any (p := (pk, pv, pg)) (q1.alloc _) (q2.alloc _) (by simp only []; omega)).mono ?_
        rintro e w2 ⟨v2, rfl, ho2, hb2⟩
        have hf2 := (hf.below (bel_al wr _)).below hb2
        have hB2 : Below wr.heap.size wr w2 := Below.tr (bel_al wr _) hb2
        have hfz := row_froz hf2.row k
        have hcell : w2.cell? ⟨w.heap.size, k, none⟩ = some (us[k]'(by omega)) := by
          obtain ⟨_, _, er, _, _, _, r4⟩ := row_reads hf2.row
          simp only [Value.slice.injEq, true_and] at er
          obtain ⟨rfl, rfl⟩ := er
          obtain ⟨g', eg, hc⟩ := r4 k (us[k]'(by omega)) (by simp [show k < us.length by omega])
          simp only [Option.some.injEq, Addr.mk.injEq, and_true] at eg
          rw [eg]; exact hc
        have hs2 := hB2.size
        have hlt2 : ∀ b, v2.ownBlock = some b → b ≠ w.heap.size := fun b e q => by
          have := (World.ownsRow.lt ho2 b e).1
          simp at this
          omega
        have hf3 := hf2.put hq ho2.rd hlt2
        obtain ⟨a2, d2, rfl⟩ := ho2.shape
        have HF : Hid _ := And.intro hf3 (And.intro (hb.trans (hB2.mono hb.size)) hs2)
        clear hf3 hf2 ho2 hb2 hB2 hf hb c0 c1 c2 q1 q2
        go_wp2_with fail
        refine ⟨⟨k + 1, us.set k _, by omega, by go_num, HF.out.1, ?_, ?_⟩, by simp [intOf]; omega⟩
        · exact HF.out.2.1.trans (((Chg.refl (fun b => b = w.heap.size) w2).put w.heap.size k _ rfl).below (fun b q => by omega) (by have := HF.out.2.2; omega))
        · have := HF.out.2.2; simp; omega
      · obtain rfl : k = ps.length := by omega
        clear h4
        have hrds : Rds wr (.slice (some ⟨w.heap.size, 0, none⟩) ps.length ps.length) (ps.map M.prow) := by
          rw [← hml] at hf ⊢
          exact hf.rds
        go_wp2_with fail
        refine (row_any hrds (by omega) (by omega)).mono ?_
        rintro e w2 ⟨v2, rfl, ho2, hb2⟩
        go_wp2_with fail
        refine (frame_any ho2.rd (by omega)).mono ?_
        rintro e w3 ⟨v3, rfl, ho3, hb3⟩
        go_wp2_with fail
        go_ret2
        have hs := hb.size
        have hs2 := hb2.size
        exact ⟨_, rfl, ho3.mono (by omega), hb.trans ((Below.tr hb2 hb3).mono hs)⟩
  · have e : M.bld ps = ([], 51) := by unfold M.bld; rw [if_neg hri]
    rw [e]
    have hf : M.ris ps = false := by simpa using hri
    rw [hf] at hris
    clear e h4
    go_enter Try.func11, Try.ntmps11
    go_wp2_with fail
    refine hris.mono ?_
    rintro e w0 ⟨rfl, n0, rfl⟩
    go_wp2_with fail
    go_ret2
    exact ⟨_, rfl, Ow.nil _ _, Below.dN _ _⟩
end Go.Proofs.Ytdfhhliapcdebaa

/- What readField and TakeRow answer of any bytes. -/
namespace Go.Proofs.Ytdfhhliapcdebaa
open Go.RowKit
set_option linter.unusedVariables false
set_option maxRecDepth 100000

theorem Try.info25 : (Try.prog.info? 25).map (fun i => (i.zero, i.size, i.bytes)) = some (some (.slice none 0 0), 1, 24) := by kernel_rfl

theorem part_drop (l : List UInt8) (n : Nat) : (M.part l n).2.1.length ≤ l.length := by
  unfold M.part; split <;> simp

theorem rfield_any {v : Value} {l : List UInt8} {w : World} (hr : Rd w v l) :
    Calls Try.prog 58 #[v] w fun e w' => ∃ v1 v2, e = .returned (.tuple #[v1, v2, .int .i64 (M.fd l).2.2]) ∧ (∀ w0, Rd w0 v l → Rd w0 v1 (M.fd l).1 ∧ Rd w0 v2 (M.fd l).2.1) ∧ ∃ k, w' = w.drewN k := by
  have hrv := rvar_any2 hr
  have htl := tv_lt l
  unfold M.fd
  generalize M.tv l = r at *
  obtain ⟨n, rest, er⟩ := r
  simp only [] at *
  by_cases her : er ≠ 0
  · rw [if_pos her]
    have hne : (((er : Nat) : Int) != 0) = true := by simp; omega
    go_enter Try.func58, Try.ntmps58
    go_wp2_with (go_at_call 48; refine hrv.mono ?_; rintro e w1 ⟨v2, rfl, hr2, k1, rfl⟩)
    go_ret3
    exact ⟨_, _, rfl, fun _ _ => ⟨Rd.nil _, Rd.nil _⟩, _, rfl⟩
  · rw [if_neg her]
    obtain rfl : er = 0 := by omega
    generalize hP : M.part rest n = P
    have HP : Hid _ := hP
    clear hP
    go_enter Try.func58, Try.ntmps58
    go_wp2_with fail
    refine hrv.mono ?_
    rintro e w1 ⟨v2, rfl, hr2, k1, rfl⟩
    go_wp2_with fail
    refine (part_any2 ((hr2 _ hr).drewN k1) htl).mono ?_
    rintro e w2 ⟨u1, u2, rfl, hu, k2, rfl⟩
    rw [HP.out] at hu ⊢
    go_wp2_with fail
    go_ret3
    exact ⟨_, _, rfl, fun w0 h0 => hu w0 (hr2 w0 h0), k1 + k2, rfl⟩

set_option maxHeartbeats 2000000 in
theorem takerow_any {v : Value} {l : List UInt8} {w : World} (hr : Rd w v l) (hl : l.length ≤ 1099511627776) :
    Calls Try.prog 37 #[v] w fun e w' => ∃ v' us, e = .returned (.tuple #[v', .int .i64 (M.tr l).2]) ∧ Ows w.heap.size w' v' (M.tr l).1 us ∧ Below w.heap.size w w' := by
  have hrv := rvar_any hr
  have htl := tv_lt l
  have hll := tv_len l
  by_cases her : (M.tv l).2.2 ≠ 0
  · have e : M.tr l = ([], (M.tv l).2.2) := by unfold M.tr; rw [if_pos her]
    rw [e]
    generalize M.tv l = r at *
    obtain ⟨n, rest, er⟩ := r
    simp only [] at *
    have hne : (((er : Nat) : Int) != 0) = true := by simp; omega
    clear e
    go_enter Try.func37, Try.ntmps37
    go_wp2_with (go_at_call 48; refine hrv.mono ?_; rintro e w1 ⟨v2, rfl, hr2, k1, rfl⟩)
    go_ret2
    exact ⟨_, _, rfl, Ows.nil _ _, Below.dN _ _⟩
  · have her' : (M.tv l).2.2 = 0 := by simpa using her
    by_cases hsh : (M.tv l).2.1.length < (M.tv l).1
    · have e : M.tr l = ([], 12) := by unfold M.tr; rw [if_neg her, if_pos hsh]
      rw [e]
      clear e her
      generalize M.tv l = r at *
      obtain ⟨n, rest, er⟩ := r
      simp only [] at *
      subst her'
      go_enter Try.func37, Try.ntmps37
      go_wp2_with fail
      refine hrv.mono ?_
      rintro e w1 ⟨v2, rfl, hr2, k1, rfl⟩
      obtain ⟨ao, c, rfl, g1, g2, g3, g4⟩ := hr2
      clear g3 g4
      unfold maxLen at g2
      go_wp2_with fail
      go_ret2
      exact ⟨_, _, rfl, Ows.nil _ _, Below.dN _ _⟩
    · have e := M.tr_rfA l her' (by omega)
      generalize M.tr l = T at *
      have HT : Hid _ := e
      clear e her
      generalize M.tv l = r at *
      obtain ⟨n, rest, er⟩ := r
      simp only [] at *
      subst her'
      go_enter Try.func37, Try.ntmps37
      go_wp2_with fail
      refine hrv.mono ?_
      rintro e w1 ⟨v2, rfl, hr2, k1, rfl⟩
      have hr2' := hr2
      obtain ⟨ao, c, rfl, g1, g2, g3, g4⟩ := hr2
      clear g3 g4
      unfold maxLen at g2
      go_wp2_with fail
      go_loopw [0, 6, 7, 8, 9, 25] (fun b fields _ _ _ i wr => ∃ (k : Nat) (fs : List (List UInt8)) (l2 : List UInt8) (us : List Value), k ≤ n ∧ i = .int .u64 k ∧ fs.length = k ∧ Rd w b l2 ∧ l2.length ≤ rest.length ∧ Hid (M.rfA (n - k) fs l2 = M.rfA n [] rest) ∧ Ows w.heap.size wr fields fs us ∧ Below w.heap.size w wr) (fun _ _ _ _ _ i _ => n - (intOf i).toNat)
      case atStart => exact ⟨0, [], rest, [], Nat.zero_le _, rfl, rfl, hr2', Nat.le_refl _, rfl, Ows.nil _ _, Below.dN _ _⟩
      case round =>
        obtain ⟨k, fs, l2, us, hk, rfl, hfl, hrb, hl2, HE, hos, hb⟩ := hrel
        clear hr2'
        have hB := hb.size
        by_cases hlt : k < n
        · have hfd := M.fd_len l2 (tv_len l2)
          have HF : Hid (if (M.fd l2).2.2 ≠ 0 then T = ([], (M.fd l2).2.2) else M.rfA (n - (k + 1)) (fs ++ [(M.fd l2).1]) (M.fd l2).2.1 = M.rfA n [] rest) := by
            have h1 := HE.out
            obtain ⟨q, hq⟩ : ∃ q, n - k = q + 1 := ⟨n - k - 1, by omega⟩
            rw [hq, M.rfA] at h1
            by_cases h2 : (M.fd l2).2.2 ≠ 0
            · rw [if_pos h2] at h1
              have h3 := HT.out
              rw [← h1] at h3
              show ite _ _ _
              rw [if_pos h2, h3, if_pos h2]
            · rw [if_neg h2] at h1
              show ite _ _ _
              rw [if_neg h2, show n - (k + 1) = q by omega]
              exact h1
          have hrb' := hrb.below hb (Nat.le_refl _)
          have hfield := rfield_any hrb'
          have hlf : fs.length ≤ 1099511627776 := by omega
          have hrb2 := hrb
          obtain ⟨ab, cb, rfl, b1, b2, _, _⟩ := hrb
          unfold maxLen at b2
          generalize M.fd l2 = F at *
          obtain ⟨f1, f2, fe⟩ := F
          simp only [] at *
          clear HE
          by_cases hfe : fe ≠ 0
          · have hT : T = ([], fe) := by
              have := HF.out; rw [if_pos hfe] at this; exact this
            subst hT
            have hne : (((fe : Nat) : Int) != 0) = true := by simp; omega
            clear HF HT
            go_wp2_with fail
            refine hfield.mono ?_
            rintro e w2 ⟨u1, u2, rfl, hu, k2, rfl⟩
            go_wp2_with fail
            go_ret2
            exact ⟨_, rfl, ⟨_, Ows.nil _ _⟩, hb.trans ((Below.dN wr k2).mono hB)⟩
          · obtain rfl : fe = 0 := by omega
            have HG : Hid (M.rfA (n - (k + 1)) (fs ++ [f1]) f2 = M.rfA n [] rest) := by
              have := HF.out; rw [if_neg hfe] at this; exact this
            clear HF hfe
            go_wp2_with fail
            refine hfield.mono ?_
            rintro e w2 ⟨u1, u2, rfl, hu, k2, rfl⟩
            have hos2 := hos.below (Below.dN wr k2) (Nat.le_refl _)
            have hu1 := (hu _ hrb').1
            have hu2 := (hu _ hrb2).2
            clear hu
            go_wp2_with fail
            refine (clone_any (hu1.drewN k2) (by omega)).mono ?_
            rintro e w3 ⟨u3, rfl, ho3, hb3⟩
            have hos3 := hos2.below hb3 (Nat.le_refl _)
            have hB3 : w.heap.size ≤ w3.heap.size := Nat.le_trans hB hb3.size
            have hul := hos.len
            have h24 := Try.info25
            obtain ⟨a3, c3, e3⟩ := ho3.shape
            subst e3
            go_wp2_with (first | (at_builtin; (refine wpList_app1 rfl _ _ 64 rfl w.heap.size 25 (.slice none 0 0) 24 Try.underlying64 h24 rfl _ us.length us rfl (World.ownsRow.alloc hos3.row _) _ _ _ rfl (cell_new1 _ _ _) rfl ?hmx ?hmy ?hmz ?_; rotate_right; intro v4 w4 ho4 hg4 hw4)) | fail)
            case hmx => unfold maxLen; omega
            case hmy => omega
            case hmz => rw [World.size_alloc]; omega
            have hos4 : Ows w.heap.size w4 v4 (fs ++ [f1]) (us ++ [.slice a3 f1.length c3]) := hos2.snoc hb3 (Nat.le_refl _) ho3 hB ho4 hg4 hw4
            have hb4 : Below w.heap.size w w4 := ((hb.trans ((Below.dN wr k2).mono hB)).trans (hb3.mono hB)).trans (((Below.refl w.heap.size w3).alloc hB3 _).trans ((Below.refl w.heap.size _).grown hg4 (by rw [World.size_alloc]; omega) (fun k hk => (World.ownsRow.lt hos3.row k hk).1)))
            refine ⟨⟨k + 1, fs ++ [f1], f2, us ++ [.slice a3 f1.length c3], by omega, by go_num, by simp [hfl], ?_, by omega, HG, hos4, hb4⟩, by simp [intOf]; omega⟩
            exact hu2
        · obtain rfl : k = n := by omega
          have hT : T = if l2.length ≠ 0 then ([], 12) else (fs, 0) := by
            have h1 := HT.out
            rw [← HE.out, Nat.sub_self] at h1
            simpa [M.rfA] using h1
          clear HT HE
          obtain ⟨ab, cb, rfl, b1, b2, _, _⟩ := hrb
          unfold maxLen at b2
          by_cases h0 : l2.length ≠ 0
          · rw [if_pos h0] at hT
            subst hT
            go_wp2_with fail
            go_ret2
            exact ⟨_, rfl, ⟨_, Ows.nil _ _⟩, hb⟩
          · rw [if_neg h0] at hT
            subst hT
            go_wp2_with fail
            go_ret2
            exact ⟨_, rfl, ⟨_, hos⟩, hb⟩
end Go.Proofs.Ytdfhhliapcdebaa

/- What the document's own Build answers of any pairs. -/
namespace Go.Proofs.Ytdfhhliapcdebaa
open Go.RowKit
set_option linter.unusedVariables false
set_option maxRecDepth 100000

theorem rcmp_q {va vb : Value} {la lb : List UInt8} {w : World} (ha : Rd w va la) (hb : Rd w vb lb) (q : Nat) : Calls Try.prog 34 #[va, vb] (w.drewN q) fun e w' => e = .returned (.int .i64 (M.cmpL la lb)) ∧ ∃ n, w' = w.drewN n := by
  refine (rcmp_any (ha.drewN q) (hb.drewN q)).mono ?_
  rintro _ w' ⟨rfl, n, rfl⟩
  exact ⟨rfl, q + n, World.drewN_drewN _ _ _⟩

theorem mark_set {wr W : World} (h1 : Below wr.heap.size wr W) (h2 : W.heap.size = wr.heap.size + 1) (y0 : W.cell? ⟨wr.heap.size, 0, none⟩ = some (.int .u8 0)) : Below wr.heap.size wr (W.setCell ⟨wr.heap.size, 0, none⟩ (.int .u8 1)) ∧ (W.setCell ⟨wr.heap.size, 0, none⟩ (.int .u8 1)).heap.size = wr.heap.size + 1 ∧ Rd (W.setCell ⟨wr.heap.size, 0, none⟩ (.int .u8 1)) (.slice (some ⟨wr.heap.size, 0, none⟩) 1 1) [1] := by
  refine ⟨h1.trans (((Chg.refl (fun b => b = wr.heap.size) W).put wr.heap.size 0 _ rfl).below (fun b q => by omega) (by omega)), by simp [h2], Rd.mk rfl (by simp) (by simp [maxLen]) (fun i hi => ?_)⟩
  obtain rfl : i = 0 := by simpa using hi
  rw [show (⟨wr.heap.size, 0, none⟩ : Addr).add 0 = ⟨wr.heap.size, 0, none⟩ from rfl, World.cell?_setCell_same _ _ _ y0]
  rfl

set_option maxHeartbeats 4000000 in
theorem rbuild_any {v : Value} {ps : List P3} {w : World} (hr : RdQ w v ps) (hl : totP ps ≤ 4194304) :
    Calls Try.prog 12 #[v] w fun e w' => ∃ v', e = .returned (.tuple #[v', .int .i64 (M.bld ps).2]) ∧ Ow w.heap.size w' v' (M.bld ps).1 ∧ Below w.heap.size w w' := by
  have hpl := totP_len ps
  have hrt := row_tot ps
  obtain ⟨ao, c, rfl, h1, h2, h4⟩ := hr
  unfold maxLen at h2
  have hml : (ps.map M.prow).length = ps.length := by simp
  generalize hT : M.bld ps = T
  have HT : Hid _ := hT
  clear hT
  have h24 := Try.infoL
  go_enter Try.func12, Try.ntmps12
  go_wp2_with fail
  go_loopw [4, 5, 6] (fun rows i _ wr => ∃ (k : Nat) (us : List Value), k ≤ ps.length ∧ i = .int .i64 k ∧ Ows w.heap.size wr rows ((ps.map M.prow).take k) us ∧ Below w.heap.size w wr ∧ Hid (∀ j p q, j + 1 < k → ps[j]? = some p → ps[j + 1]? = some q → M.cmpL p.1 q.1 < 0)) (fun _ i _ _ => ps.length - (intOf i).toNat)
  case atStart => exact ⟨0, [], Nat.zero_le _, rfl, Ows.nil _ _, Below.refl _ _, (fun j p q hj => by omega)⟩
  case round =>
    obtain ⟨k, us, hk, rfl, ho, hb, HD⟩ := hrel
    have hB := hb.size
    by_cases hlt : k < ps.length
    · obtain ⟨p, hp⟩ : ∃ p, ps[k]? = some p := ⟨_, List.getElem?_eq_getElem hlt⟩
      have hm := totP_mem ps p (List.mem_of_getElem? hp)
      obtain ⟨a, u1, u2, rfl, hpa⟩ := h4 k p hp
      have hpr := hpa.below hb (Nat.le_refl _)
      have c0 := hpr.c0
      have c1 := hpr.c1
      have c2 := hpr.c2
      have hrow : ∀ (z : Value) (W : World), Rds W z [p.1, p.2.1, [if p.2.2 then 1 else 0]] → Below wr.heap.size wr W → Calls Try.prog 35 #[z] W fun e w' => ∃ v', e = .returned v' ∧ Ow wr.heap.size w' v' (M.prow p) ∧ Below wr.heap.size wr w' := fun z W hz hW => by
        refine (rrow_any hz (by have := prow_len p; unfold M.prow at this; omega) (by simp)).mono ?_
        rintro e w' ⟨v', rfl, ho, hb⟩
        exact ⟨v', rfl, ho.mono hW.size, hW.trans (hb.mono hW.size)⟩
      have hq : (ps.map M.prow)[k]? = some (M.prow p) := by rw [List.getElem?_map, hp]; rfl
      have HQ : Hid _ := take_snocP _ k _ hq
      have hul := ho.len
      rw [List.length_take, Nat.min_eq_left (by omega)] at hul
      obtain ⟨xo, yo, hoe⟩ : ∃ xo yo, _ = Value.slice xo k yo := by
        obtain ⟨xo, yo, e, _⟩ := ho.rds
        rw [List.length_take, Nat.min_eq_left (by omega)] at e
        exact ⟨xo, yo, e⟩
      subst hoe
      have hi0 : (0 : Int) ≤ (k : Int) := by omega
      have hi1 : (k : Int) < (ps.length : Int) := by omega
      have kc : ∀ W, Below w.heap.size w W → W.cell? (a.add (k * 3)) = some u1 ∧ W.cell? ⟨(a.add (k * 3)).block, (a.add (k * 3)).off + 1, none⟩ = some u2 ∧ W.cell? ⟨(a.add (k * 3)).block, (a.add (k * 3)).off + 2, none⟩ = some (.bool p.2.2) := fun W hW => by
        have q : ∀ x u, w.cell? x = some u → W.cell? x = some u := fun x u e => by rw [hW.cell (World.block_lt_of_cell? _ _ e)]; exact e
        exact ⟨q _ _ hpa.c0, q _ _ hpa.c1, q _ _ hpa.c2⟩
      have rp : ∀ W, Below w.heap.size w W → Rd W u1 p.1 ∧ Rd W u2 p.2.1 := fun W hW => ⟨hpa.r1.below hW (Nat.le_refl _), hpa.r2.below hW (Nat.le_refl _)⟩
      have hcase : (k < 1 ∧ decide (0 < k) = false) ∨ ∃ m r v1 v2, m + 1 = k ∧ ps[m]? = some r ∧ PairAt wr (a.add (m * 3)) r v1 v2 := by
        cases k with
        | zero => exact .inl ⟨by omega, rfl⟩
        | succ m =>
          obtain ⟨r, hr⟩ : ∃ r, ps[m]? = some r := ⟨_, List.getElem?_eq_getElem (by omega)⟩
          obtain ⟨a', v1, v2, ea, hra⟩ := h4 m r hr
          obtain rfl := Option.some.inj ea
          exact .inr ⟨m, r, v1, v2, rfl, hr, hra.below hb (Nat.le_refl _)⟩
      have r1 := hpr.r1
      obtain ⟨pk, pv, pg⟩ := p
      simp only [] at *
      have fin : ∀ (w2 w3 w5 : World) (x v5 : Value) (o : Obj), Below wr.heap.size wr w2 → Ow wr.heap.size w2 x (M.prow (pk, pv, pg)) → w5.ownsRow w.heap.size 25 1 v5 (us.length + 1) (us ++ [x]) → (w2.alloc o).grownBy w5 (Value.slice xo k yo).ownBlock → (v5.ownBlock = (Value.slice xo k yo).ownBlock ∨ v5.ownBlock = some (w2.alloc o).heap.size) → Ows w.heap.size w5 v5 ((ps.map M.prow).take (k + 1)) (us ++ [x]) ∧ Below w.heap.size w w5 := fun w2 w3 w5 x v5 o g1 g2 g3 g4 g5 => by
        refine ⟨by rw [HQ.out]; exact ho.snoc g1 (Nat.le_refl _) g2 hB g3 g4 g5, ?_⟩
        exact hb.trans ((g1.mono hB).trans (((Below.refl w.heap.size w2).alloc (Nat.le_trans hB g1.size) _).trans ((Below.refl w.heap.size _).grown g4 (by have := g1.size; simp; omega) (fun k hk => (World.ownsRow.lt ho.row k hk).1))))
      have hor := ho.row
      obtain ⟨x1, y1, rfl, _⟩ := hpr.r1
      obtain ⟨x2, y2, rfl, _⟩ := hpr.r2
      rcases hcase with ⟨hk0, hkd⟩ | ⟨m, r, v1, v2, hmk, hr, hra⟩
      · have H0 : Hid (∀ j p q, j + 1 < k + 1 → ps[j]? = some p → ps[j + 1]? = some q → M.cmpL p.1 q.1 < 0) := fun j p q hj _ _ => by omega
        clear h4 hpa hp hpr ho HD
        go_wp2_with fail
        go_quiet (fail)
        have hB1 : Below wr.heap.size wr ((wr.drewN nq).alloc (.cells #[.int .u8 0] 5)) := Below.tr (Below.dN wr nq) (bel_al _ _)
        obtain ⟨z0, z1, z2⟩ := kc _ (hb.trans (hB1.mono hB))
        have y0 : ((wr.drewN nq).alloc (.cells #[.int .u8 0] 5)).cell? ⟨wr.heap.size, 0, none⟩ = some (.int .u8 0) := cell_new1 (wr.drewN nq) _ _
        have yz : ((wr.drewN nq).alloc (.cells #[.int .u8 0] 5)).frozen? ⟨wr.heap.size, 0, none⟩ = false := World.frozen?_alloc_at _ _ _ _ rfl
        have hsz1 : ((wr.drewN nq).alloc (.cells #[.int .u8 0] 5)).heap.size = wr.heap.size + 1 := by simp
        have rd0 : Rd ((wr.drewN nq).alloc (.cells #[.int .u8 0] 5)) (.slice (some ⟨wr.heap.size, 0, none⟩) 1 1) [0] := rd_oneH (wr.drewN nq) _ rfl _ _ rfl _
        have HW1 : Hid _ := And.intro hB1 (And.intro hsz1 rd0)
        cases pg
        · clear hB1 hsz1 rd0
          go_wp2_with fail
          have HW0 := HW1
          clear HW1 y0 yz z0 z1 z2
          generalize ((wr.drewN nq).alloc (.cells #[.int .u8 0] 5)) = W0 at *
          have hsz0 : W0.heap.size = wr.heap.size + 1 := HW0.out.2.1
          have hB0 : Below wr.heap.size wr W0 := HW0.out.1
          have rq3 := HW0.out.2.2
          obtain ⟨z0, z1, z2⟩ := kc W0 (hb.trans (hB0.mono hB))
          obtain ⟨rq1, rq2⟩ := rp W0 (hb.trans (hB0.mono hB))
          have n0 := World.new_ne W0 _ z0
          have n1 := World.new_ne W0 _ z1
          go_region_held3 (fun w' => w'.cell? (a.add (k * 3)) = some (.slice x1 pk.length y1) ∧ w'.cell? ⟨(a.add (k * 3)).block, (a.add (k * 3)).off + 1, none⟩ = some (.slice x2 pv.length y2)) (go_keep) (first
            | (refine step_app1 rfl _ _ 64 rfl w.heap.size 25 (.slice none 0 0) 24 Try.underlying64 h24 rfl (.slice xo (k) yo) us.length us rfl (World.ownsRow.alloc (ownsRow_bel hor hb3 (Nat.le_refl _)) _) _ _ (.slice a3 n3 d3) rfl (cell_new1 w3 _ _) rfl (by unfold maxLen; omega) (by omega) (by rw [World.size_alloc]; omega) ?_; intro v5 w5 ho5 hg5 hv5; obtain ⟨hfa, hfb⟩ := fin w3 w3 w5 _ v5 _ hb3 ho3 ho5 hg5 hv5; obtain ⟨t0, t1, _⟩ := kc w5 hfb; obtain ⟨a5, m5, c5, rfl⟩ := row_shape ho5)
            | (go_at_call 35; refine (hrow _ _ (Rds.below (rds_three W0 _ (by omega) _ rq1 rq2 rq3) (bel_drew _) (Nat.le_refl _)) (Below.tr (Below.tr hB0 (bel_al W0 _)) (bel_drew _))).mono ?_; rintro e w3 ⟨v3, rfl, ho3, hb3⟩; obtain ⟨s0, s1, _⟩ := kc w3 (hb.trans (hb3.mono hB)); have hs3 := hb3.size; obtain ⟨a3, n3, d3, rfl⟩ := row_shape ho3)
            | fail)
          go_wp2_with fail
          exact ⟨⟨k + 1, us ++ [.slice a3 n3 d3], by omega, by go_num, hfa, hfb, H0⟩, by simp [intOf]; omega⟩
        · clear hB1 hsz1 rd0
          go_wp2_with fail
          have HW0 : Hid (Below wr.heap.size wr (((wr.drewN nq).alloc (.cells #[.int .u8 0] 5)).setCell ⟨wr.heap.size, 0, none⟩ (.int .u8 1)) ∧ (((wr.drewN nq).alloc (.cells #[.int .u8 0] 5)).setCell ⟨wr.heap.size, 0, none⟩ (.int .u8 1)).heap.size = wr.heap.size + 1 ∧ Rd (((wr.drewN nq).alloc (.cells #[.int .u8 0] 5)).setCell ⟨wr.heap.size, 0, none⟩ (.int .u8 1)) (.slice (some ⟨wr.heap.size, 0, none⟩) 1 1) [1]) := mark_set HW1.out.1 HW1.out.2.1 y0
          clear HW1 y0 yz z0 z1 z2
          generalize (((wr.drewN nq).alloc (.cells #[.int .u8 0] 5)).setCell ⟨wr.heap.size, 0, none⟩ (.int .u8 1)) = W0 at *
          have hsz0 : W0.heap.size = wr.heap.size + 1 := HW0.out.2.1
          have hB0 : Below wr.heap.size wr W0 := HW0.out.1
          have rq3 := HW0.out.2.2
          obtain ⟨z0, z1, z2⟩ := kc W0 (hb.trans (hB0.mono hB))
          obtain ⟨rq1, rq2⟩ := rp W0 (hb.trans (hB0.mono hB))
          have n0 := World.new_ne W0 _ z0
          have n1 := World.new_ne W0 _ z1
          go_region_held3 (fun w' => w'.cell? (a.add (k * 3)) = some (.slice x1 pk.length y1) ∧ w'.cell? ⟨(a.add (k * 3)).block, (a.add (k * 3)).off + 1, none⟩ = some (.slice x2 pv.length y2)) (go_keep) (first
            | (refine step_app1 rfl _ _ 64 rfl w.heap.size 25 (.slice none 0 0) 24 Try.underlying64 h24 rfl (.slice xo (k) yo) us.length us rfl (World.ownsRow.alloc (ownsRow_bel hor hb3 (Nat.le_refl _)) _) _ _ (.slice a3 n3 d3) rfl (cell_new1 w3 _ _) rfl (by unfold maxLen; omega) (by omega) (by rw [World.size_alloc]; omega) ?_; intro v5 w5 ho5 hg5 hv5; obtain ⟨hfa, hfb⟩ := fin w3 w3 w5 _ v5 _ hb3 ho3 ho5 hg5 hv5; obtain ⟨t0, t1, _⟩ := kc w5 hfb; obtain ⟨a5, m5, c5, rfl⟩ := row_shape ho5)
            | (go_at_call 35; refine (hrow _ _ (Rds.below (rds_three W0 _ (by omega) _ rq1 rq2 rq3) (bel_drew _) (Nat.le_refl _)) (Below.tr (Below.tr hB0 (bel_al W0 _)) (bel_drew _))).mono ?_; rintro e w3 ⟨v3, rfl, ho3, hb3⟩; obtain ⟨s0, s1, _⟩ := kc w3 (hb.trans (hb3.mono hB)); have hs3 := hb3.size; obtain ⟨a3, n3, d3, rfl⟩ := row_shape ho3)
            | fail)
          go_wp2_with fail
          exact ⟨⟨k + 1, us ++ [.slice a3 n3 d3], by omega, by go_num, hfa, hfb, H0⟩, by simp [intOf]; omega⟩
      · have hlt0 : M.cmpL r.1 pk < 0 ∨ 0 ≤ M.cmpL r.1 pk := by omega
        have hcq := fun x => rcmp_q hra.r1 r1 x
        have d0 := hra.c0
        obtain ⟨x3, y3, rfl, _⟩ := hra.r1
        have hmi : (m : Int) < (ps.length : Int) := by omega
        have hsub : ((k : Int) - 1) = (m : Int) := by omega
        have hwr : IntKind.i64.wrap (m : Int) = (m : Int) := wrap64 m (by omega)
        have hkd : decide (0 < k) = true := decide_eq_true (by omega)
        have HR0 : Hid (ps[m]? = some r ∧ ps[m + 1]? = some (pk, pv, pg)) := ⟨hr, by rw [hmk]; exact hp⟩
        have HDD := HD
        clear h4 hpa hp hpr ho HD hra hr
        rcases hlt0 with hneg | hpos
        · have H0 : Hid (∀ j p q, j + 1 < k + 1 → ps[j]? = some p → ps[j + 1]? = some q → M.cmpL p.1 q.1 < 0) := fun j p q hj hp hq => by
            rcases Nat.lt_or_ge (j + 1) k with h | h
            · exact HDD.out j p q h hp hq
            · obtain rfl : j = m := by omega
              rw [HR0.out.1] at hp
              rw [HR0.out.2] at hq
              obtain rfl := Option.some.inj hp
              obtain rfl := Option.some.inj hq
              exact hneg
          clear HDD HR0
          generalize M.cmpL r.1 pk = z at *
          go_wp2_with fail
          go_quiet (first | (go_at_call 34; exact hcq _) | fail)
          have hB1 : Below wr.heap.size wr ((wr.drewN nq).alloc (.cells #[.int .u8 0] 5)) := Below.tr (Below.dN wr nq) (bel_al _ _)
          obtain ⟨z0, z1, z2⟩ := kc _ (hb.trans (hB1.mono hB))
          have y0 : ((wr.drewN nq).alloc (.cells #[.int .u8 0] 5)).cell? ⟨wr.heap.size, 0, none⟩ = some (.int .u8 0) := cell_new1 (wr.drewN nq) _ _
          have yz : ((wr.drewN nq).alloc (.cells #[.int .u8 0] 5)).frozen? ⟨wr.heap.size, 0, none⟩ = false := World.frozen?_alloc_at _ _ _ _ rfl
          have hsz1 : ((wr.drewN nq).alloc (.cells #[.int .u8 0] 5)).heap.size = wr.heap.size + 1 := by simp
          have rd0 : Rd ((wr.drewN nq).alloc (.cells #[.int .u8 0] 5)) (.slice (some ⟨wr.heap.size, 0, none⟩) 1 1) [0] := rd_oneH (wr.drewN nq) _ rfl _ _ rfl _
          have HW1 : Hid _ := And.intro hB1 (And.intro hsz1 rd0)
          cases pg
          · clear hB1 hsz1 rd0
            go_wp2_with fail
            have HW0 := HW1
            clear HW1 y0 yz z0 z1 z2
            generalize ((wr.drewN nq).alloc (.cells #[.int .u8 0] 5)) = W0 at *
            have hsz0 : W0.heap.size = wr.heap.size + 1 := HW0.out.2.1
            have hB0 : Below wr.heap.size wr W0 := HW0.out.1
            have rq3 := HW0.out.2.2
            obtain ⟨z0, z1, z2⟩ := kc W0 (hb.trans (hB0.mono hB))
            obtain ⟨rq1, rq2⟩ := rp W0 (hb.trans (hB0.mono hB))
            have n0 := World.new_ne W0 _ z0
            have n1 := World.new_ne W0 _ z1
            go_region_held3 (fun w' => w'.cell? (a.add (k * 3)) = some (.slice x1 pk.length y1) ∧ w'.cell? ⟨(a.add (k * 3)).block, (a.add (k * 3)).off + 1, none⟩ = some (.slice x2 pv.length y2)) (go_keep) (first
              | (refine step_app1 rfl _ _ 64 rfl w.heap.size 25 (.slice none 0 0) 24 Try.underlying64 h24 rfl (.slice xo (k) yo) us.length us rfl (World.ownsRow.alloc (ownsRow_bel hor hb3 (Nat.le_refl _)) _) _ _ (.slice a3 n3 d3) rfl (cell_new1 w3 _ _) rfl (by unfold maxLen; omega) (by omega) (by rw [World.size_alloc]; omega) ?_; intro v5 w5 ho5 hg5 hv5; obtain ⟨hfa, hfb⟩ := fin w3 w3 w5 _ v5 _ hb3 ho3 ho5 hg5 hv5; obtain ⟨t0, t1, _⟩ := kc w5 hfb; obtain ⟨a5, m5, c5, rfl⟩ := row_shape ho5)
              | (go_at_call 35; refine (hrow _ _ (Rds.below (rds_three W0 _ (by omega) _ rq1 rq2 rq3) (bel_drew _) (Nat.le_refl _)) (Below.tr (Below.tr hB0 (bel_al W0 _)) (bel_drew _))).mono ?_; rintro e w3 ⟨v3, rfl, ho3, hb3⟩; obtain ⟨s0, s1, _⟩ := kc w3 (hb.trans (hb3.mono hB)); have hs3 := hb3.size; obtain ⟨a3, n3, d3, rfl⟩ := row_shape ho3)
              | fail)
            go_wp2_with fail
            exact ⟨⟨k + 1, us ++ [.slice a3 n3 d3], by omega, by go_num, hfa, hfb, H0⟩, by simp [intOf]; omega⟩
          · clear hB1 hsz1 rd0
            go_wp2_with fail
            have HW0 : Hid (Below wr.heap.size wr (((wr.drewN nq).alloc (.cells #[.int .u8 0] 5)).setCell ⟨wr.heap.size, 0, none⟩ (.int .u8 1)) ∧ (((wr.drewN nq).alloc (.cells #[.int .u8 0] 5)).setCell ⟨wr.heap.size, 0, none⟩ (.int .u8 1)).heap.size = wr.heap.size + 1 ∧ Rd (((wr.drewN nq).alloc (.cells #[.int .u8 0] 5)).setCell ⟨wr.heap.size, 0, none⟩ (.int .u8 1)) (.slice (some ⟨wr.heap.size, 0, none⟩) 1 1) [1]) := mark_set HW1.out.1 HW1.out.2.1 y0
            clear HW1 y0 yz z0 z1 z2
            generalize (((wr.drewN nq).alloc (.cells #[.int .u8 0] 5)).setCell ⟨wr.heap.size, 0, none⟩ (.int .u8 1)) = W0 at *
            have hsz0 : W0.heap.size = wr.heap.size + 1 := HW0.out.2.1
            have hB0 : Below wr.heap.size wr W0 := HW0.out.1
            have rq3 := HW0.out.2.2
            obtain ⟨z0, z1, z2⟩ := kc W0 (hb.trans (hB0.mono hB))
            obtain ⟨rq1, rq2⟩ := rp W0 (hb.trans (hB0.mono hB))
            have n0 := World.new_ne W0 _ z0
            have n1 := World.new_ne W0 _ z1
            go_region_held3 (fun w' => w'.cell? (a.add (k * 3)) = some (.slice x1 pk.length y1) ∧ w'.cell? ⟨(a.add (k * 3)).block, (a.add (k * 3)).off + 1, none⟩ = some (.slice x2 pv.length y2)) (go_keep) (first
              | (refine step_app1 rfl _ _ 64 rfl w.heap.size 25 (.slice none 0 0) 24 Try.underlying64 h24 rfl (.slice xo (k) yo) us.length us rfl (World.ownsRow.alloc (ownsRow_bel hor hb3 (Nat.le_refl _)) _) _ _ (.slice a3 n3 d3) rfl (cell_new1 w3 _ _) rfl (by unfold maxLen; omega) (by omega) (by rw [World.size_alloc]; omega) ?_; intro v5 w5 ho5 hg5 hv5; obtain ⟨hfa, hfb⟩ := fin w3 w3 w5 _ v5 _ hb3 ho3 ho5 hg5 hv5; obtain ⟨t0, t1, _⟩ := kc w5 hfb; obtain ⟨a5, m5, c5, rfl⟩ := row_shape ho5)
              | (go_at_call 35; refine (hrow _ _ (Rds.below (rds_three W0 _ (by omega) _ rq1 rq2 rq3) (bel_drew _) (Nat.le_refl _)) (Below.tr (Below.tr hB0 (bel_al W0 _)) (bel_drew _))).mono ?_; rintro e w3 ⟨v3, rfl, ho3, hb3⟩; obtain ⟨s0, s1, _⟩ := kc w3 (hb.trans (hb3.mono hB)); have hs3 := hb3.size; obtain ⟨a3, n3, d3, rfl⟩ := row_shape ho3)
              | fail)
            go_wp2_with fail
            exact ⟨⟨k + 1, us ++ [.slice a3 n3 d3], by omega, by go_num, hfa, hfb, H0⟩, by simp [intOf]; omega⟩
        · have hTT : T = ([], 51) := by
            rw [← HT.out]; unfold M.bld; rw [M.ris_false HR0.out.1 HR0.out.2 hpos]; rfl
          subst hTT
          clear HDD HR0
          generalize M.cmpL r.1 pk = z at *
          go_wp2_with fail
          go_quiet (first | (go_at_call 34; exact hcq _) | fail)
          go_wp2_with fail
          go_ret2
          exact ⟨_, rfl, Ow.nil _ _, hb.trans ((Below.dN wr _).mono hB)⟩
    · obtain rfl : k = ps.length := by omega
      have hris : M.ris ps = true := (M.ris_iff ps).2 (fun j p q hp hq => HD.out j p q (by have := (List.getElem?_eq_some_iff.1 hq).1; omega) hp hq)
      have hTT : T = (M.frame (M.row (ps.map M.prow)), 0) := by rw [← HT.out]; unfold M.bld; rw [if_pos hris]; rfl
      subst hTT
      rw [← hml, List.take_of_length_le (Nat.le_refl _)] at ho
      have hrds := ho.rds
      obtain ⟨xo, yo, e, _⟩ := ho.rds
      rw [hml] at e
      subst e
      clear h4 ho
      go_wp2_with fail
      refine (rrow_any hrds (by omega) (by omega)).mono ?_
      rintro e w2 ⟨v2, rfl, ho2, hb2⟩
      go_wp2_with fail
      refine (rframe_any ho2.rd (by omega)).mono ?_
      rintro e w3 ⟨v3, rfl, ho3, hb3⟩
      go_wp2_with fail
      go_ret2
      have hs2 := hb2.size
      exact ⟨_, rfl, ho3.mono (by omega), hb.trans ((Below.tr hb2 hb3).mono hB)⟩
end Go.Proofs.Ytdfhhliapcdebaa

/- What SamePairs answers of two lists of pairs: whether they are the same. -/
namespace Go.Proofs.Ytdfhhliapcdebaa
open Go.RowKit
set_option linter.unusedVariables false
set_option maxRecDepth 100000

theorem samep_q {va vb : Value} {l : List UInt8} {w : World} (ha : Rd w va l) (hb : Rd w vb l) (m q : Nat) : Calls Try.prog 13 #[va, vb] (w.drewN (m + q)) fun e w' => e = .returned (.bool true) ∧ ∃ n, w' = w.drewN (m + n) := by
  refine (same_any (ha.drewN (m + q)) (hb.drewN (m + q))).mono ?_
  rintro _ w' ⟨rfl, n, rfl⟩
  exact ⟨by rw [decide_eq_true rfl], q + n, by rw [World.drewN_drewN, Nat.add_assoc]⟩

theorem samep_two {a1 b1 a2 b2 : Value} {l1 l2 : List UInt8} {w : World} (h1 : Rd w a1 l1) (k1 : Rd w b1 l1) (h2 : Rd w a2 l2) (k2 : Rd w b2 l2) (m : Nat) : ∀ (x y : Value) (q : Nat), (x = a1 ∧ y = b1) ∨ (x = a2 ∧ y = b2) → Calls Try.prog 13 #[x, y] (w.drewN (m + q)) fun e w' => e = .returned (.bool true) ∧ ∃ n, w' = w.drewN (m + n) := by
  rintro x y q (⟨rfl, rfl⟩ | ⟨rfl, rfl⟩)
  · exact samep_q h1 k1 m q
  · exact samep_q h2 k2 m q

set_option maxHeartbeats 1000000 in
theorem samep_any {va vb : Value} {ps : List P3} {w : World} (ha : RdQ w va ps) (hb : RdQ w vb ps) :
    Calls Try.prog 15 #[va, vb] w fun e w' => e = .returned (.bool true) ∧ ∃ n, w' = w.drewN n := by
  obtain ⟨aa, ca, rfl, a1, a2, a4⟩ := ha
  obtain ⟨ab, cb, rfl, b1, b2, b4⟩ := hb
  unfold maxLen at a2 b2
  go_enter Try.func15, Try.ntmps15
  go_wp2_with fail
  go_loopw [5] (fun i wr => ∃ k : Nat, k ≤ ps.length ∧ i = .int .i64 k ∧ ∃ m, wr = w.drewN m) (fun i _ => ps.length - (intOf i).toNat)
  case atStart => exact ⟨0, Nat.zero_le _, rfl, 0, rfl⟩
  case round =>
    obtain ⟨k, hk, rfl, m, rfl⟩ := hrel
    by_cases hlt : k < ps.length
    · obtain ⟨p, hp⟩ : ∃ p, ps[k]? = some p := ⟨_, List.getElem?_eq_getElem hlt⟩
      obtain ⟨a, u1, u2, rfl, hpa⟩ := a4 k p hp
      obtain ⟨b, v1, v2, rfl, hpb⟩ := b4 k p hp
      clear a4 b4 hp
      obtain ⟨kx, vx, gx⟩ := p
      have c0 := hpa.c0
      have c1 := hpa.c1
      have c2 := hpa.c2
      have d0 := hpb.c0
      have d1 := hpb.c1
      have d2 := hpb.c2
      have r1 := hpa.r1
      have r2 := hpa.r2
      have s1 := hpb.r1
      have s2 := hpb.r2
      simp only [] at c0 c1 c2 d0 d1 d2 r1 r2 s1 s2
      have hk2 : (k : Int) < (ps.length : Int) := by omega
      obtain ⟨_, _, rfl, _⟩ := hpa.r1
      obtain ⟨_, _, rfl, _⟩ := hpa.r2
      obtain ⟨_, _, rfl, _⟩ := hpb.r1
      obtain ⟨_, _, rfl, _⟩ := hpb.r2
      simp only [] at c0 c1 c2 d0 d1 d2 r1 r2 s1 s2
      clear hpa hpb
      have hs := samep_two r1 s1 r2 s2 m
      clear r1 r2 s1 s2
      go_wp2_with fail
      go_quiet (first | (go_at_call 13; refine hs _ _ _ ?_; first | exact .inl ⟨rfl, rfl⟩ | exact .inr ⟨rfl, rfl⟩) | fail)
      go_wp2_with fail
      exact ⟨⟨k + 1, by omega, by go_num, m + nq, by simp [World.drewN]⟩, by simp [intOf]; omega⟩
    · obtain rfl : k = ps.length := by omega
      clear a4 b4
      go_wp2_with fail
      go_ret
      exact ⟨rfl, _, rfl⟩
end Go.Proofs.Ytdfhhliapcdebaa

/- What takePair answers of any bytes. -/
namespace Go.Proofs.Ytdfhhliapcdebaa
open Go.RowKit
set_option linter.unusedVariables false
set_option maxRecDepth 100000

theorem set3_block {w : World} {g : Nat} {u0 u1 u2 : Value} {t : TypeId} (h : w.heap[g]? = some (.cells #[u0, u1, u2] t (0, 0))) (v0 v1 v2 : Value) : (((w.setCell ⟨g, 0, none⟩ v0).setCell ⟨g, 1, none⟩ v1).setCell ⟨g, 2, none⟩ v2).heap[g]? = some (.cells #[v0, v1, v2] t (0, 0)) := by
  have h0 := heap_setCell_same w g 0 _ _ v0 h
  have h1 := heap_setCell_same _ g 1 _ _ v1 h0
  have h2 := heap_setCell_same _ g 2 _ _ v2 h1
  rw [h2]
  rfl
theorem set3_chg (w : World) (g : Nat) (v0 v1 v2 : Value) : Chg (fun b => b = g) w (((w.setCell ⟨g, 0, none⟩ v0).setCell ⟨g, 1, none⟩ v1).setCell ⟨g, 2, none⟩ v2) :=
  (((Chg.refl (fun b => b = g) w).put g 0 v0 rfl).put g 1 v1 rfl).put g 2 v2 rfl
theorem cells3 {w : World} {g : Nat} {u0 u1 u2 : Value} {t : TypeId} (h : w.heap[g]? = some (.cells #[u0, u1, u2] t (0, 0))) : w.cell? ⟨g, 0, none⟩ = some u0 ∧ w.cell? ⟨g, 1, none⟩ = some u1 ∧ w.cell? ⟨g, 2, none⟩ = some u2 ∧ ∀ i, w.frozen? ⟨g, i, none⟩ = false :=
  ⟨by rw [cell_of_row _ _ _ _ _ _ h]; rfl, by rw [cell_of_row _ _ _ _ _ _ h]; rfl, by rw [cell_of_row _ _ _ _ _ _ h]; rfl, fun i => frozen_of_row _ _ _ _ _ h⟩

theorem Ows.three {B : Nat} {w : World} {v : Value} {k l m : List UInt8} {us : List Value} (h : Ows B w v [k, l, m] us) : ∃ g c x y z, v = .slice (some ⟨g, 0, none⟩) 3 c ∧ 3 ≤ c ∧ w.cell? ⟨g, 0, none⟩ = some x ∧ w.cell? ⟨g, 1, none⟩ = some y ∧ w.cell? ⟨g, 2, none⟩ = some z ∧ Ow B w x k ∧ Ow B w y l ∧ Ow B w z m ∧ B ≤ g := by
  have hl : us.length = 3 := h.len
  match us, hl with
  | [x, y, z], _ =>
    obtain ⟨a, c, e, h1, h2, h3, h4⟩ := row_reads h.row
    obtain ⟨g, rfl, g0⟩ := h4 0 x rfl
    obtain ⟨g', eg, g1⟩ := h4 1 y rfl
    obtain ⟨g'', eg', g2⟩ := h4 2 z rfl
    simp only [Option.some.injEq, Addr.mk.injEq, and_true] at eg eg'
    subst eg; subst eg'
    refine ⟨g, c, x, y, z, e, h1, g0, g1, g2, h.el 0 _ _ rfl rfl, h.el 1 _ _ rfl rfl, h.el 2 _ _ rfl rfl, ?_⟩
    have := (World.ownsRow.lt h.row g (by rw [e]; rfl)).1
    exact this

/-- What a field that is no pair is read as. -/
def noP : P3 := ([], [], false)

set_option maxHeartbeats 2000000 in
theorem takepair_any {v : Value} {l : List UInt8} {w : World} (hr : Rd w v l) (hl : l.length ≤ 1099511627776) :
    Calls Try.prog 38 #[v] w fun e w' => ∃ u : V3, e = .returned (.tuple #[.agg #[u.1, u.2.1, .bool u.2.2], .bool (M.tp l).isSome]) ∧ El3 w.heap.size w' u ((M.tp l).getD noP) ∧ Below w.heap.size w w' := by
  have hall : ∀ W, Below w.heap.size w W → Calls Try.prog 37 #[v] W fun e w' => ∃ v' us, e = .returned (.tuple #[v', .int .i64 (M.tr l).2]) ∧ Ows W.heap.size w' v' (M.tr l).1 us ∧ Below W.heap.size W w' := fun W hW => takerow_any (hr.below hW (Nat.le_refl _)) hl
  have hcell : (w.alloc (.cells #[.slice none 0 0, .slice none 0 0, .bool false] 48)).heap[w.heap.size]? = some (.cells #[.slice none 0 0, .slice none 0 0, .bool false] 48 (0, 0)) := heap_alloc_new w _
  have fin0 : ∀ w2, w2.heap[w.heap.size]? = some (.cells #[.slice none 0 0, .slice none 0 0, .bool false] 48 (0, 0)) → El3 w.heap.size w2 (.slice none 0 0, .slice none 0 0, false) noP := fun w2 _ => ⟨Ow.nil _ _, Ow.nil _ _, rfl⟩
  have htp : (M.tp l = none ∧ ((M.tr l).2 ≠ 0 ∨ (M.tr l).2 = 0 ∧ (M.tr l).1.length ≠ 3 ∨ (M.tr l).2 = 0 ∧ ∃ k x m, (M.tr l).1 = [k, x, m] ∧ (m.length ≠ 1 ∨ ∃ b, m = [b] ∧ b ≠ 0 ∧ b ≠ 1))) ∨ ∃ k x g, M.tp l = some (k, x, g) ∧ (M.tr l).2 = 0 ∧ (M.tr l).1 = [k, x, [if g then 1 else 0]] := by
    by_cases h0 : (M.tr l).2 = 0
    · cases hd : M.tp l with
      | some p =>
        have h1 : M.dec (M.tr l).1 = some p := by unfold M.tp at hd; rw [if_pos h0] at hd; exact hd
        exact .inr ⟨p.1, p.2.1, p.2.2, rfl, h0, M.dec_form h1⟩
      | none =>
        refine .inl ⟨rfl, .inr ?_⟩
        have h1 : M.dec (M.tr l).1 = none := by unfold M.tp at hd; rw [if_pos h0] at hd; exact hd
        by_cases h3 : (M.tr l).1.length = 3
        · refine .inr ⟨h0, ?_⟩
          match hfs : (M.tr l).1, h3 with
          | [k, x, m], _ =>
            refine ⟨k, x, m, rfl, ?_⟩
            rw [hfs] at h1
            by_cases hm : m.length = 1
            · match m, hm with
              | [b], _ =>
                refine .inr ⟨b, rfl, ?_⟩
                simp only [M.dec] at h1
                constructor
                · rintro rfl; simp at h1
                · rintro rfl; simp at h1
            · exact .inl hm
        · exact .inl ⟨h0, h3⟩
    · refine .inl ⟨?_, .inl h0⟩
      unfold M.tp; rw [if_neg h0]
  have hv := hr
  obtain ⟨av, cv, rfl, _⟩ := hr
  rcases htp with ⟨e, hcs⟩ | ⟨k, x, g, e, h0, hfs⟩
  · rw [e]
    clear e hv hl
    show Calls _ _ _ _ fun e w' => ∃ u : V3, e = .returned (.tuple #[.agg #[u.1, u.2.1, .bool u.2.2], .bool false]) ∧ El3 w.heap.size w' u noP ∧ Below w.heap.size w w'
    have back : ∀ w2 : World, w2.heap[w.heap.size]? = some (.cells #[.slice none 0 0, .slice none 0 0, .bool false] 48 (0, 0)) → Below w.heap.size w w2 → ∃ wz, (((w2.setCell ⟨w.heap.size, 0, none⟩ (.slice none 0 0)).setCell ⟨w.heap.size, 1, none⟩ (.slice none 0 0)).setCell ⟨w.heap.size, 2, none⟩ (.bool false)) = wz ∧ (wz.cell? ⟨w.heap.size, 0, none⟩ = some (.slice none 0 0) ∧ wz.cell? ⟨w.heap.size, 1, none⟩ = some (.slice none 0 0) ∧ wz.cell? ⟨w.heap.size, 2, none⟩ = some (.bool false) ∧ ∀ i, wz.frozen? ⟨w.heap.size, i, none⟩ = false) ∧ Below w.heap.size w wz := fun w2 h hb => by
      refine ⟨_, rfl, cells3 (set3_block h _ _ _), hb.trans ((set3_chg w2 w.heap.size _ _ _).below (fun b q => by omega) hb.size)⟩
    generalize M.tr l = R at *
    obtain ⟨fs, er⟩ := R
    simp only [] at *
    go_enter Try.func38, Try.ntmps38
    go_wp2_with fail
    refine (hall _ (bel_al w _)).mono ?_
    rintro e w2 ⟨v2, us, rfl, ho2, hb2⟩
    have hR : w2.heap[w.heap.size]? = some (.cells #[.slice none 0 0, .slice none 0 0, .bool false] 48 (0, 0)) := by rw [hb2.block _ (by simp)]; exact hcell
    have hB2 := Below.tr (bel_al w _) hb2
    obtain ⟨wz, hwz, ⟨k0, k1, k2, kz⟩, hBz⟩ := back w2 hR hB2
    obtain ⟨c0, c1, c2, cz⟩ := cells3 hR
    have z0 := cz 0
    have z1 := cz 1
    have z2 := cz 2
    clear back hcell hall fin0 cz
    rcases hcs with her | ⟨rfl, h3⟩ | ⟨rfl, k, x, m, rfl, hm⟩
    · obtain ⟨a2, d2, rfl⟩ : ∃ a d, v2 = .slice a fs.length d := by obtain ⟨a, d, e, _⟩ := ho2.rds; exact ⟨a, d, e⟩
      have hne : (((er : Nat) : Int) != 0) = true := by simp; omega
      go_wp2_with fail
      refine bodyPost_ret (v := .tuple #[.agg #[.slice none 0 0, .slice none 0 0, .bool false], .bool false]) (by simp [results, Try.results38, go_sem, k0, k1, k2]; try rfl) rfl ?_
      exact ⟨(.slice none 0 0, .slice none 0 0, false), rfl, ⟨Ow.nil _ _, Ow.nil _ _, rfl⟩, hBz⟩
    · obtain ⟨a2, d2, rfl⟩ : ∃ a d, v2 = .slice a fs.length d := by obtain ⟨a, d, e, _⟩ := ho2.rds; exact ⟨a, d, e⟩
      have hne : (((fs.length : Nat) : Int) != 3) = true := by simp; omega
      go_wp2_with fail
      refine bodyPost_ret (v := .tuple #[.agg #[.slice none 0 0, .slice none 0 0, .bool false], .bool false]) (by simp [results, Try.results38, go_sem, k0, k1, k2]; try rfl) rfl ?_
      exact ⟨(.slice none 0 0, .slice none 0 0, false), rfl, ⟨Ow.nil _ _, Ow.nil _ _, rfl⟩, hBz⟩
    · obtain ⟨g, c, x0, x1, x2, rfl, hc3, g0, g1, g2, o0, o1, o2, hgB⟩ := ho2.three
      rcases hm with hm | ⟨b, rfl, hb0, hb1⟩
      · obtain ⟨a3, d3, rfl⟩ := o2.shape
        have hne : (((m.length : Nat) : Int) != 1) = true := by simp; omega
        go_wp2_with fail
        refine bodyPost_ret (v := .tuple #[.agg #[.slice none 0 0, .slice none 0 0, .bool false], .bool false]) (by simp [results, Try.results38, go_sem, k0, k1, k2]; try rfl) rfl ?_
        exact ⟨(.slice none 0 0, .slice none 0 0, false), rfl, ⟨Ow.nil _ _, Ow.nil _ _, rfl⟩, hBz⟩
      · rcases o2.rd.two with ⟨_, q⟩ | ⟨a3, d3, rfl, q1, q2, q3⟩
        · cases q
        · have hbc := q3 0 (by simp)
          rw [add_zero] at hbc
          simp only [List.getElem_cons_zero] at hbc
          have hn0 : (((b.toNat : Nat) : Int) != 0) = true := by
            have : b.toNat ≠ 0 := fun e => hb0 (UInt8.toNat_inj.1 (by simpa using e))
            simp; omega
          have hn1 : (((b.toNat : Nat) : Int) != 1) = true := by
            have : b.toNat ≠ 1 := fun e => hb1 (UInt8.toNat_inj.1 (by simpa using e))
            simp; omega
          simp only [List.length_singleton] at *
          go_wp2_with fail
          refine bodyPost_ret (v := .tuple #[.agg #[.slice none 0 0, .slice none 0 0, .bool false], .bool false]) (by simp [results, Try.results38, go_sem, k0, k1, k2]; try rfl) rfl ?_
          exact ⟨(.slice none 0 0, .slice none 0 0, false), rfl, ⟨Ow.nil _ _, Ow.nil _ _, rfl⟩, hBz⟩
  · rw [e]
    clear e hv hl
    show Calls _ _ _ _ fun e w' => ∃ u : V3, e = .returned (.tuple #[.agg #[u.1, u.2.1, .bool u.2.2], .bool true]) ∧ El3 w.heap.size w' u (k, x, g) ∧ Below w.heap.size w w'
    generalize M.tr l = R at *
    obtain ⟨fs, er⟩ := R
    simp only [] at h0 hfs hall
    subst h0
    subst hfs
    go_enter Try.func38, Try.ntmps38
    go_wp2_with fail
    refine (hall _ (bel_al w _)).mono ?_
    rintro e w2 ⟨v2, us, rfl, ho2, hb2⟩
    have hR : w2.heap[w.heap.size]? = some (.cells #[.slice none 0 0, .slice none 0 0, .bool false] 48 (0, 0)) := by rw [hb2.block _ (by simp)]; exact hcell
    have hB2 := Below.tr (bel_al w _) hb2
    obtain ⟨c0, c1, c2, cz⟩ := cells3 hR
    have z0 := cz 0
    have z1 := cz 1
    have z2 := cz 2
    clear hcell hall fin0 cz
    obtain ⟨q, c, x0, x1, x2, rfl, hc3, g0, g1, g2, o0, o1, o2, hgB⟩ := ho2.three
    have hsz : (w.alloc (.cells #[.slice none 0 0, .slice none 0 0, .bool false] 48)).heap.size = w.heap.size + 1 := by simp
    rw [hsz] at o0 o1 o2 hgB
    obtain ⟨a3, d3, e3, q1, q2, q3, q4⟩ := row_reads o2
    obtain ⟨h, rfl, hbc⟩ := q4 0 _ (cel_get _ 0 (by simp))
    have hhB := (World.ownsRow.lt o2 h (by rw [e3]; rfl)).1
    have hqR : ¬ q = w.heap.size := by omega
    have hhR : ¬ h = w.heap.size := by omega
    have hRq : ¬ w.heap.size = q := by omega
    have hRh : ¬ w.heap.size = h := by omega
    simp only [List.length_singleton, List.getElem_cons_zero] at *
    subst e3
    obtain ⟨b0, d0, e0⟩ := o0.shape
    obtain ⟨b1, d1, e1⟩ := o1.shape
    subst e0
    subst e1
    have hS := set3_block hR (.slice b0 k.length d0) (.slice b1 x.length d1) (.bool g)
    have hch := set3_chg w2 w.heap.size (.slice b0 k.length d0) (.slice b1 x.length d1) (.bool g)
    have hE : El3 w.heap.size (((w2.setCell ⟨w.heap.size, 0, none⟩ (.slice b0 k.length d0)).setCell ⟨w.heap.size, 1, none⟩ (.slice b1 x.length d1)).setCell ⟨w.heap.size, 2, none⟩ (.bool g)) (.slice b0 k.length d0, .slice b1 x.length d1, g) (k, x, g) :=
      ⟨(o0.keptC hch (fun b e q => by have := (World.ownsRow.lt o0 b e).1; omega)).mono (by omega), (o1.keptC hch (fun b e q => by have := (World.ownsRow.lt o1 b e).1; omega)).mono (by omega), rfl⟩
    have hBz : Below w.heap.size w (((w2.setCell ⟨w.heap.size, 0, none⟩ (.slice b0 k.length d0)).setCell ⟨w.heap.size, 1, none⟩ (.slice b1 x.length d1)).setCell ⟨w.heap.size, 2, none⟩ (.bool g)) := hB2.trans (hch.below (fun b q => by omega) hB2.size)
    have HZ : Hid _ := And.intro (cells3 hS) (And.intro hE hBz)
    clear hS hch hE hBz o0 o1 o2 q4 hb2 hB2 ho2 hR
    cases g
    · replace hbc : w2.cell? ⟨h, 0, none⟩ = some (.int .u8 0) := hbc
      go_wp2_with fail
      go_region_held3 (fun w' => w'.cell? ⟨q, 0, none⟩ = some (.slice b0 k.length d0) ∧ w'.cell? ⟨q, 1, none⟩ = some (.slice b1 x.length d1) ∧ w'.cell? ⟨h, 0, none⟩ = some (.int .u8 0)) (go_keep) (fail)
      go_wp2_with fail
      have HY : Hid (∀ W, W = (((w2.setCell ⟨w.heap.size, 0, none⟩ (.slice b0 k.length d0)).setCell ⟨w.heap.size, 1, none⟩ (.slice b1 x.length d1)).setCell ⟨w.heap.size, 2, none⟩ (.bool false)).drew → (W.cell? ⟨w.heap.size, 0, none⟩ = some (.slice b0 k.length d0) ∧ W.cell? ⟨w.heap.size, 1, none⟩ = some (.slice b1 x.length d1) ∧ W.cell? ⟨w.heap.size, 2, none⟩ = some (.bool false)) ∧ El3 w.heap.size W (.slice b0 k.length d0, .slice b1 x.length d1, false) (k, x, false) ∧ Below w.heap.size w W) := fun W hW => by
        subst hW
        obtain ⟨⟨y0, y1, y2, _⟩, hE, hBz⟩ := HZ.out
        exact ⟨⟨y0, y1, y2⟩, hE.below (bel_drew _) (Nat.le_refl _), hBz.trans ((bel_drew _).mono hBz.size)⟩
      obtain ⟨⟨k0, k1, k2⟩, hE, hBz⟩ := HY.out _ rfl
      generalize (((w2.setCell ⟨w.heap.size, 0, none⟩ (.slice b0 k.length d0)).setCell ⟨w.heap.size, 1, none⟩ (.slice b1 x.length d1)).setCell ⟨w.heap.size, 2, none⟩ (.bool false)).drew = wz at *
      refine bodyPost_ret (v := .tuple #[.agg #[.slice b0 k.length d0, .slice b1 x.length d1, .bool false], .bool true]) (by simp [results, Try.results38, go_sem, k0, k1, k2]; try rfl) rfl ?_
      exact ⟨(.slice b0 k.length d0, .slice b1 x.length d1, false), rfl, hE, hBz⟩
    · replace hbc : w2.cell? ⟨h, 0, none⟩ = some (.int .u8 1) := hbc
      go_wp2_with fail
      go_region_held3 (fun w' => w'.cell? ⟨q, 0, none⟩ = some (.slice b0 k.length d0) ∧ w'.cell? ⟨q, 1, none⟩ = some (.slice b1 x.length d1) ∧ w'.cell? ⟨h, 0, none⟩ = some (.int .u8 1)) (go_keep) (fail)
      go_wp2_with fail
      have HY : Hid (∀ W, W = (((w2.setCell ⟨w.heap.size, 0, none⟩ (.slice b0 k.length d0)).setCell ⟨w.heap.size, 1, none⟩ (.slice b1 x.length d1)).setCell ⟨w.heap.size, 2, none⟩ (.bool true)).drew → (W.cell? ⟨w.heap.size, 0, none⟩ = some (.slice b0 k.length d0) ∧ W.cell? ⟨w.heap.size, 1, none⟩ = some (.slice b1 x.length d1) ∧ W.cell? ⟨w.heap.size, 2, none⟩ = some (.bool true)) ∧ El3 w.heap.size W (.slice b0 k.length d0, .slice b1 x.length d1, true) (k, x, true) ∧ Below w.heap.size w W) := fun W hW => by
        subst hW
        obtain ⟨⟨y0, y1, y2, _⟩, hE, hBz⟩ := HZ.out
        exact ⟨⟨y0, y1, y2⟩, hE.below (bel_drew _) (Nat.le_refl _), hBz.trans ((bel_drew _).mono hBz.size)⟩
      obtain ⟨⟨k0, k1, k2⟩, hE, hBz⟩ := HY.out _ rfl
      generalize (((w2.setCell ⟨w.heap.size, 0, none⟩ (.slice b0 k.length d0)).setCell ⟨w.heap.size, 1, none⟩ (.slice b1 x.length d1)).setCell ⟨w.heap.size, 2, none⟩ (.bool true)).drew = wz at *
      refine bodyPost_ret (v := .tuple #[.agg #[.slice b0 k.length d0, .slice b1 x.length d1, .bool true], .bool true]) (by simp [results, Try.results38, go_sem, k0, k1, k2]; try rfl) rfl ?_
      exact ⟨(.slice b0 k.length d0, .slice b1 x.length d1, true), rfl, hE, hBz⟩
end Go.Proofs.Ytdfhhliapcdebaa

/- What Open answers of any bytes. -/
namespace Go.Proofs.Ytdfhhliapcdebaa
open Go.RowKit
set_option linter.unusedVariables false
set_option maxRecDepth 100000

/-- The zero pair's cells. -/
def z3 : V3 := (.slice none 0 0, .slice none 0 0, false)
theorem q3s_made (n : Nat) : (madeCells (Value.agg #[.slice none 0 0, .slice none 0 0, .bool false]).cells (n * 3)).toList = q3s (List.replicate n z3) := by
  have e : (Value.agg #[.slice none 0 0, .slice none 0 0, .bool false]).cells = #[.slice none 0 0, .slice none 0 0, .bool false] := rfl
  rw [e]
  apply List.ext_getElem?
  intro j
  by_cases hj : j < n * 3
  · have hn : j / 3 < n := by omega
    have h1 : (List.replicate n z3)[j / 3]? = some z3 := by simp [hn]
    obtain ⟨a0, a1, a2⟩ := q3s_at (List.replicate n z3) (j / 3) z3 h1
    have hl : (madeCells #[Value.slice none 0 0, .slice none 0 0, .bool false] (n * 3)).toList[j]? = some (#[Value.slice none 0 0, .slice none 0 0, .bool false][j % 3]!) := by
      simp [madeCells, hj]
    rw [hl]
    have h3 : j % 3 = 0 ∨ j % 3 = 1 ∨ j % 3 = 2 := by omega
    rcases h3 with q | q | q
    · rw [q, show j = j / 3 * 3 by omega, a0]; rfl
    · rw [q, show j = j / 3 * 3 + 1 by omega, a1]; rfl
    · rw [q, show j = j / 3 * 3 + 2 by omega, a2]; rfl
  · rw [List.getElem?_eq_none (by simp [madeCells]; omega), List.getElem?_eq_none (by rw [q3s_length]; simp; omega)]
theorem q3s_set (us : List V3) (k : Nat) (x : V3) (hk : k < us.length) : (((q3s us).set (k * 3) x.1).set (k * 3 + 1) x.2.1).set (k * 3 + 2) (.bool x.2.2) = q3s (us.set k x) := by
  induction us generalizing k with
  | nil => simp at hk
  | cons u us ih =>
    cases k with
    | zero => rfl
    | succ k =>
      have h := ih k (by simpa using hk)
      have e : q3s (u :: us) = u.1 :: u.2.1 :: .bool u.2.2 :: q3s us := rfl
      have e2 : q3s ((u :: us).set (k + 1) x) = u.1 :: u.2.1 :: .bool u.2.2 :: q3s (us.set k x) := rfl
      rw [e, e2, ← h, show (k + 1) * 3 = k * 3 + 3 by omega]
      rfl

/-- The array of pairs while it is filled. -/
structure FilP (B g n k : Nat) (ps : List P3) (us : List V3) (w : World) : Prop where
  row : w.ownsRow B 48 3 (.slice (some ⟨g, 0, none⟩) n n) n (q3s us)
  el : ∀ (i : Nat) u p, i < k → us[i]? = some u → ps[i]? = some p → El3 B w u p ∧ ∀ b, Bl3 u b → b ≠ g
theorem FilP.len {B g n k : Nat} {ps : List P3} {us : List V3} {w : World} (h : FilP B g n k ps us w) : us.length = n := by
  have := h.row.1
  rw [q3s_length] at this
  omega
theorem FilP.below {B g n k : Nat} {ps : List P3} {us : List V3} {w w' : World} (h : FilP B g n k ps us w) (hb : Below w.heap.size w w') : FilP B g n k ps us w' :=
  ⟨ownsRow_belW h.row hb (Nat.le_refl _), fun i u p hi e1 e2 => ⟨(h.el i u p hi e1 e2).1.below hb (Nat.le_refl _), (h.el i u p hi e1 e2).2⟩⟩
theorem El3.keptC {B : Nat} {S : Nat → Prop} {w w' : World} {u : V3} {p : P3} (h : El3 B w u p) (hg : Chg S w w') (hne : ∀ b, Bl3 u b → ¬ S b) : El3 B w' u p :=
  ⟨h.1.keptC hg (fun b e => hne b (.inl e)), h.2.1.keptC hg (fun b e => hne b (.inr e)), h.2.2⟩
theorem set3k_chg (w : World) (g j : Nat) (v0 v1 v2 : Value) : Chg (fun b => b = g) w (((w.setCell ⟨g, j, none⟩ v0).setCell ⟨g, j + 1, none⟩ v1).setCell ⟨g, j + 2, none⟩ v2) :=
  (((Chg.refl (fun b => b = g) w).put g j v0 rfl).put g (j + 1) v1 rfl).put g (j + 2) v2 rfl
theorem FilP.put {B g n k : Nat} {ps : List P3} {us : List V3} {w : World} (h : FilP B g n k ps us w) (hk : k < n) (hpl : ps.length = k) {u : V3} {p : P3} (hu : El3 B w u p) (hg : ∀ b, Bl3 u b → b ≠ g) : FilP B g n (k + 1) (ps ++ [p]) (us.set k u) (((w.setCell ⟨g, k * 3, none⟩ u.1).setCell ⟨g, k * 3 + 1, none⟩ u.2.1).setCell ⟨g, k * 3 + 2, none⟩ (.bool u.2.2)) := by
  have hch := set3k_chg w g (k * 3) u.1 u.2.1 (.bool u.2.2)
  have hl := h.len
  refine ⟨?_, fun i x q hi e1 e2 => ?_⟩
  · rw [← q3s_set us k u (by omega)]
    exact row_put (row_put (row_put h.row rfl (k * 3) u.1) rfl (k * 3 + 1) u.2.1) rfl (k * 3 + 2) _
  · by_cases hik : i = k
    · subst hik
      rw [List.getElem?_set_self (by omega)] at e1
      obtain rfl := Option.some.inj e1
      rw [List.getElem?_append_right (by omega), hpl, Nat.sub_self] at e2
      obtain rfl := Option.some.inj e2
      exact ⟨hu.keptC hch (fun b e q => hg b e q), hg⟩
    · rw [List.getElem?_set_ne (by omega)] at e1
      rw [List.getElem?_append_left (by omega)] at e2
      have := h.el i x q (by omega) e1 e2
      exact ⟨this.1.keptC hch (fun b e q => this.2 b e q), this.2⟩
theorem FilP.rdq {B g n : Nat} {ps : List P3} {us : List V3} {w : World} (h : FilP B g n n ps us w) (hpl : ps.length = n) : RdQ w (.slice (some ⟨g, 0, none⟩) n n) ps := by
  have hl := h.len
  have : OwQ B w (.slice (some ⟨g, 0, none⟩) n n) ps us := ⟨by rw [hl]; exact h.row, by omega, fun i u p e1 e2 => (h.el i u p (by have := (List.getElem?_eq_some_iff.1 e1).1; omega) e1 e2).1, fun u hu b hb q => by
    obtain ⟨i, hi, rfl⟩ := List.getElem_of_mem hu
    have q2 : g = b := Option.some.inj q
    exact (h.el i us[i] (ps[i]'(by omega)) (by omega) (by simp [hi]) (by simp [show i < ps.length by omega])).2 b hb q2.symm⟩
  exact this.rdq

/-- A table in memory, with these pairs. -/
def Tbl (w : World) (t : Value) (ps : List P3) : Prop := ∃ b sv, t = .pointer (some ⟨b, 0, none⟩) ∧ w.cell? ⟨b, 0, none⟩ = some sv ∧ RdQ w sv ps
theorem Tbl.below {B : Nat} {w w' : World} {t : Value} {ps : List P3} (h : Tbl w t ps) (hb : Below B w w') (hB : w.heap.size ≤ B) : Tbl w' t ps := by
  obtain ⟨b, sv, rfl, hc, hq⟩ := h
  exact ⟨b, sv, rfl, by rw [hb.cell (by have := World.block_lt_of_cell? _ _ hc; omega)]; exact hc, hq.below hb hB⟩

theorem fields_lt (l : List UInt8) (f : List UInt8) (h : f ∈ (M.tr l).1) : f.length ≤ l.length := by
  by_cases h0 : (M.tr l).2 = 0
  · have e := M.tr_form l h0
    obtain ⟨i, hi, rfl⟩ := List.getElem_of_mem h
    have := M.rowB_field (M.tr l).1 i hi
    have h2 : (M.row (M.tr l).1).length = l.length := by rw [e]
    simp only [M.row, List.length_append] at h2
    omega
  · have : (M.tr l).1 = [] := by
      revert h0
      unfold M.tr
      split
      · simp
      · split
        · simp
        · split
          · simp
          · split
            · simp
            · simp
    rw [this] at h; cases h
theorem fields_len (l : List UInt8) : (M.tr l).1.length ≤ l.length := by
  by_cases h : (M.tr l).2 = 0
  · have := M.tr_form l h
    have h2 := M.rowB_pos (M.tr l).1
    have h3 : (M.row (M.tr l).1).length = l.length := by rw [this]
    simp only [M.row, List.length_append] at h3
    omega
  · have : (M.tr l).1 = [] := by
      revert h
      unfold M.tr
      split
      · simp
      · split
        · simp
        · split
          · simp
          · split
            · simp
            · simp
    rw [this]; simp
theorem tf_len (l : List UInt8) : (M.tf l).1.length ≤ l.length := by
  by_cases h : (M.tf l).2.2 = 0
  · have := M.tf_form l h
    have h3 : (M.frame (M.tf l).1 ++ (M.tf l).2.1).length = l.length := by rw [this]
    simp only [M.frame, List.length_append] at h3
    omega
  · rcases tf_cases l with ⟨h1, h2⟩ | ⟨h1, h2, h3⟩ | ⟨h1, h2, h3⟩
    · rw [h2]; simp
    · rw [h3]; simp
    · rw [h3] at h ⊢
      split
      · simp
      · split
        · simp
        · rename_i q1 q2
          rw [if_neg q1, if_neg q2] at h
          exact absurd rfl h

set_option maxHeartbeats 4000000 in
theorem open_any {v : Value} {l : List UInt8} {w : World} (hr : Rd w v l) (hl : l.length ≤ 268435456) :
    Calls Try.prog 16 #[v] w fun e w' => ((∃ ps t, M.opn l = some ps ∧ e = .returned (.tuple #[t, .int .i64 0]) ∧ Tbl w' t ps) ∨ (M.opn l = none ∧ e = .returned (.tuple #[.pointer none, .int .i64 50]))) ∧ Below w.heap.size w w' := by
  have htf := tframe_any hr (by omega)
  have hbl := tf_len l
  generalize hT : M.opn l = T
  have HT : Hid _ := hT
  clear hT
  have hv := hr
  obtain ⟨av, cv, rfl, _⟩ := hr
  by_cases her : (M.tf l).2.2 = 0
  · by_cases hre : (M.tf l).2.1 = []
    · by_cases hro : (M.tr (M.tf l).1).2 = 0
      · have HT2 : Hid (T = M.keepR (M.allP (M.tr (M.tf l).1).1)) := by
          show T = _
          rw [← HT.out]; unfold M.opn; rw [if_pos ⟨her, hre, hro⟩]
        have hfl := fields_len (M.tf l).1
        have hflt := fields_lt (M.tf l).1
        have htr : ∀ {W x}, Rd W x (M.tf l).1 → Calls Try.prog 37 #[x] W fun e w' => ∃ v' us, e = .returned (.tuple #[v', .int .i64 0]) ∧ Ows W.heap.size w' v' (M.tr (M.tf l).1).1 us ∧ Below W.heap.size W w' := fun {W x} hx => by
          have := takerow_any hx (by omega)
          rw [hro] at this
          exact this
        rw [her, hre] at htf
        clear HT hro her hre
        generalize (M.tr (M.tf l).1).1 = fs at *
        obtain ⟨i, hi, hz0, hz1, hz2⟩ := info_parts Try.infoQ
        go_enter Try.func16, Try.ntmps16
        go_wp2_with fail
        refine htf.mono ?_
        rintro e w1 ⟨v1, v2, rfl, ho1, ho2, _, hb1⟩
        obtain ⟨a1, d1, rfl⟩ := ho1.shape
        obtain ⟨a2, d2, rfl⟩ := ho2.shape
        have ho1' := ho1.rd
        clear ho2 ho1
        simp only [List.length_nil] at *
        go_wp2_with fail
        refine (htr ho1').mono ?_
        rintro e w2 ⟨v3, vs, rfl, ho3, hb3⟩
        have hrds := ho3.rds
        obtain ⟨a3, d3, e3, f1, f2, f4⟩ := ho3.rds
        subst e3
        have hB2 : Below w.heap.size w w2 := hb1.trans (hb3.mono hb1.size)
        have hB2s := hB2.size
        clear ho3 hb3 hb1 ho1' htf htr
        unfold maxLen at f2
        go_wp2_with (first | (at_make; refine wpList_make_full _ rfl _ _ 22 rfl w.heap.size 48 i _ 3 Try.underlying22 hi hz0 hz1 _ _ _ _ fs.length rfl rfl rfl rfl (by rw [hz2]; omega) (by unfold maxLen; omega) hB2s ?_; intro w3 hown hgr) | fail)
        have hb3 : Below w2.heap.size w2 w3 := (Below.refl _ w2).grown hgr (Nat.le_refl _) (fun k e => by cases e)
        have hf3 : FilP w.heap.size w2.heap.size fs.length 0 [] (List.replicate fs.length z3) w3 := ⟨by rw [← q3s_made]; exact hown, fun i u p h => by omega⟩
        have hs3 : w2.heap.size < w3.heap.size := (World.ownsRow.lt hf3.row _ rfl).2
        have hB3 : Below w.heap.size w w3 := hB2.trans (hb3.mono hB2s)
        have HB2 : Hid (Below w.heap.size w w2) := hB2
        clear hown hgr hB2
        go_loopw [9, 10, 11, 12, 38] (fun _ _ _ _ i wr => ∃ (k : Nat) (ps : List P3) (us : List V3), k ≤ fs.length ∧ i = .int .i64 k ∧ ps.length = k ∧ FilP w.heap.size w2.heap.size fs.length k ps us wr ∧ Below w2.heap.size w2 wr ∧ w2.heap.size < wr.heap.size ∧ Hid (∀ (i : Nat) f p, fs[i]? = some f → ps[i]? = some p → M.tp f = some p)) (fun _ _ _ _ i _ => fs.length - (intOf i).toNat)
        case atStart => exact ⟨0, [], _, Nat.zero_le _, rfl, rfl, hf3, hb3, hs3, (fun i f p _ e => by simp at e)⟩
        case round =>
          obtain ⟨k, ps, us, hk, rfl, hpl, hf, hb, hsz, HP⟩ := hrel
          clear hf3 hb3 hs3 hB3
          by_cases hlt : k < fs.length
          · obtain ⟨a, u, rfl, hc, hru⟩ := f4 k hlt
            have hcx : wr.cell? (a.add k) = some u := by rw [hb.cell (World.block_lt_of_cell? w2 _ hc)]; exact hc
            have hrx := hru.below hb (Nat.le_refl _)
            have htk := takepair_any hrx (by have := hflt fs[k] (List.getElem_mem hlt); omega)
            have hfk : fs[k]? = some fs[k] := by simp [hlt]
            have hki : (k : Int) < (fs.length : Int) := by omega
            obtain ⟨au, cu, rfl, _⟩ := hru
            generalize fs[k] = f at *
            clear f4 hc hrx
            cases htp : M.tp f with
            | none =>
              have hTn : T = none := by rw [HT2.out, M.allP_none hfk htp]; rfl
              subst hTn
              rw [htp] at htk
              clear HT2 HP
              go_wp2_with fail
              refine htk.mono ?_
              rintro e w4 ⟨u4, rfl, hE4, hb4⟩
              obtain ⟨⟨p0, p1, p2, e0⟩, p3, p4, p5, e1⟩ := hE4.sl
              obtain ⟨x0, x1, x2⟩ := u4
              simp only [] at *
              subst e0
              subst e1
              go_wp2_with fail
              go_ret2
              exact ⟨rfl, HB2.out.trans ((hb.trans ((Below.tr hb4 (bel_al w4 _)).mono hb.size)).mono hB2s)⟩
            | some p =>
              rw [htp] at htk
              go_wp2_with fail
              refine htk.mono ?_
              rintro e w4 ⟨u4, rfl, hE4, hb4⟩
              obtain ⟨⟨p0, p1, p2, e0⟩, p3, p4, p5, e1⟩ := hE4.sl
              have hul := hf.len
              have hf5 := (hf.below hb4).below (bel_al w4 (.cells #[u4.1, u4.2.1, .bool u4.2.2] 48))
              have hb5 : Below wr.heap.size wr (w4.alloc (.cells #[u4.1, u4.2.1, .bool u4.2.2] 48)) := Below.tr hb4 (bel_al w4 _)
              have hE5 := (hE4.below (bel_al w4 (.cells #[u4.1, u4.2.1, .bool u4.2.2] 48)) (Nat.le_refl _))
              have hne : ∀ b, Bl3 u4 b → b ≠ w2.heap.size := fun b hbb q => by have := (hE4.lt hbb).1; omega
              obtain ⟨g0, g1, g2⟩ := q3s_at us k us[k] (by simp [show k < us.length by omega])
              have hfz := row_froz hf5.row
              have hcl : ∀ j u, (q3s us)[j]? = some u → (w4.alloc (.cells #[u4.1, u4.2.1, .bool u4.2.2] 48)).cell? ⟨w2.heap.size, j, none⟩ = some u := fun j u hu => by
                obtain ⟨_, _, er, _, _, _, r4⟩ := row_reads hf5.row
                simp only [Value.slice.injEq, true_and] at er
                obtain ⟨rfl, rfl⟩ := er
                obtain ⟨g', eg, hc⟩ := r4 j u hu
                simp only [Option.some.injEq, Addr.mk.injEq, and_true] at eg
                rw [eg]; exact hc
              have k0 := hcl _ _ g0
              have k1 := hcl _ _ g1
              have k2 := hcl _ _ g2
              have z0 := hfz (k * 3)
              have z1 := hfz (k * 3 + 1)
              have z2 := hfz (k * 3 + 2)
              have hfin := hf5.put hlt hpl (hE5.mono (Nat.le_trans hB2s (Nat.le_of_lt hsz))) hne
              have hcg := (set3k_chg (w4.alloc (.cells #[u4.1, u4.2.1, .bool u4.2.2] 48)) w2.heap.size (k * 3) u4.1 u4.2.1 (.bool u4.2.2)).below (B := w2.heap.size) (fun b q => by omega) (by have := hb5.size; omega)
              have hs5 := hb5.size
              have HF : Hid _ := And.intro hfin (And.intro (hb.trans ((hb5.mono hb.size).trans hcg)) (Nat.lt_of_lt_of_le hsz (Nat.le_trans hs5 hcg.size)))
              clear hfin hcg hfz hcl hE4 hE5 hf5 hb5 hf hb hb4 g0 g1 g2 hne hs5
              obtain ⟨x0, x1, x2⟩ := u4
              simp only [] at *
              subst e0
              subst e1
              go_wp2_with fail
              refine ⟨⟨k + 1, ps ++ [p], us.set k (.slice p0 p1 p2, .slice p3 p4 p5, x2), by omega, by go_num, by simp [hpl], HF.out.1, HF.out.2.1, HF.out.2.2, fun i f' q e1 e2 => ?_⟩, by simp [intOf]; omega⟩
              by_cases hik : i < ps.length
              · rw [List.getElem?_append_left hik] at e2
                exact HP.out i f' q e1 e2
              · have hil : i < (ps ++ [p]).length := (List.getElem?_eq_some_iff.1 e2).1
                simp only [List.length_append, List.length_singleton] at hil
                obtain rfl : i = k := by omega
                rw [hfk] at e1
                obtain rfl := Option.some.inj e1
                rw [List.getElem?_append_right (by omega), hpl, Nat.sub_self] at e2
                obtain rfl := Option.some.inj e2
                exact htp
          · obtain rfl : k = fs.length := by omega
            have hTs : T = if M.ris ps then some ps else none := by rw [HT2.out, M.allP_some hpl HP.out]; rfl
            have hq := hf.rdq hpl
            have hris := rising_any hq
            clear HT2 HP f4 hf
            by_cases hri : M.ris ps = true
            · rw [if_pos hri] at hTs
              subst hTs
              rw [hri] at hris
              go_wp2_with fail
              refine hris.mono ?_
              rintro e w5 ⟨rfl, n5, rfl⟩
              go_wp2_with fail
              go_ret2
              refine ⟨.inl ⟨ps, _, rfl, rfl, ⟨wr.heap.size, _, rfl, cell_new1 (wr.drewN n5) _ _, hq.below (Below.tr (Below.dN wr n5) (bel_al _ _)) (Nat.le_refl _)⟩⟩, ?_⟩
              exact HB2.out.trans ((hb.trans ((Below.tr (Below.dN wr n5) (bel_al _ _)).mono hb.size)).mono hB2s)
            · rw [if_neg hri] at hTs
              subst hTs
              rw [show M.ris ps = false by simpa using hri] at hris
              go_wp2_with fail
              refine hris.mono ?_
              rintro e w5 ⟨rfl, n5, rfl⟩
              go_wp2_with fail
              go_ret2
              exact ⟨rfl, HB2.out.trans ((hb.trans ((Below.dN wr n5).mono hb.size)).mono hB2s)⟩
      · have hTn : T = none := by rw [← HT.out]; unfold M.opn; rw [if_neg (fun q => hro q.2.2)]
        subst hTn
        have htr : ∀ {W x}, Rd W x (M.tf l).1 → Calls Try.prog 37 #[x] W fun e w' => ∃ v' us, e = .returned (.tuple #[v', .int .i64 (M.tr (M.tf l).1).2]) ∧ Ows W.heap.size w' v' (M.tr (M.tf l).1).1 us ∧ Below W.heap.size W w' := fun {W x} hx => takerow_any hx (by omega)
        rw [her, hre] at htf
        have hne : (((M.tr (M.tf l).1).2 : Int) != 0) = true := by simp; omega
        clear HT hro her hre
        generalize M.tr (M.tf l).1 = R at *
        obtain ⟨fs, er⟩ := R
        simp only [] at *
        go_enter Try.func16, Try.ntmps16
        go_wp2_with fail
        refine htf.mono ?_
        rintro e w1 ⟨v1, v2, rfl, ho1, ho2, _, hb1⟩
        obtain ⟨a1, d1, rfl⟩ := ho1.shape
        obtain ⟨a2, d2, rfl⟩ := ho2.shape
        have ho1' := ho1.rd
        clear ho2 ho1
        simp only [List.length_nil] at *
        go_wp2_with fail
        refine (htr ho1').mono ?_
        rintro e w2 ⟨v3, vs, rfl, ho3, hb3⟩
        go_wp2_with fail
        go_ret2
        exact ⟨.inr ⟨trivial, rfl⟩, hb1.trans (hb3.mono hb1.size)⟩
    · have hTn : T = none := by rw [← HT.out]; unfold M.opn; rw [if_neg (fun q => hre q.2.1)]
      subst hTn
      have hgt : 0 < (M.tf l).2.1.length := by
        rcases Nat.eq_zero_or_pos (M.tf l).2.1.length with q | q
        · exact absurd (List.length_eq_zero_iff.1 q) hre
        · exact q
      rw [her] at htf
      generalize (M.tf l).2.1 = rest at *
      clear hre her HT
      go_enter Try.func16, Try.ntmps16
      go_wp2_with fail
      refine htf.mono ?_
      rintro e w1 ⟨v1, v2, rfl, ho1, ho2, _, hb1⟩
      obtain ⟨a1, d1, rfl⟩ := ho1.shape
      obtain ⟨a2, d2, rfl⟩ := ho2.shape
      clear ho2 ho1
      go_wp2_with fail
      go_ret2
      exact ⟨.inr ⟨trivial, rfl⟩, hb1⟩
  · have hTn : T = none := by rw [← HT.out]; unfold M.opn; rw [if_neg (fun q => her q.1)]
    subst hTn
    have hne : (((M.tf l).2.2 : Int) != 0) = true := by simp; omega
    generalize (M.tf l).2.1 = rest at *
    generalize (M.tf l).2.2 = er at *
    clear her HT
    go_enter Try.func16, Try.ntmps16
    go_wp2_with fail
    refine htf.mono ?_
    rintro e w1 ⟨v1, v2, rfl, ho1, ho2, _, hb1⟩
    obtain ⟨a1, d1, rfl⟩ := ho1.shape
    obtain ⟨a2, d2, rfl⟩ := ho2.shape
    clear ho2 ho1
    go_wp2_with fail
    go_ret2
    exact ⟨.inr ⟨trivial, rfl⟩, hb1⟩
end Go.Proofs.Ytdfhhliapcdebaa

/- What copied answers: the same pair in memory of its own. -/
namespace Go.Proofs.Ytdfhhliapcdebaa
open Go.RowKit
set_option linter.unusedVariables false
set_option maxRecDepth 100000

set_option maxHeartbeats 2000000 in
theorem copied_any {x y : Value} {p : P3} {w : World} (h1 : Rd w x p.1) (h2 : Rd w y p.2.1) (hl : p.1.length + p.2.1.length ≤ 1099511627776) :
    Calls Try.prog 42 #[.agg #[x, y, .bool p.2.2]] w fun e w' => ∃ u : V3, e = .returned (.agg #[u.1, u.2.1, .bool u.2.2]) ∧ El3 w.heap.size w' u p ∧ Below w.heap.size w w' := by
  have hr1 := fun W (hW : Below w.heap.size w W) => h1.below hW (Nat.le_refl _)
  have hr2 := fun W (hW : Below w.heap.size w W) => h2.below hW (Nat.le_refl _)
  obtain ⟨ax, cx, rfl, _⟩ := h1
  obtain ⟨ay, cy, rfl, _⟩ := h2
  obtain ⟨pk, pv, pg⟩ := p
  simp only [] at *
  have hbx : ((w.alloc (.cells #[.slice ax pk.length cx, .slice ay pv.length cy, .bool pg] 48)).alloc (.cells #[.slice none 0 0, .slice none 0 0, .bool false] 48)).heap[w.heap.size]? = some (.cells #[.slice ax pk.length cx, .slice ay pv.length cy, .bool pg] 48 (0, 0)) := by
    rw [Below.heap_alloc _ _ _ (by simp)]; exact heap_alloc_new w _
  have hrs : ((w.alloc (.cells #[.slice ax pk.length cx, .slice ay pv.length cy, .bool pg] 48)).alloc (.cells #[.slice none 0 0, .slice none 0 0, .bool false] 48)).heap[w.heap.size + 1]? = some (.cells #[.slice none 0 0, .slice none 0 0, .bool false] 48 (0, 0)) := by
    have := heap_alloc_new (w.alloc (.cells #[.slice ax pk.length cx, .slice ay pv.length cy, .bool pg] 48)) (.cells #[.slice none 0 0, .slice none 0 0, .bool false] 48)
    rw [World.size_alloc] at this
    exact this
  have hB0 : Below w.heap.size w ((w.alloc (.cells #[.slice ax pk.length cx, .slice ay pv.length cy, .bool pg] 48)).alloc (.cells #[.slice none 0 0, .slice none 0 0, .bool false] 48)) := (bel_al w _).alloc (by simp) _
  have hz0 : ((w.alloc (.cells #[.slice ax pk.length cx, .slice ay pv.length cy, .bool pg] 48)).alloc (.cells #[.slice none 0 0, .slice none 0 0, .bool false] 48)).heap.size = w.heap.size + 2 := by simp
  go_enter Try.func42, Try.ntmps42
  go_wp2_with fail
  generalize ((w.alloc (.cells #[.slice ax pk.length cx, .slice ay pv.length cy, .bool pg] 48)).alloc (.cells #[.slice none 0 0, .slice none 0 0, .bool false] 48)) = W0 at *
  obtain ⟨c0, c1, c2, _⟩ := cells3 hbx
  have kc : ∀ W, Below W0.heap.size W0 W → (W.cell? ⟨w.heap.size, 0, none⟩ = some (.slice ax pk.length cx) ∧ W.cell? ⟨w.heap.size, 1, none⟩ = some (.slice ay pv.length cy) ∧ W.cell? ⟨w.heap.size, 2, none⟩ = some (.bool pg)) ∧ W.heap[w.heap.size + 1]? = some (.cells #[.slice none 0 0, .slice none 0 0, .bool false] 48 (0, 0)) := fun W hW => by
    have e1 : W.heap[w.heap.size]? = W0.heap[w.heap.size]? := hW.block _ (by omega)
    have e2 : W.heap[w.heap.size + 1]? = W0.heap[w.heap.size + 1]? := hW.block _ (by omega)
    obtain ⟨q0, q1, q2, _⟩ := cells3 (e1.trans hbx)
    exact ⟨⟨q0, q1, q2⟩, e2.trans hrs⟩
  have cl1 : ∀ W, Below W0.heap.size W0 W → Calls Try.prog 52 #[.slice ax pk.length cx] W fun e w' => ∃ v', e = .returned v' ∧ Ow W0.heap.size w' v' pk ∧ Below W0.heap.size W0 w' := fun W hW => (clone_any (hr1 W (hB0.trans (hW.mono hB0.size))) (by omega)).mono (by
    rintro e w' ⟨v', rfl, q1, q2⟩
    exact ⟨v', rfl, q1.mono hW.size, hW.trans (q2.mono hW.size)⟩)
  have cl2 : ∀ W, Below W0.heap.size W0 W → Calls Try.prog 52 #[.slice ay pv.length cy] W fun e w' => ∃ v', e = .returned v' ∧ Ow W.heap.size w' v' pv ∧ Below W.heap.size W w' := fun W hW => clone_any (hr2 W (hB0.trans (hW.mono hB0.size))) (by omega)
  have fin : ∀ (w1 w2 : World) (a b : Value), Below W0.heap.size W0 w1 → Below w1.heap.size w1 w2 → Ow W0.heap.size w1 a pk → Ow w1.heap.size w2 b pv → ∀ W, W = (((w2.setCell ⟨w.heap.size + 1, 0, none⟩ a).setCell ⟨w.heap.size + 1, 1, none⟩ b).setCell ⟨w.heap.size + 1, 2, none⟩ (.bool pg)) → (W.cell? ⟨w.heap.size + 1, 0, none⟩ = some a ∧ W.cell? ⟨w.heap.size + 1, 1, none⟩ = some b ∧ W.cell? ⟨w.heap.size + 1, 2, none⟩ = some (.bool pg)) ∧ El3 w.heap.size W (a, b, pg) (pk, pv, pg) ∧ Below w.heap.size w W := fun w1 w2 a b g1 g2 oa ob W hW => by
    subst hW
    have hB2 : Below W0.heap.size W0 w2 := g1.trans (g2.mono g1.size)
    have hch := set3_chg w2 (w.heap.size + 1) a b (.bool pg)
    obtain ⟨k0, k1, k2, _⟩ := cells3 (set3_block (kc w2 hB2).2 a b (.bool pg))
    have s1 := g1.size
    refine ⟨⟨k0, k1, k2⟩, ⟨((oa.below g2 (Nat.le_refl _)).keptC hch (fun b e q => by have := (World.ownsRow.lt oa b e).1; omega)).mono (by omega), (ob.keptC hch (fun b e q => by have := (World.ownsRow.lt ob b e).1; omega)).mono (by omega), rfl⟩, hB0.trans ((hB2.mono (by omega)).trans (hch.below (fun b q => by omega) (by have := hB2.size; omega)))⟩
  have HF : Hid _ := fin
  clear fin hr1 hr2
  go_region_held3 (fun w' => w'.cell? ⟨w.heap.size, 0, none⟩ = some (.slice ax pk.length cx) ∧ w'.cell? ⟨w.heap.size, 1, none⟩ = some (.slice ay pv.length cy) ∧ w'.cell? ⟨w.heap.size, 2, none⟩ = some (.bool pg)) (go_keep) (first
    | (go_at_call 52; refine (cl2 w1 hB1).mono ?_; rintro e w2 ⟨v2, rfl, hoy, hb2⟩; obtain ⟨a2, d2, rfl⟩ := hoy.shape; obtain ⟨⟨t0, t1, t2⟩, hR2⟩ := kc w2 (hB1.trans (hb2.mono hB1.size)); obtain ⟨r0, r1, r2, rz⟩ := cells3 hR2; have rz0 := rz 0; have rz1 := rz 1; have rz2 := rz 2)
    | (go_at_call 52; refine (cl1 _ (bel_drew W0)).mono ?_; rintro e w1 ⟨v1, rfl, hox, hB1⟩; obtain ⟨a1, d1, rfl⟩ := hox.shape; obtain ⟨⟨s0, s1, s2⟩, _⟩ := kc w1 hB1)
    | fail)
  go_wp2_with fail
  obtain ⟨⟨k0, k1, k2⟩, hE, hBz⟩ := HF.out w1 w2 _ _ hB1 hb2 hox hoy _ rfl
  generalize (((w2.setCell ⟨w.heap.size + 1, 0, none⟩ (.slice a1 pk.length d1)).setCell ⟨w.heap.size + 1, 1, none⟩ (.slice a2 pv.length d2)).setCell ⟨w.heap.size + 1, 2, none⟩ (.bool pg)) = wz at *
  refine bodyPost_ret (v := .agg #[.slice a1 pk.length d1, .slice a2 pv.length d2, .bool pg]) (by simp [results, Try.results42, go_sem, k0, k1, k2]; try rfl) rfl ?_
  exact ⟨(.slice a1 pk.length d1, .slice a2 pv.length d2, pg), rfl, hE, hBz⟩
end Go.Proofs.Ytdfhhliapcdebaa

/- The place of a key in a table. -/
namespace Go.Proofs.Ytdfhhliapcdebaa
open Go.RowKit Go.Maps
set_option linter.unusedVariables false
set_option maxRecDepth 100000

theorem place1_any {x y kv : Value} {p : P3} {key : List UInt8} {w : World} (h1 : Rd w x p.1) (h2 : ∃ a n c, y = .slice a n c) (h3 : Rd w kv key) : Calls Try.prog 62 #[.agg #[x, y, .bool p.2.2], kv] w fun e w' => e = .returned (.int .i64 (M.cmpL p.1 key)) ∧ Below w.heap.size w w' := by
  obtain ⟨a2, n2, c2, rfl⟩ := h2
  have hc := fun W (hW : Below w.heap.size w W) => bcompare_any (h1.below hW (Nat.le_refl _)) (h3.below hW (Nat.le_refl _))
  obtain ⟨ax, cx, rfl, _⟩ := h1
  obtain ⟨ak, ck, rfl, _⟩ := h3
  go_enter Try.func62, Try.ntmps62
  go_wp2_with fail
  refine (hc _ (bel_al w _)).mono ?_
  rintro e w1 ⟨rfl, rfl⟩
  go_wp2_with fail
  go_ret
  exact ⟨rfl, bel_al w _⟩

set_option maxHeartbeats 1000000 in
theorem psearch_any {v kv : Value} {ps : List P3} {key : List UInt8} {w : World} (h : RdQ w v ps) (hk : Rd w kv key) (hU : M.ris ps = true) (hl : ps.length ≤ 1099511627776) :
    Calls Try.prog 61 #[v, kv, .func (.func 62) #[] #[]] w fun e w' => e = .returned (.tuple #[.int .i64 (M.plK ps key : Int), .bool (M.isK ps key)]) ∧ Below w.heap.size w w' := by
  obtain ⟨ao, c, rfl, h1, h2, h4⟩ := h
  unfold maxLen at h2
  have hkb := fun W (hW : Below w.heap.size w W) => hk.below hW (Nat.le_refl _)
  obtain ⟨ak, ck, rfl, _⟩ := hk
  go_enter Try.func61, Try.ntmps61
  go_wp2_with fail
  go_loopw [9, 10, 11] (fun i j _ wr => ∃ (i0 j0 : Nat), i0 ≤ j0 ∧ j0 ≤ ps.length ∧ i = .int .i64 i0 ∧ j = .int .i64 j0 ∧ Hid (∀ k p, k < i0 → ps[k]? = some p → M.cmpL p.1 key < 0) ∧ Hid (∀ k p, j0 ≤ k → ps[k]? = some p → 0 ≤ M.cmpL p.1 key) ∧ Below w.heap.size w wr) (fun i j _ _ => (intOf j).toNat - (intOf i).toNat)
  case atStart => exact ⟨0, ps.length, by omega, by omega, rfl, rfl, (fun k p q => by omega), (fun k p q e => by have := (List.getElem?_eq_some_iff.1 e).1; omega), Below.refl _ _⟩
  case round =>
    obtain ⟨i0, j0, hij, hjn, rfl, rfl, HLO, HHI, hb⟩ := hrel
    by_cases hlt : i0 < j0
    · obtain ⟨k, hk⟩ : ∃ k, (i0 + j0) / 2 = k := ⟨_, rfl⟩
      have hkl : k < ps.length := by omega
      obtain ⟨p, hp⟩ : ∃ p, ps[k]? = some p := ⟨_, List.getElem?_eq_getElem hkl⟩
      obtain ⟨a, u1, u2, rfl, hpa⟩ := h4 k p hp
      have hpr := hpa.below hb (Nat.le_refl _)
      have c0 := hpr.c0
      have c1 := hpr.c1
      have c2 := hpr.c2
      have hf := place1_any (p := p) hpr.r1 (by obtain ⟨_, _, e, _⟩ := hpr.r2; exact ⟨_, _, _, e⟩) (hkb wr hb)
      obtain ⟨ax, cx, rfl, _⟩ := hpr.r1
      obtain ⟨ay, cy, rfl, _⟩ := hpr.r2
      have hki : ((i0 : Int) + (j0 : Int)) / 2 = (k : Int) := by omega
      have hk1 : i0 ≤ k ∧ k < j0 := by omega
      have HR : Hid _ := And.intro hU hp
      clear h4 hpa hpr hU hp hk
      obtain ⟨pk, pv, pg⟩ := p
      simp only [] at *
      by_cases hlt2 : M.cmpL pk key < 0
      · have HZ : Hid _ := hlt2
        generalize hz : M.cmpL pk key = z at *
        have HZ2 : Hid _ := hz
        clear hz
        go_wp2_with fail
        refine hf.mono ?_
        rintro e w1 ⟨rfl, hb1⟩
        go_wp2_with fail
        refine ⟨⟨k + 1, j0, by omega, hjn, by go_num, rfl, fun k' p hk' e => ?_, HHI, Below.tr hb hb1⟩, by simp [intOf]; omega⟩
        rcases Nat.lt_or_ge k' k with q | q
        · exact M.cmpL_trans (M.ris_pair HR.out.1 e HR.out.2 q) (by rw [HZ2.out]; exact HZ.out)
        · obtain rfl : k' = k := by omega
          rw [HR.out.2] at e
          obtain rfl := Option.some.inj e
          rw [HZ2.out]; exact HZ.out
      · have HZ : Hid _ := hlt2
        generalize hz : M.cmpL pk key = z at *
        have HZ2 : Hid _ := hz
        have hz0 : 0 ≤ z := by omega
        have hzd : decide (z < 0) = false := decide_eq_false (by omega)
        clear hz
        go_wp2_with fail
        refine hf.mono ?_
        rintro e w1 ⟨rfl, hb1⟩
        go_wp2_with fail
        refine ⟨⟨i0, k, by omega, by omega, rfl, by go_num, HLO, fun k' p hk' e => ?_, Below.tr hb hb1⟩, by simp [intOf]; omega⟩
        have hzz : 0 ≤ M.cmpL pk key := by rw [HZ2.out]; exact hz0
        rcases Nat.lt_or_ge k k' with q | q
        · have h1 := M.ris_pair HR.out.1 HR.out.2 e q
          have s1 := M.cmpL_swap key pk
          have s2 := M.cmpL_swap key p.1
          have := M.cmpL_le_lt (show M.cmpL key pk ≤ 0 by omega) h1
          omega
        · obtain rfl : k' = k := by omega
          rw [HR.out.2] at e
          obtain rfl := Option.some.inj e
          exact hzz
    · obtain rfl : i0 = j0 := by omega
      have hpl : M.plK ps key = i0 := M.plK_eq (fun k x hk e => HLO.out k x hk e) (fun x e => by have := HHI.out i0 x (Nat.le_refl _) e; omega) hjn
      by_cases hlt3 : i0 < ps.length
      · obtain ⟨p, hp⟩ : ∃ p, ps[i0]? = some p := ⟨_, List.getElem?_eq_getElem hlt3⟩
        obtain ⟨a, u1, u2, rfl, hpa⟩ := h4 i0 p hp
        have hpr := hpa.below hb (Nat.le_refl _)
        have c0 := hpr.c0
        have c1 := hpr.c1
        have c2 := hpr.c2
        have hf := place1_any (p := p) hpr.r1 (by obtain ⟨_, _, e, _⟩ := hpr.r2; exact ⟨_, _, _, e⟩) (hkb wr hb)
        obtain ⟨ax, cx, rfl, _⟩ := hpr.r1
        obtain ⟨ay, cy, rfl, _⟩ := hpr.r2
        have hisN : M.isK ps key = (M.cmpL p.1 key == 0) := by unfold M.isK; rw [hpl, hp]
        have HP : Hid _ := And.intro hpl hisN
        clear hpl hisN HLO HHI hU hp h4 hpa hpr
        obtain ⟨pk, pv, pg⟩ := p
        simp only [] at *
        generalize M.cmpL pk key = z at *
        go_wp2_with fail
        refine hf.mono ?_
        rintro e w1 ⟨rfl, hb1⟩
        go_wp2_with fail
        go_ret2
        rw [HP.out.1, HP.out.2]
        exact ⟨rfl, Below.tr hb hb1⟩
      · have hisN : M.isK ps key = false := by unfold M.isK; rw [hpl, List.getElem?_eq_none (by omega)]
        have HP : Hid _ := And.intro hpl hisN
        clear hpl hisN HLO HHI hU h4
        go_wp2_with fail
        go_ret2
        rw [HP.out.1, HP.out.2]
        exact ⟨rfl, hb⟩
theorem place_any {t kv : Value} {ps : List P3} {key : List UInt8} {w : World} (h : Tbl w t ps) (hk : Rd w kv key) (hU : M.ris ps = true) (hl : ps.length ≤ 1099511627776) :
    Calls Try.prog 41 #[t, kv] w fun e w' => e = .returned (.tuple #[.int .i64 (M.plK ps key : Int), .bool (M.isK ps key)]) ∧ Below w.heap.size w w' := by
  obtain ⟨b, sv, rfl, hc, hq⟩ := h
  have hs := psearch_any hq hk hU hl
  obtain ⟨ao, c, rfl, _⟩ := hq
  obtain ⟨ak, ck, rfl, _⟩ := hk
  go_enter Try.func41, Try.ntmps41
  go_wp2_with fail
  refine hs.mono ?_
  rintro e w1 ⟨rfl, hb1⟩
  go_wp2_with fail
  go_ret2
  exact ⟨rfl, hb1⟩
end Go.Proofs.Ytdfhhliapcdebaa

/- What awake answers: true. And Len. -/
namespace Go.Proofs.Ytdfhhliapcdebaa
open Go.RowKit
set_option linter.unusedVariables false
set_option maxRecDepth 100000

theorem tlen_any {w : World} {t : Value} {ps : List P3} (h : Tbl w t ps) : Calls Try.prog 21 #[t] w fun e w' => e = .returned (.int .i64 ps.length) ∧ w' = w := by
  obtain ⟨b, sv, rfl, hc, hq⟩ := h
  obtain ⟨ao, c, rfl, _⟩ := hq
  go_enter Try.func21, Try.ntmps21
  go_wp2_with fail
  go_ret
  exact ⟨rfl, rfl⟩

/-- Two pairs in a new block. -/
theorem rdq_two (w : World) (H : Nat) (hH : w.heap.size = H) {x y x' y' : Value} {p q : P3} (t : TypeId) (h1 : Rd w x p.1) (h2 : Rd w y p.2.1) (h3 : Rd w x' q.1) (h4 : Rd w y' q.2.1) : RdQ (w.alloc (.cells #[x, y, .bool p.2.2, x', y', .bool q.2.2] t)) (.slice (some ⟨H, 0, none⟩) 2 2) [p, q] := by
  subst hH
  have hb := bel_al w (.cells #[x, y, .bool p.2.2, x', y', .bool q.2.2] t)
  have hc : ∀ j u, #[x, y, .bool p.2.2, x', y', .bool q.2.2][j]? = some u → (w.alloc (.cells #[x, y, .bool p.2.2, x', y', .bool q.2.2] t)).cell? ⟨w.heap.size, j, none⟩ = some u := fun j u e => by
    rw [World.cell?_alloc_at _ _ _ _ rfl]; exact e
  refine ⟨some ⟨w.heap.size, 0, none⟩, 2, rfl, by simp, by simp [maxLen], fun i r hi => ?_⟩
  match i with
  | 0 =>
    simp at hi; subst hi
    exact ⟨⟨w.heap.size, 0, none⟩, x, y, rfl, hc 0 x rfl, hc 1 y rfl, hc 2 _ rfl, h1.below hb (Nat.le_refl _), h2.below hb (Nat.le_refl _)⟩
  | 1 =>
    simp at hi; subst hi
    exact ⟨⟨w.heap.size, 0, none⟩, x', y', rfl, hc 3 x' rfl, hc 4 y' rfl, hc 5 _ rfl, h3.below hb (Nat.le_refl _), h4.below hb (Nat.le_refl _)⟩
  | i + 2 => simp at hi

theorem tab_len (ps : List P3) : (M.tab ps).length ≤ 30 * totP ps + 40 := by
  have h1 := row_tot ps
  have h2 := vi_len (M.row (ps.map M.prow)).length
  have h3 := M.be_length 4 (M.crc (M.row (ps.map M.prow)))
  simp only [M.tab, M.frame, List.length_append]
  omega
/-- What is built is opened as just that. -/
theorem opn_tab (ps : List P3) (hr : M.ris ps = true) (hl : totP ps ≤ 4194304) : M.opn (M.tab ps) = some ps := by
  have h1 := row_tot ps
  have hpl := totP_len ps
  have e1 : M.tf (M.tab ps) = (M.row (ps.map M.prow), [], 0) := by
    have := M.tf_back (M.row (ps.map M.prow)) [] (by omega)
    rwa [List.append_nil] at this
  have e2 : M.tr (M.row (ps.map M.prow)) = (ps.map M.prow, 0) := M.tr_row _ (by simp; omega) (fun f hf => by
    obtain ⟨p, hp, rfl⟩ := List.mem_map.1 hf
    have := prow_len p
    have := totP_mem ps p hp
    omega)
  unfold M.opn
  rw [e1]
  simp only []
  rw [e2]
  simp only []
  rw [if_pos ⟨trivial, trivial, trivial⟩, M.allP_back ps (fun p hp => by have := totP_mem ps p hp; omega)]
  simp [M.keepR, hr]

theorem conv_at (w : World) (C : Array Value) (n c g : Nat) (hg : g = w.heap.size) : (convert 25 25 (.slice (some ⟨g, 0, none⟩) n c)).run Try.prog (w.alloc (.cells C 5)) = .ok (.slice (some ⟨g, 0, none⟩) n c) (w.alloc (.cells C 5 (C.size, C.size + 1))) := by
  subst hg; exact Lib.run_convert_bytes_const (P := Try.prog) w 25 5 C n c Try.underlying25 Try.underlying5
theorem rd_litH (w : World) (H : Nat) (hH : w.heap.size = H) (b : UInt8) (z : Int) (hz : z = (b.toNat : Int)) (fr : Nat × Nat) (t : TypeId) : Rd (w.alloc (.cells #[.int .u8 z] t fr)) (.slice (some ⟨H, 0, none⟩) 1 1) [b] := by
  subst hH
  subst hz
  refine Rd.mk rfl (by simp) (by simp [maxLen]) (fun i hi => ?_)
  obtain rfl : i = 0 := by simpa using hi
  have e : (w.alloc (.cells #[.int .u8 (b.toNat : Int)] t fr)).heap[w.heap.size]? = some (.cells #[.int .u8 (b.toNat : Int)] t fr) := by
    show (w.heap.push _)[w.heap.size]? = _
    simp
  rw [add_zero, cell_of_row _ _ _ _ _ _ e]
  rfl

set_option maxHeartbeats 1000000 in
theorem tawake_any (w : World) : Calls Try.prog 9 #[] w fun e w' => e = .returned (.bool true) ∧ Below w.heap.size w w' := by
  have hbld : M.bld [([97], [49], false), ([98], [], true)] = (M.tab [([97], [49], false), ([98], [], true)], 0) := by
    unfold M.bld; rw [if_pos (by decide)]
  have hop := opn_tab [([97], [49], false), ([98], [], true)] (by decide) (by decide)
  have hlen := tab_len [([97], [49], false), ([98], [], true)]
  have htot : totP [([97], [49], false), ([98], [], true)] = 9 := by decide
  rw [htot] at hlen
  have HB : Hid _ := And.intro hbld (And.intro hop hlen)
  clear hbld hop hlen htot
  have kc := conv_at
  go_enter Try.func9, Try.ntmps9
  go_wp2_with fail
  refine (build_any (ps := [([97], [49], false), ([98], [], true)]) (rdq_two _ _ (by simp) (p := ([97], [49], false)) (q := ([98], [], true)) _ (((rd_litH w _ rfl 97 _ rfl _ _).alloc _).alloc _) ((rd_litH _ _ (by simp) 49 _ rfl _ _).alloc _) (rd_litH _ _ (by simp) 98 _ rfl _ _) (Rd.nil _)) (by decide)).mono ?_
  rintro e w1 ⟨v1, rfl, ho1, hb1⟩
  have hB1 : Below w.heap.size w w1 := Below.tr (Below.tr (Below.tr (Below.tr (bel_al w _) (bel_al _ _)) (bel_al _ _)) (bel_al _ _)) hb1
  have ho2 := ho1.rd
  rw [HB.out.1] at ho2 ⊢
  clear ho1 hb1 kc
  simp only [] at ho2
  have hop := HB.out.2.1
  have hln := HB.out.2.2
  have HC : Hid _ := hop
  clear hop
  generalize hTL : M.tab [([97], [49], false), ([98], [], true)] = TL at *
  have ho3 := ho2
  obtain ⟨a1, d1, rfl, _⟩ := ho2
  go_wp2_with fail
  refine (open_any ho3 (by omega)).mono ?_
  rintro e w2 ⟨hor, hb2⟩
  rcases hor with ⟨ps, t, hps, rfl, ht⟩ | ⟨hno, _⟩
  · rw [HC.out] at hps
    obtain rfl := Option.some.inj hps
    have hln := tlen_any ht
    obtain ⟨b, sv, rfl, hc, hq⟩ := ht
    go_wp2_with fail
    refine hln.mono ?_
    rintro e w3 ⟨rfl, rfl⟩
    go_wp2_with fail
    go_ret
    exact ⟨rfl, hB1.trans (hb2.mono hB1.size)⟩
  · rw [HC.out] at hno; cases hno
end Go.Proofs.Ytdfhhliapcdebaa

/- What Get and Range answer of a table. -/
namespace Go.Proofs.Ytdfhhliapcdebaa
open Go.RowKit
set_option linter.unusedVariables false
set_option maxRecDepth 100000

/-- The pairs from a key on that are below another one. -/
def rng (ps : List P3) (fr till : List UInt8) : List P3 := (ps.take (if till.length = 0 then ps.length else M.plK ps till)).drop (M.plK ps fr)
/-- The pair with that key. -/
def getK (ps : List P3) (key : List UInt8) : Option P3 := if M.isK ps key then ps[M.plK ps key]? else none

/-- One pair more, whose slices are new. -/
theorem OwQ.snocE {B : Nat} {w w1 w3 w4 : World} {v v' : Value} {ps : List P3} {us : List V3} {u : V3} {p : P3} (h : OwQ B w v ps us) (h1 : Below w.heap.size w w1) (h3 : Below w1.heap.size w1 w3) (hu : El3 w.heap.size w1 u p) (hB : B ≤ w.heap.size)
    (hrow : w4.ownsRow B 48 3 v' (us ++ [u]).length (q3s (us ++ [u]))) (hg : w3.grownBy w4 v.ownBlock) (hv : v'.ownBlock = v.ownBlock ∨ v'.ownBlock = some w3.heap.size) : OwQ B w4 v' (ps ++ [p]) (us ++ [u]) := by
  refine (h.below (Below.tr h1 h3) (Nat.le_refl _)).app rfl ?_ ?_ hrow hg hv
  · intro i x q e1 e2
    cases i with
    | zero => simp at e1 e2; subst e1; subst e2; exact (hu.below h3 (Nat.le_refl _)).mono hB
    | succ i => simp at e1
  · intro x hx b hb q
    obtain rfl := List.mem_singleton.1 hx
    have l1 := (World.ownsRow.lt h.row b q).2
    have := (hu.lt hb).1
    omega

theorem rng_snoc (ps : List P3) (f k : Nat) (p : P3) (hk : ps[k]? = some p) (hf : f ≤ k) : (ps.take (k + 1)).drop f = (ps.take k).drop f ++ [p] := by
  have hl := (List.getElem?_eq_some_iff.1 hk).1
  rw [take_snocP ps k p hk, List.drop_append_of_le_length (by simp; omega)]

set_option maxHeartbeats 2000000 in
theorem range_any {t fv tv : Value} {ps : List P3} {fr till : List UInt8} {w : World} (h : Tbl w t ps) (hf : Rd w fv fr) (ht : Rd w tv till) (hU : M.ris ps = true) (hl : totP ps ≤ 4194304) :
    Calls Try.prog 20 #[t, fv, tv] w fun e w' => ∃ v' us, e = .returned v' ∧ OwQ w.heap.size w' v' (rng ps fr till) us ∧ Below w.heap.size w w' := by
  have hpl := totP_len ps
  have p1 := fun W (hW : Below w.heap.size w W) => place_any (h.below hW (Nat.le_refl _)) (hf.below hW (Nat.le_refl _)) hU (by omega)
  have p2 := fun W (hW : Below w.heap.size w W) => place_any (h.below hW (Nat.le_refl _)) (ht.below hW (Nat.le_refl _)) hU (by omega)
  have hle := M.plK_le ps fr
  have hle2 := M.plK_le ps till
  have hch := fun W (hW : Below w.heap.size w W) => h.below hW (Nat.le_refl _)
  obtain ⟨b, sv, rfl, hc, hq⟩ := h
  have hcw : ∀ W, Below w.heap.size w W → W.cell? ⟨b, 0, none⟩ = some sv := fun W hW => by rw [hW.cell (World.block_lt_of_cell? _ _ hc)]; exact hc
  obtain ⟨ao, c, rfl, h1, h2, h4⟩ := hq
  unfold maxLen at h2
  obtain ⟨af, cf, rfl, _⟩ := hf
  obtain ⟨at_, ct, rfl, t1, t2, _⟩ := ht
  unfold maxLen at t2
  unfold rng
  generalize M.plK ps fr = f at *
  have HT : Hid (∃ g, g = (if till.length = 0 then ps.length else M.plK ps till) ∧ g ≤ ps.length) := ⟨_, rfl, by split <;> omega⟩
  obtain ⟨g, hg, hgl⟩ := HT.out
  rw [← hg]
  have tail : ∀ (ww : World), Below w.heap.size w ww → True := fun _ _ => trivial
  clear HT tail hch
  by_cases hte : till.length = 0
  · rw [if_pos hte] at hg
    subst hg
    have hte2 : ¬ 0 < till.length := by omega
    clear p2 hte
    go_enter Try.func20, Try.ntmps20
    go_wp2_with fail
    refine (p1 w (Below.refl _ _)).mono ?_
    rintro e w1 ⟨rfl, hb1⟩
    have c1 := hcw w1 hb1
    go_wp2_with fail
    go_loopw [10, 11] (fun out i wr => ∃ (k : Nat) (us : List V3), f ≤ k ∧ k ≤ ps.length ∧ (k ≤ ps.length ∨ k = f) ∧ i = .int .i64 k ∧ OwQ w.heap.size wr out ((ps.take k).drop f) us ∧ Below w.heap.size w wr) (fun _ i _ => ps.length - (intOf i).toNat)
    case atStart => exact ⟨f, [], Nat.le_refl _, hle, .inr rfl, rfl, by rw [List.drop_eq_nil_of_le (by simp; omega)]; exact OwQ.nil _ _, hb1⟩
    case round =>
      obtain ⟨k, us, hfk, hkl, hkg, rfl, ho, hb⟩ := hrel
      have hB := hb.size
      by_cases hlt : k < ps.length
      · obtain ⟨p, hp⟩ : ∃ p, ps[k]? = some p := ⟨_, List.getElem?_eq_getElem (by omega)⟩
        have hm := totP_mem ps p (List.mem_of_getElem? hp)
        obtain ⟨a, u1, u2, rfl, hpa⟩ := h4 k p hp
        have hpr := hpa.below hb (Nat.le_refl _)
        have c0 := hpr.c0
        have c1 := hpr.c1
        have c2 := hpr.c2
        have cb := hcw wr hb
        have hcp := copied_any (p := p) hpr.r1 hpr.r2 (by omega)
        have hul := ho.len
        rw [List.length_drop, List.length_take, Nat.min_eq_left (by omega)] at hul
        have HT : Hid _ := rng_snoc ps f k p hp hfk
        obtain ⟨x1, y1, rfl, _⟩ := hpr.r1
        obtain ⟨x2, y2, rfl, _⟩ := hpr.r2
        obtain ⟨pk, pv, pg⟩ := p
        simp only [] at *
        obtain ⟨xo, yo, hoe, _⟩ := ho.shape
        rw [List.length_drop, List.length_take, Nat.min_eq_left (by omega)] at hoe
        subst hoe
        have hi1 : (k : Int) < (ps.length : Int) := by omega
        have hnl : us.length + [((Value.slice none 0 0, Value.slice none 0 0, pg) : V3)].length ≤ 1099511627776 := by simp; omega
        clear h4 hpa hp hpr
        go_wp2_with fail
        refine hcp.mono ?_
        rintro e w3 ⟨u3, rfl, hE3, hb3⟩
        have hs3 := hb3.size
        obtain ⟨⟨q0, q1, q2, e0⟩, q3, q4, q5, e1⟩ := hE3.sl
        have hrw := ownsRow_belW (ownsRow_belW ho.row hb3 (Nat.le_refl _)) (bel_al w3 (.cells #[u3.1, u3.2.1, .bool u3.2.2] 48)) (Nat.le_refl _)
        have hrv := rdV_one w3 u3 hE3.sl (cs := #[u3.1, u3.2.1, .bool u3.2.2]) rfl 48
        obtain ⟨x0, x1', x2'⟩ := u3
        simp only [] at *
        subst e0
        subst e1
        go_wp2_with (first | (at_builtin; refine wpList_appQ rfl _ _ rfl w.heap.size (.slice xo (k - f) yo) us rfl hrw _ [(.slice q0 q1 q2, .slice q3 q4 q5, x2')] rfl hrv (by simp; omega) hnl ?_; intro v5 w5 ho5 hg5 hv5) | fail)
        refine ⟨⟨k + 1, us ++ [(.slice q0 q1 q2, .slice q3 q4 q5, x2')], by omega, by omega, .inl (by omega), by go_num, ?_, hb.trans (ho.grown (Below.tr hb3 (bel_al w3 _)) hB hg5)⟩, by simp [intOf]; omega⟩
        rw [HT.out]
        exact ho.snocE hb3 (bel_al w3 _) hE3 hB ho5 hg5 hv5
      · have hfin : (ps.take k).drop f = (ps.take ps.length).drop f := by
          rcases hkg with q | q
          · rw [show k = ps.length by omega]
          · rw [List.drop_eq_nil_of_le (by simp; omega), List.drop_eq_nil_of_le (by simp; omega)]
        rw [hfin] at ho
        clear h4 hfin
        go_wp2_with fail
        go_ret
        exact ⟨_, us, rfl, ho, hb⟩
  · rw [if_neg hte] at hg
    subst hg
    have hte2 : 0 < till.length := by omega
    clear hte
    go_enter Try.func20, Try.ntmps20
    go_wp2_with fail
    refine (p1 w (Below.refl _ _)).mono ?_
    rintro e w1 ⟨rfl, hb1⟩
    have c1 := hcw w1 hb1
    go_wp2_with fail
    refine (p2 w1 hb1).mono ?_
    rintro e w2 ⟨rfl, hb2⟩
    replace hb1 : Below w.heap.size w w2 := hb1.trans (hb2.mono hb1.size)
    clear c1
    generalize hgq : M.plK ps till = g at *
    have HG : Hid _ := hgq
    clear hgq
    go_wp2_with fail
    go_loopw [10, 11] (fun out i wr => ∃ (k : Nat) (us : List V3), f ≤ k ∧ k ≤ ps.length ∧ (k ≤ g ∨ k = f) ∧ i = .int .i64 k ∧ OwQ w.heap.size wr out ((ps.take k).drop f) us ∧ Below w.heap.size w wr) (fun _ i _ => ps.length - (intOf i).toNat)
    case atStart => exact ⟨f, [], Nat.le_refl _, hle, .inr rfl, rfl, by rw [List.drop_eq_nil_of_le (by simp; omega)]; exact OwQ.nil _ _, hb1⟩
    case round =>
      obtain ⟨k, us, hfk, hkl, hkg, rfl, ho, hb⟩ := hrel
      have hB := hb.size
      by_cases hlt : k < g
      · obtain ⟨p, hp⟩ : ∃ p, ps[k]? = some p := ⟨_, List.getElem?_eq_getElem (by omega)⟩
        have hm := totP_mem ps p (List.mem_of_getElem? hp)
        obtain ⟨a, u1, u2, rfl, hpa⟩ := h4 k p hp
        have hpr := hpa.below hb (Nat.le_refl _)
        have c0 := hpr.c0
        have c1 := hpr.c1
        have c2 := hpr.c2
        have cb := hcw wr hb
        have hcp := copied_any (p := p) hpr.r1 hpr.r2 (by omega)
        have hul := ho.len
        rw [List.length_drop, List.length_take, Nat.min_eq_left (by omega)] at hul
        have HT : Hid _ := rng_snoc ps f k p hp hfk
        obtain ⟨x1, y1, rfl, _⟩ := hpr.r1
        obtain ⟨x2, y2, rfl, _⟩ := hpr.r2
        obtain ⟨pk, pv, pg⟩ := p
        simp only [] at *
        obtain ⟨xo, yo, hoe, _⟩ := ho.shape
        rw [List.length_drop, List.length_take, Nat.min_eq_left (by omega)] at hoe
        subst hoe
        have hi1 : (k : Int) < (ps.length : Int) := by omega
        have hnl : us.length + [((Value.slice none 0 0, Value.slice none 0 0, pg) : V3)].length ≤ 1099511627776 := by simp; omega
        clear h4 hpa hp hpr
        go_wp2_with fail
        refine hcp.mono ?_
        rintro e w3 ⟨u3, rfl, hE3, hb3⟩
        have hs3 := hb3.size
        obtain ⟨⟨q0, q1, q2, e0⟩, q3, q4, q5, e1⟩ := hE3.sl
        have hrw := ownsRow_belW (ownsRow_belW ho.row hb3 (Nat.le_refl _)) (bel_al w3 (.cells #[u3.1, u3.2.1, .bool u3.2.2] 48)) (Nat.le_refl _)
        have hrv := rdV_one w3 u3 hE3.sl (cs := #[u3.1, u3.2.1, .bool u3.2.2]) rfl 48
        obtain ⟨x0, x1', x2'⟩ := u3
        simp only [] at *
        subst e0
        subst e1
        go_wp2_with (first | (at_builtin; refine wpList_appQ rfl _ _ rfl w.heap.size (.slice xo (k - f) yo) us rfl hrw _ [(.slice q0 q1 q2, .slice q3 q4 q5, x2')] rfl hrv (by simp; omega) hnl ?_; intro v5 w5 ho5 hg5 hv5) | fail)
        refine ⟨⟨k + 1, us ++ [(.slice q0 q1 q2, .slice q3 q4 q5, x2')], by omega, by omega, .inl (by omega), by go_num, ?_, hb.trans (ho.grown (Below.tr hb3 (bel_al w3 _)) hB hg5)⟩, by simp [intOf]; omega⟩
        rw [HT.out]
        exact ho.snocE hb3 (bel_al w3 _) hE3 hB ho5 hg5 hv5
      · have hfin : (ps.take k).drop f = (ps.take g).drop f := by
          rcases hkg with q | q
          · rw [show k = g by omega]
          · rw [List.drop_eq_nil_of_le (by simp; omega), List.drop_eq_nil_of_le (by simp; omega)]
        rw [hfin] at ho
        rw [← HG.out] at ho
        clear h4 hfin
        go_wp2_with fail
        go_ret
        exact ⟨_, us, rfl, ho, hb⟩

set_option maxHeartbeats 2000000 in
theorem get_any {t kv : Value} {ps : List P3} {key : List UInt8} {w : World} (h : Tbl w t ps) (hk : Rd w kv key) (hU : M.ris ps = true) (hl : totP ps ≤ 4194304) :
    Calls Try.prog 23 #[t, kv] w fun e w' => ∃ u : V3, e = .returned (.tuple #[.agg #[u.1, u.2.1, .bool u.2.2], .bool (getK ps key).isSome]) ∧ El3 w.heap.size w' u ((getK ps key).getD noP) ∧ Below w.heap.size w w' := by
  have hpl := totP_len ps
  have p1 := fun W (hW : Below w.heap.size w W) => place_any (h.below hW (Nat.le_refl _)) (hk.below hW (Nat.le_refl _)) hU (by omega)
  obtain ⟨b, sv, rfl, hc, hq⟩ := h
  have hcell : (w.alloc (.cells #[.slice none 0 0, .slice none 0 0, .bool false] 48)).heap[w.heap.size]? = some (.cells #[.slice none 0 0, .slice none 0 0, .bool false] 48 (0, 0)) := heap_alloc_new w _
  have hcw : ∀ W, Below w.heap.size w W → W.cell? ⟨b, 0, none⟩ = some sv := fun W hW => by rw [hW.cell (World.block_lt_of_cell? _ _ hc)]; exact hc
  obtain ⟨ao, c, rfl, h1, h2, h4⟩ := hq
  unfold maxLen at h2
  obtain ⟨ak, ck, rfl, _⟩ := hk
  by_cases hi : M.isK ps key = true
  · obtain ⟨p, hp⟩ : ∃ p, ps[M.plK ps key]? = some p := by
      unfold M.isK at hi
      split at hi
      · rename_i x e; exact ⟨x, e⟩
      · cases hi
    have hg : getK ps key = some p := by unfold getK; rw [if_pos hi, hp]
    rw [hg]
    rw [hi] at p1
    show Calls _ _ _ _ fun e w' => ∃ u : V3, e = .returned (.tuple #[.agg #[u.1, u.2.1, .bool u.2.2], .bool true]) ∧ El3 w.heap.size w' u p ∧ Below w.heap.size w w'
    have hm := totP_mem ps p (List.mem_of_getElem? hp)
    have hkl := (List.getElem?_eq_some_iff.1 hp).1
    generalize M.plK ps key = k at *
    obtain ⟨a, u1, u2, rfl, hpa⟩ := h4 k p hp
    have hpw := fun W (hW : Below w.heap.size w W) => hpa.below hW (Nat.le_refl _)
    obtain ⟨x1, y1, rfl, _⟩ := hpa.r1
    obtain ⟨x2, y2, rfl, _⟩ := hpa.r2
    clear h4 hpa hp hg hi
    have hi1 : (k : Int) < (ps.length : Int) := by omega
    go_enter Try.func23, Try.ntmps23
    go_wp2_with fail
    refine (p1 _ (bel_al w _)).mono ?_
    rintro e w1 ⟨rfl, hb1⟩
    have hR : w1.heap[w.heap.size]? = some (.cells #[.slice none 0 0, .slice none 0 0, .bool false] 48 (0, 0)) := by rw [hb1.block _ (by simp)]; exact hcell
    have hB1 := Below.tr (bel_al w (.cells #[.slice none 0 0, .slice none 0 0, .bool false] 48)) hb1
    have hp1 := hpw w1 hB1
    have c0 := hp1.c0
    have c1 := hp1.c1
    have c2 := hp1.c2
    have cb := hcw w1 hB1
    have hcp := copied_any (p := p) hp1.r1 hp1.r2 (by omega)
    obtain ⟨pk, pv, pg⟩ := p
    simp only [] at *
    have hs1 : w.heap.size < w1.heap.size := (Array.getElem?_eq_some_iff.1 hR).1
    clear hp1 hpw
    go_wp2_with fail
    refine hcp.mono ?_
    rintro e w2 ⟨u2, rfl, hE2, hb2⟩
    have hR2 : w2.heap[w.heap.size]? = some (.cells #[.slice none 0 0, .slice none 0 0, .bool false] 48 (0, 0)) := by rw [hb2.block _ hs1]; exact hR
    obtain ⟨⟨q0, q1, q2, e0⟩, q3, q4, q5, e1⟩ := hE2.sl
    obtain ⟨x0, x1', x2'⟩ := u2
    simp only [] at *
    subst e0
    subst e1
    obtain ⟨r0, r1, r2, rz⟩ := cells3 hR2
    have rz0 := rz 0
    have rz1 := rz 1
    have rz2 := rz 2
    have hch := set3_chg w2 w.heap.size (.slice q0 q1 q2) (.slice q3 q4 q5) (.bool x2')
    have hS := set3_block hR2 (.slice q0 q1 q2) (.slice q3 q4 q5) (.bool x2')
    have hB2 : Below w.heap.size w w2 := hB1.trans (hb2.mono hB1.size)
    have HZ : Hid _ := And.intro (cells3 hS) (And.intro ((hE2.keptC hch (fun b hb q => by have := (hE2.lt hb).1; omega)).mono hB1.size) (hB2.trans (hch.below (fun b q => by omega) hB2.size)))
    clear hch hS hE2 rz hR2 hR hb2 hb1 hcp
    go_wp2_with fail
    obtain ⟨⟨k0, k1, k2, _⟩, hE, hBz⟩ := HZ.out
    generalize (((w2.setCell ⟨w.heap.size, 0, none⟩ (.slice q0 q1 q2)).setCell ⟨w.heap.size, 1, none⟩ (.slice q3 q4 q5)).setCell ⟨w.heap.size, 2, none⟩ (.bool x2')) = wz at *
    refine bodyPost_ret (v := .tuple #[.agg #[.slice q0 q1 q2, .slice q3 q4 q5, .bool x2'], .bool true]) (by simp [results, Try.results23, go_sem, k0, k1, k2]; try rfl) rfl ?_
    exact ⟨(.slice q0 q1 q2, .slice q3 q4 q5, x2'), rfl, hE, hBz⟩
  · have hg : getK ps key = none := by unfold getK; rw [if_neg hi]
    rw [hg]
    rw [show M.isK ps key = false by simpa using hi] at p1
    show Calls _ _ _ _ fun e w' => ∃ u : V3, e = .returned (.tuple #[.agg #[u.1, u.2.1, .bool u.2.2], .bool false]) ∧ El3 w.heap.size w' u noP ∧ Below w.heap.size w w'
    clear h4 hg hi
    go_enter Try.func23, Try.ntmps23
    go_wp2_with fail
    refine (p1 _ (bel_al w _)).mono ?_
    rintro e w2 ⟨rfl, hb1⟩
    have hR2 : w2.heap[w.heap.size]? = some (.cells #[.slice none 0 0, .slice none 0 0, .bool false] 48 (0, 0)) := by rw [hb1.block _ (by simp)]; exact hcell
    have hB2 := Below.tr (bel_al w (.cells #[.slice none 0 0, .slice none 0 0, .bool false] 48)) hb1
    obtain ⟨r0, r1, r2, rz⟩ := cells3 hR2
    have rz0 := rz 0
    have rz1 := rz 1
    have rz2 := rz 2
    have hch := set3_chg w2 w.heap.size (.slice none 0 0) (.slice none 0 0) (.bool false)
    have hS := set3_block hR2 (.slice none 0 0) (.slice none 0 0) (.bool false)
    have HZ : Hid _ := And.intro (cells3 hS) (hB2.trans (hch.below (fun b q => by omega) hB2.size))
    clear hch hS rz hR2 hb1
    go_wp2_with fail
    obtain ⟨⟨k0, k1, k2, _⟩, hBz⟩ := HZ.out
    generalize (((w2.setCell ⟨w.heap.size, 0, none⟩ (.slice none 0 0)).setCell ⟨w.heap.size, 1, none⟩ (.slice none 0 0)).setCell ⟨w.heap.size, 2, none⟩ (.bool false)) = wz at *
    refine bodyPost_ret (v := .tuple #[.agg #[.slice none 0 0, .slice none 0 0, .bool false], .bool false]) (by simp [results, Try.results23, go_sem, k0, k1, k2]; try rfl) rfl ?_
    exact ⟨(.slice none 0 0, .slice none 0 0, false), rfl, ⟨Ow.nil _ _, Ow.nil _ _, rfl⟩, hBz⟩
end Go.Proofs.Ytdfhhliapcdebaa
