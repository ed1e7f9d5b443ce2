/- What pairRow answers of a pair. -/
import Derived.Test.YtdaedglfefkeoaaG3
import Derived.Test.YtdaedglfefkeoaaG2
import Derived.Deep.RegionHeld3
import Derived.Deep.RegionLaw
namespace Go.Proofs.Ytdaedglfefkeoaa
open Go.RowKit
set_option linter.unusedVariables false
set_option maxRecDepth 100000

/-- Three texts in a new block. -/
theorem rds_three (w : World) (H : Nat) (hH : w.heap.size = H) {x y z : Value} {k l m : List UInt8} (t : TypeId) (h1 : Rd w x k) (h2 : Rd w y l) (h3 : Rd w z m) : Rds (w.alloc (.cells #[x, y, z] t)) (.slice (some ⟨H, 0, none⟩) 3 3) [k, l, m] := by
  subst hH
  have hb := bel_al w (.cells #[x, y, z] t)
  refine ⟨some ⟨w.heap.size, 0, none⟩, 3, rfl, by simp, by simp [maxLen], fun i hi => ?_⟩
  have hc : ∀ j u, #[x, y, z][j]? = some u → (w.alloc (.cells #[x, y, z] t)).cell? ((⟨w.heap.size, 0, none⟩ : Addr).add j) = some u := fun j u e => by
    rw [Addr.add_lit, Nat.zero_add, World.cell?_alloc_at _ _ _ _ rfl]; exact e
  match i, hi with
  | 0, _ => exact ⟨_, x, rfl, hc 0 x rfl, h1.below hb (Nat.le_refl _)⟩
  | 1, _ => exact ⟨_, y, rfl, hc 1 y rfl, h2.below hb (Nat.le_refl _)⟩
  | 2, _ => exact ⟨_, z, rfl, hc 2 z rfl, h3.below hb (Nat.le_refl _)⟩

theorem rd_oneH (w : World) (H : Nat) (hH : w.heap.size = H) (z : Int) (b : UInt8) (hz : z = (b.toNat : Int)) (t : TypeId) : Rd (w.alloc (.cells #[.int .u8 z] t)) (.slice (some ⟨H, 0, none⟩) 1 1) [b] := by
  subst hH; exact rd_one w z b hz t
theorem prow_len (p : P3) : (M.prow p).length ≤ p.1.length + p.2.1.length + 60 := by
  have h0 := vi_len (0 + 1 + 1 + 1)
  have h1 := vi_len p.1.length
  have h2 := vi_len p.2.1.length
  have h3 := vi_len (0 + 1)
  simp only [M.prow, M.row, M.rowB, List.length_append, List.length_cons, List.length_nil]
  have e : ([if p.2.2 then (1 : UInt8) else 0]).length = 1 := rfl
  omega

set_option maxHeartbeats 1000000 in
theorem pairrow_any {x y : Value} {p : P3} {w : World} (h1 : Rd w x p.1) (h2 : Rd w y p.2.1) (hl : p.1.length + p.2.1.length ≤ 1099511627000) :
    Calls Try.prog 31 #[.agg #[x, y, .bool p.2.2]] w fun e w' => ∃ v', e = .returned v' ∧ Ow w.heap.size w' v' (M.prow p) ∧ Below w.heap.size w w' := by
  have hlen := prow_len p
  have hrow : ∀ (z : Value) (W : World), Rds W z [p.1, p.2.1, [if p.2.2 then 1 else 0]] → Below w.heap.size w W → Calls Try.prog 33 #[z] W fun e w' => ∃ v', e = .returned v' ∧ Ow w.heap.size w' v' (M.prow p) ∧ Below w.heap.size w w' := fun z W hz hW => by
    refine (row_any hz (by unfold M.prow at hlen; omega) (by simp)).mono ?_
    rintro e w' ⟨v', rfl, ho, hb⟩
    exact ⟨v', rfl, ho.mono hW.size, hW.trans (hb.mono hW.size)⟩
  clear hlen
  obtain ⟨k, v, g⟩ := p
  simp only [] at *
  generalize hR : M.prow (k, v, g) = R at *
  clear hR
  have q1 := h1
  have q2 := h2
  obtain ⟨ax, cx, rfl, _⟩ := h1
  obtain ⟨ay, cy, rfl, _⟩ := h2
  cases g
  all_goals
    go_enter Try.func31, Try.ntmps31
    go_wp2_with fail
    refine (hrow _ _ ?ha ?hb).mono ?_
    case ha => exact rds_three _ _ (by simp) _ ((q1.alloc _).alloc _) ((q2.alloc _).alloc _) (rd_oneH _ _ (by simp) _ _ rfl _)
    case hb => exact ((bel_al w _).alloc (by simp) _).alloc (by simp; omega) _
    rintro e w' ⟨v', rfl, ho, hb⟩
    go_wp2_with fail
    go_ret
    exact ⟨_, rfl, ho, hb⟩
end Go.Proofs.Ytdaedglfefkeoaa

/- What Build answers of any pairs. -/
namespace Go.Proofs.Ytdaedglfefkeoaa
open Go.RowKit
set_option linter.unusedVariables false
set_option maxRecDepth 100000

theorem rows_tot (ps : List P3) : (M.rowB (ps.map M.prow)).length ≤ 30 * totP ps := by
  induction ps with
  | nil => simp [M.rowB]
  | cons p r ih =>
    have h1 := prow_len p
    have h2 := vi_len (M.prow p).length
    simp only [List.map_cons, M.rowB, List.length_append, totP]
    omega
theorem row_tot (ps : List P3) : (M.row (ps.map M.prow)).length ≤ 30 * totP ps + 10 := by
  have h1 := rows_tot ps
  have h2 := vi_len (ps.map M.prow).length
  simp only [M.row, List.length_append]
  omega

theorem Try.infoL : (Try.prog.info? 25).map (fun i => (i.zero, i.size, i.bytes)) = some (some (.slice none 0 0), 1, 24) := by kernel_rfl
theorem lists_made {w : World} {B g n : Nat} (h : w.ownsRow B 25 1 (.slice (some ⟨g, 0, none⟩) n n) n (madeCells (Value.slice none 0 0).cells (n * 1)).toList) : w.ownsRow B 25 1 (.slice (some ⟨g, 0, none⟩) n n) n (List.replicate n (.slice none 0 0)) := by
  have e : (madeCells (Value.slice none 0 0).cells (n * 1)).toList = List.replicate n (Value.slice none 0 0) := by
    rw [show (Value.slice none 0 0).cells = #[Value.slice none 0 0] from rfl, toList_madeCells_one]
    simp
  rw [← e]; exact h
theorem row_put {w : World} {B : Nat} {e : TypeId} {size n g : Nat} {v : Value} {xs : List Value} (h : w.ownsRow B e size v n xs) (hv : v.ownBlock = some g) (j : Nat) (u : Value) : (w.setCell ⟨g, j, none⟩ u).ownsRow B e size v n (xs.set j u) := by
  refine ⟨by rw [List.length_set]; exact h.1, ?_⟩
  rcases h.2 with ⟨q, q0⟩ | ⟨g', cap, cur, q, hB, hg, q1, q2, q3, q4⟩
  · rw [q] at hv; cases hv
  · rw [q] at hv
    obtain rfl : g' = g := Option.some.inj hv
    refine .inr ⟨g', cap, cur.setIfInBounds j u, q, hB, by rw [heap_setCell_same _ _ j _ _ _ hg], q1, q2, by rw [Array.size_setIfInBounds]; exact q3, ?_⟩
    rw [← q4]
    simp [List.take_set]
theorem row_froz {w : World} {B : Nat} {e : TypeId} {size n c k g : Nat} {xs : List Value} (h : w.ownsRow B e size (.slice (some ⟨g, 0, none⟩) n c) k xs) (j : Nat) : w.frozen? ⟨g, j, none⟩ = false := by
  rcases h.2 with ⟨q, q0⟩ | ⟨g', cap, cur, q, hB, hg, _⟩
  · cases q
  · simp only [Value.slice.injEq, Option.some.injEq, Addr.mk.injEq, and_true] at q
    rw [q.1]; exact frozen_of_row _ _ _ _ _ hg

/-- The array of fields while it is filled: the first k are told. -/
structure Fil (B g : Nat) (ls : List (List UInt8)) (k : Nat) (us : List Value) (w : World) : Prop where
  row : w.ownsRow B 25 1 (.slice (some ⟨g, 0, none⟩) ls.length ls.length) ls.length us
  el : ∀ i u l, i < k → us[i]? = some u → ls[i]? = some l → Rd w u l ∧ ∀ b, u.ownBlock = some b → b ≠ g

theorem Fil.below {B g : Nat} {ls : List (List UInt8)} {k : Nat} {us : List Value} {w w' : World} (h : Fil B g ls k us w) (hb : Below w.heap.size w w') : Fil B g ls k us w' :=
  ⟨ownsRow_belW h.row hb (Nat.le_refl _), fun i u l hi e1 e2 => ⟨(h.el i u l hi e1 e2).1.below hb (Nat.le_refl _), (h.el i u l hi e1 e2).2⟩⟩
theorem Fil.put {B g : Nat} {ls : List (List UInt8)} {k : Nat} {us : List Value} {w : World} (h : Fil B g ls k us w) {u : Value} {l : List UInt8} (hl : ls[k]? = some l) (hu : Rd w u l) (hg : ∀ b, u.ownBlock = some b → b ≠ g) : Fil B g ls (k + 1) (us.set k u) (w.setCell ⟨g, k, none⟩ u) := by
  have hch : Chg (fun b => b = g) w (w.setCell ⟨g, k, none⟩ u) := (Chg.refl _ w).put g k u rfl
  have hul : us.length = ls.length := by have := h.row.1; simpa using this
  refine ⟨row_put h.row rfl k u, fun i x m hi e1 e2 => ?_⟩
  by_cases hik : i = k
  · subst hik
    have hlt : i < us.length := by have := (List.getElem?_eq_some_iff.1 hl).1; omega
    rw [List.getElem?_set_self hlt] at e1
    obtain rfl := Option.some.inj e1
    rw [hl] at e2
    obtain rfl := Option.some.inj e2
    exact ⟨hu.keptC hch (fun b e q => hg b e q), hg⟩
  · rw [List.getElem?_set_ne (by omega)] at e1
    have := h.el i x m (by omega) e1 e2
    exact ⟨this.1.keptC hch (fun b e q => this.2 b e q), this.2⟩
theorem Fil.rds {B g : Nat} {ls : List (List UInt8)} {us : List Value} {w : World} (h : Fil B g ls ls.length us w) : Rds w (.slice (some ⟨g, 0, none⟩) ls.length ls.length) ls := by
  have hul : us.length = ls.length := by have := h.row.1; simpa using this
  obtain ⟨a, c, e, h1, h2, _, h4⟩ := row_reads h.row
  simp only [Value.slice.injEq, true_and] at e
  obtain ⟨rfl, rfl⟩ := e
  refine ⟨_, _, rfl, Nat.le_refl _, h2, fun i hi => ?_⟩
  have hu : us[i]? = some (us[i]'(by omega)) := by simp [show i < us.length by omega]
  obtain ⟨g', eg, hc⟩ := h4 i _ hu
  simp only [Option.some.injEq, Addr.mk.injEq, and_true] at eg
  subst eg
  exact ⟨_, us[i]'(by omega), rfl, by rw [Addr.add_lit, Nat.zero_add]; exact hc, (h.el i _ _ hi hu (by simp [hi])).1⟩

set_option maxHeartbeats 2000000 in
theorem build_any {v : Value} {ps : List P3} {w : World} (hr : RdQ w v ps) (hl : totP ps ≤ 4194304) :
    Calls Try.prog 11 #[v] w fun e w' => ∃ v', e = .returned (.tuple #[v', .int .i64 (M.bld ps).2]) ∧ Ow w.heap.size w' v' (M.bld ps).1 ∧ Below w.heap.size w w' := by
  have hpl := totP_len ps
  have hrt := row_tot ps
  have hris := rising_any hr
  obtain ⟨ao, c, rfl, h1, h2, h4⟩ := hr
  unfold maxLen at h2
  by_cases hri : M.ris ps = true
  · have e : M.bld ps = (M.tab ps, 0) := by unfold M.bld; rw [if_pos hri]
    rw [e]
    rw [hri] at hris
    clear e
    unfold M.tab
    obtain ⟨i, hi, hz0, hz1, hz2⟩ := info_parts Try.infoL
    have hml : (ps.map M.prow).length = ps.length := by simp
    go_enter Try.func11, Try.ntmps11
    go_wp2_with fail
    refine hris.mono ?_
    rintro e w0 ⟨rfl, n0, rfl⟩
    go_wp2_with (first | (at_make; refine wpList_make_full _ rfl _ _ 64 rfl w.heap.size 25 i _ 1 Try.underlying64 hi hz0 hz1 _ _ _ _ ps.length rfl rfl rfl rfl (by rw [hz2]; omega) (by unfold maxLen; omega) (Nat.le_refl _) ?_; intro w1 hown hgr) | fail)
    have hb1 : Below w.heap.size w w1 := ((Below.dN w n0).grown hgr (Nat.le_refl _) (fun k e => by cases e))
    have hf1 : Fil w.heap.size w.heap.size (ps.map M.prow) 0 (List.replicate ps.length (.slice none 0 0)) w1 := ⟨by rw [hml]; exact lists_made hown, fun i u l h => by omega⟩
    clear hown hgr
    go_loopw [5, 6, 15] (fun _ _ i wr => ∃ (k : Nat) (us : List Value), k ≤ ps.length ∧ i = .int .i64 k ∧ Fil w.heap.size w.heap.size (ps.map M.prow) k us wr ∧ Below w.heap.size w wr ∧ w.heap.size < wr.heap.size) (fun _ _ i _ => ps.length - (intOf i).toNat)
    case atStart => exact ⟨0, _, Nat.zero_le _, rfl, hf1, hb1, by
      have := hf1.row
      obtain ⟨g, hg⟩ : ∃ g, g = w.heap.size := ⟨_, rfl⟩
      exact (World.ownsRow.lt this _ rfl).2⟩
    case round =>
      obtain ⟨k, us, hk, rfl, hf, hb, hsz⟩ := hrel
      clear hf1 hb1 hris
      by_cases hlt : k < ps.length
      · obtain ⟨p, hp⟩ : ∃ p, ps[k]? = some p := ⟨_, List.getElem?_eq_getElem hlt⟩
        have hm := totP_mem ps p (List.mem_of_getElem? hp)
        obtain ⟨a, u1, u2, rfl, hpa⟩ := h4 k p hp
        have hpr := hpa.below hb (Nat.le_refl _)
        have c0 := hpr.c0
        have c1 := hpr.c1
        have c2 := hpr.c2
        have r1 := hpr.r1
        have r2 := hpr.r2
        have hq : (ps.map M.prow)[k]? = some (M.prow p) := by rw [List.getElem?_map, hp]; rfl
        clear hpa hpr h4
        obtain ⟨pk, pv, pg⟩ := p
        simp only [] at *
        have q1 := r1
        have q2 := r2
        obtain ⟨x1, y1, rfl, _⟩ := r1
        obtain ⟨x2, y2, rfl, _⟩ := r2
        have hul : us.length = ps.length := by have := hf.row.1; simpa using this
        have hki : (k : Int) < (ps.length : Int) := by omega
        go_wp2_with fail
        refine (pairrow_any (p := (pk, pv, pg)) (q1.alloc _) (q2.alloc _) (by simp only []; omega)).mono ?_
        rintro e w2 ⟨v2, rfl, ho2, hb2⟩
        have hf2 := (hf.below (bel_al wr _)).below hb2
        have hB2 : Below wr.heap.size wr w2 := Below.tr (bel_al wr _) hb2
        have hfz := row_froz hf2.row k
        have hcell : w2.cell? ⟨w.heap.size, k, none⟩ = some (us[k]'(by omega)) := by
          obtain ⟨_, _, er, _, _, _, r4⟩ := row_reads hf2.row
          simp only [Value.slice.injEq, true_and] at er
          obtain ⟨rfl, rfl⟩ := er
          obtain ⟨g', eg, hc⟩ := r4 k (us[k]'(by omega)) (by simp [show k < us.length by omega])
          simp only [Option.some.injEq, Addr.mk.injEq, and_true] at eg
          rw [eg]; exact hc
        have hs2 := hB2.size
        have hlt2 : ∀ b, v2.ownBlock = some b → b ≠ w.heap.size := fun b e q => by
          have := (World.ownsRow.lt ho2 b e).1
          simp at this
          omega
        have hf3 := hf2.put hq ho2.rd hlt2
        obtain ⟨a2, d2, rfl⟩ := ho2.shape
        have HF : Hid _ := And.intro hf3 (And.intro (hb.trans (hB2.mono hb.size)) hs2)
        clear hf3 hf2 ho2 hb2 hB2 hf hb c0 c1 c2 q1 q2
        go_wp2_with fail
        refine ⟨⟨k + 1, us.set k _, by omega, by go_num, HF.out.1, ?_, ?_⟩, by simp [intOf]; omega⟩
        · exact HF.out.2.1.trans (((Chg.refl (fun b => b = w.heap.size) w2).put w.heap.size k _ rfl).below (fun b q => by omega) (by have := HF.out.2.2; omega))
        · have := HF.out.2.2; simp; omega
      · obtain rfl : k = ps.length := by omega
        clear h4
        have hrds : Rds wr (.slice (some ⟨w.heap.size, 0, none⟩) ps.length ps.length) (ps.map M.prow) := by
          rw [← hml] at hf ⊢
          exact hf.rds
        go_wp2_with fail
        refine (row_any hrds (by omega) (by omega)).mono ?_
        rintro e w2 ⟨v2, rfl, ho2, hb2⟩
        go_wp2_with fail
        refine (frame_any ho2.rd (by omega)).mono ?_
        rintro e w3 ⟨v3, rfl, ho3, hb3⟩
        go_wp2_with fail
        go_ret2
        have hs := hb.size
        have hs2 := hb2.size
        exact ⟨_, rfl, ho3.mono (by omega), hb.trans ((Below.tr hb2 hb3).mono hs)⟩
  · have e : M.bld ps = ([], 51) := by unfold M.bld; rw [if_neg hri]
    rw [e]
    have hf : M.ris ps = false := by simpa using hri
    rw [hf] at hris
    clear e h4
    go_enter Try.func11, Try.ntmps11
    go_wp2_with fail
    refine hris.mono ?_
    rintro e w0 ⟨rfl, n0, rfl⟩
    go_wp2_with fail
    go_ret2
    exact ⟨_, rfl, Ow.nil _ _, Below.dN _ _⟩
end Go.Proofs.Ytdaedglfefkeoaa

/- What readField and TakeRow answer of any bytes. -/
namespace Go.Proofs.Ytdaedglfefkeoaa
open Go.RowKit
set_option linter.unusedVariables false
set_option maxRecDepth 100000

theorem Try.info25 : (Try.prog.info? 25).map (fun i => (i.zero, i.size, i.bytes)) = some (some (.slice none 0 0), 1, 24) := by kernel_rfl

theorem part_drop (l : List UInt8) (n : Nat) : (M.part l n).2.1.length ≤ l.length := by
  unfold M.part; split <;> simp

theorem rfield_any {v : Value} {l : List UInt8} {w : World} (hr : Rd w v l) :
    Calls Try.prog 58 #[v] w fun e w' => ∃ v1 v2, e = .returned (.tuple #[v1, v2, .int .i64 (M.fd l).2.2]) ∧ (∀ w0, Rd w0 v l → Rd w0 v1 (M.fd l).1 ∧ Rd w0 v2 (M.fd l).2.1) ∧ ∃ k, w' = w.drewN k := by
  have hrv := rvar_any2 hr
  have htl := tv_lt l
  unfold M.fd
  generalize M.tv l = r at *
  obtain ⟨n, rest, er⟩ := r
  simp only [] at *
  by_cases her : er ≠ 0
  · rw [if_pos her]
    have hne : (((er : Nat) : Int) != 0) = true := by simp; omega
    go_enter Try.func58, Try.ntmps58
    go_wp2_with (go_at_call 48; refine hrv.mono ?_; rintro e w1 ⟨v2, rfl, hr2, k1, rfl⟩)
    go_ret3
    exact ⟨_, _, rfl, fun _ _ => ⟨Rd.nil _, Rd.nil _⟩, _, rfl⟩
  · rw [if_neg her]
    obtain rfl : er = 0 := by omega
    generalize hP : M.part rest n = P
    have HP : Hid _ := hP
    clear hP
    go_enter Try.func58, Try.ntmps58
    go_wp2_with fail
    refine hrv.mono ?_
    rintro e w1 ⟨v2, rfl, hr2, k1, rfl⟩
    go_wp2_with fail
    refine (part_any2 ((hr2 _ hr).drewN k1) htl).mono ?_
    rintro e w2 ⟨u1, u2, rfl, hu, k2, rfl⟩
    rw [HP.out] at hu ⊢
    go_wp2_with fail
    go_ret3
    exact ⟨_, _, rfl, fun w0 h0 => hu w0 (hr2 w0 h0), k1 + k2, rfl⟩

set_option maxHeartbeats 2000000 in
theorem takerow_any {v : Value} {l : List UInt8} {w : World} (hr : Rd w v l) (hl : l.length ≤ 1099511627776) :
    Calls Try.prog 37 #[v] w fun e w' => ∃ v' us, e = .returned (.tuple #[v', .int .i64 (M.tr l).2]) ∧ Ows w.heap.size w' v' (M.tr l).1 us ∧ Below w.heap.size w w' := by
  have hrv := rvar_any hr
  have htl := tv_lt l
  have hll := tv_len l
  by_cases her : (M.tv l).2.2 ≠ 0
  · have e : M.tr l = ([], (M.tv l).2.2) := by unfold M.tr; rw [if_pos her]
    rw [e]
    generalize M.tv l = r at *
    obtain ⟨n, rest, er⟩ := r
    simp only [] at *
    have hne : (((er : Nat) : Int) != 0) = true := by simp; omega
    clear e
    go_enter Try.func37, Try.ntmps37
    go_wp2_with (go_at_call 48; refine hrv.mono ?_; rintro e w1 ⟨v2, rfl, hr2, k1, rfl⟩)
    go_ret2
    exact ⟨_, _, rfl, Ows.nil _ _, Below.dN _ _⟩
  · have her' : (M.tv l).2.2 = 0 := by simpa using her
    by_cases hsh : (M.tv l).2.1.length < (M.tv l).1
    · have e : M.tr l = ([], 12) := by unfold M.tr; rw [if_neg her, if_pos hsh]
      rw [e]
      clear e her
      generalize M.tv l = r at *
      obtain ⟨n, rest, er⟩ := r
      simp only [] at *
      subst her'
      go_enter Try.func37, Try.ntmps37
      go_wp2_with fail
      refine hrv.mono ?_
      rintro e w1 ⟨v2, rfl, hr2, k1, rfl⟩
      obtain ⟨ao, c, rfl, g1, g2, g3, g4⟩ := hr2
      clear g3 g4
      unfold maxLen at g2
      go_wp2_with fail
      go_ret2
      exact ⟨_, _, rfl, Ows.nil _ _, Below.dN _ _⟩
    · have e := M.tr_rfA l her' (by omega)
      generalize M.tr l = T at *
      have HT : Hid _ := e
      clear e her
      generalize M.tv l = r at *
      obtain ⟨n, rest, er⟩ := r
      simp only [] at *
      subst her'
      go_enter Try.func37, Try.ntmps37
      go_wp2_with fail
      refine hrv.mono ?_
      rintro e w1 ⟨v2, rfl, hr2, k1, rfl⟩
      have hr2' := hr2
      obtain ⟨ao, c, rfl, g1, g2, g3, g4⟩ := hr2
      clear g3 g4
      unfold maxLen at g2
      go_wp2_with fail
      go_loopw [0, 6, 7, 8, 9, 25] (fun b fields _ _ _ i wr => ∃ (k : Nat) (fs : List (List UInt8)) (l2 : List UInt8) (us : List Value), k ≤ n ∧ i = .int .u64 k ∧ fs.length = k ∧ Rd w b l2 ∧ l2.length ≤ rest.length ∧ Hid (M.rfA (n - k) fs l2 = M.rfA n [] rest) ∧ Ows w.heap.size wr fields fs us ∧ Below w.heap.size w wr) (fun _ _ _ _ _ i _ => n - (intOf i).toNat)
      case atStart => exact ⟨0, [], rest, [], Nat.zero_le _, rfl, rfl, hr2', Nat.le_refl _, rfl, Ows.nil _ _, Below.dN _ _⟩
      case round =>
        obtain ⟨k, fs, l2, us, hk, rfl, hfl, hrb, hl2, HE, hos, hb⟩ := hrel
        clear hr2'
        have hB := hb.size
        by_cases hlt : k < n
        · have hfd := M.fd_len l2 (tv_len l2)
          have HF : Hid (if (M.fd l2).2.2 ≠ 0 then T = ([], (M.fd l2).2.2) else M.rfA (n - (k + 1)) (fs ++ [(M.fd l2).1]) (M.fd l2).2.1 = M.rfA n [] rest) := by
            have h1 := HE.out
            obtain ⟨q, hq⟩ : ∃ q, n - k = q + 1 := ⟨n - k - 1, by omega⟩
            rw [hq, M.rfA] at h1
            by_cases h2 : (M.fd l2).2.2 ≠ 0
            · rw [if_pos h2] at h1
              have h3 := HT.out
              rw [← h1] at h3
              show ite _ _ _
              rw [if_pos h2, h3, if_pos h2]
            · rw [if_neg h2] at h1
              show ite _ _ _
              rw [if_neg h2, show n - (k + 1) = q by omega]
              exact h1
          have hrb' := hrb.below hb (Nat.le_refl _)
          have hfield := rfield_any hrb'
          have hlf : fs.length ≤ 1099511627776 := by omega
          have hrb2 := hrb
          obtain ⟨ab, cb, rfl, b1, b2, _, _⟩ := hrb
          unfold maxLen at b2
          generalize M.fd l2 = F at *
          obtain ⟨f1, f2, fe⟩ := F
          simp only [] at *
          clear HE
          by_cases hfe : fe ≠ 0
          · have hT : T = ([], fe) := by
              have := HF.out; rw [if_pos hfe] at this; exact this
            subst hT
            have hne : (((fe : Nat) : Int) != 0) = true := by simp; omega
            clear HF HT
            go_wp2_with fail
            refine hfield.mono ?_
            rintro e w2 ⟨u1, u2, rfl, hu, k2, rfl⟩
            go_wp2_with fail
            go_ret2
            exact ⟨_, rfl, ⟨_, Ows.nil _ _⟩, hb.trans ((Below.dN wr k2).mono hB)⟩
          · obtain rfl : fe = 0 := by omega
            have HG : Hid (M.rfA (n - (k + 1)) (fs ++ [f1]) f2 = M.rfA n [] rest) := by
              have := HF.out; rw [if_neg hfe] at this; exact this
            clear HF hfe
            go_wp2_with fail
            refine hfield.mono ?_
            rintro e w2 ⟨u1, u2, rfl, hu, k2, rfl⟩
            have hos2 := hos.below (Below.dN wr k2) (Nat.le_refl _)
            have hu1 := (hu _ hrb').1
            have hu2 := (hu _ hrb2).2
            clear hu
            go_wp2_with fail
            refine (clone_any (hu1.drewN k2) (by omega)).mono ?_
            rintro e w3 ⟨u3, rfl, ho3, hb3⟩
            have hos3 := hos2.below hb3 (Nat.le_refl _)
            have hB3 : w.heap.size ≤ w3.heap.size := Nat.le_trans hB hb3.size
            have hul := hos.len
            have h24 := Try.info25
            obtain ⟨a3, c3, e3⟩ := ho3.shape
            subst e3
            go_wp2_with (first | (at_builtin; (refine wpList_app1 rfl _ _ 64 rfl w.heap.size 25 (.slice none 0 0) 24 Try.underlying64 h24 rfl _ us.length us rfl (World.ownsRow.alloc hos3.row _) _ _ _ rfl (cell_new1 _ _ _) rfl ?hmx ?hmy ?hmz ?_; rotate_right; intro v4 w4 ho4 hg4 hw4)) | fail)
            case hmx => unfold maxLen; omega
            case hmy => omega
            case hmz => rw [World.size_alloc]; omega
            have hos4 : Ows w.heap.size w4 v4 (fs ++ [f1]) (us ++ [.slice a3 f1.length c3]) := hos2.snoc hb3 (Nat.le_refl _) ho3 hB ho4 hg4 hw4
            have hb4 : Below w.heap.size w w4 := ((hb.trans ((Below.dN wr k2).mono hB)).trans (hb3.mono hB)).trans (((Below.refl w.heap.size w3).alloc hB3 _).trans ((Below.refl w.heap.size _).grown hg4 (by rw [World.size_alloc]; omega) (fun k hk => (World.ownsRow.lt hos3.row k hk).1)))
            refine ⟨⟨k + 1, fs ++ [f1], f2, us ++ [.slice a3 f1.length c3], by omega, by go_num, by simp [hfl], ?_, by omega, HG, hos4, hb4⟩, by simp [intOf]; omega⟩
            exact hu2
        · obtain rfl : k = n := by omega
          have hT : T = if l2.length ≠ 0 then ([], 12) else (fs, 0) := by
            have h1 := HT.out
            rw [← HE.out, Nat.sub_self] at h1
            simpa [M.rfA] using h1
          clear HT HE
          obtain ⟨ab, cb, rfl, b1, b2, _, _⟩ := hrb
          unfold maxLen at b2
          by_cases h0 : l2.length ≠ 0
          · rw [if_pos h0] at hT
            subst hT
            go_wp2_with fail
            go_ret2
            exact ⟨_, rfl, ⟨_, Ows.nil _ _⟩, hb⟩
          · rw [if_neg h0] at hT
            subst hT
            go_wp2_with fail
            go_ret2
            exact ⟨_, rfl, ⟨_, hos⟩, hb⟩
end Go.Proofs.Ytdaedglfefkeoaa

/- What SamePairs answers of two lists of pairs: whether they are the same. -/
namespace Go.Proofs.Ytdaedglfefkeoaa
open Go.RowKit
set_option linter.unusedVariables false
set_option maxRecDepth 100000

theorem samep_q {va vb : Value} {l : List UInt8} {w : World} (ha : Rd w va l) (hb : Rd w vb l) (m q : Nat) : Calls Try.prog 13 #[va, vb] (w.drewN (m + q)) fun e w' => e = .returned (.bool true) ∧ ∃ n, w' = w.drewN (m + n) := by
  refine (same_any (ha.drewN (m + q)) (hb.drewN (m + q))).mono ?_
  rintro _ w' ⟨rfl, n, rfl⟩
  exact ⟨by rw [decide_eq_true rfl], q + n, by rw [World.drewN_drewN, Nat.add_assoc]⟩

theorem samep_two {a1 b1 a2 b2 : Value} {l1 l2 : List UInt8} {w : World} (h1 : Rd w a1 l1) (k1 : Rd w b1 l1) (h2 : Rd w a2 l2) (k2 : Rd w b2 l2) (m : Nat) : ∀ (x y : Value) (q : Nat), (x = a1 ∧ y = b1) ∨ (x = a2 ∧ y = b2) → Calls Try.prog 13 #[x, y] (w.drewN (m + q)) fun e w' => e = .returned (.bool true) ∧ ∃ n, w' = w.drewN (m + n) := by
  rintro x y q (⟨rfl, rfl⟩ | ⟨rfl, rfl⟩)
  · exact samep_q h1 k1 m q
  · exact samep_q h2 k2 m q

set_option maxHeartbeats 1000000 in
theorem samep_any {va vb : Value} {ps : List P3} {w : World} (ha : RdQ w va ps) (hb : RdQ w vb ps) :
    Calls Try.prog 15 #[va, vb] w fun e w' => e = .returned (.bool true) ∧ ∃ n, w' = w.drewN n := by
  obtain ⟨aa, ca, rfl, a1, a2, a4⟩ := ha
  obtain ⟨ab, cb, rfl, b1, b2, b4⟩ := hb
  unfold maxLen at a2 b2
  go_enter Try.func15, Try.ntmps15
  go_wp2_with fail
  go_loopw [5] (fun i wr => ∃ k : Nat, k ≤ ps.length ∧ i = .int .i64 k ∧ ∃ m, wr = w.drewN m) (fun i _ => ps.length - (intOf i).toNat)
  case atStart => exact ⟨0, Nat.zero_le _, rfl, 0, rfl⟩
  case round =>
    obtain ⟨k, hk, rfl, m, rfl⟩ := hrel
    by_cases hlt : k < ps.length
    · obtain ⟨p, hp⟩ : ∃ p, ps[k]? = some p := ⟨_, List.getElem?_eq_getElem hlt⟩
      obtain ⟨a, u1, u2, rfl, hpa⟩ := a4 k p hp
      obtain ⟨b, v1, v2, rfl, hpb⟩ := b4 k p hp
      clear a4 b4 hp
      obtain ⟨kx, vx, gx⟩ := p
      have c0 := hpa.c0
      have c1 := hpa.c1
      have c2 := hpa.c2
      have d0 := hpb.c0
      have d1 := hpb.c1
      have d2 := hpb.c2
      have r1 := hpa.r1
      have r2 := hpa.r2
      have s1 := hpb.r1
      have s2 := hpb.r2
      simp only [] at c0 c1 c2 d0 d1 d2 r1 r2 s1 s2
      have hk2 : (k : Int) < (ps.length : Int) := by omega
      obtain ⟨_, _, rfl, _⟩ := hpa.r1
      obtain ⟨_, _, rfl, _⟩ := hpa.r2
      obtain ⟨_, _, rfl, _⟩ := hpb.r1
      obtain ⟨_, _, rfl, _⟩ := hpb.r2
      simp only [] at c0 c1 c2 d0 d1 d2 r1 r2 s1 s2
      clear hpa hpb
      have hs := samep_two r1 s1 r2 s2 m
      clear r1 r2 s1 s2
      go_wp2_with fail
      go_quiet (first | (go_at_call 13; refine hs _ _ _ ?_; first | exact .inl ⟨rfl, rfl⟩ | exact .inr ⟨rfl, rfl⟩) | fail)
      go_wp2_with fail
      exact ⟨⟨k + 1, by omega, by go_num, m + nq, by simp [World.drewN]⟩, by simp [intOf]; omega⟩
    · obtain rfl : k = ps.length := by omega
      clear a4 b4
      go_wp2_with fail
      go_ret
      exact ⟨rfl, _, rfl⟩
end Go.Proofs.Ytdaedglfefkeoaa

/- What takePair answers of any bytes. -/
namespace Go.Proofs.Ytdaedglfefkeoaa
open Go.RowKit
set_option linter.unusedVariables false
set_option maxRecDepth 100000

theorem set3_block {w : World} {g : Nat} {u0 u1 u2 : Value} {t : TypeId} (h : w.heap[g]? = some (.cells #[u0, u1, u2] t (0, 0))) (v0 v1 v2 : Value) : (((w.setCell ⟨g, 0, none⟩ v0).setCell ⟨g, 1, none⟩ v1).setCell ⟨g, 2, none⟩ v2).heap[g]? = some (.cells #[v0, v1, v2] t (0, 0)) := by
  have h0 := heap_setCell_same w g 0 _ _ v0 h
  have h1 := heap_setCell_same _ g 1 _ _ v1 h0
  have h2 := heap_setCell_same _ g 2 _ _ v2 h1
  rw [h2]
  rfl
theorem set3_chg (w : World) (g : Nat) (v0 v1 v2 : Value) : Chg (fun b => b = g) w (((w.setCell ⟨g, 0, none⟩ v0).setCell ⟨g, 1, none⟩ v1).setCell ⟨g, 2, none⟩ v2) :=
  (((Chg.refl (fun b => b = g) w).put g 0 v0 rfl).put g 1 v1 rfl).put g 2 v2 rfl
theorem cells3 {w : World} {g : Nat} {u0 u1 u2 : Value} {t : TypeId} (h : w.heap[g]? = some (.cells #[u0, u1, u2] t (0, 0))) : w.cell? ⟨g, 0, none⟩ = some u0 ∧ w.cell? ⟨g, 1, none⟩ = some u1 ∧ w.cell? ⟨g, 2, none⟩ = some u2 ∧ ∀ i, w.frozen? ⟨g, i, none⟩ = false :=
  ⟨by rw [cell_of_row _ _ _ _ _ _ h]; rfl, by rw [cell_of_row _ _ _ _ _ _ h]; rfl, by rw [cell_of_row _ _ _ _ _ _ h]; rfl, fun i => frozen_of_row _ _ _ _ _ h⟩

theorem Ows.three {B : Nat} {w : World} {v : Value} {k l m : List UInt8} {us : List Value} (h : Ows B w v [k, l, m] us) : ∃ g c x y z, v = .slice (some ⟨g, 0, none⟩) 3 c ∧ 3 ≤ c ∧ w.cell? ⟨g, 0, none⟩ = some x ∧ w.cell? ⟨g, 1, none⟩ = some y ∧ w.cell? ⟨g, 2, none⟩ = some z ∧ Ow B w x k ∧ Ow B w y l ∧ Ow B w z m ∧ B ≤ g := by
  have hl : us.length = 3 := h.len
  match us, hl with
  | [x, y, z], _ =>
    obtain ⟨a, c, e, h1, h2, h3, h4⟩ := row_reads h.row
    obtain ⟨g, rfl, g0⟩ := h4 0 x rfl
    obtain ⟨g', eg, g1⟩ := h4 1 y rfl
    obtain ⟨g'', eg', g2⟩ := h4 2 z rfl
    simp only [Option.some.injEq, Addr.mk.injEq, and_true] at eg eg'
    subst eg; subst eg'
    refine ⟨g, c, x, y, z, e, h1, g0, g1, g2, h.el 0 _ _ rfl rfl, h.el 1 _ _ rfl rfl, h.el 2 _ _ rfl rfl, ?_⟩
    have := (World.ownsRow.lt h.row g (by rw [e]; rfl)).1
    exact this

theorem tp_cases (l : List UInt8) : (M.tp l = none ∧ ((M.tr l).2 ≠ 0 ∨ (M.tr l).2 = 0 ∧ (M.tr l).1.length ≠ 3 ∨ (M.tr l).2 = 0 ∧ ∃ k x m, (M.tr l).1 = [k, x, m] ∧ (m.length ≠ 1 ∨ ∃ b, m = [b] ∧ b ≠ 0 ∧ b ≠ 1))) ∨ ∃ k x g, M.tp l = some (k, x, g) ∧ (M.tr l).2 = 0 ∧ (M.tr l).1 = [k, x, [if g then 1 else 0]] := by
  by_cases h0 : (M.tr l).2 = 0
  · cases hd : M.tp l with
    | some p =>
      have h1 : M.dec (M.tr l).1 = some p := by unfold M.tp at hd; rw [if_pos h0] at hd; exact hd
      exact .inr ⟨p.1, p.2.1, p.2.2, rfl, h0, M.dec_form h1⟩
    | none =>
      refine .inl ⟨rfl, .inr ?_⟩
      have h1 : M.dec (M.tr l).1 = none := by unfold M.tp at hd; rw [if_pos h0] at hd; exact hd
      by_cases h3 : (M.tr l).1.length = 3
      · refine .inr ⟨h0, ?_⟩
        match hfs : (M.tr l).1, h3 with
        | [k, x, m], _ =>
          refine ⟨k, x, m, rfl, ?_⟩
          rw [hfs] at h1
          by_cases hm : m.length = 1
          · match m, hm with
            | [b], _ =>
              refine .inr ⟨b, rfl, ?_⟩
              simp only [M.dec] at h1
              constructor
              · rintro rfl; simp at h1
              · rintro rfl; simp at h1
          · exact .inl hm
      · exact .inl ⟨h0, h3⟩
  · refine .inl ⟨?_, .inl h0⟩
    unfold M.tp; rw [if_neg h0]

/-- What a field that is no pair is read as. -/
def noP : P3 := ([], [], false)

set_option maxHeartbeats 2000000 in
theorem takepair_any {v : Value} {l : List UInt8} {w : World} (hr : Rd w v l) (hl : l.length ≤ 1099511627776) :
    Calls Try.prog 38 #[v] w fun e w' => ∃ u : V3, e = .returned (.tuple #[.agg #[u.1, u.2.1, .bool u.2.2], .bool (M.tp l).isSome]) ∧ El3 w.heap.size w' u ((M.tp l).getD noP) ∧ Below w.heap.size w w' := by
  have hall : ∀ W, Below w.heap.size w W → Calls Try.prog 37 #[v] W fun e w' => ∃ v' us, e = .returned (.tuple #[v', .int .i64 (M.tr l).2]) ∧ Ows W.heap.size w' v' (M.tr l).1 us ∧ Below W.heap.size W w' := fun W hW => takerow_any (hr.below hW (Nat.le_refl _)) hl
  have hcell : (w.alloc (.cells #[.slice none 0 0, .slice none 0 0, .bool false] 48)).heap[w.heap.size]? = some (.cells #[.slice none 0 0, .slice none 0 0, .bool false] 48 (0, 0)) := heap_alloc_new w _
  have fin0 : ∀ w2, w2.heap[w.heap.size]? = some (.cells #[.slice none 0 0, .slice none 0 0, .bool false] 48 (0, 0)) → El3 w.heap.size w2 (.slice none 0 0, .slice none 0 0, false) noP := fun w2 _ => ⟨Ow.nil _ _, Ow.nil _ _, rfl⟩
  have htp := tp_cases l
  have hv := hr
  obtain ⟨av, cv, rfl, _⟩ := hr
  rcases htp with ⟨e, hcs⟩ | ⟨k, x, g, e, h0, hfs⟩
  · rw [e]
    clear e hv hl
    show Calls _ _ _ _ fun e w' => ∃ u : V3, e = .returned (.tuple #[.agg #[u.1, u.2.1, .bool u.2.2], .bool false]) ∧ El3 w.heap.size w' u noP ∧ Below w.heap.size w w'
    have back : ∀ w2 : World, w2.heap[w.heap.size]? = some (.cells #[.slice none 0 0, .slice none 0 0, .bool false] 48 (0, 0)) → Below w.heap.size w w2 → ∃ wz, (((w2.setCell ⟨w.heap.size, 0, none⟩ (.slice none 0 0)).setCell ⟨w.heap.size, 1, none⟩ (.slice none 0 0)).setCell ⟨w.heap.size, 2, none⟩ (.bool false)) = wz ∧ (wz.cell? ⟨w.heap.size, 0, none⟩ = some (.slice none 0 0) ∧ wz.cell? ⟨w.heap.size, 1, none⟩ = some (.slice none 0 0) ∧ wz.cell? ⟨w.heap.size, 2, none⟩ = some (.bool false) ∧ ∀ i, wz.frozen? ⟨w.heap.size, i, none⟩ = false) ∧ Below w.heap.size w wz := fun w2 h hb => by
      refine ⟨_, rfl, cells3 (set3_block h _ _ _), hb.trans ((set3_chg w2 w.heap.size _ _ _).below (fun b q => by omega) hb.size)⟩
    generalize M.tr l = R at *
    obtain ⟨fs, er⟩ := R
    simp only [] at *
    go_enter Try.func38, Try.ntmps38
    go_wp2_with fail
    refine (hall _ (bel_al w _)).mono ?_
    rintro e w2 ⟨v2, us, rfl, ho2, hb2⟩
    have hR : w2.heap[w.heap.size]? = some (.cells #[.slice none 0 0, .slice none 0 0, .bool false] 48 (0, 0)) := by rw [hb2.block _ (by simp)]; exact hcell
    have hB2 := Below.tr (bel_al w _) hb2
    obtain ⟨wz, hwz, ⟨k0, k1, k2, kz⟩, hBz⟩ := back w2 hR hB2
    obtain ⟨c0, c1, c2, cz⟩ := cells3 hR
    have z0 := cz 0
    have z1 := cz 1
    have z2 := cz 2
    clear back hcell hall fin0 cz
    rcases hcs with her | ⟨rfl, h3⟩ | ⟨rfl, k, x, m, rfl, hm⟩
    · obtain ⟨a2, d2, rfl⟩ : ∃ a d, v2 = .slice a fs.length d := by obtain ⟨a, d, e, _⟩ := ho2.rds; exact ⟨a, d, e⟩
      have hne : (((er : Nat) : Int) != 0) = true := by simp; omega
      go_wp2_with fail
      refine bodyPost_ret (v := .tuple #[.agg #[.slice none 0 0, .slice none 0 0, .bool false], .bool false]) (by simp [results, Try.results38, go_sem, k0, k1, k2]; try rfl) rfl ?_
      exact ⟨(.slice none 0 0, .slice none 0 0, false), rfl, ⟨Ow.nil _ _, Ow.nil _ _, rfl⟩, hBz⟩
    · obtain ⟨a2, d2, rfl⟩ : ∃ a d, v2 = .slice a fs.length d := by obtain ⟨a, d, e, _⟩ := ho2.rds; exact ⟨a, d, e⟩
      have hne : (((fs.length : Nat) : Int) != 3) = true := by simp; omega
      go_wp2_with fail
      refine bodyPost_ret (v := .tuple #[.agg #[.slice none 0 0, .slice none 0 0, .bool false], .bool false]) (by simp [results, Try.results38, go_sem, k0, k1, k2]; try rfl) rfl ?_
      exact ⟨(.slice none 0 0, .slice none 0 0, false), rfl, ⟨Ow.nil _ _, Ow.nil _ _, rfl⟩, hBz⟩
    · obtain ⟨g, c, x0, x1, x2, rfl, hc3, g0, g1, g2, o0, o1, o2, hgB⟩ := ho2.three
      rcases hm with hm | ⟨b, rfl, hb0, hb1⟩
      · obtain ⟨a3, d3, rfl⟩ := o2.shape
        have hne : (((m.length : Nat) : Int) != 1) = true := by simp; omega
        go_wp2_with fail
        refine bodyPost_ret (v := .tuple #[.agg #[.slice none 0 0, .slice none 0 0, .bool false], .bool false]) (by simp [results, Try.results38, go_sem, k0, k1, k2]; try rfl) rfl ?_
        exact ⟨(.slice none 0 0, .slice none 0 0, false), rfl, ⟨Ow.nil _ _, Ow.nil _ _, rfl⟩, hBz⟩
      · rcases o2.rd.two with ⟨_, q⟩ | ⟨a3, d3, rfl, q1, q2, q3⟩
        · cases q
        · have hbc := q3 0 (by simp)
          rw [add_zero] at hbc
          simp only [List.getElem_cons_zero] at hbc
          have hn0 : (((b.toNat : Nat) : Int) != 0) = true := by
            have : b.toNat ≠ 0 := fun e => hb0 (UInt8.toNat_inj.1 (by simpa using e))
            simp; omega
          have hn1 : (((b.toNat : Nat) : Int) != 1) = true := by
            have : b.toNat ≠ 1 := fun e => hb1 (UInt8.toNat_inj.1 (by simpa using e))
            simp; omega
          simp only [List.length_singleton] at *
          go_wp2_with fail
          refine bodyPost_ret (v := .tuple #[.agg #[.slice none 0 0, .slice none 0 0, .bool false], .bool false]) (by simp [results, Try.results38, go_sem, k0, k1, k2]; try rfl) rfl ?_
          exact ⟨(.slice none 0 0, .slice none 0 0, false), rfl, ⟨Ow.nil _ _, Ow.nil _ _, rfl⟩, hBz⟩
  · rw [e]
    clear e hv hl
    show Calls _ _ _ _ fun e w' => ∃ u : V3, e = .returned (.tuple #[.agg #[u.1, u.2.1, .bool u.2.2], .bool true]) ∧ El3 w.heap.size w' u (k, x, g) ∧ Below w.heap.size w w'
    generalize M.tr l = R at *
    obtain ⟨fs, er⟩ := R
    simp only [] at h0 hfs hall
    subst h0
    subst hfs
    go_enter Try.func38, Try.ntmps38
    go_wp2_with fail
    refine (hall _ (bel_al w _)).mono ?_
    rintro e w2 ⟨v2, us, rfl, ho2, hb2⟩
    have hR : w2.heap[w.heap.size]? = some (.cells #[.slice none 0 0, .slice none 0 0, .bool false] 48 (0, 0)) := by rw [hb2.block _ (by simp)]; exact hcell
    have hB2 := Below.tr (bel_al w _) hb2
    obtain ⟨c0, c1, c2, cz⟩ := cells3 hR
    have z0 := cz 0
    have z1 := cz 1
    have z2 := cz 2
    clear hcell hall fin0 cz
    obtain ⟨q, c, x0, x1, x2, rfl, hc3, g0, g1, g2, o0, o1, o2, hgB⟩ := ho2.three
    have hsz : (w.alloc (.cells #[.slice none 0 0, .slice none 0 0, .bool false] 48)).heap.size = w.heap.size + 1 := by simp
    rw [hsz] at o0 o1 o2 hgB
    obtain ⟨a3, d3, e3, q1, q2, q3, q4⟩ := row_reads o2
    obtain ⟨h, rfl, hbc⟩ := q4 0 _ (cel_get _ 0 (by simp))
    have hhB := (World.ownsRow.lt o2 h (by rw [e3]; rfl)).1
    have hqR : ¬ q = w.heap.size := by omega
    have hhR : ¬ h = w.heap.size := by omega
    have hRq : ¬ w.heap.size = q := by omega
    have hRh : ¬ w.heap.size = h := by omega
    simp only [List.length_singleton, List.getElem_cons_zero] at *
    subst e3
    obtain ⟨b0, d0, e0⟩ := o0.shape
    obtain ⟨b1, d1, e1⟩ := o1.shape
    subst e0
    subst e1
    have hS := set3_block hR (.slice b0 k.length d0) (.slice b1 x.length d1) (.bool g)
    have hch := set3_chg w2 w.heap.size (.slice b0 k.length d0) (.slice b1 x.length d1) (.bool g)
    have hE : El3 w.heap.size (((w2.setCell ⟨w.heap.size, 0, none⟩ (.slice b0 k.length d0)).setCell ⟨w.heap.size, 1, none⟩ (.slice b1 x.length d1)).setCell ⟨w.heap.size, 2, none⟩ (.bool g)) (.slice b0 k.length d0, .slice b1 x.length d1, g) (k, x, g) :=
      ⟨(o0.keptC hch (fun b e q => by have := (World.ownsRow.lt o0 b e).1; omega)).mono (by omega), (o1.keptC hch (fun b e q => by have := (World.ownsRow.lt o1 b e).1; omega)).mono (by omega), rfl⟩
    have hBz : Below w.heap.size w (((w2.setCell ⟨w.heap.size, 0, none⟩ (.slice b0 k.length d0)).setCell ⟨w.heap.size, 1, none⟩ (.slice b1 x.length d1)).setCell ⟨w.heap.size, 2, none⟩ (.bool g)) := hB2.trans (hch.below (fun b q => by omega) hB2.size)
    have HZ : Hid _ := And.intro (cells3 hS) (And.intro hE hBz)
    clear hS hch hE hBz o0 o1 o2 q4 hb2 hB2 ho2 hR
    cases g
    · replace hbc : w2.cell? ⟨h, 0, none⟩ = some (.int .u8 0) := hbc
      go_wp2_with fail
      go_region_held3 (fun w' => w'.cell? ⟨q, 0, none⟩ = some (.slice b0 k.length d0) ∧ w'.cell? ⟨q, 1, none⟩ = some (.slice b1 x.length d1) ∧ w'.cell? ⟨h, 0, none⟩ = some (.int .u8 0)) (go_keep) (fail)
      go_wp2_with fail
      have HY : Hid (∀ W, W = (((w2.setCell ⟨w.heap.size, 0, none⟩ (.slice b0 k.length d0)).setCell ⟨w.heap.size, 1, none⟩ (.slice b1 x.length d1)).setCell ⟨w.heap.size, 2, none⟩ (.bool false)).drew → (W.cell? ⟨w.heap.size, 0, none⟩ = some (.slice b0 k.length d0) ∧ W.cell? ⟨w.heap.size, 1, none⟩ = some (.slice b1 x.length d1) ∧ W.cell? ⟨w.heap.size, 2, none⟩ = some (.bool false)) ∧ El3 w.heap.size W (.slice b0 k.length d0, .slice b1 x.length d1, false) (k, x, false) ∧ Below w.heap.size w W) := fun W hW => by
        subst hW
        obtain ⟨⟨y0, y1, y2, _⟩, hE, hBz⟩ := HZ.out
        exact ⟨⟨y0, y1, y2⟩, hE.below (bel_drew _) (Nat.le_refl _), hBz.trans ((bel_drew _).mono hBz.size)⟩
      obtain ⟨⟨k0, k1, k2⟩, hE, hBz⟩ := HY.out _ rfl
      generalize (((w2.setCell ⟨w.heap.size, 0, none⟩ (.slice b0 k.length d0)).setCell ⟨w.heap.size, 1, none⟩ (.slice b1 x.length d1)).setCell ⟨w.heap.size, 2, none⟩ (.bool false)).drew = wz at *
      refine bodyPost_ret (v := .tuple #[.agg #[.slice b0 k.length d0, .slice b1 x.length d1, .bool false], .bool true]) (by simp [results, Try.results38, go_sem, k0, k1, k2]; try rfl) rfl ?_
      exact ⟨(.slice b0 k.length d0, .slice b1 x.length d1, false), rfl, hE, hBz⟩
    · replace hbc : w2.cell? ⟨h, 0, none⟩ = some (.int .u8 1) := hbc
      go_wp2_with fail
      go_region_held3 (fun w' => w'.cell? ⟨q, 0, none⟩ = some (.slice b0 k.length d0) ∧ w'.cell? ⟨q, 1, none⟩ = some (.slice b1 x.length d1) ∧ w'.cell? ⟨h, 0, none⟩ = some (.int .u8 1)) (go_keep) (fail)
      go_wp2_with fail
      have HY : Hid (∀ W, W = (((w2.setCell ⟨w.heap.size, 0, none⟩ (.slice b0 k.length d0)).setCell ⟨w.heap.size, 1, none⟩ (.slice b1 x.length d1)).setCell ⟨w.heap.size, 2, none⟩ (.bool true)).drew → (W.cell? ⟨w.heap.size, 0, none⟩ = some (.slice b0 k.length d0) ∧ W.cell? ⟨w.heap.size, 1, none⟩ = some (.slice b1 x.length d1) ∧ W.cell? ⟨w.heap.size, 2, none⟩ = some (.bool true)) ∧ El3 w.heap.size W (.slice b0 k.length d0, .slice b1 x.length d1, true) (k, x, true) ∧ Below w.heap.size w W) := fun W hW => by
        subst hW
        obtain ⟨⟨y0, y1, y2, _⟩, hE, hBz⟩ := HZ.out
        exact ⟨⟨y0, y1, y2⟩, hE.below (bel_drew _) (Nat.le_refl _), hBz.trans ((bel_drew _).mono hBz.size)⟩
      obtain ⟨⟨k0, k1, k2⟩, hE, hBz⟩ := HY.out _ rfl
      generalize (((w2.setCell ⟨w.heap.size, 0, none⟩ (.slice b0 k.length d0)).setCell ⟨w.heap.size, 1, none⟩ (.slice b1 x.length d1)).setCell ⟨w.heap.size, 2, none⟩ (.bool true)).drew = wz at *
      refine bodyPost_ret (v := .tuple #[.agg #[.slice b0 k.length d0, .slice b1 x.length d1, .bool true], .bool true]) (by simp [results, Try.results38, go_sem, k0, k1, k2]; try rfl) rfl ?_
      exact ⟨(.slice b0 k.length d0, .slice b1 x.length d1, true), rfl, hE, hBz⟩
end Go.Proofs.Ytdaedglfefkeoaa

/- The heap of what is left of the tables, in memory. -/
namespace Go.Proofs.Ytdaedglfefkeoaa
open Go.RowKit
set_option linter.unusedVariables false
set_option maxRecDepth 100000

/-- An element: the slice that is left, as a value; what it reads as; the table's place. -/
abbrev HE := Value × M.Ru
def r2 (e : HE) : List Value := [e.1, .int .i64 (e.2.2 : Int)]
def r2s (H : List HE) : List Value := H.flatMap r2
theorem r2_len (e : HE) : (r2 e).length = 2 := rfl
theorem r2s_length (H : List HE) : (r2s H).length = H.length * 2 := fm_len r2_len H
theorem r2s_app (a b : List HE) : r2s (a ++ b) = r2s a ++ r2s b := by simp [r2s]
theorem r2s_at (H : List HE) (i : Nat) (e : HE) (h : H[i]? = some e) : (r2s H)[i * 2]? = some e.1 ∧ (r2s H)[i * 2 + 1]? = some (.int .i64 (e.2.2 : Int)) :=
  ⟨fm_at r2_len H i 0 e h (by omega), fm_at r2_len H i 1 e h (by omega)⟩
theorem r2s_set (H : List HE) (i : Nat) (e : HE) : ((r2s H).set (i * 2) e.1).set (i * 2 + 1) (.int .i64 (e.2.2 : Int)) = r2s (H.set i e) := by
  induction H generalizing i with
  | nil => simp [r2s]
  | cons h t ih =>
    cases i with
    | zero => simp [r2s, r2]
    | succ i =>
      have := ih i
      simp only [r2s, List.flatMap_cons, r2, List.set_cons_succ] at this ⊢
      rw [show (i + 1) * 2 = i * 2 + 1 + 1 by omega]
      simp only [List.cons_append, List.nil_append, List.set_cons_succ, this]
/-- Does a stand ahead of b? -/
def elt (a b : HE) : Bool := M.rlt a.2 b.2
theorem elt_tr (a b c : HE) (h1 : elt b a = false) (h2 : elt c b = false) : elt c a = false := M.rlt_trans _ _ _ h1 h2
theorem elt_asy (a b : HE) (h : elt a b = true) : elt b a = false := M.rlt_asym _ _ h
theorem elt_irr (a : HE) : elt a a = false := M.rlt_irr _

/-- The heap's variable is the block x, its array v; all that is left lies in the tables, in the world w0. -/
structure Hq (w0 : World) (x : Nat) (v : Value) (w : World) (H : List HE) : Prop where
  base : Below w0.heap.size w0 w
  hx : w0.heap.size ≤ x
  cx : ∃ t, w.heap[x]? = some (.cells #[v] t (0, 0))
  row : w.ownsRow w0.heap.size 85 2 v H.length (r2s H)
  ne : v.ownBlock ≠ some x
  els : ∀ e ∈ H, RdQ w0 e.1 e.2.1 ∧ e.2.1 ≠ [] ∧ e.2.2 ≤ 1099511627776

section
variable {w0 : World} {x : Nat} {v : Value} {w w' : World} {H : List HE}
theorem Hq.xlt (h : Hq w0 x v w H) : x < w.heap.size := by obtain ⟨t, hc⟩ := h.cx; exact (Array.getElem?_eq_some_iff.1 hc).1
theorem Hq.vx (h : Hq w0 x v w H) : w.cell? ⟨x, 0, none⟩ = some v ∧ ∀ j, w.frozen? ⟨x, j, none⟩ = false := by
  obtain ⟨t, hc⟩ := h.cx
  exact ⟨by simp [World.cell?, hc], fun j => frozen_of_row _ _ _ _ _ hc⟩
theorem Hq.kept {S : Nat → Prop} (h : Hq w0 x v w H) (hc : Chg S w w') (hS : ∀ b, b < w.heap.size → S b → w0.heap.size ≤ b) (hx : ¬ S x) (hv : ∀ b, v.ownBlock = some b → ¬ S b) : Hq w0 x v w' H := by
  obtain ⟨t, hcx⟩ := h.cx
  refine ⟨⟨hc.os.trans h.base.os, hc.tape.trans h.base.tape, hc.output.trans h.base.output, Nat.le_trans h.base.size hc.size, fun b hb => ?_⟩, h.hx, ⟨t, ?_⟩, ownsRow_keptC h.row hc hv, h.ne, h.els⟩
  · rw [hc.block b (Nat.lt_of_lt_of_le hb h.base.size) (fun q => by have := hS b (Nat.lt_of_lt_of_le hb h.base.size) q; omega)]
    exact h.base.block b hb
  · rw [hc.block x h.xlt hx]; exact hcx
theorem Hq.below {B : Nat} (h : Hq w0 x v w H) (hb : Below B w w') (hB : w.heap.size ≤ B) : Hq w0 x v w' H :=
  h.kept (Chg.of_below hb) (fun b hl q => by omega) (fun q => by have := h.xlt; omega) (fun b e q => by have := (World.ownsRow.lt h.row b e).2; omega)
theorem Hq.drewN (h : Hq w0 x v w H) (n : Nat) : Hq w0 x v (w.drewN n) H := h.below (Below.dN w n) (Nat.le_refl _)
/-- How an element reads. -/
theorem Hq.at_ (h : Hq w0 x v w H) {k : Nat} {e : HE} (he : H[k]? = some e) : ∃ g c, v = .slice (some ⟨g, 0, none⟩) H.length c ∧ H.length ≤ c ∧ c ≤ maxLen ∧ k < H.length ∧ w.cell? ⟨g, k * 2, none⟩ = some e.1 ∧ w.cell? ⟨g, k * 2 + 1, none⟩ = some (.int .i64 (e.2.2 : Int)) ∧ RdQ w e.1 e.2.1 ∧ (∀ j, w.frozen? ⟨g, j, none⟩ = false) ∧ e.2.1 ≠ [] ∧ e.2.2 ≤ 1099511627776 := by
  obtain ⟨a, c, rfl, h1, h2, h3, h4⟩ := row_reads h.row
  obtain ⟨e0, e1⟩ := r2s_at H k e he
  obtain ⟨g, rfl, g0⟩ := h4 _ _ e0
  obtain ⟨g', eg, g1⟩ := h4 _ _ e1
  simp only [Option.some.injEq, Addr.mk.injEq, and_true] at eg
  subst eg
  obtain ⟨q1, q2, q3⟩ := h.els e (List.mem_of_getElem? he)
  exact ⟨g, c, rfl, h1, h2, (List.getElem?_eq_some_iff.1 he).1, g0, g1, q1.below h.base (Nat.le_refl _), fun j => row_froz h.row j, q2, q3⟩
/-- One element written over. -/
theorem Hq.set {g c n : Nat} (h : Hq w0 x (.slice (some ⟨g, 0, none⟩) n c) w H) (k : Nat) (e : HE) (he : RdQ w0 e.1 e.2.1 ∧ e.2.1 ≠ [] ∧ e.2.2 ≤ 1099511627776) : Hq w0 x (.slice (some ⟨g, 0, none⟩) n c) ((w.setCell ⟨g, k * 2, none⟩ e.1).setCell ⟨g, k * 2 + 1, none⟩ (.int .i64 (e.2.2 : Int))) (H.set k e) := by
  have hch : Chg (fun b => b = g) w ((w.setCell ⟨g, k * 2, none⟩ e.1).setCell ⟨g, k * 2 + 1, none⟩ (.int .i64 (e.2.2 : Int))) := ((Chg.refl (fun b => b = g) w).put g _ _ rfl).put g _ _ rfl
  have hgl := World.ownsRow.lt h.row g rfl
  have hgx : g ≠ x := fun q => h.ne (by rw [q]; rfl)
  obtain ⟨t, hcx⟩ := h.cx
  refine ⟨⟨hch.os.trans h.base.os, hch.tape.trans h.base.tape, hch.output.trans h.base.output, Nat.le_trans h.base.size hch.size, fun b hb => ?_⟩, h.hx, ⟨t, ?_⟩, ?_, h.ne, fun d hd => ?_⟩
  · rw [hch.block b (Nat.lt_of_lt_of_le hb h.base.size) (fun q => by have := hgl.1; omega)]; exact h.base.block b hb
  · rw [hch.block x h.xlt (fun q => hgx q.symm)]; exact hcx
  · rw [List.length_set, ← r2s_set]
    exact row_put (row_put h.row rfl _ _) rfl _ _
  · rcases List.mem_or_eq_of_mem_set hd with q | q
    · exact h.els d q
    · subst q; exact he
theorem Hq.chgset {g k : Nat} {a b : Value} : Chg (fun b => b = g) w ((w.setCell ⟨g, k * 2, none⟩ a).setCell ⟨g, k * 2 + 1, none⟩ b) := ((Chg.refl (fun b => b = g) w).put g _ _ rfl).put g _ _ rfl
/-- The last ones are left out. -/
theorem ownsRow_take {B : Nat} {t : TypeId} {g n c m s : Nat} {xs : List Value} (h : w.ownsRow B t s (.slice (some ⟨g, 0, none⟩) n c) n xs) (hm : m ≤ n) : w.ownsRow B t s (.slice (some ⟨g, 0, none⟩) m c) m (xs.take (m * s)) := by
  obtain ⟨h1, h2⟩ := h
  have hms : m * s ≤ n * s := Nat.mul_le_mul_right _ hm
  refine ⟨by rw [List.length_take, h1]; omega, ?_⟩
  rcases h2 with ⟨q, _⟩ | ⟨g', cap, cur, q, hB, hg, q1, q2, q3, q4⟩
  · cases q
  · simp only [Value.slice.injEq, Option.some.injEq, Addr.mk.injEq, and_true, true_and] at q
    obtain ⟨rfl, rfl⟩ := q
    exact .inr ⟨g, c, cur, rfl, hB, hg, by omega, q2, q3, by rw [← q4, List.take_take, Nat.min_eq_left hms]⟩
theorem Hq.take {g c n m : Nat} (h : Hq w0 x (.slice (some ⟨g, 0, none⟩) n c) w H) (hm : m ≤ H.length) : Hq w0 x (.slice (some ⟨g, 0, none⟩) m c) (w.setCell ⟨x, 0, none⟩ (.slice (some ⟨g, 0, none⟩) m c)) (H.take m) := by
  obtain ⟨a, c', e, _⟩ := row_reads h.row
  simp only [Value.slice.injEq] at e
  obtain ⟨_, rfl, _⟩ := e
  have hch : Chg (fun b => b = x) w (w.setCell ⟨x, 0, none⟩ (.slice (some ⟨g, 0, none⟩) m c)) := (Chg.refl _ w).put x _ _ rfl
  have hgx : g ≠ x := fun q => h.ne (by rw [q]; rfl)
  obtain ⟨t, hcx⟩ := h.cx
  have hx := h.hx
  refine ⟨⟨hch.os.trans h.base.os, hch.tape.trans h.base.tape, hch.output.trans h.base.output, Nat.le_trans h.base.size hch.size, fun b hb => ?_⟩, h.hx, ⟨t, ?_⟩, ?_, ?_, fun d hd => h.els d (List.mem_of_mem_take hd)⟩
  · rw [hch.block b (Nat.lt_of_lt_of_le hb h.base.size) (fun q => by omega)]; exact h.base.block b hb
  · rw [heap_setCell_same _ _ 0 _ _ _ hcx]; rfl
  · have h1 := ownsRow_take h.row hm
    have e : (r2s H).take (m * 2) = r2s (H.take m) := fm_take r2_len H m
    rw [e] at h1
    rw [List.length_take, Nat.min_eq_left hm]
    exact ownsRow_keptC h1 hch (fun b q1 q2 => hgx ((Option.some.inj q1).trans q2))
  · exact fun q => hgx (Option.some.inj q)
end
end Go.Proofs.Ytdaedglfefkeoaa

/- The heap's Less, Swap and Len. -/
namespace Go.Proofs.Ytdaedglfefkeoaa
open Go.RowKit
set_option linter.unusedVariables false
set_option maxRecDepth 100000

theorem add_zero3 (a : Addr) : a.add (0 * 3) = a := by cases a; simp [Addr.add]
theorem bcompare_w {va vb : Value} {la lb : List UInt8} {w : World} (ha : Rd w va la) (hb : Rd w vb lb) (q : Nat) : Calls Try.prog 53 #[va, vb] (w.drewN q) fun e w' => e = .returned (.int .i64 (M.cmpL la lb)) ∧ ∃ n, w' = w.drewN n := by
  refine (bcompare_any (ha.drewN q) (hb.drewN q)).mono ?_
  rintro _ w' ⟨rfl, rfl⟩
  exact ⟨rfl, q, rfl⟩

section
variable {w0 : World} {x : Nat} {v : Value} {w w' : World} {H : List HE}
set_option maxHeartbeats 1000000 in
theorem less_any (h : Hq w0 x v w H) {i j : Nat} {a b : HE} (ha : H[i]? = some a) (hb : H[j]? = some b) :
    Calls Try.prog 88 #[v, .int .i64 i, .int .i64 j] w fun e w' => e = .returned (.bool (elt a b)) ∧ ∃ n, w' = w.drewN n := by
  obtain ⟨g, c, rfl, h1, h2, hi, a0, a1, ra, fr, na, ba⟩ := h.at_ ha
  obtain ⟨g', c', ev, _, _, hj, b0, b1, rb, _, nb, bb⟩ := h.at_ hb
  simp only [Value.slice.injEq, Option.some.injEq, Addr.mk.injEq, and_true, true_and] at ev
  obtain ⟨rfl, rfl⟩ := ev
  obtain ⟨va, la, ia⟩ := a
  obtain ⟨vb, lb, ib⟩ := b
  simp only [] at *
  cases la with
  | nil => exact absurd rfl na
  | cons p la =>
  cases lb with
  | nil => exact absurd rfl nb
  | cons q lb =>
  obtain ⟨ao, ca, rfl, q1, q2, q4⟩ := ra
  obtain ⟨aa, u1, u2, rfl, hpa⟩ := q4 0 p rfl
  obtain ⟨bo, cb, rfl, r1, r2, r4⟩ := rb
  obtain ⟨ab, v1, v2, rfl, hqa⟩ := r4 0 q rfl
  have c0 := hpa.c0
  have d0 := hqa.c0
  rw [add_zero3] at c0 d0
  have hc := fun x => bcompare_w hpa.r1 hqa.r1 x
  have e1 : elt (.slice (some aa) (p :: la).length ca, p :: la, ia) (.slice (some ab) (q :: lb).length cb, q :: lb, ib) = decide (M.cmpL p.1 q.1 < 0 ∨ M.cmpL p.1 q.1 = 0 ∧ ia < ib) := rfl
  rw [e1]
  clear e1
  obtain ⟨_, _, rfl, _⟩ := hpa.r1
  obtain ⟨_, _, rfl, _⟩ := hqa.r1
  have hii : (i : Int) < (H.length : Int) := by omega
  have hji : (j : Int) < (H.length : Int) := by omega
  have hl1 : (0 : Int) < (((p :: la).length : Nat) : Int) := by simp
  have hl2 : (0 : Int) < (((q :: lb).length : Nat) : Int) := by simp
  generalize (p :: la).length = n1 at *
  generalize (q :: lb).length = n2 at *
  clear h ha hb q4 r4 hpa hqa
  generalize M.cmpL p.1 q.1 = z at *
  generalize hT : decide (z < 0 ∨ z = 0 ∧ ia < ib) = T
  have HT : Hid _ := hT
  clear hT
  go_enter Try.func88, Try.ntmps88
  go_wp2_with fail
  go_quiet (first | (go_at_call 53; exact hc _) | fail)
  clear a0 b0 c0 d0 hc
  rcases Int.lt_trichotomy z 0 with hz | hz | hz
  · have hT : T = true := by rw [← HT.out]; simp [hz]
    subst hT
    go_wp2_with fail
    go_quiet (fail)
    go_wp2_with fail
    go_ret
    exact ⟨rfl, _, World.drewN_drewN _ _ _⟩
  · subst hz
    have hT : T = decide (ia < ib) := by rw [← HT.out]; simp
    subst hT
    go_wp2_with fail
    go_quiet (fail)
    go_wp2_with fail
    go_ret
    exact ⟨rfl, _, World.drewN_drewN _ _ _⟩
  · have hT : T = false := by rw [← HT.out]; simp; omega
    subst hT
    have hz1 : ¬ z < 0 := by omega
    have hz2 : ¬ z = 0 := by omega
    go_wp2_with fail
    go_quiet (fail)
    go_wp2_with fail
    go_ret
    refine ⟨?_, _, World.drewN_drewN _ _ _⟩
    show Ending.returned (.bool (decide (z < 0))) = _
    rw [decide_eq_false (by omega)]

set_option maxHeartbeats 1000000 in
theorem swap_any (h : Hq w0 x v w H) {i j : Nat} (hi : i < H.length) (hj : j < H.length) :
    Calls Try.prog 89 #[v, .int .i64 i, .int .i64 j] w fun e w' => (∃ u, e = .returned u) ∧ Hq w0 x v w' (M.sw H i j) ∧ Chg (fun b => v.ownBlock = some b) w w' := by
  obtain ⟨a, ha⟩ : ∃ a, H[i]? = some a := ⟨_, List.getElem?_eq_getElem hi⟩
  obtain ⟨b, hb⟩ : ∃ b, H[j]? = some b := ⟨_, List.getElem?_eq_getElem hj⟩
  obtain ⟨g, c, rfl, h1, h2, _, a0, a1, ra, fr, na, ba⟩ := h.at_ ha
  obtain ⟨g', c', ev, _, _, _, b0, b1, rb, _, nb, bb⟩ := h.at_ hb
  simp only [Value.slice.injEq, Option.some.injEq, Addr.mk.injEq, and_true, true_and] at ev
  obtain ⟨rfl, rfl⟩ := ev
  have hfin : ∀ n (d : HE), (d = b ∨ (i = j ∧ d = a)) → Hq w0 x (.slice (some ⟨g, 0, none⟩) H.length c) (((((w.drewN n).setCell ⟨g, i * 2, none⟩ d.1).setCell ⟨g, i * 2 + 1, none⟩ (.int .i64 (d.2.2 : Int))).setCell ⟨g, j * 2, none⟩ a.1).setCell ⟨g, j * 2 + 1, none⟩ (.int .i64 (a.2.2 : Int))) (M.sw H i j) ∧ Chg (fun b => (Value.slice (some ⟨g, 0, none⟩) H.length c).ownBlock = some b) w (((((w.drewN n).setCell ⟨g, i * 2, none⟩ d.1).setCell ⟨g, i * 2 + 1, none⟩ (.int .i64 (d.2.2 : Int))).setCell ⟨g, j * 2, none⟩ a.1).setCell ⟨g, j * 2 + 1, none⟩ (.int .i64 (a.2.2 : Int))) := fun n d hd => by
    have hdb : d = b := by
      rcases hd with e | ⟨e, e2⟩
      · exact e
      · subst e; rw [e2]; exact Option.some.inj (ha.symm.trans hb)
    subst hdb
    refine ⟨?_, ?_⟩
    · rw [M.sw_eq ha hb]
      exact ((h.drewN n).set i d (h.els d (List.mem_of_getElem? hb))).set j a (h.els a (List.mem_of_getElem? ha))
    · have hc : Chg (fun b => (Value.slice (some ⟨g, 0, none⟩) H.length c).ownBlock = some b) w (w.drewN n) := (Chg.of_below (Below.dN w n)).mono (fun q hl hq => by omega)
      exact (((hc.put g _ _ rfl).put g _ _ rfl).put g _ _ rfl).put g _ _ rfl
  have hii : (i : Int) < (H.length : Int) := by omega
  have hji : (j : Int) < (H.length : Int) := by omega
  obtain ⟨_, _, ea, _⟩ := ra
  obtain ⟨_, _, eb, _⟩ := rb
  obtain ⟨va, la, ia⟩ := a
  obtain ⟨vb, lb, ib⟩ := b
  simp only [] at *
  subst ea
  subst eb
  have HF : Hid _ := hfin
  clear hfin h ha hb
  go_enter Try.func89, Try.ntmps89
  go_wp2_with fail
  by_cases hij : i = j
  · subst hij
    go_region
    go_wp2_with fail
    go_end0
    exact ⟨⟨_, rfl⟩, HF.out 1 (.slice _ _ _, la, ia) (.inr (by simp))⟩
  · have n1 : ¬ j * 2 = i * 2 := by omega
    have n2 : ¬ j * 2 = i * 2 + 1 := by omega
    have n3 : ¬ j * 2 + 1 = i * 2 := by omega
    have n4 : ¬ j * 2 + 1 = i * 2 + 1 := by omega
    go_region
    go_wp2_with fail
    go_end0
    exact ⟨⟨_, rfl⟩, HF.out 1 (.slice _ _ _, lb, ib) (.inl rfl)⟩
end
end Go.Proofs.Ytdaedglfefkeoaa

/- The heap's methods, called through heap.Interface. -/
namespace Go.Proofs.Ytdaedglfefkeoaa
open Go.RowKit
set_option linter.unusedVariables false
set_option maxRecDepth 100000

/-- A method with a value's receiver, called on a pointer in an interface: what lies there is loaded. -/
theorem run_method_val {P : Program} {t elem : TypeId} {name : String} {f : FuncId} {w : World} {a : Addr} {v : Value} (fuel : Nat)
    (hm : (P.info? t).map (fun i => (i.methods.find? (·.name == name)).map (fun m => (m.path, m.func))) = some (some (#[], some (f, false))))
    (hu : P.underlying t = some (.pointer elem)) (hl : (loadVar elem a).run P w = .ok v w) : (method (fuel + 1) t (.pointer (some a)) name).run P w = .ok (f, v) w := by
  obtain ⟨i, hi, hm⟩ := Option.map_eq_some_iff.1 hm
  obtain ⟨m, hf, hm⟩ := Option.map_eq_some_iff.1 hm
  simp only [Prod.mk.injEq] at hm
  obtain ⟨hp, hfn⟩ := hm
  have h1 : (typeInfo t).run P w = .ok i w := by simp [typeInfo, hi]
  have h2 : (underlying t).run P w = .ok (.pointer elem) w := run_underlying hu w
  have h3 : ∀ nm, (Builtin.ssaWrapNilChk_ #[t] t #[.pointer (some a), strVal "", strVal nm]).run P w = .ok (.pointer (some a)) w := fun _ => rfl
  have h4 : (asAddr (.pointer (some a))).run P w = .ok a w := rfl
  unfold method
  simp only [Sem.run_bind, h1, Result.andThen_ok, hf, hp, hfn, follow, Sem.run_pure, receiverAt, h2, Place.get, Array.isEmpty_empty, if_true, h3, h4, hl]
/-- .. and one with a pointer's. -/
theorem run_method_ptr {P : Program} {t elem : TypeId} {name : String} {f : FuncId} {w : World} {a : Addr} (fuel : Nat)
    (hm : (P.info? t).map (fun i => (i.methods.find? (·.name == name)).map (fun m => (m.path, m.func))) = some (some (#[], some (f, true))))
    (hu : P.underlying t = some (.pointer elem)) : (method (fuel + 1) t (.pointer (some a)) name).run P w = .ok (f, .pointer (some a)) w := by
  obtain ⟨i, hi, hm⟩ := Option.map_eq_some_iff.1 hm
  obtain ⟨m, hf, hm⟩ := Option.map_eq_some_iff.1 hm
  simp only [Prod.mk.injEq] at hm
  obtain ⟨hp, hfn⟩ := hm
  have h1 : (typeInfo t).run P w = .ok i w := by simp [typeInfo, hi]
  have h2 : (underlying t).run P w = .ok (.pointer elem) w := run_underlying hu w
  unfold method
  simp only [Sem.run_bind, h1, Result.andThen_ok, hf, hp, hfn, follow, Sem.run_pure, receiverAt, h2, Place.get]

theorem load_runs {w : World} {x : Nat} {v : Value} (h : w.cell? ⟨x, 0, none⟩ = some v) : (loadVar 82 ⟨x, 0, none⟩).run Try.prog w = .ok v w := by
  simp [loadVar, go_sem, h]
section
variable {w : World} {x : Nat} {v : Value}
theorem meth_less (h : w.cell? ⟨x, 0, none⟩ = some v) : (method 230 102 (.pointer (some ⟨x, 0, none⟩)) "Less").run Try.prog w = .ok (88, v) w := run_method_val 229 (elem := 82) (by kernel_rfl) (by kernel_rfl) (load_runs h)
theorem meth_swap (h : w.cell? ⟨x, 0, none⟩ = some v) : (method 230 102 (.pointer (some ⟨x, 0, none⟩)) "Swap").run Try.prog w = .ok (89, v) w := run_method_val 229 (elem := 82) (by kernel_rfl) (by kernel_rfl) (load_runs h)
theorem meth_len (h : w.cell? ⟨x, 0, none⟩ = some v) : (method 230 102 (.pointer (some ⟨x, 0, none⟩)) "Len").run Try.prog w = .ok (87, v) w := run_method_val 229 (elem := 82) (by kernel_rfl) (by kernel_rfl) (load_runs h)
theorem meth_push : (method 230 102 (.pointer (some ⟨x, 0, none⟩)) "Push").run Try.prog w = .ok (91, .pointer (some ⟨x, 0, none⟩)) w := run_method_ptr 229 (elem := 82) (by kernel_rfl) (by kernel_rfl)
theorem meth_pop : (method 230 102 (.pointer (some ⟨x, 0, none⟩)) "Pop").run Try.prog w = .ok (90, .pointer (some ⟨x, 0, none⟩)) w := run_method_ptr 229 (elem := 82) (by kernel_rfl) (by kernel_rfl)
end
end Go.Proofs.Ytdaedglfefkeoaa

/- The heap's own Push and Pop. -/
namespace Go.Proofs.Ytdaedglfefkeoaa
open Go.RowKit
set_option linter.unusedVariables false
set_option maxRecDepth 100000

theorem Try.infoRun : (Try.prog.info? 85).map (fun i => (i.zero, i.size, i.bytes)) = some (some (.agg #[.slice none 0 0, .int .i64 0]), 2, 32) := by kernel_rfl
def Sl1 (e : HE) : Prop := ∃ b m k, e.1 = .slice b m k
theorem r2s_one {H : List HE} (h : ∀ e ∈ H, Sl1 e) : ∀ u ∈ r2s H, u.oneCell' = true := by
  intro u hu
  obtain ⟨x, hx, hu⟩ := List.mem_flatMap.1 hu
  obtain ⟨b, m, k, e⟩ := h x hx
  simp only [r2, List.mem_cons, List.not_mem_nil, or_false] at hu
  rcases hu with rfl | rfl
  · rw [e]; rfl
  · rfl
/-- 'append(h, x)' of one run: what the operation does. -/
theorem run_appR (w : World) (ty : TypeId) (B : Nat) (v : Value) (l : List HE) (hown : w.ownsRow B 85 2 v l.length (r2s l)) (ad : Addr) (c : Nat) (e : HE) (he : Sl1 e) (h0 : w.cell? (ad.add 0) = some e.1) (h1 : w.cell? (ad.add 1) = some (.int .i64 (e.2.2 : Int))) (hB : B ≤ w.heap.size) (hlen : l.length + 1 ≤ 1099511627776) :
    ∃ v' w', (Builtin.append_ #[82, 82] ty #[v, .slice (some ad) 1 c]).run Try.prog w = .ok v' w' ∧ w'.ownsRow B 85 2 v' (l ++ [e]).length (r2s (l ++ [e])) ∧ w.grownBy w' v.ownBlock ∧ (v'.ownBlock = v.ownBlock ∨ v'.ownBlock = some w.heap.size) := by
  obtain ⟨i, hi, hz0, hz1, hz2⟩ := info_parts Try.infoRun
  obtain ⟨v', w', hr, q2, q3, q4⟩ := run_appW (P := Try.prog) w B 82 ty 85 _ 2 32 Try.underlying82 Try.infoRun rfl (by decide) v l.length (r2s l) hown ad 1 c (r2s [e]) (r2s_length [e]) (by
    intro j u hu
    match j with
    | 0 => simp [r2s, r2] at hu; subst hu; exact h0
    | 1 => simp [r2s, r2] at hu; subst hu; exact h1
    | j + 2 => simp [r2s, r2] at hu) (r2s_one (fun x hx => by rw [List.mem_singleton.1 hx]; exact he)) (by unfold maxLen; omega) (by omega) hB
  exact ⟨v', w', hr, by rw [r2s_app, List.length_append]; exact q2, q3, q4⟩
theorem step_appR {ops : Array Oper} {o : Oper} {a : Act} {w : World} {K : Act → World → Prop} {Q : Exit → Act → World → Prop} {E : Prop} (hgd : o.guard = none) (s x : Operand)
    (ho : o.op = .call { callee := .builtin .append, args := #[s, x], argTypes := #[82, 82] })
    (B : Nat) (v : Value) (l : List HE) (hs : a.eval s = v) (hown : w.ownsRow B 85 2 v l.length (r2s l)) (ad : Addr) (c : Nat) (e : HE) (hx : a.eval x = .slice (some ad) 1 c) (he : Sl1 e) (h0 : w.cell? (ad.add 0) = some e.1) (h1 : w.cell? (ad.add 1) = some (.int .i64 (e.2.2 : Int))) (hB : B ≤ w.heap.size) (hlen : l.length + 1 ≤ 1099511627776)
    (hK : ∀ v' w', w'.ownsRow B 85 2 v' (l ++ [e]).length (r2s (l ++ [e])) → w.grownBy w' v.ownBlock → (v'.ownBlock = v.ownBlock ∨ v'.ownBlock = some w.heap.size) → K (a.put o.dst v') w') : if Region.wanted o (yielded ops a.tmps) = true then Oper.wp Try.prog o a w K Q else E := by
  have hw : Region.wanted o (yielded ops a.tmps) = true := by simp [Region.wanted, hgd]
  rw [if_pos hw]
  obtain ⟨v', w', hr, q2, q3, q4⟩ := run_appR w o.type B v l hown ad c e he h0 h1 hB hlen
  unfold Oper.wp execOp
  simp only [ho, resolve, invoke, builtin, Sem.run_bind, Sem.run_pure, Result.andThen_ok, List.map_toArray, List.map_cons, List.map_nil, hs, hx, hr]
  exact hK v' w' q2 q3 q4

section
variable {w0 : World} {x : Nat} {v : Value} {w w' : World} {H : List HE}
theorem Hq.push (h : Hq w0 x v w H) {e : HE} (he : RdQ w0 e.1 e.2.1 ∧ e.2.1 ≠ [] ∧ e.2.2 ≤ 1099511627776) {w1 w5 : World} {v' : Value} (hb : Below w.heap.size w w1) (hg : w1.grownBy w5 v.ownBlock) (hrow : w5.ownsRow w0.heap.size 85 2 v' (H ++ [e]).length (r2s (H ++ [e]))) (hv : v'.ownBlock = v.ownBlock ∨ v'.ownBlock = some w1.heap.size) : Hq w0 x v' (w5.setCell ⟨x, 0, none⟩ v') (H ++ [e]) := by
  have hxl := h.xlt
  have hs1 := hb.size
  have hc1 : Chg (fun b => v.ownBlock = some b) w w1 := (Chg.of_below hb).mono (fun b q1 q2 => by omega)
  have hc : Chg (fun b => v.ownBlock = some b) w w5 := hc1.trans (Chg.of_grown hg (fun b e _ => .inl e))
  have hxv : v'.ownBlock ≠ some x := by
    rcases hv with q | q
    · rw [q]; exact h.ne
    · rw [q]; intro q2; have := Option.some.inj q2; omega
  obtain ⟨t, hcx⟩ := h.cx
  have hcx5 : w5.heap[x]? = some (.cells #[v] t (0, 0)) := by rw [hc.block x hxl h.ne]; exact hcx
  have hch : Chg (fun b => b = x) w5 (w5.setCell ⟨x, 0, none⟩ v') := (Chg.refl (fun b => b = x) w5).put x _ _ rfl
  have hx := h.hx
  refine ⟨⟨(hch.os.trans hc.os).trans h.base.os, (hch.tape.trans hc.tape).trans h.base.tape, (hch.output.trans hc.output).trans h.base.output, Nat.le_trans h.base.size (Nat.le_trans hc.size hch.size), fun b hb' => ?_⟩, h.hx, ⟨t, ?_⟩, ?_, hxv, fun d hd => ?_⟩
  · have hbs := h.base.size
    have hcs := hc.size
    rw [hch.block b (by omega) (fun q => by omega), hc.block b (by omega) (fun q => by have := (World.ownsRow.lt h.row b q).1; omega)]
    exact h.base.block b hb'
  · rw [heap_setCell_same _ _ 0 _ _ _ hcx5]; rfl
  · exact ownsRow_keptC hrow hch (fun b q1 q2 => hxv (by rw [q1, q2]))
  · rcases List.mem_append.1 hd with q | q
    · exact h.els d q
    · rw [List.mem_singleton.1 q]; exact he

theorem run_isrun (W : World) (cs : Array Value) : (Instr.typeAssert (.iface 85 (.agg cs)) 20 85 false).run Try.prog W = .ok (.agg cs) W := by kernel_rfl
set_option maxHeartbeats 1000000 in
theorem push1_any (h : Hq w0 x v w H) {e : HE} (he : RdQ w0 e.1 e.2.1 ∧ e.2.1 ≠ [] ∧ e.2.2 ≤ 1099511627776) (hlen : H.length + 1 ≤ 1099511627776) :
    Calls Try.prog 91 #[.pointer (some ⟨x, 0, none⟩), .iface 85 (.agg #[e.1, .int .i64 (e.2.2 : Int)])] w fun r w' => (∃ u, r = .returned u) ∧ ∃ v', Hq w0 x v' w' (H ++ [e]) := by
  obtain ⟨vx, fx⟩ := h.vx
  have hxl := h.xlt
  have fx0 := fx 0
  have hbs := h.base.size
  have HP : Hid _ := fun {w1 w5 : World} {v' : Value} => h.push he (w1 := w1) (w5 := w5) (v' := v')
  have hbA : Below w.heap.size w (w.alloc (.cells #[e.1, .int .i64 (e.2.2 : Int)] 85)).drew := Below.tr (bel_al w _) (bel_drew _)
  have hrow : (w.alloc (.cells #[e.1, .int .i64 (e.2.2 : Int)] 85)).drew.ownsRow w0.heap.size 85 2 v H.length (r2s H) := ownsRow_belW h.row hbA (Nat.le_refl _)
  have hsz : (w.alloc (.cells #[e.1, .int .i64 (e.2.2 : Int)] 85)).drew.heap.size = w.heap.size + 1 := by simp
  have hB : w0.heap.size ≤ (w.alloc (.cells #[e.1, .int .i64 (e.2.2 : Int)] 85)).drew.heap.size := by omega
  have hcA : ∀ j u, #[e.1, .int .i64 (e.2.2 : Int)][j]? = some u → (w.alloc (.cells #[e.1, .int .i64 (e.2.2 : Int)] 85)).drew.cell? ((⟨w.heap.size, 0, none⟩ : Addr).add j) = some u := fun j u q => by
    rw [Addr.add_lit, Nat.zero_add]
    show (w.alloc (.cells #[e.1, .int .i64 (e.2.2 : Int)] 85)).cell? _ = _
    rw [World.cell?_alloc_at _ _ _ _ rfl]; exact q
  have hA0 := hcA 0 _ rfl
  have hA1 := hcA 1 _ rfl
  have hne := h.ne
  have hmid : ∀ w5, (w.alloc (.cells #[e.1, .int .i64 (e.2.2 : Int)] 85)).drew.grownBy w5 v.ownBlock → w5.cell? ⟨x, 0, none⟩ = some v ∧ w5.frozen? ⟨x, 0, none⟩ = false := fun w5 hg => by
    have e1 : w5.heap[x]? = w.heap[x]? := (hg.block x (by omega) (fun q => hne q.symm)).trans (hbA.block x hxl)
    exact ⟨by rw [World.cell?_of_block e1]; exact vx, by rw [World.frozen?_of_block e1]; exact fx0⟩
  obtain ⟨av, nv, cv, ev⟩ := row_shape h.row
  obtain ⟨_, _, ee, _⟩ := he.1
  obtain ⟨u, l, i⟩ := e
  simp only [] at *
  subst ee
  clear h hcA fx
  subst ev
  have hasr := run_isrun
  go_enter Try.func91, Try.ntmps91
  go_wp2_with fail
  go_region_law
    ((first
    | (refine step_appR rfl _ _ rfl w0.heap.size (.slice av nv cv) H rfl hrow ⟨w.heap.size, 0, none⟩ 1 (_, l, i) rfl ⟨_, _, _, rfl⟩ hA0 hA1 hB hlen ?_; intro v5 w5 ho5 hg5 hv5; obtain ⟨a5, n5, c5, rfl⟩ := row_shape ho5; obtain ⟨q1, q2⟩ := hmid w5 hg5)
    | fail))
  all_goals go_wp2_with fail
  all_goals go_end0
  all_goals exact ⟨⟨_, rfl⟩, _, HP.out hbA hg5 ho5 hv5⟩
end
end Go.Proofs.Ytdaedglfefkeoaa

/- container/heap's up over the heap of runs. -/
namespace Go.Proofs.Ytdaedglfefkeoaa
open Go.RowKit
set_option linter.unusedVariables false
set_option maxRecDepth 100000

section
variable {w0 : World} {x : Nat} {v : Value} {w w' : World} {H : List HE}
set_option maxHeartbeats 1000000 in
theorem up_any (h : Hq w0 x v w H) {j : Nat} (hj : j < H.length) (hU : M.HpU elt H H.length j) :
    Calls Try.prog 68 #[.iface 102 (.pointer (some ⟨x, 0, none⟩)), .int .i64 j] w fun e w' => (∃ u, e = .returned u) ∧ ∃ H', Hq w0 x v w' H' ∧ M.Mv H.length H H' ∧ M.Hp elt H' H.length ∧ Chg (fun b => v.ownBlock = some b) w w' := by
  have hHl : H.length ≤ 9223372036854775807 := by
    obtain ⟨a, c, ev, l1, l2, _⟩ := row_reads h.row
    unfold maxLen at l2
    omega
  go_enter Try.func68, Try.ntmps68
  go_wp2_with fail
  go_loopw [1, 4] (fun js _ wr => ∃ (k : Nat) (G : List HE), k < H.length ∧ js = .int .i64 k ∧ Hq w0 x v wr G ∧ M.Mv H.length H G ∧ Hid (M.HpU elt G H.length k) ∧ Chg (fun b => v.ownBlock = some b) w wr) (fun js _ _ => (intOf js).toNat)
  case atStart => exact ⟨j, H, hj, rfl, h, M.Mv.refl _ _, hU, Chg.refl _ _⟩
  case round =>
    obtain ⟨k, G, hk, rfl, hG, hmv, HU, hch⟩ := hrel
    by_cases hk0 : k = 0
    · subst hk0
      have HF : Hid _ := HU.out.top
      go_wp2_with fail
      go_end0
      exact ⟨⟨_, rfl⟩, G, hG, hmv, HF.out, hch⟩
    · obtain ⟨p, hp⟩ : ∃ p, (k - 1) / 2 = p := ⟨_, rfl⟩
      have hgl : G.length = H.length := hmv.1
      obtain ⟨ek, hek⟩ : ∃ e, G[k]? = some e := ⟨_, List.getElem?_eq_getElem (by omega)⟩
      obtain ⟨ep, hep⟩ : ∃ e, G[p]? = some e := ⟨_, List.getElem?_eq_getElem (by omega)⟩
      have hlc := less_any hG hek hep
      have hk1 : IntKind.i64.wrap ((k : Int) - 1) = ((k - 1 : Nat) : Int) := by rw [IntKind.wrap_i64]; omega
      have hpe : (((k : Int) - 1) / 2) = (p : Int) := by omega
      have hne : ¬ (p : Int) = (k : Int) := by omega
      have hm := meth_less hG.vx.1
      have hne2 : ¬ ((k - 1 : Nat) : Int) / 2 = (k : Int) := by omega
      have hpe2 : ((k - 1 : Nat) : Int) / 2 = (p : Int) := by omega
      by_cases hlt : elt ek ep = true
      · rw [hlt] at hlc
        have HN : Hid (∀ n, M.HpU elt (M.sw G p k) H.length p ∧ M.Mv H.length H (M.sw G p k) ∧ Hq w0 x v (wr.drewN n) G) := fun n => by
          refine ⟨?_, hmv.trans (M.sw_mv (by omega) hk (by omega)), hG.drewN n⟩
          have := HU.out.up elt_tr elt_asy hgl.symm (by omega) hk hek (by rw [hp]; exact hep) hlt
          rw [hp] at this
          exact this
        clear h hU hlt
        go_wp2_with fail
        refine hlc.mono ?_
        rintro e w1 ⟨rfl, n, rfl⟩
        have hm2 := meth_swap (HN.out n).2.2.vx.1
        have hsw := swap_any (HN.out n).2.2 (i := p) (j := k) (by omega) (by omega)
        go_wp2_with fail
        refine hsw.mono ?_
        rintro e w2 ⟨⟨u, rfl⟩, hG2, hc2⟩
        go_wp2_with fail
        exact ⟨⟨p, M.sw G p k, by omega, rfl, hG2, (HN.out 0).2.1, (HN.out 0).1, (hch.trans ((Chg.of_below (Below.dN wr n)).mono (fun b h1 h2 => by omega))).trans (hc2.mono (fun b _ q => .inl q))⟩, by simp [intOf]; omega⟩
      · have hlf : elt ek ep = false := by simpa using hlt
        rw [hlf] at hlc
        have HN : Hid (M.Hp elt G H.length) := HU.out.ok hek (by rw [hp]; exact hep) hlf
        clear h hU hlt hlf
        go_wp2_with fail
        refine hlc.mono ?_
        rintro e w1 ⟨rfl, n, rfl⟩
        go_wp2_with fail
        go_end0
        exact ⟨⟨_, rfl⟩, G, hG.drewN n, hmv, HN.out, hch.trans ((Chg.of_below (Below.dN wr n)).mono (fun b h1 h2 => by omega))⟩
end
end Go.Proofs.Ytdaedglfefkeoaa

/- container/heap's down over the heap of runs. -/
namespace Go.Proofs.Ytdaedglfefkeoaa
open Go.RowKit
set_option linter.unusedVariables false
set_option maxRecDepth 100000

section
variable {w0 : World} {x : Nat} {v : Value} {w w' : World} {H : List HE}
set_option maxHeartbeats 2000000 in
theorem down_any (h : Hq w0 x v w H) {i0 n : Nat} (hn : n ≤ H.length) (hi : i0 ≤ n) (hlen : H.length ≤ 1099511627776) (hD : M.HpD elt H n i0) :
    Calls Try.prog 69 #[.iface 102 (.pointer (some ⟨x, 0, none⟩)), .int .i64 i0, .int .i64 n] w fun e w' => (∃ b, e = .returned (.bool b)) ∧ ∃ H', Hq w0 x v w' H' ∧ M.Mv n H H' ∧ M.Hp elt H' n ∧ Chg (fun b => v.ownBlock = some b) w w' := by
  have hHl : H.length ≤ 1099511627776 := hlen
  go_enter Try.func69, Try.ntmps69
  go_wp2_with fail
  go_loopw [7, 8, 9, 10] (fun is _ _ _ wr => ∃ (k : Nat) (G : List HE), k ≤ n ∧ is = .int .i64 k ∧ Hq w0 x v wr G ∧ M.Mv n H G ∧ Hid (M.HpD elt G n k) ∧ Chg (fun b => v.ownBlock = some b) w wr) (fun is _ _ _ _ => n - (intOf is).toNat)
  case atStart => exact ⟨i0, H, hi, rfl, h, M.Mv.refl _ _, hD, Chg.refl _ _⟩
  case round =>
    obtain ⟨k, G, hk, rfl, hG, hmv, HU, hch⟩ := hrel
    obtain ⟨j1, hj1⟩ : ∃ j, 2 * k + 1 = j := ⟨_, rfl⟩
    obtain ⟨j2, hj2⟩ : ∃ j, 2 * k + 2 = j := ⟨_, rfl⟩
    have hw1 : IntKind.i64.wrap (2 * (k : Int)) = 2 * (k : Int) := by rw [IntKind.wrap_i64]; omega
    have hw2 : IntKind.i64.wrap (2 * (k : Int) + 1) = (j1 : Int) := by rw [IntKind.wrap_i64]; omega
    have hw3 : IntKind.i64.wrap ((j1 : Int) + 1) = (j2 : Int) := by rw [IntKind.wrap_i64]; omega
    have hgl : G.length = H.length := hmv.1
    have hch' : ∀ m, Chg (fun b => v.ownBlock = some b) w (wr.drewN m) := fun m => hch.trans ((Chg.of_below (Below.dN wr m)).mono (fun b h1 h2 => by omega))
    clear h hD
    by_cases h1 : j1 < n
    · obtain ⟨e1, he1⟩ : ∃ e, G[j1]? = some e := ⟨_, List.getElem?_eq_getElem (by omega)⟩
      obtain ⟨ek, hek⟩ : ∃ e, G[k]? = some e := ⟨_, List.getElem?_eq_getElem (by omega)⟩
      have hm := meth_less hG.vx.1
      have g1 : ¬ (n : Int) ≤ (j1 : Int) := by omega
      have g2 : ¬ (j1 : Int) < 0 := by omega
      by_cases h2 : j2 < n
      · obtain ⟨e2, he2⟩ : ∃ e, G[j2]? = some e := ⟨_, List.getElem?_eq_getElem (by omega)⟩
        have g3 : (j2 : Int) < (n : Int) := by omega
        have hl2 := less_any hG he2 he1
        by_cases hlt : elt e2 e1 = true
        · rw [hlt] at hl2
          go_wp2_with fail
          refine hl2.mono ?_
          rintro e w1 ⟨rfl, m1, rfl⟩
          have hc : ∀ q a, 0 < q → q < n → (q - 1) / 2 = k → G[q]? = some a → elt a e2 = false := fun q a q1 q2 q3 hq => by
              rcases (show q = j1 ∨ q = j2 by omega) with r | r
              · subst r; rw [he1] at hq; obtain rfl := Option.some.inj hq; exact elt_asy _ _ hlt
              · subst r; rw [he2] at hq; obtain rfl := Option.some.inj hq; exact elt_irr _
          have hlc := less_any (hG.drewN m1) he2 hek
          by_cases hlt3 : elt e2 ek = true
          · rw [hlt3] at hlc
            have HN : Hid (M.HpD elt (M.sw G k j2) n j2 ∧ M.Mv n H (M.sw G k j2)) := ⟨HU.out.down elt_asy (by omega) (by omega) (by omega) (by omega) hek he2 hc hlt3, hmv.trans (M.sw_mv (by omega) (by omega) (by omega))⟩
            have hm3 := meth_less (hG.drewN m1).vx.1
            clear hlt3 hc hlt
            go_wp2_with fail
            refine hlc.mono ?_
            rintro e w2 ⟨rfl, m2, rfl⟩
            have hG2 := hG.drewN (m1 + m2)
            have hm2 := meth_swap hG2.vx.1
            have hsw := swap_any hG2 (i := k) (j := j2) (by omega) (by omega)
            go_wp2_with fail
            refine hsw.mono ?_
            rintro e w3 ⟨⟨u, rfl⟩, hG3, hc3⟩
            go_wp2_with fail
            exact ⟨⟨j2, M.sw G k j2, by omega, rfl, hG3, HN.out.2, HN.out.1, (hch' (m1 + m2)).trans (hc3.mono (fun b _ q => .inl q))⟩, by simp [intOf]; omega⟩
          · have hlf : elt e2 ek = false := by simpa using hlt3
            rw [hlf] at hlc
            have HN : Hid (M.Hp elt G n) := HU.out.ok elt_tr hek he2 hc hlf
            have hm3 := meth_less (hG.drewN m1).vx.1
            clear hlt3 hlf hc hlt
            go_wp2_with fail
            refine hlc.mono ?_
            rintro e w2 ⟨rfl, m2, rfl⟩
            go_wp2_with fail
            go_ret
            exact ⟨⟨_, rfl⟩, G, hG.drewN (m1 + m2), hmv, HN.out, hch' (m1 + m2)⟩
        · have hlf2 : elt e2 e1 = false := by simpa using hlt
          rw [hlf2] at hl2
          go_wp2_with fail
          refine hl2.mono ?_
          rintro e w1 ⟨rfl, m1, rfl⟩
          have hc : ∀ q a, 0 < q → q < n → (q - 1) / 2 = k → G[q]? = some a → elt a e1 = false := fun q a q1 q2 q3 hq => by
              rcases (show q = j1 ∨ q = j2 by omega) with r | r
              · subst r; rw [he1] at hq; obtain rfl := Option.some.inj hq; exact elt_irr _
              · subst r; rw [he2] at hq; obtain rfl := Option.some.inj hq; exact hlf2
          have hlc := less_any (hG.drewN m1) he1 hek
          by_cases hlt3 : elt e1 ek = true
          · rw [hlt3] at hlc
            have HN : Hid (M.HpD elt (M.sw G k j1) n j1 ∧ M.Mv n H (M.sw G k j1)) := ⟨HU.out.down elt_asy (by omega) (by omega) (by omega) (by omega) hek he1 hc hlt3, hmv.trans (M.sw_mv (by omega) (by omega) (by omega))⟩
            have hm3 := meth_less (hG.drewN m1).vx.1
            clear hlt3 hc hlt
            clear hlf2
            go_wp2_with fail
            refine hlc.mono ?_
            rintro e w2 ⟨rfl, m2, rfl⟩
            have hG2 := hG.drewN (m1 + m2)
            have hm2 := meth_swap hG2.vx.1
            have hsw := swap_any hG2 (i := k) (j := j1) (by omega) (by omega)
            go_wp2_with fail
            refine hsw.mono ?_
            rintro e w3 ⟨⟨u, rfl⟩, hG3, hc3⟩
            go_wp2_with fail
            exact ⟨⟨j1, M.sw G k j1, by omega, rfl, hG3, HN.out.2, HN.out.1, (hch' (m1 + m2)).trans (hc3.mono (fun b _ q => .inl q))⟩, by simp [intOf]; omega⟩
          · have hlf : elt e1 ek = false := by simpa using hlt3
            rw [hlf] at hlc
            have HN : Hid (M.Hp elt G n) := HU.out.ok elt_tr hek he1 hc hlf
            have hm3 := meth_less (hG.drewN m1).vx.1
            clear hlt3 hlf hc hlt
            clear hlf2
            go_wp2_with fail
            refine hlc.mono ?_
            rintro e w2 ⟨rfl, m2, rfl⟩
            go_wp2_with fail
            go_ret
            exact ⟨⟨_, rfl⟩, G, hG.drewN (m1 + m2), hmv, HN.out, hch' (m1 + m2)⟩
      · have g3 : ¬ (j2 : Int) < (n : Int) := by omega
        have hlt : True := trivial
        have hc : ∀ q a, 0 < q → q < n → (q - 1) / 2 = k → G[q]? = some a → elt a e1 = false := fun q a q1 q2 q3 hq => by
            obtain rfl : q = j1 := by omega
            rw [he1] at hq; obtain rfl := Option.some.inj hq; exact elt_irr _
        have hlc := less_any hG he1 hek
        by_cases hlt3 : elt e1 ek = true
        · rw [hlt3] at hlc
          have HN : Hid (M.HpD elt (M.sw G k j1) n j1 ∧ M.Mv n H (M.sw G k j1)) := ⟨HU.out.down elt_asy (by omega) (by omega) (by omega) (by omega) hek he1 hc hlt3, hmv.trans (M.sw_mv (by omega) (by omega) (by omega))⟩
          have hm3 := meth_less hG.vx.1
          clear hlt3 hc hlt
          go_wp2_with fail
          refine hlc.mono ?_
          rintro e w2 ⟨rfl, m2, rfl⟩
          have hG2 := hG.drewN m2
          have hm2 := meth_swap hG2.vx.1
          have hsw := swap_any hG2 (i := k) (j := j1) (by omega) (by omega)
          go_wp2_with fail
          refine hsw.mono ?_
          rintro e w3 ⟨⟨u, rfl⟩, hG3, hc3⟩
          go_wp2_with fail
          exact ⟨⟨j1, M.sw G k j1, by omega, rfl, hG3, HN.out.2, HN.out.1, (hch' m2).trans (hc3.mono (fun b _ q => .inl q))⟩, by simp [intOf]; omega⟩
        · have hlf : elt e1 ek = false := by simpa using hlt3
          rw [hlf] at hlc
          have HN : Hid (M.Hp elt G n) := HU.out.ok elt_tr hek he1 hc hlf
          have hm3 := meth_less hG.vx.1
          clear hlt3 hlf hc hlt
          go_wp2_with fail
          refine hlc.mono ?_
          rintro e w2 ⟨rfl, m2, rfl⟩
          go_wp2_with fail
          go_ret
          exact ⟨⟨_, rfl⟩, G, hG.drewN m2, hmv, HN.out, hch' m2⟩
    · have g1 : (n : Int) ≤ (j1 : Int) := by omega
      have HF : Hid _ := HU.out.none (by omega)
      go_wp2_with fail
      go_ret
      exact ⟨⟨_, rfl⟩, G, hG, hmv, HF.out, hch⟩
end
end Go.Proofs.Ytdaedglfefkeoaa

/- The heap's own Pop and Len; container/heap's Push, Pop and Fix over it. -/
namespace Go.Proofs.Ytdaedglfefkeoaa
open Go.RowKit
set_option linter.unusedVariables false
set_option maxRecDepth 100000

namespace M
theorem Hp.pop {α : Type} {lt : α → α → Bool} {H : List α} {n : Nat} (h : Hp lt H H.length) (hn : H.length = n + 1) : HpD lt (sw H 0 n) n 0 := by
  refine Hp.d0 (fun i x y h1 h2 h3 hx hy => ?_)
  rw [sw_at (by omega) (by omega), if_neg (by omega), if_neg (by omega)] at hx hy
  exact h i x y h1 (by omega) hx hy
theorem Hp.over {α : Type} {lt : α → α → Bool} {H : List α} (h : Hp lt H H.length) (e : α) : HpD lt (H.set 0 e) (H.set 0 e).length 0 := by
  refine Hp.d0 (fun i x y h1 h2 h3 hx hy => ?_)
  rw [List.length_set] at h2
  rw [List.getElem?_set_ne (by omega)] at hx hy
  exact h i x y h1 h2 hx hy
end M

section
variable {w0 : World} {x : Nat} {v : Value} {w w' : World} {H : List HE}
theorem hlen_any (h : Hq w0 x v w H) : Calls Try.prog 87 #[v] w fun e w' => e = .returned (.int .i64 (H.length : Int)) ∧ w' = w := by
  obtain ⟨a, c, rfl, _⟩ := row_reads h.row
  clear h
  go_enter Try.func87, Try.ntmps87
  go_wp2_with fail
  go_ret
  exact ⟨rfl, rfl⟩

set_option maxHeartbeats 1000000 in
theorem pop1_any (h : Hq w0 x v w H) {n : Nat} (hn : H.length = n + 1) :
    Calls Try.prog 90 #[.pointer (some ⟨x, 0, none⟩)] w fun r w' => (∃ u, r = .returned u) ∧ ∃ v', Hq w0 x v' w' (H.take n) ∧ v'.ownBlock = v.ownBlock ∧ Chg (fun b => b = x) w w' := by
  obtain ⟨e, he⟩ : ∃ e, H[n]? = some e := ⟨_, List.getElem?_eq_getElem (by omega)⟩
  obtain ⟨g, c, rfl, h1, h2, hi, a0, a1, ra, fr, na, ba⟩ := h.at_ he
  unfold maxLen at h2
  obtain ⟨vx, fx⟩ := h.vx
  have fx0 := fx 0
  have hxl := h.xlt
  obtain ⟨_, _, ee, _⟩ := ra
  obtain ⟨u, l, i⟩ := e
  simp only [] at *
  subst ee
  have HP : Hid _ := fun o => (h.take (m := n) (by omega)).below (bel_al _ o) (Nat.le_refl _)
  have hch : Hid (∀ o u, Chg (fun b => b = x) w ((w.setCell ⟨x, 0, none⟩ u).alloc o)) := fun o u => ((Chg.refl (fun b => b = x) w).put x 0 u rfl).alloc o
  have hni : IntKind.i64.wrap ((H.length : Int) - 1) = (n : Int) := by rw [IntKind.wrap_i64]; omega
  have hn1 : (n : Int) < (H.length : Int) := by omega
  have hn2 : (n : Int) ≤ (c : Int) := by omega
  have hn3 : (H.length : Int) ≤ (c : Int) := by omega
  have hxn : x ≠ w.heap.size := by omega
  generalize H.length = nn at *
  clear h he h1 hn
  go_enter Try.func90, Try.ntmps90
  go_wp2_with fail
  go_ret
  exact ⟨⟨_, rfl⟩, .slice (some ⟨g, 0, none⟩) n c, HP.out _, rfl, hch.out _ _⟩

set_option maxHeartbeats 1000000 in
theorem hpush_any (h : Hq w0 x v w H) (hH : M.Hp elt H H.length) {e : HE} (he : RdQ w0 e.1 e.2.1 ∧ e.2.1 ≠ [] ∧ e.2.2 ≤ 1099511627776) (hlen : H.length + 1 ≤ 1099511627776) :
    Calls Try.prog 63 #[.iface 102 (.pointer (some ⟨x, 0, none⟩)), .iface 85 (.agg #[e.1, .int .i64 (e.2.2 : Int)])] w fun r w' => (∃ u, r = .returned u) ∧ ∃ v' H', Hq w0 x v' w' H' ∧ H'.length = H.length + 1 ∧ H'.Perm (H ++ [e]) ∧ M.Hp elt H' H'.length := by
  have hpu := push1_any h he hlen
  have hU := hH.push e
  have hm1 := meth_push (w := w) (x := x)
  clear h hH he
  go_enter Try.func63, Try.ntmps63
  go_wp2_with fail
  refine hpu.mono ?_
  rintro r w1 ⟨⟨u, rfl⟩, v1, h1⟩
  have hm2 := meth_len h1.vx.1
  have hle := hlen_any h1
  have hup := up_any h1 (j := H.length) (by simp) hU
  have hln : (H ++ [e]).length = H.length + 1 := by simp
  rw [hln] at hle
  have hni : IntKind.i64.wrap (((H.length + 1 : Nat) : Int) - 1) = (H.length : Int) := by rw [IntKind.wrap_i64]; omega
  clear hU hpu
  go_wp2_with fail
  refine hle.mono ?_
  rintro r w2 ⟨rfl, rfl⟩
  go_wp2_with fail
  refine hup.mono ?_
  rintro r w3 ⟨⟨u, rfl⟩, H', h3, hmv, hH', hc⟩
  go_wp2_with fail
  go_end0
  refine ⟨⟨_, rfl⟩, v1, H', h3, by rw [hmv.1, hln], ?_, by rw [hmv.1]; exact hH'⟩
  have := hmv.2.1
  rwa [List.take_of_length_le (by rw [hmv.1]; exact Nat.le_refl _), List.take_of_length_le (Nat.le_refl _)] at this

set_option maxHeartbeats 1000000 in
theorem hpop_any (h : Hq w0 x v w H) (hH : M.Hp elt H H.length) (hp : 0 < H.length) (hlen : H.length ≤ 1099511627776) :
    Calls Try.prog 64 #[.iface 102 (.pointer (some ⟨x, 0, none⟩))] w fun r w' => (∃ u, r = .returned u) ∧ ∃ v' H', Hq w0 x v' w' H' ∧ v'.ownBlock = v.ownBlock ∧ H'.length + 1 = H.length ∧ H'.Perm H.tail ∧ M.Hp elt H' H'.length ∧ Chg (fun b => b = x ∨ v.ownBlock = some b) w w' := by
  obtain ⟨n, hn⟩ : ∃ n, H.length = n + 1 := ⟨H.length - 1, by omega⟩
  have hle := hlen_any h
  have hm1 := meth_len h.vx.1
  have hm2 := meth_swap h.vx.1
  have hsw := swap_any h (i := 0) (j := n) (by omega) (by omega)
  have hni : IntKind.i64.wrap ((H.length : Int) - 1) = (n : Int) := by rw [IntKind.wrap_i64]; omega
  go_enter Try.func64, Try.ntmps64
  go_wp2_with fail
  refine hle.mono ?_
  rintro r w2 ⟨rfl, rfl⟩
  go_wp2_with fail
  refine hsw.mono ?_
  rintro r w3 ⟨⟨u, rfl⟩, h3, hc3⟩
  have hdn := down_any h3 (i0 := 0) (n := n) (by rw [M.sw_len]; omega) (Nat.zero_le _) (by rw [M.sw_len]; exact hlen) (hH.pop hn)
  clear hle hm1 hm2 hsw
  go_wp2_with fail
  refine hdn.mono ?_
  rintro r w4 ⟨⟨b, rfl⟩, H', h4, hmv, hH', hc4⟩
  have hl4 : H'.length = n + 1 := by rw [hmv.1, M.sw_len]; exact hn
  have hm4 := meth_pop (w := w4) (x := x)
  have hpp := pop1_any h4 hl4
  clear hdn
  go_wp2_with fail
  refine hpp.mono ?_
  rintro r w5 ⟨⟨u5, rfl⟩, v5, h5, hv5, hc5⟩
  go_wp2_with fail
  go_ret
  have hlt : (H'.take n).length = n := by simp; omega
  refine ⟨⟨_, rfl⟩, v5, H'.take n, h5, hv5, by omega, hmv.2.1.trans (M.sw_top hn), ?_, ?_⟩
  · intro i a b i1 i2 ha hb
    rw [hlt] at i2
    rw [List.getElem?_take, if_pos i2] at ha
    rw [List.getElem?_take, if_pos (by omega)] at hb
    exact hH' i a b i1 i2 ha hb
  · exact ((hc3.mono (fun b _ q => Or.inr q)).trans (hc4.mono (fun b _ q => Or.inl (Or.inr q)))).trans (hc5.mono (fun b _ q => Or.inl (Or.inl q)))

set_option maxHeartbeats 1000000 in
theorem hfix_any (h : Hq w0 x v w H) (hp : 0 < H.length) (hlen : H.length ≤ 1099511627776) (hD : M.HpD elt H H.length 0) :
    Calls Try.prog 65 #[.iface 102 (.pointer (some ⟨x, 0, none⟩)), .int .i64 0] w fun r w' => (∃ u, r = .returned u) ∧ ∃ H', Hq w0 x v w' H' ∧ H'.length = H.length ∧ H'.Perm H ∧ M.Hp elt H' H'.length ∧ Chg (fun b => v.ownBlock = some b) w w' := by
  have hle := hlen_any h
  have hm1 := meth_len h.vx.1
  have hdn := down_any h (i0 := 0) (n := H.length) (Nat.le_refl _) (Nat.zero_le _) hlen hD
  have mem : ∀ (A B : List HE), M.Mv H.length A B → A.length = H.length → B.length = H.length → B.Perm A := fun A B hm e1 e2 => by
    have := hm.2.1
    rwa [List.take_of_length_le (by omega), List.take_of_length_le (by omega)] at this
  have HM : Hid _ := mem
  clear mem
  go_enter Try.func65, Try.ntmps65
  go_wp2_with fail
  refine hle.mono ?_
  rintro r w2 ⟨rfl, rfl⟩
  go_wp2_with fail
  refine hdn.mono ?_
  rintro r w4 ⟨⟨b, rfl⟩, H', h4, hmv, hH', hc4⟩
  have hl4 : H'.length = H.length := hmv.1
  have HE4 : Hid _ := HM.out H H' hmv rfl hl4
  clear hle hm1 hdn
  cases b with
  | true =>
    go_wp2_with fail
    go_end0
    exact ⟨⟨_, rfl⟩, H', h4, hl4, HE4.out, by rw [hl4]; exact hH', hc4⟩
  | false =>
    have hup := up_any h4 (j := 0) (by omega) (by rw [hl4]; exact hH'.u0)
    go_wp2_with fail
    refine hup.mono ?_
    rintro r w5 ⟨⟨u, rfl⟩, H5, h5, hmv5, hH5, hc5⟩
    have hl5 : H5.length = H'.length := hmv5.1
    go_wp2_with fail
    go_end0
    refine ⟨⟨_, rfl⟩, H5, h5, by omega, ?_, by rw [hl5]; exact hH5, hc4.trans (hc5.mono (fun b _ q => .inl q))⟩
    rw [hl4] at hmv5
    exact (HM.out H' H5 hmv5 hl4 (by omega)).trans HE4.out
end
end Go.Proofs.Ytdaedglfefkeoaa
