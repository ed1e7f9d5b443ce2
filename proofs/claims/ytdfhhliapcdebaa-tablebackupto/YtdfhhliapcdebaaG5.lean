/- What awake answers: true. And Len. -/
import Derived.Test.YtdfhhliapcdebaaG4
import Derived.Lib.SlBytesConst
import Derived.Test.YtdfhhliapcdebaaG3
import Derived.Test.YtdfhhliapcdebaaG1
import Derived.Test.YtdfhhliapcdebaaG2
namespace Go.Proofs.Ytdfhhliapcdebaa
open Go.RowKit
set_option linter.unusedVariables false
set_option maxRecDepth 100000

theorem tlen_any {w : World} {t : Value} {ps : List P3} (h : Tbl w t ps) : Calls Try.prog 21 #[t] w fun e w' => e = .returned (.int .i64 ps.length) ∧ w' = w := by
  obtain ⟨b, sv, rfl, hc, hq⟩ := h
  obtain ⟨ao, c, rfl, _⟩ := hq
  go_enter Try.func21, Try.ntmps21
  go_wp2_with fail
  go_ret
  exact ⟨rfl, rfl⟩

/-- Two pairs in a new block. -/
theorem rdq_two (w : World) (H : Nat) (hH : w.heap.size = H) {x y x' y' : Value} {p q : P3} (t : TypeId) (h1 : Rd w x p.1) (h2 : Rd w y p.2.1) (h3 : Rd w x' q.1) (h4 : Rd w y' q.2.1) : RdQ (w.alloc (.cells #[x, y, .bool p.2.2, x', y', .bool q.2.2] t)) (.slice (some ⟨H, 0, none⟩) 2 2) [p, q] := by
  subst hH
  have hb := bel_al w (.cells #[x, y, .bool p.2.2, x', y', .bool q.2.2] t)
  have hc : ∀ j u, #[x, y, .bool p.2.2, x', y', .bool q.2.2][j]? = some u → (w.alloc (.cells #[x, y, .bool p.2.2, x', y', .bool q.2.2] t)).cell? ⟨w.heap.size, j, none⟩ = some u := fun j u e => by
    rw [World.cell?_alloc_at _ _ _ _ rfl]; exact e
  refine ⟨some ⟨w.heap.size, 0, none⟩, 2, rfl, by simp, by simp [maxLen], fun i r hi => ?_⟩
  match i with
  | 0 =>
    simp at hi; subst hi
    exact ⟨⟨w.heap.size, 0, none⟩, x, y, rfl, hc 0 x rfl, hc 1 y rfl, hc 2 _ rfl, h1.below hb (Nat.le_refl _), h2.below hb (Nat.le_refl _)⟩
  | 1 =>
    simp at hi; subst hi
    exact ⟨⟨w.heap.size, 0, none⟩, x', y', rfl, hc 3 x' rfl, hc 4 y' rfl, hc 5 _ rfl, h3.below hb (Nat.le_refl _), h4.below hb (Nat.le_refl _)⟩
  | i + 2 => simp at hi

theorem tab_len (ps : List P3) : (M.tab ps).length ≤ 30 * totP ps + 40 := by
  have h1 := row_tot ps
  have h2 := vi_len (M.row (ps.map M.prow)).length
  have h3 := M.be_length 4 (M.crc (M.row (ps.map M.prow)))
  simp only [M.tab, M.frame, List.length_append]
  omega
/-- What is built is opened as just that. -/
theorem opn_tab (ps : List P3) (hr : M.ris ps = true) (hl : totP ps ≤ 4194304) : M.opn (M.tab ps) = some ps := by
  have h1 := row_tot ps
  have hpl := totP_len ps
  have e1 : M.tf (M.tab ps) = (M.row (ps.map M.prow), [], 0) := by
    have := M.tf_back (M.row (ps.map M.prow)) [] (by omega)
    rwa [List.append_nil] at this
  have e2 : M.tr (M.row (ps.map M.prow)) = (ps.map M.prow, 0) := M.tr_row _ (by simp; omega) (fun f hf => by
    obtain ⟨p, hp, rfl⟩ := List.mem_map.1 hf
    have := prow_len p
    have := totP_mem ps p hp
    omega)
  unfold M.opn
  rw [e1]
  simp only []
  rw [e2]
  simp only []
  rw [if_pos ⟨trivial, trivial, trivial⟩, M.allP_back ps (fun p hp => by have := totP_mem ps p hp; omega)]
  simp [M.keepR, hr]

theorem conv_at (w : World) (C : Array Value) (n c g : Nat) (hg : g = w.heap.size) : (convert 25 25 (.slice (some ⟨g, 0, none⟩) n c)).run Try.prog (w.alloc (.cells C 5)) = .ok (.slice (some ⟨g, 0, none⟩) n c) (w.alloc (.cells C 5 (C.size, C.size + 1))) := by
  subst hg; exact Lib.run_convert_bytes_const (P := Try.prog) w 25 5 C n c Try.underlying25 Try.underlying5
theorem rd_litH (w : World) (H : Nat) (hH : w.heap.size = H) (b : UInt8) (z : Int) (hz : z = (b.toNat : Int)) (fr : Nat × Nat) (t : TypeId) : Rd (w.alloc (.cells #[.int .u8 z] t fr)) (.slice (some ⟨H, 0, none⟩) 1 1) [b] := by
  subst hH
  subst hz
  refine Rd.mk rfl (by simp) (by simp [maxLen]) (fun i hi => ?_)
  obtain rfl : i = 0 := by simpa using hi
  have e : (w.alloc (.cells #[.int .u8 (b.toNat : Int)] t fr)).heap[w.heap.size]? = some (.cells #[.int .u8 (b.toNat : Int)] t fr) := by
    show (w.heap.push _)[w.heap.size]? = _
    simp
  rw [add_zero, cell_of_row _ _ _ _ _ _ e]
  rfl

set_option maxHeartbeats 1000000 in
theorem tawake_any (w : World) : Calls Try.prog 9 #[] w fun e w' => e = .returned (.bool true) ∧ Below w.heap.size w w' := by
  have hbld : M.bld [([97], [49], false), ([98], [], true)] = (M.tab [([97], [49], false), ([98], [], true)], 0) := by
    unfold M.bld; rw [if_pos (by decide)]
  have hop := opn_tab [([97], [49], false), ([98], [], true)] (by decide) (by decide)
  have hlen := tab_len [([97], [49], false), ([98], [], true)]
  have htot : totP [([97], [49], false), ([98], [], true)] = 9 := by decide
  rw [htot] at hlen
  have HB : Hid _ := And.intro hbld (And.intro hop hlen)
  clear hbld hop hlen htot
  have kc := conv_at
  go_enter Try.func9, Try.ntmps9
  go_wp2_with fail
  refine (build_any (ps := [([97], [49], false), ([98], [], true)]) (rdq_two _ _ (by simp) (p := ([97], [49], false)) (q := ([98], [], true)) _ (((rd_litH w _ rfl 97 _ rfl _ _).alloc _).alloc _) ((rd_litH _ _ (by simp) 49 _ rfl _ _).alloc _) (rd_litH _ _ (by simp) 98 _ rfl _ _) (Rd.nil _)) (by decide)).mono ?_
  rintro e w1 ⟨v1, rfl, ho1, hb1⟩
  have hB1 : Below w.heap.size w w1 := Below.tr (Below.tr (Below.tr (Below.tr (bel_al w _) (bel_al _ _)) (bel_al _ _)) (bel_al _ _)) hb1
  have ho2 := ho1.rd
  rw [HB.out.1] at ho2 ⊢
  clear ho1 hb1 kc
  simp only [] at ho2
  have hop := HB.out.2.1
  have hln := HB.out.2.2
  have HC : Hid _ := hop
  clear hop
  generalize hTL : M.tab [([97], [49], false), ([98], [], true)] = TL at *
  have ho3 := ho2
  obtain ⟨a1, d1, rfl, _⟩ := ho2
  go_wp2_with fail
  refine (open_any ho3 (by omega)).mono ?_
  rintro e w2 ⟨hor, hb2⟩
  rcases hor with ⟨ps, t, hps, rfl, ht⟩ | ⟨hno, _⟩
  · rw [HC.out] at hps
    obtain rfl := Option.some.inj hps
    have hln := tlen_any ht
    obtain ⟨b, sv, rfl, hc, hq⟩ := ht
    go_wp2_with fail
    refine hln.mono ?_
    rintro e w3 ⟨rfl, rfl⟩
    go_wp2_with fail
    go_ret
    exact ⟨rfl, hB1.trans (hb2.mono hB1.size)⟩
  · rw [HC.out] at hno; cases hno
end Go.Proofs.Ytdfhhliapcdebaa

/- What Get and Range answer of a table. -/
namespace Go.Proofs.Ytdfhhliapcdebaa
open Go.RowKit
set_option linter.unusedVariables false
set_option maxRecDepth 100000

/-- The pairs from a key on that are below another one. -/
def rng (ps : List P3) (fr till : List UInt8) : List P3 := (ps.take (if till.length = 0 then ps.length else M.plK ps till)).drop (M.plK ps fr)
/-- The pair with that key. -/
def getK (ps : List P3) (key : List UInt8) : Option P3 := if M.isK ps key then ps[M.plK ps key]? else none

/-- One pair more, whose slices are new. -/
theorem OwQ.snocE {B : Nat} {w w1 w3 w4 : World} {v v' : Value} {ps : List P3} {us : List V3} {u : V3} {p : P3} (h : OwQ B w v ps us) (h1 : Below w.heap.size w w1) (h3 : Below w1.heap.size w1 w3) (hu : El3 w.heap.size w1 u p) (hB : B ≤ w.heap.size)
    (hrow : w4.ownsRow B 48 3 v' (us ++ [u]).length (q3s (us ++ [u]))) (hg : w3.grownBy w4 v.ownBlock) (hv : v'.ownBlock = v.ownBlock ∨ v'.ownBlock = some w3.heap.size) : OwQ B w4 v' (ps ++ [p]) (us ++ [u]) := by
  refine (h.below (Below.tr h1 h3) (Nat.le_refl _)).app rfl ?_ ?_ hrow hg hv
  · intro i x q e1 e2
    cases i with
    | zero => simp at e1 e2; subst e1; subst e2; exact (hu.below h3 (Nat.le_refl _)).mono hB
    | succ i => simp at e1
  · intro x hx b hb q
    obtain rfl := List.mem_singleton.1 hx
    have l1 := (World.ownsRow.lt h.row b q).2
    have := (hu.lt hb).1
    omega

theorem rng_snoc (ps : List P3) (f k : Nat) (p : P3) (hk : ps[k]? = some p) (hf : f ≤ k) : (ps.take (k + 1)).drop f = (ps.take k).drop f ++ [p] := by
  have hl := (List.getElem?_eq_some_iff.1 hk).1
  rw [take_snocP ps k p hk, List.drop_append_of_le_length (by simp; omega)]

set_option maxHeartbeats 2000000 in
theorem range_any {t fv tv : Value} {ps : List P3} {fr till : List UInt8} {w : World} (h : Tbl w t ps) (hf : Rd w fv fr) (ht : Rd w tv till) (hU : M.ris ps = true) (hl : totP ps ≤ 4194304) :
    Calls Try.prog 20 #[t, fv, tv] w fun e w' => ∃ v' us, e = .returned v' ∧ OwQ w.heap.size w' v' (rng ps fr till) us ∧ Below w.heap.size w w' := by
  have hpl := totP_len ps
  have p1 := fun W (hW : Below w.heap.size w W) => place_any (h.below hW (Nat.le_refl _)) (hf.below hW (Nat.le_refl _)) hU (by omega)
  have p2 := fun W (hW : Below w.heap.size w W) => place_any (h.below hW (Nat.le_refl _)) (ht.below hW (Nat.le_refl _)) hU (by omega)
  have hle := M.plK_le ps fr
  have hle2 := M.plK_le ps till
  have hch := fun W (hW : Below w.heap.size w W) => h.below hW (Nat.le_refl _)
  obtain ⟨b, sv, rfl, hc, hq⟩ := h
  have hcw : ∀ W, Below w.heap.size w W → W.cell? ⟨b, 0, none⟩ = some sv := fun W hW => by rw [hW.cell (World.block_lt_of_cell? _ _ hc)]; exact hc
  obtain ⟨ao, c, rfl, h1, h2, h4⟩ := hq
  unfold maxLen at h2
  obtain ⟨af, cf, rfl, _⟩ := hf
  obtain ⟨at_, ct, rfl, t1, t2, _⟩ := ht
  unfold maxLen at t2
  unfold rng
  generalize M.plK ps fr = f at *
  have HT : Hid (∃ g, g = (if till.length = 0 then ps.length else M.plK ps till) ∧ g ≤ ps.length) := ⟨_, rfl, by split <;> omega⟩
  obtain ⟨g, hg, hgl⟩ := HT.out
  rw [← hg]
  have tail : ∀ (ww : World), Below w.heap.size w ww → True := fun _ _ => trivial
  clear HT tail hch
  by_cases hte : till.length = 0
  · rw [if_pos hte] at hg
    subst hg
    have hte2 : ¬ 0 < till.length := by omega
    clear p2 hte
    go_enter Try.func20, Try.ntmps20
    go_wp2_with fail
    refine (p1 w (Below.refl _ _)).mono ?_
    rintro e w1 ⟨rfl, hb1⟩
    have c1 := hcw w1 hb1
    go_wp2_with fail
    go_loopw [10, 11] (fun out i wr => ∃ (k : Nat) (us : List V3), f ≤ k ∧ k ≤ ps.length ∧ (k ≤ ps.length ∨ k = f) ∧ i = .int .i64 k ∧ OwQ w.heap.size wr out ((ps.take k).drop f) us ∧ Below w.heap.size w wr) (fun _ i _ => ps.length - (intOf i).toNat)
    case atStart => exact ⟨f, [], Nat.le_refl _, hle, .inr rfl, rfl, by rw [List.drop_eq_nil_of_le (by simp; omega)]; exact OwQ.nil _ _, hb1⟩
    case round =>
      obtain ⟨k, us, hfk, hkl, hkg, rfl, ho, hb⟩ := hrel
      have hB := hb.size
      by_cases hlt : k < ps.length
      · obtain ⟨p, hp⟩ : ∃ p, ps[k]? = some p := ⟨_, List.getElem?_eq_getElem (by omega)⟩
        have hm := totP_mem ps p (List.mem_of_getElem? hp)
        obtain ⟨a, u1, u2, rfl, hpa⟩ := h4 k p hp
        have hpr := hpa.below hb (Nat.le_refl _)
        have c0 := hpr.c0
        have c1 := hpr.c1
        have c2 := hpr.c2
        have cb := hcw wr hb
        have hcp := copied_any (p := p) hpr.r1 hpr.r2 (by omega)
        have hul := ho.len
        rw [List.length_drop, List.length_take, Nat.min_eq_left (by omega)] at hul
        have HT : Hid _ := rng_snoc ps f k p hp hfk
        obtain ⟨x1, y1, rfl, _⟩ := hpr.r1
        obtain ⟨x2, y2, rfl, _⟩ := hpr.r2
        obtain ⟨pk, pv, pg⟩ := p
        simp only [] at *
        obtain ⟨xo, yo, hoe, _⟩ := ho.shape
        rw [List.length_drop, List.length_take, Nat.min_eq_left (by omega)] at hoe
        subst hoe
        have hi1 : (k : Int) < (ps.length : Int) := by omega
        have hnl : us.length + [((Value.slice none 0 0, Value.slice none 0 0, pg) : V3)].length ≤ 1099511627776 := by simp; omega
        clear h4 hpa hp hpr
        go_wp2_with fail
        refine hcp.mono ?_
        rintro e w3 ⟨u3, rfl, hE3, hb3⟩
        have hs3 := hb3.size
        obtain ⟨⟨q0, q1, q2, e0⟩, q3, q4, q5, e1⟩ := hE3.sl
        have hrw := ownsRow_belW (ownsRow_belW ho.row hb3 (Nat.le_refl _)) (bel_al w3 (.cells #[u3.1, u3.2.1, .bool u3.2.2] 48)) (Nat.le_refl _)
        have hrv := rdV_one w3 u3 hE3.sl (cs := #[u3.1, u3.2.1, .bool u3.2.2]) rfl 48
        obtain ⟨x0, x1', x2'⟩ := u3
        simp only [] at *
        subst e0
        subst e1
        go_wp2_with (first | (at_builtin; refine wpList_appQ rfl _ _ rfl w.heap.size (.slice xo (k - f) yo) us rfl hrw _ [(.slice q0 q1 q2, .slice q3 q4 q5, x2')] rfl hrv (by simp; omega) hnl ?_; intro v5 w5 ho5 hg5 hv5) | fail)
        refine ⟨⟨k + 1, us ++ [(.slice q0 q1 q2, .slice q3 q4 q5, x2')], by omega, by omega, .inl (by omega), by go_num, ?_, hb.trans (ho.grown (Below.tr hb3 (bel_al w3 _)) hB hg5)⟩, by simp [intOf]; omega⟩
        rw [HT.out]
        exact ho.snocE hb3 (bel_al w3 _) hE3 hB ho5 hg5 hv5
      · have hfin : (ps.take k).drop f = (ps.take ps.length).drop f := by
          rcases hkg with q | q
          · rw [show k = ps.length by omega]
          · rw [List.drop_eq_nil_of_le (by simp; omega), List.drop_eq_nil_of_le (by simp; omega)]
        rw [hfin] at ho
        clear h4 hfin
        go_wp2_with fail
        go_ret
        exact ⟨_, us, rfl, ho, hb⟩
  · rw [if_neg hte] at hg
    subst hg
    have hte2 : 0 < till.length := by omega
    clear hte
    go_enter Try.func20, Try.ntmps20
    go_wp2_with fail
    refine (p1 w (Below.refl _ _)).mono ?_
    rintro e w1 ⟨rfl, hb1⟩
    have c1 := hcw w1 hb1
    go_wp2_with fail
    refine (p2 w1 hb1).mono ?_
    rintro e w2 ⟨rfl, hb2⟩
    replace hb1 : Below w.heap.size w w2 := hb1.trans (hb2.mono hb1.size)
    clear c1
    generalize hgq : M.plK ps till = g at *
    have HG : Hid _ := hgq
    clear hgq
    go_wp2_with fail
    go_loopw [10, 11] (fun out i wr => ∃ (k : Nat) (us : List V3), f ≤ k ∧ k ≤ ps.length ∧ (k ≤ g ∨ k = f) ∧ i = .int .i64 k ∧ OwQ w.heap.size wr out ((ps.take k).drop f) us ∧ Below w.heap.size w wr) (fun _ i _ => ps.length - (intOf i).toNat)
    case atStart => exact ⟨f, [], Nat.le_refl _, hle, .inr rfl, rfl, by rw [List.drop_eq_nil_of_le (by simp; omega)]; exact OwQ.nil _ _, hb1⟩
    case round =>
      obtain ⟨k, us, hfk, hkl, hkg, rfl, ho, hb⟩ := hrel
      have hB := hb.size
      by_cases hlt : k < g
      · obtain ⟨p, hp⟩ : ∃ p, ps[k]? = some p := ⟨_, List.getElem?_eq_getElem (by omega)⟩
        have hm := totP_mem ps p (List.mem_of_getElem? hp)
        obtain ⟨a, u1, u2, rfl, hpa⟩ := h4 k p hp
        have hpr := hpa.below hb (Nat.le_refl _)
        have c0 := hpr.c0
        have c1 := hpr.c1
        have c2 := hpr.c2
        have cb := hcw wr hb
        have hcp := copied_any (p := p) hpr.r1 hpr.r2 (by omega)
        have hul := ho.len
        rw [List.length_drop, List.length_take, Nat.min_eq_left (by omega)] at hul
        have HT : Hid _ := rng_snoc ps f k p hp hfk
        obtain ⟨x1, y1, rfl, _⟩ := hpr.r1
        obtain ⟨x2, y2, rfl, _⟩ := hpr.r2
        obtain ⟨pk, pv, pg⟩ := p
        simp only [] at *
        obtain ⟨xo, yo, hoe, _⟩ := ho.shape
        rw [List.length_drop, List.length_take, Nat.min_eq_left (by omega)] at hoe
        subst hoe
        have hi1 : (k : Int) < (ps.length : Int) := by omega
        have hnl : us.length + [((Value.slice none 0 0, Value.slice none 0 0, pg) : V3)].length ≤ 1099511627776 := by simp; omega
        clear h4 hpa hp hpr
        go_wp2_with fail
        refine hcp.mono ?_
        rintro e w3 ⟨u3, rfl, hE3, hb3⟩
        have hs3 := hb3.size
        obtain ⟨⟨q0, q1, q2, e0⟩, q3, q4, q5, e1⟩ := hE3.sl
        have hrw := ownsRow_belW (ownsRow_belW ho.row hb3 (Nat.le_refl _)) (bel_al w3 (.cells #[u3.1, u3.2.1, .bool u3.2.2] 48)) (Nat.le_refl _)
        have hrv := rdV_one w3 u3 hE3.sl (cs := #[u3.1, u3.2.1, .bool u3.2.2]) rfl 48
        obtain ⟨x0, x1', x2'⟩ := u3
        simp only [] at *
        subst e0
        subst e1
        go_wp2_with (first | (at_builtin; refine wpList_appQ rfl _ _ rfl w.heap.size (.slice xo (k - f) yo) us rfl hrw _ [(.slice q0 q1 q2, .slice q3 q4 q5, x2')] rfl hrv (by simp; omega) hnl ?_; intro v5 w5 ho5 hg5 hv5) | fail)
        refine ⟨⟨k + 1, us ++ [(.slice q0 q1 q2, .slice q3 q4 q5, x2')], by omega, by omega, .inl (by omega), by go_num, ?_, hb.trans (ho.grown (Below.tr hb3 (bel_al w3 _)) hB hg5)⟩, by simp [intOf]; omega⟩
        rw [HT.out]
        exact ho.snocE hb3 (bel_al w3 _) hE3 hB ho5 hg5 hv5
      · have hfin : (ps.take k).drop f = (ps.take g).drop f := by
          rcases hkg with q | q
          · rw [show k = g by omega]
          · rw [List.drop_eq_nil_of_le (by simp; omega), List.drop_eq_nil_of_le (by simp; omega)]
        rw [hfin] at ho
        rw [← HG.out] at ho
        clear h4 hfin
        go_wp2_with fail
        go_ret
        exact ⟨_, us, rfl, ho, hb⟩

set_option maxHeartbeats 2000000 in
theorem get_any {t kv : Value} {ps : List P3} {key : List UInt8} {w : World} (h : Tbl w t ps) (hk : Rd w kv key) (hU : M.ris ps = true) (hl : totP ps ≤ 4194304) :
    Calls Try.prog 23 #[t, kv] w fun e w' => ∃ u : V3, e = .returned (.tuple #[.agg #[u.1, u.2.1, .bool u.2.2], .bool (getK ps key).isSome]) ∧ El3 w.heap.size w' u ((getK ps key).getD noP) ∧ Below w.heap.size w w' := by
  have hpl := totP_len ps
  have p1 := fun W (hW : Below w.heap.size w W) => place_any (h.below hW (Nat.le_refl _)) (hk.below hW (Nat.le_refl _)) hU (by omega)
  obtain ⟨b, sv, rfl, hc, hq⟩ := h
  have hcell : (w.alloc (.cells #[.slice none 0 0, .slice none 0 0, .bool false] 48)).heap[w.heap.size]? = some (.cells #[.slice none 0 0, .slice none 0 0, .bool false] 48 (0, 0)) := heap_alloc_new w _
  have hcw : ∀ W, Below w.heap.size w W → W.cell? ⟨b, 0, none⟩ = some sv := fun W hW => by rw [hW.cell (World.block_lt_of_cell? _ _ hc)]; exact hc
  obtain ⟨ao, c, rfl, h1, h2, h4⟩ := hq
  unfold maxLen at h2
  obtain ⟨ak, ck, rfl, _⟩ := hk
  by_cases hi : M.isK ps key = true
  · obtain ⟨p, hp⟩ : ∃ p, ps[M.plK ps key]? = some p := by
      unfold M.isK at hi
      split at hi
      · rename_i x e; exact ⟨x, e⟩
      · cases hi
    have hg : getK ps key = some p := by unfold getK; rw [if_pos hi, hp]
    rw [hg]
    rw [hi] at p1
    show Calls _ _ _ _ fun e w' => ∃ u : V3, e = .returned (.tuple #[.agg #[u.1, u.2.1, .bool u.2.2], .bool true]) ∧ El3 w.heap.size w' u p ∧ Below w.heap.size w w'
    have hm := totP_mem ps p (List.mem_of_getElem? hp)
    have hkl := (List.getElem?_eq_some_iff.1 hp).1
    generalize M.plK ps key = k at *
    obtain ⟨a, u1, u2, rfl, hpa⟩ := h4 k p hp
    have hpw := fun W (hW : Below w.heap.size w W) => hpa.below hW (Nat.le_refl _)
    obtain ⟨x1, y1, rfl, _⟩ := hpa.r1
    obtain ⟨x2, y2, rfl, _⟩ := hpa.r2
    clear h4 hpa hp hg hi
    have hi1 : (k : Int) < (ps.length : Int) := by omega
    go_enter Try.func23, Try.ntmps23
    go_wp2_with fail
    refine (p1 _ (bel_al w _)).mono ?_
    rintro e w1 ⟨rfl, hb1⟩
    have hR : w1.heap[w.heap.size]? = some (.cells #[.slice none 0 0, .slice none 0 0, .bool false] 48 (0, 0)) := by rw [hb1.block _ (by simp)]; exact hcell
    have hB1 := Below.tr (bel_al w (.cells #[.slice none 0 0, .slice none 0 0, .bool false] 48)) hb1
    have hp1 := hpw w1 hB1
    have c0 := hp1.c0
    have c1 := hp1.c1
    have c2 := hp1.c2
    have cb := hcw w1 hB1
    have hcp := copied_any (p := p) hp1.r1 hp1.r2 (by omega)
    obtain ⟨pk, pv, pg⟩ := p
    simp only [] at *
    have hs1 : w.heap.size < w1.heap.size := (Array.getElem?_eq_some_iff.1 hR).1
    clear hp1 hpw
    go_wp2_with fail
    refine hcp.mono ?_
    rintro e w2 ⟨u2, rfl, hE2, hb2⟩
    have hR2 : w2.heap[w.heap.size]? = some (.cells #[.slice none 0 0, .slice none 0 0, .bool false] 48 (0, 0)) := by rw [hb2.block _ hs1]; exact hR
    obtain ⟨⟨q0, q1, q2, e0⟩, q3, q4, q5, e1⟩ := hE2.sl
    obtain ⟨x0, x1', x2'⟩ := u2
    simp only [] at *
    subst e0
    subst e1
    obtain ⟨r0, r1, r2, rz⟩ := cells3 hR2
    have rz0 := rz 0
    have rz1 := rz 1
    have rz2 := rz 2
    have hch := set3_chg w2 w.heap.size (.slice q0 q1 q2) (.slice q3 q4 q5) (.bool x2')
    have hS := set3_block hR2 (.slice q0 q1 q2) (.slice q3 q4 q5) (.bool x2')
    have hB2 : Below w.heap.size w w2 := hB1.trans (hb2.mono hB1.size)
    have HZ : Hid _ := And.intro (cells3 hS) (And.intro ((hE2.keptC hch (fun b hb q => by have := (hE2.lt hb).1; omega)).mono hB1.size) (hB2.trans (hch.below (fun b q => by omega) hB2.size)))
    clear hch hS hE2 rz hR2 hR hb2 hb1 hcp
    go_wp2_with fail
    obtain ⟨⟨k0, k1, k2, _⟩, hE, hBz⟩ := HZ.out
    generalize (((w2.setCell ⟨w.heap.size, 0, none⟩ (.slice q0 q1 q2)).setCell ⟨w.heap.size, 1, none⟩ (.slice q3 q4 q5)).setCell ⟨w.heap.size, 2, none⟩ (.bool x2')) = wz at *
    refine bodyPost_ret (v := .tuple #[.agg #[.slice q0 q1 q2, .slice q3 q4 q5, .bool x2'], .bool true]) (by simp [results, Try.results23, go_sem, k0, k1, k2]; try rfl) rfl ?_
    exact ⟨(.slice q0 q1 q2, .slice q3 q4 q5, x2'), rfl, hE, hBz⟩
  · have hg : getK ps key = none := by unfold getK; rw [if_neg hi]
    rw [hg]
    rw [show M.isK ps key = false by simpa using hi] at p1
    show Calls _ _ _ _ fun e w' => ∃ u : V3, e = .returned (.tuple #[.agg #[u.1, u.2.1, .bool u.2.2], .bool false]) ∧ El3 w.heap.size w' u noP ∧ Below w.heap.size w w'
    clear h4 hg hi
    go_enter Try.func23, Try.ntmps23
    go_wp2_with fail
    refine (p1 _ (bel_al w _)).mono ?_
    rintro e w2 ⟨rfl, hb1⟩
    have hR2 : w2.heap[w.heap.size]? = some (.cells #[.slice none 0 0, .slice none 0 0, .bool false] 48 (0, 0)) := by rw [hb1.block _ (by simp)]; exact hcell
    have hB2 := Below.tr (bel_al w (.cells #[.slice none 0 0, .slice none 0 0, .bool false] 48)) hb1
    obtain ⟨r0, r1, r2, rz⟩ := cells3 hR2
    have rz0 := rz 0
    have rz1 := rz 1
    have rz2 := rz 2
    have hch := set3_chg w2 w.heap.size (.slice none 0 0) (.slice none 0 0) (.bool false)
    have hS := set3_block hR2 (.slice none 0 0) (.slice none 0 0) (.bool false)
    have HZ : Hid _ := And.intro (cells3 hS) (hB2.trans (hch.below (fun b q => by omega) hB2.size))
    clear hch hS rz hR2 hb1
    go_wp2_with fail
    obtain ⟨⟨k0, k1, k2, _⟩, hBz⟩ := HZ.out
    generalize (((w2.setCell ⟨w.heap.size, 0, none⟩ (.slice none 0 0)).setCell ⟨w.heap.size, 1, none⟩ (.slice none 0 0)).setCell ⟨w.heap.size, 2, none⟩ (.bool false)) = wz at *
    refine bodyPost_ret (v := .tuple #[.agg #[.slice none 0 0, .slice none 0 0, .bool false], .bool false]) (by simp [results, Try.results23, go_sem, k0, k1, k2]; try rfl) rfl ?_
    exact ⟨(.slice none 0 0, .slice none 0 0, false), rfl, ⟨Ow.nil _ _, Ow.nil _ _, rfl⟩, hBz⟩
end Go.Proofs.Ytdfhhliapcdebaa

/- The walk of TableBuilds. -/
namespace Go.Proofs.Ytdfhhliapcdebaa
open Go.RowKit
set_option linter.unusedVariables false
set_option maxRecDepth 100000

theorem tnum_any (k : Int) (w : World) : Calls Try.prog 14 #[.int .i64 k] w fun e w' => e = .returned (.int .i64 k) ∧ w' = w := by
  go_enter Try.func14, Try.ntmps14
  go_wp2
  go_ret
  exact ⟨rfl, rfl⟩

set_option maxHeartbeats 1000000 in
theorem builds_walk {v : Value} {ps : List P3} {w : World} (hr : RdQ w v ps) (hl : totP ps ≤ 1048576) :
    Calls Try.prog 3 #[v] w fun e w' => e = .returned (.bool true) ∧ Below w.heap.size w w' := by
  have hrb := fun W (hW : Below w.heap.size w W) => hr.below hW (Nat.le_refl _)
  obtain ⟨av, cv, rfl, _⟩ := hr
  go_enter Try.func3, Try.ntmps3
  go_wp2_with fail
  refine (tawake_any _).mono ?_
  rintro e w1 ⟨rfl, hb1⟩
  go_wp2_with fail
  refine (copypairs_any (hrb w1 hb1) hl).mono ?_
  rintro e w2 ⟨v2, us2, rfl, ho2, hb2⟩
  have hB2 : Below w.heap.size w w2 := hb1.trans (hb2.mono hb1.size)
  have hq2 := ho2.rdq
  obtain ⟨a2, c2, rfl, _⟩ := ho2.rdq
  clear ho2
  go_wp2_with fail
  refine (build_any hq2 (by omega)).mono ?_
  rintro e w3 ⟨v3, rfl, ho3, hb3⟩
  have hB3 : Below w.heap.size w w3 := hB2.trans (hb3.mono hB2.size)
  obtain ⟨a3, c3, rfl⟩ := ho3.shape
  go_wp2_with fail
  refine (rbuild_any (hrb w3 hB3) (by omega)).mono ?_
  rintro e w4 ⟨v4, rfl, ho4, hb4⟩
  have hB4 : Below w.heap.size w w4 := hB3.trans (hb4.mono hB3.size)
  obtain ⟨a4, c4, rfl⟩ := ho4.shape
  have hsm := same_any (ho3.below hb4 (Nat.le_refl _)).rd ho4.rd
  rw [decide_eq_true rfl] at hsm
  have hsp := fun m => samep_any ((hq2.below (Below.tr hb3 hb4) (Nat.le_refl _)).drewN m) ((hrb w4 hB4).drewN m)
  generalize M.bld ps = bb at *
  obtain ⟨bl, be⟩ := bb
  simp only [] at *
  clear ho3 ho4 hq2 hrb
  go_wp2_with fail
  refine hsm.mono ?_
  rintro e w5 ⟨rfl, n5, rfl⟩
  go_wp2_with fail
  refine (tnum_any _ _).mono ?_
  rintro e w6 ⟨rfl, rfl⟩
  go_wp2_with fail
  refine (hsp n5).mono ?_
  rintro e w7 ⟨rfl, n7, rfl⟩
  go_wp2_with fail
  go_ret
  exact ⟨by simp, hB4.trans ((Below.dN w4 _).mono hB4.size)⟩
end Go.Proofs.Ytdfhhliapcdebaa

/- Frames of which a byte is turned; numbers of which 62 bits are taken. -/
namespace Go.Proofs.Ytdfhhliapcdebaa
open Go.RowKit
set_option linter.unusedVariables false
set_option maxRecDepth 100000

theorem and62 (x : Int) : ∃ m : Nat, m < 4611686018427387904 ∧ bits .and .i64 x 4611686018427387903 = (m : Int) := by
  have h1 : (BitVec.ofInt 64 (4611686018427387903 : Int)).toNat = 4611686018427387903 := by decide
  have h2 : ((BitVec.ofInt 64 x) &&& (BitVec.ofInt 64 (4611686018427387903 : Int))).toNat ≤ 4611686018427387903 := by
    rw [BitVec.toNat_and, h1]; exact Nat.and_le_right
  refine ⟨((BitVec.ofInt 64 x) &&& (BitVec.ofInt 64 (4611686018427387903 : Int))).toNat, by omega, ?_⟩
  have hb : bits .and .i64 x 4611686018427387903 = IntKind.i64.wrap ((((BitVec.ofInt 64 x) &&& (BitVec.ofInt 64 (4611686018427387903 : Int))).toNat : Nat) : Int) := rfl
  rw [hb]
  generalize ((BitVec.ofInt 64 x) &&& (BitVec.ofInt 64 (4611686018427387903 : Int))).toNat = m at *
  exact IntWalk.i64_in _ ⟨by omega, by omega⟩

theorem Ow.at {B : Nat} {w : World} {v : Value} {l : List UInt8} (h : Ow B w v l) (h0 : 0 < l.length) : ∃ g c, v = .slice (some ⟨g, 0, none⟩) l.length c ∧ B ≤ g ∧ l.length ≤ c ∧ c ≤ maxLen := by
  rcases h.2 with ⟨_, e⟩ | ⟨g, cap, cur, e, hg, hh, hn, hm, _⟩
  · omega
  · exact ⟨g, cap, e, hg, hn, hm⟩
theorem Ow.put {B g n c : Nat} {w : World} {l : List UInt8} (h : Ow B w (.slice (some ⟨g, 0, none⟩) n c) l) (hn : n = l.length) (i : Nat) (x : UInt8) (z : Int) (hz : z = (x.toNat : Int)) : Ow B (w.setCell ⟨g, i, none⟩ (.int .u8 z)) (.slice (some ⟨g, 0, none⟩) n c) (l.set i x) := by
  subst hn
  have := (World.ownsRow.stored h i (.int .u8 z)).1
  unfold Ow
  subst hz
  simpa [cel, List.map_set] using this

/-- The frame of l with one byte behind its length turned is refused by its sum. -/
theorem turned_refused (l : List UInt8) (j : Nat) (hj : j < 4 + l.length) (τ : UInt8) (hτ : τ ≠ 0) (hl : l.length < 18446744073709551616) (hat : (M.vi l.length).length + j < (M.frame l).length) :
    M.tf ((M.frame l).set ((M.vi l.length).length + j) ((M.frame l)[(M.vi l.length).length + j] ^^^ τ)) = ([], [], 11) := by
  have hxne : ∀ x : UInt8, x ^^^ τ ≠ x := fun x e => hτ (by
    have := congrArg (fun y => x ^^^ y) e
    simpa [← UInt8.xor_assoc] using this)
  have e0 : (M.frame l).set ((M.vi l.length).length + j) ((M.frame l)[(M.vi l.length).length + j] ^^^ τ) = M.vi l.length ++ ((M.be 4 (M.crc l) ++ l).set j (((M.be 4 (M.crc l) ++ l)[j]'(by simp [M.be_length]; omega)) ^^^ τ)) := by
    have hg : (M.frame l)[(M.vi l.length).length + j] = (M.be 4 (M.crc l) ++ l)[j]'(by simp [M.be_length]; omega) := by
      have : M.frame l = M.vi l.length ++ (M.be 4 (M.crc l) ++ l) := by simp [M.frame]
      simp only [this]
      rw [List.getElem_append_right (by omega)]
      congr 1
      omega
    rw [hg, show M.frame l = M.vi l.length ++ (M.be 4 (M.crc l) ++ l) by simp [M.frame], List.set_append_right _ _ (by omega), Nat.add_sub_cancel_left]
  rw [e0]
  by_cases h4 : j < 4
  · rw [List.set_append_left _ _ (by rw [M.be_length]; exact h4)]
    refine M.tf_turned _ _ _ hl (by simp [M.be_length]) rfl ?_
    intro e
    have hc : M.num (M.be 4 (M.crc l)) = M.crc l := M.num_be 4 _ (by have := M.crc_lt l; simpa using this)
    have := M.num_inj _ _ (by simp) (hc.trans e).symm
    have h2 := congrArg (fun y => y[j]?) this
    rw [List.getElem?_set_self (by rw [M.be_length]; exact h4), List.getElem?_eq_getElem (by rw [M.be_length]; exact h4), List.getElem_append_left (by rw [M.be_length]; exact h4)] at h2
    exact hxne _ (Option.some.inj h2)
  · obtain ⟨i, rfl⟩ : ∃ i, j = 4 + i := ⟨j - 4, by omega⟩
    have hi : i < l.length := by omega
    have hb4 := M.be_length 4 (M.crc l)
    have hgi : ((M.be 4 (M.crc l) ++ l)[4 + i]'(by simp [M.be_length]; omega)) = l[i] := by
      rw [List.getElem_append_right (by omega)]
      congr 1
      omega
    rw [hgi, List.set_append_right _ _ (by omega), show 4 + i - (M.be 4 (M.crc l)).length = i by omega]
    refine M.tf_turned _ _ _ hl hb4 (by simp) ?_
    rw [M.num_be 4 _ (by have := M.crc_lt l; simpa using this)]
    intro e
    have hz : M.zx (l.set i (l[i] ^^^ τ)) l = List.replicate i 0 ++ [τ] ++ List.replicate (l.length - (i + 1)) 0 := by
      have e1 : l.set i (l[i] ^^^ τ) = l.take i ++ [l[i] ^^^ τ] ++ l.drop (i + 1) := by rw [List.set_eq_take_append_cons_drop, if_pos hi]; simp
      have e2 : l.take i ++ [l[i]] ++ l.drop (i + 1) = l := by simp
      have e3 : M.zx (l.set i (l[i] ^^^ τ)) l = M.zx (l.take i ++ [l[i] ^^^ τ] ++ l.drop (i + 1)) (l.take i ++ [l[i]] ++ l.drop (i + 1)) := by rw [e1, e2]
      rw [e3, M.zx_mid (l.take i) [l[i] ^^^ τ] [l[i]] (l.drop (i + 1)) rfl, List.length_take, List.length_drop, Nat.min_eq_left (by omega)]
      have e4 : M.zx [l[i] ^^^ τ] [l[i]] = [τ] := by
        show [(l[i] ^^^ τ) ^^^ l[i]] = [τ]
        rw [UInt8.xor_comm l[i] τ, UInt8.xor_assoc, UInt8.xor_self, UInt8.xor_zero]
      rw [e4]
    have := (M.crc_burst _ l (by simp) i (l.length - (i + 1)) [τ] (by simp) hz).1 e τ (by simp)
    exact hτ this

theorem turn_put {B g n c : Nat} {w : World} {F : List UInt8} (h : Ow B w (.slice (some ⟨g, 0, none⟩) n c) F) (hn : n = F.length) (A : Nat) (hA : A < F.length) (τ : UInt8) :
    Ow B (w.setCell ⟨g, A, none⟩ (.int .u8 (bits BinOp.xor IntKind.u8 (F[A].toNat : Int) (τ.toNat : Int)))) (.slice (some ⟨g, 0, none⟩) n c) (F.set A (F[A] ^^^ τ)) :=
  h.put hn A (F[A] ^^^ τ) _ (by rw [u8_xor_nat _ _ F[A].toNat_lt τ.toNat_lt, UInt8.toNat_xor])
end Go.Proofs.Ytdfhhliapcdebaa

/- Plain facts: bytes of a table of which one is turned, or some come behind, are refused. -/
namespace Go.Proofs.Ytdfhhliapcdebaa
open Go.RowKit
set_option linter.unusedVariables false
set_option maxRecDepth 100000

theorem viF_mono (k n m : Nat) (h : n ≤ m) : (M.viF k n).length ≤ (M.viF k m).length := by
  induction k generalizing n m with
  | zero => simp [M.viF]
  | succ k ih =>
    rw [M.viF, M.viF]
    by_cases h1 : n < 128
    · rw [if_pos h1]
      split
      · simp
      · simp
    · rw [if_neg h1, if_neg (by omega)]
      have := ih (n / 128) (m / 128) (by omega)
      simpa using this
theorem frame_inj_len (a b : List UInt8) (h : (M.frame a).length = (M.frame b).length) : a.length = b.length := by
  have h1 := M.be_length 4 (M.crc a)
  have h2 := M.be_length 4 (M.crc b)
  simp only [M.frame, List.length_append, h1, h2] at h
  rcases Nat.lt_trichotomy a.length b.length with q | q | q
  · have := viF_mono 9 a.length b.length (by omega)
    unfold M.vi at h
    omega
  · exact q
  · have := viF_mono 9 b.length a.length (by omega)
    unfold M.vi at h
    omega

theorem frame_head (b : List UInt8) (n A : Nat) (hn : b.length = n) (hA : A < (M.vi n).length) : (M.frame b)[A]? = (M.vi n)[A]? := by
  subst hn
  unfold M.frame
  rw [List.append_assoc, List.getElem?_append_left hA]
/-- A frame of which any byte is turned is no whole frame. -/
theorem frame_turned (l : List UInt8) (A : Nat) (hA : A < (M.frame l).length) (τ : UInt8) (hτ : τ ≠ 0) (hl : l.length < 18446744073709551616) :
    (M.tf ((M.frame l).set A ((M.frame l)[A] ^^^ τ))).2.2 ≠ 0 ∨ (M.tf ((M.frame l).set A ((M.frame l)[A] ^^^ τ))).2.1 ≠ [] := by
  have hxne : ∀ x : UInt8, x ^^^ τ ≠ x := fun x e => hτ (by
    have := congrArg (fun y => x ^^^ y) e
    simpa [← UInt8.xor_assoc] using this)
  by_cases h0 : (M.tf ((M.frame l).set A ((M.frame l)[A] ^^^ τ))).2.2 = 0
  · refine .inr fun hre => ?_
    have e := M.tf_form _ h0
    rw [hre, List.append_nil] at e
    have hlen := congrArg List.length e
    rw [List.length_set] at hlen
    have hn := frame_inj_len _ _ hlen
    by_cases hv : A < (M.vi l.length).length
    · have hg := congrArg (fun y => y[A]?) e
      rw [List.getElem?_set_self hA] at hg
      have e1 := frame_head _ _ A hn hv
      have e2 := frame_head l _ A rfl hv
      rw [e1, ← e2, List.getElem?_eq_getElem hA] at hg
      exact hxne _ (Option.some.inj hg).symm
    · obtain ⟨j, rfl⟩ : ∃ j, A = (M.vi l.length).length + j := ⟨A - (M.vi l.length).length, by omega⟩
      have hfl : (M.frame l).length = (M.vi l.length).length + (4 + l.length) := by simp [M.frame, M.be_length]
      have := turned_refused l j (by omega) τ hτ hl hA
      rw [this] at h0
      cases h0
  · exact .inl h0

theorem opn_no {l : List UInt8} (h : (M.tf l).2.2 ≠ 0 ∨ (M.tf l).2.1 ≠ []) : M.opn l = none := by
  unfold M.opn
  rw [if_neg]
  rintro ⟨h1, h2, _⟩
  rcases h with q | q
  · exact q h1
  · exact q h2
theorem opn_turned (ps : List P3) (hl : totP ps ≤ 4194304) (A : Nat) (hA : A < (M.tab ps).length) (τ : UInt8) (hτ : τ ≠ 0) : M.opn ((M.tab ps).set A ((M.tab ps)[A] ^^^ τ)) = none := by
  have h1 := row_tot ps
  exact opn_no (frame_turned (M.row (ps.map M.prow)) A hA τ hτ (by omega))
theorem opn_more (ps : List P3) (hl : totP ps ≤ 4194304) (x : UInt8) : M.opn (M.tab ps ++ [x]) = none := by
  have h1 := row_tot ps
  refine opn_no (.inr ?_)
  unfold M.tab
  rw [M.tf_back (M.row (ps.map M.prow)) [x] (by omega)]
  simp

/-- The whole. -/
theorem plK_nil (ps : List P3) : M.plK ps [] = 0 := by
  cases ps with
  | nil => rfl
  | cons p r =>
    obtain ⟨k, v, g⟩ := p
    simp only [M.plK]
    rw [if_neg]
    cases k <;> simp [M.cmpL]
theorem rng_all (ps : List P3) : rng ps [] [] = ps := by
  unfold rng
  rw [plK_nil]
  simp
theorem tab_pos (ps : List P3) : 5 ≤ (M.tab ps).length := by
  have h3 := M.be_length 4 (M.crc (M.row (ps.map M.prow)))
  have h1 := M.vi_pos (M.row (ps.map M.prow)).length
  simp only [M.tab, M.frame, List.length_append]
  omega
end Go.Proofs.Ytdfhhliapcdebaa

/- The walk of TableBack. -/
namespace Go.Proofs.Ytdfhhliapcdebaa
open Go.RowKit
set_option linter.unusedVariables false
set_option maxRecDepth 100000

theorem cmp_q {va vb : Value} {la lb : List UInt8} {w : World} (ha : Rd w va la) (hb : Rd w vb lb) (m q : Nat) : Calls Try.prog 27 #[va, vb] (w.drewN (m + q)) fun e w' => e = .returned (.int .i64 (M.cmpL la lb)) ∧ ∃ n, w' = w.drewN (m + n) := by
  refine (cmp_any (ha.drewN (m + q)) (hb.drewN (m + q))).mono ?_
  rintro _ w' ⟨rfl, n, rfl⟩
  exact ⟨rfl, q + n, by rw [World.drewN_drewN, Nat.add_assoc]⟩

set_option maxHeartbeats 2000000 in
theorem back_no {v : Value} {ps : List P3} {w : World} (hr : RdQ w v ps) (hl : totP ps ≤ 1048576) (hri : M.ris ps = false) (x y : Int) :
    Calls Try.prog 6 #[v, .int .i64 x, .int .i64 y] w fun e w' => e = .returned (.bool true) ∧ Below w.heap.size w w' := by
  have hrb := fun W (hW : Below w.heap.size w W) => hr.below hW (Nat.le_refl _)
  have hbld : M.bld ps = ([], 51) := by unfold M.bld; rw [hri]; rfl
  obtain ⟨av, cv, rfl, v1, v2, _⟩ := hr
  unfold maxLen at v2
  go_enter Try.func6, Try.ntmps6
  go_wp2_with fail
  refine (tawake_any _).mono ?_
  rintro e w1 ⟨rfl, hb1⟩
  have hbd := build_any (hrb w1 hb1) (by omega)
  rw [hbld] at hbd
  go_wp2_with fail
  refine hbd.mono ?_
  rintro e w2 ⟨v2, rfl, ho2, hb2⟩
  have hB2 : Below w.heap.size w w2 := hb1.trans (hb2.mono hb1.size)
  obtain ⟨a2, c2, rfl⟩ := ho2.shape
  simp only [List.length_nil] at *
  obtain ⟨ao, c, e, _, _, h4⟩ := hrb w2 hB2
  simp only [Value.slice.injEq, true_and] at e
  obtain ⟨rfl, rfl⟩ := e
  clear ho2 hbd
  have HR : Hid _ := hri
  clear hri hbld
  go_wp2_with fail
  go_loopw [9] (fun i wr => ∃ k : Nat, k ≤ ps.length ∧ i = .int .i64 ((k : Int) + 1) ∧ Hid (∀ j p q, j < k → ps[j]? = some p → ps[j + 1]? = some q → M.cmpL p.1 q.1 < 0) ∧ ∃ m, wr = w2.drewN m) (fun i _ => ps.length - (intOf i - 1).toNat)
  case atStart => exact ⟨0, Nat.zero_le _, rfl, (fun j p q hj => by omega), 0, rfl⟩
  case round =>
    obtain ⟨k, hk, rfl, HD, m, rfl⟩ := hrel
    by_cases hlt : k + 1 < ps.length
    · obtain ⟨p, hp⟩ : ∃ p, ps[k]? = some p := ⟨_, List.getElem?_eq_getElem (by omega)⟩
      obtain ⟨q, hq⟩ : ∃ q, ps[k + 1]? = some q := ⟨_, List.getElem?_eq_getElem hlt⟩
      obtain ⟨a, u1, u2, rfl, hpa⟩ := h4 k p hp
      obtain ⟨a', v1', v2', ea, hqa⟩ := h4 (k + 1) q hq
      obtain rfl := Option.some.inj ea
      have hc := fun x => cmp_q hpa.r1 hqa.r1 m x
      have hw := wrap64 k (by omega)
      have hki : (k : Int) < (ps.length : Int) := by omega
      have hki2 : (k : Int) + 1 < (ps.length : Int) := by omega
      have c0 := hpa.c0
      have c1 := hqa.c0
      obtain ⟨ax, cx, rfl, _⟩ := hpa.r1
      obtain ⟨ay, cy, rfl, _⟩ := hqa.r1
      have HP : Hid _ := And.intro hp hq
      clear h4 hpa hqa hp hq ea
      have hsub : ((k : Int) + 1 - 1) = (k : Int) := by omega
      by_cases hlt0 : M.cmpL p.1 q.1 < 0
      · have hge : decide (M.cmpL p.1 q.1 ≥ 0) = false := by simp; omega
        have HL : Hid _ := hlt0
        generalize hz : M.cmpL p.1 q.1 = z at *
        go_wp2_with fail
        go_quiet (first | (go_at_call 27; exact hc _) | fail)
        go_wp2_with fail
        refine ⟨⟨k + 1, by omega, by go_num, fun j x y hj hx hy => ?_, m + nq, by simp [World.drewN]⟩, by simp [intOf]; omega⟩
        rcases Nat.lt_or_ge j k with h | h
        · exact HD.out j x y h hx hy
        · obtain rfl : j = k := by omega
          rw [HP.out.1] at hx
          rw [HP.out.2] at hy
          obtain rfl := Option.some.inj hx
          obtain rfl := Option.some.inj hy
          rw [hz]; exact HL.out
      · have hge : 0 ≤ M.cmpL p.1 q.1 := by omega
        generalize hz : M.cmpL p.1 q.1 = z at *
        go_wp2_with fail
        go_quiet (first | (go_at_call 27; exact hc _) | fail)
        go_wp2_with fail
        go_ret
        exact ⟨rfl, hB2.trans ((Below.dN w2 (m + nq)).mono hB2.size)⟩
    · exfalso
      have : M.ris ps = true := by
        rw [M.ris_iff]
        intro j x y hx hy
        have := (List.getElem?_eq_some_iff.1 hy).1
        exact HD.out j x y (by omega) hx hy
      rw [HR.out] at this
      cases this

/-- The bytes that are laid on: between 1 and 255. -/
theorem back_tau (n : Nat) : ∃ τ : UInt8, τ ≠ 0 ∧ (((n : Int) % 255 + 1) = (τ.toNat : Int)) ∧ ((1 + (n : Int) % 255) = (τ.toNat : Int)) := by
  have h : n % 255 < 255 := Nat.mod_lt _ (by decide)
  have h2 : (UInt8.ofNat (n % 255 + 1)).toNat = n % 255 + 1 := by rw [UInt8.toNat_ofNat']; omega
  refine ⟨UInt8.ofNat (n % 255 + 1), fun e => ?_, by omega, by omega⟩
  rw [e] at h2
  simp at h2

set_option maxHeartbeats 1500000 in
theorem back_yes {v : Value} {ps : List P3} {w : World} (hr : RdQ w v ps) (hl : totP ps ≤ 1048576) (hri : M.ris ps = true) (x y : Int) :
    Calls Try.prog 6 #[v, .int .i64 x, .int .i64 y] w fun e w' => e = .returned (.bool true) ∧ Below w.heap.size w w' := by
  have hrb := fun W (hW : Below w.heap.size w W) => hr.below hW (Nat.le_refl _)
  have hbld : M.bld ps = (M.tab ps, 0) := by unfold M.bld; rw [if_pos hri]
  have hopn := opn_tab ps hri (by omega)
  have htl := tab_len ps
  have htp := tab_pos ps
  obtain ⟨m, hm, hmb⟩ := and62 x
  obtain ⟨n, hn, hnb⟩ := and62 y
  obtain ⟨τ, hτ, hτ1, hτ2⟩ := back_tau n
  obtain ⟨A, hA, hAe⟩ : ∃ A : Nat, A < (M.tab ps).length ∧ (m : Int) % ((M.tab ps).length : Int) = (A : Int) := ⟨m % (M.tab ps).length, Nat.mod_lt _ (by omega), by omega⟩
  have htu := opn_turned ps (by omega) A hA τ hτ
  have hmo := fun z => opn_more ps (by omega) z
  have hra := rng_all ps
  obtain ⟨av, cv, rfl, v1, v2, _⟩ := hr
  unfold maxLen at v2
  have HO : Hid _ := And.intro hopn (And.intro htu (And.intro hmo hra))
  clear hopn htu hmo hra
  go_enter Try.func6, Try.ntmps6
  go_wp2_with fail
  refine (tawake_any _).mono ?_
  rintro e w1 ⟨rfl, hb1⟩
  have hbd := build_any (hrb w1 hb1) (by omega)
  rw [hbld] at hbd
  go_wp2_with fail
  refine hbd.mono ?_
  rintro e w2 ⟨v2', rfl, ho2, hb2⟩
  have hB2 : Below w.heap.size w w2 := hb1.trans (hb2.mono hb1.size)
  have hB2s := hB2.size
  have hT := ho2.rd
  have hTb := fun W (hW : Below w2.heap.size w2 W) => hT.below hW (Nat.le_refl _)
  obtain ⟨a2, c2, rfl, t1, t2, t3, t4⟩ := ho2.rd
  unfold maxLen at t2
  try simp only [] at t1 t4 hT hTb
  clear ho2 hbd t4
  go_wp2_with fail
  refine (open_any hT (by omega)).mono ?_
  rintro e w3 ⟨hor, hb3⟩
  rcases hor with ⟨qs, t, hqs, rfl, ht⟩ | ⟨hno, _⟩
  rotate_left
  · rw [HO.out.1] at hno; cases hno
  rw [HO.out.1] at hqs
  obtain rfl := Option.some.inj hqs
  have htb := fun W (hW : Below w3.heap.size w3 W) => ht.below hW (Nat.le_refl _)
  obtain ⟨tb, sv, rfl, _⟩ := ht
  have hrg := fun W (hW : Below w3.heap.size w3 W) => range_any (htb W hW) (Rd.nil W) (Rd.nil W) hri (by omega)
  rw [HO.out.2.2.2] at hrg
  go_wp2_with fail
  refine (hrg w3 (Below.refl _ _)).mono ?_
  rintro e w4 ⟨v4, us4, rfl, ho4, hb4⟩
  have hq4 := ho4.rdq
  obtain ⟨a4, c4, rfl, _⟩ := ho4.rdq
  have hbd := build_any hq4 (by omega)
  rw [hbld] at hbd
  go_wp2_with fail
  refine hbd.mono ?_
  rintro e w5 ⟨v5, rfl, ho5, hb5⟩
  have hB5 : Below w3.heap.size w3 w5 := Below.tr hb4 hb5
  have hsm := same_any ho5.rd (hTb w5 (Below.tr hb3 hB5))
  rw [decide_eq_true rfl] at hsm
  obtain ⟨a5, c5, e5⟩ := ho5.shape
  try simp only [] at e5 hsm
  subst e5
  clear hbd hq4 ho4
  go_wp2_with fail
  refine hsm.mono ?_
  rintro e w6 ⟨rfl, n6, rfl⟩
  have hB6 : Below w3.heap.size w3 (w5.drewN n6) := Below.tr hB5 (Below.dN w5 n6)
  go_wp2_with fail
  refine (hrg _ hB6).mono ?_
  rintro e w7 ⟨v7, us7, rfl, ho7, hb7⟩
  have hB7 : Below w3.heap.size w3 w7 := Below.tr hB6 hb7
  have hB7w : Below w2.heap.size w2 w7 := Below.tr hb3 hB7
  have hsp := samep_any ho7.rdq (hrb w7 (hB2.trans (hB7w.mono hB2s)))
  obtain ⟨a7, c7, rfl, _⟩ := ho7.rdq
  clear ho7 hrg htb hsm ho5
  go_wp2_with fail
  refine hsp.mono ?_
  rintro e w8 ⟨rfl, n8, rfl⟩
  have hB8 : Below w2.heap.size w2 (w7.drewN n8) := Below.tr hB7w (Below.dN w7 n8)
  clear hsp hB7w hB7 hB6 hB5 hb3 hb4 hb5 hb7
  generalize w7.drewN n8 = w9 at *
  have hlc := fun W (hW : Below w2.heap.size w2 W) => lcopy_any (hTb W hW) (by omega)
  have hl0 : (0 : Int) < ((M.tab ps).length : Int) := by omega
  have hli : ¬ ((M.tab ps).length : Int) = 0 := by omega
  generalize htab : M.tab ps = L at *
  go_wp2_with fail
  rw [hAe]
  refine (hlc w9 hB8).mono ?_
  rintro e w10 ⟨v10, rfl, ho10, hb10⟩
  obtain ⟨g, c10, e10, hgB, hgc, hgm⟩ := ho10.at (by omega)
  subst e10
  have k1 : w10.cell? ⟨g, A, none⟩ = some (.int .u8 (L[A].toNat : Int)) := by
    have := ho10
    unfold Ow at this
    rw [this.cellAt A (by omega), cel_get L A hA]
  have kz : w10.frozen? ⟨g, A, none⟩ = false := by
    have := ho10
    unfold Ow at this
    exact this.frozenAt A
  have hput := turn_put ho10 rfl A hA τ
  have hAi : (A : Int) < (L.length : Int) := by omega
  have hτ8 : τ.toNat < 256 := τ.toNat_lt
  have HP : Hid _ := hput
  clear hput
  go_wp2_with fail
  have hT11 := Ow.rd HP.out
  clear HP
  have hs10 : w9.heap.size ≤ w10.heap.size := hb10.size
  have hs9 : w2.heap.size ≤ w9.heap.size := hB8.size
  have hB11 : Below w2.heap.size w2 (w10.setCell ⟨g, A, none⟩ (.int .u8 (bits BinOp.xor IntKind.u8 (L[A].toNat : Int) (τ.toNat : Int)))) := hB8.trans ((hb10.mono hs9).trans (((Chg.refl (fun b => b = g) w10).put g A _ rfl).below (fun b q => by omega) (by omega)))
  generalize (w10.setCell ⟨g, A, none⟩ (.int .u8 (bits BinOp.xor IntKind.u8 (L[A].toNat : Int) (τ.toNat : Int)))) = w11 at *
  clear ho10 hb10 k1 kz hB8
  have hTl : (L.set A (L[A] ^^^ τ)).length = L.length := by simp
  have lcp : ∀ W, Below w2.heap.size w2 W → Calls Try.prog 28 #[.slice a2 A c2] W fun e w' => ∃ a c, e = .returned (.slice a A c) ∧ Ow W.heap.size w' (.slice a A c) (L.take A) ∧ Below W.heap.size W w' := fun W hW => (lcopy_any ((hT.pre A (by omega)).below hW (Nat.le_refl _)) (by simp; omega)).mono (by
    rintro e w' ⟨v', rfl, q1, q2⟩
    obtain ⟨a, c, e⟩ := q1.shape
    rw [List.length_take, Nat.min_eq_left (by omega)] at e
    subst e
    exact ⟨a, c, rfl, q1, q2⟩)
  have hpost := hT.post (A + 1) (by omega) (if c2 = A + 1 then a2 else a2.map (fun a => a.add (A + 1))) ⟨fun h => by rw [if_pos h], fun h => by rw [if_neg h]⟩
  have hAL : A ≤ L.length := by omega
  have hA1 : A + 1 ≤ L.length := by omega
  have hw1 : IntKind.i64.wrap ((A : Int) + 1) = (A : Int) + 1 := by rw [IntKind.wrap_i64]; omega
  have hai : (A : Int) + 1 ≤ (L.length : Int) := by omega
  obtain ⟨ad, rfl⟩ : ∃ ad, a2 = some ad := by
    cases a2 with
    | none => have := t3 rfl; omega
    | some ad => exact ⟨ad, rfl⟩
  have b0 : (0 : Int) ≤ (A : Int) := by omega
  have b1 : (A : Int) ≤ (c2 : Int) := by omega
  have b2 : (0 : Int) ≤ (A : Int) + 1 := by omega
  have b3 : (L.length : Int) ≤ (c2 : Int) := by omega
  have b4 : (A : Int) + 1 ≤ (c2 : Int) := by omega
  by_cases hcA : c2 = A + 1
  · rw [if_pos hcA] at hpost
    subst hcA
    have d1 : (A : Int) ≤ ((A + 1 : Nat) : Int) := by omega
    have d2 : (A : Int) ≤ (A : Int) + 1 := by omega
    rw [Nat.sub_self] at hpost
    have hpost2 : Rd w2 (.slice (some ad) 0 0) (L.drop (A + 1)) := by rw [show L.length - (A + 1) = 0 by omega] at hpost; exact hpost
    go_region_held3 (fun w' => True) (trivial) (first
      | (refine step_appN rfl _ _ rfl w11.drew.heap.size (.slice a12 A c12) (L.take A) rfl ho12 _ (L.drop (A + 1)) rfl (hpost.below hB12 (Nat.le_refl _)) hb12.size (by simp; omega) ?_; intro v13 w13 ho13 hg13; have hB13 : Below w11.heap.size w11 w13 := Below.tr (bel_drew w11) (hb12.trans ((Below.refl w11.drew.heap.size w12).grown hg13 hb12.size (fun k hk => (World.ownsRow.lt ho12 k hk).1))); obtain ⟨a13, n13, c13, rfl⟩ := row_shape ho13)
      | (refine step_appN rfl _ _ rfl w11.drew.heap.size (.slice a12 A c12) (L.take A) rfl ho12 _ (L.drop (A + 1)) rfl (hpost2.below hB12 (Nat.le_refl _)) hb12.size (by simp; omega) ?_; intro v13 w13 ho13 hg13; have hB13 : Below w11.heap.size w11 w13 := Below.tr (bel_drew w11) (hb12.trans ((Below.refl w11.drew.heap.size w12).grown hg13 hb12.size (fun k hk => (World.ownsRow.lt ho12 k hk).1))); obtain ⟨a13, n13, c13, rfl⟩ := row_shape ho13)
      | (go_at_call 28; refine (lcp _ (hB11.trans ((bel_drew w11).mono hB11.size))).mono ?_; rintro e w12 ⟨a12, c12, rfl, ho12, hb12⟩; have hB12 : Below w2.heap.size w2 w12 := hB11.trans ((Below.tr (bel_drew w11) hb12).mono hB11.size))
      | fail)
    go_wp2_with fail
    have hO : Rd w13 (.slice a13 n13 c13) (L.take A ++ L.drop (A + 1)) := Ow.rd ho13
    have hOl : (L.take A ++ L.drop (A + 1)).length = L.length - 1 := by simp; omega
    have htfO := HO.out
    have hOne : decide (L.take A ++ L.drop (A + 1) = L) = false := by
      simp only [decide_eq_false_iff_not]
      intro q
      have := congrArg List.length q
      omega
    have hOle : (L.take A ++ L.drop (A + 1)).length ≤ 200000000 := by omega
    clear hOl htfO
    generalize L.take A ++ L.drop (A + 1) = O at *
    obtain ⟨_, _, eO, _⟩ := hO
    simp only [Value.slice.injEq] at eO
    obtain ⟨rfl, rfl, rfl⟩ := eO
    have hO : Rd w13 (.slice a13 O.length c13) O := Ow.rd ho13
    have hOb := fun W (hW : Below w13.heap.size w13 W) => hO.below hW (Nat.le_refl _)
    clear ho13 hg13 ho12 hb12 hB12 hpost lcp
    refine (open_any (l := L.set A (L[A] ^^^ τ)) (hT11.below hB13 (Nat.le_refl _)) (by omega)).mono ?_
    rintro e w14 ⟨hor, hb14⟩
    rcases hor with ⟨qs, t', hqs, _, _⟩ | ⟨_, rfl⟩
    · have := HO.out.2.1
      rw [this] at hqs; cases hqs
    have hB14 : Below w13.heap.size w13 w14 := hb14
    have hs11 := hB11.size
    have hs13 := hB13.size
    have hB14w : Below w2.heap.size w2 w14 := hB11.trans ((Below.tr hB13 hb14).mono hs11)
    go_wp2_with fail
    refine (hlc w14 hB14w).mono ?_
    rintro e w15 ⟨v15, rfl, ho15, hb15⟩
    obtain ⟨a15, c15, rfl⟩ := ho15.shape
    have hs14 := hb14.size
    have hs15 := hb15.size
    have ho15' := ho15.alloc
    go_wp2_with (first | (at_builtin; refine wpList_app rfl _ _ rfl w14.heap.size _ L rfl (ho15' _) _ [UInt8.ofNat (y % 256).toNat] rfl (rd_oneH w15 _ ?hh _ _ ?hz _) ?hB ?hlen ?_; rotate_right; intro v16 w16 ho16 hb16 hg16) | fail)
    case hh => rfl
    case hz => rw [M.u8_ofNat]; first | omega | (simp [IntKind.wrap]; omega)
    case hB => rw [World.size_alloc]; omega
    case hlen => simp; omega
    have hB16 : Below w14.heap.size w14 w16 := hb15.trans (((Below.refl w14.heap.size w15).alloc hs15 _).trans hb16)
    have hln16 : (L ++ [UInt8.ofNat (y % 256).toNat]).length ≤ 268435456 := by simp; omega
    have hop16 := open_any ho16.rd hln16
    obtain ⟨a16, c16, e16⟩ := ho16.shape
    rw [List.length_append, List.length_singleton] at e16
    subst e16
    clear ho16 ho15' hb16 hg16 ho15
    go_wp2_with fail
    refine hop16.mono ?_
    rintro e w17 ⟨hor, hb17⟩
    rcases hor with ⟨qs, t', hqs, _, _⟩ | ⟨_, rfl⟩
    · have := HO.out.2.2.1 (UInt8.ofNat (y % 256).toNat)
      rw [this] at hqs; cases hqs
    have hB17 : Below w13.heap.size w13 w17 := Below.tr hB14 (hB16.trans (hb17.mono hB16.size))
    have hB17w : Below w2.heap.size w2 w17 := hB14w.trans ((hB16.trans (hb17.mono hB16.size)).mono hB14w.size)
    have htf := tframe_any (hOb w17 hB17) (by omega)
    clear hop16
    go_wp2_with fail
    refine htf.mono ?_
    rintro e w18 ⟨u1, u2, rfl, ho18, hr18, _, hb18⟩
    have hB18 : Below w13.heap.size w13 w18 := hB17.trans (hb18.mono hB17.size)
    have hB18w : Below w2.heap.size w2 w18 := hB17w.trans (hb18.mono hB17w.size)
    have hBz : Below w.heap.size w w18 := hB2.trans (hB18w.mono hB2s)
    have hsm := same_any (hOb w18 hB18) (hTb w18 hB18w)
    rw [hOne] at hsm
    obtain ⟨a18, c18, rfl⟩ := ho18.shape
    obtain ⟨a19, c19, rfl⟩ := hr18.shape
    have hopn : (M.tf O).2.2 ≠ 0 ∨ (M.tf O).2.1 ≠ [] → M.opn O = none := opn_no
    have hopO := fun k => open_any (hOb (w18.drewN k) (hB18.trans ((Below.dN w18 k).mono hB18.size))) (by omega)
    clear ho18 hr18 htf
    generalize M.tf O = R at *
    obtain ⟨r1, r2, re⟩ := R
    simp only [] at *
    by_cases hre : re = 0
    · subst hre
      by_cases hr2 : r2 = []
      · subst hr2
        simp only [List.length_nil] at *
        clear hopO hopn
        go_wp2_with fail
        refine hsm.mono ?_
        rintro e w19 ⟨rfl, n19, rfl⟩
        go_wp2_with fail
        go_ret
        exact ⟨rfl, hBz.trans ((Below.dN w18 _).mono hBz.size)⟩
      · have hpo : 0 < r2.length := List.length_pos_iff.2 hr2
        have hno := hopn (.inr hr2)
        go_wp2_with fail
        refine hsm.mono ?_
        rintro e w19 ⟨rfl, n19, rfl⟩
        go_wp2_with fail
        refine (hopO n19).mono ?_
        rintro e w20 ⟨hor, hb20⟩
        rcases hor with ⟨qs, t', hqs, _, _⟩ | ⟨_, rfl⟩
        · rw [hno] at hqs; cases hqs
        go_wp2_with fail
        go_ret
        exact ⟨rfl, hBz.trans ((Below.tr (Below.dN w18 _) hb20).mono hBz.size)⟩
    · have hne : (((re : Nat) : Int) != 0) = true := by simp; omega
      have hno := hopn (.inl hre)
      go_wp2_with fail
      refine hsm.mono ?_
      rintro e w19 ⟨rfl, n19, rfl⟩
      go_wp2_with fail
      refine (hopO n19).mono ?_
      rintro e w20 ⟨hor, hb20⟩
      rcases hor with ⟨qs, t', hqs, _, _⟩ | ⟨_, rfl⟩
      · rw [hno] at hqs; cases hqs
      go_wp2_with fail
      go_ret
      exact ⟨rfl, hBz.trans ((Below.tr (Below.dN w18 _) hb20).mono hBz.size)⟩
  · rw [if_neg hcA] at hpost
    have ea : Option.map (fun a : Addr => a.add (A + 1)) (some ad) = some ⟨ad.block, ad.off + (A + 1), none⟩ := by simp [Addr.add]
    rw [ea] at hpost
    clear ea
    go_region_held3 (fun w' => True) (trivial) (first
      | (refine step_appN rfl _ _ rfl w11.drew.heap.size (.slice a12 A c12) (L.take A) rfl ho12 _ (L.drop (A + 1)) rfl (hpost.below hB12 (Nat.le_refl _)) hb12.size (by simp; omega) ?_; intro v13 w13 ho13 hg13; have hB13 : Below w11.heap.size w11 w13 := Below.tr (bel_drew w11) (hb12.trans ((Below.refl w11.drew.heap.size w12).grown hg13 hb12.size (fun k hk => (World.ownsRow.lt ho12 k hk).1))); obtain ⟨a13, n13, c13, rfl⟩ := row_shape ho13)
      | (go_at_call 28; refine (lcp _ (hB11.trans ((bel_drew w11).mono hB11.size))).mono ?_; rintro e w12 ⟨a12, c12, rfl, ho12, hb12⟩; have hB12 : Below w2.heap.size w2 w12 := hB11.trans ((Below.tr (bel_drew w11) hb12).mono hB11.size))
      | fail)
    go_wp2_with fail
    have hO : Rd w13 (.slice a13 n13 c13) (L.take A ++ L.drop (A + 1)) := Ow.rd ho13
    have hOl : (L.take A ++ L.drop (A + 1)).length = L.length - 1 := by simp; omega
    have htfO := HO.out
    have hOne : decide (L.take A ++ L.drop (A + 1) = L) = false := by
      simp only [decide_eq_false_iff_not]
      intro q
      have := congrArg List.length q
      omega
    have hOle : (L.take A ++ L.drop (A + 1)).length ≤ 200000000 := by omega
    clear hOl htfO
    generalize L.take A ++ L.drop (A + 1) = O at *
    obtain ⟨_, _, eO, _⟩ := hO
    simp only [Value.slice.injEq] at eO
    obtain ⟨rfl, rfl, rfl⟩ := eO
    have hO : Rd w13 (.slice a13 O.length c13) O := Ow.rd ho13
    have hOb := fun W (hW : Below w13.heap.size w13 W) => hO.below hW (Nat.le_refl _)
    clear ho13 hg13 ho12 hb12 hB12 hpost lcp
    refine (open_any (l := L.set A (L[A] ^^^ τ)) (hT11.below hB13 (Nat.le_refl _)) (by omega)).mono ?_
    rintro e w14 ⟨hor, hb14⟩
    rcases hor with ⟨qs, t', hqs, _, _⟩ | ⟨_, rfl⟩
    · have := HO.out.2.1
      rw [this] at hqs; cases hqs
    have hB14 : Below w13.heap.size w13 w14 := hb14
    have hs11 := hB11.size
    have hs13 := hB13.size
    have hB14w : Below w2.heap.size w2 w14 := hB11.trans ((Below.tr hB13 hb14).mono hs11)
    go_wp2_with fail
    refine (hlc w14 hB14w).mono ?_
    rintro e w15 ⟨v15, rfl, ho15, hb15⟩
    obtain ⟨a15, c15, rfl⟩ := ho15.shape
    have hs14 := hb14.size
    have hs15 := hb15.size
    have ho15' := ho15.alloc
    go_wp2_with (first | (at_builtin; refine wpList_app rfl _ _ rfl w14.heap.size _ L rfl (ho15' _) _ [UInt8.ofNat (y % 256).toNat] rfl (rd_oneH w15 _ ?hh _ _ ?hz _) ?hB ?hlen ?_; rotate_right; intro v16 w16 ho16 hb16 hg16) | fail)
    case hh => rfl
    case hz => rw [M.u8_ofNat]; first | omega | (simp [IntKind.wrap]; omega)
    case hB => rw [World.size_alloc]; omega
    case hlen => simp; omega
    have hB16 : Below w14.heap.size w14 w16 := hb15.trans (((Below.refl w14.heap.size w15).alloc hs15 _).trans hb16)
    have hln16 : (L ++ [UInt8.ofNat (y % 256).toNat]).length ≤ 268435456 := by simp; omega
    have hop16 := open_any ho16.rd hln16
    obtain ⟨a16, c16, e16⟩ := ho16.shape
    rw [List.length_append, List.length_singleton] at e16
    subst e16
    clear ho16 ho15' hb16 hg16 ho15
    go_wp2_with fail
    refine hop16.mono ?_
    rintro e w17 ⟨hor, hb17⟩
    rcases hor with ⟨qs, t', hqs, _, _⟩ | ⟨_, rfl⟩
    · have := HO.out.2.2.1 (UInt8.ofNat (y % 256).toNat)
      rw [this] at hqs; cases hqs
    have hB17 : Below w13.heap.size w13 w17 := Below.tr hB14 (hB16.trans (hb17.mono hB16.size))
    have hB17w : Below w2.heap.size w2 w17 := hB14w.trans ((hB16.trans (hb17.mono hB16.size)).mono hB14w.size)
    have htf := tframe_any (hOb w17 hB17) (by omega)
    clear hop16
    go_wp2_with fail
    refine htf.mono ?_
    rintro e w18 ⟨u1, u2, rfl, ho18, hr18, _, hb18⟩
    have hB18 : Below w13.heap.size w13 w18 := hB17.trans (hb18.mono hB17.size)
    have hB18w : Below w2.heap.size w2 w18 := hB17w.trans (hb18.mono hB17w.size)
    have hBz : Below w.heap.size w w18 := hB2.trans (hB18w.mono hB2s)
    have hsm := same_any (hOb w18 hB18) (hTb w18 hB18w)
    rw [hOne] at hsm
    obtain ⟨a18, c18, rfl⟩ := ho18.shape
    obtain ⟨a19, c19, rfl⟩ := hr18.shape
    have hopn : (M.tf O).2.2 ≠ 0 ∨ (M.tf O).2.1 ≠ [] → M.opn O = none := opn_no
    have hopO := fun k => open_any (hOb (w18.drewN k) (hB18.trans ((Below.dN w18 k).mono hB18.size))) (by omega)
    clear ho18 hr18 htf
    generalize M.tf O = R at *
    obtain ⟨r1, r2, re⟩ := R
    simp only [] at *
    by_cases hre : re = 0
    · subst hre
      by_cases hr2 : r2 = []
      · subst hr2
        simp only [List.length_nil] at *
        clear hopO hopn
        go_wp2_with fail
        refine hsm.mono ?_
        rintro e w19 ⟨rfl, n19, rfl⟩
        go_wp2_with fail
        go_ret
        exact ⟨rfl, hBz.trans ((Below.dN w18 _).mono hBz.size)⟩
      · have hpo : 0 < r2.length := List.length_pos_iff.2 hr2
        have hno := hopn (.inr hr2)
        go_wp2_with fail
        refine hsm.mono ?_
        rintro e w19 ⟨rfl, n19, rfl⟩
        go_wp2_with fail
        refine (hopO n19).mono ?_
        rintro e w20 ⟨hor, hb20⟩
        rcases hor with ⟨qs, t', hqs, _, _⟩ | ⟨_, rfl⟩
        · rw [hno] at hqs; cases hqs
        go_wp2_with fail
        go_ret
        exact ⟨rfl, hBz.trans ((Below.tr (Below.dN w18 _) hb20).mono hBz.size)⟩
    · have hne : (((re : Nat) : Int) != 0) = true := by simp; omega
      have hno := hopn (.inl hre)
      go_wp2_with fail
      refine hsm.mono ?_
      rintro e w19 ⟨rfl, n19, rfl⟩
      go_wp2_with fail
      refine (hopO n19).mono ?_
      rintro e w20 ⟨hor, hb20⟩
      rcases hor with ⟨qs, t', hqs, _, _⟩ | ⟨_, rfl⟩
      · rw [hno] at hqs; cases hqs
      go_wp2_with fail
      go_ret
      exact ⟨rfl, hBz.trans ((Below.tr (Below.dN w18 _) hb20).mono hBz.size)⟩

theorem back_walk {v : Value} {ps : List P3} {w : World} (hr : RdQ w v ps) (hl : totP ps ≤ 1048576) (x : Int) (hx : -9223372036854775808 ≤ x ∧ x ≤ 9223372036854775807) (y : Int) (hy : -9223372036854775808 ≤ y ∧ y ≤ 9223372036854775807) :
    Calls Try.prog 6 #[v, .int .i64 x, .int .i64 y] w fun e w' => e = .returned (.bool true) ∧ Below w.heap.size w w' := by
  by_cases h : M.ris ps = true
  · exact back_yes hr hl h x y
  · exact back_no hr hl (by simpa using h) x y
end Go.Proofs.Ytdfhhliapcdebaa
