/- What the document's own Within and Range answer. -/
import Derived.Test.YtdaedglfefkeoaaG5
import Derived.Test.YtdaedglfefkeoaaG2
import Derived.Test.YtdaedglfefkeoaaG3
import Derived.Test.YtdaedglfefkeoaaG1
import Derived.Test.YtdaedglfefkeoaaG4
namespace Go.Proofs.Ytdaedglfefkeoaa
open Go.RowKit
set_option linter.unusedVariables false
set_option maxRecDepth 100000

/-- Is the key from one on and below another one? -/
def wthn (fr till k : List UInt8) : Bool := decide (0 ≤ M.cmpL k fr) && (decide (till.length = 0) || decide (M.cmpL k till < 0))

theorem within_any {kv fv tv : Value} {k fr till : List UInt8} {w : World} (hk : Rd w kv k) (hf : Rd w fv fr) (ht : Rd w tv till) :
    Calls Try.prog 43 #[kv, fv, tv] w fun e w' => e = .returned (.bool (wthn fr till k)) ∧ ∃ n, w' = w.drewN n := by
  have c1 := rcmp_any hk hf
  have c2 := fun n => rcmp_any (hk.drewN n) (ht.drewN n)
  unfold wthn
  obtain ⟨ak, ck, rfl, _⟩ := hk
  obtain ⟨af, cf, rfl, _⟩ := hf
  obtain ⟨at_, ct, rfl, _⟩ := ht
  generalize M.cmpL k fr = z1 at *
  generalize M.cmpL k till = z2 at *
  by_cases h1 : 0 ≤ z1
  · have h1d : decide (0 ≤ z1) = true := decide_eq_true h1
    by_cases h2 : till.length = 0
    · have hT : (decide (0 ≤ z1) && (decide (till.length = 0) || decide (z2 < 0))) = true := by simp [h1, h2]
      rw [hT]
      obtain rfl := List.length_eq_zero_iff.1 h2
      clear hT h2 c2
      simp only [List.length_nil] at *
      go_enter Try.func43, Try.ntmps43
      go_wp2_with fail
      refine c1.mono ?_
      rintro e w1 ⟨rfl, n1, rfl⟩
      go_wp2_with fail
      go_ret
      exact ⟨rfl, _, rfl⟩
    · have h2p : 0 < till.length := by omega
      have hlq : (((till.length : Nat) : Int) == 0) = false := by rw [beq_eq_false_iff_ne]; omega
      have hT : (decide (0 ≤ z1) && (decide (till.length = 0) || decide (z2 < 0))) = decide (z2 < 0) := by simp [h1, h2]
      rw [hT]
      clear hT h2
      go_enter Try.func43, Try.ntmps43
      go_wp2_with fail
      refine c1.mono ?_
      rintro e w1 ⟨rfl, n1, rfl⟩
      go_wp2_with fail
      refine (c2 n1).mono ?_
      rintro e w2 ⟨rfl, n2, rfl⟩
      go_wp2_with fail
      go_ret
      exact ⟨rfl, _, rfl⟩
  · have hT : (decide (0 ≤ z1) && (decide (till.length = 0) || decide (z2 < 0))) = false := by simp [h1]
    have h1n : z1 < 0 := by omega
    rw [hT]
    clear hT c2
    go_enter Try.func43, Try.ntmps43
    go_wp2_with fail
    refine c1.mono ?_
    rintro e w1 ⟨rfl, n1, rfl⟩
    go_wp2_with fail
    go_ret
    exact ⟨rfl, _, rfl⟩

theorem filter_all {α : Type} {p : α → Bool} {l : List α} (h : ∀ (i : Nat) x, l[i]? = some x → p x = true) : l.filter p = l := List.filter_eq_self.2 (fun x hx => by
  obtain ⟨i, hi, rfl⟩ := List.getElem_of_mem hx
  exact h i _ (by simp [hi]))
theorem filter_none {α : Type} {p : α → Bool} {l : List α} (h : ∀ (i : Nat) x, l[i]? = some x → p x = false) : l.filter p = [] := List.filter_eq_nil_iff.2 (fun x hx => by
  obtain ⟨i, hi, rfl⟩ := List.getElem_of_mem hx
  rw [h i _ (by simp [hi])]; simp)
theorem rng_filter {ps : List P3} (h : M.ris ps = true) (fr till : List UInt8) : ps.filter (fun p => wthn fr till p.1) = rng ps fr till := by
  have hf := M.plK_le ps fr
  have hg := M.plK_le ps till
  have e1 : (ps.take (M.plK ps fr)).filter (fun p => wthn fr till p.1) = [] := filter_none (fun i x hx => by
    have hi : i < M.plK ps fr := by have := (List.getElem?_eq_some_iff.1 hx).1; simp at this; omega
    rw [List.getElem?_take_of_lt hi] at hx
    have := M.plK_lt hi hx
    unfold wthn
    rw [decide_eq_false (by omega)]; rfl)
  have e0 : ps.filter (fun p => wthn fr till p.1) = (ps.drop (M.plK ps fr)).filter (fun p => wthn fr till p.1) := by
    conv => lhs; rw [← List.take_append_drop (M.plK ps fr) ps, List.filter_append, e1, List.nil_append]
  rw [e0]
  unfold rng
  by_cases ht : till.length = 0
  · rw [if_pos ht, List.take_length]
    refine filter_all (fun i x hx => ?_)
    rw [List.getElem?_drop] at hx
    have := M.plK_all h (k := fr) (by omega) hx
    unfold wthn
    rw [decide_eq_true this, decide_eq_true ht]; rfl
  · rw [if_neg ht]
    rcases Nat.lt_or_ge (M.plK ps till) (M.plK ps fr) with q | q
    · have hx : (ps.take (M.plK ps till)).drop (M.plK ps fr) = [] := List.drop_eq_nil_of_le (by rw [List.length_take]; omega)
      rw [hx]
      refine filter_none (fun i x hx => ?_)
      rw [List.getElem?_drop] at hx
      have := M.plK_all h (k := till) (by omega) hx
      unfold wthn
      rw [decide_eq_false ht, decide_eq_false (show ¬ M.cmpL x.1 till < 0 by omega)]; simp
    · have e2 : ps.drop (M.plK ps fr) = (ps.take (M.plK ps till)).drop (M.plK ps fr) ++ ps.drop (M.plK ps till) := by
        have h1 : (ps.take (M.plK ps till) ++ ps.drop (M.plK ps till)).drop (M.plK ps fr) = (ps.take (M.plK ps till)).drop (M.plK ps fr) ++ ps.drop (M.plK ps till) := List.drop_append_of_le_length (by rw [List.length_take]; omega)
        rw [List.take_append_drop] at h1
        exact h1
      rw [e2, List.filter_append]
      have e3 : ((ps.take (M.plK ps till)).drop (M.plK ps fr)).filter (fun p => wthn fr till p.1) = (ps.take (M.plK ps till)).drop (M.plK ps fr) := filter_all (fun i x hx => by
        rw [List.getElem?_drop] at hx
        have hi : M.plK ps fr + i < M.plK ps till := by have := (List.getElem?_eq_some_iff.1 hx).1; simp at this; omega
        rw [List.getElem?_take_of_lt hi] at hx
        have h1 := M.plK_all h (k := fr) (by omega) hx
        have h2 := M.plK_lt hi hx
        unfold wthn
        rw [decide_eq_true h1, decide_eq_true h2]; simp)
      have e4 : (ps.drop (M.plK ps till)).filter (fun p => wthn fr till p.1) = [] := filter_none (fun i x hx => by
        rw [List.getElem?_drop] at hx
        have := M.plK_all h (k := till) (by omega) hx
        unfold wthn
        rw [decide_eq_false ht, decide_eq_false (show ¬ M.cmpL x.1 till < 0 by omega)]; simp)
      rw [e3, e4, List.append_nil]

/-- An array of pairs whose slices lie elsewhere. -/
structure RwQ (B : Nat) (w0 w : World) (v : Value) (ps : List P3) (us : List V3) : Prop where
  row : w.ownsRow B 48 3 v us.length (q3s us)
  len : us.length = ps.length
  el : ∀ (i : Nat) (u : V3) (p : P3), us[i]? = some u → ps[i]? = some p → Rd w0 u.1 p.1 ∧ Rd w0 u.2.1 p.2.1 ∧ u.2.2 = p.2.2
theorem RwQ.nil (B : Nat) (w0 w : World) : RwQ B w0 w (.slice none 0 0) [] [] := ⟨World.ownsRow_nil _ _ _ _, rfl, by simp⟩
theorem RwQ.rdq {B : Nat} {w0 w : World} {v : Value} {ps : List P3} {us : List V3} (h : RwQ B w0 w v ps us) (hb : Below w0.heap.size w0 w) : RdQ w v ps := by
  obtain ⟨a, c, e, h1, h2, h3, h4⟩ := row_reads h.row
  have hl := h.len
  refine ⟨a, c, by rw [e, hl], by omega, h2, fun i p hp => ?_⟩
  have hi : i < us.length := by have := (List.getElem?_eq_some_iff.1 hp).1; omega
  have hu : us[i]? = some us[i] := by simp [hi]
  obtain ⟨e0, e1, e2⟩ := q3s_at us i _ hu
  have hE := h.el i _ p hu hp
  obtain ⟨g, rfl, g0⟩ := h4 _ _ e0
  have k : ∀ j u, (q3s us)[j]? = some u → w.cell? ⟨g, j, none⟩ = some u := fun j u q => by
    obtain ⟨g', eg, g1⟩ := h4 j u q
    simp only [Option.some.injEq, Addr.mk.injEq, and_true] at eg
    rw [eg]; exact g1
  have ea : (⟨g, 0, none⟩ : Addr).add (i * 3) = ⟨g, i * 3, none⟩ := by rw [Addr.add_lit, Nat.zero_add]
  refine ⟨⟨g, 0, none⟩, us[i].1, us[i].2.1, rfl, ?_⟩
  rw [ea]
  exact ⟨g0, k _ _ e1, by rw [← hE.2.2]; exact k _ _ e2, hE.1.below hb (Nat.le_refl _), hE.2.1.below hb (Nat.le_refl _)⟩
theorem RwQ.snoc {B : Nat} {w0 w w' : World} {v v' : Value} {ps : List P3} {us : List V3} {u : V3} {p : P3} (h : RwQ B w0 w v ps us) (hu : Rd w0 u.1 p.1 ∧ Rd w0 u.2.1 p.2.1 ∧ u.2.2 = p.2.2) (hrow : w'.ownsRow B 48 3 v' (us ++ [u]).length (q3s (us ++ [u]))) : RwQ B w0 w' v' (ps ++ [p]) (us ++ [u]) := by
  refine ⟨hrow, by simp [h.len], fun i x q e1 e2 => ?_⟩
  have hl := h.len
  by_cases hi : i < us.length
  · rw [List.getElem?_append_left hi] at e1
    rw [List.getElem?_append_left (by omega)] at e2
    exact h.el i x q e1 e2
  · rw [List.getElem?_append_right (by omega)] at e1
    rw [List.getElem?_append_right (by omega), ← hl] at e2
    cases hd : i - us.length with
    | zero => rw [hd] at e1 e2; simp at e1 e2; subst e1; subst e2; exact hu
    | succ j => rw [hd] at e1; simp at e1

theorem take_filter (ps : List P3) (f : P3 → Bool) (k : Nat) (p : P3) (h : ps[k]? = some p) : (ps.take (k + 1)).filter f = (ps.take k).filter f ++ (if f p then [p] else []) := by
  rw [take_snocP ps k p h, List.filter_append]
  simp [List.filter_cons]

set_option maxHeartbeats 1000000 in
theorem rrange_any {v fv tv : Value} {ps : List P3} {fr till : List UInt8} {w : World} (h : RdQ w v ps) (hf : Rd w fv fr) (ht : Rd w tv till) (hU : M.ris ps = true) (hl : totP ps ≤ 4194304) :
    Calls Try.prog 22 #[v, fv, tv] w fun e w' => ∃ v', e = .returned v' ∧ RdQ w' v' (rng ps fr till) ∧ Below w.heap.size w w' := by
  have hpl := totP_len ps
  have hwi := fun W (hW : Below w.heap.size w W) (kv : Value) (k : List UInt8) (hk : Rd W kv k) => within_any hk (hf.below hW (Nat.le_refl _)) (ht.below hW (Nat.le_refl _))
  have HF : Hid _ := rng_filter hU fr till
  obtain ⟨ao, c, rfl, h1, h2, h4⟩ := h
  unfold maxLen at h2
  obtain ⟨af, cf, rfl, _⟩ := hf
  obtain ⟨at_, ct, rfl, _⟩ := ht
  go_enter Try.func22, Try.ntmps22
  go_wp2_with fail
  go_loopw [7, 8] (fun out i wr => ∃ (k : Nat) (us : List V3), k ≤ ps.length ∧ i = .int .i64 k ∧ RwQ w.heap.size w wr out ((ps.take k).filter (fun p => wthn fr till p.1)) us ∧ us.length ≤ k ∧ Below w.heap.size w wr) (fun _ i _ => ps.length - (intOf i).toNat)
  case atStart => exact ⟨0, [], Nat.zero_le _, rfl, RwQ.nil _ _ _, Nat.zero_le _, Below.refl _ _⟩
  case round =>
    obtain ⟨k, us, hk, rfl, ho, hul, hb⟩ := hrel
    have hbs := hb.size
    by_cases hlt : k < ps.length
    · obtain ⟨p, hp⟩ : ∃ p, ps[k]? = some p := ⟨_, List.getElem?_eq_getElem hlt⟩
      obtain ⟨a, u1, u2, rfl, hpa⟩ := h4 k p hp
      have hpr := hpa.below hb (Nat.le_refl _)
      have hw := hwi wr hb u1 p.1 hpr.r1
      have c0 := hpr.c0
      have kc : ∀ n, (wr.drewN n).cell? (a.add (k * 3)) = some u1 ∧ (wr.drewN n).cell? ⟨(a.add (k * 3)).block, (a.add (k * 3)).off + 1, none⟩ = some u2 ∧ (wr.drewN n).cell? ⟨(a.add (k * 3)).block, (a.add (k * 3)).off + 2, none⟩ = some (.bool p.2.2) := fun n => ⟨hpr.c0, hpr.c1, hpr.c2⟩
      have HT : Hid _ := take_filter ps (fun p => wthn fr till p.1) k p hp
      have hel : Rd w u1 p.1 ∧ Rd w u2 p.2.1 ∧ p.2.2 = p.2.2 := ⟨hpa.r1, hpa.r2, rfl⟩
      have HE : Hid _ := hel
      obtain ⟨x1, y1, rfl, _⟩ := hpr.r1
      obtain ⟨x2, y2, rfl, _⟩ := hpr.r2
      obtain ⟨xo, no, yo, eo⟩ := row_shape ho.row
      subst eo
      have hki : (k : Int) < (ps.length : Int) := by omega
      clear h4 hpa hp hpr hel
      cases hwt : wthn fr till p.1 with
      | false =>
        rw [hwt] at hw
        go_wp2_with fail
        refine hw.mono ?_
        rintro e w1 ⟨rfl, n1, rfl⟩
        go_wp2_with fail
        refine ⟨⟨k + 1, us, by omega, by go_num, ?_, by omega, hb.trans ((Below.dN wr n1).mono hbs)⟩, by simp [intOf]; omega⟩
        rw [HT.out, hwt]
        simp only [Bool.false_eq_true, if_false, List.append_nil]
        exact ⟨ownsRow_belW ho.row (Below.dN wr n1) (Nat.le_refl _), ho.len, ho.el⟩
      | true =>
        rw [hwt] at hw
        obtain ⟨pk, pv, pg⟩ := p
        simp only [] at *
        go_wp2_with fail
        refine hw.mono ?_
        rintro e w1 ⟨rfl, n1, rfl⟩
        obtain ⟨k0, k1, k2⟩ := kc n1
        have hrw := ownsRow_belW (ownsRow_belW ho.row (Below.dN wr n1) (Nat.le_refl _)) (bel_al (wr.drewN n1) (.cells #[.slice x1 pk.length y1, .slice x2 pv.length y2, .bool pg] 48)) (Nat.le_refl _)
        have hrv := rdV_one (wr.drewN n1) (.slice x1 pk.length y1, .slice x2 pv.length y2, pg) ⟨⟨_, _, _, rfl⟩, _, _, _, rfl⟩ (cs := #[.slice x1 pk.length y1, .slice x2 pv.length y2, .bool pg]) rfl 48
        go_wp2_with (first | (at_builtin; refine wpList_appQ rfl _ _ rfl w.heap.size (.slice xo no yo) us rfl hrw _ [(.slice x1 pk.length y1, .slice x2 pv.length y2, pg)] rfl hrv (by simp; omega) (by simp; omega) ?_; intro v5 w5 ho5 hg5 hv5) | fail)
        have hB5 : Below w.heap.size w w5 := hb.trans ((((Below.dN wr n1).mono hbs)).trans (((Below.refl w.heap.size (wr.drewN n1)).alloc hbs _).trans ((Below.refl w.heap.size _).grown hg5 (by simp; omega) (fun k hk => (World.ownsRow.lt ho.row k hk).1))))
        refine ⟨⟨k + 1, us ++ [(.slice x1 pk.length y1, .slice x2 pv.length y2, pg)], by omega, by go_num, ?_, by simp; omega, hB5⟩, by simp [intOf]; omega⟩
        rw [HT.out, hwt]
        simp only [if_true]
        exact ho.snoc ⟨HE.out.1, HE.out.2.1, rfl⟩ ho5
    · obtain rfl : k = ps.length := by omega
      clear h4
      rw [List.take_length, HF.out] at ho
      go_wp2_with fail
      go_ret
      exact ⟨_, rfl, ho.rdq hb, hb⟩
end Go.Proofs.Ytdaedglfefkeoaa

/- What the document's own insert and Merge answer. -/
namespace Go.Proofs.Ytdaedglfefkeoaa
open Go.RowKit
set_option linter.unusedVariables false
set_option maxRecDepth 100000

section
variable {B : Nat} {w0 w w' : World} {v : Value} {l : List P3} {us : List V3}
theorem RwQ.sl (h : RwQ B w0 w v l us) : ∀ u ∈ us, Sl3 u := fun u hu => by
  obtain ⟨i, hi⟩ := List.mem_iff_getElem?.1 hu
  have hl := (List.getElem?_eq_some_iff.1 hi).1
  have hl2 := h.len
  obtain ⟨r1, r2, _⟩ := h.el i u _ hi (List.getElem?_eq_getElem (by omega))
  obtain ⟨_, _, e1, _⟩ := r1
  obtain ⟨_, _, e2, _⟩ := r2
  exact ⟨⟨_, _, _, e1⟩, _, _, _, e2⟩
theorem RwQ.below {C : Nat} (h : RwQ B w0 w v l us) (hb : Below C w w') (hC : w.heap.size ≤ C) : RwQ B w0 w' v l us := ⟨ownsRow_belW h.row hb hC, h.len, h.el⟩
/-- Its first ones, and the others, as slices that are read. -/
theorem RwQ.rdv_take {ao : Option Addr} {n c : Nat} (h : RwQ B w0 w (.slice ao n c) l us) {k : Nat} (hk : k ≤ us.length) : RdV w (.slice ao k c) (us.take k) := by
  obtain ⟨a, c', e, h1, h2, h3, h4⟩ := row_reads h.row
  simp only [Value.slice.injEq] at e
  obtain ⟨rfl, rfl, rfl⟩ := e
  refine ⟨ao, c, by rw [List.length_take, Nat.min_eq_left hk], fun q => ⟨h3 q, ?_⟩, fun u hu => h.sl u (List.mem_of_mem_take hu), fun j u hu => ?_⟩
  · have := h3 q
    rw [List.length_eq_zero_iff.1 (show us.length = 0 by omega)]; simp
  · have e : (q3s us).take (k * 3) = q3s (us.take k) := fm_take q3_len us k
    rw [← e, List.getElem?_take] at hu
    split at hu
    · obtain ⟨g, rfl, hc⟩ := h4 j u hu
      exact ⟨_, rfl, by rw [Addr.add_lit, Nat.zero_add]; exact hc⟩
    · cases hu
theorem RwQ.rdv_drop {a : Addr} {n c : Nat} (h : RwQ B w0 w (.slice (some a) n c) l us) {k : Nat} (hk : k ≤ us.length) : RdV w (.slice (some (a.add (k * 3))) (us.length - k) (c - k)) (us.drop k) := by
  obtain ⟨a', c', e, h1, h2, h3, h4⟩ := row_reads h.row
  simp only [Value.slice.injEq] at e
  obtain ⟨rfl, rfl, rfl⟩ := e
  refine ⟨some (a.add (k * 3)), c - k, by rw [List.length_drop], (fun q => by cases q), fun u hu => h.sl u (List.mem_of_mem_drop hu), fun j u hu => ⟨_, rfl, ?_⟩⟩
  have e : (q3s us).drop (k * 3) = q3s (us.drop k) := fm_drop q3_len us k
  rw [← e, List.getElem?_drop] at hu
  obtain ⟨g, ea, hc⟩ := h4 _ u hu
  obtain rfl := Option.some.inj ea
  rw [Addr.add_lit, Addr.add_lit, Nat.zero_add]; exact hc
/-- Nothing, as a slice that is read. -/
theorem rdv_none (w : World) (a : Option Addr) (c : Nat) (h : a = none → c = 0) : RdV w (.slice a 0 c) [] := ⟨a, c, rfl, fun q => ⟨h q, rfl⟩, (fun x hx => by cases hx), (fun j u hu => by simp [q3s] at hu)⟩
theorem RwQ.ins {u : V3} {p : P3} {k : Nat} {v' : Value} (h : RwQ B w0 w v l us) (hk : k = M.plK l p.1) (hn : M.isK l p.1 = false) (hu : Rd w0 u.1 p.1 ∧ Rd w0 u.2.1 p.2.1 ∧ u.2.2 = p.2.2) (hrow : w'.ownsRow B 48 3 v' (us.take k ++ [u] ++ us.drop k).length (q3s (us.take k ++ [u] ++ us.drop k))) : RwQ B w0 w' v' (M.ins l p) (us.take k ++ [u] ++ us.drop k) := by
  have hl := h.len
  have hkl := M.plK_le l p.1
  have e : M.ins l p = l.take k ++ [p] ++ l.drop k := by unfold M.ins; rw [hn, hk]; simp
  have ht : (us.take k).length = k := by simp; omega
  have ht2 : (l.take k).length = k := by simp; omega
  refine ⟨hrow, by rw [e]; simp [hl], fun i x q e1 e2 => ?_⟩
  rw [e] at e2
  rw [List.append_assoc] at e1 e2
  by_cases hi : i < k
  · rw [List.getElem?_append_left (by omega), List.getElem?_take, if_pos hi] at e1 e2
    exact h.el i x q e1 e2
  · rw [List.getElem?_append_right (by omega), ht] at e1
    rw [List.getElem?_append_right (by omega), ht2] at e2
    by_cases hi2 : i = k
    · subst hi2
      simp at e1 e2
      subst e1; subst e2; exact hu
    · obtain ⟨j, hj⟩ : ∃ j, i - k = j + 1 := ⟨i - k - 1, by omega⟩
      rw [hj] at e1 e2
      simp only [List.singleton_append, List.getElem?_cons_succ, List.getElem?_drop] at e1 e2
      exact h.el _ x q e1 e2
end

theorem rcmp_q {va vb : Value} {la lb : List UInt8} {w : World} (ha : Rd w va la) (hb : Rd w vb lb) (m q : Nat) : Calls Try.prog 34 #[va, vb] (w.drewN (m + q)) fun e w' => e = .returned (.int .i64 (M.cmpL la lb)) ∧ ∃ n, w' = w.drewN (m + n) := by
  refine (rcmp_any (ha.drewN (m + q)) (hb.drewN (m + q))).mono ?_
  rintro _ w' ⟨rfl, n, rfl⟩
  exact ⟨rfl, q + n, by rw [World.drewN_drewN, Nat.add_assoc]⟩

set_option maxHeartbeats 2000000 in
theorem rins_any {w0 w : World} {v x y : Value} {l : List P3} {us : List V3} {p : P3} (h : RwQ w0.heap.size w0 w v l us) (hb : Below w0.heap.size w0 w) (hx : Rd w0 x p.1) (hy : Rd w0 y p.2.1) (hU : M.ris l = true) (hl : l.length ≤ 16777216) :
    Calls Try.prog 47 #[v, .agg #[x, y, .bool p.2.2]] w fun e w' => ∃ v' us', e = .returned v' ∧ RwQ w0.heap.size w0 w' v' (M.ins l p) us' ∧ Below w0.heap.size w0 w' := by
  have hul := h.len
  obtain ⟨ao, c, ev, h1, h2, h3, _⟩ := row_reads h.row
  rw [hul] at ev
  subst ev
  unfold maxLen at h2
  obtain ⟨pk, pv, pg⟩ := p
  simp only [] at hx hy
  have hel : Rd w0 ((x, y, pg) : V3).1 ((pk, pv, pg) : P3).1 ∧ Rd w0 ((x, y, pg) : V3).2.1 ((pk, pv, pg) : P3).2.1 ∧ ((x, y, pg) : V3).2.2 = ((pk, pv, pg) : P3).2.2 := ⟨hx, hy, rfl⟩
  have HE : Hid _ := hel
  clear hel
  have hrq := h.rdq hb
  obtain ⟨ax, cx, rfl, _⟩ := id hx
  obtain ⟨ay, cy, rfl, _⟩ := id hy
  have hbA : Below w.heap.size w (w.alloc (.cells #[.slice ax pk.length cx, .slice ay pv.length cy, .bool pg] 48)) := bel_al w _
  obtain ⟨f0, f1, f2, _⟩ := cells3 (heap_alloc_new w (.cells #[.slice ax pk.length cx, .slice ay pv.length cy, .bool pg] 48))
  go_enter Try.func47, Try.ntmps47
  go_wp2_with fail
  generalize (w.alloc (.cells #[.slice ax pk.length cx, .slice ay pv.length cy, .bool pg] 48)) = W at *
  have hWb := hb.trans (hbA.mono hb.size)
  have hW := h.below hbA (Nat.le_refl _)
  have hxW := hx.below hWb (Nat.le_refl _)
  have hrqW := hrq.below hbA (Nat.le_refl _)
  obtain ⟨ao', c', ev, _, _, h4⟩ := hrqW
  simp only [Value.slice.injEq, true_and] at ev
  obtain ⟨rfl, rfl⟩ := ev
  have hsW : w0.heap.size ≤ W.heap.size := hWb.size
  have HB : Hid _ := And.intro hWb (And.intro hW hU)
  have H7 : ∀ n w7, (W.drewN n).grownBy w7 (Value.slice none 0 0).ownBlock → w7.cell? ⟨w.heap.size, 0, none⟩ = some (.slice ax pk.length cx) ∧ w7.cell? ⟨w.heap.size, 1, none⟩ = some (.slice ay pv.length cy) ∧ w7.cell? ⟨w.heap.size, 2, none⟩ = some (.bool pg) ∧ Below W.heap.size W w7 := fun n w7 hg => by
    have hB7 : Below W.heap.size W w7 := (Below.dN W n).trans ((Below.refl W.heap.size (W.drewN n)).grown hg (Nat.le_refl _) (fun b q => by cases q))
    have kc : ∀ a u, W.cell? a = some u → w7.cell? a = some u := fun a u q => by rw [hB7.cell (World.block_lt_of_cell? _ _ q)]; exact q
    exact ⟨kc _ _ f0, kc _ _ f1, kc _ _ f2, hB7⟩
  have H8 : ∀ (w7 w8 : World) (o : Obj) (v7 : Value), Below W.heap.size W w7 → (w7.alloc o).grownBy w8 v7.ownBlock → (v7.ownBlock = (Value.slice none 0 0).ownBlock ∨ v7.ownBlock = some W.heap.size) → Below W.heap.size W w8 := fun w7 w8 o v7 hb7 hg8 hv7 => by
    have hb := hb7.trans ((bel_al w7 o).mono hb7.size)
    exact hb.trans ((Below.refl W.heap.size (w7.alloc o)).grown hg8 hb.size (fun b q => by
      rcases hv7 with r | r
      · rw [r] at q; cases q
      · rw [r] at q; have := Option.some.inj q; omega))
  have H9 : ∀ (w7 w8 w9 : World) (o : Obj) (v7 v8 : Value), Below W.heap.size W w7 → Below W.heap.size W w8 → w8.grownBy w9 v8.ownBlock → (v7.ownBlock = (Value.slice none 0 0).ownBlock ∨ v7.ownBlock = some W.heap.size) → (v8.ownBlock = v7.ownBlock ∨ v8.ownBlock = some (w7.alloc o).heap.size) → Below W.heap.size W w9 := fun w7 w8 w9 o v7 v8 hb7 hb8 hg9 hv7 hv8 => by
    exact hb8.trans ((Below.refl W.heap.size w8).grown hg9 hb8.size (fun b q => by
      have h7 := hb7.size
      rcases hv8 with r | r
      · rw [r] at q
        rcases hv7 with r | r
        · rw [r] at q; cases q
        · rw [r] at q; have := Option.some.inj q; omega
      · rw [r] at q; have := Option.some.inj q; simp at this; omega))
  clear hWb hbA hb h hrq hx hy hW hU
  go_loopw [5] (fun i wr => ∃ k : Nat, k ≤ l.length ∧ i = .int .i64 k ∧ Hid (∀ j q, j < k → l[j]? = some q → M.cmpL q.1 pk < 0) ∧ ∃ m, wr = W.drewN m) (fun i _ => l.length - (intOf i).toNat)
  case atStart => exact ⟨0, Nat.zero_le _, rfl, (fun j q hj => by omega), 0, rfl⟩
  case round =>
    obtain ⟨k, hk, rfl, HD, m, rfl⟩ := hrel
    by_cases hlt : k < l.length
    · obtain ⟨q, hq⟩ : ∃ q, l[k]? = some q := ⟨_, List.getElem?_eq_getElem hlt⟩
      obtain ⟨a, u1, u2, rfl, hpa⟩ := h4 k q hq
      have hc := fun x => rcmp_q hpa.r1 hxW m x
      have hc0 := fun m x => rcmp_q hpa.r1 hxW m x
      have c0 := hpa.c0
      obtain ⟨a1, b1, rfl, _⟩ := hpa.r1
      have hki : (k : Int) < (l.length : Int) := by omega
      clear h4 hpa
      have HQ : Hid _ := hq
      clear hq
      by_cases hz0 : M.cmpL q.1 pk < 0
      · have HZ : Hid _ := hz0
        clear hc0
        generalize hz : M.cmpL q.1 pk = z at *
        have HZ2 : Hid _ := hz
        clear hz
        go_wp2_with fail
        go_quiet (first | (go_at_call 34; exact hc _) | fail)
        go_wp2_with fail
        refine ⟨⟨k + 1, by omega, by go_num, fun j x hj hx => ?_, m + nq, by simp [World.drewN]⟩, by simp [intOf]; omega⟩
        rcases Nat.lt_or_ge j k with h | h
        · exact HD.out j x h hx
        · obtain rfl : j = k := by omega
          rw [HQ.out] at hx
          obtain rfl := Option.some.inj hx
          rw [HZ2.out]; exact HZ.out
      · have HPL : Hid (k = M.plK l pk) := (M.plK_eq (fun j y hj hy => HD.out j y hj hy) (fun y hy => by rw [HQ.out] at hy; obtain rfl := Option.some.inj hy; exact hz0) hk).symm
        by_cases hze : M.cmpL q.1 pk = 0
        · have HIS : Hid (M.isK l pk = true) := by show _ = _; unfold M.isK; rw [← HPL.out, HQ.out]; simp [hze]
          have hcm := fun m x => (show Calls Try.prog 34 #[.slice a1 q.1.length b1, .slice ax pk.length cx] (W.drewN (m + x)) fun e w' => e = .returned (.int .i64 0) ∧ ∃ n, w' = W.drewN (m + n) from by have := hc0 m x; rw [hze] at this; exact this)
          clear hze hz0 hc0 hc
          go_wp2_with fail
          go_quiet (first | (go_at_call 34; exact hcm _ _) | fail)
          go_wp2_with fail
          go_quiet (first | (go_at_call 34; exact hcm _ _) | fail)
          go_wp2_with fail
          go_ret
          have hbn : ∀ n, Below W.heap.size W (W.drewN n) := fun n => Below.dN W n
          simp only [World.drewN_drewN]
          refine ⟨_, us, rfl, ?_, ?_⟩
          · have e : M.ins l (pk, pv, pg) = l := by unfold M.ins; rw [if_pos HIS.out]
            rw [e]
            exact HB.out.2.1.below (hbn _) (Nat.le_refl _)
          · exact HB.out.1.trans ((hbn _).mono hsW)
        · have HIS : Hid (M.isK l pk = false) := by show _ = _; unfold M.isK; rw [← HPL.out, HQ.out]; simp [hze]
          have hzp : 0 < M.cmpL q.1 pk := by omega
          clear hze hz0 hc
          generalize hz : M.cmpL q.1 pk = z at *
          clear hz
          have hz1 : ¬ z < 0 := by omega
          have hz2 : ¬ z = 0 := by omega
          have hz3 : (z == 0) = false := by simp; omega
          have hku : k ≤ us.length := by omega
          have k1 : (k : Int) ≤ (l.length : Int) := by omega
          have k2 : (l.length : Int) ≤ (c : Int) := by omega
          have k3 : (k : Int) ≤ (c : Int) := by omega
          have k4 : ¬ c = k := by omega
          go_wp2_with fail
          go_quiet (first | (go_at_call 34; exact hc0 _ _) | fail)
          go_wp2_with fail
          go_quiet (first | (go_at_call 34; exact hc0 _ _) | fail)
          go_wp2_with (first
            | (at_builtin; refine wpList_appQ rfl _ _ rfl w0.heap.size (.slice none 0 0) [] rfl (World.ownsRow_nil _ _ _ _) _ (us.take k) rfl ((HB.out.2.1.below (Below.dN W _) (Nat.le_refl _)).rdv_take hku) hsW (by simp; omega) ?_; intro v7 w7 ho7 hg7 hv7; obtain ⟨a7, n7, c7, e7⟩ := row_shape ho7; subst e7; obtain ⟨g0, g1, g2, hb7⟩ := H7 _ w7 hg7)
            | (at_builtin; refine wpList_appQ rfl _ _ rfl w0.heap.size (.slice a7 n7 c7) ([] ++ us.take k) rfl (ownsRow_belW ho7 (bel_al w7 _) (Nat.le_refl _)) _ [((.slice ax pk.length cx, .slice ay pv.length cy, pg) : V3)] rfl (rdV_one w7 ((.slice ax pk.length cx, .slice ay pv.length cy, pg) : V3) ⟨⟨_, _, _, rfl⟩, _, _, _, rfl⟩ rfl _) ?hB8 ?hl8 ?_; rotate_right; intro v8 w8 ho8 hg8 hv8; obtain ⟨a8, n8, c8, e8⟩ := row_shape ho8; subst e8)
            | (at_builtin; refine wpList_appQ rfl _ _ rfl w0.heap.size (.slice a8 n8 c8) ([] ++ us.take k ++ [((.slice ax pk.length cx, .slice ay pv.length cy, pg) : V3)]) rfl ho8 _ (us.drop k) rfl ?hR9 ?hB9 ?hl9 ?_; rotate_right; intro v9 w9 ho9 hg9 hv9)
            | fail)
          case hB8 => have := hb7.size; simp; omega
          case hl8 => simp; omega
          case hB9 => have := hb7.size; have := hg8.size; simp at this; omega
          case hl9 => simp; omega
          case hR9 =>
            have hb8 : Below W.heap.size W w8 := H8 w7 w8 _ _ hb7 hg8 hv7
            have h8 := HB.out.2.1.below hb8 (Nat.le_refl _)
            have := h8.rdv_drop (k := k) hku
            rw [hul] at this
            exact this
          have hb8 : Below W.heap.size W w8 := H8 w7 w8 _ _ hb7 hg8 hv7
          have hb9 : Below W.heap.size W w9 := H9 w7 w8 w9 _ _ _ hb7 hb8 hg9 hv7 hv8
          go_ret
          exact ⟨v9, us.take k ++ [((.slice ax pk.length cx, .slice ay pv.length cy, pg) : V3)] ++ us.drop k, rfl, (HB.out.2.1.below hb8 (Nat.le_refl _)).ins HPL.out HIS.out ⟨HE.out.1, HE.out.2.1, rfl⟩ (by simpa using ho9), HB.out.1.trans (hb9.mono hsW)⟩
    · obtain rfl : k = l.length := by omega
      have HPL : Hid (l.length = M.plK l pk) := (M.plK_eq (fun j y hj hy => HD.out j y hj hy) (fun y hy => by simp at hy) (Nat.le_refl _)).symm
      have HIS : Hid (M.isK l pk = false) := by show _ = _; unfold M.isK; rw [← HPL.out]; simp
      clear h4
      have hku : l.length ≤ us.length := by omega
      have k2 : (l.length : Int) ≤ (c : Int) := by omega
      have hdr : us.drop l.length = [] := List.drop_of_length_le (by omega)
      have HDR : Hid _ := hdr
      clear hdr
      cases ao with
      | none =>
        obtain rfl := h3 rfl
        obtain rfl : l = [] := List.length_eq_zero_iff.1 (by omega)
        obtain rfl : us = [] := List.length_eq_zero_iff.1 (by simpa using hul)
        clear HDR
        simp only [List.length_nil] at *
        go_wp2_with fail
        go_quiet (fail)
        go_wp2_with fail
        go_quiet (fail)
        go_wp2_with (first
          | (at_builtin; refine wpList_appQ rfl _ _ rfl w0.heap.size (.slice none 0 0) [] rfl (World.ownsRow_nil _ _ _ _) _ [] rfl (rdv_none _ _ _ (fun _ => rfl)) hsW (by simp) ?_; intro v7 w7 ho7 hg7 hv7; obtain ⟨a7, n7, c7, e7⟩ := row_shape ho7; subst e7; obtain ⟨g0, g1, g2, hb7⟩ := H7 _ w7 hg7)
          | (at_builtin; refine wpList_appQ rfl _ _ rfl w0.heap.size (.slice a7 n7 c7) ([] ++ []) rfl (ownsRow_belW ho7 (bel_al w7 _) (Nat.le_refl _)) _ [((.slice ax pk.length cx, .slice ay pv.length cy, pg) : V3)] rfl (rdV_one w7 ((.slice ax pk.length cx, .slice ay pv.length cy, pg) : V3) ⟨⟨_, _, _, rfl⟩, _, _, _, rfl⟩ rfl _) ?hB8 ?hl8 ?_; rotate_right; intro v8 w8 ho8 hg8 hv8; obtain ⟨a8, n8, c8, e8⟩ := row_shape ho8; subst e8)
          | (at_builtin; refine wpList_appQ rfl _ _ rfl w0.heap.size (.slice a8 n8 c8) ([] ++ [] ++ [((.slice ax pk.length cx, .slice ay pv.length cy, pg) : V3)]) rfl ho8 _ [] rfl (rdv_none _ _ _ (fun _ => rfl)) ?hB9 ?hl9 ?_; rotate_right; intro v9 w9 ho9 hg9 hv9)
          | fail)
        case hB8 => have := hb7.size; simp; omega
        case hl8 => simp
        case hB9 => have := hb7.size; have := hg8.size; simp at this; omega
        case hl9 => simp
        have hb8 : Below W.heap.size W w8 := H8 w7 w8 _ _ hb7 hg8 hv7
        have hb9 : Below W.heap.size W w9 := H9 w7 w8 w9 _ _ _ hb7 hb8 hg9 hv7 hv8
        go_ret
        exact ⟨v9, [((.slice ax pk.length cx, .slice ay pv.length cy, pg) : V3)], rfl, (HB.out.2.1.below hb8 (Nat.le_refl _)).ins (k := 0) HPL.out HIS.out ⟨HE.out.1, HE.out.2.1, rfl⟩ (by simpa using ho9), HB.out.1.trans (hb9.mono hsW)⟩
      | some ad =>
        by_cases hcl : c = l.length
        · subst hcl
          go_wp2_with fail
          go_quiet (fail)
          go_wp2_with fail
          go_quiet (fail)
          go_wp2_with (first
            | (at_builtin; refine wpList_appQ rfl _ _ rfl w0.heap.size (.slice none 0 0) [] rfl (World.ownsRow_nil _ _ _ _) _ (us.take l.length) rfl ((HB.out.2.1.below (Below.dN W _) (Nat.le_refl _)).rdv_take hku) hsW (by simp; omega) ?_; intro v7 w7 ho7 hg7 hv7; obtain ⟨a7, n7, c7, e7⟩ := row_shape ho7; subst e7; obtain ⟨g0, g1, g2, hb7⟩ := H7 _ w7 hg7)
            | (at_builtin; refine wpList_appQ rfl _ _ rfl w0.heap.size (.slice a7 n7 c7) ([] ++ us.take l.length) rfl (ownsRow_belW ho7 (bel_al w7 _) (Nat.le_refl _)) _ [((.slice ax pk.length cx, .slice ay pv.length cy, pg) : V3)] rfl (rdV_one w7 ((.slice ax pk.length cx, .slice ay pv.length cy, pg) : V3) ⟨⟨_, _, _, rfl⟩, _, _, _, rfl⟩ rfl _) ?hB8 ?hl8 ?_; rotate_right; intro v8 w8 ho8 hg8 hv8; obtain ⟨a8, n8, c8, e8⟩ := row_shape ho8; subst e8)
            | (at_builtin; refine wpList_appQ rfl _ _ rfl w0.heap.size (.slice a8 n8 c8) ([] ++ us.take l.length ++ [((.slice ax pk.length cx, .slice ay pv.length cy, pg) : V3)]) rfl ho8 _ (us.drop l.length) rfl ?hR9 ?hB9 ?hl9 ?_; rotate_right; intro v9 w9 ho9 hg9 hv9)
            | fail)
          case hB8 => have := hb7.size; simp; omega
          case hl8 => simp; omega
          case hB9 => have := hb7.size; have := hg8.size; simp at this; omega
          case hl9 => simp; omega
          case hR9 =>
            have hb8 : Below W.heap.size W w8 := H8 w7 w8 _ _ hb7 hg8 hv7
            have h8 := HB.out.2.1.below hb8 (Nat.le_refl _)
            rw [HDR.out]
            exact rdv_none _ _ _ (by simp)
          have hb8 : Below W.heap.size W w8 := H8 w7 w8 _ _ hb7 hg8 hv7
          have hb9 : Below W.heap.size W w9 := H9 w7 w8 w9 _ _ _ hb7 hb8 hg9 hv7 hv8
          go_ret
          exact ⟨v9, us.take l.length ++ [((.slice ax pk.length cx, .slice ay pv.length cy, pg) : V3)] ++ us.drop l.length, rfl, (HB.out.2.1.below hb8 (Nat.le_refl _)).ins HPL.out HIS.out ⟨HE.out.1, HE.out.2.1, rfl⟩ (by simpa using ho9), HB.out.1.trans (hb9.mono hsW)⟩
        · go_wp2_with fail
          go_quiet (fail)
          go_wp2_with fail
          go_quiet (fail)
          go_wp2_with (first
            | (at_builtin; refine wpList_appQ rfl _ _ rfl w0.heap.size (.slice none 0 0) [] rfl (World.ownsRow_nil _ _ _ _) _ (us.take l.length) rfl ((HB.out.2.1.below (Below.dN W _) (Nat.le_refl _)).rdv_take hku) hsW (by simp; omega) ?_; intro v7 w7 ho7 hg7 hv7; obtain ⟨a7, n7, c7, e7⟩ := row_shape ho7; subst e7; obtain ⟨g0, g1, g2, hb7⟩ := H7 _ w7 hg7)
            | (at_builtin; refine wpList_appQ rfl _ _ rfl w0.heap.size (.slice a7 n7 c7) ([] ++ us.take l.length) rfl (ownsRow_belW ho7 (bel_al w7 _) (Nat.le_refl _)) _ [((.slice ax pk.length cx, .slice ay pv.length cy, pg) : V3)] rfl (rdV_one w7 ((.slice ax pk.length cx, .slice ay pv.length cy, pg) : V3) ⟨⟨_, _, _, rfl⟩, _, _, _, rfl⟩ rfl _) ?hB8 ?hl8 ?_; rotate_right; intro v8 w8 ho8 hg8 hv8; obtain ⟨a8, n8, c8, e8⟩ := row_shape ho8; subst e8)
            | (at_builtin; refine wpList_appQ rfl _ _ rfl w0.heap.size (.slice a8 n8 c8) ([] ++ us.take l.length ++ [((.slice ax pk.length cx, .slice ay pv.length cy, pg) : V3)]) rfl ho8 _ (us.drop l.length) rfl ?hR9 ?hB9 ?hl9 ?_; rotate_right; intro v9 w9 ho9 hg9 hv9)
            | fail)
          case hB8 => have := hb7.size; simp; omega
          case hl8 => simp; omega
          case hB9 => have := hb7.size; have := hg8.size; simp at this; omega
          case hl9 => simp; omega
          case hR9 =>
            have hb8 : Below W.heap.size W w8 := H8 w7 w8 _ _ hb7 hg8 hv7
            have h8 := HB.out.2.1.below hb8 (Nat.le_refl _)
            rw [HDR.out]
            exact rdv_none _ _ _ (by simp)
          have hb8 : Below W.heap.size W w8 := H8 w7 w8 _ _ hb7 hg8 hv7
          have hb9 : Below W.heap.size W w9 := H9 w7 w8 w9 _ _ _ hb7 hb8 hg9 hv7 hv8
          go_ret
          exact ⟨v9, us.take l.length ++ [((.slice ax pk.length cx, .slice ay pv.length cy, pg) : V3)] ++ us.drop l.length, rfl, (HB.out.2.1.below hb8 (Nat.le_refl _)).ins HPL.out HIS.out ⟨HE.out.1, HE.out.2.1, rfl⟩ (by simpa using ho9), HB.out.1.trans (hb9.mono hsW)⟩
end Go.Proofs.Ytdaedglfefkeoaa

/- What the document's own Merge answers of lists of pairs. -/
namespace Go.Proofs.Ytdaedglfefkeoaa
open Go.RowKit
set_option linter.unusedVariables false
set_option maxRecDepth 100000

theorem totP_app (a b : List P3) : totP (a ++ b) = totP a + totP b := by
  induction a with
  | nil => simp [totP]
  | cons x r ih => rw [List.cons_append, totP, totP, ih]; omega
theorem totP_flat (Ls : List (List P3)) : totP Ls.flatten = (Ls.map totP).sum := by
  induction Ls with
  | nil => rfl
  | cons x r ih => rw [List.flatten_cons, totP_app, ih]; rfl
theorem ins_tot (l : List P3) (p : P3) : totP (M.ins l p) ≤ totP l + totP [p] := by
  unfold M.ins
  split
  · omega
  · have h := totP_app (l.take (M.plK l p.1)) (l.drop (M.plK l p.1))
    rw [List.take_append_drop] at h
    rw [totP_app, show p :: l.drop (M.plK l p.1) = [p] ++ l.drop (M.plK l p.1) from rfl, totP_app]
    omega
theorem mgF_tot (xs : List P3) : totP (M.mgF xs) ≤ totP xs := by
  suffices h : ∀ (xs acc : List P3), totP (xs.foldl M.ins acc) ≤ totP acc + totP xs by
    have := h xs []
    unfold M.mgF
    simp only [totP] at this
    omega
  intro xs
  induction xs with
  | nil => intro acc; simp [totP]
  | cons x r ih =>
    intro acc
    have h1 := ih (M.ins acc x)
    have h2 := ins_tot acc x
    have h3 : totP (x :: r) = totP [x] + totP r := totP_app [x] r
    rw [List.foldl_cons]
    omega
theorem mgF_ris (xs : List P3) : M.ris (M.mgF xs) = true := by
  have := (M.mgF_is [xs]).1
  simpa using this

/-- The slice value v reads as these lists of pairs. -/
def RdL (w : World) (v : Value) (Ls : List (List P3)) : Prop :=
  ∃ ao c, v = .slice ao Ls.length c ∧ Ls.length ≤ c ∧ c ≤ maxLen ∧ ∀ i L, Ls[i]? = some L → ∃ a u, ao = some a ∧ w.cell? (a.add i) = some u ∧ RdQ w u L
theorem RdL.below {B : Nat} {w w' : World} {v : Value} {Ls : List (List P3)} (h : RdL w v Ls) (hb : Below B w w') (hB : w.heap.size ≤ B) : RdL w' v Ls := by
  obtain ⟨ao, c, h0, h1, h2, h4⟩ := h
  refine ⟨ao, c, h0, h1, h2, fun i L hi => ?_⟩
  obtain ⟨a, u, e, hc, hq⟩ := h4 i L hi
  exact ⟨a, u, e, by rw [hb.cell (by have := World.block_lt_of_cell? w _ hc; omega)]; exact hc, hq.below hb hB⟩
theorem flat_snoc (Ls : List (List P3)) (i : Nat) (L : List P3) (h : Ls[i]? = some L) : (Ls.take (i + 1)).flatten = (Ls.take i).flatten ++ L := by
  rw [List.take_add_one, h]; simp
theorem flat_tot (Ls : List (List P3)) (i k : Nat) (L : List P3) (h : Ls[i]? = some L) : totP ((Ls.take i).flatten ++ L.take k) ≤ (Ls.map totP).sum := by
  have h1 : Ls = Ls.take i ++ L :: Ls.drop (i + 1) := by
    obtain ⟨hi, e⟩ := List.getElem?_eq_some_iff.1 h
    have := List.drop_eq_getElem_cons hi
    rw [e] at this
    rw [← this, List.take_append_drop]
  have h2 := totP_flat (Ls.take i)
  have h3 := totP_app (L.take k) (L.drop k)
  rw [List.take_append_drop] at h3
  rw [totP_app, h2]
  conv => rhs; rw [h1]
  simp only [List.map_append, List.sum_append, List.map_cons, List.sum_cons]
  omega

set_option maxHeartbeats 1000000 in
theorem rmerge_any {w : World} {v : Value} {Ls : List (List P3)} (h : RdL w v Ls) (hl : (Ls.map totP).sum ≤ 16777216) :
    Calls Try.prog 26 #[v] w fun e w' => ∃ u, e = .returned u ∧ RdQ w' u (M.mgF Ls.flatten) ∧ Below w.heap.size w w' := by
  obtain ⟨ao, c, rfl, h1, h2, h4⟩ := h
  unfold maxLen at h2
  go_enter Try.func26, Try.ntmps26
  go_wp2_with fail
  go_loopw [3, 4, 5] (fun o i _ wr => ∃ (n : Nat) (us : List V3), n ≤ Ls.length ∧ i = .int .i64 n ∧ Hid (RwQ w.heap.size w wr o (M.mgF (Ls.take n).flatten) us) ∧ Below w.heap.size w wr) (fun _ i _ _ => Ls.length - (intOf i).toNat)
  case atStart => exact ⟨0, [], Nat.zero_le _, rfl, RwQ.nil _ _ _, Below.refl _ _⟩
  case round =>
    obtain ⟨n, us0, hn, rfl, HR0, hb0⟩ := hrel
    generalize wr = wA at *
    by_cases hlt : n < Ls.length
    · obtain ⟨L, hL⟩ : ∃ L, Ls[n]? = some L := ⟨_, List.getElem?_eq_getElem hlt⟩
      obtain ⟨a, lu, rfl, hc, hq⟩ := h4 n L hL
      have hcw : ∀ W, Below w.heap.size w W → W.cell? (a.add n) = some lu := fun W hW => by rw [hW.cell (World.block_lt_of_cell? _ _ hc)]; exact hc
      have hni : (n : Int) < (Ls.length : Int) := by omega
      obtain ⟨lo, lc, rfl, q1, q2, q4⟩ := hq
      unfold maxLen at q2
      have HF : Hid _ := flat_snoc Ls n L hL
      have HT : Hid _ := fun k => flat_tot Ls n k L hL
      obtain ⟨xo, no, yo, eo⟩ := row_shape HR0.out.row
      subst eo
      clear h4 hc hL
      go_wp2_with fail
      go_loopw [3, 5] (fun o k wr => ∃ (m : Nat) (us : List V3), m ≤ L.length ∧ k = .int .i64 m ∧ Hid (RwQ w.heap.size w wr o (M.mgF ((Ls.take n).flatten ++ L.take m)) us) ∧ Below w.heap.size w wr) (fun _ k _ => L.length - (intOf k).toNat)
      case atStart => exact ⟨0, us0, Nat.zero_le _, rfl, by show RwQ _ _ _ _ _ _; simpa using HR0.out, hb0⟩
      case round =>
        obtain ⟨m, us, hm, rfl, HR, hb⟩ := hrel
        have c1 := hcw wr hb
        by_cases hmt : m < L.length
        · obtain ⟨p, hp⟩ : ∃ p, L[m]? = some p := ⟨_, List.getElem?_eq_getElem hmt⟩
          obtain ⟨al, u1, u2, rfl, hpa⟩ := q4 m p hp
          have hpr := hpa.below hb (Nat.le_refl _)
          have c2 := hpr.c0
          have c3 := hpr.c1
          have c4 := hpr.c2
          have htl : 3 * (M.mgF ((Ls.take n).flatten ++ L.take m)).length ≤ 16777216 := by
            have t1 := totP_len (M.mgF ((Ls.take n).flatten ++ L.take m))
            have t2 := mgF_tot ((Ls.take n).flatten ++ L.take m)
            have t3 := HT.out m
            omega
          have hin := rins_any (p := p) HR.out hb hpa.r1 hpa.r2 (mgF_ris _) (by omega)
          have HS : Hid (M.ins (M.mgF ((Ls.take n).flatten ++ L.take m)) p = M.mgF ((Ls.take n).flatten ++ L.take (m + 1))) := by
            show _ = _
            rw [← M.mgF_snoc, List.append_assoc, List.take_add_one, hp]; rfl
          obtain ⟨x1, y1, rfl, _⟩ := hpa.r1
          obtain ⟨x2, y2, rfl, _⟩ := hpa.r2
          have hmi : (m : Int) < (L.length : Int) := by omega
          obtain ⟨xo, no, yo, eo⟩ := row_shape HR.out.row
          subst eo
          clear q4 hpa hpr hp htl
          go_wp2_with fail
          refine hin.mono ?_
          rintro e w1 ⟨v', us', rfl, k1, k2⟩
          obtain ⟨xo', no', yo', eo⟩ := row_shape k1.row
          subst eo
          go_wp2_with fail
          exact ⟨⟨m + 1, us', by omega, by go_num, by show RwQ _ _ _ _ _ _; rw [← HS.out]; exact k1, k2⟩, by simp [intOf]; omega⟩
        · obtain rfl : m = L.length := by omega
          clear q4
          obtain ⟨xo, no, yo, eo⟩ := row_shape HR.out.row
          subst eo
          go_wp2_with fail
          refine ⟨⟨n + 1, us, by omega, by go_num, ?_, hb⟩, by simp [intOf]; omega⟩
          show RwQ _ _ _ _ _ _
          rw [HF.out]
          have := HR.out
          rwa [List.take_length] at this
    · obtain rfl : n = Ls.length := by omega
      clear h4
      obtain ⟨xo, no, yo, eo⟩ := row_shape HR0.out.row
      subst eo
      go_wp2_with fail
      go_ret
      refine ⟨_, rfl, ?_, hb0⟩
      have := HR0.out.rdq hb0
      rwa [List.take_length] at this
end Go.Proofs.Ytdaedglfefkeoaa

/- How lists of pairs that came in are read: as 'RdL', with a bound on all their bytes by the input's bulk. -/
namespace Go.Proofs.Ytdaedglfefkeoaa
open Go.ChangeShapes Go.WideShapes Go.ChangeAt Go.RowKit
set_option linter.unusedVariables false
set_option maxRecDepth 100000

theorem totL_bulk {H : Type} : ∀ (elems : List (DataW H × List MemPlace)) (Ls : List (List P3)), Ls.length = elems.length → (∀ (i : Nat) (y : DataW H × List MemPlace) (L : List P3), elems[i]? = some y → Ls[i]? = some L → totP L + 1 ≤ Rows.uptoBulk y.1) → (Ls.map totP).sum + Ls.length ≤ Rows.uptoBulkAll (elems.map (·.1))
  | [], [], _, _ => by simp [Rows.uptoBulkAll]
  | y :: ys, L :: Ls, hlen, h => by
    have h0 := h 0 y L rfl rfl
    have ih := totL_bulk ys Ls (by simpa using hlen) (fun i y' l' e1 e2 => h (i + 1) y' l' (by simpa using e1) (by simpa using e2))
    simp only [List.map_cons, List.sum_cons, List.length_cons, Rows.uptoBulkAll]
    omega
/-- Lists of pairs that came in. -/
theorem open_pairss {H : Type} {enc : TypeId × Value → H} {W : World} {a0 : Option Addr} {len cap : Nat} {d : DataW H} {p : List MemPlace} (h : DataW.Trod enc Try.prog W 0 (fun _ => true) true 52 (.slice a0 len cap) d p) :
    ∃ Ls : List (List P3), RdL W (.slice a0 len cap) Ls ∧ (Ls.map totP).sum + Ls.length ≤ Rows.uptoBulk d := by
  obtain ⟨fuel, hf⟩ := h
  have hc1 : Try.prog.cellsOf 22 = 1 := by kernel_rfl
  rcases DataW.trod_slice Try.underlying52 hf with ⟨hcs, hx⟩ | ⟨a, len', cap', elems, rest, n, _, hcs, hx, _, hl, hm, hlen, hel, _, _⟩
  · simp [Value.cells] at hcs
    obtain ⟨rfl, rfl, rfl⟩ := hcs
    exact ⟨[], ⟨none, 0, rfl, by simp, by simp, fun i L hi => by simp at hi⟩, by simp⟩
  · simp [Value.cells] at hcs
    obtain ⟨rfl, rfl, rfl⟩ := hcs
    have each : ∀ i, i < len → ∃ ul : Value × List P3, W.cell? (a.add i) = some ul.1 ∧ RdQ W ul.1 ul.2 ∧ ∀ y, elems[i]? = some y → totP ul.2 + 1 ≤ Rows.uptoBulk y.1 := by
      intro i hi
      have h1 := hel i hi
      rw [hc1, Nat.mul_one, List.getElem?_eq_getElem (by omega), Option.bind_eq_some_iff] at h1
      obtain ⟨cs, h2, h3⟩ := h1
      obtain ⟨u, l, rfl, hr, hb⟩ := open_pairs_cs h3
      refine ⟨(u, l), cell_of_cells?_one h2, hr, fun y hy => ?_⟩
      rw [List.getElem?_eq_getElem (by omega)] at hy
      obtain rfl := Option.some.inj hy
      exact hb
    have hall : ∃ g : Nat → Value × List P3, ∀ i, i < len → W.cell? (a.add i) = some (g i).1 ∧ RdQ W (g i).1 (g i).2 ∧ ∀ y, elems[i]? = some y → totP (g i).2 + 1 ≤ Rows.uptoBulk y.1 := by
      refine ⟨fun i => if h : i < len then Classical.choose (each i h) else (undef, []), fun i hi => ?_⟩
      simp only [dif_pos hi]
      exact Classical.choose_spec (each i hi)
    obtain ⟨g, hg⟩ := hall
    have hgl : ((List.range len).map (fun i => (g i).2)).length = len := by simp
    refine ⟨(List.range len).map (fun i => (g i).2), ⟨some a, cap, by rw [hgl], by omega, hm, fun i L hL => ?_⟩, ?_⟩
    · have hi' : i < len := by have := (List.getElem?_eq_some_iff.1 hL).1; omega
      have e3 : ((List.range len).map (fun i => (g i).2))[i]? = some (g i).2 := by simp [hi']
      rw [e3] at hL
      obtain rfl := Option.some.inj hL
      exact ⟨a, (g i).1, rfl, (hg i hi').1, (hg i hi').2.1⟩
    · have := totL_bulk elems ((List.range len).map (fun i => (g i).2)) (by rw [hgl, hlen]) (fun i y l e1 e2 => by
        have hi : i < len := by have := (List.getElem?_eq_some_iff.1 e1).1; omega
        have e3 : ((List.range len).map (fun i => (g i).2))[i]? = some (g i).2 := by simp [hi]
        rw [e3] at e2
        obtain rfl := Option.some.inj e2
        exact (hg i hi).2.2 y e1)
      have hd : d = .slice (elems.map (·.1)) (rest.map (·.1)) := congrArg Prod.fst hx
      rw [hd]
      simp only [Rows.uptoBulk]
      omega
end Go.Proofs.Ytdaedglfefkeoaa

/- What the law's own 'tables' answers: a table for each list that rises, and these lists. -/
namespace Go.Proofs.Ytdaedglfefkeoaa
open Go.RowKit
set_option linter.unusedVariables false
set_option maxRecDepth 100000

/-- A table whose blocks are of S. -/
def TblS (S : Nat → Prop) (w : World) (t : Value) (ps : List P3) : Prop := ∃ b sv us, t = .pointer (some ⟨b, 0, none⟩) ∧ S b ∧ w.cell? ⟨b, 0, none⟩ = some sv ∧ OwQ 0 w sv ps us ∧ ∀ c, OB sv us c → S c
theorem TblB.tbls {B : Nat} {w : World} {t : Value} {ps : List P3} (h : TblB B w t ps) : TblS (fun b => B ≤ b ∧ b < w.heap.size) w t ps := by
  obtain ⟨b, sv, us, e, hB, hc, ho⟩ := h
  exact ⟨b, sv, us, e, ⟨hB, World.block_lt_of_cell? _ _ hc⟩, hc, ho.mono (Nat.zero_le _), fun c q => ho.ob_lt q⟩
theorem TblS.tbl {S : Nat → Prop} {w : World} {t : Value} {ps : List P3} (h : TblS S w t ps) : Tbl w t ps := by
  obtain ⟨b, sv, us, e, _, hc, ho, _⟩ := h
  exact ⟨b, sv, e, hc, ho.rdq⟩
theorem TblS.keptC {S S' C : Nat → Prop} {w w' : World} {t : Value} {ps : List P3} (h : TblS S w t ps) (hc : Chg C w w') (hS : ∀ b, b < w.heap.size → S b → ¬ C b ∧ S' b) : TblS S' w' t ps := by
  obtain ⟨b, sv, us, e, hb, hcl, ho, hO⟩ := h
  have hbl := World.block_lt_of_cell? _ _ hcl
  refine ⟨b, sv, us, e, (hS b hbl hb).2, ?_, ho.keptC hc (fun c q => (hS c (ho.ob_lt q).2 (hO c q)).1), fun c q => (hS c (ho.ob_lt q).2 (hO c q)).2⟩
  rw [World.cell?_of_block (hc.block b hbl (hS b hbl hb).1)]; exact hcl

/-- The tables and the lists that they are built of. -/
structure TG (w wr : World) (tv gv : Value) (Gs : List (List P3)) (ts gs : List Value) : Prop where
  base : Below w.heap.size w wr
  rt : wr.ownsRow w.heap.size 37 1 tv Gs.length ts
  rg : wr.ownsRow w.heap.size 22 1 gv Gs.length gs
  el : ∀ (i : Nat) t T, ts[i]? = some t → Gs[i]? = some T → TblS (fun b => tv.ownBlock ≠ some b ∧ gv.ownBlock ≠ some b) wr t T
  eg : ∀ (i : Nat) u T, gs[i]? = some u → Gs[i]? = some T → RdQ w u T
  ne : ∀ b, tv.ownBlock = some b → gv.ownBlock ≠ some b
theorem TG.nil (w : World) : TG w w (.slice none 0 0) (.slice none 0 0) [] [] [] := ⟨Below.refl _ _, World.ownsRow_nil _ _ _ _, World.ownsRow_nil _ _ _ _, by simp, by simp, (fun b q => by cases q)⟩
section
variable {w wr w' : World} {tv gv : Value} {Gs : List (List P3)} {ts gs : List Value}
theorem TG.tlen (h : TG w wr tv gv Gs ts gs) : ts.length = Gs.length ∧ gs.length = Gs.length := ⟨by have := h.rt.1; omega, by have := h.rg.1; omega⟩
theorem TG.below (h : TG w wr tv gv Gs ts gs) (hb : Below wr.heap.size wr w') : TG w w' tv gv Gs ts gs :=
  ⟨h.base.trans (hb.mono h.base.size), ownsRow_belW h.rt hb (Nat.le_refl _), ownsRow_belW h.rg hb (Nat.le_refl _), fun i t T e1 e2 => (h.el i t T e1 e2).keptC (Chg.of_below hb) (fun b hl q => ⟨by omega, q⟩), h.eg, h.ne⟩
theorem TG.rdt (h : TG w wr tv gv Gs ts gs) : RdT wr tv Gs := by
  obtain ⟨a, c, e, h1, h2, h3, h4⟩ := row_reads h.rt
  refine ⟨a, c, e, h1, h2, fun i T hT => ?_⟩
  have hi : i < ts.length := by have := (List.getElem?_eq_some_iff.1 hT).1; have := h.tlen.1; omega
  obtain ⟨g, rfl, hc⟩ := h4 i ts[i] (List.getElem?_eq_getElem hi)
  exact ⟨⟨g, 0, none⟩, ts[i], rfl, by rw [Addr.add_lit, Nat.zero_add]; exact hc, .inl (h.el i _ T (List.getElem?_eq_getElem hi) hT).tbl⟩
theorem TG.rdl (h : TG w wr tv gv Gs ts gs) : RdL wr gv Gs := by
  obtain ⟨a, c, e, h1, h2, h3, h4⟩ := row_reads h.rg
  refine ⟨a, c, e, h1, h2, fun i T hT => ?_⟩
  have hi : i < gs.length := by have := (List.getElem?_eq_some_iff.1 hT).1; have := h.tlen.2; omega
  obtain ⟨g, rfl, hc⟩ := h4 i gs[i] (List.getElem?_eq_getElem hi)
  exact ⟨⟨g, 0, none⟩, gs[i], rfl, by rw [Addr.add_lit, Nat.zero_add]; exact hc, (h.eg i _ T (List.getElem?_eq_getElem hi) hT).below h.base (Nat.le_refl _)⟩
theorem getElem_snoc {α : Type} {l : List α} {x y : α} {i : Nat} (h : (l ++ [x])[i]? = some y) : (i < l.length ∧ l[i]? = some y) ∨ (i = l.length ∧ y = x) := by
  by_cases hi : i < l.length
  · rw [List.getElem?_append_left hi] at h; exact .inl ⟨hi, h⟩
  · rw [List.getElem?_append_right (by omega)] at h
    cases hd : i - l.length with
    | zero => rw [hd] at h; simp at h; exact .inr ⟨by omega, h.symm⟩
    | succ j => rw [hd] at h; simp at h
/-- What both lists are, one more in each. -/
theorem TG.add {w3 w4 w6 : World} {o : Obj} {t u tv' gv' : Value} {L : List P3} (h : TG w wr tv gv Gs ts gs) (hb3 : Below wr.heap.size wr w3) (ht : TblS (fun b => wr.heap.size ≤ b ∧ b < w3.heap.size) w3 t L)
    (hr4 : w4.ownsRow w.heap.size 37 1 tv' (Gs.length + 1) (ts ++ [t])) (hg4 : w3.grownBy w4 tv.ownBlock) (hv4 : tv'.ownBlock = tv.ownBlock ∨ tv'.ownBlock = some w3.heap.size)
    (hr6 : w6.ownsRow w.heap.size 22 1 gv' (Gs.length + 1) (gs ++ [u])) (hg6 : (w4.alloc o).grownBy w6 gv.ownBlock) (hv6 : gv'.ownBlock = gv.ownBlock ∨ gv'.ownBlock = some (w4.alloc o).heap.size) (hu : RdQ w u L) : TG w w6 tv' gv' (Gs ++ [L]) (ts ++ [t]) (gs ++ [u]) := by
  have s3 := hb3.size
  have s4 := hg4.size
  have hs5 : (w4.alloc o).heap.size = w4.heap.size + 1 := by simp
  have s6 := hg6.size
  have htl : ∀ b, tv.ownBlock = some b → w.heap.size ≤ b ∧ b < wr.heap.size := fun b q => World.ownsRow.lt h.rt b q
  have hgl : ∀ b, gv.ownBlock = some b → w.heap.size ≤ b ∧ b < wr.heap.size := fun b q => World.ownsRow.lt h.rg b q
  have hc46 : Chg (fun b => gv.ownBlock = some b) w4 w6 := ((Chg.refl (fun b => gv.ownBlock = some b) w4).alloc o).trans (Chg.of_grown hg6 (fun b e _ => .inl e))
  have hc36 : Chg (fun b => tv.ownBlock = some b ∨ gv.ownBlock = some b) w3 w6 := (Chg.of_grown hg4 (fun b e _ => Or.inl e)).trans (hc46.mono (fun b _ q => Or.inl (Or.inr q)))
  have hcr6 : Chg (fun b => tv.ownBlock = some b ∨ gv.ownBlock = some b) wr w6 := ((Chg.of_below hb3).mono (fun b q1 q2 => by omega)).trans (hc36.mono (fun b _ q => Or.inl q))
  have hnt : ∀ b, b < w3.heap.size → tv.ownBlock ≠ some b → tv'.ownBlock ≠ some b := fun b hb hne q => by
    rcases hv4 with r | r
    · rw [r] at q; exact hne q
    · rw [r] at q; have := Option.some.inj q; omega
  have hng : ∀ b, b < w3.heap.size → gv.ownBlock ≠ some b → gv'.ownBlock ≠ some b := fun b hb hne q => by
    rcases hv6 with r | r
    · rw [r] at q; exact hne q
    · rw [r] at q; have := Option.some.inj q; omega
  have hne : ∀ b, tv'.ownBlock = some b → gv'.ownBlock ≠ some b := fun b q1 q2 => by
    rcases hv4 with r | r
    · rw [r] at q1
      have := htl b q1
      exact hng b (by omega) (h.ne b q1) q2
    · rw [r] at q1
      have := Option.some.inj q1
      rcases hv6 with r2 | r2
      · rw [r2] at q2; have := hgl b q2; omega
      · rw [r2] at q2; have := Option.some.inj q2; omega
  have hbase : Below w.heap.size w w6 := h.base.trans (hcr6.below (fun b q => by rcases q with q | q; exact (htl b q).1; exact (hgl b q).1) h.base.size)
  refine ⟨hbase, ?_, ?_, fun i t' T e1 e2 => ?_, fun i u' T e1 e2 => ?_, hne⟩
  · rw [List.length_append]
    exact ownsRow_keptC hr4 hc46 (fun b q1 q2 => by
      rcases hv4 with r | r
      · rw [r] at q1; exact h.ne b q1 q2
      · rw [r] at q1; have := Option.some.inj q1; have := hgl b q2; omega)
  · rw [List.length_append]; exact hr6
  · have l1 := h.tlen.1
    rcases getElem_snoc e1 with ⟨i1, e1⟩ | ⟨i1, rfl⟩
    · rcases getElem_snoc e2 with ⟨i2, e2⟩ | ⟨i2, _⟩
      · exact (h.el i t' T e1 e2).keptC hcr6 (fun b hb q => ⟨(fun r => by rcases r with r | r; exact q.1 r; exact q.2 r), hnt b (by omega) q.1, hng b (by omega) q.2⟩)
      · omega
    · rcases getElem_snoc e2 with ⟨i2, e2⟩ | ⟨i2, rfl⟩
      · omega
      · exact ht.keptC hc36 (fun b hb q => by
          have n1 : tv.ownBlock ≠ some b := fun r => by have := htl b r; omega
          have n2 : gv.ownBlock ≠ some b := fun r => by have := hgl b r; omega
          exact ⟨(fun r => by rcases r with r | r; exact n1 r; exact n2 r), hnt b hb n1, hng b hb n2⟩)
  · have l1 := h.tlen.2
    rcases getElem_snoc e1 with ⟨i1, e1⟩ | ⟨i1, rfl⟩
    · rcases getElem_snoc e2 with ⟨i2, e2⟩ | ⟨i2, _⟩
      · exact h.eg i u' T e1 e2
      · omega
    · rcases getElem_snoc e2 with ⟨i2, e2⟩ | ⟨i2, rfl⟩
      · omega
      · exact hu
end
theorem take_fil (Ls : List (List P3)) (k : Nat) (L : List P3) (h : Ls[k]? = some L) : (Ls.take (k + 1)).filter M.ris = (Ls.take k).filter M.ris ++ (if M.ris L then [L] else []) := by
  rw [List.take_add_one, h, List.filter_append]; simp [List.filter_cons]
theorem Try.infoTp : (Try.prog.info? 37).map (fun i => (i.zero, i.size, i.bytes)) = some (some (.pointer none), 1, 8) := by kernel_rfl
theorem Try.infoLq : (Try.prog.info? 22).map (fun i => (i.zero, i.size, i.bytes)) = some (some (.slice none 0 0), 1, 24) := by kernel_rfl

theorem cell_newT (w : World) (x : Value) (t : TypeId) : (w.alloc (.cells #[x] t)).cell? ⟨w.heap.size, 0, none⟩ = some x := by rw [World.cell?_alloc_at _ _ _ _ rfl]; rfl

set_option maxHeartbeats 2000000 in
theorem tabs_any {w : World} {v : Value} {Ls : List (List P3)} (h : RdL w v Ls) (hl : (Ls.map totP).sum ≤ 4194304) (hn : Ls.length ≤ 4194304) :
    Calls Try.prog 24 #[v] w fun e w' => ∃ tv gv ts gs, e = .returned (.tuple #[tv, gv, .bool true]) ∧ TG w w' tv gv (Ls.filter M.ris) ts gs := by
  obtain ⟨ao, c, rfl, h1, h2, h4⟩ := h
  unfold maxLen at h2
  go_enter Try.func24, Try.ntmps24
  go_wp2_with fail
  go_loopw [5, 6, 7, 8, 9, 10, 11] (fun o g i _ _ _ _ wr => ∃ (k : Nat) (ts gs : List Value), k ≤ Ls.length ∧ i = .int .i64 k ∧ Hid (TG w wr o g ((Ls.take k).filter M.ris) ts gs)) (fun _ _ i _ _ _ _ _ => Ls.length - (intOf i).toNat)
  case atStart => exact ⟨0, [], [], Nat.zero_le _, rfl, TG.nil w⟩
  case round =>
    obtain ⟨k, ts, gs, hk, rfl, HG⟩ := hrel
    obtain ⟨to_, tn, tc, et⟩ := row_shape HG.out.rt
    obtain ⟨go, gn, gc, eg⟩ := row_shape HG.out.rg
    subst et
    subst eg
    by_cases hlt : k < Ls.length
    · obtain ⟨L, hL⟩ : ∃ L, Ls[k]? = some L := ⟨_, List.getElem?_eq_getElem hlt⟩
      obtain ⟨a, lu, rfl, hc, hq⟩ := h4 k L hL
      have hb := HG.out.base
      have hcw : ∀ W, Below wr.heap.size wr W → W.cell? (a.add k) = some lu := fun W hW => by
        have hW2 := hb.trans (hW.mono hb.size)
        rw [hW2.cell (World.block_lt_of_cell? _ _ hc)]; exact hc
      have c0 := hcw wr (Below.refl _ _)
      have hcl : (a.add k).block < w.heap.size := World.block_lt_of_cell? _ _ hc
      have hki : (k : Int) < (Ls.length : Int) := by omega
      have htL : totP L ≤ 4194304 := Nat.le_trans (sum_mem (List.mem_of_getElem? hL)) hl
      have hbu := build_any (hq.below hb (Nat.le_refl _)) htL
      have HF : Hid _ := take_fil Ls k L hL
      have hq0 := hq
      obtain ⟨lo, lc, rfl, q1, q2, _⟩ := hq
      clear h4 hc hL
      by_cases hri : M.ris L = true
      · have hop := opn_tab L hri htL
        have htl2 := tab_len L
        unfold M.bld at hbu
        rw [if_pos hri] at hbu
        have hF := HF.out
        rw [if_pos hri] at hF
        have HF2 : Hid _ := hF
        clear hF HF
        go_wp2_with fail
        refine hbu.mono ?_
        rintro e w1 ⟨v1, rfl, ho1, hb1⟩
        have hopc := open_anyB ho1.rd (by omega)
        obtain ⟨a1, c1, e1⟩ := ho1.shape
        subst e1
        go_wp2_with fail
        refine hopc.mono ?_
        rintro e w2 ⟨hor, hb2⟩
        rcases hor with ⟨ps, t, hps, rfl, ht2⟩ | ⟨hno, rfl⟩
        rotate_left
        · rw [hop] at hno; cases hno
        rw [hop] at hps
        obtain rfl := Option.some.inj hps
        have hs1 := hb1.size
        have hb12 : Below wr.heap.size wr w2 := Below.tr hb1 hb2
        obtain ⟨tb, rfl⟩ : ∃ tb, t = .pointer (some ⟨tb, 0, none⟩) := by obtain ⟨b, _, _, e, _⟩ := ht2; exact ⟨b, e⟩
        have hb3 : Below wr.heap.size wr (w2.alloc (.cells #[.pointer (some ⟨tb, 0, none⟩)] 37)) := Below.tr hb12 (bel_al w2 _)
        have ht3 : TblS (fun b => wr.heap.size ≤ b ∧ b < (w2.alloc (.cells #[.pointer (some ⟨tb, 0, none⟩)] 37)).heap.size) (w2.alloc (.cells #[.pointer (some ⟨tb, 0, none⟩)] 37)) (.pointer (some ⟨tb, 0, none⟩)) L := ht2.tbls.keptC (Chg.of_below (bel_al w2 _)) (fun b hl q => ⟨by omega, by omega, by simp; omega⟩)
        have hG3 := HG.out.below hb3
        have hl1 := HG.out.tlen
        have hfl : ((Ls.take k).filter M.ris).length ≤ k := Nat.le_trans (List.length_filter_le _ _) (by simp; omega)
        have hsw := hb.size
        have hs3 := hb3.size
        have Hmid : ∀ w4, (w2.alloc (.cells #[.pointer (some ⟨tb, 0, none⟩)] 37)).grownBy w4 (Value.slice to_ tn tc).ownBlock → w4.cell? (a.add k) = some (.slice lo L.length lc) ∧ w4.ownsRow w.heap.size 22 1 (.slice go gn gc) ((Ls.take k).filter M.ris).length gs ∧ w.heap.size ≤ w4.heap.size := fun w4 hg => by
          have hch : Chg (fun b => (Value.slice to_ tn tc).ownBlock = some b) (w2.alloc (.cells #[.pointer (some ⟨tb, 0, none⟩)] 37)) w4 := Chg.of_grown hg (fun b e _ => e)
          have hB4 : Below w.heap.size wr w4 := (hb3.mono hsw).trans (hch.below (fun b q => (World.ownsRow.lt hG3.rt b q).1) (by omega))
          have hB5 := hb.trans hB4
          refine ⟨?_, ownsRow_keptC hG3.rg hch (fun b q1 q2 => hG3.ne b q2 q1), hB5.size⟩
          have hc0 := hcw wr (Below.refl _ _)
          rw [hB4.cell hcl]
          exact hc0
        go_wp2_with (first
          | (at_builtin; refine wpList_app1 rfl _ _ 53 rfl w.heap.size 37 (.pointer none) 8 Try.underlying53 Try.infoTp rfl (.slice to_ tn tc) _ ts rfl hG3.rt ⟨w2.heap.size, 0, none⟩ 1 (.pointer (some ⟨tb, 0, none⟩)) rfl (cell_newT _ _ _) rfl (by unfold maxLen; omega) (by omega) (by omega) ?_; intro v4 w4 hr4 hg4 hv4; obtain ⟨o4, n4, c4, e4⟩ := row_shape hr4; subst e4; obtain ⟨m1, m2, m3⟩ := Hmid w4 hg4)
          | (at_builtin; refine wpList_app1 rfl _ _ 52 rfl w.heap.size 22 (.slice none 0 0) 24 Try.underlying52 Try.infoLq rfl (.slice go gn gc) _ gs rfl (ownsRow_belW m2 (bel_al w4 _) (Nat.le_refl _)) ⟨w4.heap.size, 0, none⟩ 1 (.slice lo L.length lc) rfl (cell_newT _ _ _) rfl (by unfold maxLen; omega) (by omega) (by simp; omega) ?_; intro v6 w6 hr6 hg6 hv6; obtain ⟨o6, n6, c6, e6⟩ := row_shape hr6; subst e6)
          | fail)
        exact ⟨⟨k + 1, ts ++ [.pointer (some ⟨tb, 0, none⟩)], gs ++ [.slice lo L.length lc], by omega, by go_num, by show TG _ _ _ _ _ _ _; rw [HF2.out]; exact HG.out.add hb3 ht3 hr4 hg4 hv4 hr6 hg6 hv6 hq0⟩, by simp [intOf]; omega⟩
      · unfold M.bld at hbu
        rw [if_neg hri] at hbu
        have hF := HF.out
        rw [if_neg hri, List.append_nil] at hF
        have HF2 : Hid _ := hF
        clear hF HF
        go_wp2_with fail
        refine hbu.mono ?_
        rintro e w1 ⟨v1, rfl, ho1, hb1⟩
        obtain ⟨a1, c1, e1⟩ := ho1.shape
        subst e1
        go_wp2_with fail
        exact ⟨⟨k + 1, ts, gs, by omega, by go_num, by show TG _ _ _ _ _ _ _; rw [HF2.out]; exact HG.out.below hb1⟩, by simp [intOf]; omega⟩
    · obtain rfl : k = Ls.length := by omega
      clear h4
      have HG2 := HG.out
      rw [List.take_length] at HG2
      have HG3 : Hid _ := HG2
      clear HG2 HG
      go_wp2_with fail
      refine bodyPost_ret (v := .tuple #[.slice to_ tn tc, .slice go gn gc, .bool true]) (by simp [results, Try.results24, go_sem]; try rfl) rfl ?_
      exact ⟨_, _, ts, gs, rfl, HG3.out⟩
end Go.Proofs.Ytdaedglfefkeoaa

/- The walk of TableMerges. -/
namespace Go.Proofs.Ytdaedglfefkeoaa
open Go.RowKit
set_option linter.unusedVariables false
set_option maxRecDepth 100000

theorem filter_tot (Ls : List (List P3)) : ((Ls.filter M.ris).map totP).sum ≤ (Ls.map totP).sum := by
  induction Ls with
  | nil => simp
  | cons x r ih =>
    rw [List.filter_cons]
    split
    · simp only [List.map_cons, List.sum_cons]; omega
    · simp only [List.map_cons, List.sum_cons]; omega
/-- A new array of one cell is the call's own. -/
theorem ownsRow_new1 (w : World) (x : Value) (t : TypeId) {B : Nat} (hB : B ≤ w.heap.size) : (w.alloc (.cells #[x] t)).ownsRow B t 1 (.slice (some ⟨w.heap.size, 0, none⟩) 1 1) 1 [x] :=
  ⟨rfl, .inr ⟨w.heap.size, 1, #[x], rfl, hB, heap_alloc_new w _, Nat.le_refl _, by simp [maxLen], rfl, rfl⟩⟩
/-- A slice of pointers appended. -/
theorem wpList_appT {w : World} {ops : Array Oper} {rest : List Oper} {o : Oper} {a : Act} {Q : Exit → Act → World → Prop} (hgd : o.guard = none) (s x : Operand)
    (ho : o.op = .call { callee := .builtin .append, args := #[s, x], argTypes := #[53, 53] })
    (B : Nat) (v : Value) (l : List Value) (hs : a.eval s = v) (hown : w.ownsRow B 37 1 v l.length l) (vx : Value) (m : List Value) (hx : a.eval x = vx) (hm : w.ownsRow 0 37 1 vx m.length m) (h1 : ∀ u ∈ m, u.oneCell' = true) (hB : B ≤ w.heap.size) (hlen : l.length + m.length ≤ 1099511627776)
    (h : ∀ v' w', w'.ownsRow B 37 1 v' (l ++ m).length (l ++ m) → w.grownBy w' v.ownBlock → (v'.ownBlock = v.ownBlock ∨ v'.ownBlock = some w.heap.size) → wpList Try.prog ops Q rest (a.put o.dst v') w') : wpList Try.prog ops Q (o :: rest) a w := by
  refine wpList_plain hgd fun K hK => ?_
  have hrun : ∃ v' w', (Builtin.append_ #[53, 53] o.type #[v, vx]).run Try.prog w = .ok v' w' ∧ w'.ownsRow B 37 1 v' (l ++ m).length (l ++ m) ∧ w.grownBy w' v.ownBlock ∧ (v'.ownBlock = v.ownBlock ∨ v'.ownBlock = some w.heap.size) := by
    obtain ⟨i, hi, hz0, hz1, hz2⟩ := info_parts Try.infoTp
    obtain ⟨ao, c, rfl, _, _, h3, h4⟩ := row_reads hm
    cases ao with
    | none =>
      obtain rfl := h3 rfl
      have hm0 : m = [] := by
        cases m with
        | nil => rfl
        | cons y r => obtain ⟨g, e, _⟩ := h4 0 y rfl; cases e
      subst hm0
      exact ⟨v, w, run_append_owned_none (P := Try.prog) (w := w) B 53 o.type 37 i 1 Try.underlying53 hi v l.length l hown, by simpa using hown, World.grownBy.refl _ _, .inl rfl⟩
    | some ad =>
      obtain ⟨v', w', hr, q2, q3, q4⟩ := run_appW (P := Try.prog) w B 53 o.type 37 _ 1 8 Try.underlying53 Try.infoTp rfl (by decide) v l.length l hown ad m.length c m (by simp) (by
        intro j u hu
        obtain ⟨g, e, hc⟩ := h4 j u hu
        obtain rfl := Option.some.inj e
        rw [Addr.add_lit, Nat.zero_add]; exact hc) h1 (by unfold maxLen; omega) (by omega) hB
      exact ⟨v', w', hr, by rw [List.length_append]; exact q2, q3, q4⟩
  obtain ⟨v', w', hr, q2, q3, q4⟩ := hrun
  unfold Oper.wp execOp
  simp only [ho, resolve, invoke, builtin, Sem.run_bind, Sem.run_pure, Result.andThen_ok, List.map_toArray, List.map_cons, List.map_nil, hs, hx, hr]
  exact hK _ _ (h v' w' q2 q3 q4)
theorem TG.one {w wr : World} {tv gv : Value} {Gs : List (List P3)} {ts gs : List Value} (h : TG w wr tv gv Gs ts gs) : ∀ u ∈ ts, u.oneCell' = true := fun u hu => by
  obtain ⟨i, hi⟩ := List.mem_iff_getElem?.1 hu
  have hl := (List.getElem?_eq_some_iff.1 hi).1
  obtain ⟨b, _, _, rfl, _⟩ := h.el i u _ hi (List.getElem?_eq_getElem (by have := h.tlen.1; omega))
  rfl

set_option maxHeartbeats 2000000 in
theorem merges_walk {v : Value} {Ls : List (List P3)} {w : World} (h : RdL w v Ls) (hl : (Ls.map totP).sum + Ls.length ≤ 1048576) :
    Calls Try.prog 5 #[v] w fun e w' => e = .returned (.bool true) ∧ Below w.heap.size w w' := by
  have htot := filter_tot Ls
  have hfl : (Ls.filter M.ris).length ≤ Ls.length := List.length_filter_le _ _
  have hTs : ∀ T ∈ Ls.filter M.ris, M.ris T = true := fun T hT => (List.mem_filter.1 hT).2
  have hrd := fun W (hW : Below w.heap.size w W) => h.below hW (Nat.le_refl _)
  obtain ⟨va, vc, rfl, _⟩ := h
  go_enter Try.func5, Try.ntmps5
  go_wp2_with fail
  refine (tawake_any _).mono ?_
  rintro e w1 ⟨rfl, hb1⟩
  have htb := tabs_any (hrd w1 hb1) (by omega) (by omega)
  go_wp2_with fail
  refine htb.mono ?_
  rintro e w2 ⟨tv, gv, ts, gs, rfl, hG⟩
  have hmg := merge_any hG.rdt (by omega) hTs (by omega)
  obtain ⟨ta, tn, tc, et⟩ := row_shape hG.rt
  obtain ⟨ga, gn, gc, eg⟩ := row_shape hG.rg
  subst et
  subst eg
  generalize Ls.filter M.ris = Gs at *
  have hW2 : Below w.heap.size w w2 := hb1.trans (hG.base.mono hb1.size)
  go_wp2_with fail
  refine hmg.mono ?_
  rintro e w3 ⟨m, us, rfl, hm3, hb3⟩
  obtain ⟨ma, mc, em, _⟩ := hm3.shape
  subst em
  have hG4 := (hG.below hb3).below (bel_al w3 (.cells #[.pointer none] 37))
  have hrn := ownsRow_new1 w3 (.pointer none) 37 (B := w3.heap.size) (Nat.le_refl _)
  have hrt4 : (w3.alloc (.cells #[.pointer none] 37)).ownsRow 0 37 1 (.slice ta tn tc) ts.length ts := by
    have := hG4.rt
    rw [hG.tlen.1]
    refine ⟨this.1, ?_⟩
    rcases this.2 with q | ⟨g, cap, cur, q1, q2, q3⟩
    · exact .inl q
    · exact .inr ⟨g, cap, cur, q1, Nat.zero_le _, q3⟩
  have hone := hG.one
  have htl := hG.tlen
  go_wp2_with (first
    | (at_builtin; refine wpList_appT rfl _ _ rfl w3.heap.size (.slice (some ⟨w3.heap.size, 0, none⟩) 1 1) [.pointer none] rfl hrn _ ts rfl hrt4 hone (by simp) (by simp; omega) ?_; intro v5 w5 hr5 hg5 hv5)
    | fail)
  have hb35 : Below w3.heap.size w3 w5 := (bel_al w3 _).trans ((Below.refl w3.heap.size _).grown hg5 (by simp) (fun b q => by have := Option.some.inj q; simp at this; omega))
  have hG5 := (hG.below hb3).below hb35
  have hrT : RdT w5 v5 ([] :: Gs) := by
    obtain ⟨a, c, e, q1, q2, q3, q4⟩ := row_reads hr5
    have hlen : ([Value.pointer none] ++ ts).length = ([] :: Gs).length := by simp [htl.1]
    rw [hlen] at e q1
    refine ⟨a, c, e, q1, q2, fun i T hT => ?_⟩
    cases i with
    | zero =>
      simp at hT
      obtain ⟨g, rfl, hc⟩ := q4 0 (.pointer none) rfl
      exact ⟨_, _, rfl, by rw [Addr.add_lit, Nat.zero_add]; exact hc, .inr ⟨rfl, hT⟩⟩
    | succ i =>
      have hT' : Gs[i]? = some T := by simpa using hT
      have hi : i < ts.length := by have := (List.getElem?_eq_some_iff.1 hT').1; omega
      obtain ⟨g, rfl, hc⟩ := q4 (i + 1) ts[i] (by simp [hi])
      exact ⟨_, ts[i], rfl, by rw [Addr.add_lit, Nat.zero_add]; exact hc, .inl (hG5.el i _ T (List.getElem?_eq_getElem hi) hT').tbl⟩
  obtain ⟨a5, n5, c5, e5⟩ := row_shape hr5
  subst e5
  have hrm := rmerge_any hG5.rdl (by omega)
  have hm5 := hm3.below hb35 (Nat.le_refl _)
  refine hrm.mono ?_
  rintro e w6 ⟨u6, rfl, hq6, hb6⟩
  have hs1 := samep_any (hm5.below hb6 (Nat.le_refl _)).rdq hq6
  obtain ⟨_, _, e6, _⟩ := hq6
  subst e6
  go_wp2_with fail
  refine hs1.mono ?_
  rintro e w7 ⟨rfl, n7, rfl⟩
  have hb67 : Below w5.heap.size w5 (w6.drewN n7) := Below.tr hb6 (Below.dN w6 n7)
  generalize w6.drewN n7 = w7 at *
  have hmm := merge_any (hrT.below hb67 (Nat.le_refl _)) (by simp; omega) (fun T hT => by
    rcases List.mem_cons.1 hT with e | e
    · subst e; rfl
    · exact hTs T e) (by simp [totP]; omega)
  have ef : ([] :: Gs).flatten = Gs.flatten := by simp
  rw [ef] at hmm
  go_wp2_with fail
  refine hmm.mono ?_
  rintro e w8 ⟨m8, us8, rfl, hm8, hb8⟩
  have hs2 := samep_any hm8.rdq ((hm5.below hb67 (Nat.le_refl _)).below hb8 (Nat.le_refl _)).rdq
  obtain ⟨_, _, e8, _⟩ := hm8.shape
  subst e8
  go_wp2_with fail
  refine hs2.mono ?_
  rintro e w9 ⟨rfl, n9, rfl⟩
  have hb89 : Below w8.heap.size w8 (w8.drewN n9) := Below.dN w8 n9
  generalize w8.drewN n9 = w9 at *
  have hmz := merge_any (v := .slice none 0 0) (Ts := []) (w := w9) ⟨none, 0, rfl, by simp, by simp, (fun i T hT => by simp at hT)⟩ (by simp) (fun T hT => by cases hT) (by simp)
  go_wp2_with fail
  refine hmz.mono ?_
  rintro e w10 ⟨m10, us10, rfl, hm10, hb10⟩
  obtain ⟨_, _, e10, _⟩ := hm10.shape
  subst e10
  have hz : (M.mgF ([] : List (List P3)).flatten).length = 0 := rfl
  rw [hz] at *
  go_wp2_with fail
  go_ret
  refine ⟨rfl, ?_⟩
  have b1 : Below w2.heap.size w2 w10 := Below.tr (Below.tr (Below.tr (Below.tr (Below.tr hb3 hb35) hb67) hb8) hb89) hb10
  exact hW2.trans (b1.mono hW2.size)
end Go.Proofs.Ytdaedglfefkeoaa

/- The walk of TableNests. -/
namespace Go.Proofs.Ytdaedglfefkeoaa
open Go.RowKit
set_option linter.unusedVariables false
set_option maxRecDepth 100000

theorem ncmp_q {va vb : Value} {la lb : List UInt8} {w : World} (ha : Rd w va la) (hb : Rd w vb lb) (q : Nat) : Calls Try.prog 27 #[va, vb] (w.drewN q) fun e w' => e = .returned (.int .i64 (M.cmpL la lb)) ∧ ∃ n, w' = w.drewN n := by
  refine (cmp_any (ha.drewN q) (hb.drewN q)).mono ?_
  rintro _ w' ⟨rfl, n, rfl⟩
  exact ⟨rfl, q + n, by rw [World.drewN_drewN]⟩
/-- What a table tells of a key is what its pairs tell. -/
theorem getK_fk {ps : List P3} (h : M.ris ps = true) (key : List UInt8) : getK ps key = M.fk ps key := by
  cases e : M.fk ps key with
  | none =>
    have hn : M.isK ps key = false := by
      cases hi : M.isK ps key with
      | false => rfl
      | true =>
        obtain ⟨p, hp, e2⟩ := (M.isK_iff h key).1 hi
        exact absurd e2 (M.fk_none e hp)
    unfold getK
    rw [hn]; rfl
  | some p =>
    obtain ⟨h1, h2⟩ := M.fk_some e
    obtain ⟨i, hi⟩ := List.mem_iff_getElem?.1 h1
    have := getK_at h hi
    rwa [h2] at this
/-- The first table that has a key. -/
theorem first_tab {Gs : List (List P3)} (hTs : ∀ T ∈ Gs, M.ris T = true) {key : List UInt8} {q : P3} (h : M.fstT Gs key = some q) : ∃ (k0 : Nat), k0 < Gs.length ∧ (∀ T, Gs[k0]? = some T → getK T key = some q) ∧ ∀ (k : Nat) T, k < k0 → Gs[k]? = some T → getK T key = none := by
  induction Gs with
  | nil => cases h
  | cons T r ih =>
    unfold M.fstT at h
    rw [List.flatten_cons, M.fk_app] at h
    have hT := getK_fk (hTs T List.mem_cons_self) key
    cases e : M.fk T key with
    | some p =>
      rw [e] at h
      refine ⟨0, by simp, fun U hU => ?_, fun k U hk => by omega⟩
      simp at hU
      subst hU
      rw [hT, e]; exact h
    | none =>
      rw [e, Option.none_or] at h
      obtain ⟨k0, q1, q2, q3⟩ := ih (fun U hU => hTs U (List.mem_cons_of_mem _ hU)) h
      refine ⟨k0 + 1, by simp; omega, fun U hU => q2 U (by simpa using hU), fun k U hk hU => ?_⟩
      cases k with
      | zero => simp at hU; subst hU; rw [hT, e]
      | succ k => exact q3 k U (by omega) (by simpa using hU)
theorem RdT.tail {w : World} {a : Addr} {n c : Nat} {T : List P3} {Ts : List (List P3)} (h : RdT w (.slice (some a) n c) (T :: Ts)) : RdT w (.slice (some (a.add 1)) Ts.length (c - 1)) Ts := by
  obtain ⟨ao, c', e, h1, h2, h4⟩ := h
  simp only [Value.slice.injEq] at e
  obtain ⟨rfl, rfl, rfl⟩ := e
  simp only [List.length_cons] at h1
  refine ⟨some (a.add 1), c - 1, rfl, by omega, by omega, fun i U hi => ?_⟩
  obtain ⟨a', t, ea, hc, ht⟩ := h4 (i + 1) U (by simpa using hi)
  obtain rfl := Option.some.inj ea
  refine ⟨a.add 1, t, rfl, ?_, ht⟩
  rw [Addr.add_add, Nat.add_comm 1 i]; exact hc
theorem rdt_two (w : World) {t u : Value} {T U : List P3} (ty : TypeId) (ht : Tbl w t T) (hu : Tbl w u U) : RdT (w.alloc (.cells #[t, u] ty)) (.slice (some ⟨w.heap.size, 0, none⟩) 2 2) [T, U] := by
  have hb := bel_al w (.cells #[t, u] ty)
  have hc : ∀ j x, #[t, u][j]? = some x → (w.alloc (.cells #[t, u] ty)).cell? ((⟨w.heap.size, 0, none⟩ : Addr).add j) = some x := fun j x e => by
    rw [Addr.add_lit, Nat.zero_add, World.cell?_alloc_at _ _ _ _ rfl]; exact e
  refine ⟨some ⟨w.heap.size, 0, none⟩, 2, rfl, by simp, by simp [maxLen], fun i V hi => ?_⟩
  match i with
  | 0 => simp at hi; subst hi; exact ⟨_, t, rfl, hc 0 _ rfl, .inl (ht.below hb (Nat.le_refl _))⟩
  | 1 => simp at hi; subst hi; exact ⟨_, u, rfl, hc 1 _ rfl, .inl (hu.below hb (Nat.le_refl _))⟩
  | i + 2 => simp at hi

theorem add_zero1 (a : Addr) : a.add 0 = a := by cases a; simp [Addr.add]
/-- A list of tables, none of them nil. -/
theorem TG.rds {w wr : World} {tv gv : Value} {Gs : List (List P3)} {ts gs : List Value} (h : TG w wr tv gv Gs ts gs) : ∃ ao c, tv = .slice ao Gs.length c ∧ Gs.length ≤ c ∧ c ≤ maxLen ∧ ∀ (i : Nat) T, Gs[i]? = some T → ∃ a t, ao = some a ∧ wr.cell? (a.add i) = some t ∧ Tbl wr t T := by
  obtain ⟨a, c, e, h1, h2, h3, h4⟩ := row_reads h.rt
  refine ⟨a, c, e, h1, h2, fun i T hT => ?_⟩
  have hi : i < ts.length := by have := (List.getElem?_eq_some_iff.1 hT).1; have := h.tlen.1; omega
  obtain ⟨g, rfl, hc⟩ := h4 i ts[i] (List.getElem?_eq_getElem hi)
  exact ⟨⟨g, 0, none⟩, ts[i], rfl, by rw [Addr.add_lit, Nat.zero_add]; exact hc, (h.el i _ T (List.getElem?_eq_getElem hi) hT).tbl⟩

set_option maxHeartbeats 4000000 in
theorem nests_walk {v : Value} {Ls : List (List P3)} {w : World} (h : RdL w v Ls) (hl : (Ls.map totP).sum + Ls.length ≤ 1048576) :
    Calls Try.prog 7 #[v] w fun e w' => e = .returned (.bool true) ∧ Below w.heap.size w w' := by
  have htot := filter_tot Ls
  have hfl : (Ls.filter M.ris).length ≤ Ls.length := List.length_filter_le _ _
  have hTs : ∀ T ∈ Ls.filter M.ris, M.ris T = true := fun T hT => (List.mem_filter.1 hT).2
  have hrd := fun W (hW : Below w.heap.size w W) => h.below hW (Nat.le_refl _)
  obtain ⟨va, vc, rfl, _⟩ := h
  go_enter Try.func7, Try.ntmps7
  go_wp2_with fail
  refine (tawake_any _).mono ?_
  rintro e w1 ⟨rfl, hb1⟩
  have htb := tabs_any (hrd w1 hb1) (by omega) (by omega)
  go_wp2_with fail
  refine htb.mono ?_
  rintro e w2 ⟨tv, gv, ts, gs, rfl, hG⟩
  have hrt0 := hG.rdt
  have hrt := hG.rds
  obtain ⟨ga, gn, gc, eg⟩ := row_shape hG.rg
  subst eg
  generalize Ls.filter M.ris = Gs at *
  have hW2 : Below w.heap.size w w2 := hb1.trans (hG.base.mono hb1.size)
  have HW2 : Hid _ := hW2
  have hW2s := hW2.size
  clear htb hrd hG hb1 hW2
  obtain ⟨ta, tc, rfl, t1, t2, t4⟩ := hrt
  unfold maxLen at t2
  match hGe : Gs with
  | [] =>
    simp only [List.length_nil] at *
    go_wp2_with fail
    go_ret
    exact ⟨rfl, HW2.out⟩
  | [G0] =>
    simp only [List.length_cons, List.length_nil] at *
    go_wp2_with fail
    go_ret
    exact ⟨rfl, HW2.out⟩
  | G0 :: G1 :: Gr =>
    obtain ⟨a, t0, rfl, hc0, ht0⟩ := t4 0 G0 rfl
    have htb := fun W (hW : Below w2.heap.size w2 W) => hrt0.below hW (Nat.le_refl _)
    have hrn := fun W (hW : Below w2.heap.size w2 W) => (htb W hW).tail
    have hmg := merge_any hrt0 (by omega) hTs (by omega)
    have hge : ∀ W, Below w2.heap.size w2 W → ∀ (i : Nat) T, (G0 :: G1 :: Gr)[i]? = some T → ∃ t, W.cell? (a.add i) = some t ∧ Tbl W t T := fun W hW i T hT => by
      obtain ⟨a', t, ea, hc, ht⟩ := t4 i T hT
      obtain rfl := Option.some.inj ea
      exact ⟨t, by rw [hW.cell (World.block_lt_of_cell? _ _ hc)]; exact hc, ht.below hW (Nat.le_refl _)⟩
    have hT1 : ∀ T ∈ G1 :: Gr, M.ris T = true := fun T hT => hTs T (List.mem_cons_of_mem _ hT)
    have htl : ((G1 :: Gr).map totP).sum ≤ 1048576 := by simp only [List.map_cons, List.sum_cons] at htot ⊢; omega
    have htG : ((G0 :: G1 :: Gr).map totP).sum ≤ 1048576 := by omega
    have hmg1f := fun W (hW : Below w2.heap.size w2 W) => merge_any (hrn W hW) (by simp only [List.length_cons] at hfl ⊢; omega) hT1 (by omega)
    have hmt1 : totP (M.mgF (G1 :: Gr).flatten) ≤ 1048576 := by have h1 := mgF_tot (G1 :: Gr).flatten; rw [totP_flat] at h1; omega
    have hmt : totP (M.mgF (G0 :: G1 :: Gr).flatten) ≤ 1048576 := by have h1 := mgF_tot (G0 :: G1 :: Gr).flatten; rw [totP_flat] at h1; omega
    have hnest : M.mgF [G0, M.mgF (G1 :: Gr).flatten].flatten = M.mgF (G0 :: G1 :: Gr).flatten := M.IsMg.uniq (M.mgF_is _) (M.mgF_is _) (fun k => M.mg_nest G0 (G1 :: Gr) (M.mgF_is _) k)
    have htN : ([G0, M.mgF (G1 :: Gr).flatten].map totP).sum ≤ 2097152 := by simp only [List.map_cons, List.map_nil, List.sum_cons, List.sum_nil] at htG ⊢; omega
    have hfst : ∀ (i : Nat) q, (M.mgF (G0 :: G1 :: Gr).flatten)[i]? = some q → ∃ (k0 : Nat), k0 < (G0 :: G1 :: Gr).length ∧ (∀ T, (G0 :: G1 :: Gr)[k0]? = some T → getK T q.1 = some q) ∧ ∀ (k : Nat) T, k < k0 → (G0 :: G1 :: Gr)[k]? = some T → getK T q.1 = none := fun i q hq => first_tab hTs (((M.mgF_is (G0 :: G1 :: Gr)).2 q).1 (List.mem_of_getElem? hq))
    have HF : Hid _ := And.intro hfst (And.intro (mgF_ris (G0 :: G1 :: Gr).flatten) hTs)
    have hm1r := mgF_ris (G1 :: Gr).flatten
    have hbl : M.bld (M.mgF (G1 :: Gr).flatten) = (M.tab (M.mgF (G1 :: Gr).flatten), 0) := by unfold M.bld; rw [if_pos hm1r]
    have hop := opn_tab (M.mgF (G1 :: Gr).flatten) hm1r (by omega)
    have htbl := tab_len (M.mgF (G1 :: Gr).flatten)
    have hml := totP_len (M.mgF (G0 :: G1 :: Gr).flatten)
    have hlG : (G0 :: G1 :: Gr).length = Gr.length + 1 + 1 := rfl
    have hlG1 : (G1 :: Gr).length = Gr.length + 1 := rfl
    have hrT : ∀ T ∈ [G0, M.mgF (G1 :: Gr).flatten], M.ris T = true := fun T hT => by
      rcases List.mem_cons.1 hT with e | e
      · subst e; exact hTs T List.mem_cons_self
      · rw [List.mem_singleton.1 e]; exact hm1r
    have hTtot : ∀ T ∈ G0 :: G1 :: Gr, totP T ≤ 1048576 := fun T hT => Nat.le_trans (sum_mem hT) htG
    generalize M.mgF (G1 :: Gr).flatten = mg1 at *
    generalize M.mgF (G0 :: G1 :: Gr).flatten = mg at *
    generalize hGs : G0 :: G1 :: Gr = Gs at *
    generalize hGt : G1 :: Gr = Gs1 at *
    simp only [hlG, hlG1] at *
    generalize hnn : Gr.length = n at *
    have HLen : Hid (Gs.length = n + 1 + 1) := by show _ = _; rw [← hGs, List.length_cons, ← hGt, List.length_cons, hnn]
    clear hnn t4 hfst htot hfl hrt0
    go_wp2_with fail
    refine hmg.mono ?_
    rintro e w3 ⟨m, us, rfl, hm3, hb3⟩
    obtain ⟨ma, mc, em, m1, m2, _⟩ := hm3.shape
    subst em
    unfold maxLen at m2
    have hmg1 := hmg1f w3 hb3
    have n1 : (1 : Int) ≤ ((n + 1 + 1 : Nat) : Int) := by omega
    have n2 : (1 : Int) ≤ (tc : Int) := by omega
    have n3 : ((n + 1 + 1 : Nat) : Int) ≤ (tc : Int) := by omega
    have n4 : ¬ tc = 1 := by omega
    clear hmg
    go_wp2_with fail
    refine hmg1.mono ?_
    rintro e w4 ⟨r4, us4, rfl, hr4, hb4⟩
    have hbu := build_any hr4.rdq (by omega)
    rw [hbl] at hbu
    obtain ⟨ra, rc, er, _⟩ := hr4.shape
    subst er
    clear hmg1
    go_wp2_with fail
    refine hbu.mono ?_
    rintro e w5 ⟨v5, rfl, ho5, hb5⟩
    have hopc := open_any ho5.rd (by omega)
    obtain ⟨a5, c5, e5⟩ := ho5.shape
    subst e5
    clear hbu
    go_wp2_with fail
    refine hopc.mono ?_
    rintro e w6 ⟨hor, hb6⟩
    rcases hor with ⟨ps, t6, hps, rfl, ht6⟩ | ⟨hno, rfl⟩
    rotate_left
    · rw [hop] at hno; cases hno
    rw [hop] at hps
    obtain rfl := Option.some.inj hps
    have hb36 : Below w3.heap.size w3 w6 := Below.tr (Below.tr hb4 hb5) hb6
    have hb26 : Below w2.heap.size w2 w6 := Below.tr hb3 hb36
    obtain ⟨t0', hc06, ht06⟩ := hge w6 hb26 0 G0 (by rw [← hGs]; rfl)
    rw [add_zero1] at hc06
    have hr7 := rdt_two w6 37 ht06 ht6
    have hmN := merge_any hr7 (by simp) hrT (by omega)
    rw [hnest] at hmN
    obtain ⟨b6, _, rfl, _⟩ := ht6
    obtain ⟨b0, _, rfl, _⟩ := ht06
    clear hopc
    go_wp2_with fail
    refine hmN.mono ?_
    rintro e w8 ⟨m8, us8, rfl, hm8, hb8⟩
    have hb38 : Below w3.heap.size w3 w8 := Below.tr (Below.tr hb36 (bel_al w6 _)) hb8
    have hs8 := samep_any hm8.rdq (hm3.below hb38 (Nat.le_refl _)).rdq
    obtain ⟨_, _, e8, _⟩ := hm8.shape
    subst e8
    clear hmN hr7
    go_wp2_with fail
    refine hs8.mono ?_
    rintro e w9 ⟨rfl, n9, rfl⟩
    have hb39 : Below w3.heap.size w3 (w8.drewN n9) := Below.tr hb38 (Below.dN w8 n9)
    have hb29 : Below w2.heap.size w2 (w8.drewN n9) := Below.tr hb3 hb39
    generalize w8.drewN n9 = w9 at *
    have hm9 := (hm3.below hb39 (Nat.le_refl _)).rdq
    have hal := fun W (hW : Below w9.heap.size w9 W) => hm9.below hW (Nat.le_refl _)
    have hge9 := fun W (hW : Below w9.heap.size w9 W) => hge W (hb29.trans (hW.mono hb29.size))
    have H29 : Hid _ := hb29
    clear hs8 hm8 hm9 hm3 hb3 hb4 hb5 hb6 hb8 hb36 hb38 hb39 hb29 hb26 hge hc06 hr4 ho5 hrn hmg1f htb hc0 ht0 hop hbl hnest
    go_wp2_with fail
    go_loopw [11, 12, 13, 14, 15] (fun ct i _ _ _ wr => ∃ k : Nat, k ≤ mg.length ∧ i = .int .i64 k ∧ ct = .int .i64 k ∧ Below w9.heap.size w9 wr) (fun _ i _ _ _ _ => mg.length - (intOf i).toNat)
    case atStart => exact ⟨0, Nat.zero_le _, rfl, rfl, Below.refl _ _⟩
    case round =>
      obtain ⟨i, hi, rfl, rfl, hb⟩ := hrel
      generalize wr = wA at *
      have hbs := hb.size
      by_cases hlt : i < mg.length
      · obtain ⟨q, hq⟩ : ∃ q, mg[i]? = some q := ⟨_, List.getElem?_eq_getElem hlt⟩
        obtain ⟨k0, hk0, hk1, hk2⟩ := HF.out.1 i q hq
        have HK1 : Hid _ := hk1
        have HK2 : Hid _ := hk2
        clear hk1 hk2
        have HQ : Hid _ := hq
        have hki : (i : Int) < (mg.length : Int) := by omega
        by_cases hi0 : i < 1
        · have hki2 : ¬ (0 : Int) < (i : Int) := by omega
          have hki3 : ¬ 0 < i := by omega
          have hki4 : decide (0 < i) = false := decide_eq_false hki3
          have hki5 : decide ((i : Int) > 0) = false := decide_eq_false (by omega)
          clear hq
          go_wp2_with fail
          go_quiet (fail)
          have hnB := Below.dN wA nq
          generalize wA.drewN nq = wB at *
          have hbB : Below w9.heap.size w9 wB := hb.trans (hnB.mono hbs)
          go_wp2_with fail
          go_loopw [11, 13, 14, 15] (fun ct k _ _ wr => ∃ kn : Nat, kn ≤ k0 ∧ k = .int .i64 kn ∧ ct = .int .i64 i ∧ Below w9.heap.size w9 wr) (fun _ k _ _ _ => k0 + 1 - (intOf k).toNat)
          case atStart => exact ⟨0, Nat.zero_le _, rfl, rfl, hbB⟩
          case round =>
            obtain ⟨kn, hkn, rfl, rfl, hbr⟩ := hrel
            have hbrs := hbr.size
            obtain ⟨T, hT⟩ : ∃ T, Gs[kn]? = some T := ⟨_, List.getElem?_eq_getElem (by have := HLen.out; omega)⟩
            obtain ⟨t, hct, htt⟩ := hge9 wr hbr kn T hT
            obtain ⟨am', mc', ex, _, _, h4⟩ := hal wr hbr
            simp only [Value.slice.injEq, true_and] at ex
            obtain ⟨rfl, rfl⟩ := ex
            obtain ⟨am, u1, u2, eam, hpa⟩ := h4 i q HQ.out
            subst eam
            have hone := fun W (hW : Below w9.heap.size w9 W) => RdQ.one (hal W hW) HQ.out
            have hgetW := fun W (hW : Below wr.heap.size wr W) => get_any (htt.below hW (Nat.le_refl _)) (hpa.r1.below hW (Nat.le_refl _)) (HF.out.2.2 T (List.mem_of_getElem? hT)) (Nat.le_trans (hTtot T (List.mem_of_getElem? hT)) (by omega))
            have hcW : ∀ W, Below wr.heap.size wr W → W.cell? (a.add kn) = some t ∧ W.cell? (am.add (i * 3)) = some u1 := fun W hW => ⟨by rw [hW.cell (World.block_lt_of_cell? _ _ hct)]; exact hct, by rw [hW.cell (World.block_lt_of_cell? _ _ hpa.c0)]; exact hpa.c0⟩
            have c0 := hpa.c0
            obtain ⟨x1, y1, rfl, _⟩ := hpa.r1
            obtain ⟨bt, _, rfl, _⟩ := htt
            have g9 : (kn : Int) < ((n + 1 + 1 : Nat) : Int) := by omega
            have nnA := World.new_ne wr _ hct
            have nnB := World.new_ne wr _ c0
            have hBz : Below wr.heap.size wr (wr.alloc (.cells #[.slice none 0 0, .slice none 0 0, .bool false] 48)).drew := Below.tr (bel_al wr _) (bel_drew _)
            have hPz : (wr.alloc (.cells #[.slice none 0 0, .slice none 0 0, .bool false] 48)).drew.heap[wr.heap.size]? = some (.cells #[.slice none 0 0, .slice none 0 0, .bool false] 48 (0, 0)) := heap_alloc_new wr _
            have hPs : (wr.alloc (.cells #[.slice none 0 0, .slice none 0 0, .bool false] 48)).drew.heap.size = wr.heap.size + 1 := by simp
            have hPc : ∀ W, Below (wr.alloc (.cells #[.slice none 0 0, .slice none 0 0, .bool false] 48)).drew.heap.size (wr.alloc (.cells #[.slice none 0 0, .slice none 0 0, .bool false] 48)).drew W → W.heap[wr.heap.size]? = some (.cells #[.slice none 0 0, .slice none 0 0, .bool false] 48 (0, 0)) := fun W hW => by rw [hW.block _ (by omega)]; exact hPz
            have hfinW : ∀ (W : World) (a b c : Value), Below wr.heap.size wr W → Below w9.heap.size w9 (((W.setCell ⟨wr.heap.size, 0, none⟩ a).setCell ⟨wr.heap.size, 1, none⟩ b).setCell ⟨wr.heap.size, 2, none⟩ c) := fun W a b c hW => hbr.trans ((hW.trans ((set3_chg W wr.heap.size a b c).below (fun b q => by omega) hW.size)).mono hbrs)
            clear h4 hpa hPz
            by_cases hkk : kn = k0
            · have hgk := HK1.out T (by rw [← hkk]; exact hT)
              rw [hgk] at hgetW
              simp only [Option.isSome_some, Option.getD_some] at hgetW
              clear hgk hT hkk
              go_wp2_with fail
              go_region_held3 (fun w' => w'.cell? (a.add kn) = some (.pointer (some ⟨bt, 0, none⟩)) ∧ w'.cell? (am.add (i * 3)) = some (.slice x1 q.1.length y1)) (go_keep) (first
                | (go_at_call 23; refine (hgetW _ (by first | exact bel_drew wr | exact hBz)).mono ?_; rintro e w10 ⟨⟨o1, o2, o3⟩, rfl, hE10, hb10⟩; obtain ⟨⟨q0, q1, q2, e0⟩, q3, q4, q5, e1⟩ := hE10.sl; (try simp only [] at e0 e1); subst e0; subst e1; have hRw : Below wr.heap.size wr w10 := (by first | exact Below.tr (bel_drew wr) hb10 | exact Below.tr hBz hb10); obtain ⟨s0, s1⟩ := hcW w10 hRw; have nn0 := World.new_ne w10 _ s0; have nn1 := World.new_ne w10 _ s1; (try (have hRB := hPc w10 hb10; obtain ⟨r0, r1, r2, rz⟩ := cells3 hRB; have rz0 := rz 0; have rz1 := rz 1; have rz2 := rz 2)))
                | fail)
              · have hE11 := hE10.below (bel_al w10 (.cells #[.slice q0 q1 q2, .slice q3 q4 q5, .bool o3] 48)) (Nat.le_refl _)
                have hW11 : Below w9.heap.size w9 (w10.alloc (.cells #[.slice q0 q1 q2, .slice q3 q4 q5, .bool o3] 48)) := hbr.trans ((Below.tr hRw (bel_al w10 _)).mono hbrs)
                obtain ⟨f0, f1, f2, _⟩ := cells3 (heap_alloc_new w10 (.cells #[.slice q0 q1 q2, .slice q3 q4 q5, .bool o3] 48))
                clear hgetW hcW c0 s0 s1 nn0 nn1 nnA nnB hct hPc hfinW hPs hBz
                go_wp2_with fail
                generalize (w10.alloc (.cells #[.slice q0 q1 q2, .slice q3 q4 q5, .bool o3] 48)) = W0 at *
                have hN := rdq_one W0 W0.heap.size rfl 48 hE11 rfl
                have hw1 : IntKind.i64.wrap ((i : Int) + 1) = (i : Int) + 1 := by rw [IntKind.wrap_i64]; omega
                have g0 : (0 : Int) ≤ (i : Int) := by omega
                have g1 : (i : Int) + 1 ≤ (mc : Int) := by omega
                have g2 : (i : Int) ≤ (i : Int) + 1 := by omega
                have g3 : (mg.length : Int) ≤ (mc : Int) := by omega
                have g4 : ¬ mc = i := by omega
                have g5 : (i : Int) + 1 ≤ (mg.length : Int) := by omega
                have nn0 := World.new_ne W0 _ f0
                have nn1 := World.new_ne W0 _ f1
                have nn2 := World.new_ne W0 _ f2
                go_region_held3 (fun w' => w'.cell? ⟨w10.heap.size, 0, none⟩ = some (.slice q0 q1 q2) ∧ w'.cell? ⟨w10.heap.size, 1, none⟩ = some (.slice q3 q4 q5) ∧ w'.cell? ⟨w10.heap.size, 2, none⟩ = some (.bool o3)) (go_keep) (first
                  | (go_at_call 15; refine (samep_any (ps := [q]) (RdQ.below hN (bel_drew _) (Nat.le_refl _)) (hone _ (hW11.trans ((Below.tr (bel_al W0 _) (bel_drew _)).mono hW11.size)))).mono ?_; rintro e w11 ⟨rfl, n11, rfl⟩; have s0 : ((W0.alloc (.cells #[.slice q0 q1 q2, .slice q3 q4 q5, .bool o3] 48)).drew.drewN n11).cell? ⟨w10.heap.size, 0, none⟩ = some (.slice q0 q1 q2) := keepc f0; have s1 : ((W0.alloc (.cells #[.slice q0 q1 q2, .slice q3 q4 q5, .bool o3] 48)).drew.drewN n11).cell? ⟨w10.heap.size, 1, none⟩ = some (.slice q3 q4 q5) := keepc f1; have s2 : ((W0.alloc (.cells #[.slice q0 q1 q2, .slice q3 q4 q5, .bool o3] 48)).drew.drewN n11).cell? ⟨w10.heap.size, 2, none⟩ = some (.bool o3) := keepc f2)
                  | fail)
                go_wp2_with fail
                exact ⟨⟨i + 1, by omega, by go_num, by go_num, hW11.trans ((Below.tr (bel_al W0 _) (Below.dN _ _)).mono hW11.size)⟩, by simp [intOf]; omega⟩
              · have hE11 := hE10.keptC (set3_chg w10 wr.heap.size (.slice q0 q1 q2) (.slice q3 q4 q5) (.bool o3)) (fun b hb q => by have := (hE10.lt hb).1; omega)
                have hW11 := hfinW w10 (.slice q0 q1 q2) (.slice q3 q4 q5) (.bool o3) hRw
                obtain ⟨f0, f1, f2, _⟩ := cells3 (set3_block hRB (.slice q0 q1 q2) (.slice q3 q4 q5) (.bool o3))
                clear hgetW hcW c0 s0 s1 nn0 nn1 nnA nnB hct r0 r1 r2 rz rz0 rz1 rz2 hPc hfinW hPs hBz
                go_wp2_with fail
                generalize (((w10.setCell ⟨wr.heap.size, 0, none⟩ (.slice q0 q1 q2)).setCell ⟨wr.heap.size, 1, none⟩ (.slice q3 q4 q5)).setCell ⟨wr.heap.size, 2, none⟩ (.bool o3)) = W0 at *
                have hN := rdq_one W0 W0.heap.size rfl 48 hE11 rfl
                have hw1 : IntKind.i64.wrap ((i : Int) + 1) = (i : Int) + 1 := by rw [IntKind.wrap_i64]; omega
                have g0 : (0 : Int) ≤ (i : Int) := by omega
                have g1 : (i : Int) + 1 ≤ (mc : Int) := by omega
                have g2 : (i : Int) ≤ (i : Int) + 1 := by omega
                have g3 : (mg.length : Int) ≤ (mc : Int) := by omega
                have g4 : ¬ mc = i := by omega
                have g5 : (i : Int) + 1 ≤ (mg.length : Int) := by omega
                have nn0 := World.new_ne W0 _ f0
                have nn1 := World.new_ne W0 _ f1
                have nn2 := World.new_ne W0 _ f2
                go_region_held3 (fun w' => w'.cell? ⟨wr.heap.size, 0, none⟩ = some (.slice q0 q1 q2) ∧ w'.cell? ⟨wr.heap.size, 1, none⟩ = some (.slice q3 q4 q5) ∧ w'.cell? ⟨wr.heap.size, 2, none⟩ = some (.bool o3)) (go_keep) (first
                  | (go_at_call 15; refine (samep_any (ps := [q]) (RdQ.below hN (bel_drew _) (Nat.le_refl _)) (hone _ (hW11.trans ((Below.tr (bel_al W0 _) (bel_drew _)).mono hW11.size)))).mono ?_; rintro e w11 ⟨rfl, n11, rfl⟩; have s0 : ((W0.alloc (.cells #[.slice q0 q1 q2, .slice q3 q4 q5, .bool o3] 48)).drew.drewN n11).cell? ⟨wr.heap.size, 0, none⟩ = some (.slice q0 q1 q2) := keepc f0; have s1 : ((W0.alloc (.cells #[.slice q0 q1 q2, .slice q3 q4 q5, .bool o3] 48)).drew.drewN n11).cell? ⟨wr.heap.size, 1, none⟩ = some (.slice q3 q4 q5) := keepc f1; have s2 : ((W0.alloc (.cells #[.slice q0 q1 q2, .slice q3 q4 q5, .bool o3] 48)).drew.drewN n11).cell? ⟨wr.heap.size, 2, none⟩ = some (.bool o3) := keepc f2)
                  | fail)
                go_wp2_with fail
                exact ⟨⟨i + 1, by omega, by go_num, by go_num, hW11.trans ((Below.tr (bel_al W0 _) (Below.dN _ _)).mono hW11.size)⟩, by simp [intOf]; omega⟩
            · have hgk := HK2.out kn T (by omega) hT
              rw [hgk] at hgetW
              simp only [Option.isSome_none, Option.getD_none] at hgetW
              clear hgk hT
              go_wp2_with fail
              go_region_held3 (fun w' => w'.cell? (a.add kn) = some (.pointer (some ⟨bt, 0, none⟩)) ∧ w'.cell? (am.add (i * 3)) = some (.slice x1 q.1.length y1)) (go_keep) (first
                | (go_at_call 23; refine (hgetW _ (by first | exact bel_drew wr | exact hBz)).mono ?_; rintro e w10 ⟨⟨o1, o2, o3⟩, rfl, hE10, hb10⟩; obtain ⟨⟨q0, q1, q2, e0⟩, q3, q4, q5, e1⟩ := hE10.sl; (try simp only [] at e0 e1); subst e0; subst e1; have hRw : Below wr.heap.size wr w10 := (by first | exact Below.tr (bel_drew wr) hb10 | exact Below.tr hBz hb10); obtain ⟨s0, s1⟩ := hcW w10 hRw; have nn0 := World.new_ne w10 _ s0; have nn1 := World.new_ne w10 _ s1; (try (have hRB := hPc w10 hb10; obtain ⟨r0, r1, r2, rz⟩ := cells3 hRB; have rz0 := rz 0; have rz1 := rz 1; have rz2 := rz 2)))
                | fail)
              · have hW11 : Below w9.heap.size w9 (w10.alloc (.cells #[.slice q0 q1 q2, .slice q3 q4 q5, .bool o3] 48)) := hbr.trans ((Below.tr hRw (bel_al w10 _)).mono hbrs)
                go_wp2_with fail
                exact ⟨⟨kn + 1, by omega, by go_num, rfl, hW11⟩, by simp [intOf]; omega⟩
              · have hW11 := hfinW w10 (.slice q0 q1 q2) (.slice q3 q4 q5) (.bool o3) hRw
                go_wp2_with fail
                exact ⟨⟨kn + 1, by omega, by go_num, rfl, hW11⟩, by simp [intOf]; omega⟩
        · obtain ⟨i', hi'⟩ : ∃ i', i = i' + 1 := ⟨i - 1, by omega⟩
          obtain ⟨q', hq'⟩ : ∃ q', mg[i']? = some q' := ⟨_, List.getElem?_eq_getElem (by omega)⟩
          have hcl := M.ris_pair HF.out.2.1 hq' hq (by omega)
          have HCL : Hid _ := hcl
          obtain ⟨ao1, cx1, ex1, _, _, h41⟩ := hal wA hb
          simp only [Value.slice.injEq, true_and] at ex1
          obtain ⟨rfl, rfl⟩ := ex1
          obtain ⟨am1, v1, v2, eam1, hpa1⟩ := h41 i q hq
          obtain ⟨am2, v3, v4, eam2, hpa2⟩ := h41 i' q' hq'
          have eam3 : am2 = am1 := Option.some.inj (eam2.symm.trans eam1)
          subst eam3
          have hcm := fun x => ncmp_q hpa2.r1 hpa1.r1 x
          have d0 := hpa1.c0
          have d1 := hpa2.c0
          obtain ⟨_, _, ev1, _⟩ := hpa1.r1
          obtain ⟨_, _, ev3, _⟩ := hpa2.r1
          rw [ev1] at d0 hcm
          rw [ev3] at d1 hcm
          subst eam1
          have hw0 : IntKind.i64.wrap ((i : Int) - 1) = (i' : Int) := by rw [IntKind.wrap_i64]; omega
          have hw0' : (i : Int) - 1 = (i' : Int) := by omega
          have hki1 : (i' : Int) < (mg.length : Int) := by omega
          have hki2 : (0 : Int) < (i : Int) := by omega
          have hki3 : 0 < i := by omega
          have hki4 : decide (0 < i) = true := decide_eq_true hki3
          have hki5 : decide ((i : Int) > 0) = true := decide_eq_true (by omega)
          clear h41 hpa1 hpa2 hq hq' hi' hi0 hcl eam2
          generalize hz : M.cmpL q'.1 q.1 = z at *
          have hzl : z < 0 := HCL.out
          have hz0 : ¬ 0 ≤ z := by omega
          clear hz
          go_wp2_with fail
          go_quiet (first | (go_at_call 27; exact hcm _) | fail)
          have hnB := Below.dN wA nq
          generalize wA.drewN nq = wB at *
          clear hcm d0 d1
          have hbB : Below w9.heap.size w9 wB := hb.trans (hnB.mono hbs)
          go_wp2_with fail
          go_loopw [11, 13, 14, 15] (fun ct k _ _ wr => ∃ kn : Nat, kn ≤ k0 ∧ k = .int .i64 kn ∧ ct = .int .i64 i ∧ Below w9.heap.size w9 wr) (fun _ k _ _ _ => k0 + 1 - (intOf k).toNat)
          case atStart => exact ⟨0, Nat.zero_le _, rfl, rfl, hbB⟩
          case round =>
            obtain ⟨kn, hkn, rfl, rfl, hbr⟩ := hrel
            have hbrs := hbr.size
            obtain ⟨T, hT⟩ : ∃ T, Gs[kn]? = some T := ⟨_, List.getElem?_eq_getElem (by have := HLen.out; omega)⟩
            obtain ⟨t, hct, htt⟩ := hge9 wr hbr kn T hT
            obtain ⟨am', mc', ex, _, _, h4⟩ := hal wr hbr
            simp only [Value.slice.injEq, true_and] at ex
            obtain ⟨rfl, rfl⟩ := ex
            obtain ⟨am, u1, u2, eam, hpa⟩ := h4 i q HQ.out
            have eam9 : am2 = am := Option.some.inj eam
            subst eam9
            have hone := fun W (hW : Below w9.heap.size w9 W) => RdQ.one (hal W hW) HQ.out
            have hgetW := fun W (hW : Below wr.heap.size wr W) => get_any (htt.below hW (Nat.le_refl _)) (hpa.r1.below hW (Nat.le_refl _)) (HF.out.2.2 T (List.mem_of_getElem? hT)) (Nat.le_trans (hTtot T (List.mem_of_getElem? hT)) (by omega))
            have hcW : ∀ W, Below wr.heap.size wr W → W.cell? (a.add kn) = some t ∧ W.cell? (am2.add (i * 3)) = some u1 := fun W hW => ⟨by rw [hW.cell (World.block_lt_of_cell? _ _ hct)]; exact hct, by rw [hW.cell (World.block_lt_of_cell? _ _ hpa.c0)]; exact hpa.c0⟩
            have c0 := hpa.c0
            obtain ⟨x1, y1, rfl, _⟩ := hpa.r1
            obtain ⟨bt, _, rfl, _⟩ := htt
            have g9 : (kn : Int) < ((n + 1 + 1 : Nat) : Int) := by omega
            have nnA := World.new_ne wr _ hct
            have nnB := World.new_ne wr _ c0
            have hBz : Below wr.heap.size wr (wr.alloc (.cells #[.slice none 0 0, .slice none 0 0, .bool false] 48)).drew := Below.tr (bel_al wr _) (bel_drew _)
            have hPz : (wr.alloc (.cells #[.slice none 0 0, .slice none 0 0, .bool false] 48)).drew.heap[wr.heap.size]? = some (.cells #[.slice none 0 0, .slice none 0 0, .bool false] 48 (0, 0)) := heap_alloc_new wr _
            have hPs : (wr.alloc (.cells #[.slice none 0 0, .slice none 0 0, .bool false] 48)).drew.heap.size = wr.heap.size + 1 := by simp
            have hPc : ∀ W, Below (wr.alloc (.cells #[.slice none 0 0, .slice none 0 0, .bool false] 48)).drew.heap.size (wr.alloc (.cells #[.slice none 0 0, .slice none 0 0, .bool false] 48)).drew W → W.heap[wr.heap.size]? = some (.cells #[.slice none 0 0, .slice none 0 0, .bool false] 48 (0, 0)) := fun W hW => by rw [hW.block _ (by omega)]; exact hPz
            have hfinW : ∀ (W : World) (a b c : Value), Below wr.heap.size wr W → Below w9.heap.size w9 (((W.setCell ⟨wr.heap.size, 0, none⟩ a).setCell ⟨wr.heap.size, 1, none⟩ b).setCell ⟨wr.heap.size, 2, none⟩ c) := fun W a b c hW => hbr.trans ((hW.trans ((set3_chg W wr.heap.size a b c).below (fun b q => by omega) hW.size)).mono hbrs)
            clear h4 hpa hPz
            by_cases hkk : kn = k0
            · have hgk := HK1.out T (by rw [← hkk]; exact hT)
              rw [hgk] at hgetW
              simp only [Option.isSome_some, Option.getD_some] at hgetW
              clear hgk hT hkk
              go_wp2_with fail
              go_region_held3 (fun w' => w'.cell? (a.add kn) = some (.pointer (some ⟨bt, 0, none⟩)) ∧ w'.cell? (am2.add (i * 3)) = some (.slice x1 q.1.length y1)) (go_keep) (first
                | (go_at_call 23; refine (hgetW _ (by first | exact bel_drew wr | exact hBz)).mono ?_; rintro e w10 ⟨⟨o1, o2, o3⟩, rfl, hE10, hb10⟩; obtain ⟨⟨q0, q1, q2, e0⟩, q3, q4, q5, e1⟩ := hE10.sl; (try simp only [] at e0 e1); subst e0; subst e1; have hRw : Below wr.heap.size wr w10 := (by first | exact Below.tr (bel_drew wr) hb10 | exact Below.tr hBz hb10); obtain ⟨s0, s1⟩ := hcW w10 hRw; have nn0 := World.new_ne w10 _ s0; have nn1 := World.new_ne w10 _ s1; (try (have hRB := hPc w10 hb10; obtain ⟨r0, r1, r2, rz⟩ := cells3 hRB; have rz0 := rz 0; have rz1 := rz 1; have rz2 := rz 2)))
                | fail)
              · have hE11 := hE10.below (bel_al w10 (.cells #[.slice q0 q1 q2, .slice q3 q4 q5, .bool o3] 48)) (Nat.le_refl _)
                have hW11 : Below w9.heap.size w9 (w10.alloc (.cells #[.slice q0 q1 q2, .slice q3 q4 q5, .bool o3] 48)) := hbr.trans ((Below.tr hRw (bel_al w10 _)).mono hbrs)
                obtain ⟨f0, f1, f2, _⟩ := cells3 (heap_alloc_new w10 (.cells #[.slice q0 q1 q2, .slice q3 q4 q5, .bool o3] 48))
                clear hgetW hcW c0 s0 s1 nn0 nn1 nnA nnB hct hPc hfinW hPs hBz
                go_wp2_with fail
                generalize (w10.alloc (.cells #[.slice q0 q1 q2, .slice q3 q4 q5, .bool o3] 48)) = W0 at *
                have hN := rdq_one W0 W0.heap.size rfl 48 hE11 rfl
                have hw1 : IntKind.i64.wrap ((i : Int) + 1) = (i : Int) + 1 := by rw [IntKind.wrap_i64]; omega
                have g0 : (0 : Int) ≤ (i : Int) := by omega
                have g1 : (i : Int) + 1 ≤ (mc : Int) := by omega
                have g2 : (i : Int) ≤ (i : Int) + 1 := by omega
                have g3 : (mg.length : Int) ≤ (mc : Int) := by omega
                have g4 : ¬ mc = i := by omega
                have g5 : (i : Int) + 1 ≤ (mg.length : Int) := by omega
                have nn0 := World.new_ne W0 _ f0
                have nn1 := World.new_ne W0 _ f1
                have nn2 := World.new_ne W0 _ f2
                go_region_held3 (fun w' => w'.cell? ⟨w10.heap.size, 0, none⟩ = some (.slice q0 q1 q2) ∧ w'.cell? ⟨w10.heap.size, 1, none⟩ = some (.slice q3 q4 q5) ∧ w'.cell? ⟨w10.heap.size, 2, none⟩ = some (.bool o3)) (go_keep) (first
                  | (go_at_call 15; refine (samep_any (ps := [q]) (RdQ.below hN (bel_drew _) (Nat.le_refl _)) (hone _ (hW11.trans ((Below.tr (bel_al W0 _) (bel_drew _)).mono hW11.size)))).mono ?_; rintro e w11 ⟨rfl, n11, rfl⟩; have s0 : ((W0.alloc (.cells #[.slice q0 q1 q2, .slice q3 q4 q5, .bool o3] 48)).drew.drewN n11).cell? ⟨w10.heap.size, 0, none⟩ = some (.slice q0 q1 q2) := keepc f0; have s1 : ((W0.alloc (.cells #[.slice q0 q1 q2, .slice q3 q4 q5, .bool o3] 48)).drew.drewN n11).cell? ⟨w10.heap.size, 1, none⟩ = some (.slice q3 q4 q5) := keepc f1; have s2 : ((W0.alloc (.cells #[.slice q0 q1 q2, .slice q3 q4 q5, .bool o3] 48)).drew.drewN n11).cell? ⟨w10.heap.size, 2, none⟩ = some (.bool o3) := keepc f2)
                  | fail)
                go_wp2_with fail
                exact ⟨⟨i + 1, by omega, by go_num, by go_num, hW11.trans ((Below.tr (bel_al W0 _) (Below.dN _ _)).mono hW11.size)⟩, by simp [intOf]; omega⟩
              · have hE11 := hE10.keptC (set3_chg w10 wr.heap.size (.slice q0 q1 q2) (.slice q3 q4 q5) (.bool o3)) (fun b hb q => by have := (hE10.lt hb).1; omega)
                have hW11 := hfinW w10 (.slice q0 q1 q2) (.slice q3 q4 q5) (.bool o3) hRw
                obtain ⟨f0, f1, f2, _⟩ := cells3 (set3_block hRB (.slice q0 q1 q2) (.slice q3 q4 q5) (.bool o3))
                clear hgetW hcW c0 s0 s1 nn0 nn1 nnA nnB hct r0 r1 r2 rz rz0 rz1 rz2 hPc hfinW hPs hBz
                go_wp2_with fail
                generalize (((w10.setCell ⟨wr.heap.size, 0, none⟩ (.slice q0 q1 q2)).setCell ⟨wr.heap.size, 1, none⟩ (.slice q3 q4 q5)).setCell ⟨wr.heap.size, 2, none⟩ (.bool o3)) = W0 at *
                have hN := rdq_one W0 W0.heap.size rfl 48 hE11 rfl
                have hw1 : IntKind.i64.wrap ((i : Int) + 1) = (i : Int) + 1 := by rw [IntKind.wrap_i64]; omega
                have g0 : (0 : Int) ≤ (i : Int) := by omega
                have g1 : (i : Int) + 1 ≤ (mc : Int) := by omega
                have g2 : (i : Int) ≤ (i : Int) + 1 := by omega
                have g3 : (mg.length : Int) ≤ (mc : Int) := by omega
                have g4 : ¬ mc = i := by omega
                have g5 : (i : Int) + 1 ≤ (mg.length : Int) := by omega
                have nn0 := World.new_ne W0 _ f0
                have nn1 := World.new_ne W0 _ f1
                have nn2 := World.new_ne W0 _ f2
                go_region_held3 (fun w' => w'.cell? ⟨wr.heap.size, 0, none⟩ = some (.slice q0 q1 q2) ∧ w'.cell? ⟨wr.heap.size, 1, none⟩ = some (.slice q3 q4 q5) ∧ w'.cell? ⟨wr.heap.size, 2, none⟩ = some (.bool o3)) (go_keep) (first
                  | (go_at_call 15; refine (samep_any (ps := [q]) (RdQ.below hN (bel_drew _) (Nat.le_refl _)) (hone _ (hW11.trans ((Below.tr (bel_al W0 _) (bel_drew _)).mono hW11.size)))).mono ?_; rintro e w11 ⟨rfl, n11, rfl⟩; have s0 : ((W0.alloc (.cells #[.slice q0 q1 q2, .slice q3 q4 q5, .bool o3] 48)).drew.drewN n11).cell? ⟨wr.heap.size, 0, none⟩ = some (.slice q0 q1 q2) := keepc f0; have s1 : ((W0.alloc (.cells #[.slice q0 q1 q2, .slice q3 q4 q5, .bool o3] 48)).drew.drewN n11).cell? ⟨wr.heap.size, 1, none⟩ = some (.slice q3 q4 q5) := keepc f1; have s2 : ((W0.alloc (.cells #[.slice q0 q1 q2, .slice q3 q4 q5, .bool o3] 48)).drew.drewN n11).cell? ⟨wr.heap.size, 2, none⟩ = some (.bool o3) := keepc f2)
                  | fail)
                go_wp2_with fail
                exact ⟨⟨i + 1, by omega, by go_num, by go_num, hW11.trans ((Below.tr (bel_al W0 _) (Below.dN _ _)).mono hW11.size)⟩, by simp [intOf]; omega⟩
            · have hgk := HK2.out kn T (by omega) hT
              rw [hgk] at hgetW
              simp only [Option.isSome_none, Option.getD_none] at hgetW
              clear hgk hT
              go_wp2_with fail
              go_region_held3 (fun w' => w'.cell? (a.add kn) = some (.pointer (some ⟨bt, 0, none⟩)) ∧ w'.cell? (am2.add (i * 3)) = some (.slice x1 q.1.length y1)) (go_keep) (first
                | (go_at_call 23; refine (hgetW _ (by first | exact bel_drew wr | exact hBz)).mono ?_; rintro e w10 ⟨⟨o1, o2, o3⟩, rfl, hE10, hb10⟩; obtain ⟨⟨q0, q1, q2, e0⟩, q3, q4, q5, e1⟩ := hE10.sl; (try simp only [] at e0 e1); subst e0; subst e1; have hRw : Below wr.heap.size wr w10 := (by first | exact Below.tr (bel_drew wr) hb10 | exact Below.tr hBz hb10); obtain ⟨s0, s1⟩ := hcW w10 hRw; have nn0 := World.new_ne w10 _ s0; have nn1 := World.new_ne w10 _ s1; (try (have hRB := hPc w10 hb10; obtain ⟨r0, r1, r2, rz⟩ := cells3 hRB; have rz0 := rz 0; have rz1 := rz 1; have rz2 := rz 2)))
                | fail)
              · have hW11 : Below w9.heap.size w9 (w10.alloc (.cells #[.slice q0 q1 q2, .slice q3 q4 q5, .bool o3] 48)) := hbr.trans ((Below.tr hRw (bel_al w10 _)).mono hbrs)
                go_wp2_with fail
                exact ⟨⟨kn + 1, by omega, by go_num, rfl, hW11⟩, by simp [intOf]; omega⟩
              · have hW11 := hfinW w10 (.slice q0 q1 q2) (.slice q3 q4 q5) (.bool o3) hRw
                go_wp2_with fail
                exact ⟨⟨kn + 1, by omega, by go_num, rfl, hW11⟩, by simp [intOf]; omega⟩
      · obtain rfl : i = mg.length := by omega
        clear hal hge9
        go_wp2_with fail
        go_ret
        exact ⟨rfl, HW2.out.trans ((H29.out.trans (hb.mono H29.out.size)).mono hW2s)⟩
end Go.Proofs.Ytdaedglfefkeoaa
