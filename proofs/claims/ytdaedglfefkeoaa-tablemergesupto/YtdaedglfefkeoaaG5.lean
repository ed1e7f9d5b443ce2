/- What Open answers of any bytes. -/
import Derived.Test.YtdaedglfefkeoaaG4
import Derived.Test.YtdaedglfefkeoaaG3
import Derived.Deep.RegionHeld3
import Derived.Test.YtdaedglfefkeoaaG2
import Derived.Lib.SlBytesConst
import Derived.Test.YtdaedglfefkeoaaG1
namespace Go.Proofs.Ytdaedglfefkeoaa
open Go.RowKit
set_option linter.unusedVariables false
set_option maxRecDepth 100000

/-- The zero pair's cells. -/
def z3 : V3 := (.slice none 0 0, .slice none 0 0, false)
theorem q3s_made (n : Nat) : (madeCells (Value.agg #[.slice none 0 0, .slice none 0 0, .bool false]).cells (n * 3)).toList = q3s (List.replicate n z3) := by
  have e : (Value.agg #[.slice none 0 0, .slice none 0 0, .bool false]).cells = #[.slice none 0 0, .slice none 0 0, .bool false] := rfl
  rw [e]
  apply List.ext_getElem?
  intro j
  by_cases hj : j < n * 3
  · have hn : j / 3 < n := by omega
    have h1 : (List.replicate n z3)[j / 3]? = some z3 := by simp [hn]
    obtain ⟨a0, a1, a2⟩ := q3s_at (List.replicate n z3) (j / 3) z3 h1
    have hl : (madeCells #[Value.slice none 0 0, .slice none 0 0, .bool false] (n * 3)).toList[j]? = some (#[Value.slice none 0 0, .slice none 0 0, .bool false][j % 3]!) := by
      simp [madeCells, hj]
    rw [hl]
    have h3 : j % 3 = 0 ∨ j % 3 = 1 ∨ j % 3 = 2 := by omega
    rcases h3 with q | q | q
    · rw [q, show j = j / 3 * 3 by omega, a0]; rfl
    · rw [q, show j = j / 3 * 3 + 1 by omega, a1]; rfl
    · rw [q, show j = j / 3 * 3 + 2 by omega, a2]; rfl
  · rw [List.getElem?_eq_none (by simp [madeCells]; omega), List.getElem?_eq_none (by rw [q3s_length]; simp; omega)]
theorem q3s_set (us : List V3) (k : Nat) (x : V3) (hk : k < us.length) : (((q3s us).set (k * 3) x.1).set (k * 3 + 1) x.2.1).set (k * 3 + 2) (.bool x.2.2) = q3s (us.set k x) := by
  induction us generalizing k with
  | nil => simp at hk
  | cons u us ih =>
    cases k with
    | zero => rfl
    | succ k =>
      have h := ih k (by simpa using hk)
      have e : q3s (u :: us) = u.1 :: u.2.1 :: .bool u.2.2 :: q3s us := rfl
      have e2 : q3s ((u :: us).set (k + 1) x) = u.1 :: u.2.1 :: .bool u.2.2 :: q3s (us.set k x) := rfl
      rw [e, e2, ← h, show (k + 1) * 3 = k * 3 + 3 by omega]
      rfl

/-- The array of pairs while it is filled. -/
structure FilP (B g n k : Nat) (ps : List P3) (us : List V3) (w : World) : Prop where
  row : w.ownsRow B 48 3 (.slice (some ⟨g, 0, none⟩) n n) n (q3s us)
  el : ∀ (i : Nat) u p, i < k → us[i]? = some u → ps[i]? = some p → El3 B w u p ∧ ∀ b, Bl3 u b → b ≠ g
theorem FilP.len {B g n k : Nat} {ps : List P3} {us : List V3} {w : World} (h : FilP B g n k ps us w) : us.length = n := by
  have := h.row.1
  rw [q3s_length] at this
  omega
theorem FilP.below {B g n k : Nat} {ps : List P3} {us : List V3} {w w' : World} (h : FilP B g n k ps us w) (hb : Below w.heap.size w w') : FilP B g n k ps us w' :=
  ⟨ownsRow_belW h.row hb (Nat.le_refl _), fun i u p hi e1 e2 => ⟨(h.el i u p hi e1 e2).1.below hb (Nat.le_refl _), (h.el i u p hi e1 e2).2⟩⟩
theorem El3.keptC {B : Nat} {S : Nat → Prop} {w w' : World} {u : V3} {p : P3} (h : El3 B w u p) (hg : Chg S w w') (hne : ∀ b, Bl3 u b → ¬ S b) : El3 B w' u p :=
  ⟨h.1.keptC hg (fun b e => hne b (.inl e)), h.2.1.keptC hg (fun b e => hne b (.inr e)), h.2.2⟩
theorem set3k_chg (w : World) (g j : Nat) (v0 v1 v2 : Value) : Chg (fun b => b = g) w (((w.setCell ⟨g, j, none⟩ v0).setCell ⟨g, j + 1, none⟩ v1).setCell ⟨g, j + 2, none⟩ v2) :=
  (((Chg.refl (fun b => b = g) w).put g j v0 rfl).put g (j + 1) v1 rfl).put g (j + 2) v2 rfl
theorem FilP.put {B g n k : Nat} {ps : List P3} {us : List V3} {w : World} (h : FilP B g n k ps us w) (hk : k < n) (hpl : ps.length = k) {u : V3} {p : P3} (hu : El3 B w u p) (hg : ∀ b, Bl3 u b → b ≠ g) : FilP B g n (k + 1) (ps ++ [p]) (us.set k u) (((w.setCell ⟨g, k * 3, none⟩ u.1).setCell ⟨g, k * 3 + 1, none⟩ u.2.1).setCell ⟨g, k * 3 + 2, none⟩ (.bool u.2.2)) := by
  have hch := set3k_chg w g (k * 3) u.1 u.2.1 (.bool u.2.2)
  have hl := h.len
  refine ⟨?_, fun i x q hi e1 e2 => ?_⟩
  · rw [← q3s_set us k u (by omega)]
    exact row_put (row_put (row_put h.row rfl (k * 3) u.1) rfl (k * 3 + 1) u.2.1) rfl (k * 3 + 2) _
  · by_cases hik : i = k
    · subst hik
      rw [List.getElem?_set_self (by omega)] at e1
      obtain rfl := Option.some.inj e1
      rw [List.getElem?_append_right (by omega), hpl, Nat.sub_self] at e2
      obtain rfl := Option.some.inj e2
      exact ⟨hu.keptC hch (fun b e q => hg b e q), hg⟩
    · rw [List.getElem?_set_ne (by omega)] at e1
      rw [List.getElem?_append_left (by omega)] at e2
      have := h.el i x q (by omega) e1 e2
      exact ⟨this.1.keptC hch (fun b e q => this.2 b e q), this.2⟩
theorem FilP.owq {B g n : Nat} {ps : List P3} {us : List V3} {w : World} (h : FilP B g n n ps us w) (hpl : ps.length = n) : OwQ B w (.slice (some ⟨g, 0, none⟩) n n) ps us := by
  have hl := h.len
  exact ⟨by rw [hl]; exact h.row, by omega, fun i u p e1 e2 => (h.el i u p (by have := (List.getElem?_eq_some_iff.1 e1).1; omega) e1 e2).1, fun u hu b hb q => by
    obtain ⟨i, hi, rfl⟩ := List.getElem_of_mem hu
    have q2 : g = b := Option.some.inj q
    exact (h.el i us[i] (ps[i]'(by omega)) (by omega) (by simp [hi]) (by simp [show i < ps.length by omega])).2 b hb q2.symm⟩
theorem FilP.rdq {B g n : Nat} {ps : List P3} {us : List V3} {w : World} (h : FilP B g n n ps us w) (hpl : ps.length = n) : RdQ w (.slice (some ⟨g, 0, none⟩) n n) ps := (h.owq hpl).rdq

/-- A table in memory, with these pairs. -/
def Tbl (w : World) (t : Value) (ps : List P3) : Prop := ∃ b sv, t = .pointer (some ⟨b, 0, none⟩) ∧ w.cell? ⟨b, 0, none⟩ = some sv ∧ RdQ w sv ps
theorem Tbl.below {B : Nat} {w w' : World} {t : Value} {ps : List P3} (h : Tbl w t ps) (hb : Below B w w') (hB : w.heap.size ≤ B) : Tbl w' t ps := by
  obtain ⟨b, sv, rfl, hc, hq⟩ := h
  exact ⟨b, sv, rfl, by rw [hb.cell (by have := World.block_lt_of_cell? _ _ hc; omega)]; exact hc, hq.below hb hB⟩

/-- A table in memory of its own, from block B on. -/
def TblB (B : Nat) (w : World) (t : Value) (ps : List P3) : Prop := ∃ b sv us, t = .pointer (some ⟨b, 0, none⟩) ∧ B ≤ b ∧ w.cell? ⟨b, 0, none⟩ = some sv ∧ OwQ B w sv ps us
theorem TblB.tbl {B : Nat} {w : World} {t : Value} {ps : List P3} (h : TblB B w t ps) : Tbl w t ps := by
  obtain ⟨b, sv, us, e, _, hc, ho⟩ := h
  exact ⟨b, sv, e, hc, ho.rdq⟩
theorem OwQ.keptG {B g : Nat} {w w' : World} {v : Value} {ps : List P3} {us : List V3} (h : OwQ B w v ps us) (hg : w.grownBy w' (some g)) (hB : g < B) : OwQ B w' v ps us := by
  have hch : Chg (fun b => b = g) w w' := Chg.of_grown hg (fun b e _ => (Option.some.inj e).symm)
  refine ⟨ownsRow_keptC h.row hch (fun b e q => by have := (World.ownsRow.lt h.row b e).1; omega), h.len, fun i u p e1 e2 => ?_, h.off⟩
  have hE := h.el i u p e1 e2
  exact hE.keptC hch (fun b hb q => by have := (hE.lt hb).1; omega)
theorem TblB.below {B C : Nat} {w w' : World} {t : Value} {ps : List P3} (h : TblB B w t ps) (hb : Below C w w') (hC : w.heap.size ≤ C) : TblB B w' t ps := by
  obtain ⟨b, sv, us, e, hB, hc, ho⟩ := h
  exact ⟨b, sv, us, e, hB, by rw [hb.cell (by have := World.block_lt_of_cell? _ _ hc; omega)]; exact hc, ho.below hb hC⟩
theorem TblB.keptG {B g : Nat} {w w' : World} {t : Value} {ps : List P3} (h : TblB B w t ps) (hg : w.grownBy w' (some g)) (hB : g < B) : TblB B w' t ps := by
  obtain ⟨b, sv, us, e, hb, hc, ho⟩ := h
  refine ⟨b, sv, us, e, hb, ?_, ho.keptG hg hB⟩
  rw [World.cell?_of_block (w := w) (hg.block b (World.block_lt_of_cell? _ _ hc) (by intro q; have := Option.some.inj q; omega))]
  exact hc
theorem fields_lt (l : List UInt8) (f : List UInt8) (h : f ∈ (M.tr l).1) : f.length ≤ l.length := by
  by_cases h0 : (M.tr l).2 = 0
  · have e := M.tr_form l h0
    obtain ⟨i, hi, rfl⟩ := List.getElem_of_mem h
    have := M.rowB_field (M.tr l).1 i hi
    have h2 : (M.row (M.tr l).1).length = l.length := by rw [e]
    simp only [M.row, List.length_append] at h2
    omega
  · have : (M.tr l).1 = [] := by
      revert h0
      unfold M.tr
      split
      · simp
      · split
        · simp
        · split
          · simp
          · split
            · simp
            · simp
    rw [this] at h; cases h
theorem fields_len (l : List UInt8) : (M.tr l).1.length ≤ l.length := by
  by_cases h : (M.tr l).2 = 0
  · have := M.tr_form l h
    have h2 := M.rowB_pos (M.tr l).1
    have h3 : (M.row (M.tr l).1).length = l.length := by rw [this]
    simp only [M.row, List.length_append] at h3
    omega
  · have : (M.tr l).1 = [] := by
      revert h
      unfold M.tr
      split
      · simp
      · split
        · simp
        · split
          · simp
          · split
            · simp
            · simp
    rw [this]; simp
theorem tf_len (l : List UInt8) : (M.tf l).1.length ≤ l.length := by
  by_cases h : (M.tf l).2.2 = 0
  · have := M.tf_form l h
    have h3 : (M.frame (M.tf l).1 ++ (M.tf l).2.1).length = l.length := by rw [this]
    simp only [M.frame, List.length_append] at h3
    omega
  · rcases tf_cases l with ⟨h1, h2⟩ | ⟨h1, h2, h3⟩ | ⟨h1, h2, h3⟩
    · rw [h2]; simp
    · rw [h3]; simp
    · rw [h3] at h ⊢
      split
      · simp
      · split
        · simp
        · rename_i q1 q2
          rw [if_neg q1, if_neg q2] at h
          exact absurd rfl h

set_option maxHeartbeats 4000000 in
theorem open_anyB {v : Value} {l : List UInt8} {w : World} (hr : Rd w v l) (hl : l.length ≤ 268435456) :
    Calls Try.prog 16 #[v] w fun e w' => ((∃ ps t, M.opn l = some ps ∧ e = .returned (.tuple #[t, .int .i64 0]) ∧ TblB w.heap.size w' t ps) ∨ (M.opn l = none ∧ e = .returned (.tuple #[.pointer none, .int .i64 50]))) ∧ Below w.heap.size w w' := by
  have htf := tframe_any hr (by omega)
  have hbl := tf_len l
  generalize hT : M.opn l = T
  have HT : Hid _ := hT
  clear hT
  have hv := hr
  obtain ⟨av, cv, rfl, _⟩ := hr
  by_cases her : (M.tf l).2.2 = 0
  · by_cases hre : (M.tf l).2.1 = []
    · by_cases hro : (M.tr (M.tf l).1).2 = 0
      · have HT2 : Hid (T = M.keepR (M.allP (M.tr (M.tf l).1).1)) := by
          show T = _
          rw [← HT.out]; unfold M.opn; rw [if_pos ⟨her, hre, hro⟩]
        have hfl := fields_len (M.tf l).1
        have hflt := fields_lt (M.tf l).1
        have htr : ∀ {W x}, Rd W x (M.tf l).1 → Calls Try.prog 37 #[x] W fun e w' => ∃ v' us, e = .returned (.tuple #[v', .int .i64 0]) ∧ Ows W.heap.size w' v' (M.tr (M.tf l).1).1 us ∧ Below W.heap.size W w' := fun {W x} hx => by
          have := takerow_any hx (by omega)
          rw [hro] at this
          exact this
        rw [her, hre] at htf
        clear HT hro her hre
        generalize (M.tr (M.tf l).1).1 = fs at *
        obtain ⟨i, hi, hz0, hz1, hz2⟩ := info_parts Try.infoQ
        go_enter Try.func16, Try.ntmps16
        go_wp2_with fail
        refine htf.mono ?_
        rintro e w1 ⟨v1, v2, rfl, ho1, ho2, _, hb1⟩
        obtain ⟨a1, d1, rfl⟩ := ho1.shape
        obtain ⟨a2, d2, rfl⟩ := ho2.shape
        have ho1' := ho1.rd
        clear ho2 ho1
        simp only [List.length_nil] at *
        go_wp2_with fail
        refine (htr ho1').mono ?_
        rintro e w2 ⟨v3, vs, rfl, ho3, hb3⟩
        have hrds := ho3.rds
        obtain ⟨a3, d3, e3, f1, f2, f4⟩ := ho3.rds
        subst e3
        have hB2 : Below w.heap.size w w2 := hb1.trans (hb3.mono hb1.size)
        have hB2s := hB2.size
        clear ho3 hb3 hb1 ho1' htf htr
        unfold maxLen at f2
        go_wp2_with (first | (at_make; refine wpList_make_full _ rfl _ _ 22 rfl w.heap.size 48 i _ 3 Try.underlying22 hi hz0 hz1 _ _ _ _ fs.length rfl rfl rfl rfl (by rw [hz2]; omega) (by unfold maxLen; omega) hB2s ?_; intro w3 hown hgr) | fail)
        have hb3 : Below w2.heap.size w2 w3 := (Below.refl _ w2).grown hgr (Nat.le_refl _) (fun k e => by cases e)
        have hf3 : FilP w.heap.size w2.heap.size fs.length 0 [] (List.replicate fs.length z3) w3 := ⟨by rw [← q3s_made]; exact hown, fun i u p h => by omega⟩
        have hs3 : w2.heap.size < w3.heap.size := (World.ownsRow.lt hf3.row _ rfl).2
        have hB3 : Below w.heap.size w w3 := hB2.trans (hb3.mono hB2s)
        have HB2 : Hid (Below w.heap.size w w2) := hB2
        clear hown hgr hB2
        go_loopw [9, 10, 11, 12, 38] (fun _ _ _ _ i wr => ∃ (k : Nat) (ps : List P3) (us : List V3), k ≤ fs.length ∧ i = .int .i64 k ∧ ps.length = k ∧ FilP w.heap.size w2.heap.size fs.length k ps us wr ∧ Below w2.heap.size w2 wr ∧ w2.heap.size < wr.heap.size ∧ Hid (∀ (i : Nat) f p, fs[i]? = some f → ps[i]? = some p → M.tp f = some p)) (fun _ _ _ _ i _ => fs.length - (intOf i).toNat)
        case atStart => exact ⟨0, [], _, Nat.zero_le _, rfl, rfl, hf3, hb3, hs3, (fun i f p _ e => by simp at e)⟩
        case round =>
          obtain ⟨k, ps, us, hk, rfl, hpl, hf, hb, hsz, HP⟩ := hrel
          clear hf3 hb3 hs3 hB3
          by_cases hlt : k < fs.length
          · obtain ⟨a, u, rfl, hc, hru⟩ := f4 k hlt
            have hcx : wr.cell? (a.add k) = some u := by rw [hb.cell (World.block_lt_of_cell? w2 _ hc)]; exact hc
            have hrx := hru.below hb (Nat.le_refl _)
            have htk := takepair_any hrx (by have := hflt fs[k] (List.getElem_mem hlt); omega)
            have hfk : fs[k]? = some fs[k] := by simp [hlt]
            have hki : (k : Int) < (fs.length : Int) := by omega
            obtain ⟨au, cu, rfl, _⟩ := hru
            generalize fs[k] = f at *
            clear f4 hc hrx
            cases htp : M.tp f with
            | none =>
              have hTn : T = none := by rw [HT2.out, M.allP_none hfk htp]; rfl
              subst hTn
              rw [htp] at htk
              clear HT2 HP
              go_wp2_with fail
              refine htk.mono ?_
              rintro e w4 ⟨u4, rfl, hE4, hb4⟩
              obtain ⟨⟨p0, p1, p2, e0⟩, p3, p4, p5, e1⟩ := hE4.sl
              obtain ⟨x0, x1, x2⟩ := u4
              simp only [] at *
              subst e0
              subst e1
              go_wp2_with fail
              go_ret2
              exact ⟨rfl, HB2.out.trans ((hb.trans ((Below.tr hb4 (bel_al w4 _)).mono hb.size)).mono hB2s)⟩
            | some p =>
              rw [htp] at htk
              go_wp2_with fail
              refine htk.mono ?_
              rintro e w4 ⟨u4, rfl, hE4, hb4⟩
              obtain ⟨⟨p0, p1, p2, e0⟩, p3, p4, p5, e1⟩ := hE4.sl
              have hul := hf.len
              have hf5 := (hf.below hb4).below (bel_al w4 (.cells #[u4.1, u4.2.1, .bool u4.2.2] 48))
              have hb5 : Below wr.heap.size wr (w4.alloc (.cells #[u4.1, u4.2.1, .bool u4.2.2] 48)) := Below.tr hb4 (bel_al w4 _)
              have hE5 := (hE4.below (bel_al w4 (.cells #[u4.1, u4.2.1, .bool u4.2.2] 48)) (Nat.le_refl _))
              have hne : ∀ b, Bl3 u4 b → b ≠ w2.heap.size := fun b hbb q => by have := (hE4.lt hbb).1; omega
              obtain ⟨g0, g1, g2⟩ := q3s_at us k us[k] (by simp [show k < us.length by omega])
              have hfz := row_froz hf5.row
              have hcl : ∀ j u, (q3s us)[j]? = some u → (w4.alloc (.cells #[u4.1, u4.2.1, .bool u4.2.2] 48)).cell? ⟨w2.heap.size, j, none⟩ = some u := fun j u hu => by
                obtain ⟨_, _, er, _, _, _, r4⟩ := row_reads hf5.row
                simp only [Value.slice.injEq, true_and] at er
                obtain ⟨rfl, rfl⟩ := er
                obtain ⟨g', eg, hc⟩ := r4 j u hu
                simp only [Option.some.injEq, Addr.mk.injEq, and_true] at eg
                rw [eg]; exact hc
              have k0 := hcl _ _ g0
              have k1 := hcl _ _ g1
              have k2 := hcl _ _ g2
              have z0 := hfz (k * 3)
              have z1 := hfz (k * 3 + 1)
              have z2 := hfz (k * 3 + 2)
              have hfin := hf5.put hlt hpl (hE5.mono (Nat.le_trans hB2s (Nat.le_of_lt hsz))) hne
              have hcg := (set3k_chg (w4.alloc (.cells #[u4.1, u4.2.1, .bool u4.2.2] 48)) w2.heap.size (k * 3) u4.1 u4.2.1 (.bool u4.2.2)).below (B := w2.heap.size) (fun b q => by omega) (by have := hb5.size; omega)
              have hs5 := hb5.size
              have HF : Hid _ := And.intro hfin (And.intro (hb.trans ((hb5.mono hb.size).trans hcg)) (Nat.lt_of_lt_of_le hsz (Nat.le_trans hs5 hcg.size)))
              clear hfin hcg hfz hcl hE4 hE5 hf5 hb5 hf hb hb4 g0 g1 g2 hne hs5
              obtain ⟨x0, x1, x2⟩ := u4
              simp only [] at *
              subst e0
              subst e1
              go_wp2_with fail
              refine ⟨⟨k + 1, ps ++ [p], us.set k (.slice p0 p1 p2, .slice p3 p4 p5, x2), by omega, by go_num, by simp [hpl], HF.out.1, HF.out.2.1, HF.out.2.2, fun i f' q e1 e2 => ?_⟩, by simp [intOf]; omega⟩
              by_cases hik : i < ps.length
              · rw [List.getElem?_append_left hik] at e2
                exact HP.out i f' q e1 e2
              · have hil : i < (ps ++ [p]).length := (List.getElem?_eq_some_iff.1 e2).1
                simp only [List.length_append, List.length_singleton] at hil
                obtain rfl : i = k := by omega
                rw [hfk] at e1
                obtain rfl := Option.some.inj e1
                rw [List.getElem?_append_right (by omega), hpl, Nat.sub_self] at e2
                obtain rfl := Option.some.inj e2
                exact htp
          · obtain rfl : k = fs.length := by omega
            have hTs : T = if M.ris ps then some ps else none := by rw [HT2.out, M.allP_some hpl HP.out]; rfl
            have hq := hf.owq hpl
            have hris := rising_any hq.rdq
            clear HT2 HP f4 hf
            by_cases hri : M.ris ps = true
            · rw [if_pos hri] at hTs
              subst hTs
              rw [hri] at hris
              go_wp2_with fail
              refine hris.mono ?_
              rintro e w5 ⟨rfl, n5, rfl⟩
              go_wp2_with fail
              go_ret2
              refine ⟨.inl ⟨ps, _, rfl, rfl, ⟨wr.heap.size, _, us, rfl, Nat.le_trans hB2s (Nat.le_of_lt hsz), cell_new1 (wr.drewN n5) _ _, hq.below (Below.tr (Below.dN wr n5) (bel_al _ _)) (Nat.le_refl _)⟩⟩, ?_⟩
              exact HB2.out.trans ((hb.trans ((Below.tr (Below.dN wr n5) (bel_al _ _)).mono hb.size)).mono hB2s)
            · rw [if_neg hri] at hTs
              subst hTs
              rw [show M.ris ps = false by simpa using hri] at hris
              go_wp2_with fail
              refine hris.mono ?_
              rintro e w5 ⟨rfl, n5, rfl⟩
              go_wp2_with fail
              go_ret2
              exact ⟨rfl, HB2.out.trans ((hb.trans ((Below.dN wr n5).mono hb.size)).mono hB2s)⟩
      · have hTn : T = none := by rw [← HT.out]; unfold M.opn; rw [if_neg (fun q => hro q.2.2)]
        subst hTn
        have htr : ∀ {W x}, Rd W x (M.tf l).1 → Calls Try.prog 37 #[x] W fun e w' => ∃ v' us, e = .returned (.tuple #[v', .int .i64 (M.tr (M.tf l).1).2]) ∧ Ows W.heap.size w' v' (M.tr (M.tf l).1).1 us ∧ Below W.heap.size W w' := fun {W x} hx => takerow_any hx (by omega)
        rw [her, hre] at htf
        have hne : (((M.tr (M.tf l).1).2 : Int) != 0) = true := by simp; omega
        clear HT hro her hre
        generalize M.tr (M.tf l).1 = R at *
        obtain ⟨fs, er⟩ := R
        simp only [] at *
        go_enter Try.func16, Try.ntmps16
        go_wp2_with fail
        refine htf.mono ?_
        rintro e w1 ⟨v1, v2, rfl, ho1, ho2, _, hb1⟩
        obtain ⟨a1, d1, rfl⟩ := ho1.shape
        obtain ⟨a2, d2, rfl⟩ := ho2.shape
        have ho1' := ho1.rd
        clear ho2 ho1
        simp only [List.length_nil] at *
        go_wp2_with fail
        refine (htr ho1').mono ?_
        rintro e w2 ⟨v3, vs, rfl, ho3, hb3⟩
        go_wp2_with fail
        go_ret2
        exact ⟨.inr ⟨trivial, rfl⟩, hb1.trans (hb3.mono hb1.size)⟩
    · have hTn : T = none := by rw [← HT.out]; unfold M.opn; rw [if_neg (fun q => hre q.2.1)]
      subst hTn
      have hgt : 0 < (M.tf l).2.1.length := by
        rcases Nat.eq_zero_or_pos (M.tf l).2.1.length with q | q
        · exact absurd (List.length_eq_zero_iff.1 q) hre
        · exact q
      rw [her] at htf
      generalize (M.tf l).2.1 = rest at *
      clear hre her HT
      go_enter Try.func16, Try.ntmps16
      go_wp2_with fail
      refine htf.mono ?_
      rintro e w1 ⟨v1, v2, rfl, ho1, ho2, _, hb1⟩
      obtain ⟨a1, d1, rfl⟩ := ho1.shape
      obtain ⟨a2, d2, rfl⟩ := ho2.shape
      clear ho2 ho1
      go_wp2_with fail
      go_ret2
      exact ⟨.inr ⟨trivial, rfl⟩, hb1⟩
  · have hTn : T = none := by rw [← HT.out]; unfold M.opn; rw [if_neg (fun q => her q.1)]
    subst hTn
    have hne : (((M.tf l).2.2 : Int) != 0) = true := by simp; omega
    generalize (M.tf l).2.1 = rest at *
    generalize (M.tf l).2.2 = er at *
    clear her HT
    go_enter Try.func16, Try.ntmps16
    go_wp2_with fail
    refine htf.mono ?_
    rintro e w1 ⟨v1, v2, rfl, ho1, ho2, _, hb1⟩
    obtain ⟨a1, d1, rfl⟩ := ho1.shape
    obtain ⟨a2, d2, rfl⟩ := ho2.shape
    clear ho2 ho1
    go_wp2_with fail
    go_ret2
    exact ⟨.inr ⟨trivial, rfl⟩, hb1⟩
theorem open_any {v : Value} {l : List UInt8} {w : World} (hr : Rd w v l) (hl : l.length ≤ 268435456) :
    Calls Try.prog 16 #[v] w fun e w' => ((∃ ps t, M.opn l = some ps ∧ e = .returned (.tuple #[t, .int .i64 0]) ∧ Tbl w' t ps) ∨ (M.opn l = none ∧ e = .returned (.tuple #[.pointer none, .int .i64 50]))) ∧ Below w.heap.size w w' := by
  refine (open_anyB hr hl).mono ?_
  rintro e w' ⟨h | h, hb⟩
  · obtain ⟨ps, t, h1, h2, h3⟩ := h
    exact ⟨.inl ⟨ps, t, h1, h2, h3.tbl⟩, hb⟩
  · exact ⟨.inr h, hb⟩
end Go.Proofs.Ytdaedglfefkeoaa

/- What copied answers: the same pair in memory of its own. -/
namespace Go.Proofs.Ytdaedglfefkeoaa
open Go.RowKit
set_option linter.unusedVariables false
set_option maxRecDepth 100000

set_option maxHeartbeats 2000000 in
theorem copied_any {x y : Value} {p : P3} {w : World} (h1 : Rd w x p.1) (h2 : Rd w y p.2.1) (hl : p.1.length + p.2.1.length ≤ 1099511627776) :
    Calls Try.prog 42 #[.agg #[x, y, .bool p.2.2]] w fun e w' => ∃ u : V3, e = .returned (.agg #[u.1, u.2.1, .bool u.2.2]) ∧ El3 w.heap.size w' u p ∧ Below w.heap.size w w' := by
  have hr1 := fun W (hW : Below w.heap.size w W) => h1.below hW (Nat.le_refl _)
  have hr2 := fun W (hW : Below w.heap.size w W) => h2.below hW (Nat.le_refl _)
  obtain ⟨ax, cx, rfl, _⟩ := h1
  obtain ⟨ay, cy, rfl, _⟩ := h2
  obtain ⟨pk, pv, pg⟩ := p
  simp only [] at *
  have hbx : ((w.alloc (.cells #[.slice ax pk.length cx, .slice ay pv.length cy, .bool pg] 48)).alloc (.cells #[.slice none 0 0, .slice none 0 0, .bool false] 48)).heap[w.heap.size]? = some (.cells #[.slice ax pk.length cx, .slice ay pv.length cy, .bool pg] 48 (0, 0)) := by
    rw [Below.heap_alloc _ _ _ (by simp)]; exact heap_alloc_new w _
  have hrs : ((w.alloc (.cells #[.slice ax pk.length cx, .slice ay pv.length cy, .bool pg] 48)).alloc (.cells #[.slice none 0 0, .slice none 0 0, .bool false] 48)).heap[w.heap.size + 1]? = some (.cells #[.slice none 0 0, .slice none 0 0, .bool false] 48 (0, 0)) := by
    have := heap_alloc_new (w.alloc (.cells #[.slice ax pk.length cx, .slice ay pv.length cy, .bool pg] 48)) (.cells #[.slice none 0 0, .slice none 0 0, .bool false] 48)
    rw [World.size_alloc] at this
    exact this
  have hB0 : Below w.heap.size w ((w.alloc (.cells #[.slice ax pk.length cx, .slice ay pv.length cy, .bool pg] 48)).alloc (.cells #[.slice none 0 0, .slice none 0 0, .bool false] 48)) := (bel_al w _).alloc (by simp) _
  have hz0 : ((w.alloc (.cells #[.slice ax pk.length cx, .slice ay pv.length cy, .bool pg] 48)).alloc (.cells #[.slice none 0 0, .slice none 0 0, .bool false] 48)).heap.size = w.heap.size + 2 := by simp
  go_enter Try.func42, Try.ntmps42
  go_wp2_with fail
  generalize ((w.alloc (.cells #[.slice ax pk.length cx, .slice ay pv.length cy, .bool pg] 48)).alloc (.cells #[.slice none 0 0, .slice none 0 0, .bool false] 48)) = W0 at *
  obtain ⟨c0, c1, c2, _⟩ := cells3 hbx
  have kc : ∀ W, Below W0.heap.size W0 W → (W.cell? ⟨w.heap.size, 0, none⟩ = some (.slice ax pk.length cx) ∧ W.cell? ⟨w.heap.size, 1, none⟩ = some (.slice ay pv.length cy) ∧ W.cell? ⟨w.heap.size, 2, none⟩ = some (.bool pg)) ∧ W.heap[w.heap.size + 1]? = some (.cells #[.slice none 0 0, .slice none 0 0, .bool false] 48 (0, 0)) := fun W hW => by
    have e1 : W.heap[w.heap.size]? = W0.heap[w.heap.size]? := hW.block _ (by omega)
    have e2 : W.heap[w.heap.size + 1]? = W0.heap[w.heap.size + 1]? := hW.block _ (by omega)
    obtain ⟨q0, q1, q2, _⟩ := cells3 (e1.trans hbx)
    exact ⟨⟨q0, q1, q2⟩, e2.trans hrs⟩
  have cl1 : ∀ W, Below W0.heap.size W0 W → Calls Try.prog 52 #[.slice ax pk.length cx] W fun e w' => ∃ v', e = .returned v' ∧ Ow W0.heap.size w' v' pk ∧ Below W0.heap.size W0 w' := fun W hW => (clone_any (hr1 W (hB0.trans (hW.mono hB0.size))) (by omega)).mono (by
    rintro e w' ⟨v', rfl, q1, q2⟩
    exact ⟨v', rfl, q1.mono hW.size, hW.trans (q2.mono hW.size)⟩)
  have cl2 : ∀ W, Below W0.heap.size W0 W → Calls Try.prog 52 #[.slice ay pv.length cy] W fun e w' => ∃ v', e = .returned v' ∧ Ow W.heap.size w' v' pv ∧ Below W.heap.size W w' := fun W hW => clone_any (hr2 W (hB0.trans (hW.mono hB0.size))) (by omega)
  have fin : ∀ (w1 w2 : World) (a b : Value), Below W0.heap.size W0 w1 → Below w1.heap.size w1 w2 → Ow W0.heap.size w1 a pk → Ow w1.heap.size w2 b pv → ∀ W, W = (((w2.setCell ⟨w.heap.size + 1, 0, none⟩ a).setCell ⟨w.heap.size + 1, 1, none⟩ b).setCell ⟨w.heap.size + 1, 2, none⟩ (.bool pg)) → (W.cell? ⟨w.heap.size + 1, 0, none⟩ = some a ∧ W.cell? ⟨w.heap.size + 1, 1, none⟩ = some b ∧ W.cell? ⟨w.heap.size + 1, 2, none⟩ = some (.bool pg)) ∧ El3 w.heap.size W (a, b, pg) (pk, pv, pg) ∧ Below w.heap.size w W := fun w1 w2 a b g1 g2 oa ob W hW => by
    subst hW
    have hB2 : Below W0.heap.size W0 w2 := g1.trans (g2.mono g1.size)
    have hch := set3_chg w2 (w.heap.size + 1) a b (.bool pg)
    obtain ⟨k0, k1, k2, _⟩ := cells3 (set3_block (kc w2 hB2).2 a b (.bool pg))
    have s1 := g1.size
    refine ⟨⟨k0, k1, k2⟩, ⟨((oa.below g2 (Nat.le_refl _)).keptC hch (fun b e q => by have := (World.ownsRow.lt oa b e).1; omega)).mono (by omega), (ob.keptC hch (fun b e q => by have := (World.ownsRow.lt ob b e).1; omega)).mono (by omega), rfl⟩, hB0.trans ((hB2.mono (by omega)).trans (hch.below (fun b q => by omega) (by have := hB2.size; omega)))⟩
  have HF : Hid _ := fin
  clear fin hr1 hr2
  go_region_held3 (fun w' => w'.cell? ⟨w.heap.size, 0, none⟩ = some (.slice ax pk.length cx) ∧ w'.cell? ⟨w.heap.size, 1, none⟩ = some (.slice ay pv.length cy) ∧ w'.cell? ⟨w.heap.size, 2, none⟩ = some (.bool pg)) (go_keep) (first
    | (go_at_call 52; refine (cl2 w1 hB1).mono ?_; rintro e w2 ⟨v2, rfl, hoy, hb2⟩; obtain ⟨a2, d2, rfl⟩ := hoy.shape; obtain ⟨⟨t0, t1, t2⟩, hR2⟩ := kc w2 (hB1.trans (hb2.mono hB1.size)); obtain ⟨r0, r1, r2, rz⟩ := cells3 hR2; have rz0 := rz 0; have rz1 := rz 1; have rz2 := rz 2)
    | (go_at_call 52; refine (cl1 _ (bel_drew W0)).mono ?_; rintro e w1 ⟨v1, rfl, hox, hB1⟩; obtain ⟨a1, d1, rfl⟩ := hox.shape; obtain ⟨⟨s0, s1, s2⟩, _⟩ := kc w1 hB1)
    | fail)
  go_wp2_with fail
  obtain ⟨⟨k0, k1, k2⟩, hE, hBz⟩ := HF.out w1 w2 _ _ hB1 hb2 hox hoy _ rfl
  generalize (((w2.setCell ⟨w.heap.size + 1, 0, none⟩ (.slice a1 pk.length d1)).setCell ⟨w.heap.size + 1, 1, none⟩ (.slice a2 pv.length d2)).setCell ⟨w.heap.size + 1, 2, none⟩ (.bool pg)) = wz at *
  refine bodyPost_ret (v := .agg #[.slice a1 pk.length d1, .slice a2 pv.length d2, .bool pg]) (by simp [results, Try.results42, go_sem, k0, k1, k2]; try rfl) rfl ?_
  exact ⟨(.slice a1 pk.length d1, .slice a2 pv.length d2, pg), rfl, hE, hBz⟩
end Go.Proofs.Ytdaedglfefkeoaa

/- The place of a key in a table. -/
namespace Go.Proofs.Ytdaedglfefkeoaa
open Go.RowKit Go.Maps
set_option linter.unusedVariables false
set_option maxRecDepth 100000

theorem place1_any {x y kv : Value} {p : P3} {key : List UInt8} {w : World} (h1 : Rd w x p.1) (h2 : ∃ a n c, y = .slice a n c) (h3 : Rd w kv key) : Calls Try.prog 62 #[.agg #[x, y, .bool p.2.2], kv] w fun e w' => e = .returned (.int .i64 (M.cmpL p.1 key)) ∧ Below w.heap.size w w' := by
  obtain ⟨a2, n2, c2, rfl⟩ := h2
  have hc := fun W (hW : Below w.heap.size w W) => bcompare_any (h1.below hW (Nat.le_refl _)) (h3.below hW (Nat.le_refl _))
  obtain ⟨ax, cx, rfl, _⟩ := h1
  obtain ⟨ak, ck, rfl, _⟩ := h3
  go_enter Try.func62, Try.ntmps62
  go_wp2_with fail
  refine (hc _ (bel_al w _)).mono ?_
  rintro e w1 ⟨rfl, rfl⟩
  go_wp2_with fail
  go_ret
  exact ⟨rfl, bel_al w _⟩

set_option maxHeartbeats 1000000 in
theorem psearch_any {v kv : Value} {ps : List P3} {key : List UInt8} {w : World} (h : RdQ w v ps) (hk : Rd w kv key) (hU : M.ris ps = true) (hl : ps.length ≤ 1099511627776) :
    Calls Try.prog 61 #[v, kv, .func (.func 62) #[] #[]] w fun e w' => e = .returned (.tuple #[.int .i64 (M.plK ps key : Int), .bool (M.isK ps key)]) ∧ Below w.heap.size w w' := by
  obtain ⟨ao, c, rfl, h1, h2, h4⟩ := h
  unfold maxLen at h2
  have hkb := fun W (hW : Below w.heap.size w W) => hk.below hW (Nat.le_refl _)
  obtain ⟨ak, ck, rfl, _⟩ := hk
  go_enter Try.func61, Try.ntmps61
  go_wp2_with fail
  go_loopw [9, 10, 11] (fun i j _ wr => ∃ (i0 j0 : Nat), i0 ≤ j0 ∧ j0 ≤ ps.length ∧ i = .int .i64 i0 ∧ j = .int .i64 j0 ∧ Hid (∀ k p, k < i0 → ps[k]? = some p → M.cmpL p.1 key < 0) ∧ Hid (∀ k p, j0 ≤ k → ps[k]? = some p → 0 ≤ M.cmpL p.1 key) ∧ Below w.heap.size w wr) (fun i j _ _ => (intOf j).toNat - (intOf i).toNat)
  case atStart => exact ⟨0, ps.length, by omega, by omega, rfl, rfl, (fun k p q => by omega), (fun k p q e => by have := (List.getElem?_eq_some_iff.1 e).1; omega), Below.refl _ _⟩
  case round =>
    obtain ⟨i0, j0, hij, hjn, rfl, rfl, HLO, HHI, hb⟩ := hrel
    by_cases hlt : i0 < j0
    · obtain ⟨k, hk⟩ : ∃ k, (i0 + j0) / 2 = k := ⟨_, rfl⟩
      have hkl : k < ps.length := by omega
      obtain ⟨p, hp⟩ : ∃ p, ps[k]? = some p := ⟨_, List.getElem?_eq_getElem hkl⟩
      obtain ⟨a, u1, u2, rfl, hpa⟩ := h4 k p hp
      have hpr := hpa.below hb (Nat.le_refl _)
      have c0 := hpr.c0
      have c1 := hpr.c1
      have c2 := hpr.c2
      have hf := place1_any (p := p) hpr.r1 (by obtain ⟨_, _, e, _⟩ := hpr.r2; exact ⟨_, _, _, e⟩) (hkb wr hb)
      obtain ⟨ax, cx, rfl, _⟩ := hpr.r1
      obtain ⟨ay, cy, rfl, _⟩ := hpr.r2
      have hki : ((i0 : Int) + (j0 : Int)) / 2 = (k : Int) := by omega
      have hk1 : i0 ≤ k ∧ k < j0 := by omega
      have HR : Hid _ := And.intro hU hp
      clear h4 hpa hpr hU hp hk
      obtain ⟨pk, pv, pg⟩ := p
      simp only [] at *
      by_cases hlt2 : M.cmpL pk key < 0
      · have HZ : Hid _ := hlt2
        generalize hz : M.cmpL pk key = z at *
        have HZ2 : Hid _ := hz
        clear hz
        go_wp2_with fail
        refine hf.mono ?_
        rintro e w1 ⟨rfl, hb1⟩
        go_wp2_with fail
        refine ⟨⟨k + 1, j0, by omega, hjn, by go_num, rfl, fun k' p hk' e => ?_, HHI, Below.tr hb hb1⟩, by simp [intOf]; omega⟩
        rcases Nat.lt_or_ge k' k with q | q
        · exact M.cmpL_trans (M.ris_pair HR.out.1 e HR.out.2 q) (by rw [HZ2.out]; exact HZ.out)
        · obtain rfl : k' = k := by omega
          rw [HR.out.2] at e
          obtain rfl := Option.some.inj e
          rw [HZ2.out]; exact HZ.out
      · have HZ : Hid _ := hlt2
        generalize hz : M.cmpL pk key = z at *
        have HZ2 : Hid _ := hz
        have hz0 : 0 ≤ z := by omega
        have hzd : decide (z < 0) = false := decide_eq_false (by omega)
        clear hz
        go_wp2_with fail
        refine hf.mono ?_
        rintro e w1 ⟨rfl, hb1⟩
        go_wp2_with fail
        refine ⟨⟨i0, k, by omega, by omega, rfl, by go_num, HLO, fun k' p hk' e => ?_, Below.tr hb hb1⟩, by simp [intOf]; omega⟩
        have hzz : 0 ≤ M.cmpL pk key := by rw [HZ2.out]; exact hz0
        rcases Nat.lt_or_ge k k' with q | q
        · have h1 := M.ris_pair HR.out.1 HR.out.2 e q
          have s1 := M.cmpL_swap key pk
          have s2 := M.cmpL_swap key p.1
          have := M.cmpL_le_lt (show M.cmpL key pk ≤ 0 by omega) h1
          omega
        · obtain rfl : k' = k := by omega
          rw [HR.out.2] at e
          obtain rfl := Option.some.inj e
          exact hzz
    · obtain rfl : i0 = j0 := by omega
      have hpl : M.plK ps key = i0 := M.plK_eq (fun k x hk e => HLO.out k x hk e) (fun x e => by have := HHI.out i0 x (Nat.le_refl _) e; omega) hjn
      by_cases hlt3 : i0 < ps.length
      · obtain ⟨p, hp⟩ : ∃ p, ps[i0]? = some p := ⟨_, List.getElem?_eq_getElem hlt3⟩
        obtain ⟨a, u1, u2, rfl, hpa⟩ := h4 i0 p hp
        have hpr := hpa.below hb (Nat.le_refl _)
        have c0 := hpr.c0
        have c1 := hpr.c1
        have c2 := hpr.c2
        have hf := place1_any (p := p) hpr.r1 (by obtain ⟨_, _, e, _⟩ := hpr.r2; exact ⟨_, _, _, e⟩) (hkb wr hb)
        obtain ⟨ax, cx, rfl, _⟩ := hpr.r1
        obtain ⟨ay, cy, rfl, _⟩ := hpr.r2
        have hisN : M.isK ps key = (M.cmpL p.1 key == 0) := by unfold M.isK; rw [hpl, hp]
        have HP : Hid _ := And.intro hpl hisN
        clear hpl hisN HLO HHI hU hp h4 hpa hpr
        obtain ⟨pk, pv, pg⟩ := p
        simp only [] at *
        generalize M.cmpL pk key = z at *
        go_wp2_with fail
        refine hf.mono ?_
        rintro e w1 ⟨rfl, hb1⟩
        go_wp2_with fail
        go_ret2
        rw [HP.out.1, HP.out.2]
        exact ⟨rfl, Below.tr hb hb1⟩
      · have hisN : M.isK ps key = false := by unfold M.isK; rw [hpl, List.getElem?_eq_none (by omega)]
        have HP : Hid _ := And.intro hpl hisN
        clear hpl hisN HLO HHI hU h4
        go_wp2_with fail
        go_ret2
        rw [HP.out.1, HP.out.2]
        exact ⟨rfl, hb⟩
theorem place_any {t kv : Value} {ps : List P3} {key : List UInt8} {w : World} (h : Tbl w t ps) (hk : Rd w kv key) (hU : M.ris ps = true) (hl : ps.length ≤ 1099511627776) :
    Calls Try.prog 41 #[t, kv] w fun e w' => e = .returned (.tuple #[.int .i64 (M.plK ps key : Int), .bool (M.isK ps key)]) ∧ Below w.heap.size w w' := by
  obtain ⟨b, sv, rfl, hc, hq⟩ := h
  have hs := psearch_any hq hk hU hl
  obtain ⟨ao, c, rfl, _⟩ := hq
  obtain ⟨ak, ck, rfl, _⟩ := hk
  go_enter Try.func41, Try.ntmps41
  go_wp2_with fail
  refine hs.mono ?_
  rintro e w1 ⟨rfl, hb1⟩
  go_wp2_with fail
  go_ret2
  exact ⟨rfl, hb1⟩
end Go.Proofs.Ytdaedglfefkeoaa

/- A list of tables in memory, and the heap that runsOf makes of it. -/
namespace Go.Proofs.Ytdaedglfefkeoaa
open Go.RowKit
set_option linter.unusedVariables false
set_option maxRecDepth 100000

/-- The slice value v reads as these tables; one that is nil has no pairs. -/
def RdT (w : World) (v : Value) (Ts : List (List P3)) : Prop :=
  ∃ ao c, v = .slice ao Ts.length c ∧ Ts.length ≤ c ∧ c ≤ maxLen ∧ ∀ i T, Ts[i]? = some T → ∃ a t, ao = some a ∧ w.cell? (a.add i) = some t ∧ (Tbl w t T ∨ (t = .pointer none ∧ T = []))
theorem RdT.below {B : Nat} {w w' : World} {v : Value} {Ts : List (List P3)} (h : RdT w v Ts) (hb : Below B w w') (hB : w.heap.size ≤ B) : RdT w' v Ts := by
  obtain ⟨ao, c, h0, h1, h2, h4⟩ := h
  refine ⟨ao, c, h0, h1, h2, fun i T hi => ?_⟩
  obtain ⟨a, t, e, hc, ht⟩ := h4 i T hi
  refine ⟨a, t, e, by rw [hb.cell (by have := World.block_lt_of_cell? w _ hc; omega)]; exact hc, ?_⟩
  rcases ht with ht | ht
  · exact .inl (ht.below hb hB)
  · exact .inr ht

/-- How many pairs are left. -/
def sumL (H : List HE) : Nat := (H.map (fun e => e.2.1.length)).sum
theorem sumL_perm {A B : List HE} (h : A.Perm B) : sumL A = sumL B := (h.map _).sum_nat
theorem take_sum {Ts : List (List P3)} {k : Nat} {T : List P3} (h : Ts[k]? = some T) : ((Ts.take (k + 1)).map List.length).sum = ((Ts.take k).map List.length).sum + T.length := by
  rw [List.take_add_one, h]; simp

section
variable {w0 : World} {x : Nat} {v : Value} {w w' : World} {H : List HE}
/-- The heap's variable is another one now. -/
theorem Hq.move (h : Hq w0 x v w H) (t : TypeId) : Hq w0 w.heap.size v (w.alloc (.cells #[v] t)) H :=
  ⟨h.base.trans ((bel_al w _).mono h.base.size), h.base.size, ⟨t, heap_alloc_new w _⟩, ownsRow_belW h.row (bel_al w _) (Nat.le_refl _), fun q => by have := (World.ownsRow.lt h.row _ q).2; omega, h.els⟩
theorem Hq.fresh (w : World) (t : TypeId) : Hq w w.heap.size (.slice none 0 0) (w.alloc (.cells #[.slice none 0 0] t)) [] :=
  ⟨bel_al w _, Nat.le_refl _, ⟨t, heap_alloc_new w _⟩, World.ownsRow_nil _ _ _ _, (fun q => by cases q), (fun e he => by cases he)⟩

set_option maxHeartbeats 1000000 in
theorem runsof_any {Ts : List (List P3)} (h : RdT w v Ts) (hl : Ts.length ≤ 1099511627775) :
    Calls Try.prog 44 #[v] w fun e w' => ∃ x u H, e = .returned u ∧ Hq w x u w' H ∧ M.Hp elt H H.length ∧ H.length ≤ Ts.length ∧ (∀ r : M.Ru, (∃ d ∈ H, d.2 = r) ↔ (Ts[r.2]? = some r.1 ∧ r.1 ≠ [])) ∧ sumL H = (Ts.map List.length).sum := by
  obtain ⟨ao, c, rfl, h1, h2, h4⟩ := h
  unfold maxLen at h2
  have hf := Hq.fresh w 82
  go_enter Try.func44, Try.ntmps44
  go_wp2_with fail
  go_loopw [4, 5, 8] (fun _ _ i wr => ∃ (k : Nat) (u : Value) (H : List HE), k ≤ Ts.length ∧ i = .int .i64 k ∧ Hq w w.heap.size u wr H ∧ Hid (M.Hp elt H H.length) ∧ H.length ≤ k ∧ Hid (∀ r : M.Ru, (∃ d ∈ H, d.2 = r) ↔ (r.2 < k ∧ Ts[r.2]? = some r.1 ∧ r.1 ≠ [])) ∧ Hid (sumL H = ((Ts.take k).map List.length).sum)) (fun _ _ i _ => Ts.length - (intOf i).toNat)
  case atStart => exact ⟨0, .slice none 0 0, [], Nat.zero_le _, rfl, hf, (fun i a b q1 q2 => by simp at q2), Nat.le_refl _, fun r => ⟨(fun ⟨d, hd, _⟩ => by cases hd), (fun q => by omega)⟩, by show sumL [] = _; simp [sumL]⟩
  case round =>
    obtain ⟨k, u, H, hk, rfl, hq, HH, hHl, HM, HZ⟩ := hrel
    clear hf
    by_cases hlt : k < Ts.length
    · obtain ⟨T, hT⟩ : ∃ T, Ts[k]? = some T := ⟨_, List.getElem?_eq_getElem hlt⟩
      obtain ⟨a, t, rfl, hc, ht⟩ := h4 k T hT
      have hb := hq.base
      have ct : wr.cell? (a.add k) = some t := by rw [hb.cell (World.block_lt_of_cell? w _ hc)]; exact hc
      have hki : (k : Int) < (Ts.length : Int) := by omega
      have skip : T = [] → ∀ r : M.Ru, (∃ d ∈ H, d.2 = r) ↔ (r.2 < k + 1 ∧ Ts[r.2]? = some r.1 ∧ r.1 ≠ []) := fun e r => by
        rw [HM.out r]
        constructor
        · rintro ⟨q1, q2⟩; exact ⟨by omega, q2⟩
        · rintro ⟨q1, q2, q3⟩
          refine ⟨?_, q2, q3⟩
          rcases Nat.lt_or_ge r.2 k with q | q
          · exact q
          · have e2 : r.2 = k := by omega
            rw [e2, hT] at q2
            exact absurd (by rw [← Option.some.inj q2, e]) q3
      have HS : Hid _ := skip
      have HK : Hid _ := take_sum hT
      clear skip h4 hc
      rcases ht with ⟨b, sv, rfl, hcb, hrq⟩ | ⟨rfl, rfl⟩
      · have cb : wr.cell? ⟨b, 0, none⟩ = some sv := by rw [hb.cell (World.block_lt_of_cell? w _ hcb)]; exact hcb
        have hrq0 := hrq
        obtain ⟨so, sc, rfl, s1, s2, _⟩ := hrq
        unfold maxLen at s2
        cases T with
        | nil =>
          clear hcb hrq0 hb
          go_wp2_with fail
          exact ⟨⟨k + 1, u, H, by omega, by go_num, hq, HH, by omega, HS.out rfl, by show _ = _; rw [HK.out, HZ.out]; simp⟩, by simp [intOf]; omega⟩
        | cons p T =>
          have hpu := hpush_any hq HH.out (e := (.slice so (p :: T).length sc, p :: T, k)) ⟨hrq0, by simp, by simp only []; omega⟩ (by omega)
          have hn0 : (0 : Int) < (((p :: T).length : Nat) : Int) := by simp
          have HD : Hid _ := And.intro hT hq
          clear hT hq HS hrq0 hb hcb
          simp only [] at hpu
          generalize hpl : (p :: T).length = m at *
          go_wp2_with fail
          refine hpu.mono ?_
          rintro r w1 ⟨⟨z, rfl⟩, v', H', k1, k2, k3, k4⟩
          go_wp2_with fail
          refine ⟨⟨k + 1, v', H', by omega, by go_num, k1, k4, by omega, fun r => ?_, by show _ = _; rw [HK.out, ← HZ.out, sumL_perm k3]; simp [sumL, ← hpl]⟩, by simp [intOf]; omega⟩
          have hm : ∀ d, d ∈ H' ↔ d ∈ H ∨ d = (.slice so m sc, p :: T, k) := fun d => by rw [k3.mem_iff]; simp
          constructor
          · rintro ⟨d, hd, rfl⟩
            rcases (hm d).1 hd with q | q
            · obtain ⟨q1, q2⟩ := (HM.out d.2).1 ⟨d, q, rfl⟩
              exact ⟨by omega, q2⟩
            · subst q; exact ⟨by simp, HD.out.1, by simp⟩
          · rintro ⟨q1, q2, q3⟩
            rcases Nat.lt_or_ge r.2 k with q | q
            · obtain ⟨d, hd, e⟩ := (HM.out r).2 ⟨q, q2, q3⟩
              exact ⟨d, (hm d).2 (.inl hd), e⟩
            · have e2 : r.2 = k := by omega
              refine ⟨(.slice so m sc, p :: T, k), (hm _).2 (.inr rfl), ?_⟩
              rw [e2, HD.out.1] at q2
              obtain ⟨r1, r2⟩ := r
              simp only [] at e2 q2
              rw [e2, ← Option.some.inj q2]
      · clear hb
        go_wp2_with fail
        exact ⟨⟨k + 1, u, H, by omega, by go_num, hq, HH, by omega, HS.out rfl, by show _ = _; rw [HK.out, HZ.out]; simp⟩, by simp [intOf]; omega⟩
    · obtain rfl : k = Ts.length := by omega
      have vx := hq.vx.1
      clear h4
      go_wp2_with fail
      go_ret
      refine ⟨w.heap.size, u, H, rfl, hq, HH.out, hHl, fun r => ?_, by rw [HZ.out, List.take_length]⟩
      rw [HM.out r]
      constructor
      · exact fun q => q.2
      · exact fun q => ⟨(List.getElem?_eq_some_iff.1 q.1).1, q⟩
end
end Go.Proofs.Ytdaedglfefkeoaa

/- What awake answers: true. And Len. -/
namespace Go.Proofs.Ytdaedglfefkeoaa
open Go.RowKit
set_option linter.unusedVariables false
set_option maxRecDepth 100000

theorem tlen_any {w : World} {t : Value} {ps : List P3} (h : Tbl w t ps) : Calls Try.prog 21 #[t] w fun e w' => e = .returned (.int .i64 ps.length) ∧ w' = w := by
  obtain ⟨b, sv, rfl, hc, hq⟩ := h
  obtain ⟨ao, c, rfl, _⟩ := hq
  go_enter Try.func21, Try.ntmps21
  go_wp2_with fail
  go_ret
  exact ⟨rfl, rfl⟩

/-- Two pairs in a new block. -/
theorem rdq_two (w : World) (H : Nat) (hH : w.heap.size = H) {x y x' y' : Value} {p q : P3} (t : TypeId) (h1 : Rd w x p.1) (h2 : Rd w y p.2.1) (h3 : Rd w x' q.1) (h4 : Rd w y' q.2.1) : RdQ (w.alloc (.cells #[x, y, .bool p.2.2, x', y', .bool q.2.2] t)) (.slice (some ⟨H, 0, none⟩) 2 2) [p, q] := by
  subst hH
  have hb := bel_al w (.cells #[x, y, .bool p.2.2, x', y', .bool q.2.2] t)
  have hc : ∀ j u, #[x, y, .bool p.2.2, x', y', .bool q.2.2][j]? = some u → (w.alloc (.cells #[x, y, .bool p.2.2, x', y', .bool q.2.2] t)).cell? ⟨w.heap.size, j, none⟩ = some u := fun j u e => by
    rw [World.cell?_alloc_at _ _ _ _ rfl]; exact e
  refine ⟨some ⟨w.heap.size, 0, none⟩, 2, rfl, by simp, by simp [maxLen], fun i r hi => ?_⟩
  match i with
  | 0 =>
    simp at hi; subst hi
    exact ⟨⟨w.heap.size, 0, none⟩, x, y, rfl, hc 0 x rfl, hc 1 y rfl, hc 2 _ rfl, h1.below hb (Nat.le_refl _), h2.below hb (Nat.le_refl _)⟩
  | 1 =>
    simp at hi; subst hi
    exact ⟨⟨w.heap.size, 0, none⟩, x', y', rfl, hc 3 x' rfl, hc 4 y' rfl, hc 5 _ rfl, h3.below hb (Nat.le_refl _), h4.below hb (Nat.le_refl _)⟩
  | i + 2 => simp at hi

theorem tab_len (ps : List P3) : (M.tab ps).length ≤ 30 * totP ps + 40 := by
  have h1 := row_tot ps
  have h2 := vi_len (M.row (ps.map M.prow)).length
  have h3 := M.be_length 4 (M.crc (M.row (ps.map M.prow)))
  simp only [M.tab, M.frame, List.length_append]
  omega
/-- What is built is opened as just that. -/
theorem opn_tab (ps : List P3) (hr : M.ris ps = true) (hl : totP ps ≤ 4194304) : M.opn (M.tab ps) = some ps := by
  have h1 := row_tot ps
  have hpl := totP_len ps
  have e1 : M.tf (M.tab ps) = (M.row (ps.map M.prow), [], 0) := by
    have := M.tf_back (M.row (ps.map M.prow)) [] (by omega)
    rwa [List.append_nil] at this
  have e2 : M.tr (M.row (ps.map M.prow)) = (ps.map M.prow, 0) := M.tr_row _ (by simp; omega) (fun f hf => by
    obtain ⟨p, hp, rfl⟩ := List.mem_map.1 hf
    have := prow_len p
    have := totP_mem ps p hp
    omega)
  unfold M.opn
  rw [e1]
  simp only []
  rw [e2]
  simp only []
  rw [if_pos ⟨trivial, trivial, trivial⟩, M.allP_back ps (fun p hp => by have := totP_mem ps p hp; omega)]
  simp [M.keepR, hr]

theorem conv_at (w : World) (C : Array Value) (n c g : Nat) (hg : g = w.heap.size) : (convert 25 25 (.slice (some ⟨g, 0, none⟩) n c)).run Try.prog (w.alloc (.cells C 5)) = .ok (.slice (some ⟨g, 0, none⟩) n c) (w.alloc (.cells C 5 (C.size, C.size + 1))) := by
  subst hg; exact Lib.run_convert_bytes_const (P := Try.prog) w 25 5 C n c Try.underlying25 Try.underlying5
theorem rd_litH (w : World) (H : Nat) (hH : w.heap.size = H) (b : UInt8) (z : Int) (hz : z = (b.toNat : Int)) (fr : Nat × Nat) (t : TypeId) : Rd (w.alloc (.cells #[.int .u8 z] t fr)) (.slice (some ⟨H, 0, none⟩) 1 1) [b] := by
  subst hH
  subst hz
  refine Rd.mk rfl (by simp) (by simp [maxLen]) (fun i hi => ?_)
  obtain rfl : i = 0 := by simpa using hi
  have e : (w.alloc (.cells #[.int .u8 (b.toNat : Int)] t fr)).heap[w.heap.size]? = some (.cells #[.int .u8 (b.toNat : Int)] t fr) := by
    show (w.heap.push _)[w.heap.size]? = _
    simp
  rw [add_zero, cell_of_row _ _ _ _ _ _ e]
  rfl

set_option maxHeartbeats 1000000 in
theorem tawake_any (w : World) : Calls Try.prog 9 #[] w fun e w' => e = .returned (.bool true) ∧ Below w.heap.size w w' := by
  have hbld : M.bld [([97], [49], false), ([98], [], true)] = (M.tab [([97], [49], false), ([98], [], true)], 0) := by
    unfold M.bld; rw [if_pos (by decide)]
  have hop := opn_tab [([97], [49], false), ([98], [], true)] (by decide) (by decide)
  have hlen := tab_len [([97], [49], false), ([98], [], true)]
  have htot : totP [([97], [49], false), ([98], [], true)] = 9 := by decide
  rw [htot] at hlen
  have HB : Hid _ := And.intro hbld (And.intro hop hlen)
  clear hbld hop hlen htot
  have kc := conv_at
  go_enter Try.func9, Try.ntmps9
  go_wp2_with fail
  refine (build_any (ps := [([97], [49], false), ([98], [], true)]) (rdq_two _ _ (by simp) (p := ([97], [49], false)) (q := ([98], [], true)) _ (((rd_litH w _ rfl 97 _ rfl _ _).alloc _).alloc _) ((rd_litH _ _ (by simp) 49 _ rfl _ _).alloc _) (rd_litH _ _ (by simp) 98 _ rfl _ _) (Rd.nil _)) (by decide)).mono ?_
  rintro e w1 ⟨v1, rfl, ho1, hb1⟩
  have hB1 : Below w.heap.size w w1 := Below.tr (Below.tr (Below.tr (Below.tr (bel_al w _) (bel_al _ _)) (bel_al _ _)) (bel_al _ _)) hb1
  have ho2 := ho1.rd
  rw [HB.out.1] at ho2 ⊢
  clear ho1 hb1 kc
  simp only [] at ho2
  have hop := HB.out.2.1
  have hln := HB.out.2.2
  have HC : Hid _ := hop
  clear hop
  generalize hTL : M.tab [([97], [49], false), ([98], [], true)] = TL at *
  have ho3 := ho2
  obtain ⟨a1, d1, rfl, _⟩ := ho2
  go_wp2_with fail
  refine (open_any ho3 (by omega)).mono ?_
  rintro e w2 ⟨hor, hb2⟩
  rcases hor with ⟨ps, t, hps, rfl, ht⟩ | ⟨hno, _⟩
  · rw [HC.out] at hps
    obtain rfl := Option.some.inj hps
    have hln := tlen_any ht
    obtain ⟨b, sv, rfl, hc, hq⟩ := ht
    go_wp2_with fail
    refine hln.mono ?_
    rintro e w3 ⟨rfl, rfl⟩
    go_wp2_with fail
    go_ret
    exact ⟨rfl, hB1.trans (hb2.mono hB1.size)⟩
  · rw [HC.out] at hno; cases hno
end Go.Proofs.Ytdaedglfefkeoaa

/- What Get and Range answer of a table. -/
namespace Go.Proofs.Ytdaedglfefkeoaa
open Go.RowKit
set_option linter.unusedVariables false
set_option maxRecDepth 100000

/-- The pairs from a key on that are below another one. -/
def rng (ps : List P3) (fr till : List UInt8) : List P3 := (ps.take (if till.length = 0 then ps.length else M.plK ps till)).drop (M.plK ps fr)
/-- The pair with that key. -/
def getK (ps : List P3) (key : List UInt8) : Option P3 := if M.isK ps key then ps[M.plK ps key]? else none

/-- One pair more, whose slices are new. -/
theorem OwQ.snocE {B : Nat} {w w1 w3 w4 : World} {v v' : Value} {ps : List P3} {us : List V3} {u : V3} {p : P3} (h : OwQ B w v ps us) (h1 : Below w.heap.size w w1) (h3 : Below w1.heap.size w1 w3) (hu : El3 w.heap.size w1 u p) (hB : B ≤ w.heap.size)
    (hrow : w4.ownsRow B 48 3 v' (us ++ [u]).length (q3s (us ++ [u]))) (hg : w3.grownBy w4 v.ownBlock) (hv : v'.ownBlock = v.ownBlock ∨ v'.ownBlock = some w3.heap.size) : OwQ B w4 v' (ps ++ [p]) (us ++ [u]) := by
  refine (h.below (Below.tr h1 h3) (Nat.le_refl _)).app rfl ?_ ?_ hrow hg hv
  · intro i x q e1 e2
    cases i with
    | zero => simp at e1 e2; subst e1; subst e2; exact (hu.below h3 (Nat.le_refl _)).mono hB
    | succ i => simp at e1
  · intro x hx b hb q
    obtain rfl := List.mem_singleton.1 hx
    have l1 := (World.ownsRow.lt h.row b q).2
    have := (hu.lt hb).1
    omega

theorem rng_snoc (ps : List P3) (f k : Nat) (p : P3) (hk : ps[k]? = some p) (hf : f ≤ k) : (ps.take (k + 1)).drop f = (ps.take k).drop f ++ [p] := by
  have hl := (List.getElem?_eq_some_iff.1 hk).1
  rw [take_snocP ps k p hk, List.drop_append_of_le_length (by simp; omega)]

set_option maxHeartbeats 2000000 in
theorem range_any {t fv tv : Value} {ps : List P3} {fr till : List UInt8} {w : World} (h : Tbl w t ps) (hf : Rd w fv fr) (ht : Rd w tv till) (hU : M.ris ps = true) (hl : totP ps ≤ 4194304) :
    Calls Try.prog 20 #[t, fv, tv] w fun e w' => ∃ v' us, e = .returned v' ∧ OwQ w.heap.size w' v' (rng ps fr till) us ∧ Below w.heap.size w w' := by
  have hpl := totP_len ps
  have p1 := fun W (hW : Below w.heap.size w W) => place_any (h.below hW (Nat.le_refl _)) (hf.below hW (Nat.le_refl _)) hU (by omega)
  have p2 := fun W (hW : Below w.heap.size w W) => place_any (h.below hW (Nat.le_refl _)) (ht.below hW (Nat.le_refl _)) hU (by omega)
  have hle := M.plK_le ps fr
  have hle2 := M.plK_le ps till
  have hch := fun W (hW : Below w.heap.size w W) => h.below hW (Nat.le_refl _)
  obtain ⟨b, sv, rfl, hc, hq⟩ := h
  have hcw : ∀ W, Below w.heap.size w W → W.cell? ⟨b, 0, none⟩ = some sv := fun W hW => by rw [hW.cell (World.block_lt_of_cell? _ _ hc)]; exact hc
  obtain ⟨ao, c, rfl, h1, h2, h4⟩ := hq
  unfold maxLen at h2
  obtain ⟨af, cf, rfl, _⟩ := hf
  obtain ⟨at_, ct, rfl, t1, t2, _⟩ := ht
  unfold maxLen at t2
  unfold rng
  generalize M.plK ps fr = f at *
  have HT : Hid (∃ g, g = (if till.length = 0 then ps.length else M.plK ps till) ∧ g ≤ ps.length) := ⟨_, rfl, by split <;> omega⟩
  obtain ⟨g, hg, hgl⟩ := HT.out
  rw [← hg]
  have tail : ∀ (ww : World), Below w.heap.size w ww → True := fun _ _ => trivial
  clear HT tail hch
  by_cases hte : till.length = 0
  · rw [if_pos hte] at hg
    subst hg
    have hte2 : ¬ 0 < till.length := by omega
    clear p2 hte
    go_enter Try.func20, Try.ntmps20
    go_wp2_with fail
    refine (p1 w (Below.refl _ _)).mono ?_
    rintro e w1 ⟨rfl, hb1⟩
    have c1 := hcw w1 hb1
    go_wp2_with fail
    go_loopw [10, 11] (fun out i wr => ∃ (k : Nat) (us : List V3), f ≤ k ∧ k ≤ ps.length ∧ (k ≤ ps.length ∨ k = f) ∧ i = .int .i64 k ∧ OwQ w.heap.size wr out ((ps.take k).drop f) us ∧ Below w.heap.size w wr) (fun _ i _ => ps.length - (intOf i).toNat)
    case atStart => exact ⟨f, [], Nat.le_refl _, hle, .inr rfl, rfl, by rw [List.drop_eq_nil_of_le (by simp; omega)]; exact OwQ.nil _ _, hb1⟩
    case round =>
      obtain ⟨k, us, hfk, hkl, hkg, rfl, ho, hb⟩ := hrel
      have hB := hb.size
      by_cases hlt : k < ps.length
      · obtain ⟨p, hp⟩ : ∃ p, ps[k]? = some p := ⟨_, List.getElem?_eq_getElem (by omega)⟩
        have hm := totP_mem ps p (List.mem_of_getElem? hp)
        obtain ⟨a, u1, u2, rfl, hpa⟩ := h4 k p hp
        have hpr := hpa.below hb (Nat.le_refl _)
        have c0 := hpr.c0
        have c1 := hpr.c1
        have c2 := hpr.c2
        have cb := hcw wr hb
        have hcp := copied_any (p := p) hpr.r1 hpr.r2 (by omega)
        have hul := ho.len
        rw [List.length_drop, List.length_take, Nat.min_eq_left (by omega)] at hul
        have HT : Hid _ := rng_snoc ps f k p hp hfk
        obtain ⟨x1, y1, rfl, _⟩ := hpr.r1
        obtain ⟨x2, y2, rfl, _⟩ := hpr.r2
        obtain ⟨pk, pv, pg⟩ := p
        simp only [] at *
        obtain ⟨xo, yo, hoe, _⟩ := ho.shape
        rw [List.length_drop, List.length_take, Nat.min_eq_left (by omega)] at hoe
        subst hoe
        have hi1 : (k : Int) < (ps.length : Int) := by omega
        have hnl : us.length + [((Value.slice none 0 0, Value.slice none 0 0, pg) : V3)].length ≤ 1099511627776 := by simp; omega
        clear h4 hpa hp hpr
        go_wp2_with fail
        refine hcp.mono ?_
        rintro e w3 ⟨u3, rfl, hE3, hb3⟩
        have hs3 := hb3.size
        obtain ⟨⟨q0, q1, q2, e0⟩, q3, q4, q5, e1⟩ := hE3.sl
        have hrw := ownsRow_belW (ownsRow_belW ho.row hb3 (Nat.le_refl _)) (bel_al w3 (.cells #[u3.1, u3.2.1, .bool u3.2.2] 48)) (Nat.le_refl _)
        have hrv := rdV_one w3 u3 hE3.sl (cs := #[u3.1, u3.2.1, .bool u3.2.2]) rfl 48
        obtain ⟨x0, x1', x2'⟩ := u3
        simp only [] at *
        subst e0
        subst e1
        go_wp2_with (first | (at_builtin; refine wpList_appQ rfl _ _ rfl w.heap.size (.slice xo (k - f) yo) us rfl hrw _ [(.slice q0 q1 q2, .slice q3 q4 q5, x2')] rfl hrv (by simp; omega) hnl ?_; intro v5 w5 ho5 hg5 hv5) | fail)
        refine ⟨⟨k + 1, us ++ [(.slice q0 q1 q2, .slice q3 q4 q5, x2')], by omega, by omega, .inl (by omega), by go_num, ?_, hb.trans (ho.grown (Below.tr hb3 (bel_al w3 _)) hB hg5)⟩, by simp [intOf]; omega⟩
        rw [HT.out]
        exact ho.snocE hb3 (bel_al w3 _) hE3 hB ho5 hg5 hv5
      · have hfin : (ps.take k).drop f = (ps.take ps.length).drop f := by
          rcases hkg with q | q
          · rw [show k = ps.length by omega]
          · rw [List.drop_eq_nil_of_le (by simp; omega), List.drop_eq_nil_of_le (by simp; omega)]
        rw [hfin] at ho
        clear h4 hfin
        go_wp2_with fail
        go_ret
        exact ⟨_, us, rfl, ho, hb⟩
  · rw [if_neg hte] at hg
    subst hg
    have hte2 : 0 < till.length := by omega
    clear hte
    go_enter Try.func20, Try.ntmps20
    go_wp2_with fail
    refine (p1 w (Below.refl _ _)).mono ?_
    rintro e w1 ⟨rfl, hb1⟩
    have c1 := hcw w1 hb1
    go_wp2_with fail
    refine (p2 w1 hb1).mono ?_
    rintro e w2 ⟨rfl, hb2⟩
    replace hb1 : Below w.heap.size w w2 := hb1.trans (hb2.mono hb1.size)
    clear c1
    generalize hgq : M.plK ps till = g at *
    have HG : Hid _ := hgq
    clear hgq
    go_wp2_with fail
    go_loopw [10, 11] (fun out i wr => ∃ (k : Nat) (us : List V3), f ≤ k ∧ k ≤ ps.length ∧ (k ≤ g ∨ k = f) ∧ i = .int .i64 k ∧ OwQ w.heap.size wr out ((ps.take k).drop f) us ∧ Below w.heap.size w wr) (fun _ i _ => ps.length - (intOf i).toNat)
    case atStart => exact ⟨f, [], Nat.le_refl _, hle, .inr rfl, rfl, by rw [List.drop_eq_nil_of_le (by simp; omega)]; exact OwQ.nil _ _, hb1⟩
    case round =>
      obtain ⟨k, us, hfk, hkl, hkg, rfl, ho, hb⟩ := hrel
      have hB := hb.size
      by_cases hlt : k < g
      · obtain ⟨p, hp⟩ : ∃ p, ps[k]? = some p := ⟨_, List.getElem?_eq_getElem (by omega)⟩
        have hm := totP_mem ps p (List.mem_of_getElem? hp)
        obtain ⟨a, u1, u2, rfl, hpa⟩ := h4 k p hp
        have hpr := hpa.below hb (Nat.le_refl _)
        have c0 := hpr.c0
        have c1 := hpr.c1
        have c2 := hpr.c2
        have cb := hcw wr hb
        have hcp := copied_any (p := p) hpr.r1 hpr.r2 (by omega)
        have hul := ho.len
        rw [List.length_drop, List.length_take, Nat.min_eq_left (by omega)] at hul
        have HT : Hid _ := rng_snoc ps f k p hp hfk
        obtain ⟨x1, y1, rfl, _⟩ := hpr.r1
        obtain ⟨x2, y2, rfl, _⟩ := hpr.r2
        obtain ⟨pk, pv, pg⟩ := p
        simp only [] at *
        obtain ⟨xo, yo, hoe, _⟩ := ho.shape
        rw [List.length_drop, List.length_take, Nat.min_eq_left (by omega)] at hoe
        subst hoe
        have hi1 : (k : Int) < (ps.length : Int) := by omega
        have hnl : us.length + [((Value.slice none 0 0, Value.slice none 0 0, pg) : V3)].length ≤ 1099511627776 := by simp; omega
        clear h4 hpa hp hpr
        go_wp2_with fail
        refine hcp.mono ?_
        rintro e w3 ⟨u3, rfl, hE3, hb3⟩
        have hs3 := hb3.size
        obtain ⟨⟨q0, q1, q2, e0⟩, q3, q4, q5, e1⟩ := hE3.sl
        have hrw := ownsRow_belW (ownsRow_belW ho.row hb3 (Nat.le_refl _)) (bel_al w3 (.cells #[u3.1, u3.2.1, .bool u3.2.2] 48)) (Nat.le_refl _)
        have hrv := rdV_one w3 u3 hE3.sl (cs := #[u3.1, u3.2.1, .bool u3.2.2]) rfl 48
        obtain ⟨x0, x1', x2'⟩ := u3
        simp only [] at *
        subst e0
        subst e1
        go_wp2_with (first | (at_builtin; refine wpList_appQ rfl _ _ rfl w.heap.size (.slice xo (k - f) yo) us rfl hrw _ [(.slice q0 q1 q2, .slice q3 q4 q5, x2')] rfl hrv (by simp; omega) hnl ?_; intro v5 w5 ho5 hg5 hv5) | fail)
        refine ⟨⟨k + 1, us ++ [(.slice q0 q1 q2, .slice q3 q4 q5, x2')], by omega, by omega, .inl (by omega), by go_num, ?_, hb.trans (ho.grown (Below.tr hb3 (bel_al w3 _)) hB hg5)⟩, by simp [intOf]; omega⟩
        rw [HT.out]
        exact ho.snocE hb3 (bel_al w3 _) hE3 hB ho5 hg5 hv5
      · have hfin : (ps.take k).drop f = (ps.take g).drop f := by
          rcases hkg with q | q
          · rw [show k = g by omega]
          · rw [List.drop_eq_nil_of_le (by simp; omega), List.drop_eq_nil_of_le (by simp; omega)]
        rw [hfin] at ho
        rw [← HG.out] at ho
        clear h4 hfin
        go_wp2_with fail
        go_ret
        exact ⟨_, us, rfl, ho, hb⟩

set_option maxHeartbeats 2000000 in
theorem get_any {t kv : Value} {ps : List P3} {key : List UInt8} {w : World} (h : Tbl w t ps) (hk : Rd w kv key) (hU : M.ris ps = true) (hl : totP ps ≤ 4194304) :
    Calls Try.prog 23 #[t, kv] w fun e w' => ∃ u : V3, e = .returned (.tuple #[.agg #[u.1, u.2.1, .bool u.2.2], .bool (getK ps key).isSome]) ∧ El3 w.heap.size w' u ((getK ps key).getD noP) ∧ Below w.heap.size w w' := by
  have hpl := totP_len ps
  have p1 := fun W (hW : Below w.heap.size w W) => place_any (h.below hW (Nat.le_refl _)) (hk.below hW (Nat.le_refl _)) hU (by omega)
  obtain ⟨b, sv, rfl, hc, hq⟩ := h
  have hcell : (w.alloc (.cells #[.slice none 0 0, .slice none 0 0, .bool false] 48)).heap[w.heap.size]? = some (.cells #[.slice none 0 0, .slice none 0 0, .bool false] 48 (0, 0)) := heap_alloc_new w _
  have hcw : ∀ W, Below w.heap.size w W → W.cell? ⟨b, 0, none⟩ = some sv := fun W hW => by rw [hW.cell (World.block_lt_of_cell? _ _ hc)]; exact hc
  obtain ⟨ao, c, rfl, h1, h2, h4⟩ := hq
  unfold maxLen at h2
  obtain ⟨ak, ck, rfl, _⟩ := hk
  by_cases hi : M.isK ps key = true
  · obtain ⟨p, hp⟩ : ∃ p, ps[M.plK ps key]? = some p := by
      unfold M.isK at hi
      split at hi
      · rename_i x e; exact ⟨x, e⟩
      · cases hi
    have hg : getK ps key = some p := by unfold getK; rw [if_pos hi, hp]
    rw [hg]
    rw [hi] at p1
    show Calls _ _ _ _ fun e w' => ∃ u : V3, e = .returned (.tuple #[.agg #[u.1, u.2.1, .bool u.2.2], .bool true]) ∧ El3 w.heap.size w' u p ∧ Below w.heap.size w w'
    have hm := totP_mem ps p (List.mem_of_getElem? hp)
    have hkl := (List.getElem?_eq_some_iff.1 hp).1
    generalize M.plK ps key = k at *
    obtain ⟨a, u1, u2, rfl, hpa⟩ := h4 k p hp
    have hpw := fun W (hW : Below w.heap.size w W) => hpa.below hW (Nat.le_refl _)
    obtain ⟨x1, y1, rfl, _⟩ := hpa.r1
    obtain ⟨x2, y2, rfl, _⟩ := hpa.r2
    clear h4 hpa hp hg hi
    have hi1 : (k : Int) < (ps.length : Int) := by omega
    go_enter Try.func23, Try.ntmps23
    go_wp2_with fail
    refine (p1 _ (bel_al w _)).mono ?_
    rintro e w1 ⟨rfl, hb1⟩
    have hR : w1.heap[w.heap.size]? = some (.cells #[.slice none 0 0, .slice none 0 0, .bool false] 48 (0, 0)) := by rw [hb1.block _ (by simp)]; exact hcell
    have hB1 := Below.tr (bel_al w (.cells #[.slice none 0 0, .slice none 0 0, .bool false] 48)) hb1
    have hp1 := hpw w1 hB1
    have c0 := hp1.c0
    have c1 := hp1.c1
    have c2 := hp1.c2
    have cb := hcw w1 hB1
    have hcp := copied_any (p := p) hp1.r1 hp1.r2 (by omega)
    obtain ⟨pk, pv, pg⟩ := p
    simp only [] at *
    have hs1 : w.heap.size < w1.heap.size := (Array.getElem?_eq_some_iff.1 hR).1
    clear hp1 hpw
    go_wp2_with fail
    refine hcp.mono ?_
    rintro e w2 ⟨u2, rfl, hE2, hb2⟩
    have hR2 : w2.heap[w.heap.size]? = some (.cells #[.slice none 0 0, .slice none 0 0, .bool false] 48 (0, 0)) := by rw [hb2.block _ hs1]; exact hR
    obtain ⟨⟨q0, q1, q2, e0⟩, q3, q4, q5, e1⟩ := hE2.sl
    obtain ⟨x0, x1', x2'⟩ := u2
    simp only [] at *
    subst e0
    subst e1
    obtain ⟨r0, r1, r2, rz⟩ := cells3 hR2
    have rz0 := rz 0
    have rz1 := rz 1
    have rz2 := rz 2
    have hch := set3_chg w2 w.heap.size (.slice q0 q1 q2) (.slice q3 q4 q5) (.bool x2')
    have hS := set3_block hR2 (.slice q0 q1 q2) (.slice q3 q4 q5) (.bool x2')
    have hB2 : Below w.heap.size w w2 := hB1.trans (hb2.mono hB1.size)
    have HZ : Hid _ := And.intro (cells3 hS) (And.intro ((hE2.keptC hch (fun b hb q => by have := (hE2.lt hb).1; omega)).mono hB1.size) (hB2.trans (hch.below (fun b q => by omega) hB2.size)))
    clear hch hS hE2 rz hR2 hR hb2 hb1 hcp
    go_wp2_with fail
    obtain ⟨⟨k0, k1, k2, _⟩, hE, hBz⟩ := HZ.out
    generalize (((w2.setCell ⟨w.heap.size, 0, none⟩ (.slice q0 q1 q2)).setCell ⟨w.heap.size, 1, none⟩ (.slice q3 q4 q5)).setCell ⟨w.heap.size, 2, none⟩ (.bool x2')) = wz at *
    refine bodyPost_ret (v := .tuple #[.agg #[.slice q0 q1 q2, .slice q3 q4 q5, .bool x2'], .bool true]) (by simp [results, Try.results23, go_sem, k0, k1, k2]; try rfl) rfl ?_
    exact ⟨(.slice q0 q1 q2, .slice q3 q4 q5, x2'), rfl, hE, hBz⟩
  · have hg : getK ps key = none := by unfold getK; rw [if_neg hi]
    rw [hg]
    rw [show M.isK ps key = false by simpa using hi] at p1
    show Calls _ _ _ _ fun e w' => ∃ u : V3, e = .returned (.tuple #[.agg #[u.1, u.2.1, .bool u.2.2], .bool false]) ∧ El3 w.heap.size w' u noP ∧ Below w.heap.size w w'
    clear h4 hg hi
    go_enter Try.func23, Try.ntmps23
    go_wp2_with fail
    refine (p1 _ (bel_al w _)).mono ?_
    rintro e w2 ⟨rfl, hb1⟩
    have hR2 : w2.heap[w.heap.size]? = some (.cells #[.slice none 0 0, .slice none 0 0, .bool false] 48 (0, 0)) := by rw [hb1.block _ (by simp)]; exact hcell
    have hB2 := Below.tr (bel_al w (.cells #[.slice none 0 0, .slice none 0 0, .bool false] 48)) hb1
    obtain ⟨r0, r1, r2, rz⟩ := cells3 hR2
    have rz0 := rz 0
    have rz1 := rz 1
    have rz2 := rz 2
    have hch := set3_chg w2 w.heap.size (.slice none 0 0) (.slice none 0 0) (.bool false)
    have hS := set3_block hR2 (.slice none 0 0) (.slice none 0 0) (.bool false)
    have HZ : Hid _ := And.intro (cells3 hS) (hB2.trans (hch.below (fun b q => by omega) hB2.size))
    clear hch hS rz hR2 hb1
    go_wp2_with fail
    obtain ⟨⟨k0, k1, k2, _⟩, hBz⟩ := HZ.out
    generalize (((w2.setCell ⟨w.heap.size, 0, none⟩ (.slice none 0 0)).setCell ⟨w.heap.size, 1, none⟩ (.slice none 0 0)).setCell ⟨w.heap.size, 2, none⟩ (.bool false)) = wz at *
    refine bodyPost_ret (v := .tuple #[.agg #[.slice none 0 0, .slice none 0 0, .bool false], .bool false]) (by simp [results, Try.results23, go_sem, k0, k1, k2]; try rfl) rfl ?_
    exact ⟨(.slice none 0 0, .slice none 0 0, false), rfl, ⟨Ow.nil _ _, Ow.nil _ _, rfl⟩, hBz⟩
end Go.Proofs.Ytdaedglfefkeoaa

/- Where Merge stands: the heap, what was told, and how both go on. -/
namespace Go.Proofs.Ytdaedglfefkeoaa
open Go.RowKit
set_option linter.unusedVariables false
set_option maxRecDepth 100000

/-- A block of what was told. -/
def OB (v : Value) (us : List V3) (b : Nat) : Prop := v.ownBlock = some b ∨ ∃ u ∈ us, Bl3 u b
theorem OwQ.ob_lt {B : Nat} {w : World} {v : Value} {ps : List P3} {us : List V3} (h : OwQ B w v ps us) {b : Nat} (hb : OB v us b) : B ≤ b ∧ b < w.heap.size := by
  rcases hb with q | ⟨u, hu, q⟩
  · exact World.ownsRow.lt h.row b q
  · obtain ⟨p, hp⟩ := h.elem u hu
    exact hp.lt q
theorem OwQ.keptC {B : Nat} {S : Nat → Prop} {w w' : World} {v : Value} {ps : List P3} {us : List V3} (h : OwQ B w v ps us) (hc : Chg S w w') (hS : ∀ b, OB v us b → ¬ S b) : OwQ B w' v ps us :=
  ⟨ownsRow_keptC h.row hc (fun b e => hS b (.inl e)), h.len, fun i u p e1 e2 => (h.el i u p e1 e2).keptC hc (fun b hb => hS b (.inr ⟨u, List.mem_of_getElem? e1, hb⟩)), h.off⟩

/-- How many pairs are left, as the memory says it. -/
def rlenW (w : World) (g k : Nat) : Nat := match w.cell? ⟨g, k * 2, none⟩ with
  | some (.slice _ m _) => m
  | _ => 0
def hsum (p : Value) (w : World) : Nat := match p with
  | .pointer (some a) => match w.cell? a with
    | some (.slice (some b) n _) => ((List.range n).map (rlenW w b.block)).sum
    | _ => 0
  | _ => 0
theorem Hq.sum {w0 : World} {x : Nat} {v : Value} {w : World} {H : List HE} (h : Hq w0 x v w H) : hsum (.pointer (some ⟨x, 0, none⟩)) w = sumL H := by
  unfold hsum
  simp only [h.vx.1]
  cases H with
  | nil =>
    obtain ⟨a, c, rfl, _⟩ := row_reads h.row
    cases a <;> simp [sumL]
  | cons e rest =>
    obtain ⟨g, c, rfl, _⟩ := h.at_ (k := 0) rfl
    simp only []
    unfold sumL
    congr 1
    apply List.ext_getElem?
    intro k
    by_cases hk : k < (e :: rest).length
    · obtain ⟨d, hd⟩ : ∃ d, (e :: rest)[k]? = some d := ⟨_, List.getElem?_eq_getElem hk⟩
      obtain ⟨g', c', ev, _, _, _, a0, _, ra, _⟩ := h.at_ hd
      simp only [Value.slice.injEq, Option.some.injEq, Addr.mk.injEq, and_true, true_and] at ev
      obtain ⟨rfl, rfl⟩ := ev
      obtain ⟨_, _, eu, _⟩ := ra
      rw [eu] at a0
      rw [List.getElem?_map, List.getElem?_map, hd, List.getElem?_range hk]
      simp only [Option.map_some, rlenW, a0]
    · rw [List.getElem?_eq_none (by simpa using hk), List.getElem?_eq_none (by simpa using hk)]

/-- Where Merge stands. -/
def MRel (w : World) (Ts : List (List P3)) (N : Nat) (vo hp : Value) (wr : World) : Prop :=
  ∃ x u H out us, hp = .pointer (some ⟨x, 0, none⟩) ∧ Hq w x u wr H ∧ M.Hp elt H H.length ∧ H.length ≤ Ts.length ∧ OwQ w.heap.size wr vo out us ∧ (∀ b, OB vo us b → b ≠ x ∧ u.ownBlock ≠ some b) ∧ M.MInv Ts (H.map (·.2)) out ∧ out.length + sumL H ≤ N

theorem minv_start {Ts : List (List P3)} {H : List HE} (hm : ∀ r : M.Ru, (∃ d ∈ H, d.2 = r) ↔ (Ts[r.2]? = some r.1 ∧ r.1 ≠ [])) : M.MInv Ts (H.map (·.2)) [] := by
  have hm' : ∀ r : M.Ru, r ∈ H.map (·.2) ↔ (Ts[r.2]? = some r.1 ∧ r.1 ≠ []) := fun r => by rw [← hm r]; simp
  refine ⟨fun r hr => ?_, fun i T p hT hp => .inr ⟨(T, i), (hm' _).2 ⟨hT, List.ne_nil_of_mem hp⟩, rfl, hp⟩, rfl, (fun p hp => by cases hp), (fun p hp => by cases hp)⟩
  obtain ⟨h1, h2⟩ := (hm' r).1 hr
  exact ⟨h2, [], by simpa using h1⟩
/-- The heap's top is done with. -/
theorem minv_next {Ts : List (List P3)} {e : HE} {rest H' N : List HE} {out : List P3} {p : P3} {l : List P3} (h : M.MInv Ts ((e :: rest).map (·.2)) out) (hTs : ∀ T ∈ Ts, M.ris T = true) (hel : e.2.1 = p :: l) (hH : M.Hp elt (e :: rest) (e :: rest).length) (hp : H'.Perm (N ++ rest)) (hN : (l = [] ∧ N = []) ∨ (l ≠ [] ∧ ∃ d : HE, N = [d] ∧ d.2 = (l, e.2.2))) :
    (∀ q, out.getLast? = some q → q.1 = p.1 → M.MInv Ts (H'.map (·.2)) out) ∧ ((∀ q, out.getLast? = some q → q.1 ≠ p.1) → M.MInv Ts (H'.map (·.2)) (out ++ [p])) ∧ sumL H' + 1 = sumL (e :: rest) := by
  have he : e.2 = (p :: l, e.2.2) := by rw [← hel]
  have hmem : ∀ r, r ∈ H'.map (·.2) ↔ r ∈ (N ++ rest).map (·.2) := fun r => (hp.map _).mem_iff
  have hs := M.MInv.step (N := H'.map (·.2)) (p := p) (l := l) (i := e.2.2) h hTs (by rw [← he]; simp) (fun r hr => by
    obtain ⟨d, hd, rfl⟩ := List.mem_map.1 hr
    obtain ⟨k, hk⟩ := List.mem_iff_getElem?.1 hd
    have := hH.min elt_tr elt_irr (x := e) rfl k d (List.getElem?_eq_some_iff.1 hk).1 hk
    rw [← he]; exact this) (fun r hr => by
    rw [hmem, List.map_append, List.mem_append] at hr
    rcases hr with q | q
    · rcases hN with ⟨_, rfl⟩ | ⟨hl, d, rfl, e2⟩
      · cases q
      · right; refine ⟨hl, ?_⟩; simp at q; rw [q, e2]
    · left; simp only [List.map_cons, List.mem_cons]; exact .inr q) (fun r hr hne => by
    rw [hmem, List.map_append, List.mem_append]
    simp only [List.map_cons, List.mem_cons] at hr
    rcases hr with q | q
    · exact absurd (by rw [q]; exact he) hne
    · exact .inr q) (fun hl => by
    rw [hmem, List.map_append, List.mem_append]
    rcases hN with ⟨q, _⟩ | ⟨_, d, rfl, e2⟩
    · exact absurd q hl
    · left; simp [e2])
  refine ⟨hs.1, hs.2, ?_⟩
  rw [sumL_perm hp]
  rcases hN with ⟨q, rfl⟩ | ⟨_, d, rfl, e2⟩
  · subst q; simp [sumL, hel]; omega
  · simp [sumL, hel, e2]; omega
/-- One round of Merge, behind what is told: the heap's variable is copied, and the heap goes a step. -/
theorem MRel.next {w : World} {Ts : List (List P3)} {N x' : Nat} {u v' vo : Value} {e : HE} {rest H' NN : List HE} {out out5 : List P3} {us5 : List V3} {p : P3} {l : List P3} {w5 w9 : World}
    (hTs : ∀ T ∈ Ts, M.ris T = true) (hMI : M.MInv Ts ((e :: rest).map (·.2)) out) (hel : e.2.1 = p :: l) (hH : M.Hp elt (e :: rest) (e :: rest).length) (hHl : (e :: rest).length ≤ Ts.length) (hN : out.length + sumL (e :: rest) ≤ N)
    (ho5 : OwQ w.heap.size w5 vo out5 us5) (hob : ∀ b, OB vo us5 b → u.ownBlock ≠ some b) (hout : (∃ q, out.getLast? = some q ∧ q.1 = p.1 ∧ out5 = out) ∨ ((∀ q, out.getLast? = some q → q.1 ≠ p.1) ∧ out5 = out ++ [p]))
    (hx' : x' = w5.heap.size) {o : Obj} (hq9 : Hq w x' v' w9 H') (hv : v'.ownBlock = u.ownBlock) (hH' : M.Hp elt H' H'.length) (hp : H'.Perm (NN ++ rest)) (hNN : (l = [] ∧ NN = []) ∨ (l ≠ [] ∧ ∃ d : HE, NN = [d] ∧ d.2 = (l, e.2.2))) (hc : Chg (fun b => b = x' ∨ u.ownBlock = some b) (w5.alloc o) w9) :
    MRel w Ts N vo (.pointer (some ⟨x', 0, none⟩)) w9 ∧ hsum (.pointer (some ⟨x', 0, none⟩)) w9 + 1 = sumL (e :: rest) := by
  obtain ⟨k1, k2, k3⟩ := minv_next hMI hTs hel hH hp hNN
  have hlt : ∀ b, OB vo us5 b → b ≠ x' := fun b hb q => by have := (ho5.ob_lt hb).2; omega
  refine ⟨⟨x', v', H', out5, us5, rfl, hq9, hH', ?_, (ho5.below (bel_al w5 o) (Nat.le_refl _)).keptC hc (fun b hb q => ?_), fun b hb => ⟨hlt b hb, by rw [hv]; exact hob b hb⟩, ?_, ?_⟩, by rw [hq9.sum]; exact k3⟩
  · have := hp.length_eq
    rw [this]
    rcases hNN with ⟨_, rfl⟩ | ⟨_, d, rfl, _⟩
    · simp at hHl ⊢; omega
    · simpa using hHl
  · rcases q with q | q
    · exact hlt b hb q
    · exact hob b hb q
  · rcases hout with ⟨q, q1, q2, rfl⟩ | ⟨q1, rfl⟩
    · exact k1 q q1 q2
    · exact k2 q1
  · rcases hout with ⟨q, q1, q2, rfl⟩ | ⟨q1, rfl⟩
    · omega
    · simp; omega
end Go.Proofs.Ytdaedglfefkeoaa

/- What Merge answers of any tables: what they tell together. -/
namespace Go.Proofs.Ytdaedglfefkeoaa
open Go.RowKit
set_option linter.unusedVariables false
set_option maxRecDepth 100000

theorem bequal_w {va vb : Value} {la lb : List UInt8} {w : World} (ha : Rd w va la) (hb : Rd w vb lb) (q : Nat) : Calls Try.prog 46 #[va, vb] (w.drewN q) fun e w' => e = .returned (.bool (decide (la = lb))) ∧ ∃ n, w' = w.drewN n := by
  refine (bequal_any (ha.drewN q) (hb.drewN q)).mono ?_
  rintro _ w' ⟨rfl, rfl⟩
  exact ⟨rfl, q, rfl⟩
theorem sum_mem {Ts : List (List P3)} {T : List P3} (h : T ∈ Ts) : totP T ≤ (Ts.map totP).sum := by
  induction Ts with
  | nil => cases h
  | cons x r ih =>
    simp only [List.map_cons, List.sum_cons]
    rcases List.mem_cons.1 h with e | e
    · subst e; omega
    · have := ih e; omega
theorem sum_len (Ts : List (List P3)) : 3 * (Ts.map List.length).sum ≤ (Ts.map totP).sum := by
  induction Ts with
  | nil => simp
  | cons x r ih =>
    simp only [List.map_cons, List.sum_cons]
    have := totP_len x
    omega

set_option maxHeartbeats 2000000 in
theorem merge_any {v : Value} {Ts : List (List P3)} {w : World} (h : RdT w v Ts) (hl : Ts.length ≤ 4194304) (hTs : ∀ T ∈ Ts, M.ris T = true) (htot : (Ts.map totP).sum ≤ 16777216) :
    Calls Try.prog 25 #[v] w fun e w' => ∃ u us, e = .returned u ∧ OwQ w.heap.size w' u (M.mgF Ts.flatten) us ∧ Below w.heap.size w w' := by
  have hro := runsof_any h (by omega)
  obtain ⟨va, vc, rfl, _⟩ := h
  have hsl := sum_len Ts
  go_enter Try.func25, Try.ntmps25
  go_wp2_with fail
  refine hro.mono ?_
  rintro e w1 ⟨x1, u1, H1, rfl, hq1, hH1, hl1, hm1, hs1⟩
  have hst : MRel w Ts 16777216 (.slice none 0 0) (.pointer (some ⟨w1.heap.size, 0, none⟩)) (w1.alloc (.cells #[u1] 82)) := ⟨w1.heap.size, u1, H1, [], [], rfl, hq1.move _, hH1, hl1, OwQ.nil _ _, (fun b hb => by rcases hb with q | ⟨_, q, _⟩ <;> cases q), minv_start hm1, by simp; omega⟩
  obtain ⟨ua, un, uc, rfl⟩ := row_shape hq1.row
  clear hro hq1 hH1 hl1 hm1 hs1
  go_wp2_with fail
  generalize (w1.alloc (.cells #[.slice ua un uc] 82)) = w2 at *
  go_loopw [3, 4, 5] (fun o hp _ wr => Hid (MRel w Ts 16777216 o hp wr)) (fun o hp _ wr => hsum hp wr)
  case atStart => exact hst
  case round =>
    clear hst
    obtain ⟨x, u, H, out, us, rfl, hq, hH, hHl, ho, hob, hMI, hN⟩ := hrel.out
    obtain ⟨xo, yo, hoe, o1, o2, _, o4⟩ := ho.shape
    subst hoe
    unfold maxLen at o2
    cases H with
    | nil =>
      obtain ⟨a, c, eu, _⟩ := row_reads hq.row
      have vx := hq.vx.1
      rw [eu] at vx
      simp only [List.length_nil] at vx
      have hIs : out = M.mgF Ts.flatten := M.IsMg.uniq hMI.done (M.mgF_is Ts) (fun _ => rfl)
      have HF : Hid _ := And.intro ho (And.intro hq.base hIs)
      clear hrel hq ho hMI hIs hob hH o4 eu
      go_wp2_with fail
      go_ret
      obtain ⟨ho, hb, rfl⟩ := HF.out
      exact ⟨_, us, rfl, ho, hb⟩
    | cons e rest =>
      have hsum0 := hq.sum
      obtain ⟨ev, el, ei⟩ := e
      cases el with
      | nil => exact absurd rfl (hq.els _ List.mem_cons_self).2.1
      | cons p l =>
      obtain ⟨g, c, rfl, h1, h2, _, a0, a1, ra, fr, na, ba⟩ := hq.at_ (k := 0) rfl
      unfold maxLen at h2
      simp only [Nat.zero_mul] at a0
      have vx := hq.vx.1
      obtain ⟨ao, ca, eu, q1, q2, q4⟩ := ra
      simp only [] at eu q1 q2 q4 a0
      subst eu
      unfold maxLen at q2
      obtain ⟨aa, z1, z2, rfl, hpa⟩ := q4 0 p rfl
      rw [add_zero3] at hpa
      have hpT : p.1.length + p.2.1.length ≤ 16777216 := by
        obtain ⟨_, d, hd⟩ := hMI.left (p :: l, ei) (by simp)
        have h3 : totP (d ++ p :: l) ≤ _ := sum_mem (List.mem_of_getElem? hd)
        have h4 := totP_mem (d ++ p :: l) p (by simp)
        omega
      have c0 := hpa.c0
      have c1 := hpa.c1
      have c2 := hpa.c2
      have r1 := hpa.r1
      have r2 := hpa.r2
      clear q4 hpa fr
      obtain ⟨pk, pv, pg⟩ := p
      simp only [] at c0 c1 c2 r1 r2 hpT
      obtain ⟨k1, y1, rfl, _⟩ := id r1
      obtain ⟨k2, y2, rfl, _⟩ := id r2
      have hWb : Below wr.heap.size wr (wr.alloc (.cells #[.slice k1 pk.length y1, .slice k2 pv.length y2, .bool pg] 48)) := bel_al wr _
      obtain ⟨f0, f1, f2, _⟩ := cells3 (heap_alloc_new wr (.cells #[.slice k1 pk.length y1, .slice k2 pv.length y2, .bool pg] 48))
      have hn1 : (0 : Int) < (((((.slice (some aa) (((pk, pv, pg) : P3) :: l).length ca, ((pk, pv, pg) : P3) :: l, ei) : HE) :: rest).length : Nat) : Int) := by simp
      have hn2 : (0 : Int) < (((((pk, pv, pg) : P3) :: l).length : Nat) : Int) := by simp
      have HQ : Hid _ := And.intro hq (And.intro hH (And.intro hHl (And.intro hMI (And.intro hN (And.intro hob hsum0)))))
      clear hq hH hHl hMI hN hrel hob hsum0
      generalize hnH : (((.slice (some aa) (((pk, pv, pg) : P3) :: l).length ca, ((pk, pv, pg) : P3) :: l, ei) : HE) :: rest).length = nH at *
      generalize hnl : (((pk, pv, pg) : P3) :: l).length = nl at *
      go_wp2_with fail
      generalize hW : (wr.alloc (.cells #[.slice k1 pk.length y1, .slice k2 pv.length y2, .bool pg] 48)) = W at *
      have r1W := r1.below hWb (Nat.le_refl _)
      have r2W := r2.below hWb (Nat.le_refl _)
      have hoW := ho.below hWb (Nat.le_refl _)
      have hsW : wr.heap.size < W.heap.size := by rw [← hW]; simp
      clear hW c0 c1 c2 r1 r2 a0 a1 vx
      by_cases hoe : out.length = 0
      · have hout : out = [] := List.length_eq_zero_iff.1 hoe
        have HL : Hid (∀ q, out.getLast? = some q → q.1 ≠ ((pk, pv, pg) : P3).1) := fun q hq => by rw [hout] at hq; cases hq
        clear o4
        subst hout
        obtain rfl : us = [] := List.length_eq_zero_iff.1 ho.len
        clear hoe
        simp only [List.length_nil] at *
        go_quiet (fail)
        have hcp := copied_any (p := (pk, pv, pg)) (r1W.drewN nq) (r2W.drewN nq) (by simp only []; omega)
        have hbn := Below.dN W nq
        have hoq := hoW.below hbn (Nat.le_refl _)
        have hnl2 : ([] : List V3).length + [((Value.slice none 0 0, Value.slice none 0 0, pg) : V3)].length ≤ 1099511627776 := by simp
        have hsq : (W.drewN nq).heap.size = W.heap.size := rfl
        go_wp2_with fail
        refine hcp.mono ?_
        rintro e w3 ⟨u3, rfl, hE3, hb3⟩
        have hs3 := hb3.size
        obtain ⟨⟨q0, q1', q2', e0⟩, q3, q4, q5, e1⟩ := hE3.sl
        have hrw := ownsRow_belW (ownsRow_belW hoq.row hb3 (Nat.le_refl _)) (bel_al w3 (.cells #[u3.1, u3.2.1, .bool u3.2.2] 48)) (Nat.le_refl _)
        have hrv := rdV_one w3 u3 hE3.sl (cs := #[u3.1, u3.2.1, .bool u3.2.2]) rfl 48
        have hB0 := HQ.out.1.base.size
        obtain ⟨x0, x1', x2'⟩ := u3
        simp only [] at *
        subst e0
        subst e1
        obtain ⟨K5, hK5⟩ : ∃ K : Value → World → Prop, K = fun v5 w5 => (w5.ownsRow w.heap.size 48 3 v5 (([] : List V3) ++ [((.slice q0 q1' q2', .slice q3 q4 q5, x2') : V3)]).length (q3s (([] : List V3) ++ [((.slice q0 q1' q2', .slice q3 q4 q5, x2') : V3)])) ∧ (w3.alloc (.cells #[.slice q0 q1' q2', .slice q3 q4 q5, .bool x2'] 48)).grownBy w5 (Value.slice xo 0 yo).ownBlock ∧ (v5.ownBlock = (Value.slice xo 0 yo).ownBlock ∨ v5.ownBlock = some (w3.alloc (.cells #[.slice q0 q1' q2', .slice q3 q4 q5, .bool x2'] 48)).heap.size)) := ⟨_, rfl⟩
        have hmid : ∀ v5 w5, K5 v5 w5 → OwQ w.heap.size w5 v5 ([] ++ [(pk, pv, pg)]) (([] : List V3) ++ [((.slice q0 q1' q2', .slice q3 q4 q5, x2') : V3)]) ∧ Hq w x (.slice (some ⟨g, 0, none⟩) nH c) w5 ((.slice (some aa) nl ca, (pk, pv, pg) :: l, ei) :: rest) ∧ (∀ b, OB v5 (([] : List V3) ++ [((.slice q0 q1' q2', .slice q3 q4 q5, x2') : V3)]) b → (Value.slice (some ⟨g, 0, none⟩) nH c).ownBlock ≠ some b) ∧ w5.cell? ⟨x, 0, none⟩ = some (.slice (some ⟨g, 0, none⟩) nH c) := fun v5 w5 hk => by
          rw [hK5] at hk
          obtain ⟨ho5, hg5, hv5⟩ := hk
          obtain ⟨hq, _, _, _, _, hob, _⟩ := HQ.out
          have hwq : Below wr.heap.size wr (w3.alloc (.cells #[.slice q0 q1' q2', .slice q3 q4 q5, .bool x2'] 48)) := Below.tr (Below.tr (Below.tr hWb hbn) hb3) (bel_al w3 _)
          have hq2 := hq.below hwq (Nat.le_refl _)
          have hgl := World.ownsRow.lt hq.row g rfl
          have hxl := hq.xlt
          have hq5 : Hq w x (.slice (some ⟨g, 0, none⟩) nH c) w5 ((.slice (some aa) nl ca, (pk, pv, pg) :: l, ei) :: rest) := hq2.kept (S := fun b => (Value.slice xo 0 yo).ownBlock = some b) (Chg.of_grown hg5 (fun b e _ => e)) (fun b _ q => (World.ownsRow.lt ho.row b q).1) (fun q => (hob x (.inl q)).1 rfl) (fun b q1 q2 => (hob b (.inl q2)).2 q1)
          refine ⟨hoq.snocE hb3 (bel_al w3 _) hE3 (by omega) ho5 hg5 hv5, hq5, fun b hb q => ?_, hq5.vx.1⟩
          have hbg : g = b := Option.some.inj q
          rcases hb with q6 | ⟨d, hd, q6⟩
          · rcases hv5 with r | r
            · rw [r] at q6; exact (hob b (.inl q6)).2 q
            · rw [r] at q6; have := Option.some.inj q6; have := hwq.size; omega
          · rcases List.mem_append.1 hd with r | r
            · exact (hob b (.inr ⟨d, r, q6⟩)).2 q
            · rw [List.mem_singleton.1 r] at q6
              have := (hE3.lt q6).1
              omega
        go_wp2_with (first | (at_builtin; refine wpList_appQ rfl _ _ rfl w.heap.size (.slice xo 0 yo) [] rfl hrw _ [((.slice q0 q1' q2', .slice q3 q4 q5, x2') : V3)] rfl hrv (by simp; omega) hnl2 ?_; intro v5 w5 ho5 hg5 hv5; obtain ⟨m1, m2, m3, m4⟩ := hmid v5 w5 (by rw [hK5]; exact ⟨ho5, hg5, hv5⟩); obtain ⟨a5, n5, c5, rfl⟩ := row_shape ho5) | fail)
        have hst := hstep_any (m2.move 82) (p := (pk, pv, pg)) (l := l) rfl (by rw [hnH]; exact HQ.out.2.1) (by have := HQ.out.2.2.1; omega)
        clear hmid hK5
        refine hst.mono ?_
        rintro e w9 ⟨⟨u9, rfl⟩, v9, H9, NN, s1, s2, s3, s4, s5, s6⟩
        go_wp2_with fail
        obtain ⟨hq, hH, hHl, hMI, hN, hob, hsum0⟩ := HQ.out
        obtain ⟨g1, g2⟩ := MRel.next hTs hMI rfl (by rw [hnH]; exact hH) (by rw [hnH]; exact hHl) hN m1 m3 (.inr ⟨HL.out, rfl⟩) rfl s1 s2 s3 s4 s5 s6
        refine ⟨g1, ?_⟩
        show hsum (.pointer (some ⟨_, 0, none⟩)) _ < hsum (.pointer (some ⟨x, 0, none⟩)) wr
        omega
      · obtain ⟨n0, hn0⟩ : ∃ n, out.length = n + 1 := ⟨out.length - 1, by omega⟩
        obtain ⟨q, hqo⟩ : ∃ q, out[n0]? = some q := ⟨_, List.getElem?_eq_getElem (by omega)⟩
        have hul := ho.len
        obtain ⟨uq, huq⟩ : ∃ d, us[n0]? = some d := ⟨_, List.getElem?_eq_getElem (by omega)⟩
        have hEq := (ho.el n0 uq q huq hqo).1.rd
        obtain ⟨go, rfl, cq⟩ := o4 _ _ (q3s_at us n0 uq huq).1
        have cqW : W.cell? ⟨go, n0 * 3, none⟩ = some uq.1 := by rw [hWb.cell (World.block_lt_of_cell? _ _ cq)]; exact cq
        have hbe := fun x => bequal_w (hEq.below hWb (Nat.le_refl _)) r1W x
        have hlast : out.getLast? = some q := by rw [List.getLast?_eq_getElem?, hn0]; exact hqo
        have hni : IntKind.i64.wrap ((out.length : Int) - 1) = (n0 : Int) := by rw [IntKind.wrap_i64]; omega
        have hni2 : (out.length : Int) - 1 = (n0 : Int) := by omega
        have hn3 : (n0 : Int) < (out.length : Int) := by omega
        have hoe2 : ¬ (out.length : Int) = 0 := by omega
        obtain ⟨_, _, euq, _⟩ := id hEq
        rw [euq] at cqW hbe
        have HL : Hid _ := hlast
        clear o4 cq hlast hEq hqo huq hn0 hoe
        generalize hoL : out.length = nO at *
        have HOL : Hid _ := hoL
        clear hoL
        have hoe3 : ((nO : Int) == 0) = false := by simp; omega
        by_cases hke : q.1 = pk
        · rw [decide_eq_true hke] at hbe
          have HK : Hid _ := hke
          clear hke
          go_quiet (first | (go_at_call 46; exact hbe _) | fail)
          have hbn := Below.dN W nq
          have hwq : Below wr.heap.size wr (W.drewN nq) := Below.tr hWb hbn
          have hq2 := HQ.out.1.below hwq (Nat.le_refl _)
          have vx2 := hq2.vx.1
          have hoq := hoW.below hbn (Nat.le_refl _)
          have hst := hstep_any (hq2.move 82) (p := (pk, pv, pg)) (l := l) rfl (by rw [hnH]; exact HQ.out.2.1) (by have := HQ.out.2.2.1; omega)
          generalize W.drewN nq = W9 at *
          go_wp2_with fail
          refine hst.mono ?_
          rintro e w9 ⟨⟨u9, rfl⟩, v9, H9, NN, s1, s2, s3, s4, s5, s6⟩
          go_wp2_with fail
          obtain ⟨hq, hH, hHl, hMI, hN, hob, hsum0⟩ := HQ.out
          obtain ⟨g1, g2⟩ := MRel.next hTs hMI rfl (by rw [hnH]; exact hH) (by rw [hnH]; exact hHl) (by rw [HOL.out]; exact hN) hoq (fun b hb => (hob b hb).2) (.inl ⟨q, HL.out, HK.out, rfl⟩) rfl s1 s2 s3 s4 s5 s6
          refine ⟨g1, ?_⟩
          show hsum (.pointer (some ⟨_, 0, none⟩)) _ < hsum (.pointer (some ⟨x, 0, none⟩)) wr
          omega
        · rw [decide_eq_false hke] at hbe
          have HL2 : Hid (∀ q, out.getLast? = some q → q.1 ≠ ((pk, pv, pg) : P3).1) := fun q' hq' => by rw [HL.out] at hq'; obtain rfl := Option.some.inj hq'; exact hke
          clear hke
          go_quiet (first | (go_at_call 46; exact hbe _) | fail)
          have hcp := copied_any (p := (pk, pv, pg)) (r1W.drewN nq) (r2W.drewN nq) (by simp only []; omega)
          have hbn := Below.dN W nq
          have hoq := hoW.below hbn (Nat.le_refl _)
          have hnl2 : us.length + [((Value.slice none 0 0, Value.slice none 0 0, pg) : V3)].length ≤ 1099511627776 := by have := HQ.out.2.2.2.2.1; simp; omega
          have hsq : (W.drewN nq).heap.size = W.heap.size := rfl
          go_wp2_with fail
          refine hcp.mono ?_
          rintro e w3 ⟨u3, rfl, hE3, hb3⟩
          have hs3 := hb3.size
          obtain ⟨⟨q0, q1', q2', e0⟩, q3, q4, q5, e1⟩ := hE3.sl
          have hrw := ownsRow_belW (ownsRow_belW hoq.row hb3 (Nat.le_refl _)) (bel_al w3 (.cells #[u3.1, u3.2.1, .bool u3.2.2] 48)) (Nat.le_refl _)
          have hrv := rdV_one w3 u3 hE3.sl (cs := #[u3.1, u3.2.1, .bool u3.2.2]) rfl 48
          have hB0 := HQ.out.1.base.size
          obtain ⟨x0, x1', x2'⟩ := u3
          simp only [] at *
          subst e0
          subst e1
          obtain ⟨K5, hK5⟩ : ∃ K : Value → World → Prop, K = fun v5 w5 => (w5.ownsRow w.heap.size 48 3 v5 (us ++ [((.slice q0 q1' q2', .slice q3 q4 q5, x2') : V3)]).length (q3s (us ++ [((.slice q0 q1' q2', .slice q3 q4 q5, x2') : V3)])) ∧ (w3.alloc (.cells #[.slice q0 q1' q2', .slice q3 q4 q5, .bool x2'] 48)).grownBy w5 (Value.slice (some ⟨go, 0, none⟩) nO yo).ownBlock ∧ (v5.ownBlock = (Value.slice (some ⟨go, 0, none⟩) nO yo).ownBlock ∨ v5.ownBlock = some (w3.alloc (.cells #[.slice q0 q1' q2', .slice q3 q4 q5, .bool x2'] 48)).heap.size)) := ⟨_, rfl⟩
          have hmid : ∀ v5 w5, K5 v5 w5 → OwQ w.heap.size w5 v5 (out ++ [(pk, pv, pg)]) (us ++ [((.slice q0 q1' q2', .slice q3 q4 q5, x2') : V3)]) ∧ Hq w x (.slice (some ⟨g, 0, none⟩) nH c) w5 ((.slice (some aa) nl ca, (pk, pv, pg) :: l, ei) :: rest) ∧ (∀ b, OB v5 (us ++ [((.slice q0 q1' q2', .slice q3 q4 q5, x2') : V3)]) b → (Value.slice (some ⟨g, 0, none⟩) nH c).ownBlock ≠ some b) ∧ w5.cell? ⟨x, 0, none⟩ = some (.slice (some ⟨g, 0, none⟩) nH c) := fun v5 w5 hk => by
            rw [hK5] at hk
            obtain ⟨ho5, hg5, hv5⟩ := hk
            obtain ⟨hq, _, _, _, _, hob, _⟩ := HQ.out
            have hwq : Below wr.heap.size wr (w3.alloc (.cells #[.slice q0 q1' q2', .slice q3 q4 q5, .bool x2'] 48)) := Below.tr (Below.tr (Below.tr hWb hbn) hb3) (bel_al w3 _)
            have hq2 := hq.below hwq (Nat.le_refl _)
            have hgl := World.ownsRow.lt hq.row g rfl
            have hxl := hq.xlt
            have hq5 : Hq w x (.slice (some ⟨g, 0, none⟩) nH c) w5 ((.slice (some aa) nl ca, (pk, pv, pg) :: l, ei) :: rest) := hq2.kept (S := fun b => (Value.slice (some ⟨go, 0, none⟩) nO yo).ownBlock = some b) (Chg.of_grown hg5 (fun b e _ => e)) (fun b _ q => (World.ownsRow.lt ho.row b q).1) (fun q => (hob x (.inl q)).1 rfl) (fun b q1 q2 => (hob b (.inl q2)).2 q1)
            refine ⟨hoq.snocE hb3 (bel_al w3 _) hE3 (by omega) ho5 hg5 hv5, hq5, fun b hb q => ?_, hq5.vx.1⟩
            have hbg : g = b := Option.some.inj q
            rcases hb with q6 | ⟨d, hd, q6⟩
            · rcases hv5 with r | r
              · rw [r] at q6; exact (hob b (.inl q6)).2 q
              · rw [r] at q6; have := Option.some.inj q6; have := hwq.size; omega
            · rcases List.mem_append.1 hd with r | r
              · exact (hob b (.inr ⟨d, r, q6⟩)).2 q
              · rw [List.mem_singleton.1 r] at q6
                have := (hE3.lt q6).1
                omega
          go_wp2_with (first | (at_builtin; refine wpList_appQ rfl _ _ rfl w.heap.size (.slice (some ⟨go, 0, none⟩) nO yo) us rfl hrw _ [((.slice q0 q1' q2', .slice q3 q4 q5, x2') : V3)] rfl hrv (by simp; omega) hnl2 ?_; intro v5 w5 ho5 hg5 hv5; obtain ⟨m1, m2, m3, m4⟩ := hmid v5 w5 (by rw [hK5]; exact ⟨ho5, hg5, hv5⟩); obtain ⟨a5, n5, c5, rfl⟩ := row_shape ho5) | fail)
          have hst := hstep_any (m2.move 82) (p := (pk, pv, pg)) (l := l) rfl (by rw [hnH]; exact HQ.out.2.1) (by have := HQ.out.2.2.1; omega)
          clear hmid hK5
          refine hst.mono ?_
          rintro e w9 ⟨⟨u9, rfl⟩, v9, H9, NN, s1, s2, s3, s4, s5, s6⟩
          go_wp2_with fail
          obtain ⟨hq, hH, hHl, hMI, hN, hob, hsum0⟩ := HQ.out
          obtain ⟨g1, g2⟩ := MRel.next hTs hMI rfl (by rw [hnH]; exact hH) (by rw [hnH]; exact hHl) (by rw [HOL.out]; exact hN) m1 m3 (.inr ⟨HL2.out, rfl⟩) rfl s1 s2 s3 s4 s5 s6
          refine ⟨g1, ?_⟩
          show hsum (.pointer (some ⟨_, 0, none⟩)) _ < hsum (.pointer (some ⟨x, 0, none⟩)) wr
          omega
end Go.Proofs.Ytdaedglfefkeoaa

/- Frames of which a byte is turned; numbers of which 62 bits are taken. -/
namespace Go.Proofs.Ytdaedglfefkeoaa
open Go.RowKit
set_option linter.unusedVariables false
set_option maxRecDepth 100000

theorem and62 (x : Int) : ∃ m : Nat, m < 4611686018427387904 ∧ bits .and .i64 x 4611686018427387903 = (m : Int) := by
  have h1 : (BitVec.ofInt 64 (4611686018427387903 : Int)).toNat = 4611686018427387903 := by decide
  have h2 : ((BitVec.ofInt 64 x) &&& (BitVec.ofInt 64 (4611686018427387903 : Int))).toNat ≤ 4611686018427387903 := by
    rw [BitVec.toNat_and, h1]; exact Nat.and_le_right
  refine ⟨((BitVec.ofInt 64 x) &&& (BitVec.ofInt 64 (4611686018427387903 : Int))).toNat, by omega, ?_⟩
  have hb : bits .and .i64 x 4611686018427387903 = IntKind.i64.wrap ((((BitVec.ofInt 64 x) &&& (BitVec.ofInt 64 (4611686018427387903 : Int))).toNat : Nat) : Int) := rfl
  rw [hb]
  generalize ((BitVec.ofInt 64 x) &&& (BitVec.ofInt 64 (4611686018427387903 : Int))).toNat = m at *
  exact IntWalk.i64_in _ ⟨by omega, by omega⟩

theorem Ow.at {B : Nat} {w : World} {v : Value} {l : List UInt8} (h : Ow B w v l) (h0 : 0 < l.length) : ∃ g c, v = .slice (some ⟨g, 0, none⟩) l.length c ∧ B ≤ g ∧ l.length ≤ c ∧ c ≤ maxLen := by
  rcases h.2 with ⟨_, e⟩ | ⟨g, cap, cur, e, hg, hh, hn, hm, _⟩
  · omega
  · exact ⟨g, cap, e, hg, hn, hm⟩
theorem Ow.put {B g n c : Nat} {w : World} {l : List UInt8} (h : Ow B w (.slice (some ⟨g, 0, none⟩) n c) l) (hn : n = l.length) (i : Nat) (x : UInt8) (z : Int) (hz : z = (x.toNat : Int)) : Ow B (w.setCell ⟨g, i, none⟩ (.int .u8 z)) (.slice (some ⟨g, 0, none⟩) n c) (l.set i x) := by
  subst hn
  have := (World.ownsRow.stored h i (.int .u8 z)).1
  unfold Ow
  subst hz
  simpa [cel, List.map_set] using this

/-- The frame of l with one byte behind its length turned is refused by its sum. -/
theorem turned_refused (l : List UInt8) (j : Nat) (hj : j < 4 + l.length) (τ : UInt8) (hτ : τ ≠ 0) (hl : l.length < 18446744073709551616) (hat : (M.vi l.length).length + j < (M.frame l).length) :
    M.tf ((M.frame l).set ((M.vi l.length).length + j) ((M.frame l)[(M.vi l.length).length + j] ^^^ τ)) = ([], [], 11) := by
  have hxne : ∀ x : UInt8, x ^^^ τ ≠ x := fun x e => hτ (by
    have := congrArg (fun y => x ^^^ y) e
    simpa [← UInt8.xor_assoc] using this)
  have e0 : (M.frame l).set ((M.vi l.length).length + j) ((M.frame l)[(M.vi l.length).length + j] ^^^ τ) = M.vi l.length ++ ((M.be 4 (M.crc l) ++ l).set j (((M.be 4 (M.crc l) ++ l)[j]'(by simp [M.be_length]; omega)) ^^^ τ)) := by
    have hg : (M.frame l)[(M.vi l.length).length + j] = (M.be 4 (M.crc l) ++ l)[j]'(by simp [M.be_length]; omega) := by
      have : M.frame l = M.vi l.length ++ (M.be 4 (M.crc l) ++ l) := by simp [M.frame]
      simp only [this]
      rw [List.getElem_append_right (by omega)]
      congr 1
      omega
    rw [hg, show M.frame l = M.vi l.length ++ (M.be 4 (M.crc l) ++ l) by simp [M.frame], List.set_append_right _ _ (by omega), Nat.add_sub_cancel_left]
  rw [e0]
  by_cases h4 : j < 4
  · rw [List.set_append_left _ _ (by rw [M.be_length]; exact h4)]
    refine M.tf_turned _ _ _ hl (by simp [M.be_length]) rfl ?_
    intro e
    have hc : M.num (M.be 4 (M.crc l)) = M.crc l := M.num_be 4 _ (by have := M.crc_lt l; simpa using this)
    have := M.num_inj _ _ (by simp) (hc.trans e).symm
    have h2 := congrArg (fun y => y[j]?) this
    rw [List.getElem?_set_self (by rw [M.be_length]; exact h4), List.getElem?_eq_getElem (by rw [M.be_length]; exact h4), List.getElem_append_left (by rw [M.be_length]; exact h4)] at h2
    exact hxne _ (Option.some.inj h2)
  · obtain ⟨i, rfl⟩ : ∃ i, j = 4 + i := ⟨j - 4, by omega⟩
    have hi : i < l.length := by omega
    have hb4 := M.be_length 4 (M.crc l)
    have hgi : ((M.be 4 (M.crc l) ++ l)[4 + i]'(by simp [M.be_length]; omega)) = l[i] := by
      rw [List.getElem_append_right (by omega)]
      congr 1
      omega
    rw [hgi, List.set_append_right _ _ (by omega), show 4 + i - (M.be 4 (M.crc l)).length = i by omega]
    refine M.tf_turned _ _ _ hl hb4 (by simp) ?_
    rw [M.num_be 4 _ (by have := M.crc_lt l; simpa using this)]
    intro e
    have hz : M.zx (l.set i (l[i] ^^^ τ)) l = List.replicate i 0 ++ [τ] ++ List.replicate (l.length - (i + 1)) 0 := by
      have e1 : l.set i (l[i] ^^^ τ) = l.take i ++ [l[i] ^^^ τ] ++ l.drop (i + 1) := by rw [List.set_eq_take_append_cons_drop, if_pos hi]; simp
      have e2 : l.take i ++ [l[i]] ++ l.drop (i + 1) = l := by simp
      have e3 : M.zx (l.set i (l[i] ^^^ τ)) l = M.zx (l.take i ++ [l[i] ^^^ τ] ++ l.drop (i + 1)) (l.take i ++ [l[i]] ++ l.drop (i + 1)) := by rw [e1, e2]
      rw [e3, M.zx_mid (l.take i) [l[i] ^^^ τ] [l[i]] (l.drop (i + 1)) rfl, List.length_take, List.length_drop, Nat.min_eq_left (by omega)]
      have e4 : M.zx [l[i] ^^^ τ] [l[i]] = [τ] := by
        show [(l[i] ^^^ τ) ^^^ l[i]] = [τ]
        rw [UInt8.xor_comm l[i] τ, UInt8.xor_assoc, UInt8.xor_self, UInt8.xor_zero]
      rw [e4]
    have := (M.crc_burst _ l (by simp) i (l.length - (i + 1)) [τ] (by simp) hz).1 e τ (by simp)
    exact hτ this

theorem turn_put {B g n c : Nat} {w : World} {F : List UInt8} (h : Ow B w (.slice (some ⟨g, 0, none⟩) n c) F) (hn : n = F.length) (A : Nat) (hA : A < F.length) (τ : UInt8) :
    Ow B (w.setCell ⟨g, A, none⟩ (.int .u8 (bits BinOp.xor IntKind.u8 (F[A].toNat : Int) (τ.toNat : Int)))) (.slice (some ⟨g, 0, none⟩) n c) (F.set A (F[A] ^^^ τ)) :=
  h.put hn A (F[A] ^^^ τ) _ (by rw [u8_xor_nat _ _ F[A].toNat_lt τ.toNat_lt, UInt8.toNat_xor])
end Go.Proofs.Ytdaedglfefkeoaa

/- Plain facts: bytes of a table of which one is turned, or some come behind, are refused. -/
namespace Go.Proofs.Ytdaedglfefkeoaa
open Go.RowKit
set_option linter.unusedVariables false
set_option maxRecDepth 100000

theorem viF_mono (k n m : Nat) (h : n ≤ m) : (M.viF k n).length ≤ (M.viF k m).length := by
  induction k generalizing n m with
  | zero => simp [M.viF]
  | succ k ih =>
    rw [M.viF, M.viF]
    by_cases h1 : n < 128
    · rw [if_pos h1]
      split
      · simp
      · simp
    · rw [if_neg h1, if_neg (by omega)]
      have := ih (n / 128) (m / 128) (by omega)
      simpa using this
theorem frame_inj_len (a b : List UInt8) (h : (M.frame a).length = (M.frame b).length) : a.length = b.length := by
  have h1 := M.be_length 4 (M.crc a)
  have h2 := M.be_length 4 (M.crc b)
  simp only [M.frame, List.length_append, h1, h2] at h
  rcases Nat.lt_trichotomy a.length b.length with q | q | q
  · have := viF_mono 9 a.length b.length (by omega)
    unfold M.vi at h
    omega
  · exact q
  · have := viF_mono 9 b.length a.length (by omega)
    unfold M.vi at h
    omega

theorem frame_head (b : List UInt8) (n A : Nat) (hn : b.length = n) (hA : A < (M.vi n).length) : (M.frame b)[A]? = (M.vi n)[A]? := by
  subst hn
  unfold M.frame
  rw [List.append_assoc, List.getElem?_append_left hA]
/-- A frame of which any byte is turned is no whole frame. -/
theorem frame_turned (l : List UInt8) (A : Nat) (hA : A < (M.frame l).length) (τ : UInt8) (hτ : τ ≠ 0) (hl : l.length < 18446744073709551616) :
    (M.tf ((M.frame l).set A ((M.frame l)[A] ^^^ τ))).2.2 ≠ 0 ∨ (M.tf ((M.frame l).set A ((M.frame l)[A] ^^^ τ))).2.1 ≠ [] := by
  have hxne : ∀ x : UInt8, x ^^^ τ ≠ x := fun x e => hτ (by
    have := congrArg (fun y => x ^^^ y) e
    simpa [← UInt8.xor_assoc] using this)
  by_cases h0 : (M.tf ((M.frame l).set A ((M.frame l)[A] ^^^ τ))).2.2 = 0
  · refine .inr fun hre => ?_
    have e := M.tf_form _ h0
    rw [hre, List.append_nil] at e
    have hlen := congrArg List.length e
    rw [List.length_set] at hlen
    have hn := frame_inj_len _ _ hlen
    by_cases hv : A < (M.vi l.length).length
    · have hg := congrArg (fun y => y[A]?) e
      rw [List.getElem?_set_self hA] at hg
      have e1 := frame_head _ _ A hn hv
      have e2 := frame_head l _ A rfl hv
      rw [e1, ← e2, List.getElem?_eq_getElem hA] at hg
      exact hxne _ (Option.some.inj hg).symm
    · obtain ⟨j, rfl⟩ : ∃ j, A = (M.vi l.length).length + j := ⟨A - (M.vi l.length).length, by omega⟩
      have hfl : (M.frame l).length = (M.vi l.length).length + (4 + l.length) := by simp [M.frame, M.be_length]
      have := turned_refused l j (by omega) τ hτ hl hA
      rw [this] at h0
      cases h0
  · exact .inl h0

theorem opn_no {l : List UInt8} (h : (M.tf l).2.2 ≠ 0 ∨ (M.tf l).2.1 ≠ []) : M.opn l = none := by
  unfold M.opn
  rw [if_neg]
  rintro ⟨h1, h2, _⟩
  rcases h with q | q
  · exact q h1
  · exact q h2
theorem opn_turned (ps : List P3) (hl : totP ps ≤ 4194304) (A : Nat) (hA : A < (M.tab ps).length) (τ : UInt8) (hτ : τ ≠ 0) : M.opn ((M.tab ps).set A ((M.tab ps)[A] ^^^ τ)) = none := by
  have h1 := row_tot ps
  exact opn_no (frame_turned (M.row (ps.map M.prow)) A hA τ hτ (by omega))
theorem opn_more (ps : List P3) (hl : totP ps ≤ 4194304) (x : UInt8) : M.opn (M.tab ps ++ [x]) = none := by
  have h1 := row_tot ps
  refine opn_no (.inr ?_)
  unfold M.tab
  rw [M.tf_back (M.row (ps.map M.prow)) [x] (by omega)]
  simp

/-- The whole. -/
theorem plK_nil (ps : List P3) : M.plK ps [] = 0 := by
  cases ps with
  | nil => rfl
  | cons p r =>
    obtain ⟨k, v, g⟩ := p
    simp only [M.plK]
    rw [if_neg]
    cases k <;> simp [M.cmpL]
theorem rng_all (ps : List P3) : rng ps [] [] = ps := by
  unfold rng
  rw [plK_nil]
  simp
theorem tab_pos (ps : List P3) : 5 ≤ (M.tab ps).length := by
  have h3 := M.be_length 4 (M.crc (M.row (ps.map M.prow)))
  have h1 := M.vi_pos (M.row (ps.map M.prow)).length
  simp only [M.tab, M.frame, List.length_append]
  omega
end Go.Proofs.Ytdaedglfefkeoaa

/- Plain facts on ranges of a table, and lists of pairs joined. -/
namespace Go.Proofs.Ytdaedglfefkeoaa
open Go.RowKit
set_option linter.unusedVariables false
set_option maxRecDepth 100000

theorem plK_mono {ps : List P3} (h : M.ris ps = true) {a b : List UInt8} (hab : M.cmpL a b ≤ 0) : M.plK ps a ≤ M.plK ps b := by
  rcases Nat.lt_or_ge (M.plK ps b) (M.plK ps a) with q | q
  · have hl := M.plK_le ps a
    obtain ⟨x, hx⟩ : ∃ x, ps[M.plK ps b]? = some x := ⟨_, List.getElem?_eq_getElem (by omega)⟩
    have h1 := M.plK_lt q hx
    have h2 := M.cmpL_lt_le h1 hab
    exact absurd h2 (M.plK_ge hx)
  · exact q
theorem rng_to {ps : List P3} {a : List UInt8} (ha : 0 < a.length) : rng ps [] a = ps.take (M.plK ps a) := by
  unfold rng; rw [plK_nil, if_neg (by omega)]; rfl
theorem rng_on {ps : List P3} (b : List UInt8) : rng ps b [] = ps.drop (M.plK ps b) := by
  unfold rng; simp
theorem rng_three {ps : List P3} (h : M.ris ps = true) {a b : List UInt8} (hab : M.cmpL a b ≤ 0) (ha : 0 < a.length) (hb : 0 < b.length) : rng ps [] a ++ rng ps a b ++ rng ps b [] = ps := by
  have hm := plK_mono h hab
  rw [rng_to ha, rng_on]
  unfold rng
  rw [if_neg (by omega)]
  have e : ps.take (M.plK ps a) = (ps.take (M.plK ps b)).take (M.plK ps a) := by rw [List.take_take, Nat.min_eq_left hm]
  rw [e, List.take_append_drop, List.take_append_drop]
theorem rng_two {ps : List P3} {b : List UInt8} (hb : 0 < b.length) : rng ps [] b ++ rng ps b [] = ps := by
  rw [rng_to hb, rng_on, List.take_append_drop]
theorem rng_none {ps : List P3} (h : M.ris ps = true) {a b : List UInt8} (hab : M.cmpL a b ≤ 0) (ha : 0 < a.length) : rng ps b a = [] := by
  have hm := plK_mono h hab
  unfold rng
  rw [if_neg (by omega)]
  exact List.drop_eq_nil_of_le (by simp; omega)
theorem rng_len (ps : List P3) (a b : List UInt8) : (rng ps a b).length ≤ ps.length := by
  unfold rng; simp; omega
theorem getK_at {ps : List P3} (h : M.ris ps = true) {i : Nat} {p : P3} (hi : ps[i]? = some p) : getK ps p.1 = some p := by
  have e : M.plK ps p.1 = i := M.plK_eq (fun j x hj hx => M.ris_pair h hx hi hj) (fun x hx => by
    rw [hi] at hx
    obtain rfl := Option.some.inj hx
    rw [M.cmpL_self]; omega) (by have := (List.getElem?_eq_some_iff.1 hi).1; omega)
  have e2 : M.isK ps p.1 = true := by
    unfold M.isK
    rw [e, hi]
    simp [M.cmpL_self]
  unfold getK
  rw [if_pos e2, e, hi]

/-- One pair out of a list of pairs. -/
theorem RdQ.one {w : World} {a : Addr} {n c i : Nat} {ps : List P3} {p : P3} (h : RdQ w (.slice (some a) n c) ps) (hi : ps[i]? = some p) : RdQ w (.slice (some (a.add (i * 3))) 1 (c - i)) [p] := by
  obtain ⟨ao, c', e, h1, h2, h4⟩ := h
  simp only [Value.slice.injEq] at e
  obtain ⟨rfl, rfl, rfl⟩ := e
  have hl := (List.getElem?_eq_some_iff.1 hi).1
  obtain ⟨a', u1, u2, ea, hp⟩ := h4 i p hi
  obtain rfl := Option.some.inj ea
  refine ⟨some (a.add (i * 3)), c - i, rfl, by simp; omega, by omega, fun j q hj => ?_⟩
  match j with
  | 0 => simp at hj; subst hj; exact ⟨_, u1, u2, rfl, hp⟩
  | j + 1 => simp at hj
/-- One pair in a new block. -/
theorem rdq_one (w : World) (H : Nat) (hH : w.heap.size = H) {B : Nat} {u : V3} {p : P3} (t : TypeId) (h : El3 B w u p) {cs : Array Value} (hcs : cs = #[u.1, u.2.1, .bool u.2.2]) : RdQ (w.alloc (.cells cs t)) (.slice (some ⟨H, 0, none⟩) 1 1) [p] := by
  subst hH
  subst hcs
  have hb := bel_al w (.cells #[u.1, u.2.1, .bool u.2.2] t)
  have hc : ∀ j v, #[u.1, u.2.1, .bool u.2.2][j]? = some v → (w.alloc (.cells #[u.1, u.2.1, .bool u.2.2] t)).cell? ⟨w.heap.size, j, none⟩ = some v := fun j v e => by
    rw [World.cell?_alloc_at _ _ _ _ rfl]; exact e
  refine ⟨some ⟨w.heap.size, 0, none⟩, 1, rfl, by simp, by simp [maxLen], fun i r hi => ?_⟩
  match i with
  | 0 =>
    simp at hi; subst hi
    exact ⟨⟨w.heap.size, 0, none⟩, u.1, u.2.1, rfl, hc 0 _ rfl, hc 1 _ rfl, by rw [← h.2.2]; exact hc 2 _ rfl, h.1.rd.below hb (Nat.le_refl _), h.2.1.rd.below hb (Nat.le_refl _)⟩
  | i + 1 => simp at hi

/-- New pairs behind others. -/
theorem OwQ.join {B : Nat} {w w1 w2 : World} {v v1 v2 : Value} {ps qs : List P3} {us xs : List V3} (h : OwQ B w v ps us) (hb : Below w.heap.size w w1) (k : OwQ w.heap.size w1 v1 qs xs) (hB : B ≤ w.heap.size)
    (hrow : w2.ownsRow B 48 3 v2 (us ++ xs).length (q3s (us ++ xs))) (hg : w1.grownBy w2 v.ownBlock) (hv : v2.ownBlock = v.ownBlock ∨ v2.ownBlock = some w1.heap.size) : OwQ B w2 v2 (ps ++ qs) (us ++ xs) ∧ Below B w w2 := by
  refine ⟨(h.below hb (Nat.le_refl _)).app k.len (fun i u p e1 e2 => (k.el i u p e1 e2).mono hB) (fun u hu b hbb q => ?_) hrow hg hv, h.grown hb hB hg⟩
  obtain ⟨p, hp⟩ := k.elem u hu
  have := (hp.lt hbb).1
  have := (World.ownsRow.lt h.row b q).2
  omega
/-- A cell that was there stays behind a new block and draws. -/
theorem keepc {w : World} {o : Obj} {a : Addr} {v : Value} {n : Nat} (h : w.cell? a = some v) : ((w.alloc o).drew.drewN n).cell? a = some v := by
  have hb : Below w.heap.size w ((w.alloc o).drew.drewN n) := Below.tr (Below.tr (bel_al w o) (bel_drew _)) (Below.dN _ n)
  rw [hb.cell (World.block_lt_of_cell? _ _ h)]; exact h
end Go.Proofs.Ytdaedglfefkeoaa

/- What the document's own Within and Range answer. -/
namespace Go.Proofs.Ytdaedglfefkeoaa
open Go.RowKit
set_option linter.unusedVariables false
set_option maxRecDepth 100000

/-- Is the key from one on and below another one? -/
def wthn (fr till k : List UInt8) : Bool := decide (0 ≤ M.cmpL k fr) && (decide (till.length = 0) || decide (M.cmpL k till < 0))

theorem within_any {kv fv tv : Value} {k fr till : List UInt8} {w : World} (hk : Rd w kv k) (hf : Rd w fv fr) (ht : Rd w tv till) :
    Calls Try.prog 43 #[kv, fv, tv] w fun e w' => e = .returned (.bool (wthn fr till k)) ∧ ∃ n, w' = w.drewN n := by
  have c1 := rcmp_any hk hf
  have c2 := fun n => rcmp_any (hk.drewN n) (ht.drewN n)
  unfold wthn
  obtain ⟨ak, ck, rfl, _⟩ := hk
  obtain ⟨af, cf, rfl, _⟩ := hf
  obtain ⟨at_, ct, rfl, _⟩ := ht
  generalize M.cmpL k fr = z1 at *
  generalize M.cmpL k till = z2 at *
  by_cases h1 : 0 ≤ z1
  · have h1d : decide (0 ≤ z1) = true := decide_eq_true h1
    by_cases h2 : till.length = 0
    · have hT : (decide (0 ≤ z1) && (decide (till.length = 0) || decide (z2 < 0))) = true := by simp [h1, h2]
      rw [hT]
      obtain rfl := List.length_eq_zero_iff.1 h2
      clear hT h2 c2
      simp only [List.length_nil] at *
      go_enter Try.func43, Try.ntmps43
      go_wp2_with fail
      refine c1.mono ?_
      rintro e w1 ⟨rfl, n1, rfl⟩
      go_wp2_with fail
      go_ret
      exact ⟨rfl, _, rfl⟩
    · have h2p : 0 < till.length := by omega
      have hlq : (((till.length : Nat) : Int) == 0) = false := by rw [beq_eq_false_iff_ne]; omega
      have hT : (decide (0 ≤ z1) && (decide (till.length = 0) || decide (z2 < 0))) = decide (z2 < 0) := by simp [h1, h2]
      rw [hT]
      clear hT h2
      go_enter Try.func43, Try.ntmps43
      go_wp2_with fail
      refine c1.mono ?_
      rintro e w1 ⟨rfl, n1, rfl⟩
      go_wp2_with fail
      refine (c2 n1).mono ?_
      rintro e w2 ⟨rfl, n2, rfl⟩
      go_wp2_with fail
      go_ret
      exact ⟨rfl, _, rfl⟩
  · have hT : (decide (0 ≤ z1) && (decide (till.length = 0) || decide (z2 < 0))) = false := by simp [h1]
    have h1n : z1 < 0 := by omega
    rw [hT]
    clear hT c2
    go_enter Try.func43, Try.ntmps43
    go_wp2_with fail
    refine c1.mono ?_
    rintro e w1 ⟨rfl, n1, rfl⟩
    go_wp2_with fail
    go_ret
    exact ⟨rfl, _, rfl⟩

theorem filter_all {α : Type} {p : α → Bool} {l : List α} (h : ∀ (i : Nat) x, l[i]? = some x → p x = true) : l.filter p = l := List.filter_eq_self.2 (fun x hx => by
  obtain ⟨i, hi, rfl⟩ := List.getElem_of_mem hx
  exact h i _ (by simp [hi]))
theorem filter_none {α : Type} {p : α → Bool} {l : List α} (h : ∀ (i : Nat) x, l[i]? = some x → p x = false) : l.filter p = [] := List.filter_eq_nil_iff.2 (fun x hx => by
  obtain ⟨i, hi, rfl⟩ := List.getElem_of_mem hx
  rw [h i _ (by simp [hi])]; simp)
theorem rng_filter {ps : List P3} (h : M.ris ps = true) (fr till : List UInt8) : ps.filter (fun p => wthn fr till p.1) = rng ps fr till := by
  have hf := M.plK_le ps fr
  have hg := M.plK_le ps till
  have e1 : (ps.take (M.plK ps fr)).filter (fun p => wthn fr till p.1) = [] := filter_none (fun i x hx => by
    have hi : i < M.plK ps fr := by have := (List.getElem?_eq_some_iff.1 hx).1; simp at this; omega
    rw [List.getElem?_take_of_lt hi] at hx
    have := M.plK_lt hi hx
    unfold wthn
    rw [decide_eq_false (by omega)]; rfl)
  have e0 : ps.filter (fun p => wthn fr till p.1) = (ps.drop (M.plK ps fr)).filter (fun p => wthn fr till p.1) := by
    conv => lhs; rw [← List.take_append_drop (M.plK ps fr) ps, List.filter_append, e1, List.nil_append]
  rw [e0]
  unfold rng
  by_cases ht : till.length = 0
  · rw [if_pos ht, List.take_length]
    refine filter_all (fun i x hx => ?_)
    rw [List.getElem?_drop] at hx
    have := M.plK_all h (k := fr) (by omega) hx
    unfold wthn
    rw [decide_eq_true this, decide_eq_true ht]; rfl
  · rw [if_neg ht]
    rcases Nat.lt_or_ge (M.plK ps till) (M.plK ps fr) with q | q
    · have hx : (ps.take (M.plK ps till)).drop (M.plK ps fr) = [] := List.drop_eq_nil_of_le (by rw [List.length_take]; omega)
      rw [hx]
      refine filter_none (fun i x hx => ?_)
      rw [List.getElem?_drop] at hx
      have := M.plK_all h (k := till) (by omega) hx
      unfold wthn
      rw [decide_eq_false ht, decide_eq_false (show ¬ M.cmpL x.1 till < 0 by omega)]; simp
    · have e2 : ps.drop (M.plK ps fr) = (ps.take (M.plK ps till)).drop (M.plK ps fr) ++ ps.drop (M.plK ps till) := by
        have h1 : (ps.take (M.plK ps till) ++ ps.drop (M.plK ps till)).drop (M.plK ps fr) = (ps.take (M.plK ps till)).drop (M.plK ps fr) ++ ps.drop (M.plK ps till) := List.drop_append_of_le_length (by rw [List.length_take]; omega)
        rw [List.take_append_drop] at h1
        exact h1
      rw [e2, List.filter_append]
      have e3 : ((ps.take (M.plK ps till)).drop (M.plK ps fr)).filter (fun p => wthn fr till p.1) = (ps.take (M.plK ps till)).drop (M.plK ps fr) := filter_all (fun i x hx => by
        rw [List.getElem?_drop] at hx
        have hi : M.plK ps fr + i < M.plK ps till := by have := (List.getElem?_eq_some_iff.1 hx).1; simp at this; omega
        rw [List.getElem?_take_of_lt hi] at hx
        have h1 := M.plK_all h (k := fr) (by omega) hx
        have h2 := M.plK_lt hi hx
        unfold wthn
        rw [decide_eq_true h1, decide_eq_true h2]; simp)
      have e4 : (ps.drop (M.plK ps till)).filter (fun p => wthn fr till p.1) = [] := filter_none (fun i x hx => by
        rw [List.getElem?_drop] at hx
        have := M.plK_all h (k := till) (by omega) hx
        unfold wthn
        rw [decide_eq_false ht, decide_eq_false (show ¬ M.cmpL x.1 till < 0 by omega)]; simp)
      rw [e3, e4, List.append_nil]

/-- An array of pairs whose slices lie elsewhere. -/
structure RwQ (B : Nat) (w0 w : World) (v : Value) (ps : List P3) (us : List V3) : Prop where
  row : w.ownsRow B 48 3 v us.length (q3s us)
  len : us.length = ps.length
  el : ∀ (i : Nat) (u : V3) (p : P3), us[i]? = some u → ps[i]? = some p → Rd w0 u.1 p.1 ∧ Rd w0 u.2.1 p.2.1 ∧ u.2.2 = p.2.2
theorem RwQ.nil (B : Nat) (w0 w : World) : RwQ B w0 w (.slice none 0 0) [] [] := ⟨World.ownsRow_nil _ _ _ _, rfl, by simp⟩
theorem RwQ.rdq {B : Nat} {w0 w : World} {v : Value} {ps : List P3} {us : List V3} (h : RwQ B w0 w v ps us) (hb : Below w0.heap.size w0 w) : RdQ w v ps := by
  obtain ⟨a, c, e, h1, h2, h3, h4⟩ := row_reads h.row
  have hl := h.len
  refine ⟨a, c, by rw [e, hl], by omega, h2, fun i p hp => ?_⟩
  have hi : i < us.length := by have := (List.getElem?_eq_some_iff.1 hp).1; omega
  have hu : us[i]? = some us[i] := by simp [hi]
  obtain ⟨e0, e1, e2⟩ := q3s_at us i _ hu
  have hE := h.el i _ p hu hp
  obtain ⟨g, rfl, g0⟩ := h4 _ _ e0
  have k : ∀ j u, (q3s us)[j]? = some u → w.cell? ⟨g, j, none⟩ = some u := fun j u q => by
    obtain ⟨g', eg, g1⟩ := h4 j u q
    simp only [Option.some.injEq, Addr.mk.injEq, and_true] at eg
    rw [eg]; exact g1
  have ea : (⟨g, 0, none⟩ : Addr).add (i * 3) = ⟨g, i * 3, none⟩ := by rw [Addr.add_lit, Nat.zero_add]
  refine ⟨⟨g, 0, none⟩, us[i].1, us[i].2.1, rfl, ?_⟩
  rw [ea]
  exact ⟨g0, k _ _ e1, by rw [← hE.2.2]; exact k _ _ e2, hE.1.below hb (Nat.le_refl _), hE.2.1.below hb (Nat.le_refl _)⟩
theorem RwQ.snoc {B : Nat} {w0 w w' : World} {v v' : Value} {ps : List P3} {us : List V3} {u : V3} {p : P3} (h : RwQ B w0 w v ps us) (hu : Rd w0 u.1 p.1 ∧ Rd w0 u.2.1 p.2.1 ∧ u.2.2 = p.2.2) (hrow : w'.ownsRow B 48 3 v' (us ++ [u]).length (q3s (us ++ [u]))) : RwQ B w0 w' v' (ps ++ [p]) (us ++ [u]) := by
  refine ⟨hrow, by simp [h.len], fun i x q e1 e2 => ?_⟩
  have hl := h.len
  by_cases hi : i < us.length
  · rw [List.getElem?_append_left hi] at e1
    rw [List.getElem?_append_left (by omega)] at e2
    exact h.el i x q e1 e2
  · rw [List.getElem?_append_right (by omega)] at e1
    rw [List.getElem?_append_right (by omega), ← hl] at e2
    cases hd : i - us.length with
    | zero => rw [hd] at e1 e2; simp at e1 e2; subst e1; subst e2; exact hu
    | succ j => rw [hd] at e1; simp at e1

theorem take_filter (ps : List P3) (f : P3 → Bool) (k : Nat) (p : P3) (h : ps[k]? = some p) : (ps.take (k + 1)).filter f = (ps.take k).filter f ++ (if f p then [p] else []) := by
  rw [take_snocP ps k p h, List.filter_append]
  simp [List.filter_cons]

set_option maxHeartbeats 1000000 in
theorem rrange_any {v fv tv : Value} {ps : List P3} {fr till : List UInt8} {w : World} (h : RdQ w v ps) (hf : Rd w fv fr) (ht : Rd w tv till) (hU : M.ris ps = true) (hl : totP ps ≤ 4194304) :
    Calls Try.prog 22 #[v, fv, tv] w fun e w' => ∃ v', e = .returned v' ∧ RdQ w' v' (rng ps fr till) ∧ Below w.heap.size w w' := by
  have hpl := totP_len ps
  have hwi := fun W (hW : Below w.heap.size w W) (kv : Value) (k : List UInt8) (hk : Rd W kv k) => within_any hk (hf.below hW (Nat.le_refl _)) (ht.below hW (Nat.le_refl _))
  have HF : Hid _ := rng_filter hU fr till
  obtain ⟨ao, c, rfl, h1, h2, h4⟩ := h
  unfold maxLen at h2
  obtain ⟨af, cf, rfl, _⟩ := hf
  obtain ⟨at_, ct, rfl, _⟩ := ht
  go_enter Try.func22, Try.ntmps22
  go_wp2_with fail
  go_loopw [7, 8] (fun out i wr => ∃ (k : Nat) (us : List V3), k ≤ ps.length ∧ i = .int .i64 k ∧ RwQ w.heap.size w wr out ((ps.take k).filter (fun p => wthn fr till p.1)) us ∧ us.length ≤ k ∧ Below w.heap.size w wr) (fun _ i _ => ps.length - (intOf i).toNat)
  case atStart => exact ⟨0, [], Nat.zero_le _, rfl, RwQ.nil _ _ _, Nat.zero_le _, Below.refl _ _⟩
  case round =>
    obtain ⟨k, us, hk, rfl, ho, hul, hb⟩ := hrel
    have hbs := hb.size
    by_cases hlt : k < ps.length
    · obtain ⟨p, hp⟩ : ∃ p, ps[k]? = some p := ⟨_, List.getElem?_eq_getElem hlt⟩
      obtain ⟨a, u1, u2, rfl, hpa⟩ := h4 k p hp
      have hpr := hpa.below hb (Nat.le_refl _)
      have hw := hwi wr hb u1 p.1 hpr.r1
      have c0 := hpr.c0
      have kc : ∀ n, (wr.drewN n).cell? (a.add (k * 3)) = some u1 ∧ (wr.drewN n).cell? ⟨(a.add (k * 3)).block, (a.add (k * 3)).off + 1, none⟩ = some u2 ∧ (wr.drewN n).cell? ⟨(a.add (k * 3)).block, (a.add (k * 3)).off + 2, none⟩ = some (.bool p.2.2) := fun n => ⟨hpr.c0, hpr.c1, hpr.c2⟩
      have HT : Hid _ := take_filter ps (fun p => wthn fr till p.1) k p hp
      have hel : Rd w u1 p.1 ∧ Rd w u2 p.2.1 ∧ p.2.2 = p.2.2 := ⟨hpa.r1, hpa.r2, rfl⟩
      have HE : Hid _ := hel
      obtain ⟨x1, y1, rfl, _⟩ := hpr.r1
      obtain ⟨x2, y2, rfl, _⟩ := hpr.r2
      obtain ⟨xo, no, yo, eo⟩ := row_shape ho.row
      subst eo
      have hki : (k : Int) < (ps.length : Int) := by omega
      clear h4 hpa hp hpr hel
      cases hwt : wthn fr till p.1 with
      | false =>
        rw [hwt] at hw
        go_wp2_with fail
        refine hw.mono ?_
        rintro e w1 ⟨rfl, n1, rfl⟩
        go_wp2_with fail
        refine ⟨⟨k + 1, us, by omega, by go_num, ?_, by omega, hb.trans ((Below.dN wr n1).mono hbs)⟩, by simp [intOf]; omega⟩
        rw [HT.out, hwt]
        simp only [Bool.false_eq_true, if_false, List.append_nil]
        exact ⟨ownsRow_belW ho.row (Below.dN wr n1) (Nat.le_refl _), ho.len, ho.el⟩
      | true =>
        rw [hwt] at hw
        obtain ⟨pk, pv, pg⟩ := p
        simp only [] at *
        go_wp2_with fail
        refine hw.mono ?_
        rintro e w1 ⟨rfl, n1, rfl⟩
        obtain ⟨k0, k1, k2⟩ := kc n1
        have hrw := ownsRow_belW (ownsRow_belW ho.row (Below.dN wr n1) (Nat.le_refl _)) (bel_al (wr.drewN n1) (.cells #[.slice x1 pk.length y1, .slice x2 pv.length y2, .bool pg] 48)) (Nat.le_refl _)
        have hrv := rdV_one (wr.drewN n1) (.slice x1 pk.length y1, .slice x2 pv.length y2, pg) ⟨⟨_, _, _, rfl⟩, _, _, _, rfl⟩ (cs := #[.slice x1 pk.length y1, .slice x2 pv.length y2, .bool pg]) rfl 48
        go_wp2_with (first | (at_builtin; refine wpList_appQ rfl _ _ rfl w.heap.size (.slice xo no yo) us rfl hrw _ [(.slice x1 pk.length y1, .slice x2 pv.length y2, pg)] rfl hrv (by simp; omega) (by simp; omega) ?_; intro v5 w5 ho5 hg5 hv5) | fail)
        have hB5 : Below w.heap.size w w5 := hb.trans ((((Below.dN wr n1).mono hbs)).trans (((Below.refl w.heap.size (wr.drewN n1)).alloc hbs _).trans ((Below.refl w.heap.size _).grown hg5 (by simp; omega) (fun k hk => (World.ownsRow.lt ho.row k hk).1))))
        refine ⟨⟨k + 1, us ++ [(.slice x1 pk.length y1, .slice x2 pv.length y2, pg)], by omega, by go_num, ?_, by simp; omega, hB5⟩, by simp [intOf]; omega⟩
        rw [HT.out, hwt]
        simp only [if_true]
        exact ho.snoc ⟨HE.out.1, HE.out.2.1, rfl⟩ ho5
    · obtain rfl : k = ps.length := by omega
      clear h4
      rw [List.take_length, HF.out] at ho
      go_wp2_with fail
      go_ret
      exact ⟨_, rfl, ho.rdq hb, hb⟩
end Go.Proofs.Ytdaedglfefkeoaa
