/- slices.AppendSeq, Collect and Sorted over the keys of a map from int. -/
import Derived.Test.YtefhinopppdjbaaGreatG37
import Derived.RangeFuncOwn
namespace Go.Proofs.YtefhinopppdjbaaGreat
open Go.RowKit Go.Maps Go.Shelf
set_option linter.unusedVariables false
set_option maxRecDepth 100000
attribute [local go_sem] Oper.semAt_some

/-- While it is collected: what has come so far. -/
def AI (w0 : World) (C : Nat) (xs : List Int) (W : World) : Prop := ∃ v, W.heap[w0.heap.size]? = some (.cells #[v] 42 (0, 0)) ∧ Oj w0.heap.size W v xs ∧ (∀ b, v.ownBlock = some b → C + 2 ≤ b) ∧ C + 2 ≤ W.heap.size ∧ Below w0.heap.size w0 W
theorem AI.next {w0 W W' : World} {C : Nat} {xs : List Int} {row : Option Nat} (h : AI w0 C xs W) (hC : w0.heap.size < C) (hg : W.grownBy W' row) (hne : ∀ r, row = some r → w0.heap.size < r ∧ ∀ cs t fr, W.heap[r]? = some (.cells cs t fr) → r < C + 2) : AI w0 C xs W' := by
  obtain ⟨v, h1, h2, h3, h4, h5⟩ := h
  refine ⟨v, ?_, h2.kept hg (fun b e q => ?_), h3, Nat.le_trans h4 hg.size, h5.grown hg h5.size (fun k e => Nat.le_of_lt (hne k e).1)⟩
  · rw [hg.block _ (Array.getElem?_eq_some_iff.1 h1).1 (fun q => by have := (hne _ q.symm).1; omega)]; exact h1
  · obtain ⟨_, cs, fr, e2⟩ := row_blk h2 e
    have := (hne b q).2 cs _ fr e2
    have := h3 b e
    omega
theorem kp_put (C : Nat) (W : World) (o' : Obj) : KpW C W (W.putObj (C + 1) o') :=
  ⟨(grownBy_putObj' W (C + 1) o').size, fun k o hk hb _ => by rw [World.putObj_heap_other (by omega)]; exact hb⟩
theorem kp_trans {C : Nat} {A B D : World} (h : KpW C A B) (k : KpW C B D) : KpW C A D := ⟨Nat.le_trans h.1 k.1, fun i o hi hb ho => k.2 i o hi (h.2 i o hi hb ho) ho⟩
theorem cell_one1 {w : World} {g : Nat} {u : Value} {t : TypeId} (h : w.heap[g]? = some (.cells #[u] t (0, 0))) : w.cell? ⟨g, 0, none⟩ = some u ∧ w.frozen? ⟨g, 0, none⟩ = false :=
  ⟨by rw [cell_of_row _ _ _ _ _ _ h]; rfl, frozen_of_row _ _ _ _ _ h⟩
set_option maxHeartbeats 2000000 in
theorem appendSeqI_any {T : Type} {D : DataW T} {R : Value → Option (DataW T × List MemPlace)} {Bm b nn : Nat} {w : World} (hm : w.cell? ⟨Bm, 0, none⟩ = some (.map (some b))) (hown : w.ownsMap Tryz.prog 3 R b nn D) (hsz : Maps.size D ≤ 1048576) :
    Calls Tryz.prog 62 #[.slice none 0 0, .func (.func 31) #[] #[.pointer (some ⟨Bm, 0, none⟩)]] w fun e w' => ∃ v xs, e = .returned v ∧ Oj w.heap.size w' v xs ∧ (xs.Nodup ∧ (∀ x, x ∈ xs ↔ Maps.has D (kI x) = true) ∧ xs.length ≤ Maps.size D) ∧ Below w.heap.size w w' := by
  have hbl := hown.lt
  have hml := World.block_lt_of_cell? w _ hm
  have hb0 : Below w.heap.size w (w.alloc (.cells #[.slice none 0 0] 42)) := (Below.refl _ _).alloc (Nat.le_refl _) _
  have hn0 := heap_new w (.cells #[.slice none 0 0] 42)
  have hz0 : (w.alloc (.cells #[.slice none 0 0] 42)).heap.size = w.heap.size + 1 := by simp
  refine (callsIn_wide (n := 5)).1 ?_
  refine callsIn_of_wp_marks Tryz.func62 rfl trivial ?_ rfl
  simp only [Tryz.ntmps62, List.size_toArray, List.length_cons, List.length_nil, Nat.reduceAdd, Nat.reduceSub, Array.replicate_succ, Array.replicate_zero, List.push_toArray, List.append_toArray, List.nil_append, List.cons_append]
  refine wpIn_wide.2 ?_
  go_wp2_with fail
  generalize World.alloc w _ = W0 at *
  obtain ⟨C, hC⟩ : ∃ C, W0.heap.size = C := ⟨_, rfl⟩
  have hCw : C = w.heap.size + 1 := by omega
  have hI0 : ∀ o, AI w C [] ((W0.alloc (.deferred (some []))).alloc o) := fun o => by
    have hb4 : Below W0.heap.size W0 ((W0.alloc (.deferred (some []))).alloc o) := ((Below.refl _ _).alloc (Nat.le_refl _) _).alloc (by simp) _
    refine ⟨.slice none 0 0, ?_, Oj.nil _ _, fun b e => (by cases e), by simp; omega, hb0.trans (hb4.mono hb0.size)⟩
    rw [hb4.block _ (by omega)]; exact hn0
  have HI0 : Hid _ := hI0
  refine (wpIn_wide (n := 5)).1 ?_
  refine range_told (α := Int) (encs := fun x => #[.int .i64 x]) rfl (by omega) (gf := 31) (lb := #[.pointer (some ⟨Bm, 0, none⟩)]) rfl trivial (enters_of Tryz.func31 (by kernel_rfl) rfl) (fun x => rfl)
    (AI w C) (fun pre x W => pre.length < Maps.size D ∧ AI w C pre W) (fun xs => (xs.Nodup ∧ (∀ x, x ∈ xs ↔ Maps.has D (kI x) = true) ∧ xs.length ≤ Maps.size D)) (KpW C)
    (fun {A B D} h1 h2 => kp_trans h1 h2)
    (fun W o' => by rw [hC]; exact kp_put C W o')
    (fun s W o' h => by rw [hC]; exact h.next (by omega) (grownBy_putObj' W (C + 1) o') (fun r e => by obtain rfl := Option.some.inj e; exact ⟨by omega, fun _ _ _ _ => by omega⟩))
    (fun o => HI0.out o) ?a1 ?assign ?body ?iter ?done
  case assign =>
    intro lp x W K hK
    gi_wp2
    exact hK
  case iter =>
    intro lp K W hK hbW hI hK0 hY
    rw [hC] at hK
    have hW0 : w.heap.size ≤ W0.heap.size := by omega
    have hm' : W.cell? ⟨Bm, 0, none⟩ = some (.map (some b)) := by
      rw [hbW.cell (by show Bm < _; have : Bm < w.heap.size := hml; omega), hb0.cell hml]; exact hm
    have hown' : W.ownsMap Tryz.prog 3 R b nn D := by
      obtain ⟨es, clock, hb, Ft, hs, hD⟩ := hown
      exact ⟨es, clock, by rw [hbW.block b (by omega), hb0.block b hbl]; exact hb, Ft, hs, hD⟩
    exact keysI_told Fence.wide 4 trivial rfl (by omega) (fun s W1 W2 row h1 h2 h3 => h1.next (by omega) h2 (fun r e => by
      obtain ⟨q1, o, q2, q3⟩ := h3 r e
      refine ⟨by omega, fun cs t fr q => ?_⟩
      rw [q2] at q
      obtain rfl := Option.some.inj q
      cases q3)) (fun s W1 h => by obtain ⟨_, _, _, _, h4, _⟩ := h; exact h4) hK lp W (by omega) hm' hown' hI hK0 (fun pre x W1 h1 h2 h3 => hY pre x W1 h1 ⟨h2, h1⟩ h3)
  case done =>
    rintro xs W hxs hI hK
    rw [hC] at hK
    have hI2 : AI w C xs (W.putObj C (.deferred none)) := hI.next (by omega) (grownBy_putObj' W C _) (fun r e => by obtain rfl := Option.some.inj e; exact ⟨by omega, fun _ _ _ _ => by omega⟩)
    obtain ⟨v, h1, h2, h3, h4, h5⟩ := hI
    have hc := (cell_one1 h1).1
    obtain ⟨a, c, rfl⟩ := h2.shape
    have HX : Hid _ := hxs
    clear hxs
    go_wp2_with fail
    rw [hC]
    refine ⟨by simp, .inl ⟨_, _, rfl, run_takeDeferred hK, ?_⟩⟩
    obtain ⟨v', k1, k2, _, _, k5⟩ := hI2
    have hv' : v' = .slice a xs.length c := by
      rw [World.putObj_heap_other (by omega), h1] at k1
      have := Option.some.inj k1
      simp only [Obj.cells.injEq, and_true] at this
      simpa using this.symm
    subst hv'
    refine ⟨.slice a xs.length c, ?_, _, xs, rfl, k2, HX.out, k5⟩
    simp [results, Tryz.results62, go_sem]
  case body =>
    rintro lp pre x W o' ⟨hpre, hIp⟩
    rw [hC]
    have hI2 : AI w C pre (W.putObj (C + 1) o') := hIp.next (by omega) (grownBy_putObj' W (C + 1) o') (fun r e => by obtain rfl := Option.some.inj e; exact ⟨by omega, fun _ _ _ _ => by omega⟩)
    generalize W.putObj (C + 1) o' = W2 at *
    obtain ⟨v, h1, h2, h3, h4, h5⟩ := hI2
    obtain ⟨hc, hf⟩ := cell_one1 h1
    obtain ⟨i0, hi, hz0, hz1, hz2⟩ := info_parts Tryz.infoJ
    obtain ⟨a, c, ev⟩ := h2.shape
    have hW2 : w.heap.size < W2.heap.size := by omega
    have hcn : (W2.alloc (.cells #[.int .i64 x] 3)).cell? ⟨w.heap.size, 0, none⟩ = some v := by
      rw [((Below.refl W2.heap.size W2).alloc (Nat.le_refl _) _).cell (by show w.heap.size < _; omega)]; exact hc
    have hfin : ∀ v' w3, w3.ownsRow w.heap.size 3 1 v' (pre.length + 1) (celJ pre ++ [.int .i64 x]) → (W2.alloc (.cells #[.int .i64 x] 3)).grownBy w3 v.ownBlock → (v'.ownBlock = v.ownBlock ∨ v'.ownBlock = some (W2.alloc (.cells #[.int .i64 x] 3)).heap.size) → (w3.cell? ⟨w.heap.size, 0, none⟩ = some v ∧ w3.frozen? ⟨w.heap.size, 0, none⟩ = false) ∧ (KB C W2 (w3.setCell ⟨w.heap.size, 0, none⟩ v') ∧ KpW C W2 (w3.setCell ⟨w.heap.size, 0, none⟩ v') ∧ AI w C (pre ++ [x]) (w3.setCell ⟨w.heap.size, 0, none⟩ v')) := fun v' w3 q1 q2 q3 => by
      have hba : Below W2.heap.size W2 (W2.alloc (.cells #[.int .i64 x] 3)) := (Below.refl W2.heap.size W2).alloc (Nat.le_refl _) _
      have hza : (W2.alloc (.cells #[.int .i64 x] 3)).heap.size = W2.heap.size + 1 := by simp
      have hvb : ∀ q, v.ownBlock = some q → C + 2 ≤ q := h3
      have hold : ∀ q, q < W2.heap.size → v.ownBlock ≠ some q → w3.heap[q]? = W2.heap[q]? := fun q r1 r2 => by
        rw [q2.block q (by omega) (fun e => r2 e.symm), hba.block q r1]
      have hbx3 : w3.heap[w.heap.size]? = some (.cells #[v] 42 (0, 0)) := by
        rw [hold _ hW2 (fun e => by have := hvb _ e; omega)]; exact h1
      have hch : Chg (fun q => q = w.heap.size) w3 (w3.setCell ⟨w.heap.size, 0, none⟩ v') := (Chg.refl _ w3).put _ _ _ rfl
      have hs3 := q2.size
      refine ⟨cell_one1 hbx3, ⟨?_, ?_⟩, ⟨?_, fun k o hk hb ho => ?_⟩, v', ?_, ?_, fun q e => ?_, ?_, ?_⟩
      · rw [hch.block C (by omega) (by show ¬ C = _; omega), hold C (by omega) (fun e => by have := hvb _ e; omega)]
      · rw [hch.block (C + 1) (by omega) (by show ¬ C + 1 = _; omega), hold (C + 1) (by omega) (fun e => by have := hvb _ e; omega)]
      · have := hch.size; omega
      · have hkl := (Array.getElem?_eq_some_iff.1 hb).1
        have hkb : k ≠ w.heap.size := by
          rintro rfl
          rw [h1] at hb
          obtain rfl := Option.some.inj hb
          cases ho
        have hkv : v.ownBlock ≠ some k := fun e => by
          obtain ⟨_, cs, fr, e2⟩ := row_blk h2 e
          rw [e2] at hb
          obtain rfl := Option.some.inj hb
          cases ho
        rw [hch.block k (by omega) hkb, hold k hkl hkv]; exact hb
      · rw [heap_setCell_same _ _ 0 _ _ _ hbx3]; rfl
      · show World.ownsRow _ _ _ _ _ _ _
        rw [List.length_append, celJ_append]
        refine ownsRow_keptC q1 hch (fun q e r => ?_)
        have r' : q = w.heap.size := r
        subst r'
        rcases q3 with q3 | q3
        · rw [e] at q3; have := hvb _ q3.symm; omega
        · rw [e] at q3; have := Option.some.inj q3; omega
      · rcases q3 with q3 | q3
        · rw [e] at q3; exact hvb _ q3.symm
        · rw [e] at q3; have := Option.some.inj q3; omega
      · have := hch.size; omega
      · refine (h5.trans (hba.mono (by omega))).trans ?_
        have b3 : Below w.heap.size (W2.alloc (.cells #[.int .i64 x] 3)) w3 := (Below.refl w.heap.size _).grown q2 (by omega) (fun q e => by have := hvb _ e; omega)
        exact b3.trans (Chg.below hch (fun q r => by have r' : q = w.heap.size := r; omega) (by omega))
    have HF : Hid _ := hfin
    have hl2 : pre.length + 1 ≤ 1048576 := by omega
    have hrowA := h2.alloc (.cells #[.int .i64 x] 3)
    subst ev
    clear hfin hpre hIp h1 h3 h5
    gi_wp2_with (first
      | (gi_at_builtin; refine wpListIn_append_own_at _ rfl _ _ 42 rfl w.heap.size 3 i0 (.int .i64 0) 1 8 Tryz.underlying42 hi hz0 hz1 hz2 rfl (by decide) _ _ (celJ pre) rfl hrowA ⟨W2.heap.size, 0, none⟩ 1 1 [.int .i64 x] rfl rfl ?n1 ?n2 ?n3 ?n4 ?n5 ?_; rotate_right; intro v' w3 hown' hg3 hnil3 hat3; obtain ⟨⟨hk1, hk2⟩, hrest⟩ := HF.out v' w3 hown' hg3 hat3; obtain ⟨a3, n3, c3, rfl⟩ := row_shape hown')
      | gi_in)
    case n1 =>
      intro j u hu
      match j with
      | 0 =>
        simp at hu
        subst hu
        show (W2.alloc (.cells #[.int .i64 x] 3)).cell? ⟨W2.heap.size, 0, none⟩ = _
        rw [World.cell?_alloc_at _ _ _ _ rfl]; rfl
      | j + 1 => simp at hu
    case n2 => intro u hu; simp at hu; subst hu; rfl
    case n3 => unfold maxLen; omega
    case n4 => omega
    case n5 => simp; omega
    first | exact hrest | (rw [hCw] at hrest; exact hrest) | (simp only [hCw] at hrest ⊢; exact hrest)
/-- The keys, as they were collected. -/
def KsI {T : Type} (D : DataW T) (xs : List Int) : Prop := xs.Nodup ∧ (∀ x, x ∈ xs ↔ Maps.has D (kI x) = true) ∧ xs.length ≤ Maps.size D
theorem collectI_any {T : Type} {D : DataW T} {R : Value → Option (DataW T × List MemPlace)} {Bm b nn : Nat} {w : World} (hm : w.cell? ⟨Bm, 0, none⟩ = some (.map (some b))) (hown : w.ownsMap Tryz.prog 3 R b nn D) (hsz : Maps.size D ≤ 1048576) :
    Calls Tryz.prog 29 #[.func (.func 31) #[] #[.pointer (some ⟨Bm, 0, none⟩)]] w fun e w' => ∃ v xs, e = .returned v ∧ Oj w.heap.size w' v xs ∧ KsI D xs ∧ Below w.heap.size w w' := by
  have ha := appendSeqI_any hm hown hsz
  clear hm hown
  go_enter Tryz.func29, Tryz.ntmps29
  go_wp2_with fail
  refine ha.mono ?_
  rintro e w1 ⟨v, xs, rfl, h1, h2, h3⟩
  obtain ⟨a, c, rfl⟩ := h1.shape
  have HH : Hid _ := And.intro h1 (And.intro h2 h3)
  clear h1 h2 h3 ha
  go_wp2_with fail
  go_ret
  exact ⟨_, xs, rfl, HH.out.1, HH.out.2.1, HH.out.2.2⟩
/-- slices.Sorted of the keys: rising. -/
theorem sortedI_any {T : Type} {D : DataW T} {R : Value → Option (DataW T × List MemPlace)} {Bm b nn : Nat} {w : World} (hm : w.cell? ⟨Bm, 0, none⟩ = some (.map (some b))) (hown : w.ownsMap Tryz.prog 3 R b nn D) (hsz : Maps.size D ≤ 1048576) (hks : ∀ xs, KsI D xs → xs.length ≤ 12) :
    Calls Tryz.prog 15 #[.func (.func 31) #[] #[.pointer (some ⟨Bm, 0, none⟩)]] w fun e w' => ∃ v xs, e = .returned v ∧ Oj w.heap.size w' v xs ∧ KsI D xs ∧ xs.Pairwise (fun x y => x ≤ y) ∧ Below w.heap.size w w' := by
  have ha := collectI_any hm hown hsz
  clear hm hown
  go_enter Tryz.func15, Tryz.ntmps15
  go_wp2_with fail
  refine ha.mono ?_
  rintro e w1 ⟨v, xs, rfl, h1, h2, h3⟩
  have hso := isort_small (fun n W h => len_ok n W h) w.heap.size w1 v xs h1 (hks xs h2)
  have HB3 : Hid (∀ W', Chg (fun b => v.ownBlock = some b) w1 W' → Below w.heap.size w W') := fun W' hc => h3.trans (Chg.below hc (fun b q => (World.ownsRow.lt h1 b q).1) h3.size)
  obtain ⟨a, c, rfl⟩ := h1.shape
  have H2 : Hid _ := h2
  clear h1 h2 h3 ha
  go_wp2_with fail
  refine hso.mono ?_
  rintro e w2 ⟨rfl, ⟨l', k1, k2, k3⟩, hc⟩
  have HZ : Hid _ := And.intro k1 (And.intro k2 (And.intro k3 (HB3.out _ hc)))
  clear k1 k2 k3 hc hso HB3
  go_wp2_with fail
  go_ret
  refine ⟨_, l', rfl, HZ.out.1, ⟨HZ.out.2.1.nodup_iff.2 H2.out.1, fun x => ?_, ?_⟩, HZ.out.2.2.1, HZ.out.2.2.2⟩
  · rw [HZ.out.2.1.mem_iff]; exact H2.out.2.1 x
  · rw [HZ.out.2.1.length_eq]; exact H2.out.2.2
end Go.Proofs.YtefhinopppdjbaaGreat
