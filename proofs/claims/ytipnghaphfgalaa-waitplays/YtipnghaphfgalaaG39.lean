/- slices.DeleteFunc with Done's question; Done. -/
import Derived.Test.YtipnghaphfgalaaG38
namespace Go.Proofs.Ytipnghaphfgalaa
open Go.RowKit
set_option linter.unusedVariables false
set_option maxRecDepth 100000

def dnE (E : List Ed) (a : UInt64) : List Ed := E.filter (fun e => !dlt a e)
theorem fst1_le (a : UInt64) (E : List Ed) : fst1 a E ≤ E.length := by
  induction E with
  | nil => exact Nat.le_refl _
  | cons e r ih => unfold fst1; split <;> simp; omega
theorem fst1_take (a : UInt64) (E : List Ed) : ∀ e ∈ E.take (fst1 a E), dlt a e = false := by
  induction E with
  | nil => intro e he; simp [fst1] at he
  | cons x r ih =>
    intro e he
    unfold fst1 at he
    split at he
    · simp at he
    · rename_i q
      rw [List.take_succ_cons] at he
      rcases List.mem_cons.1 he with q2 | q2
      · rw [q2]; simpa using q
      · exact ih e q2
theorem fst1_at {a : UInt64} {E : List Ed} {e : Ed} (h : E[fst1 a E]? = some e) : dlt a e = true := by
  induction E with
  | nil => simp at h
  | cons x r ih =>
    unfold fst1 at h
    split at h
    · rename_i q; simp at h; subst h; exact q
    · exact ih (by simpa using h)
/-- The row while edges are left out: the first i are what is kept of the first j. -/
structure DfR (B : Nat) (g n c : Nat) (E : List Ed) (a : UInt64) (i j : Nat) (L : List Ed) (w : World) : Prop where
  row : OwE B w (.slice (some ⟨g, 0, none⟩) n c) L
  len : L.length = n
  lo : L.take i = (E.take j).filter (fun e => !dlt a e)
  hi : L.drop j = E.drop j
  ij : i < j
  jn : j ≤ n
section
variable {B g n c : Nat} {E : List Ed} {a : UInt64} {i j : Nat} {L : List Ed} {w w' : World}
theorem DfR.at_ (h : DfR B g n c E a i j L w) {e : Ed} (he : E[j]? = some e) : L[j]? = some e := by
  have := congrArg (fun l => l[0]?) h.hi
  simp only [List.getElem?_drop, Nat.add_zero] at this
  rw [this]; exact he
theorem DfR.out (h : DfR B g n c E a i j L w) {e : Ed} (he : E[j]? = some e) (hd : dlt a e = true) (hw : OwE B w' (.slice (some ⟨g, 0, none⟩) n c) L) : DfR B g n c E a i (j + 1) L w' := by
  obtain ⟨hl, hl2⟩ := List.getElem?_eq_some_iff.1 he
  have hj := h.ij
  have hlj := (List.getElem?_eq_some_iff.1 (h.at_ he)).1
  refine ⟨hw, h.len, ?_, ?_, by omega, by have := h.len; omega⟩
  · rw [h.lo, List.take_add_one, he, List.filter_append]
    simp [hd]
  · rw [← List.drop_drop, ← List.drop_drop, h.hi]
theorem DfR.keep (h : DfR B g n c E a i j L w) {e : Ed} (he : E[j]? = some e) (hd : dlt a e = false) (hw : OwE B w' (.slice (some ⟨g, 0, none⟩) n c) (L.set i e)) : DfR B g n c E a (i + 1) (j + 1) (L.set i e) w' := by
  have hlj := (List.getElem?_eq_some_iff.1 (h.at_ he)).1
  have hij := h.ij
  have hln := h.len
  refine ⟨hw, by rw [List.length_set]; exact hln, ?_, ?_, by omega, by omega⟩
  · rw [List.take_add_one, List.take_set_of_le (Nat.le_refl _), h.lo, List.getElem?_set_self (by omega), List.take_add_one, he, List.filter_append]
    simp [hd]
  · rw [List.drop_set_of_lt (by omega), ← List.drop_drop, ← List.drop_drop, h.hi]
end
def DelP (B : Nat) (v : Value) (E : List Ed) (a : UInt64) (w : World) (r : Ending) (w' : World) : Prop := ∃ v', r = .returned v' ∧ OwE B w' v' (dnE E a) ∧ Chg (fun b => v.ownBlock = some b) w w' ∧ v'.ownBlock = v.ownBlock
set_option maxHeartbeats 2000000 in
theorem deleteF_any {B : Nat} {v : Value} {E : List Ed} {w : World} (h : OwE B w v E) (hl : E.length ≤ 4096) (a : UInt64) (cb : Nat) (hc : w.cell? ⟨cb, 0, none⟩ = some (.int .u64 (a.toNat : Int))) (hvc : v.ownBlock ≠ some cb) :
    Calls Try.prog 23 #[v, .func (.func 24) #[] #[.pointer (some ⟨cb, 0, none⟩)]] w (DelP B v E a w) := by
  have hcl := World.block_lt_of_cell? w _ hc
  have hix := indexF_any h.rd hl a cb hc
  generalize hP : DelP B v E a w = POST
  have HP : Hid (DelP B v E a w = POST) := hP
  clear hP
  obtain ⟨k0, hk0⟩ : ∃ k0, fst1 a E = k0 := ⟨_, rfl⟩
  have hk0l : k0 ≤ E.length := by rw [← hk0]; exact fst1_le a E
  have hidx : idx1 a E = if k0 < E.length then (k0 : Int) else -1 := by rw [← hk0]; rfl
  by_cases hlt : k0 < E.length
  · rw [if_pos hlt] at hidx
    rw [hidx] at hix
    obtain ⟨g, c, ev, hc1, hc2⟩ : ∃ g c, v = .slice (some ⟨g, 0, none⟩) E.length c ∧ E.length ≤ c ∧ c ≤ maxLen := by
      rcases h.blk with ⟨_, q⟩ | ⟨g, c, q, q1, q2, _⟩
      · subst q; simp at hlt
      · exact ⟨g, c, q, q1, q2⟩
    unfold maxLen at hc2
    subst ev
    have hgc : g ≠ cb := fun q => hvc (by rw [q]; rfl)
    obtain ⟨e0, he0⟩ : ∃ e0, E[k0]? = some e0 := ⟨_, List.getElem?_eq_getElem hlt⟩
    have hgl := h.lt g rfl
    have hst : ∀ w1, Below w.heap.size w w1 → DfR B g E.length c E a k0 (k0 + 1) E w1 := fun w1 hb => by
      refine ⟨h.below hb (Nat.le_refl _), rfl, ?_, rfl, by omega, by omega⟩
      rw [List.take_add_one, he0, List.filter_append, List.filter_eq_self.2 (fun e he => by rw [fst1_take a E e (by rw [hk0]; exact he)]; rfl)]
      have := fst1_at (a := a) (E := E) (by rw [hk0]; exact he0)
      simp [this]
    have HST : Hid (∀ w1, Below w.heap.size w w1 → DfR B g E.length c E a k0 (k0 + 1) E w1) := hst
    have hw1 : IntKind.i64.wrap ((k0 : Int) + 1) = ((k0 + 1 : Nat) : Int) := by rw [IntKind.wrap_i64]; omega
    have HFIN : Hid (∀ i w4, OwE B w4 (.slice (some ⟨g, 0, none⟩) i c) (dnE E a) → Chg (fun b => b = g) w w4 → POST (.returned (.slice (some ⟨g, 0, none⟩) i c)) w4) := fun i w4 q1 q2 => by
      rw [← HP.out]
      exact ⟨_, rfl, q1, q2.mono (fun b _ q => by rw [q]; rfl), rfl⟩
    have hneg : ¬ (k0 : Int) = -1 := by omega
    have hnegb : ((k0 : Int) == -1) = false := by rw [beq_eq_false_iff_ne]; exact hneg
    clear h hst hidx hk0 he0
    obtain ⟨n, hn⟩ : ∃ n, n = E.length := ⟨_, rfl⟩
    rw [← hn] at hix HST hlt hl hc1 hk0l ⊢
    have HN : Hid (E.length = n) := hn.symm
    clear hn
    go_enter Try.func23, Try.ntmps23
    go_wp2_with fail
    refine hix.mono ?_
    rintro r w1 ⟨rfl, hb1⟩
    have hs1 := HST.out w1 hb1
    have hch1 : Chg (fun b => b = g) w w1 := (Chg.of_below hb1).mono (fun b q1 q2 => by omega)
    go_wp2_with fail
    go_loopw [5, 6, 7] (fun i j _ wr => ∃ (i0 j0 : Nat) (L : List Ed), i = .int .i64 i0 ∧ j = .int .i64 j0 ∧ DfR B g n c E a i0 j0 L wr ∧ Chg (fun b => b = g) w wr) (fun _ j _ _ => n - (intOf j).toNat)
    case atStart => exact ⟨k0, k0 + 1, E, rfl, rfl, hs1, hch1⟩
    case round =>
      obtain ⟨i, j, L, rfl, rfl, hd, hch⟩ := hrel
      clear hs1 hch1
      have hij := hd.ij
      have hjn := hd.jn
      rcases hd.row.blk with ⟨q, _⟩ | ⟨g', c', eq, k1, k2, k3, k4, k5, k6, k7, k8⟩
      · cases q
      simp only [Value.slice.injEq, Option.some.injEq, Addr.mk.injEq, and_true] at eq
      obtain ⟨rfl, -, rfl⟩ := eq
      have hcr : wr.cell? ⟨cb, 0, none⟩ = some (.int .u64 (a.toNat : Int)) := by
        rw [World.cell?_of_block (w := w) (hch.block cb hcl (fun q => hgc q.symm))]; exact hc
      by_cases hlt2 : j < n
      · obtain ⟨⟨p1, p2⟩, hp⟩ : ∃ p, E[j]? = some p := ⟨_, List.getElem?_eq_getElem (by rw [HN.out]; exact hlt2)⟩
        obtain ⟨d0, d1⟩ := ecs_at L j _ (hd.at_ hp)
        have d0 := k5 _ _ d0
        have d1 := k5 _ _ d1
        simp only [] at d0 d1
        have hbA := w_al wr (.cells #[.int .u64 (p1.toNat : Int), .int .u64 (p2.toNat : Int)] 31)
        have hnw := heap_alloc_new wr (.cells #[.int .u64 (p1.toNat : Int), .int .u64 (p2.toNat : Int)] 31)
        have hcrl := World.block_lt_of_cell? wr _ hcr
        have hf := done1_any (p1, p2) a cb _ (show (wr.alloc (.cells #[.int .u64 (p1.toNat : Int), .int .u64 (p2.toNat : Int)] 31)).cell? ⟨cb, 0, none⟩ = some (.int .u64 (a.toNat : Int)) by rw [hbA.cell hcrl]; exact hcr)
        simp only [] at hf
        obtain ⟨x0, x1, xf⟩ := box2 hnw
        have hji : (j : Int) < (n : Int) := by omega
        have hii : (i : Int) < (n : Int) := by omega
        have hwj : IntKind.i64.wrap ((j : Int) + 1) = ((j + 1 : Nat) : Int) := by rw [IntKind.wrap_i64]; omega
        by_cases hdl : dlt a (p1, p2) = true
        · rw [hdl] at hf
          have HNX : Hid (∀ w2, Below wr.heap.size wr w2 → DfR B g n c E a i (j + 1) L w2 ∧ Chg (fun b => b = g) w w2) := fun w2 hb => ⟨hd.out hp hdl (hd.row.below hb (Nat.le_refl _)), hch.trans ((Chg.of_below hb).mono (fun b q1 q2 => by omega))⟩
          clear hd hch hp k5 k6 hnw hdl
          go_wp2_with fail
          refine hf.mono ?_
          rintro r w2 ⟨rfl, hb2⟩
          have HE2 : Hid _ := HNX.out w2 (Below.tr hbA hb2)
          go_wp2_with fail
          exact ⟨⟨i, j + 1, L, rfl, by go_num, HE2.out.1, HE2.out.2⟩, by simp [intOf]; omega⟩
        · have hdf : dlt a (p1, p2) = false := by simpa using hdl
          rw [hdf] at hf
          obtain ⟨⟨u1, u2⟩, hu⟩ : ∃ p, L[i]? = some p := ⟨_, List.getElem?_eq_getElem (by have := hd.len; omega)⟩
          obtain ⟨y0, y1⟩ := ecs_at L i _ hu
          have y0 := k5 _ _ y0
          have y1 := k5 _ _ y1
          simp only [] at y0 y1
          have HNX : Hid (∀ w2, Below wr.heap.size wr w2 → DfR B g n c E a (i + 1) (j + 1) (L.set i (p1, p2)) ((w2.setCell ⟨g, i * 2, none⟩ (.int .u64 (p1.toNat : Int))).setCell ⟨g, i * 2 + 1, none⟩ (.int .u64 (p2.toNat : Int))) ∧ Chg (fun b => b = g) w ((w2.setCell ⟨g, i * 2, none⟩ (.int .u64 (p1.toNat : Int))).setCell ⟨g, i * 2 + 1, none⟩ (.int .u64 (p2.toNat : Int)))) := fun w2 hb => by
            refine ⟨hd.keep hp hdf ?_, (((hch.trans ((Chg.of_below hb).mono (fun b q1 q2 => by omega))).put g _ _ rfl).put g _ _ rfl)⟩
            have h0 := hd.row.below hb (Nat.le_refl _)
            have h1 := row_put (row_put h0 (g := g) rfl (i * 2) (.int .u64 (p1.toNat : Int))) (g := g) rfl (i * 2 + 1) (.int .u64 (p2.toNat : Int))
            rw [ecs_set L i (p1, p2)] at h1
            unfold OwE
            rw [List.length_set]
            exact h1
          have HQ : Hid (∀ w2, Below (wr.alloc (.cells #[.int .u64 (p1.toNat : Int), .int .u64 (p2.toNat : Int)] 31)).heap.size (wr.alloc (.cells #[.int .u64 (p1.toNat : Int), .int .u64 (p2.toNat : Int)] 31)) w2 → w2.cell? ⟨wr.heap.size, 0, none⟩ = some (.int .u64 (p1.toNat : Int)) ∧ w2.cell? ⟨wr.heap.size, 1, none⟩ = some (.int .u64 (p2.toNat : Int)) ∧ w2.cell? ⟨g, i * 2, none⟩ = some (.int .u64 (u1.toNat : Int)) ∧ w2.cell? ⟨g, i * 2 + 1, none⟩ = some (.int .u64 (u2.toNat : Int)) ∧ w2.frozen? ⟨g, i * 2, none⟩ = false ∧ w2.frozen? ⟨g, i * 2 + 1, none⟩ = false) := fun w2 hb => by
            have hq : ∀ x u, (wr.alloc (.cells #[.int .u64 (p1.toNat : Int), .int .u64 (p2.toNat : Int)] 31)).cell? x = some u → w2.cell? x = some u := fun x u e => by rw [hb.cell (World.block_lt_of_cell? _ _ e)]; exact e
            have hq2 : ∀ x u, wr.cell? x = some u → (wr.alloc (.cells #[.int .u64 (p1.toNat : Int), .int .u64 (p2.toNat : Int)] 31)).cell? x = some u := fun x u e => by rw [hbA.cell (World.block_lt_of_cell? _ _ e)]; exact e
            have hBB := Below.tr hbA hb
            have hfz : ∀ o, w2.frozen? ⟨g, o, none⟩ = false := fun o => by
              rw [World.frozen?_of_block (w := wr) (hBB.block g k4)]; exact k7 o
            exact ⟨hq _ _ x0, hq _ _ x1, hq _ _ (hq2 _ _ y0), hq _ _ (hq2 _ _ y1), hfz _, hfz _⟩
          have hwi : IntKind.i64.wrap ((i : Int) + 1) = ((i + 1 : Nat) : Int) := by rw [IntKind.wrap_i64]; omega
          have hgw : ¬ g = wr.heap.size := by omega
          clear hd hch hp k5 k6 hnw hdl hdf
          go_wp2_with fail
          refine hf.mono ?_
          rintro r w2 ⟨rfl, hb2⟩
          have HE2 : Hid _ := HNX.out w2 (Below.tr hbA hb2)
          obtain ⟨t0, t1, t2, t3, t4, t5⟩ := HQ.out w2 hb2
          go_wp2_with fail
          exact ⟨⟨i + 1, j + 1, _, by go_num, by go_num, HE2.out.1, HE2.out.2⟩, by simp [intOf]; omega⟩
      · obtain rfl : j = n := by omega
        have hcn : i ≤ c := by omega
        have hci : ¬ c = i := by omega
        have hin : (i : Int) ≤ (j : Int) := by omega
        have hcc : (j : Int) ≤ (c : Int) := by omega
        have hici : (i : Int) ≤ (c : Int) := by omega
        obtain ⟨vs, -, hclr⟩ := run_clearE wr 0 g (i * 2) (j - i) (c - i) (fun q hq => k6 _ (by omega)) k7
        have hlo : L.take i = E.filter (fun e => !dlt a e) := by
          have := hd.lo
          rwa [show E.take j = E from List.take_of_length_le (by rw [HN.out]; exact Nat.le_refl _)] at this
        have hLl := hd.len
        have HE : Hid _ := HFIN.out i (wr.setCells g (i * 2) vs) (by
          have h0 := hd.row.pre i (by omega)
          rw [hlo] at h0
          have hl3 : ((E.filter (fun e => !dlt a e))).length = i := by rw [← hlo, List.length_take]; omega
          exact h0.behind (i * 2) (by rw [hl3]; exact Nat.le_refl _) vs) (hch.trans ((chg_setCellsE g _ _ wr).mono (fun b _ q => .inl q)))
        clear hd hch k5 k6 hlo hLl
        go_wp2_with fail
        exact HE.out
  · rw [if_neg hlt] at hidx
    rw [hidx] at hix
    obtain rfl : k0 = E.length := by omega
    have hall : dnE E a = E := List.filter_eq_self.2 (fun e he => by
      rw [fst1_take a E e (by rw [hk0, List.take_of_length_le (Nat.le_refl _)]; exact he)]; rfl)
    have HFIN : Hid (∀ w1, Below w.heap.size w w1 → POST (.returned v) w1) := fun w1 hb => by
      rw [← HP.out]
      refine ⟨v, rfl, by rw [hall]; exact h.below hb (Nat.le_refl _), (Chg.of_below hb).mono (fun b q1 q2 => by omega), rfl⟩
    obtain ⟨a1, c1, ev, -⟩ := h.rd.shape
    subst ev
    clear h hidx hk0 hall
    go_enter Try.func23, Try.ntmps23
    go_wp2_with fail
    refine hix.mono ?_
    rintro r w1 ⟨rfl, hb1⟩
    have HE : Hid _ := HFIN.out w1 hb1
    go_wp2_with fail
    exact HE.out

def DoneP (B x : Nat) (v : Value) (E : List Ed) (a : UInt64) (w : World) (r : Ending) (w' : World) : Prop :=
  ∃ v', r = .returned (.int .i64 ((E.length : Int) - ((dnE E a).length : Int))) ∧ Gr B x v' (dnE E a) w' ∧ Chg (GS x v) w w' ∧ v'.ownBlock = v.ownBlock
set_option maxHeartbeats 1000000 in
theorem gdone_any {B x : Nat} {v : Value} {E : List Ed} {w : World} (h : Gr B x v E w) (a : UInt64) :
    Calls Try.prog 11 #[.pointer (some ⟨x, 0, none⟩), .int .u64 (a.toNat : Int)] w (DoneP B x v E a w) := by
  have hlen := h.len
  have hbA := w_al w (.cells #[.int .u64 (a.toNat : Int)] 23)
  have hnw := heap_alloc_new w (.cells #[.int .u64 (a.toNat : Int)] 23)
  have h1 := h.below hbA (Nat.le_refl _)
  have hca : (w.alloc (.cells #[.int .u64 (a.toNat : Int)] 23)).cell? ⟨w.heap.size, 0, none⟩ = some (.int .u64 (a.toNat : Int)) := by rw [cell_of_row _ _ _ _ _ _ hnw]; rfl
  have hdf := deleteF_any h1.row h1.len a w.heap.size hca (fun q => by have := (h.row.lt _ q).2; omega)
  have hxl1 := h1.xlt
  have hdl : (dnE E a).length ≤ E.length := List.length_filter_le _ _
  generalize hP : DoneP B x v E a w = POST
  have HP : Hid (DoneP B x v E a w = POST) := hP
  clear hP
  obtain ⟨c0, cz⟩ := h1.vx
  have HK : Hid (∀ w4, Chg (fun b => v.ownBlock = some b) (w.alloc (.cells #[.int .u64 (a.toNat : Int)] 23)) w4 → w4.cell? ⟨x, 0, none⟩ = some v ∧ w4.frozen? ⟨x, 0, none⟩ = false) := fun w4 hc => by
    have hcx : w4.heap[x]? = some (.cells #[v] 52 (0, 0)) := by rw [hc.block x hxl1 h.ne]; exact h1.cell
    exact ⟨by rw [cell_of_row _ _ _ _ _ _ hcx]; rfl, frozen_of_row _ _ _ _ _ hcx⟩
  have HFIN : Hid (∀ (v4 : Value) (w4 : World), OwE B w4 v4 (dnE E a) → Chg (fun b => v.ownBlock = some b) (w.alloc (.cells #[.int .u64 (a.toNat : Int)] 23)) w4 → v4.ownBlock = v.ownBlock → POST (.returned (.int .i64 ((E.length : Int) - ((dnE E a).length : Int)))) (w4.setCell ⟨x, 0, none⟩ v4)) := fun v4 w4 ho hc hv => by
    rw [← HP.out]
    have hcx : w4.heap[x]? = some (.cells #[v] 52 (0, 0)) := by rw [hc.block x hxl1 h.ne]; exact h1.cell
    have hcp : Chg (fun b => b = x) w4 (w4.setCell ⟨x, 0, none⟩ v4) := (Chg.refl (fun b => b = x) w4).put x _ _ rfl
    refine ⟨v4, rfl, ⟨by rw [heap_setCell_same _ _ 0 _ _ _ hcx]; rfl, ho.keptC hcp (fun b e q => h.ne (by rw [← hv, e, q])), by rw [hv]; exact h.ne, h.lo, W.ris_filter h.ris _, by omega⟩, ?_, hv⟩
    have h0 : Chg (GS x v) w (w.alloc (.cells #[.int .u64 (a.toNat : Int)] 23)) := (Chg.of_below hbA).mono (fun b q1 q2 => by omega)
    exact (h0.trans (hc.mono (fun b _ q => .inl (.inr q)))).trans (hcp.mono (fun b _ q => .inl (.inl q)))
  obtain ⟨va, vc, ev, -⟩ := h.row.rd.shape
  subst ev
  have hwr : IntKind.i64.wrap ((E.length : Int) - ((dnE E a).length : Int)) = (E.length : Int) - ((dnE E a).length : Int) := by rw [IntKind.wrap_i64]; omega
  clear h h1 hnw hca
  go_enter Try.func11, Try.ntmps11
  go_upto_region 1 with fail
  generalize (w.alloc (.cells #[.int .u64 (a.toNat : Int)] 23)) = W1 at *
  go_wp2_with fail
  refine hdf.mono ?_
  rintro r w4 ⟨v4, rfl, ho4, hc4, hv4⟩
  obtain ⟨y0, yf⟩ := HK.out w4 hc4
  have HE4 : Hid _ := HFIN.out v4 w4 ho4 hc4 hv4
  obtain ⟨z1, z2, z3, -⟩ := ho4.rd.shape
  subst z3
  clear ho4 hc4 hv4 hdf
  generalize (dnE E a).length = ln at *
  go_wp2_with fail
  exact HE4.out
end Go.Proofs.Ytipnghaphfgalaa
