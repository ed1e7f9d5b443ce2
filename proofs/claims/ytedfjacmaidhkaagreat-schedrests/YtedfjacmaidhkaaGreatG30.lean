/- count: a region is reckoned with. -/
import Derived.Test.YtedfjacmaidhkaaGreatG29
namespace Go.Proofs.YtedfjacmaidhkaaGreat
open Go.RowKit Go.Maps
set_option linter.unusedVariables false
set_option linter.unusedSimpArgs false
set_option maxRecDepth 100000
section
variable {K x : Nat} {d : PL} {p : PD} {os : List Or} {w0 w w' : World} {r : RV}
theorem Ful.putLe (h : Ful K w0 x d p os w) {f : Int → Int} (hm : ∃ n, n ≤ K + 1 ∧ Im d.md n f w') (hc : Chg (fun b => b = d.md) w w') : Ful (K + 1) w0 x d { p with le := f } os w' := by
  obtain ⟨n1, k1, h1⟩ := h.st
  obtain ⟨n2, k2, h2⟩ := h.ld
  obtain ⟨n3, k3, D, h3⟩ := h.le
  obtain ⟨n4, k4, h4⟩ := h.nm
  obtain ⟨l1, l2, l3, l4, l5⟩ := h.lo
  obtain ⟨e1, e2, e3, e4, e5, e6⟩ := h.ne
  exact ⟨h.bl.trans (hc.below (fun b q => by rw [q]; exact l4) h.bl.size), (hc.block x h.lt (own_nem h3.map h.blk)).trans h.blk, ownsRow_keptC h.ss hc (row_nem h.ss h3.map), ownsRow_keptC h.rs hc (row_nem h.rs h3.map), h.it, ownsRow_keptC h.os hc (row_nem h.os h3.map), ⟨n1, by omega, h1.next hc e2⟩, ⟨n2, by omega, h2.next hc e4⟩, hm, ⟨n4, by omega, h4.next hc (fun q => e6 q.symm)⟩, fun g q => (hc.block g (Array.getElem?_eq_some_iff.1 (h.ru g q)).1 (own_nem h3.map (h.ru g q))).trans (h.ru g q), h.lo, h.ne⟩
theorem Ful.putSt (h : Ful K w0 x d p os w) {f : List UInt8 → Option Int} (hm : ∃ n, n ≤ K + 1 ∧ St d.ms n f w') (hc : Chg (fun b => b = d.ms) w w') : Ful (K + 1) w0 x d { p with st := f } os w' := by
  obtain ⟨n1, k1, D, h1⟩ := h.st
  obtain ⟨n2, k2, h2⟩ := h.ld
  obtain ⟨n3, k3, h3⟩ := h.le
  obtain ⟨n4, k4, h4⟩ := h.nm
  obtain ⟨l1, l2, l3, l4, l5⟩ := h.lo
  obtain ⟨e1, e2, e3, e4, e5, e6⟩ := h.ne
  exact ⟨h.bl.trans (hc.below (fun b q => by rw [q]; exact l2) h.bl.size), (hc.block x h.lt (own_nem h1.map h.blk)).trans h.blk, ownsRow_keptC h.ss hc (row_nem h.ss h1.map), ownsRow_keptC h.rs hc (row_nem h.rs h1.map), h.it, ownsRow_keptC h.os hc (row_nem h.os h1.map), hm, ⟨n2, by omega, h2.next hc (fun q => e1 q.symm)⟩, ⟨n3, by omega, h3.next hc (fun q => e2 q.symm)⟩, ⟨n4, by omega, h4.next hc (fun q => e3 q.symm)⟩, fun g q => (hc.block g (Array.getElem?_eq_some_iff.1 (h.ru g q)).1 (own_nem h1.map (h.ru g q))).trans (h.ru g q), h.lo, h.ne⟩
def cntL (f : Int → Int) (l : List Pe) : Int → Int := l.foldl (fun f q => iPut f q.2.1 (f q.2.1 + 1)) f
def cntP (p : PD) (i : Int) (r : RV) : PD := { p with ld := cntL p.ld r.ps, le := if 0 < r.ld then iPut p.le r.ld (p.le r.ld + 1) else p.le, st := if (p.st r.s).isSome then p.st else sPut p.st r.s i }
theorem cntL_snoc (f : Int → Int) (l : List Pe) (q : Pe) : cntL f (l ++ [q]) = iPut (cntL f l) q.2.1 (cntL f l q.2.1 + 1) := by simp [cntL]
theorem cntL_le (l : List Pe) : ∀ (f : Int → Int) (s : Int), f s ≤ cntL f l s ∧ cntL f l s ≤ f s + l.length := by
  induction l with
  | nil => intro f s; simp [cntL]
  | cons q t ih =>
    intro f s
    have h1 := ih (iPut f q.2.1 (f q.2.1 + 1)) s
    have h2 : cntL f (q :: t) s = cntL (iPut f q.2.1 (f q.2.1 + 1)) t s := rfl
    rw [h2, List.length_cons]
    have h3 : f s ≤ iPut f q.2.1 (f q.2.1 + 1) s ∧ iPut f q.2.1 (f q.2.1 + 1) s ≤ f s + 1 := by
      unfold iPut
      by_cases e : s = q.2.1
      · rw [if_pos e, e]; omega
      · rw [if_neg e]; omega
    omega
set_option maxHeartbeats 4000000 in
theorem count_any (i : Int) (h : Ful K w0 x d p os w) (hr : It9 w0 r) (hdm : ∀ q ∈ r.ps, i64 q.2.1) (hl : r.ps.length ≤ 1099511627000) (hK2 : K + r.ps.length + 2 < 1099511627776) (hld : sm62 p.ld) (hle : sm62 p.le) (hrl : i64 r.ld) :
    Calls Tryz.prog 37 #[.pointer (some ⟨x, 0, none⟩), .int .i64 i, .agg (r9 r)] w fun e w' => (∃ u, e = .returned u) ∧ Ful (K + r.ps.length + 2) w0 x d (cntP p i r) os w' := by
  have hb0 := ob_al w (.cells (r9 r) 42)
  have hk0 := heap_new w (.cells (r9 r) 42)
  have HF0 : Hid (Ful (K + 0) w0 x d { p with ld := cntL p.ld (r.ps.take 0) } os (w.alloc (.cells (r9 r) 42))) := h.below hb0
  have k9 : ∀ (W : World), W.heap[w.heap.size]? = some (.cells (r9 r) 42 (0, 0)) → ∀ (i : Nat) u, (r9 r)[i]? = some u → W.cell? ⟨w.heap.size, i, none⟩ = some u := fun W hW i u hu => by rw [cell_of_row _ _ _ _ _ _ hW]; exact hu
  have K9 : Hid _ := k9
  have HP : Hid (RdPe w0 (.slice r.pa r.ps.length r.pc) r.ps) := hr.p
  have HSS : Hid (Rd w0 (.slice r.sa r.s.length r.sc) r.s) := hr.s
  obtain ⟨-, -, -, h1, h2⟩ := hr.p.shape
  have HDM : Hid _ := hdm
  have m5 : (w.alloc (.cells (r9 r) 42)).cell? ⟨w.heap.size, 5, none⟩ = some (.slice r.pa r.ps.length r.pc) := k9 _ hk0 5 _ rfl
  clear hr h k9 hdm
  simp only [r9] at *
  generalize r.pa = pa at *
  generalize hnn : r.ps.length = n at *
  have HN : Hid (r.ps.length = n) := hnn
  clear hnn
  have HK0 : Hid _ := hk0
  clear hk0
  go_enter Tryz.func37, Tryz.ntmps37
  go_upto_region 1 with fail
  generalize World.alloc w _ = w1 at *
  generalize hb3 : w.heap.size = b3 at *
  go_wp2_with fail
  go_loopw [7, 14] (fun _ i wr => ∃ k : Nat, k ≤ n ∧ i = .int .i64 k ∧ Hid (Ful (K + k) w0 x d { p with ld := cntL p.ld (r.ps.take k) } os wr) ∧ Hid (wr.heap[b3]? = w1.heap[b3]?)) (fun _ i _ => n - (intOf i).toNat)
  case atStart => exact ⟨0, Nat.zero_le _, rfl, HF0.out, rfl⟩
  case round =>
    obtain ⟨k, hk, rfl, HFk, HBk⟩ := hrel
    by_cases hlt : k < n
    · have hlt' : k < r.ps.length := by rw [HN.out]; exact hlt
      have HT : Hid (r.ps.take (k + 1) = r.ps.take k ++ [r.ps[k]]) := by show _ = _; rw [List.take_append_getElem hlt']
      obtain ⟨ao', c', e, _, _, _, h4⟩ := HP.out.below HFk.out.bl (Nat.le_refl _)
      simp only [Value.slice.injEq, true_and] at e
      obtain ⟨rfl, -, rfl⟩ := e
      obtain ⟨a, rfl, hc⟩ := h4 k _ (List.getElem?_eq_getElem hlt')
      clear h4
      obtain ⟨c0, c1, c2⟩ := hc
      have hki : (k : Int) < (n : Int) := by omega
      have hqs : i64 (r.ps[k]).2.1 := HDM.out _ (List.getElem_mem hlt')
      generalize r.ps[k] = e at *
      obtain ⟨e0, e1, e2⟩ := e
      simp only [] at c0 c1 c2 hqs
      have hbx := ob_al wr (.cells #[.int .u64 (e0.toNat : Int), .int .i64 e1, .bool e2] 44)
      have hkx := heap_new wr (.cells #[.int .u64 (e0.toNat : Int), .int .i64 e1, .bool e2] 44)
      have hFx := HFk.out.below hbx
      have hlb : b3 < wr.heap.size := by
        have q : wr.heap[b3]? = some _ := HBk.out.trans HK0.out
        exact (Array.getElem?_eq_some_iff.1 q).1
      have hkbx := (hbx.block b3 hlb).trans HBk.out
      go_upto_region 4 with fail
      generalize World.alloc wr _ = wx at *
      obtain ⟨n0, n1, n2, _⟩ := cells3 hkx
      have m7 : wx.cell? ⟨x, 7, none⟩ = some (.map (some d.ml)) := hFx.pln.at_ rfl
      obtain ⟨n2, kn2, hl2⟩ := hFx.ld
      have hl2d := hl2.below (Below.dN wx 1) (Nat.le_refl _)
      have hlk := hl2d.look (x := e1) hqs
      have hbd := cntL_le (r.ps.take k) p.ld e1
      have hwr : IntKind.i64.wrap (cntL p.ld (r.ps.take k) e1 + 1) = cntL p.ld (r.ps.take k) e1 + 1 := by
        have := hld e1
        have h7 : (r.ps.take k).length ≤ k := by rw [List.length_take]; omega
        have h8 : r.ps.length = n := HN.out
        rw [IntKind.wrap_i64]; omega
      obtain ⟨w4, hr4, hg4, hc4⟩ := hl2d.put (k := e1) hqs (cntL p.ld (r.ps.take k) e1 + 1) (by omega)
      rw [show wx.drewN 1 = wx.drew from rfl] at hr4 hlk
      have hF4 := (hFx.below (Below.dN wx 1)).putLd ⟨n2 + 1, by omega, hg4⟩ hc4
      have HF4 : Hid (Ful (K + (k + 1)) w0 x d { p with ld := cntL p.ld (r.ps.take (k + 1)) } os w4) := by
        show Ful _ _ _ _ _ _ _
        rw [HT.out, cntL_snoc]
        exact hF4
      have HK4 : Hid (w4.heap[b3]? = w1.heap[b3]?) := (hc4.block b3 (Array.getElem?_eq_some_iff.1 (hkbx.trans HK0.out)).1 (by obtain ⟨D, hD⟩ := hl2; exact own_nem hD.map (hkbx.trans HK0.out))).trans hkbx
      clear hF4 hg4 hc4 hl2 hl2d hkbx hFx hbx hbd hkx
      refine wp_region_head 8 (by kernel_rfl) (by kernel_rfl) ?_
      simp only [List.take_succ_cons, List.take_zero]
      iterate 8 still_step
      refine wpStill_nil ?_
      change wpAny _ _ _ _ 1 _ _ _
      refine wpAny_ready (rs := [8]) (by kernel_rfl) (by simp) ?_
      refine AllReady.cons rfl (fun K8 hK8 => ?_) AllReady.nil
      go_simp
      go_simp
      refine hK8 _ _ ?_
      clear hK8 K8
      refine wpAny_done (by kernel_rfl) ?_ _
      go_simp
      go_wp2_with fail
      exact ⟨⟨k + 1, by omega, by go_num, HF4, HK4⟩, by simp [intOf]; omega⟩
    · have HFE : Hid (Ful (K + n) w0 x d { p with ld := cntL p.ld r.ps } os wr) := by
        have h8 : r.ps.length = n := HN.out
        have h9 : k = n := by omega
        have := HFk.out
        rw [h9, List.take_of_length_le (by omega)] at this
        exact this
      have g6 : wr.cell? ⟨b3, 6, none⟩ = some (.int .i64 r.ld) := K9.out wr (HBk.out.trans HK0.out) 6 _ rfl
      by_cases h0 : 0 < r.ld
      · have v7 : wr.cell? ⟨x, 8, none⟩ = some (.map (some d.md)) := HFE.out.pln.at_ rfl
        obtain ⟨n2, kn2, hl2⟩ := HFE.out.le
        have hl2d := hl2.below (Below.dN wr 1) (Nat.le_refl _)
        have hlkL := hl2d.look (x := r.ld) hrl
        have hwr : IntKind.i64.wrap (p.le r.ld + 1) = p.le r.ld + 1 := by have := hle r.ld; rw [IntKind.wrap_i64]; omega
        obtain ⟨w4, hr4, hg4, hc4⟩ := hl2d.put (k := r.ld) hrl (p.le r.ld + 1) (by omega)
        rw [show wr.drewN 1 = wr.drew from rfl] at hr4 hlkL
        have HF4 : Hid _ := (HFE.out.below (Below.dN wr 1)).putLe ⟨n2 + 1, by omega, hg4⟩ hc4
        have HK4 : Hid (w4.heap[b3]? = w1.heap[b3]?) := (hc4.block b3 (Array.getElem?_eq_some_iff.1 (HBk.out.trans HK0.out)).1 (by obtain ⟨D, hD⟩ := hl2; exact own_nem hD.map (HBk.out.trans HK0.out))).trans HBk.out
        clear hg4 hc4 hl2 hl2d
        go_upto_region 7 with fail
        refine wp_region_head 8 (by kernel_rfl) (by kernel_rfl) ?_
        simp only [List.take_succ_cons, List.take_zero]
        iterate 8 still_step
        refine wpStill_nil ?_
        change wpAny _ _ _ _ 1 _ _ _
        refine wpAny_ready (rs := [8]) (by kernel_rfl) (by simp) ?_
        refine AllReady.cons rfl (fun K8 hK8 => ?_) AllReady.nil
        go_simp
        go_simp
        refine hK8 _ _ ?_
        clear hK8 K8
        refine wpAny_done (by kernel_rfl) ?_ _
        go_simp
        clear hr4 hlkL v7 g6
        have hsl : r.s.length ≤ maxLen := HSS.out.len
        have y1 : w4.cell? ⟨b3, 1, none⟩ = some (.slice r.sa r.s.length r.sc) := K9.out w4 (HK4.out.trans HK0.out) 1 _ rfl
        have y6 : w4.cell? ⟨x, 6, none⟩ = some (.map (some d.ms)) := HF4.out.pln.at_ rfl
        have hF1 := HF4.out.below (Below.dN w4 1)
        have hF2 := hF1.below (Below.dN _ 1)
        have hcv := conv_rd (HSS.out.below hF1.bl (Nat.le_refl _))
        have hcv2 := conv_rd (HSS.out.below hF2.bl (Nat.le_refl _))
        obtain ⟨n1, kn1, hs1⟩ := hF1.st
        have hs2 := hs1.below (Below.dN _ 1) (Nat.le_refl _)
        have hlk := hs1.look ⟨r.s.toArray⟩ (by show r.s.toArray.size ≤ _; simpa using hsl)
        obtain ⟨w6, hr6, hg6, hc6⟩ := hs2.put ⟨r.s.toArray⟩ (by show r.s.toArray.size ≤ _; simpa using hsl) i (by omega)
        rw [show World.drewN w4 1 = w4.drew from rfl] at hcv hlk hcv2 hr6
        rw [show World.drewN w4.drew 1 = w4.drew.drew from rfl] at hcv2 hr6
        have hF6 := hF2.putSt ⟨n1 + 1, by omega, hg6⟩ hc6
        simp only [List.toList_toArray] at hlk hF6
        have HX : Hid (∀ V, Below w4.heap.size w4 V → V.cell? ⟨x, 6, none⟩ = some (.map (some d.ms))) := fun V hV => (HF4.out.below hV).pln.at_ rfl
        have HE : Hid (∀ V, Below w4.heap.size w4 V → V.cell? ⟨b3, 1, none⟩ = some (.slice r.sa r.s.length r.sc)) := fun V hV => K9.out V ((hV.block b3 (Array.getElem?_eq_some_iff.1 (HK4.out.trans HK0.out)).1).trans (HK4.out.trans HK0.out)) 1 _ rfl
        have HCV : Hid (∀ V, Below w4.heap.size w4 V → (convert 35 9 (.slice r.sa r.s.length r.sc)).run Tryz.prog V = .ok (.string ⟨r.s.toArray⟩) V) := fun V hV => conv_rd (HSS.out.below (HF4.out.below hV).bl (Nat.le_refl _))
        have HL0 : ∀ V, Below w4.heap.size w4 V → (Instr.lookup 67 (.map (some d.ms)) (.string ⟨r.s.toArray⟩) true).run Tryz.prog V = .ok (.tuple #[.int .i64 ((p.st r.s).getD 0), .bool (p.st r.s).isSome]) V := fun V hV => by
          obtain ⟨n7, -, hs7⟩ := (HF4.out.below hV).st
          have := hs7.look ⟨r.s.toArray⟩ (by show r.s.toArray.size ≤ _; simpa using hsl)
          simpa using this
        rcases hst : p.st r.s with _ | v0
        · simp only [hst, Option.getD_none, Option.isSome_none] at HL0
          have HL : Hid _ := HL0
          have y6b : w4.drew.cell? ⟨x, 6, none⟩ = some (.map (some d.ms)) := hF1.pln.at_ rfl
          have y1b : w4.drew.cell? ⟨b3, 1, none⟩ = some (.slice r.sa r.s.length r.sc) := HE.out _ (Below.dN w4 1)
          clear HL0 hlk
          have HEND : Hid (Ful (K + n + 2) w0 x d (cntP p i r) os w6) := by
            have h9 := Ful.mono (K' := K + n + 2) hF6 (by omega)
            show Ful _ _ _ _ _ _ _
            simpa [cntP, h0, hst] using h9
          clear hF6 hg6 hc6 hs1 hs2 hF1 hF2
          go_upto_region 8 with fail
          refine wp_region_heldN (S := fun W => Below w4.heap.size w4 W) (L := []) (by kernel_rfl) ?_
          have hS0 : Below w4.heap.size w4 w4.drew := (Below.refl _ _).drew
          generalize w4.drew = wd at *
          refine wpAnyN_take (i := 0) (v := .pointer (some ⟨x, 0, none⟩)) rfl (by kernel_rfl) (by kernel_rfl) (by kernel_rfl) (by kernel_rfl) (fun _ _ _ h => h) (.inl ⟨by kernel_rfl, fun W hW => by kernel_rfl⟩) hS0 ?_
          refine wpAnyN_take (i := 1) (v := .pointer (some ⟨x, 0, none⟩)) rfl (by kernel_rfl) (by kernel_rfl) (by kernel_rfl) (by kernel_rfl) (fun _ _ _ h => h) (.inl ⟨by kernel_rfl, fun W hW => by kernel_rfl⟩) hS0 ?_
          refine wpAnyN_take (i := 2) (v := .pointer (some ⟨x, 6, none⟩)) rfl (by kernel_rfl) (by kernel_rfl) (by kernel_rfl) (by kernel_rfl) (fun _ _ _ h => h) (.inl ⟨by kernel_rfl, fun W hW => by kernel_rfl⟩) hS0 ?_
          refine wpAnyN_take (i := 3) (v := .map (some d.ms)) rfl (by kernel_rfl) (by kernel_rfl) (by kernel_rfl) (by kernel_rfl) (fun _ _ _ h => h) (.inl ⟨by kernel_rfl, fun W hW => by have c := HX.out W hW; go_simp⟩) hS0 ?_
          refine wpAnyN_take (i := 4) (v := .pointer (some ⟨b3, 0, none⟩)) rfl (by kernel_rfl) (by kernel_rfl) (by kernel_rfl) (by kernel_rfl) (fun _ _ _ h => h) (.inl ⟨by kernel_rfl, fun W hW => by kernel_rfl⟩) hS0 ?_
          refine wpAnyN_take (i := 5) (v := .pointer (some ⟨b3, 1, none⟩)) rfl (by kernel_rfl) (by kernel_rfl) (by kernel_rfl) (by kernel_rfl) (fun _ _ _ h => h) (.inl ⟨by kernel_rfl, fun W hW => by kernel_rfl⟩) hS0 ?_
          refine wpAnyN_take (i := 6) (v := .slice r.sa r.s.length r.sc) rfl (by kernel_rfl) (by kernel_rfl) (by kernel_rfl) (by kernel_rfl) (fun _ _ _ h => h) (.inl ⟨by kernel_rfl, fun W hW => by have c := HE.out W hW; go_simp⟩) hS0 ?_
          refine wpAnyN_take (i := 7) (v := .string ⟨r.s.toArray⟩) rfl (by kernel_rfl) (by kernel_rfl) (by kernel_rfl) (by kernel_rfl) (fun _ _ _ h => h) (.inl ⟨by kernel_rfl, fun W hW => by have c := HCV.out W hW; go_simp⟩) hS0 ?_
          refine wpAnyN_take (i := 8) (v := .tuple #[.int .i64 0, .bool false]) rfl (by kernel_rfl) (by kernel_rfl) (by kernel_rfl) (by kernel_rfl) (fun _ _ _ h => h) (.inl ⟨by kernel_rfl, fun W hW => by have c := HL.out W hW; go_simp⟩) hS0 ?_
          refine wpAnyN_take (i := 9) (v := .tuple #[.int .i64 0, .bool false]) rfl (by kernel_rfl) (by kernel_rfl) (by kernel_rfl) (by kernel_rfl) (fun _ _ _ h => h) (.inl ⟨by kernel_rfl, fun W hW => by kernel_rfl⟩) hS0 ?_
          refine wpAnyN_take (i := 10) (v := .int .i64 0) rfl (by kernel_rfl) (by kernel_rfl) (by kernel_rfl) (by kernel_rfl) (fun _ _ _ h => h) (.inl ⟨by kernel_rfl, fun W hW => by kernel_rfl⟩) hS0 ?_
          refine wpAnyN_take (i := 11) (v := .bool false) rfl (by kernel_rfl) (by kernel_rfl) (by kernel_rfl) (by kernel_rfl) (fun _ _ _ h => h) (.inl ⟨by kernel_rfl, fun W hW => by kernel_rfl⟩) hS0 ?_
          refine wpAnyN_one (i := 12) (by kernel_rfl) rfl (fun K8 hK8 => ?_)
          rw [if_pos (by kernel_rfl)]
          go_simp
          refine hK8 _ _ (fun _ => hS0) ?_
          clear hK8 K8
          refine wpAnyN_one (i := 13) (by kernel_rfl) rfl (fun K8 hK8 => ?_)
          rw [if_pos (by kernel_rfl)]
          go_simp
          refine hK8 _ _ (fun _ => hS0) ?_
          clear hK8 K8
          refine ⟨by kernel_rfl, ?_⟩
          go_simp
          go_wp2_with fail
          refine wp_region_head 9 (by kernel_rfl) (by kernel_rfl) ?_
          simp only [List.take_succ_cons, List.take_zero]
          iterate 9 still_step
          refine wpStill_nil ?_
          change wpAny _ _ _ _ 1 _ _ _
          refine wpAny_ready (rs := [9]) (by kernel_rfl) (by simp) ?_
          refine AllReady.cons rfl (fun K8 hK8 => ?_) AllReady.nil
          go_simp
          go_simp
          refine hK8 _ _ ?_
          clear hK8 K8
          refine wpAny_done (by kernel_rfl) ?_ _
          go_simp
          go_wp2_with fail
          go_end0
          exact ⟨⟨_, rfl⟩, HEND.out⟩
        · simp only [hst, Option.getD_some, Option.isSome_some] at HL0
          have HL : Hid _ := HL0
          clear HL0 hlk
          have HEND : Hid (Ful (K + n + 2) w0 x d (cntP p i r) os w4.drew) := by
            have h9 := Ful.mono (K' := K + n + 2) hF1 (by omega)
            show Ful _ _ _ _ _ _ _
            rw [show World.drewN w4 1 = w4.drew from rfl] at h9
            simpa [cntP, h0, hst] using h9
          clear hF6 hg6 hc6 hs1 hs2 hF1 hF2 hr6 hcv2
          go_upto_region 8 with fail
          refine wp_region_heldN (S := fun W => Below w4.heap.size w4 W) (L := []) (by kernel_rfl) ?_
          have hS0 : Below w4.heap.size w4 w4.drew := (Below.refl _ _).drew
          generalize w4.drew = wd at *
          refine wpAnyN_take (i := 0) (v := .pointer (some ⟨x, 0, none⟩)) rfl (by kernel_rfl) (by kernel_rfl) (by kernel_rfl) (by kernel_rfl) (fun _ _ _ h => h) (.inl ⟨by kernel_rfl, fun W hW => by kernel_rfl⟩) hS0 ?_
          refine wpAnyN_take (i := 1) (v := .pointer (some ⟨x, 0, none⟩)) rfl (by kernel_rfl) (by kernel_rfl) (by kernel_rfl) (by kernel_rfl) (fun _ _ _ h => h) (.inl ⟨by kernel_rfl, fun W hW => by kernel_rfl⟩) hS0 ?_
          refine wpAnyN_take (i := 2) (v := .pointer (some ⟨x, 6, none⟩)) rfl (by kernel_rfl) (by kernel_rfl) (by kernel_rfl) (by kernel_rfl) (fun _ _ _ h => h) (.inl ⟨by kernel_rfl, fun W hW => by kernel_rfl⟩) hS0 ?_
          refine wpAnyN_take (i := 3) (v := .map (some d.ms)) rfl (by kernel_rfl) (by kernel_rfl) (by kernel_rfl) (by kernel_rfl) (fun _ _ _ h => h) (.inl ⟨by kernel_rfl, fun W hW => by have c := HX.out W hW; go_simp⟩) hS0 ?_
          refine wpAnyN_take (i := 4) (v := .pointer (some ⟨b3, 0, none⟩)) rfl (by kernel_rfl) (by kernel_rfl) (by kernel_rfl) (by kernel_rfl) (fun _ _ _ h => h) (.inl ⟨by kernel_rfl, fun W hW => by kernel_rfl⟩) hS0 ?_
          refine wpAnyN_take (i := 5) (v := .pointer (some ⟨b3, 1, none⟩)) rfl (by kernel_rfl) (by kernel_rfl) (by kernel_rfl) (by kernel_rfl) (fun _ _ _ h => h) (.inl ⟨by kernel_rfl, fun W hW => by kernel_rfl⟩) hS0 ?_
          refine wpAnyN_take (i := 6) (v := .slice r.sa r.s.length r.sc) rfl (by kernel_rfl) (by kernel_rfl) (by kernel_rfl) (by kernel_rfl) (fun _ _ _ h => h) (.inl ⟨by kernel_rfl, fun W hW => by have c := HE.out W hW; go_simp⟩) hS0 ?_
          refine wpAnyN_take (i := 7) (v := .string ⟨r.s.toArray⟩) rfl (by kernel_rfl) (by kernel_rfl) (by kernel_rfl) (by kernel_rfl) (fun _ _ _ h => h) (.inl ⟨by kernel_rfl, fun W hW => by have c := HCV.out W hW; go_simp⟩) hS0 ?_
          refine wpAnyN_take (i := 8) (v := .tuple #[.int .i64 v0, .bool true]) rfl (by kernel_rfl) (by kernel_rfl) (by kernel_rfl) (by kernel_rfl) (fun _ _ _ h => h) (.inl ⟨by kernel_rfl, fun W hW => by have c := HL.out W hW; go_simp⟩) hS0 ?_
          refine wpAnyN_take (i := 9) (v := .tuple #[.int .i64 v0, .bool true]) rfl (by kernel_rfl) (by kernel_rfl) (by kernel_rfl) (by kernel_rfl) (fun _ _ _ h => h) (.inl ⟨by kernel_rfl, fun W hW => by kernel_rfl⟩) hS0 ?_
          refine wpAnyN_take (i := 10) (v := .int .i64 v0) rfl (by kernel_rfl) (by kernel_rfl) (by kernel_rfl) (by kernel_rfl) (fun _ _ _ h => h) (.inl ⟨by kernel_rfl, fun W hW => by kernel_rfl⟩) hS0 ?_
          refine wpAnyN_take (i := 11) (v := .bool true) rfl (by kernel_rfl) (by kernel_rfl) (by kernel_rfl) (by kernel_rfl) (fun _ _ _ h => h) (.inl ⟨by kernel_rfl, fun W hW => by kernel_rfl⟩) hS0 ?_
          refine wpAnyN_one (i := 12) (by kernel_rfl) rfl (fun K8 hK8 => ?_)
          rw [if_pos (by kernel_rfl)]
          go_simp
          refine hK8 _ _ (fun _ => hS0) ?_
          clear hK8 K8
          refine wpAnyN_one (i := 13) (by kernel_rfl) rfl (fun K8 hK8 => ?_)
          rw [if_pos (by kernel_rfl)]
          go_simp
          refine hK8 _ _ (fun _ => hS0) ?_
          clear hK8 K8
          refine ⟨by kernel_rfl, ?_⟩
          go_simp
          go_wp2_with fail
          go_end0
          exact ⟨⟨_, rfl⟩, HEND.out⟩
      · have hsl : r.s.length ≤ maxLen := HSS.out.len
        have y1 : wr.cell? ⟨b3, 1, none⟩ = some (.slice r.sa r.s.length r.sc) := K9.out wr (HBk.out.trans HK0.out) 1 _ rfl
        have y6 : wr.cell? ⟨x, 6, none⟩ = some (.map (some d.ms)) := HFE.out.pln.at_ rfl
        have hF1 := HFE.out.below (Below.dN wr 1)
        have hF2 := hF1.below (Below.dN _ 1)
        have hcv := conv_rd (HSS.out.below hF1.bl (Nat.le_refl _))
        have hcv2 := conv_rd (HSS.out.below hF2.bl (Nat.le_refl _))
        obtain ⟨n1, kn1, hs1⟩ := hF1.st
        have hs2 := hs1.below (Below.dN _ 1) (Nat.le_refl _)
        have hlk := hs1.look ⟨r.s.toArray⟩ (by show r.s.toArray.size ≤ _; simpa using hsl)
        obtain ⟨w6, hr6, hg6, hc6⟩ := hs2.put ⟨r.s.toArray⟩ (by show r.s.toArray.size ≤ _; simpa using hsl) i (by omega)
        rw [show World.drewN wr 1 = wr.drew from rfl] at hcv hlk hcv2 hr6
        rw [show World.drewN wr.drew 1 = wr.drew.drew from rfl] at hcv2 hr6
        have hF6 := hF2.putSt ⟨n1 + 1, by omega, hg6⟩ hc6
        simp only [List.toList_toArray] at hlk hF6
        have HX : Hid (∀ V, Below wr.heap.size wr V → V.cell? ⟨x, 6, none⟩ = some (.map (some d.ms))) := fun V hV => (HFE.out.below hV).pln.at_ rfl
        have HE : Hid (∀ V, Below wr.heap.size wr V → V.cell? ⟨b3, 1, none⟩ = some (.slice r.sa r.s.length r.sc)) := fun V hV => K9.out V ((hV.block b3 (Array.getElem?_eq_some_iff.1 (HBk.out.trans HK0.out)).1).trans (HBk.out.trans HK0.out)) 1 _ rfl
        have HCV : Hid (∀ V, Below wr.heap.size wr V → (convert 35 9 (.slice r.sa r.s.length r.sc)).run Tryz.prog V = .ok (.string ⟨r.s.toArray⟩) V) := fun V hV => conv_rd (HSS.out.below (HFE.out.below hV).bl (Nat.le_refl _))
        have HL0 : ∀ V, Below wr.heap.size wr V → (Instr.lookup 67 (.map (some d.ms)) (.string ⟨r.s.toArray⟩) true).run Tryz.prog V = .ok (.tuple #[.int .i64 ((p.st r.s).getD 0), .bool (p.st r.s).isSome]) V := fun V hV => by
          obtain ⟨n7, -, hs7⟩ := (HFE.out.below hV).st
          have := hs7.look ⟨r.s.toArray⟩ (by show r.s.toArray.size ≤ _; simpa using hsl)
          simpa using this
        rcases hst : p.st r.s with _ | v0
        · simp only [hst, Option.getD_none, Option.isSome_none] at HL0
          have HL : Hid _ := HL0
          have y6b : wr.drew.cell? ⟨x, 6, none⟩ = some (.map (some d.ms)) := hF1.pln.at_ rfl
          have y1b : wr.drew.cell? ⟨b3, 1, none⟩ = some (.slice r.sa r.s.length r.sc) := HE.out _ (Below.dN wr 1)
          clear HL0 hlk
          have HEND : Hid (Ful (K + n + 2) w0 x d (cntP p i r) os w6) := by
            have h9 := Ful.mono (K' := K + n + 2) hF6 (by omega)
            show Ful _ _ _ _ _ _ _
            simpa [cntP, h0, hst] using h9
          clear hF6 hg6 hc6 hs1 hs2 hF1 hF2
          go_upto_region 8 with fail
          refine wp_region_heldN (S := fun W => Below wr.heap.size wr W) (L := []) (by kernel_rfl) ?_
          have hS0 : Below wr.heap.size wr wr.drew := (Below.refl _ _).drew
          generalize wr.drew = wd at *
          refine wpAnyN_take (i := 0) (v := .pointer (some ⟨x, 0, none⟩)) rfl (by kernel_rfl) (by kernel_rfl) (by kernel_rfl) (by kernel_rfl) (fun _ _ _ h => h) (.inl ⟨by kernel_rfl, fun W hW => by kernel_rfl⟩) hS0 ?_
          refine wpAnyN_take (i := 1) (v := .pointer (some ⟨x, 0, none⟩)) rfl (by kernel_rfl) (by kernel_rfl) (by kernel_rfl) (by kernel_rfl) (fun _ _ _ h => h) (.inl ⟨by kernel_rfl, fun W hW => by kernel_rfl⟩) hS0 ?_
          refine wpAnyN_take (i := 2) (v := .pointer (some ⟨x, 6, none⟩)) rfl (by kernel_rfl) (by kernel_rfl) (by kernel_rfl) (by kernel_rfl) (fun _ _ _ h => h) (.inl ⟨by kernel_rfl, fun W hW => by kernel_rfl⟩) hS0 ?_
          refine wpAnyN_take (i := 3) (v := .map (some d.ms)) rfl (by kernel_rfl) (by kernel_rfl) (by kernel_rfl) (by kernel_rfl) (fun _ _ _ h => h) (.inl ⟨by kernel_rfl, fun W hW => by have c := HX.out W hW; go_simp⟩) hS0 ?_
          refine wpAnyN_take (i := 4) (v := .pointer (some ⟨b3, 0, none⟩)) rfl (by kernel_rfl) (by kernel_rfl) (by kernel_rfl) (by kernel_rfl) (fun _ _ _ h => h) (.inl ⟨by kernel_rfl, fun W hW => by kernel_rfl⟩) hS0 ?_
          refine wpAnyN_take (i := 5) (v := .pointer (some ⟨b3, 1, none⟩)) rfl (by kernel_rfl) (by kernel_rfl) (by kernel_rfl) (by kernel_rfl) (fun _ _ _ h => h) (.inl ⟨by kernel_rfl, fun W hW => by kernel_rfl⟩) hS0 ?_
          refine wpAnyN_take (i := 6) (v := .slice r.sa r.s.length r.sc) rfl (by kernel_rfl) (by kernel_rfl) (by kernel_rfl) (by kernel_rfl) (fun _ _ _ h => h) (.inl ⟨by kernel_rfl, fun W hW => by have c := HE.out W hW; go_simp⟩) hS0 ?_
          refine wpAnyN_take (i := 7) (v := .string ⟨r.s.toArray⟩) rfl (by kernel_rfl) (by kernel_rfl) (by kernel_rfl) (by kernel_rfl) (fun _ _ _ h => h) (.inl ⟨by kernel_rfl, fun W hW => by have c := HCV.out W hW; go_simp⟩) hS0 ?_
          refine wpAnyN_take (i := 8) (v := .tuple #[.int .i64 0, .bool false]) rfl (by kernel_rfl) (by kernel_rfl) (by kernel_rfl) (by kernel_rfl) (fun _ _ _ h => h) (.inl ⟨by kernel_rfl, fun W hW => by have c := HL.out W hW; go_simp⟩) hS0 ?_
          refine wpAnyN_take (i := 9) (v := .tuple #[.int .i64 0, .bool false]) rfl (by kernel_rfl) (by kernel_rfl) (by kernel_rfl) (by kernel_rfl) (fun _ _ _ h => h) (.inl ⟨by kernel_rfl, fun W hW => by kernel_rfl⟩) hS0 ?_
          refine wpAnyN_take (i := 10) (v := .int .i64 0) rfl (by kernel_rfl) (by kernel_rfl) (by kernel_rfl) (by kernel_rfl) (fun _ _ _ h => h) (.inl ⟨by kernel_rfl, fun W hW => by kernel_rfl⟩) hS0 ?_
          refine wpAnyN_take (i := 11) (v := .bool false) rfl (by kernel_rfl) (by kernel_rfl) (by kernel_rfl) (by kernel_rfl) (fun _ _ _ h => h) (.inl ⟨by kernel_rfl, fun W hW => by kernel_rfl⟩) hS0 ?_
          refine wpAnyN_one (i := 12) (by kernel_rfl) rfl (fun K8 hK8 => ?_)
          rw [if_pos (by kernel_rfl)]
          go_simp
          refine hK8 _ _ (fun _ => hS0) ?_
          clear hK8 K8
          refine wpAnyN_one (i := 13) (by kernel_rfl) rfl (fun K8 hK8 => ?_)
          rw [if_pos (by kernel_rfl)]
          go_simp
          refine hK8 _ _ (fun _ => hS0) ?_
          clear hK8 K8
          refine ⟨by kernel_rfl, ?_⟩
          go_simp
          go_wp2_with fail
          refine wp_region_head 9 (by kernel_rfl) (by kernel_rfl) ?_
          simp only [List.take_succ_cons, List.take_zero]
          iterate 9 still_step
          refine wpStill_nil ?_
          change wpAny _ _ _ _ 1 _ _ _
          refine wpAny_ready (rs := [9]) (by kernel_rfl) (by simp) ?_
          refine AllReady.cons rfl (fun K8 hK8 => ?_) AllReady.nil
          go_simp
          go_simp
          refine hK8 _ _ ?_
          clear hK8 K8
          refine wpAny_done (by kernel_rfl) ?_ _
          go_simp
          go_wp2_with fail
          go_end0
          exact ⟨⟨_, rfl⟩, HEND.out⟩
        · simp only [hst, Option.getD_some, Option.isSome_some] at HL0
          have HL : Hid _ := HL0
          clear HL0 hlk
          have HEND : Hid (Ful (K + n + 2) w0 x d (cntP p i r) os wr.drew) := by
            have h9 := Ful.mono (K' := K + n + 2) hF1 (by omega)
            show Ful _ _ _ _ _ _ _
            rw [show World.drewN wr 1 = wr.drew from rfl] at h9
            simpa [cntP, h0, hst] using h9
          clear hF6 hg6 hc6 hs1 hs2 hF1 hF2 hr6 hcv2
          go_upto_region 8 with fail
          refine wp_region_heldN (S := fun W => Below wr.heap.size wr W) (L := []) (by kernel_rfl) ?_
          have hS0 : Below wr.heap.size wr wr.drew := (Below.refl _ _).drew
          generalize wr.drew = wd at *
          refine wpAnyN_take (i := 0) (v := .pointer (some ⟨x, 0, none⟩)) rfl (by kernel_rfl) (by kernel_rfl) (by kernel_rfl) (by kernel_rfl) (fun _ _ _ h => h) (.inl ⟨by kernel_rfl, fun W hW => by kernel_rfl⟩) hS0 ?_
          refine wpAnyN_take (i := 1) (v := .pointer (some ⟨x, 0, none⟩)) rfl (by kernel_rfl) (by kernel_rfl) (by kernel_rfl) (by kernel_rfl) (fun _ _ _ h => h) (.inl ⟨by kernel_rfl, fun W hW => by kernel_rfl⟩) hS0 ?_
          refine wpAnyN_take (i := 2) (v := .pointer (some ⟨x, 6, none⟩)) rfl (by kernel_rfl) (by kernel_rfl) (by kernel_rfl) (by kernel_rfl) (fun _ _ _ h => h) (.inl ⟨by kernel_rfl, fun W hW => by kernel_rfl⟩) hS0 ?_
          refine wpAnyN_take (i := 3) (v := .map (some d.ms)) rfl (by kernel_rfl) (by kernel_rfl) (by kernel_rfl) (by kernel_rfl) (fun _ _ _ h => h) (.inl ⟨by kernel_rfl, fun W hW => by have c := HX.out W hW; go_simp⟩) hS0 ?_
          refine wpAnyN_take (i := 4) (v := .pointer (some ⟨b3, 0, none⟩)) rfl (by kernel_rfl) (by kernel_rfl) (by kernel_rfl) (by kernel_rfl) (fun _ _ _ h => h) (.inl ⟨by kernel_rfl, fun W hW => by kernel_rfl⟩) hS0 ?_
          refine wpAnyN_take (i := 5) (v := .pointer (some ⟨b3, 1, none⟩)) rfl (by kernel_rfl) (by kernel_rfl) (by kernel_rfl) (by kernel_rfl) (fun _ _ _ h => h) (.inl ⟨by kernel_rfl, fun W hW => by kernel_rfl⟩) hS0 ?_
          refine wpAnyN_take (i := 6) (v := .slice r.sa r.s.length r.sc) rfl (by kernel_rfl) (by kernel_rfl) (by kernel_rfl) (by kernel_rfl) (fun _ _ _ h => h) (.inl ⟨by kernel_rfl, fun W hW => by have c := HE.out W hW; go_simp⟩) hS0 ?_
          refine wpAnyN_take (i := 7) (v := .string ⟨r.s.toArray⟩) rfl (by kernel_rfl) (by kernel_rfl) (by kernel_rfl) (by kernel_rfl) (fun _ _ _ h => h) (.inl ⟨by kernel_rfl, fun W hW => by have c := HCV.out W hW; go_simp⟩) hS0 ?_
          refine wpAnyN_take (i := 8) (v := .tuple #[.int .i64 v0, .bool true]) rfl (by kernel_rfl) (by kernel_rfl) (by kernel_rfl) (by kernel_rfl) (fun _ _ _ h => h) (.inl ⟨by kernel_rfl, fun W hW => by have c := HL.out W hW; go_simp⟩) hS0 ?_
          refine wpAnyN_take (i := 9) (v := .tuple #[.int .i64 v0, .bool true]) rfl (by kernel_rfl) (by kernel_rfl) (by kernel_rfl) (by kernel_rfl) (fun _ _ _ h => h) (.inl ⟨by kernel_rfl, fun W hW => by kernel_rfl⟩) hS0 ?_
          refine wpAnyN_take (i := 10) (v := .int .i64 v0) rfl (by kernel_rfl) (by kernel_rfl) (by kernel_rfl) (by kernel_rfl) (fun _ _ _ h => h) (.inl ⟨by kernel_rfl, fun W hW => by kernel_rfl⟩) hS0 ?_
          refine wpAnyN_take (i := 11) (v := .bool true) rfl (by kernel_rfl) (by kernel_rfl) (by kernel_rfl) (by kernel_rfl) (fun _ _ _ h => h) (.inl ⟨by kernel_rfl, fun W hW => by kernel_rfl⟩) hS0 ?_
          refine wpAnyN_one (i := 12) (by kernel_rfl) rfl (fun K8 hK8 => ?_)
          rw [if_pos (by kernel_rfl)]
          go_simp
          refine hK8 _ _ (fun _ => hS0) ?_
          clear hK8 K8
          refine wpAnyN_one (i := 13) (by kernel_rfl) rfl (fun K8 hK8 => ?_)
          rw [if_pos (by kernel_rfl)]
          go_simp
          refine hK8 _ _ (fun _ => hS0) ?_
          clear hK8 K8
          refine ⟨by kernel_rfl, ?_⟩
          go_simp
          go_wp2_with fail
          go_end0
          exact ⟨⟨_, rfl⟩, HEND.out⟩
end
end Go.Proofs.YtedfjacmaidhkaaGreat
