/- sched.first: of some peers the one that is ahead of all others. -/
import Derived.Test.YtedfjacmaidhkaaGreatG16
import Derived.Laws.EntriesVeiled
import Derived.Deep.Cut
namespace Go.Proofs.YtedfjacmaidhkaaGreat
open Go.RowKit
set_option linter.unusedVariables false
set_option linter.unusedSimpArgs false
set_option maxRecDepth 100000

/-- What first answers: there is none; or one that none is ahead of. -/
def FirstP (lt : Pe → Pe → Bool) (ps : List Pe) (r : Pe × Bool) : Prop := (ps = [] ∧ r = (noPe, false)) ∨ (r.2 = true ∧ r.1 ∈ ps ∧ ∀ q ∈ ps, lt q r.1 = false)
/-- .. where no two are alike there is one answer. -/
theorem FirstP.det {lt : Pe → Pe → Bool} {ps : List Pe} {r s : Pe × Bool} (h : FirstP lt ps r) (k : FirstP lt ps s) (ht : ∀ a ∈ ps, ∀ b ∈ ps, lt a b = false → lt b a = false → a = b) : r = s := by
  rcases h with ⟨h1, h2⟩ | ⟨h1, h2, h3⟩ <;> rcases k with ⟨k1, k2⟩ | ⟨k1, k2, k3⟩
  · rw [h2, k2]
  · subst h1; cases k2
  · subst k1; cases h2
  · exact Prod.ext (ht _ h2 _ k2 (k3 _ h2) (h3 _ k2)) (h1.trans k1.symm)
set_option maxHeartbeats 2000000 in
theorem first_any {lt : Pe → Pe → Bool} (hO : Ord3 lt) {v f : Value} {ps : List Pe} {w : World} (hr : RdPe w v ps) (hA : Ahead w f lt) (hdm : ∀ e ∈ ps, i64 e.2.1) (hl : ps.length ≤ 1099511627000) :
    Calls Tryz.prog 61 #[v, f] w fun e w' => ∃ r : Pe × Bool, e = .returned (.tuple #[peV r.1, .bool r.2]) ∧ FirstP lt ps r ∧ Below w.heap.size w w' := by
  have HR : Hid (RdPe w v ps) := hr
  obtain ⟨ao, c, rfl, h1, h2⟩ := hr.shape
  have hF : ∃ F caps, f = .func (.func F) caps #[] := by obtain ⟨F, caps, ⟨e, _⟩, _⟩ := hA; exact ⟨F, caps, e⟩
  obtain ⟨F, caps, rfl⟩ := hF
  have hz0 : (w.alloc (.cells #[.int .u64 0, .int .i64 0, .bool false] 44)).heap.size = w.heap.size + 1 := by simp
  have hb0 := h_al w (.cells #[.int .u64 0, .int .i64 0, .bool false] 44)
  have hA0 := hA.below hb0
  have hk0 := heap_new w (.cells #[.int .u64 0, .int .i64 0, .bool false] 44)
  have HR0 : Hid (RdPe (w.alloc (.cells #[.int .u64 0, .int .i64 0, .bool false] 44)) (.slice ao ps.length c) ps) := hr.below hb0 (Nat.le_refl _)
  clear hr hA
  go_enter Tryz.func61, Tryz.ntmps61
  go_upto_region 1 with fail
  generalize hW0 : World.alloc w _ = w0 at *
  clear hW0
  have hQ0 : Qu (w.heap.size + 1) (w.heap.size + 1) (.func (.func F) caps #[]) (none, 0, 0) (w0.alloc (.cells #[.slice none 0 0, .func (.func F) caps #[]] 123)) [] := by
    rw [← hz0]
    exact ⟨heap_new w0 _, OwPe.nil _ _, Nat.le_refl _, fun e he => by cases he⟩
  have hB0 := h_al w0 (.cells #[.slice none 0 0, .func (.func F) caps #[]] 123)
  go_upto_region 2 with fail
  generalize World.alloc w0 _ = w1 at *
  have HZ : Hid (w0.heap.size = w.heap.size + 1) := hz0
  have hz1 : w0.heap.size ≤ w.heap.size + 1 := by omega
  have hz2 : w.heap.size < w0.heap.size := by omega
  clear hz0
  go_wp2_with fail
  go_loopw [8, 14] (fun _ i wr => ∃ (k : Nat) (y : Option Addr × Nat × Nat) (H : List Pe), k ≤ ps.length ∧ i = .int .i64 k ∧ Qu (w.heap.size + 1) (w.heap.size + 1) (.func (.func F) caps #[]) y wr H ∧ Hid (M.Hp lt H H.length) ∧ Hid (H.Perm (ps.take k)) ∧ Below w0.heap.size w0 wr) (fun _ i _ => ps.length - (intOf i).toNat)
  case atStart => exact ⟨0, (none, 0, 0), [], Nat.zero_le _, rfl, hQ0, fun i x y h1 h2 => by simp at h2, by rw [List.take_zero]; exact List.Perm.refl _, hB0⟩
  case round =>
    obtain ⟨k, y, H, hk, rfl, hQ, HH, HPm, hb⟩ := hrel
    clear hQ0 hB0
    by_cases hlt : k < ps.length
    · have HI : Hid (ps[k]? = some ps[k]) := List.getElem?_eq_getElem hlt
      have HDM : Hid (i64 ps[k].2.1) := hdm _ (List.getElem_mem hlt)
      have HT : Hid (ps.take (k + 1) = ps.take k ++ [ps[k]]) := by show _ = _; rw [List.take_append_getElem hlt]
      obtain ⟨ao', c', e, _, _, _, h4⟩ := HR0.out.below hb (Nat.le_refl _)
      simp only [Value.slice.injEq, true_and] at e
      obtain ⟨rfl, rfl⟩ := e
      obtain ⟨a, rfl, hc⟩ := h4 k _ (List.getElem?_eq_getElem hlt)
      clear h4
      obtain ⟨c0, c1, c2⟩ := hc
      have hHl : H.length = k := by rw [HPm.out.length_eq, List.length_take]; omega
      have hki : (k : Int) < (ps.length : Int) := by omega
      generalize ps[k] = e at *
      obtain ⟨e0, e1, e2⟩ := e
      simp only [] at c0 c1 c2
      have hbx := h_al wr (.cells #[.int .u64 (e0.toNat : Int), .int .i64 e1, .bool e2] 44)
      have hQ1 := hQ.below hbx (Nat.le_refl _)
      have hb1 : Below w0.heap.size w0 (wr.alloc (.cells #[.int .u64 (e0.toNat : Int), .int .i64 e1, .bool e2] 44)) := hb.trans (hbx.mono hb.size)
      have hpu := hpush_any hO (e0, e1, e2) HDM.out hQ1 hA0 hz1 hb1 HH.out (by rw [hHl]; omega)
      clear hbx hQ hQ1 hb1 hHl
      go_upto_region 5 with fail
      obtain ⟨n0, n1, n2, _⟩ := cells3 (heap_new wr (.cells #[.int .u64 (e0.toNat : Int), .int .i64 e1, .bool e2] 44))
      generalize World.alloc wr _ = wx at *
      go_wp2_with fail
      refine hpu.mono ?_
      rintro r w3 ⟨⟨u, rfl⟩, y3, H3, hQ3, hH3, hP3, hb3⟩
      have HP3 : Hid (H3.Perm (ps.take (k + 1))) := by show H3.Perm _; rw [HT.out]; exact hP3.trans (HPm.out.append_right _)
      clear hpu hP3
      go_wp2_with fail
      exact ⟨⟨k + 1, y3, H3, by omega, by go_num, hQ3, hH3, HP3, hb3⟩, by simp [intOf]; omega⟩
    · have hke : k = ps.length := by omega
      subst hke
      have HPm2 : Hid (H.Perm ps) := by have := HPm.out; rwa [List.take_of_length_le (Nat.le_refl _)] at this
      have hHl : H.length = ps.length := HPm2.out.length_eq
      have hle := qlen_any hQ
      have hkb : wr.heap[w.heap.size]? = some (.cells #[.int .u64 0, .int .i64 0, .bool false] 44 (0, 0)) := (hb.block _ (by omega)).trans hk0
      have HB : Hid (∀ w', Below w0.heap.size w0 w' → Below w.heap.size w w') := fun w' q => hb0.trans (q.mono hb0.size)
      rw [hHl] at hle
      cases hps : ps with
      | nil =>
        subst hps
        simp only [List.length_nil] at *
        clear hQ HR HR0
        go_wp2_with fail
        refine hle.mono ?_
        rintro r w3 ⟨rfl, hb3⟩
        have hkb3 : w3.heap[w.heap.size]? = some (.cells #[.int .u64 0, .int .i64 0, .bool false] 44 (0, 0)) := (hb3.block _ (Array.getElem?_eq_some_iff.1 hkb).1).trans hkb
        obtain ⟨m0, m1, m2, m3⟩ := cells3 hkb3
        have hch := set3_chg w3 w.heap.size (.int .u64 0) (.int .i64 0) (.bool false)
        have hst := set3_block hkb3 (.int .u64 0) (.int .i64 0) (.bool false)
        have HF : Hid (Below w.heap.size w (((w3.setCell ⟨w.heap.size, 0, none⟩ (.int .u64 0)).setCell ⟨w.heap.size, 1, none⟩ (.int .i64 0)).setCell ⟨w.heap.size, 2, none⟩ (.bool false))) := (HB.out _ (hb.trans (hb3.mono hb.size))).trans (hch.below (fun b q => by omega) (HB.out _ (hb.trans (hb3.mono hb.size))).size)
        have f0 := m3 0
        have f1 := m3 1
        have f2 := m3 2
        clear hch m3 hkb hkb3 hle
        go_wp2_with fail
        generalize World.setCell _ ⟨_, 2, none⟩ _ = wz at *
        obtain ⟨k0, k1, k2, _⟩ := cells3 hst
        refine bodyPost_ret (v := .tuple #[.agg #[.int .u64 0, .int .i64 0, .bool false], .bool false]) (by simp [results, Tryz.results61, go_sem, k0, k1, k2]; try rfl) rfl ?_
        exact ⟨(noPe, false), rfl, .inl ⟨rfl, rfl⟩, HF.out⟩
      | cons a0 t0 =>
        have hpos : 0 < ps.length := by rw [hps]; simp
        have HPS : Hid (ps = a0 :: t0) := hps
        clear hps
        obtain ⟨e, he⟩ : ∃ e, H[0]? = some e := ⟨_, List.getElem?_eq_getElem (by omega)⟩
        have HM : Hid (e ∈ ps ∧ ∀ q ∈ ps, lt q e = false) := by
          refine ⟨HPm2.out.mem_iff.1 (List.mem_of_getElem? he), fun q hq => ?_⟩
          obtain ⟨i, hi⟩ := List.getElem?_of_mem (HPm2.out.mem_iff.2 hq)
          exact HH.out.min hO.tr hO.irr he i q (List.getElem?_eq_some_iff.1 hi).1 hi
        have hne : ((ps.length : Int) == 0) = false := by rw [beq_eq_false_iff_ne]; omega
        have HQ : Hid (Qu (w.heap.size + 1) (w.heap.size + 1) (.func (.func F) caps #[]) y wr H) := hQ
        have HE : Hid (H[0]? = some e) := he
        clear hQ he HR HR0
        go_wp2_with fail
        refine hle.mono ?_
        rintro r w3 ⟨rfl, hb3⟩
        have hb03 : Below w0.heap.size w0 w3 := hb.trans (hb3.mono hb.size)
        have hpo := hpop_any hO (HQ.out.below hb3 (Nat.le_refl _)) hA0 hz1 hb03 HH.out HE.out (by omega)
        have hasr : ∀ (W : World) (x y : Int) (z : Bool), (Instr.typeAssert (.iface 44 (.agg #[.int .u64 x, .int .i64 y, .bool z])) 20 44 false).run Tryz.prog W = .ok (.agg #[.int .u64 x, .int .i64 y, .bool z]) W := run_isPe
        clear hle hb03
        go_wp2_with fail
        refine hpo.mono ?_
        rintro r w4 ⟨rfl, hb4⟩
        have hkb4 : w4.heap[w.heap.size]? = some (.cells #[.int .u64 0, .int .i64 0, .bool false] 44 (0, 0)) := (hb4.block _ (by omega)).trans hk0
        obtain ⟨m0, m1, m2, m3⟩ := cells3 hkb4
        obtain ⟨e0, e1, e2⟩ := e
        simp only [] at *
        have hch := set3_chg w4 w.heap.size (.int .u64 (e0.toNat : Int)) (.int .i64 e1) (.bool e2)
        have hst := set3_block hkb4 (.int .u64 (e0.toNat : Int)) (.int .i64 e1) (.bool e2)
        have HF : Hid (Below w.heap.size w (((w4.setCell ⟨w.heap.size, 0, none⟩ (.int .u64 (e0.toNat : Int))).setCell ⟨w.heap.size, 1, none⟩ (.int .i64 e1)).setCell ⟨w.heap.size, 2, none⟩ (.bool e2))) := (HB.out _ hb4).trans (hch.below (fun b q => by omega) (HB.out _ hb4).size)
        have f0 := m3 0
        have f1 := m3 1
        have f2 := m3 2
        clear hch m3 hkb4 hpo
        go_wp2_with fail
        generalize World.setCell _ ⟨_, 2, none⟩ _ = wz at *
        obtain ⟨k0, k1, k2, _⟩ := cells3 hst
        refine bodyPost_ret (v := .tuple #[.agg #[.int .u64 (e0.toNat : Int), .int .i64 e1, .bool e2], .bool true]) (by simp [results, Tryz.results61, go_sem, k0, k1, k2]; try rfl) rfl ?_
        exact ⟨((e0, e1, e2), true), rfl, .inr ⟨rfl, HM.out.1, HM.out.2⟩, HF.out⟩
end Go.Proofs.YtedfjacmaidhkaaGreat
