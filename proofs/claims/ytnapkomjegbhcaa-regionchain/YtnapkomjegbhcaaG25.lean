/- Partition. -/
import Derived.Test.YtnapkomjegbhcaaG23
namespace Go.Proofs.Ytnapkomjegbhcaa
open Go.RowKit
set_option linter.unusedVariables false
set_option maxRecDepth 100000

/-- Does each begin where the one ahead ends, and the last one have no end? -/
def chkP : Nat → List UInt8 → List R3 → Bool
  | _, en, [] => decide (en.length = 0)
  | i, en, r :: q => if (0 < i ∧ en.length = 0) ∨ r.2.1 ≠ en then false else chkP (i + 1) r.2.2 q
set_option maxHeartbeats 2000000 in
theorem partition_any {v : Value} {rs : List R3} {w : World} (hr : RdRs w v rs) (hl : rs.length ≤ 1099511627775) (hne : fullR rs ≠ []) :
    Calls Try.prog 14 #[v] w fun x w' => ∃ q : List R3, q.Perm (fullR rs) ∧ q.Pairwise (fun a b => 0 ≤ M.cmpL b.2.1 a.2.1) ∧ x = .returned (.bool (chkP 0 [] q)) ∧ Below w.heap.size w w' := by
  have hsp := spansOf_any hr hl
  have hfl := fullR_len rs
  have hitw : ∀ r ∈ fullR rs, It w r := fun r hm => by
    obtain ⟨ao, c, _, _, _, h4⟩ := hr
    obtain ⟨i, ei⟩ := List.mem_iff_getElem?.1 (show r ∈ rs by unfold fullR at hm; exact (List.mem_filter.1 hm).1)
    exact (h4 i r ei).1
  obtain ⟨ao, c, rfl, h1, h2, _⟩ := hr
  generalize fullR rs = fs at *
  go_enter Try.func14, Try.ntmps14
  go_wp2_with fail
  refine hsp.mono ?_
  rintro x w1 ⟨v1, rfl, ho1, hb1⟩
  clear hsp
  have hlo : ∀ b, v1.ownBlock = some b → w.heap.size ≤ b := fun b e => (World.ownsRow.lt ho1 b e).1
  have hso := sortS_any ho1 (fun r hm => (hitw r hm).below hb1 (Nat.le_refl _)) (fun r hm b e => ⟨fun q => by
      by_cases hz : r.2.1 = []
      · exact hz
      · have := (hitw r hm).s.blk hz q; have := hlo b e; omega, fun q => by
      by_cases hz : r.2.2 = []
      · exact hz
      · have := (hitw r hm).e.blk hz q; have := hlo b e; omega⟩) hne (by omega)
  clear hitw
  go_wp2_with fail
  refine hso.mono ?_
  rintro x w2 ⟨rfl, q, hqp, hqs, ⟨g, cp, rfl, hc1, hc2, hat⟩, hiq, hch⟩
  have hb2 : Below w.heap.size w w2 := hb1.trans (hch.below (fun b e => hlo b e) hb1.size)
  have hql : q.length = fs.length := hqp.length_eq
  have hf0 : 0 < fs.length := List.length_pos_iff.2 hne
  have HQ : Hid (q.Perm fs ∧ q.Pairwise (fun a b => 0 ≤ M.cmpL b.2.1 a.2.1) ∧ q.length = fs.length) := ⟨hqp, hqs, hql⟩
  have HIT : Hid (∀ r ∈ q, It w2 r) := hiq
  unfold maxLen at hc2
  clear hso ho1 hch hlo hqp hqs hql hiq hb1
  go_wp2_with fail
  go_loopw [4, 5, 6, 13] (fun en _ _ i wr => ∃ (k : Nat) (el : List UInt8), k ≤ fs.length ∧ i = .int .i64 k ∧ Rd wr en el ∧ Hid (chkP 0 [] q = chkP k el (q.drop k)) ∧ Below w2.heap.size w2 wr) (fun _ _ _ i _ => fs.length - (intOf i).toNat)
  case atStart => exact ⟨0, [], Nat.zero_le _, rfl, Rd.nil _, rfl, Below.refl _ _⟩
  case round =>
    obtain ⟨k, el, hk, rfl, hrd, HX, hbr⟩ := hrel
    have hBr : Below w.heap.size w wr := hb2.trans (hbr.mono hb2.size)
    have hel := hrd.len
    unfold maxLen at hel
    by_cases hlt : k < fs.length
    · obtain ⟨r, hrk⟩ : ∃ r, q[k]? = some r := ⟨_, List.getElem?_eq_getElem (by have := HQ.out.2.2; omega)⟩
      have hitr := (HIT.out r (List.mem_of_getElem? hrk)).below hbr (Nat.le_refl _)
      obtain ⟨c0, c1, c2, c3, c4, c5⟩ := ((hat k r hrk).below hbr (Nat.le_refl _)).six
      have HC : Hid (chkP k el (q.drop k) = if (0 < k ∧ el.length = 0) ∨ r.2.1 ≠ el then false else chkP (k + 1) r.2.2 (q.drop (k + 1))) := by
        show _ = _
        obtain ⟨hh, rfl⟩ := List.getElem?_eq_some_iff.1 hrk
        rw [List.drop_eq_getElem_cons hh]; rfl
      have hE := hitr.e
      obtain ⟨ea, ec, e2⟩ := hitr.e.shp
      obtain ⟨sa, sc, e1⟩ := hitr.s.shp
      obtain ⟨pa, pn, pk, e3⟩ := hitr.p
      have heq : ∀ W, Below wr.heap.size wr W → Calls Try.prog 29 #[r.1.2.1, _] W fun x w' => x = .returned (.bool (decide (r.2.1 = el))) ∧ w' = W := fun W hW => bequal_any (hitr.s.below hW (Nat.le_refl _)) (hrd.below hW (Nat.le_refl _))
      obtain ⟨na, nc, e4⟩ := hrd.shp
      obtain ⟨⟨u0, u1, u2, u3, u4, u5⟩, rs0, re0⟩ := r
      simp only [] at e1 e2 e3 c0 c1 c2 c3 c4 c5 HC heq hE
      subst e1
      subst e2
      subst e3
      subst e4
      have hbA : Below wr.heap.size wr (wr.alloc (.cells #[.int .u64 u0, .slice sa rs0.length sc, .slice ea re0.length ec, .int .u64 u3, .int .u64 u4, .slice pa pn pk] 63)) := g_al _ _
      have HE : Hid _ := And.intro hE hrd
      clear hitr hrk hE hrd
      by_cases hk0 : 0 < k ∧ el.length < 1
      · have g0 : (0 : Int) < (k : Int) := by omega
        have HB : Hid (chkP 0 [] q = false) := by show _ = _; rw [HX.out, HC.out, if_pos (.inl ⟨hk0.1, by omega⟩)]
        obtain ⟨hk0a, hk0b⟩ := hk0
        obtain rfl : el = [] := List.length_eq_zero_iff.1 (by omega)
        go_wp2_with fail
        go_ret
        exact ⟨q, HQ.out.1, HQ.out.2.1, by rw [HB.out]; rfl, hBr.alloc hBr.size _⟩
      · have hcase : (k = 0) ∨ (0 < k ∧ ¬ el.length = 0) := by omega
        have heqA := heq _ hbA
        by_cases hse : rs0 = el
        · have HN : Hid (chkP 0 [] q = chkP (k + 1) re0 (q.drop (k + 1))) := by
            show _ = _
            rw [HX.out, HC.out, if_neg (by rintro (r | r); exact hk0 ⟨r.1, by omega⟩; exact r hse)]
          rw [decide_eq_true hse] at heqA
          clear hse hk0
          rcases hcase with hk0 | ⟨hk1, hk2⟩
          · have g0 : ¬ (0 : Int) < (k : Int) := by omega
            clear hk0
            go_wp2_with fail
            refine heqA.mono ?_
            rintro x w5 ⟨rfl, rfl⟩
            go_wp2_with fail
            exact ⟨⟨k + 1, re0, by omega, by go_num, HE.out.1.below hbA (Nat.le_refl _), HN, hbr.trans (hbA.mono hbr.size)⟩, by simp [intOf]; omega⟩
          · have g0 : (0 : Int) < (k : Int) := by omega
            have g1 : ((el.length : Int) == 0) = false := beq_eq_false_iff_ne.2 (show ((el.length : Int)) ≠ 0 by omega)
            have g2 : ¬ (el.length : Int) = 0 := by omega
            go_wp2_with fail
            refine heqA.mono ?_
            rintro x w5 ⟨rfl, rfl⟩
            go_wp2_with fail
            exact ⟨⟨k + 1, re0, by omega, by go_num, HE.out.1.below hbA (Nat.le_refl _), HN, hbr.trans (hbA.mono hbr.size)⟩, by simp [intOf]; omega⟩
        · have HB : Hid (chkP 0 [] q = false) := by show _ = _; rw [HX.out, HC.out, if_pos (.inr hse)]
          rw [decide_eq_false hse] at heqA
          clear hse hk0
          rcases hcase with hk0 | ⟨hk1, hk2⟩
          · have g0 : ¬ (0 : Int) < (k : Int) := by omega
            clear hk0
            go_wp2_with fail
            refine heqA.mono ?_
            rintro x w5 ⟨rfl, rfl⟩
            go_wp2_with fail
            go_ret
            exact ⟨q, HQ.out.1, HQ.out.2.1, by rw [HB.out]; rfl, hBr.alloc hBr.size _⟩
          · have g0 : (0 : Int) < (k : Int) := by omega
            have g1 : ((el.length : Int) == 0) = false := beq_eq_false_iff_ne.2 (show ((el.length : Int)) ≠ 0 by omega)
            have g2 : ¬ (el.length : Int) = 0 := by omega
            go_wp2_with fail
            refine heqA.mono ?_
            rintro x w5 ⟨rfl, rfl⟩
            go_wp2_with fail
            go_ret
            exact ⟨q, HQ.out.1, HQ.out.2.1, by rw [HB.out]; rfl, hBr.alloc hBr.size _⟩
    · obtain rfl : k = fs.length := by omega
      have HN : Hid (chkP 0 [] q = decide (el.length = 0)) := by
        show _ = _
        rw [HX.out, List.drop_of_length_le (by have := HQ.out.2.2; omega)]; rfl
      have g0 : (0 : Int) < (fs.length : Int) := by omega
      obtain ⟨na, nc, e4⟩ := hrd.shp
      subst e4
      by_cases hel0 : el.length < 1
      · obtain rfl : el = [] := List.length_eq_zero_iff.1 (by omega)
        go_wp2_with fail
        go_ret
        exact ⟨q, HQ.out.1, HQ.out.2.1, by rw [HN.out]; rfl, hBr⟩
      · have HM : Hid (chkP 0 [] q = false) := by show _ = _; rw [HN.out]; exact decide_eq_false (by omega)
        have g1 : ((el.length : Int) == 0) = false := beq_eq_false_iff_ne.2 (show ((el.length : Int)) ≠ 0 by omega)
        have g2 : ¬ (el.length : Int) = 0 := by omega
        go_wp2_with fail
        go_ret
        exact ⟨q, HQ.out.1, HQ.out.2.1, by rw [HM.out]; rfl, hBr⟩
end Go.Proofs.Ytnapkomjegbhcaa
