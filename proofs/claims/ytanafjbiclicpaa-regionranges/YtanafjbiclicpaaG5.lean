/- Partition. -/
import Derived.Test.YtanafjbiclicpaaG4
import Derived.Lib.SlBytesConst
import Derived.Test.YtanafjbiclicpaaG2
import Derived.Deep.RegionHeld3
import Derived.Deep.CutRange
namespace Go.Proofs.Ytanafjbiclicpaa
open Go.RowKit
set_option linter.unusedVariables false
set_option maxRecDepth 100000

/-- Does each begin where the one ahead ends, and the last one have no end? -/
def chkP : Nat → List UInt8 → List R3 → Bool
  | _, en, [] => decide (en.length = 0)
  | i, en, r :: q => if (0 < i ∧ en.length = 0) ∨ r.2.1 ≠ en then false else chkP (i + 1) r.2.2 q
set_option maxHeartbeats 2000000 in
theorem partition_any {v : Value} {rs : List R3} {w : World} (hr : RdRs w v rs) (hl : rs.length ≤ 1099511627775) (hne : fullR rs ≠ []) :
    Calls Try.prog 37 #[v] w fun x w' => ∃ q : List R3, q.Perm (fullR rs) ∧ q.Pairwise (fun a b => 0 ≤ M.cmpL b.2.1 a.2.1) ∧ x = .returned (.bool (chkP 0 [] q)) ∧ Below w.heap.size w w' := by
  have hsp := spansOf_any hr hl
  have hfl := fullR_len rs
  have hitw : ∀ r ∈ fullR rs, It w r := fun r hm => by
    obtain ⟨ao, c, _, _, _, h4⟩ := hr
    obtain ⟨i, ei⟩ := List.mem_iff_getElem?.1 (show r ∈ rs by unfold fullR at hm; exact (List.mem_filter.1 hm).1)
    exact (h4 i r ei).1
  obtain ⟨ao, c, rfl, h1, h2, _⟩ := hr
  generalize fullR rs = fs at *
  go_enter Try.func37, Try.ntmps37
  go_wp2_with fail
  refine hsp.mono ?_
  rintro x w1 ⟨v1, rfl, ho1, hb1⟩
  clear hsp
  have hlo : ∀ b, v1.ownBlock = some b → w.heap.size ≤ b := fun b e => (World.ownsRow.lt ho1 b e).1
  have hso := sortS_any ho1 (fun r hm => (hitw r hm).below hb1 (Nat.le_refl _)) (fun r hm b e => ⟨fun q => by
      by_cases hz : r.2.1 = []
      · exact hz
      · have := (hitw r hm).s.blk hz q; have := hlo b e; omega, fun q => by
      by_cases hz : r.2.2 = []
      · exact hz
      · have := (hitw r hm).e.blk hz q; have := hlo b e; omega⟩) hne (by omega)
  clear hitw
  go_wp2_with fail
  refine hso.mono ?_
  rintro x w2 ⟨rfl, q, hqp, hqs, ⟨g, cp, rfl, hc1, hc2, hat⟩, hiq, hch⟩
  have hb2 : Below w.heap.size w w2 := hb1.trans (hch.below (fun b e => hlo b e) hb1.size)
  have hql : q.length = fs.length := hqp.length_eq
  have hf0 : 0 < fs.length := List.length_pos_iff.2 hne
  have HQ : Hid (q.Perm fs ∧ q.Pairwise (fun a b => 0 ≤ M.cmpL b.2.1 a.2.1) ∧ q.length = fs.length) := ⟨hqp, hqs, hql⟩
  have HIT : Hid (∀ r ∈ q, It w2 r) := hiq
  unfold maxLen at hc2
  clear hso ho1 hch hlo hqp hqs hql hiq hb1
  go_wp2_with fail
  go_loopw [4, 5, 6, 13] (fun en _ _ i wr => ∃ (k : Nat) (el : List UInt8), k ≤ fs.length ∧ i = .int .i64 k ∧ Rd wr en el ∧ Hid (chkP 0 [] q = chkP k el (q.drop k)) ∧ Below w2.heap.size w2 wr) (fun _ _ _ i _ => fs.length - (intOf i).toNat)
  case atStart => exact ⟨0, [], Nat.zero_le _, rfl, Rd.nil _, rfl, Below.refl _ _⟩
  case round =>
    obtain ⟨k, el, hk, rfl, hrd, HX, hbr⟩ := hrel
    have hBr : Below w.heap.size w wr := hb2.trans (hbr.mono hb2.size)
    have hel := hrd.len
    unfold maxLen at hel
    by_cases hlt : k < fs.length
    · obtain ⟨r, hrk⟩ : ∃ r, q[k]? = some r := ⟨_, List.getElem?_eq_getElem (by have := HQ.out.2.2; omega)⟩
      have hitr := (HIT.out r (List.mem_of_getElem? hrk)).below hbr (Nat.le_refl _)
      obtain ⟨c0, c1, c2, c3, c4, c5⟩ := ((hat k r hrk).below hbr (Nat.le_refl _)).six
      have HC : Hid (chkP k el (q.drop k) = if (0 < k ∧ el.length = 0) ∨ r.2.1 ≠ el then false else chkP (k + 1) r.2.2 (q.drop (k + 1))) := by
        show _ = _
        obtain ⟨hh, rfl⟩ := List.getElem?_eq_some_iff.1 hrk
        rw [List.drop_eq_getElem_cons hh]; rfl
      have hE := hitr.e
      obtain ⟨ea, ec, e2⟩ := hitr.e.shp
      obtain ⟨sa, sc, e1⟩ := hitr.s.shp
      obtain ⟨pa, pn, pk, e3⟩ := hitr.p
      have heq : ∀ W, Below wr.heap.size wr W → Calls Try.prog 68 #[r.1.2.1, _] W fun x w' => x = .returned (.bool (decide (r.2.1 = el))) ∧ w' = W := fun W hW => bequal_any (hitr.s.below hW (Nat.le_refl _)) (hrd.below hW (Nat.le_refl _))
      obtain ⟨na, nc, e4⟩ := hrd.shp
      obtain ⟨⟨u0, u1, u2, u3, u4, u5⟩, rs0, re0⟩ := r
      simp only [] at e1 e2 e3 c0 c1 c2 c3 c4 c5 HC heq hE
      subst e1
      subst e2
      subst e3
      subst e4
      have hbA : Below wr.heap.size wr (wr.alloc (.cells #[.int .u64 u0, .slice sa rs0.length sc, .slice ea re0.length ec, .int .u64 u3, .int .u64 u4, .slice pa pn pk] 94)) := g_al _ _
      have HE : Hid _ := And.intro hE hrd
      clear hitr hrk hE hrd
      by_cases hk0 : 0 < k ∧ el.length < 1
      · have g0 : (0 : Int) < (k : Int) := by omega
        have HB : Hid (chkP 0 [] q = false) := by show _ = _; rw [HX.out, HC.out, if_pos (.inl ⟨hk0.1, by omega⟩)]
        obtain ⟨hk0a, hk0b⟩ := hk0
        obtain rfl : el = [] := List.length_eq_zero_iff.1 (by omega)
        go_wp2_with fail
        go_ret
        exact ⟨q, HQ.out.1, HQ.out.2.1, by rw [HB.out]; rfl, hBr.alloc hBr.size _⟩
      · have hcase : (k = 0) ∨ (0 < k ∧ ¬ el.length = 0) := by omega
        have heqA := heq _ hbA
        by_cases hse : rs0 = el
        · have HN : Hid (chkP 0 [] q = chkP (k + 1) re0 (q.drop (k + 1))) := by
            show _ = _
            rw [HX.out, HC.out, if_neg (by rintro (r | r); exact hk0 ⟨r.1, by omega⟩; exact r hse)]
          rw [decide_eq_true hse] at heqA
          clear hse hk0
          rcases hcase with hk0 | ⟨hk1, hk2⟩
          · have g0 : ¬ (0 : Int) < (k : Int) := by omega
            clear hk0
            go_wp2_with fail
            refine heqA.mono ?_
            rintro x w5 ⟨rfl, rfl⟩
            go_wp2_with fail
            exact ⟨⟨k + 1, re0, by omega, by go_num, HE.out.1.below hbA (Nat.le_refl _), HN, hbr.trans (hbA.mono hbr.size)⟩, by simp [intOf]; omega⟩
          · have g0 : (0 : Int) < (k : Int) := by omega
            have g1 : ((el.length : Int) == 0) = false := beq_eq_false_iff_ne.2 (show ((el.length : Int)) ≠ 0 by omega)
            have g2 : ¬ (el.length : Int) = 0 := by omega
            go_wp2_with fail
            refine heqA.mono ?_
            rintro x w5 ⟨rfl, rfl⟩
            go_wp2_with fail
            exact ⟨⟨k + 1, re0, by omega, by go_num, HE.out.1.below hbA (Nat.le_refl _), HN, hbr.trans (hbA.mono hbr.size)⟩, by simp [intOf]; omega⟩
        · have HB : Hid (chkP 0 [] q = false) := by show _ = _; rw [HX.out, HC.out, if_pos (.inr hse)]
          rw [decide_eq_false hse] at heqA
          clear hse hk0
          rcases hcase with hk0 | ⟨hk1, hk2⟩
          · have g0 : ¬ (0 : Int) < (k : Int) := by omega
            clear hk0
            go_wp2_with fail
            refine heqA.mono ?_
            rintro x w5 ⟨rfl, rfl⟩
            go_wp2_with fail
            go_ret
            exact ⟨q, HQ.out.1, HQ.out.2.1, by rw [HB.out]; rfl, hBr.alloc hBr.size _⟩
          · have g0 : (0 : Int) < (k : Int) := by omega
            have g1 : ((el.length : Int) == 0) = false := beq_eq_false_iff_ne.2 (show ((el.length : Int)) ≠ 0 by omega)
            have g2 : ¬ (el.length : Int) = 0 := by omega
            go_wp2_with fail
            refine heqA.mono ?_
            rintro x w5 ⟨rfl, rfl⟩
            go_wp2_with fail
            go_ret
            exact ⟨q, HQ.out.1, HQ.out.2.1, by rw [HB.out]; rfl, hBr.alloc hBr.size _⟩
    · obtain rfl : k = fs.length := by omega
      have HN : Hid (chkP 0 [] q = decide (el.length = 0)) := by
        show _ = _
        rw [HX.out, List.drop_of_length_le (by have := HQ.out.2.2; omega)]; rfl
      have g0 : (0 : Int) < (fs.length : Int) := by omega
      obtain ⟨na, nc, e4⟩ := hrd.shp
      subst e4
      by_cases hel0 : el.length < 1
      · obtain rfl : el = [] := List.length_eq_zero_iff.1 (by omega)
        go_wp2_with fail
        go_ret
        exact ⟨q, HQ.out.1, HQ.out.2.1, by rw [HN.out]; rfl, hBr⟩
      · have HM : Hid (chkP 0 [] q = false) := by show _ = _; rw [HN.out]; exact decide_eq_false (by omega)
        have g1 : ((el.length : Int) == 0) = false := beq_eq_false_iff_ne.2 (show ((el.length : Int)) ≠ 0 by omega)
        have g2 : ¬ (el.length : Int) = 0 := by omega
        go_wp2_with fail
        go_ret
        exact ⟨q, HQ.out.1, HQ.out.2.1, by rw [HM.out]; rfl, hBr⟩
end Go.Proofs.Ytanafjbiclicpaa

/- What awake answers: true. -/
namespace Go.Proofs.Ytanafjbiclicpaa
open Go.RowKit
set_option linter.unusedVariables false
set_option maxRecDepth 100000

theorem perm2 {α : Type} {q : List α} {a b : α} (h : q.Perm [a, b]) : q = [a, b] ∨ q = [b, a] := by
  match q, h.length_eq with
  | [x, y], _ =>
    have hx : x ∈ [a, b] := h.mem_iff.1 (List.mem_cons_self ..)
    simp only [List.mem_cons, List.not_mem_nil, or_false] at hx
    rcases hx with rfl | rfl
    · have := List.perm_singleton.1 (h.cons_inv)
      simp at this; subst this
      exact .inl rfl
    · have := List.perm_singleton.1 ((h.trans (List.Perm.swap _ _ _)).cons_inv)
      simp at this; subst this
      exact .inr rfl
theorem rd_lit1 (w : World) (x : UInt8) (z : Int) (hz : z = (x.toNat : Int)) (g : Nat) (hg : g = w.heap.size) (t : TypeId) : Rd (w.alloc (.cells #[.int .u8 z] t)) (.slice (some ⟨g, 0, none⟩) 1 1) [x] := by
  subst hz; subst hg
  refine Rd.mk rfl (by simp) (by simp [maxLen]) (fun i hi => ?_)
  obtain rfl : i = 0 := by simpa using hi
  rw [Addr.add_lit, Nat.zero_add, World.cell?_alloc_at _ _ _ _ rfl]; rfl
theorem rdpe_lit1 (w : World) (p : Pe) (z : Int) (hz : z = (p.1.toNat : Int)) (g : Nat) (hg : g = w.heap.size) (t : TypeId) : RdPe (w.alloc (.cells #[.int .u64 z, .int .i64 p.2.1, .bool p.2.2] t)) (.slice (some ⟨g, 0, none⟩) 1 1) [p] := by
  subst hz; subst hg
  refine ⟨some ⟨w.heap.size, 0, none⟩, 1, rfl, by simp, by simp [maxLen], (fun e => by cases e), fun i q hi => ?_⟩
  match i with
  | 0 =>
    simp at hi; subst hi
    refine ⟨_, rfl, ?_, ?_, ?_⟩ <;> rw [Addr.add_lit] <;> simp only [Nat.zero_add, Nat.zero_mul] <;> rw [World.cell?_alloc_at _ _ _ _ rfl] <;> rfl
  | i + 1 => simp at hi
theorem at6_of {w : World} {g o : Nat} {u : V6} {cs : Array Value} {t : TypeId} (h : w.heap[g]? = some (.cells cs t (0, 0))) (hc : ∀ (j : Nat) (x : Value), (c6 u)[j]? = some x → cs[o + j]? = some x) : At6 w ⟨g, o, none⟩ u := fun j x e => by
  by_cases hj : j = 0
  · subst hj
    rw [if_pos rfl, cell_of_row _ _ _ _ _ _ h]
    exact hc 0 x e
  · rw [if_neg hj, cell_of_row _ _ _ _ _ _ h]
    exact hc j x e
theorem rdrs_lit1 (w : World) (r : R3) (hr : It w r) (g : Nat) (hg : g = w.heap.size) (t : TypeId) (cs : Array Value) (hcs : cs = (c6 r.1).toArray) : RdRs (w.alloc (.cells cs t)) (.slice (some ⟨g, 0, none⟩) 1 1) [r] := by
  subst hg; subst hcs
  refine ⟨some ⟨w.heap.size, 0, none⟩, 1, rfl, by simp, by simp [maxLen], fun i q hi => ?_⟩
  match i with
  | 0 =>
    simp at hi; subst hi
    refine ⟨hr.below (g_al _ _) (Nat.le_refl _), _, rfl, ?_⟩
    rw [Addr.add_lit, Nat.zero_add, Nat.zero_mul]
    exact at6_of (heap_alloc_new w _) (fun j x e => by rw [Nat.zero_add]; simpa using e)
  | i + 1 => simp at hi
theorem rdrs_lit2 (w : World) (r r' : R3) (hr : It w r) (hr' : It w r') (g : Nat) (hg : g = w.heap.size) (t : TypeId) (cs : Array Value) (hcs : cs = (c6 r.1 ++ c6 r'.1).toArray) : RdRs (w.alloc (.cells cs t)) (.slice (some ⟨g, 0, none⟩) 2 2) [r, r'] := by
  subst hg; subst hcs
  refine ⟨some ⟨w.heap.size, 0, none⟩, 2, rfl, by simp, by simp [maxLen], fun i q hi => ?_⟩
  match i with
  | 0 =>
    simp at hi; subst hi
    refine ⟨hr.below (g_al _ _) (Nat.le_refl _), _, rfl, ?_⟩
    rw [Addr.add_lit, Nat.zero_add, Nat.zero_mul]
    exact at6_of (heap_alloc_new w _) (fun j x e => by
      have hj : j < 6 := (List.getElem?_eq_some_iff.1 e).1
      rw [Nat.zero_add, List.getElem?_toArray, List.getElem?_append_left hj]; exact e)
  | 1 =>
    simp at hi; subst hi
    refine ⟨hr'.below (g_al _ _) (Nat.le_refl _), _, rfl, ?_⟩
    rw [Addr.add_lit, Nat.zero_add, Nat.one_mul]
    exact at6_of (heap_alloc_new w _) (fun j x e => by
      rw [List.getElem?_toArray, List.getElem?_append_right (by rw [c6_len]; omega), c6_len, Nat.add_sub_cancel_left]; exact e)
  | i + 2 => simp at hi
theorem aw_csp : cspE 1 7 1 [] [] [109] [((1 : UInt64), (1 : Int), false)] [4] = 0 := by decide +kernel
theorem aw_full {u u' : V6} : fullR [(u, [], [109]), (u', [109], [])] = [(u, [], [109]), (u', [109], [])] := by
  have h1 : cov [] [109] [] = true := by decide +kernel
  have h2 : cov [109] [] [109] = true := by decide +kernel
  simp [fullR, h1, h2]
theorem aw_full1 {u : V6} : fullR [(u, [], [109])] = [(u, [], [109])] := by
  have h1 : cov [] [109] [] = true := by decide +kernel
  simp [fullR, h1]
theorem aw_two {u u' : V6} {q : List R3} (hp : q.Perm (fullR [(u, [], [109]), (u', [109], [])])) (hs : q.Pairwise (fun a b => 0 ≤ M.cmpL b.2.1 a.2.1)) : chkP 0 [] q = true := by
  rw [aw_full] at hp
  rcases perm2 hp with rfl | rfl
  · simp [chkP]
  · have := List.rel_of_pairwise_cons hs (List.mem_singleton_self _)
    exact absurd this (by show ¬ 0 ≤ M.cmpL [] [109]; decide)
theorem aw_one {u : V6} {q : List R3} (hp : q.Perm (fullR [(u, [], [109])])) : chkP 0 [] q = false := by
  rw [aw_full1] at hp
  rw [List.perm_singleton.1 hp]
  simp [chkP]
theorem aw_cov : cov [109] [] [122] = true := by decide +kernel

theorem conv_at (w : World) (C : Array Value) (n c g : Nat) (hg : g = w.heap.size) : (convert 23 23 (.slice (some ⟨g, 0, none⟩) n c)).run Try.prog (w.alloc (.cells C 5)) = .ok (.slice (some ⟨g, 0, none⟩) n c) (w.alloc (.cells C 5 (C.size, C.size + 1))) := by
  subst hg; exact Lib.run_convert_bytes_const (P := Try.prog) w 23 5 C n c Try.underlying23 Try.underlying5
theorem rd_litH (w : World) (H : Nat) (hH : w.heap.size = H) (b : UInt8) (z : Int) (hz : z = (b.toNat : Int)) (fr : Nat × Nat) (t : TypeId) : Rd (w.alloc (.cells #[.int .u8 z] t fr)) (.slice (some ⟨H, 0, none⟩) 1 1) [b] := by
  subst hH
  subst hz
  refine Rd.mk rfl (by simp) (by simp [maxLen]) (fun i hi => ?_)
  obtain rfl : i = 0 := by simpa using hi
  have e : (w.alloc (.cells #[.int .u8 (b.toNat : Int)] t fr)).heap[w.heap.size]? = some (.cells #[.int .u8 (b.toNat : Int)] t fr) := by
    show (w.heap.push _)[w.heap.size]? = _
    simp
  rw [Addr.add_lit, Nat.zero_add, cell_of_row _ _ _ _ _ _ e]
  rfl
set_option maxHeartbeats 4000000 in
theorem awake_any (w : World) : Calls Try.prog 9 #[] w fun e w' => e = .returned (.bool true) ∧ Below w.heap.size w w' := by
  have hcv := conv_at
  have hb4 : Below w.heap.size w ((((w.alloc (.cells #[.int .u64 1, .int .i64 1, .bool false] 31)).alloc (.cells #[.int .u64 1, .slice none 0 0, .slice none 0 0, .int .u64 1, .int .u64 1, .slice (some ⟨w.heap.size, 0, none⟩) 1 1] 28)).alloc (.cells #[.int .u8 109] 5 (1, 2))).alloc (.cells #[.int .u64 4] 22)) := (((g_al w _).alloc (by simp) _).alloc (by simp; omega) _).alloc (by simp; omega) _
  have hpe : RdPe ((((w.alloc (.cells #[.int .u64 1, .int .i64 1, .bool false] 31)).alloc (.cells #[.int .u64 1, .slice none 0 0, .slice none 0 0, .int .u64 1, .int .u64 1, .slice (some ⟨w.heap.size, 0, none⟩) 1 1] 28)).alloc (.cells #[.int .u8 109] 5 (1, 2))).alloc (.cells #[.int .u64 4] 22)) (.slice (some ⟨w.heap.size, 0, none⟩) 1 1) [((1 : UInt64), (1 : Int), false)] := (((rdpe_lit1 w ((1 : UInt64), (1 : Int), false) 1 rfl w.heap.size rfl 31).below (g_al _ _) (Nat.le_refl _)).below (g_al _ _) (Nat.le_refl _)).below (g_al _ _) (Nat.le_refl _)
  have hkk : Rd ((((w.alloc (.cells #[.int .u64 1, .int .i64 1, .bool false] 31)).alloc (.cells #[.int .u64 1, .slice none 0 0, .slice none 0 0, .int .u64 1, .int .u64 1, .slice (some ⟨w.heap.size, 0, none⟩) 1 1] 28)).alloc (.cells #[.int .u8 109] 5 (1, 2))).alloc (.cells #[.int .u64 4] 22)) (.slice (some ⟨w.heap.size + 1 + 1, 0, none⟩) 1 1) [109] := (rd_litH ((w.alloc (.cells #[.int .u64 1, .int .i64 1, .bool false] 31)).alloc (.cells #[.int .u64 1, .slice none 0 0, .slice none 0 0, .int .u64 1, .int .u64 1, .slice (some ⟨w.heap.size, 0, none⟩) 1 1] 28)) (w.heap.size + 1 + 1) (by simp) 109 109 rfl (1, 2) 5).below (g_al _ _) (Nat.le_refl _)
  have hnn : Ru ((((w.alloc (.cells #[.int .u64 1, .int .i64 1, .bool false] 31)).alloc (.cells #[.int .u64 1, .slice none 0 0, .slice none 0 0, .int .u64 1, .int .u64 1, .slice (some ⟨w.heap.size, 0, none⟩) 1 1] 28)).alloc (.cells #[.int .u8 109] 5 (1, 2))).alloc (.cells #[.int .u64 4] 22)) (.slice (some ⟨w.heap.size + 1 + 1 + 1, 0, none⟩) 1 1) [4] := ru_one (((w.alloc (.cells #[.int .u64 1, .int .i64 1, .bool false] 31)).alloc (.cells #[.int .u64 1, .slice none 0 0, .slice none 0 0, .int .u64 1, .int .u64 1, .slice (some ⟨w.heap.size, 0, none⟩) 1 1] 28)).alloc (.cells #[.int .u8 109] 5 (1, 2))) 4 4 rfl 22 (w.heap.size + 1 + 1 + 1) (by simp)
  have hsp : Calls Try.prog 34 #[.agg #[.int .u64 1, .slice none 0 0, .slice none 0 0, .int .u64 1, .int .u64 1, .slice (some ⟨w.heap.size, 0, none⟩) 1 1], .slice (some ⟨w.heap.size + 1 + 1, 0, none⟩) 1 1, .int .u64 7, .slice (some ⟨w.heap.size + 1 + 1 + 1, 0, none⟩) 1 1] ((((w.alloc (.cells #[.int .u64 1, .int .i64 1, .bool false] 31)).alloc (.cells #[.int .u64 1, .slice none 0 0, .slice none 0 0, .int .u64 1, .int .u64 1, .slice (some ⟨w.heap.size, 0, none⟩) 1 1] 28)).alloc (.cells #[.int .u8 109] 5 (1, 2))).alloc (.cells #[.int .u64 4] 22)) fun x w' => ∃ sv1 kv1 pv1 kv2 ev2 pv2, x = .returned (.tuple #[.agg #[.int .u64 1, sv1, kv1, .int .u64 1, .int .u64 2, pv1], .agg #[.int .u64 7, kv2, ev2, .int .u64 1, .int .u64 2, pv2], .int .i64 0]) ∧ OwR _ w' sv1 kv1 pv1 [] [109] [((1 : UInt64), (1 : Int), false)] ∧ OwR _ w' kv2 ev2 pv2 [109] [] (numP [((1 : UInt64), (1 : Int), false)] [4]) ∧ Below _ _ w' := split_ok (id := 1) (nid := 7) (vr := 1) (cf := 1) (Rd.nil _) (Rd.nil _) hpe hkk hnn aw_csp (by simp) (by simp) (by simp) (by simp) (by decide) rfl
  go_enter Try.func9, Try.ntmps9
  go_wp2_with fail
  refine hsp.mono ?_
  rintro x w5 ⟨sv1, kv1, pv1, kv2, ev2, pv2, rfl, o1, o2, hb5⟩
  have hB5 : Below w.heap.size w w5 := hb4.trans (hb5.mono hb4.size)
  obtain ⟨a1, d1, rfl⟩ := o1.s.shp
  obtain ⟨a2, d2, rfl⟩ := o1.e.shp
  obtain ⟨a3, d3, rfl⟩ := o1.p.shape
  obtain ⟨f1, g1, rfl⟩ := o2.s.shp
  obtain ⟨f2, g2, rfl⟩ := o2.e.shp
  obtain ⟨f3, g3, rfl⟩ := o2.p.shape
  have HI1 : Hid (It w5 ((1, .slice a1 0 d1, .slice a2 1 d2, 1, 2, .slice a3 1 d3), [], [109])) := ⟨o1.s.rd, o1.e.rd, _, _, _, rfl⟩
  have HI2 : Hid (It w5 ((7, .slice f1 1 g1, .slice f2 0 g2, 1, 2, .slice f3 1 g3), [109], [])) := ⟨o2.s.rd, o2.e.rd, _, _, _, rfl⟩
  have hn3 : (numP [((1 : UInt64), (1 : Int), false)] [4]).length = 1 := rfl
  simp only [List.length_nil, List.length_cons, Nat.zero_add, hn3]
  clear hsp hpe hkk hnn o1 o2
  go_wp2_with fail
  have hW6 : Below w5.heap.size w5 ((w5.alloc (.cells #[.int .u64 1, .slice a1 0 d1, .slice a2 1 d2, .int .u64 1, .int .u64 2, .slice a3 1 d3] 28)).alloc (.cells #[.int .u64 7, .slice f1 1 g1, .slice f2 0 g2, .int .u64 1, .int .u64 2, .slice f3 1 g3] 28)) := (g_al w5 _).alloc (by simp) _
  have hz6 : ((w5.alloc (.cells #[.int .u64 1, .slice a1 0 d1, .slice a2 1 d2, .int .u64 1, .int .u64 2, .slice a3 1 d3] 28)).alloc (.cells #[.int .u64 7, .slice f1 1 g1, .slice f2 0 g2, .int .u64 1, .int .u64 2, .slice f3 1 g3] 28)).heap.size = w5.heap.size + 1 + 1 := by simp
  have hl6 : ((w5.alloc (.cells #[.int .u64 1, .slice a1 0 d1, .slice a2 1 d2, .int .u64 1, .int .u64 2, .slice a3 1 d3] 28)).alloc (.cells #[.int .u64 7, .slice f1 1 g1, .slice f2 0 g2, .int .u64 1, .int .u64 2, .slice f3 1 g3] 28)).heap[w5.heap.size]? = some (.cells #[.int .u64 1, .slice a1 0 d1, .slice a2 1 d2, .int .u64 1, .int .u64 2, .slice a3 1 d3] 28 (0, 0)) := (Below.heap_alloc _ _ _ (by simp)).trans (heap_alloc_new w5 _)
  have hh6 : ((w5.alloc (.cells #[.int .u64 1, .slice a1 0 d1, .slice a2 1 d2, .int .u64 1, .int .u64 2, .slice a3 1 d3] 28)).alloc (.cells #[.int .u64 7, .slice f1 1 g1, .slice f2 0 g2, .int .u64 1, .int .u64 2, .slice f3 1 g3] 28)).heap[w5.heap.size + 1]? = some (.cells #[.int .u64 7, .slice f1 1 g1, .slice f2 0 g2, .int .u64 1, .int .u64 2, .slice f3 1 g3] 28 (0, 0)) := by
    have := heap_alloc_new (w5.alloc (.cells #[.int .u64 1, .slice a1 0 d1, .slice a2 1 d2, .int .u64 1, .int .u64 2, .slice a3 1 d3] 28)) (.cells #[.int .u64 7, .slice f1 1 g1, .slice f2 0 g2, .int .u64 1, .int .u64 2, .slice f3 1 g3] 28)
    rw [World.size_alloc] at this
    exact this
  have hrd := rdrs_lit2 ((w5.alloc (.cells #[.int .u64 1, .slice a1 0 d1, .slice a2 1 d2, .int .u64 1, .int .u64 2, .slice a3 1 d3] 28)).alloc (.cells #[.int .u64 7, .slice f1 1 g1, .slice f2 0 g2, .int .u64 1, .int .u64 2, .slice f3 1 g3] 28)) _ _ (HI1.out.below hW6 (Nat.le_refl _)) (HI2.out.below hW6 (Nat.le_refl _)) (w5.heap.size + 1 + 1) (by simp) 28 _ rfl
  have hpt := partition_any hrd (by simp) (by rw [aw_full]; simp)
  generalize ((w5.alloc (.cells #[.int .u64 1, .slice a1 0 d1, .slice a2 1 d2, .int .u64 1, .int .u64 2, .slice a3 1 d3] 28)).alloc (.cells #[.int .u64 7, .slice f1 1 g1, .slice f2 0 g2, .int .u64 1, .int .u64 2, .slice f3 1 g3] 28)) = X6 at *
  refine Calls.mono hpt ?_
  rintro x w7 ⟨q, hqp, hqs, rfl, hb7⟩
  rw [aw_two hqp hqs]
  have hb67 : Below X6.heap.size X6 w7 := (g_al X6 _).trans (hb7.mono (g_al X6 _).size)
  have HL : Hid (∀ W, Below X6.heap.size X6 W → W.heap[w5.heap.size]? = some (.cells #[.int .u64 1, .slice a1 0 d1, .slice a2 1 d2, .int .u64 1, .int .u64 2, .slice a3 1 d3] 28 (0, 0)) ∧ W.heap[w5.heap.size + 1]? = some (.cells #[.int .u64 7, .slice f1 1 g1, .slice f2 0 g2, .int .u64 1, .int .u64 2, .slice f3 1 g3] 28 (0, 0))) := fun W hW => ⟨(hW.block _ (lt_of_some hl6)).trans hl6, (hW.block _ (lt_of_some hh6)).trans hh6⟩
  obtain ⟨l0, l1, l2, l3, l4, l5, _⟩ := cells6 (HL.out w7 hb67).1
  have hrd1 := rdrs_lit1 w7 _ ((HI1.out.below hW6 (Nat.le_refl _)).below hb67 (Nat.le_refl _)) w7.heap.size rfl 28 _ rfl
  have hpt1 := partition_any hrd1 (by simp) (by rw [aw_full1]; simp)
  clear hrd hpt hqp hqs hrd1 hz6 hl6 hh6
  go_wp2_with fail
  refine Calls.mono hpt1 ?_
  rintro x w8 ⟨q1, hq1p, _, rfl, hb8⟩
  rw [aw_one hq1p]
  have hb68 : Below X6.heap.size X6 w8 := hb67.trans (((g_al w7 _).trans (hb8.mono (g_al w7 _).size)).mono hb67.size)
  clear l0 l1 l2 l3 l4 l5
  obtain ⟨m0, m1, m2, m3, m4, m5, _⟩ := cells6 (HL.out w8 hb68).2
  have HI8 := (HI2.out.below hW6 (Nat.le_refl _)).below hb68 (Nat.le_refl _)
  have hb58 : Below w.heap.size w w8 := hB5.trans ((hW6.trans (hb68.mono hW6.size)).mono hB5.size)
  have hcz : Calls Try.prog 21 #[.agg #[.int .u64 7, .slice f1 1 g1, .slice f2 0 g2, .int .u64 1, .int .u64 2, .slice f3 1 g3], .slice (some ⟨w8.heap.size, 0, none⟩) 1 1] (w8.alloc (.cells #[.int .u8 122] 5 (1, 2))) fun x w' => x = .returned (.bool true) ∧ Below (w8.alloc (.cells #[.int .u8 122] 5 (1, 2))).heap.size (w8.alloc (.cells #[.int .u8 122] 5 (1, 2))) w' := by
    have := covers_any (i := 7) (c := 1) (r := 2) (pa := f3) (pn := 1) (pk := g3) (HI8.s.alloc (.cells #[.int .u8 122] 5 (1, 2))) (HI8.e.alloc (.cells #[.int .u8 122] 5 (1, 2))) (rd_litH w8 _ rfl 122 122 rfl (1, 2) 5)
    rw [aw_cov] at this
    exact this
  clear hpt1 hq1p
  go_wp2_with fail
  refine Calls.mono hcz ?_
  rintro x w9 ⟨rfl, hb9⟩
  go_wp2_with fail
  go_ret
  exact ⟨rfl, (hb58.alloc hb58.size _).trans (hb9.mono (Nat.le_trans hb58.size (g_al w8 _).size))⟩
end Go.Proofs.Ytanafjbiclicpaa

/- RegionRanges's walk (tools/genranges10.py). -/
namespace Go.Proofs.Ytanafjbiclicpaa
open Go.RowKit
set_option linter.unusedVariables false
set_option maxRecDepth 100000

set_option maxHeartbeats 8000000 in
theorem regionRanges_any {i c r i' c' r' : Int} {sv ev tv fv kv : Value} {pa pb : Option Addr} {pn pk qn qk : Nat} {s e t f k : List UInt8} {w : World} (hs : Rd w sv s) (he : Rd w ev e) (ht : Rd w tv t) (hf : Rd w fv f) (hk : Rd w kv k) :
    Calls Try.prog 8 #[.agg #[.int .u64 i, sv, ev, .int .u64 c, .int .u64 r, .slice pa pn pk], .agg #[.int .u64 i', tv, fv, .int .u64 c', .int .u64 r', .slice pb qn qk], kv] w fun x w' => x = .returned (.bool true) ∧ Below w.heap.size w w' := by
  have HRS : Hid (Rd w sv s ∧ Rd w ev e ∧ Rd w tv t ∧ Rd w fv f ∧ Rd w kv k) := ⟨hs, he, ht, hf, hk⟩
  obtain ⟨sa, sc, rfl⟩ := hs.shp
  obtain ⟨ea, ec, rfl⟩ := he.shp
  obtain ⟨ta, tc, rfl⟩ := ht.shp
  obtain ⟨fa, fc, rfl⟩ := hf.shp
  obtain ⟨ka, kc, rfl⟩ := hk.shp
  have hel := he.len
  have hfl := hf.len
  unfold maxLen at hel hfl
  clear hs he ht hf hk
  have hb0 : Below w.heap.size w ((w.alloc (.cells #[.int .u64 i, .slice sa s.length sc, .slice ea e.length ec, .int .u64 c, .int .u64 r, .slice pa pn pk] 28)).alloc (.cells #[.int .u64 i', .slice ta t.length tc, .slice fa f.length fc, .int .u64 c', .int .u64 r', .slice pb qn qk] 28)) := (g_al w _).alloc (by simp) _
  have hl0 : ((w.alloc (.cells #[.int .u64 i, .slice sa s.length sc, .slice ea e.length ec, .int .u64 c, .int .u64 r, .slice pa pn pk] 28)).alloc (.cells #[.int .u64 i', .slice ta t.length tc, .slice fa f.length fc, .int .u64 c', .int .u64 r', .slice pb qn qk] 28)).heap[w.heap.size]? = some (.cells #[.int .u64 i, .slice sa s.length sc, .slice ea e.length ec, .int .u64 c, .int .u64 r, .slice pa pn pk] 28 (0, 0)) := (Below.heap_alloc _ _ _ (by simp)).trans (heap_alloc_new w _)
  have hh0 : ((w.alloc (.cells #[.int .u64 i, .slice sa s.length sc, .slice ea e.length ec, .int .u64 c, .int .u64 r, .slice pa pn pk] 28)).alloc (.cells #[.int .u64 i', .slice ta t.length tc, .slice fa f.length fc, .int .u64 c', .int .u64 r', .slice pb qn qk] 28)).heap[w.heap.size + 1]? = some (.cells #[.int .u64 i', .slice ta t.length tc, .slice fa f.length fc, .int .u64 c', .int .u64 r', .slice pb qn qk] 28 (0, 0)) := by
    have := heap_alloc_new (w.alloc (.cells #[.int .u64 i, .slice sa s.length sc, .slice ea e.length ec, .int .u64 c, .int .u64 r, .slice pa pn pk] 28)) (.cells #[.int .u64 i', .slice ta t.length tc, .slice fa f.length fc, .int .u64 c', .int .u64 r', .slice pb qn qk] 28)
    rw [World.size_alloc] at this
    exact this
  go_enter Try.func8, Try.ntmps8
  go_wp2_with fail
  generalize ((w.alloc (.cells #[.int .u64 i, .slice sa s.length sc, .slice ea e.length ec, .int .u64 c, .int .u64 r, .slice pa pn pk] 28)).alloc (.cells #[.int .u64 i', .slice ta t.length tc, .slice fa f.length fc, .int .u64 c', .int .u64 r', .slice pb qn qk] 28)) = W0 at *
  refine (awake_any W0).mono ?_
  rintro x W1 ⟨rfl, hbW⟩
  have hW1 : Below w.heap.size w W1 := hb0.trans (hbW.mono hb0.size)
  have hx1 := (hbW.block _ (lt_of_some hl0)).trans hl0
  have hy1 := (hbW.block _ (lt_of_some hh0)).trans hh0
  have HK : Hid (∀ W, Below W1.heap.size W1 W → W.heap[w.heap.size]? = some (.cells #[.int .u64 i, .slice sa s.length sc, .slice ea e.length ec, .int .u64 c, .int .u64 r, .slice pa pn pk] 28 (0, 0)) ∧ W.heap[w.heap.size + 1]? = some (.cells #[.int .u64 i', .slice ta t.length tc, .slice fa f.length fc, .int .u64 c', .int .u64 r', .slice pb qn qk] 28 (0, 0))) := fun W hW => ⟨(hW.block _ (lt_of_some hx1)).trans hx1, (hW.block _ (lt_of_some hy1)).trans hy1⟩
  have HRD : Hid (∀ W, Below W1.heap.size W1 W → Rd W (.slice sa s.length sc) s ∧ Rd W (.slice ea e.length ec) e ∧ Rd W (.slice ta t.length tc) t ∧ Rd W (.slice fa f.length fc) f ∧ Rd W (.slice ka k.length kc) k) := fun W hW => by
    have hb : Below w.heap.size w W := hW1.trans (hW.mono hW1.size)
    obtain ⟨q1, q2, q3, q4, q5⟩ := HRS.out
    exact ⟨q1.below hb (Nat.le_refl _), q2.below hb (Nat.le_refl _), q3.below hb (Nat.le_refl _), q4.below hb (Nat.le_refl _), q5.below hb (Nat.le_refl _)⟩
  have hov : ∀ W, Below W1.heap.size W1 W → Calls Try.prog 23 #[.agg #[.int .u64 i, .slice sa s.length sc, .slice ea e.length ec, .int .u64 c, .int .u64 r, .slice pa pn pk], .agg #[.int .u64 i', .slice ta t.length tc, .slice fa f.length fc, .int .u64 c', .int .u64 r', .slice pb qn qk]] W fun e1 w' => e1 = .returned (.bool (ovl s e t f)) ∧ Below W1.heap.size W1 w' := fun W hW => (overlap_any (HRD.out W hW).1 (HRD.out W hW).2.1 (HRD.out W hW).2.2.1 (HRD.out W hW).2.2.2.1).mono (by rintro e1 w' ⟨rfl, hb⟩; exact ⟨rfl, hW.trans (hb.mono hW.size)⟩)
  have hov2 : ∀ W, Below W1.heap.size W1 W → Calls Try.prog 23 #[.agg #[.int .u64 i', .slice ta t.length tc, .slice fa f.length fc, .int .u64 c', .int .u64 r', .slice pb qn qk], .agg #[.int .u64 i, .slice sa s.length sc, .slice ea e.length ec, .int .u64 c, .int .u64 r, .slice pa pn pk]] W fun e1 w' => e1 = .returned (.bool (ovl s e t f)) ∧ Below W1.heap.size W1 w' := fun W hW => (overlap_any (HRD.out W hW).2.2.1 (HRD.out W hW).2.2.2.1 (HRD.out W hW).1 (HRD.out W hW).2.1).mono (by rintro e1 w' ⟨rfl, hb⟩; rw [ovl_symm]; exact ⟨rfl, hW.trans (hb.mono hW.size)⟩)
  have hca : ∀ W, Below W1.heap.size W1 W → Calls Try.prog 21 #[.agg #[.int .u64 i, .slice sa s.length sc, .slice ea e.length ec, .int .u64 c, .int .u64 r, .slice pa pn pk], .slice ka k.length kc] W fun e1 w' => e1 = .returned (.bool (cov s e k)) ∧ Below W1.heap.size W1 w' := fun W hW => (covers_any (HRD.out W hW).1 (HRD.out W hW).2.1 (HRD.out W hW).2.2.2.2).mono (by rintro e1 w' ⟨rfl, hb⟩; exact ⟨rfl, hW.trans (hb.mono hW.size)⟩)
  have hcb : ∀ W, Below W1.heap.size W1 W → Calls Try.prog 21 #[.agg #[.int .u64 i', .slice ta t.length tc, .slice fa f.length fc, .int .u64 c', .int .u64 r', .slice pb qn qk], .slice ka k.length kc] W fun e1 w' => e1 = .returned (.bool (cov t f k)) ∧ Below W1.heap.size W1 w' := fun W hW => (covers_any (HRD.out W hW).2.2.1 (HRD.out W hW).2.2.2.1 (HRD.out W hW).2.2.2.2).mono (by rintro e1 w' ⟨rfl, hb⟩; exact ⟨rfl, hW.trans (hb.mono hW.size)⟩)
  have hcat : ∀ W, Below W1.heap.size W1 W → Calls Try.prog 21 #[.agg #[.int .u64 i, .slice sa s.length sc, .slice ea e.length ec, .int .u64 c, .int .u64 r, .slice pa pn pk], .slice ta t.length tc] W fun e1 w' => e1 = .returned (.bool (cov s e t)) ∧ Below W1.heap.size W1 w' := fun W hW => (covers_any (HRD.out W hW).1 (HRD.out W hW).2.1 (HRD.out W hW).2.2.1).mono (by rintro e1 w' ⟨rfl, hb⟩; exact ⟨rfl, hW.trans (hb.mono hW.size)⟩)
  have hcbs : ∀ W, Below W1.heap.size W1 W → Calls Try.prog 21 #[.agg #[.int .u64 i', .slice ta t.length tc, .slice fa f.length fc, .int .u64 c', .int .u64 r', .slice pb qn qk], .slice sa s.length sc] W fun e1 w' => e1 = .returned (.bool (cov t f s)) ∧ Below W1.heap.size W1 w' := fun W hW => (covers_any (HRD.out W hW).2.2.1 (HRD.out W hW).2.2.2.1 (HRD.out W hW).1).mono (by rintro e1 w' ⟨rfl, hb⟩; exact ⟨rfl, hW.trans (hb.mono hW.size)⟩)
  have hcmA : ∀ W, Below W1.heap.size W1 W → Calls Try.prog 38 #[.slice ea e.length ec, .slice sa s.length sc] W fun e1 w' => e1 = .returned (.int .i64 (M.cmpL e s)) ∧ Below W1.heap.size W1 w' := fun W hW => (cmp_any (HRD.out W hW).2.1 (HRD.out W hW).1).mono (by rintro e1 w' ⟨rfl, n, rfl⟩; exact ⟨rfl, hW.trans ((Below.dN W n).mono hW.size)⟩)
  have hcmB : ∀ W, Below W1.heap.size W1 W → Calls Try.prog 38 #[.slice fa f.length fc, .slice ta t.length tc] W fun e1 w' => e1 = .returned (.int .i64 (M.cmpL f t)) ∧ Below W1.heap.size W1 w' := fun W hW => (cmp_any (HRD.out W hW).2.2.2.1 (HRD.out W hW).2.2.1).mono (by rintro e1 w' ⟨rfl, n, rfl⟩; exact ⟨rfl, hW.trans ((Below.dN W n).mono hW.size)⟩)
  have hS1 : Below W1.heap.size W1 W1 := Below.refl _ _
  have FX : Hid (emp s e = (decide (0 < e.length) && decide (M.cmpL e s ≤ 0)) ∧ emp t f = (decide (0 < f.length) && decide (M.cmpL f t ≤ 0))) := ⟨rfl, rfl⟩
  have FM : Hid ((emp s e = true ∨ emp t f = true → ovl s e t f = false) ∧ (emp s e = true → cov s e k = false) ∧ (emp t f = true → cov t f k = false) ∧ (cov s e k = true → cov t f k = true → ovl s e t f = true) ∧ (emp s e = false → emp t f = false → ovl s e t f = (cov s e t || cov t f s))) := ⟨ovl_emp, fun h => cov_emp h k, fun h => cov_emp h k, ovl_of, ovl_eq⟩
  generalize ovl s e t f = o at *
  generalize cov s e k = ca at *
  generalize cov t f k = cb at *
  generalize cov s e t = cat at *
  generalize cov t f s = cbs at *
  generalize emp s e = X at *
  generalize emp t f = Y at *
  generalize M.cmpL e s = x1 at *
  generalize M.cmpL f t = x2 at *
  clear hl0 hh0 hb0 hbW
  obtain ⟨a0, a1, a2, a3, a4, a5, _⟩ := cells6 hx1
  obtain ⟨b0, b1, b2, b3, b4, b5, _⟩ := cells6 hy1
  go_upto_region 3 with fail
  go_cut [7] from 9 to 95 (fun v wx => v = .bool X ∧ Below W1.heap.size W1 wx)
  case first =>
    by_cases hz : e.length < 1
    · have hX : X = false := by rw [FX.out.1, decide_eq_false (show ¬ 0 < e.length by omega)]; rfl
      have g0 : ¬ (0 : Int) < (e.length : Int) := by omega
      go_wp2_with fail
      go_meet
      exact ⟨by rw [hX], hS1⟩
    · have hX : X = decide (x1 ≤ 0) := by rw [FX.out.1, decide_eq_true (show 0 < e.length by omega)]; rfl
      have HX : Hid _ := hX
      clear hX
      have g0 : (0 : Int) < (e.length : Int) := by omega
      go_wp2_with fail
      refine (hcmA _ hS1).mono ?_
      rintro e1 wq ⟨rfl, hSq⟩
      go_wp2_with fail
      go_meet
      exact ⟨by rw [HX.out], hSq⟩
  case rest =>
    obtain ⟨rfl, hS3⟩ := hcut
    obtain ⟨w3, hw3⟩ : ∃ w3, w3 = wc := ⟨wc, rfl⟩
    subst hw3
    clear a0 a1 a2 a3 a4 a5 b0 b1 b2 b3 b4 b5
    obtain ⟨hx3, hy3⟩ := HK.out _ hS3
    obtain ⟨a0, a1, a2, a3, a4, a5, _⟩ := cells6 hx3
    obtain ⟨b0, b1, b2, b3, b4, b5, _⟩ := cells6 hy3
    go_upto_region 4 with fail
    go_cut [8] from 9 to 95 (fun v wx => v = .bool Y ∧ Below W1.heap.size W1 wx)
    case first =>
      by_cases hz : f.length < 1
      · have hX : Y = false := by rw [FX.out.2, decide_eq_false (show ¬ 0 < f.length by omega)]; rfl
        have g0 : ¬ (0 : Int) < (f.length : Int) := by omega
        go_wp2_with fail
        go_meet
        exact ⟨by rw [hX], hS3⟩
      · have hX : Y = decide (x2 ≤ 0) := by rw [FX.out.2, decide_eq_true (show 0 < f.length by omega)]; rfl
        have HX : Hid _ := hX
        clear hX
        have g0 : (0 : Int) < (f.length : Int) := by omega
        go_wp2_with fail
        refine (hcmB _ hS3).mono ?_
        rintro e1 wq ⟨rfl, hSq⟩
        go_wp2_with fail
        go_meet
        exact ⟨by rw [HX.out], hSq⟩
    case rest =>
      obtain ⟨rfl, hS4⟩ := hcut
      obtain ⟨w4, hw4⟩ : ∃ w4, w4 = wc := ⟨wc, rfl⟩
      subst hw4
      clear a0 a1 a2 a3 a4 a5 b0 b1 b2 b3 b4 b5
      obtain ⟨hx4, hy4⟩ := HK.out _ hS4
      obtain ⟨a0, a1, a2, a3, a4, a5, _⟩ := cells6 hx4
      obtain ⟨b0, b1, b2, b3, b4, b5, _⟩ := cells6 hy4
      go_upto_region 5 with fail
      have hS4d : Below W1.heap.size W1 w4.drew := hS4.trans ((Below.dN w4 1).mono hS4.size)
      refine wp_region_held_drew (S := (fun W => Below W1.heap.size W1 W)) (by kernel_rfl) hS4d (fun _ => ?_)
      refine wpAnyH_take (i := 0) (v := .agg #[.int .u64 i, .slice sa s.length sc, .slice ea e.length ec, .int .u64 c, .int .u64 r, .slice pa pn pk]) rfl (by kernel_rfl) (by kernel_rfl) (by kernel_rfl) (fun _ _ _ h => h) (.inl ⟨by kernel_rfl, fun W hW => by obtain ⟨hx, hy⟩ := HK.out W hW; obtain ⟨a0, a1, a2, a3, a4, a5, _⟩ := cells6 hx; obtain ⟨b0, b1, b2, b3, b4, b5, _⟩ := cells6 hy; go_simp⟩) hS4d ?_
      refine wpAnyH_take (i := 1) (v := .agg #[.int .u64 i', .slice ta t.length tc, .slice fa f.length fc, .int .u64 c', .int .u64 r', .slice pb qn qk]) rfl (by kernel_rfl) (by kernel_rfl) (by kernel_rfl) (fun _ _ _ h => h) (.inl ⟨by kernel_rfl, fun W hW => by obtain ⟨hx, hy⟩ := HK.out W hW; obtain ⟨a0, a1, a2, a3, a4, a5, _⟩ := cells6 hx; obtain ⟨b0, b1, b2, b3, b4, b5, _⟩ := cells6 hy; go_simp⟩) hS4d ?_
      refine wpAnyH_take (i := 3) (v := .agg #[.int .u64 i', .slice ta t.length tc, .slice fa f.length fc, .int .u64 c', .int .u64 r', .slice pb qn qk]) rfl (by kernel_rfl) (by kernel_rfl) (by kernel_rfl) (fun _ _ _ h => h) (.inl ⟨by kernel_rfl, fun W hW => by obtain ⟨hx, hy⟩ := HK.out W hW; obtain ⟨a0, a1, a2, a3, a4, a5, _⟩ := cells6 hx; obtain ⟨b0, b1, b2, b3, b4, b5, _⟩ := cells6 hy; go_simp⟩) hS4d ?_
      refine wpAnyH_take (i := 4) (v := .agg #[.int .u64 i, .slice sa s.length sc, .slice ea e.length ec, .int .u64 c, .int .u64 r, .slice pa pn pk]) rfl (by kernel_rfl) (by kernel_rfl) (by kernel_rfl) (fun _ _ _ h => h) (.inl ⟨by kernel_rfl, fun W hW => by obtain ⟨hx, hy⟩ := HK.out W hW; obtain ⟨a0, a1, a2, a3, a4, a5, _⟩ := cells6 hx; obtain ⟨b0, b1, b2, b3, b4, b5, _⟩ := cells6 hy; go_simp⟩) hS4d ?_
      refine wpAnyH_ready (rs := [2]) (by kernel_rfl) (by simp) ?_
      refine AllReadyH.cons rfl (fun K hK => ?_) AllReadyH.nil
      rw [if_pos (by kernel_rfl)]
      go_simp
      refine (hov _ hS4d).mono ?_
      rintro e1 w5 ⟨rfl, hS5⟩
      simp only []
      refine hK.out _ _ hS5 (fun _ => ?_)
      clear hK K
      refine wpAnyH_ready (rs := [5]) (by kernel_rfl) (by simp) ?_
      refine AllReadyH.cons rfl (fun K hK => ?_) AllReadyH.nil
      rw [if_pos (by kernel_rfl)]
      go_simp
      refine (hov2 _ hS5).mono ?_
      rintro e1 w6 ⟨rfl, hS6⟩
      simp only []
      refine hK.out _ _ hS6 (fun _ => ?_)
      clear hK K
      refine wpAnyH_take (i := 6) (v := .bool false) rfl (by kernel_rfl) (by kernel_rfl) (by kernel_rfl) (fun _ _ _ h => h) (.inl ⟨by kernel_rfl, fun W hW => by go_simp; try simp [*]⟩) hS6 ?_
      refine wpAnyH_done (by kernel_rfl) ?_ _
      go_simp
      clear a0 a1 a2 a3 a4 a5 b0 b1 b2 b3 b4 b5
      obtain ⟨hx6, hy6⟩ := HK.out _ hS6
      obtain ⟨a0, a1, a2, a3, a4, a5, _⟩ := cells6 hx6
      obtain ⟨b0, b1, b2, b3, b4, b5, _⟩ := cells6 hy6
      cases X with
      | true =>
        obtain rfl : o = false := FM.out.1 (.inl (by trivial))
        obtain rfl : ca = false := FM.out.2.1 (by trivial)
        go_wp2_with fail
        refine (hov _ hS6).mono ?_
        rintro e1 w7 ⟨rfl, hS7⟩
        clear a0 a1 a2 a3 a4 a5 b0 b1 b2 b3 b4 b5
        obtain ⟨hx7, hy7⟩ := HK.out _ hS7
        obtain ⟨a0, a1, a2, a3, a4, a5, _⟩ := cells6 hx7
        obtain ⟨b0, b1, b2, b3, b4, b5, _⟩ := cells6 hy7
        go_wp2_with fail
        refine (hca _ hS7).mono ?_
        rintro e1 w8 ⟨rfl, hS8⟩
        clear a0 a1 a2 a3 a4 a5 b0 b1 b2 b3 b4 b5
        obtain ⟨hx8, hy8⟩ := HK.out _ hS8
        obtain ⟨a0, a1, a2, a3, a4, a5, _⟩ := cells6 hx8
        obtain ⟨b0, b1, b2, b3, b4, b5, _⟩ := cells6 hy8
        cases Y with
        | true =>
          obtain rfl : cb = false := FM.out.2.2.1 (by trivial)
          go_wp2_with fail
          refine (hcb _ hS8).mono ?_
          rintro e1 w9 ⟨rfl, hS9⟩
          clear a0 a1 a2 a3 a4 a5 b0 b1 b2 b3 b4 b5
          obtain ⟨hx9, hy9⟩ := HK.out _ hS9
          obtain ⟨a0, a1, a2, a3, a4, a5, _⟩ := cells6 hx9
          obtain ⟨b0, b1, b2, b3, b4, b5, _⟩ := cells6 hy9
          go_wp2_with fail
          go_ret
          exact ⟨rfl, hW1.trans (hS9.mono hW1.size)⟩
        | false =>
          go_wp2_with fail
          go_ret
          exact ⟨rfl, hW1.trans (hS8.mono hW1.size)⟩
      | false =>
        cases Y with
        | true =>
          obtain rfl : o = false := FM.out.1 (.inr (by trivial))
          obtain rfl : cb = false := FM.out.2.2.1 (by trivial)
          go_wp2_with fail
          refine (hov _ hS6).mono ?_
          rintro e1 w7 ⟨rfl, hS7⟩
          clear a0 a1 a2 a3 a4 a5 b0 b1 b2 b3 b4 b5
          obtain ⟨hx7, hy7⟩ := HK.out _ hS7
          obtain ⟨a0, a1, a2, a3, a4, a5, _⟩ := cells6 hx7
          obtain ⟨b0, b1, b2, b3, b4, b5, _⟩ := cells6 hy7
          go_wp2_with fail
          refine (hcb _ hS7).mono ?_
          rintro e1 w8 ⟨rfl, hS8⟩
          clear a0 a1 a2 a3 a4 a5 b0 b1 b2 b3 b4 b5
          obtain ⟨hx8, hy8⟩ := HK.out _ hS8
          obtain ⟨a0, a1, a2, a3, a4, a5, _⟩ := cells6 hx8
          obtain ⟨b0, b1, b2, b3, b4, b5, _⟩ := cells6 hy8
          go_wp2_with fail
          go_ret
          exact ⟨rfl, hW1.trans (hS8.mono hW1.size)⟩
        | false =>
          have ho := FM.out.2.2.2.2 (by trivial) (by trivial)
          have HO : Hid _ := ho
          clear ho
          go_upto_region 9 with fail
          go_cut [81] from 9 to 95 (fun v wx => v = .bool false ∧ Below W1.heap.size W1 wx)
          case first =>
            cases ca with
            | false =>
              go_wp2_with fail
              refine (hca _ hS6).mono ?_
              rintro e1 w7 ⟨rfl, hS7⟩
              go_wp2_with fail
              go_meet
              exact ⟨rfl, hS7⟩
            | true =>
              go_wp2_with fail
              refine (hca _ hS6).mono ?_
              rintro e1 w7 ⟨rfl, hS7⟩
              clear a0 a1 a2 a3 a4 a5 b0 b1 b2 b3 b4 b5
              obtain ⟨hx7, hy7⟩ := HK.out _ hS7
              obtain ⟨a0, a1, a2, a3, a4, a5, _⟩ := cells6 hx7
              obtain ⟨b0, b1, b2, b3, b4, b5, _⟩ := cells6 hy7
              cases cb with
              | false =>
                go_wp2_with fail
                refine (hcb _ hS7).mono ?_
                rintro e1 w8 ⟨rfl, hS8⟩
                go_wp2_with fail
                go_meet
                exact ⟨rfl, hS8⟩
              | true =>
                obtain rfl : o = true := FM.out.2.2.2.1 (by trivial) (by trivial)
                go_wp2_with fail
                refine (hcb _ hS7).mono ?_
                rintro e1 w8 ⟨rfl, hS8⟩
                clear a0 a1 a2 a3 a4 a5 b0 b1 b2 b3 b4 b5
                obtain ⟨hx8, hy8⟩ := HK.out _ hS8
                obtain ⟨a0, a1, a2, a3, a4, a5, _⟩ := cells6 hx8
                obtain ⟨b0, b1, b2, b3, b4, b5, _⟩ := cells6 hy8
                go_wp2_with fail
                refine (hov _ hS8).mono ?_
                rintro e1 w9 ⟨rfl, hS9⟩
                go_wp2_with fail
                go_meet
                exact ⟨rfl, hS9⟩
          case rest =>
            obtain ⟨rfl, hS10⟩ := hcut
            obtain ⟨w10, hw10⟩ : ∃ w10, w10 = wc := ⟨wc, rfl⟩
            subst hw10
            clear a0 a1 a2 a3 a4 a5 b0 b1 b2 b3 b4 b5
            obtain ⟨hx10, hy10⟩ := HK.out _ hS10
            obtain ⟨a0, a1, a2, a3, a4, a5, _⟩ := cells6 hx10
            obtain ⟨b0, b1, b2, b3, b4, b5, _⟩ := cells6 hy10
            go_upto_region 11 with fail
            have hS10d : Below W1.heap.size W1 w10.drew := hS10.trans ((Below.dN w10 1).mono hS10.size)
            cases cat with
            | true =>
              obtain rfl : o = true := HO.out
              refine wp_region_held_drew (S := (fun W => Below W1.heap.size W1 W)) (by kernel_rfl) hS10d (fun _ => ?_)
              refine wpAnyH_take (i := 0) (v := .agg #[.int .u64 i, .slice sa s.length sc, .slice ea e.length ec, .int .u64 c, .int .u64 r, .slice pa pn pk]) rfl (by kernel_rfl) (by kernel_rfl) (by kernel_rfl) (fun _ _ _ h => h) (.inl ⟨by kernel_rfl, fun W hW => by obtain ⟨hx, hy⟩ := HK.out W hW; obtain ⟨a0, a1, a2, a3, a4, a5, _⟩ := cells6 hx; obtain ⟨b0, b1, b2, b3, b4, b5, _⟩ := cells6 hy; go_simp⟩) hS10d ?_
              refine wpAnyH_take (i := 1) (v := .agg #[.int .u64 i', .slice ta t.length tc, .slice fa f.length fc, .int .u64 c', .int .u64 r', .slice pb qn qk]) rfl (by kernel_rfl) (by kernel_rfl) (by kernel_rfl) (fun _ _ _ h => h) (.inl ⟨by kernel_rfl, fun W hW => by obtain ⟨hx, hy⟩ := HK.out W hW; obtain ⟨a0, a1, a2, a3, a4, a5, _⟩ := cells6 hx; obtain ⟨b0, b1, b2, b3, b4, b5, _⟩ := cells6 hy; go_simp⟩) hS10d ?_
              refine wpAnyH_take (i := 3) (v := .agg #[.int .u64 i, .slice sa s.length sc, .slice ea e.length ec, .int .u64 c, .int .u64 r, .slice pa pn pk]) rfl (by kernel_rfl) (by kernel_rfl) (by kernel_rfl) (fun _ _ _ h => h) (.inl ⟨by kernel_rfl, fun W hW => by obtain ⟨hx, hy⟩ := HK.out W hW; obtain ⟨a0, a1, a2, a3, a4, a5, _⟩ := cells6 hx; obtain ⟨b0, b1, b2, b3, b4, b5, _⟩ := cells6 hy; go_simp⟩) hS10d ?_
              refine wpAnyH_take (i := 4) (v := .pointer (some ⟨w.heap.size + 1, 1, none⟩)) rfl (by kernel_rfl) (by kernel_rfl) (by kernel_rfl) (fun _ _ _ h => h) (.inl ⟨by kernel_rfl, fun W hW => by kernel_rfl⟩) hS10d ?_
              refine wpAnyH_take (i := 5) (v := .slice ta t.length tc) rfl (by kernel_rfl) (by kernel_rfl) (by kernel_rfl) (fun _ _ _ h => h) (.inl ⟨by kernel_rfl, fun W hW => by obtain ⟨hx, hy⟩ := HK.out W hW; obtain ⟨a0, a1, a2, a3, a4, a5, _⟩ := cells6 hx; obtain ⟨b0, b1, b2, b3, b4, b5, _⟩ := cells6 hy; go_simp⟩) hS10d ?_
              refine wpAnyH_ready (rs := [2]) (by kernel_rfl) (by simp) ?_
              refine AllReadyH.cons rfl (fun K hK => ?_) AllReadyH.nil
              rw [if_pos (by kernel_rfl)]
              go_simp
              refine (hov _ hS10d).mono ?_
              rintro e1 w21 ⟨rfl, hS21⟩
              simp only []
              refine hK.out _ _ hS21 (fun _ => ?_)
              clear hK K
              refine wpAnyH_ready (rs := [6]) (by kernel_rfl) (by simp) ?_
              refine AllReadyH.cons rfl (fun K hK => ?_) AllReadyH.nil
              rw [if_pos (by kernel_rfl)]
              go_simp
              refine (hcat _ hS21).mono ?_
              rintro e1 w22 ⟨rfl, hS22⟩
              simp only []
              refine hK.out _ _ hS22 (fun _ => ?_)
              clear hK K
              refine wpAnyH_take (i := 7) (v := .bool true) rfl (by kernel_rfl) (by kernel_rfl) (by kernel_rfl) (fun _ _ _ h => h) (.inl ⟨by kernel_rfl, fun W hW => by kernel_rfl⟩) hS22 ?_
              refine wpAnyH_take (i := 8) (v := undef) rfl (by kernel_rfl) (by kernel_rfl) (by kernel_rfl) (fun _ _ _ h => h) (.inr ⟨by kernel_rfl, rfl⟩) hS22 ?_
              refine wpAnyH_take (i := 9) (v := undef) rfl (by kernel_rfl) (by kernel_rfl) (by kernel_rfl) (fun _ _ _ h => h) (.inr ⟨by kernel_rfl, rfl⟩) hS22 ?_
              refine wpAnyH_take (i := 10) (v := undef) rfl (by kernel_rfl) (by kernel_rfl) (by kernel_rfl) (fun _ _ _ h => h) (.inr ⟨by kernel_rfl, rfl⟩) hS22 ?_
              refine wpAnyH_take (i := 11) (v := undef) rfl (by kernel_rfl) (by kernel_rfl) (by kernel_rfl) (fun _ _ _ h => h) (.inr ⟨by kernel_rfl, rfl⟩) hS22 ?_
              refine wpAnyH_take (i := 12) (v := .bool true) rfl (by kernel_rfl) (by kernel_rfl) (by kernel_rfl) (fun _ _ _ h => h) (.inl ⟨by kernel_rfl, fun W hW => by kernel_rfl⟩) hS22 ?_
              refine wpAnyH_take (i := 13) (v := .bool true) rfl (by kernel_rfl) (by kernel_rfl) (by kernel_rfl) (fun _ _ _ h => h) (.inl ⟨by kernel_rfl, fun W hW => by go_simp; try simp [*]⟩) hS22 ?_
              refine wpAnyH_take (i := 14) (v := .bool true) rfl (by kernel_rfl) (by kernel_rfl) (by kernel_rfl) (fun _ _ _ h => h) (.inl ⟨by kernel_rfl, fun W hW => by kernel_rfl⟩) hS22 ?_
              refine wpAnyH_done (by kernel_rfl) ?_ _
              go_simp
              go_wp2_with fail
              go_ret
              exact ⟨rfl, hW1.trans (hS22.mono hW1.size)⟩
            | false =>
              obtain rfl : o = cbs := HO.out
              refine wp_region_held_drew (S := (fun W => Below W1.heap.size W1 W)) (by kernel_rfl) hS10d (fun _ => ?_)
              refine wpAnyH_take (i := 0) (v := .agg #[.int .u64 i, .slice sa s.length sc, .slice ea e.length ec, .int .u64 c, .int .u64 r, .slice pa pn pk]) rfl (by kernel_rfl) (by kernel_rfl) (by kernel_rfl) (fun _ _ _ h => h) (.inl ⟨by kernel_rfl, fun W hW => by obtain ⟨hx, hy⟩ := HK.out W hW; obtain ⟨a0, a1, a2, a3, a4, a5, _⟩ := cells6 hx; obtain ⟨b0, b1, b2, b3, b4, b5, _⟩ := cells6 hy; go_simp⟩) hS10d ?_
              refine wpAnyH_take (i := 1) (v := .agg #[.int .u64 i', .slice ta t.length tc, .slice fa f.length fc, .int .u64 c', .int .u64 r', .slice pb qn qk]) rfl (by kernel_rfl) (by kernel_rfl) (by kernel_rfl) (fun _ _ _ h => h) (.inl ⟨by kernel_rfl, fun W hW => by obtain ⟨hx, hy⟩ := HK.out W hW; obtain ⟨a0, a1, a2, a3, a4, a5, _⟩ := cells6 hx; obtain ⟨b0, b1, b2, b3, b4, b5, _⟩ := cells6 hy; go_simp⟩) hS10d ?_
              refine wpAnyH_take (i := 3) (v := .agg #[.int .u64 i, .slice sa s.length sc, .slice ea e.length ec, .int .u64 c, .int .u64 r, .slice pa pn pk]) rfl (by kernel_rfl) (by kernel_rfl) (by kernel_rfl) (fun _ _ _ h => h) (.inl ⟨by kernel_rfl, fun W hW => by obtain ⟨hx, hy⟩ := HK.out W hW; obtain ⟨a0, a1, a2, a3, a4, a5, _⟩ := cells6 hx; obtain ⟨b0, b1, b2, b3, b4, b5, _⟩ := cells6 hy; go_simp⟩) hS10d ?_
              refine wpAnyH_take (i := 4) (v := .pointer (some ⟨w.heap.size + 1, 1, none⟩)) rfl (by kernel_rfl) (by kernel_rfl) (by kernel_rfl) (fun _ _ _ h => h) (.inl ⟨by kernel_rfl, fun W hW => by kernel_rfl⟩) hS10d ?_
              refine wpAnyH_take (i := 5) (v := .slice ta t.length tc) rfl (by kernel_rfl) (by kernel_rfl) (by kernel_rfl) (fun _ _ _ h => h) (.inl ⟨by kernel_rfl, fun W hW => by obtain ⟨hx, hy⟩ := HK.out W hW; obtain ⟨a0, a1, a2, a3, a4, a5, _⟩ := cells6 hx; obtain ⟨b0, b1, b2, b3, b4, b5, _⟩ := cells6 hy; go_simp⟩) hS10d ?_
              refine wpAnyH_ready (rs := [2]) (by kernel_rfl) (by simp) ?_
              refine AllReadyH.cons rfl (fun K hK => ?_) AllReadyH.nil
              rw [if_pos (by kernel_rfl)]
              go_simp
              refine (hov _ hS10d).mono ?_
              rintro e1 w21 ⟨rfl, hS21⟩
              simp only []
              refine hK.out _ _ hS21 (fun _ => ?_)
              clear hK K
              refine wpAnyH_ready (rs := [6]) (by kernel_rfl) (by simp) ?_
              refine AllReadyH.cons rfl (fun K hK => ?_) AllReadyH.nil
              rw [if_pos (by kernel_rfl)]
              go_simp
              refine (hcat _ hS21).mono ?_
              rintro e1 w22 ⟨rfl, hS22⟩
              simp only []
              refine hK.out _ _ hS22 (fun _ => ?_)
              clear hK K
              refine wpAnyH_take (i := 7) (v := .bool false) rfl (by kernel_rfl) (by kernel_rfl) (by kernel_rfl) (fun _ _ _ h => h) (.inl ⟨by kernel_rfl, fun W hW => by kernel_rfl⟩) hS22 ?_
              refine wpAnyH_take (i := 8) (v := .agg #[.int .u64 i', .slice ta t.length tc, .slice fa f.length fc, .int .u64 c', .int .u64 r', .slice pb qn qk]) rfl (by kernel_rfl) (by kernel_rfl) (by kernel_rfl) (fun _ _ _ h => h) (.inl ⟨by kernel_rfl, fun W hW => by obtain ⟨hx, hy⟩ := HK.out W hW; obtain ⟨a0, a1, a2, a3, a4, a5, _⟩ := cells6 hx; obtain ⟨b0, b1, b2, b3, b4, b5, _⟩ := cells6 hy; go_simp⟩) hS22 ?_
              refine wpAnyH_take (i := 9) (v := .pointer (some ⟨w.heap.size, 1, none⟩)) rfl (by kernel_rfl) (by kernel_rfl) (by kernel_rfl) (fun _ _ _ h => h) (.inl ⟨by kernel_rfl, fun W hW => by kernel_rfl⟩) hS22 ?_
              refine wpAnyH_take (i := 10) (v := .slice sa s.length sc) rfl (by kernel_rfl) (by kernel_rfl) (by kernel_rfl) (fun _ _ _ h => h) (.inl ⟨by kernel_rfl, fun W hW => by obtain ⟨hx, hy⟩ := HK.out W hW; obtain ⟨a0, a1, a2, a3, a4, a5, _⟩ := cells6 hx; obtain ⟨b0, b1, b2, b3, b4, b5, _⟩ := cells6 hy; go_simp⟩) hS22 ?_
              refine wpAnyH_ready (rs := [11]) (by kernel_rfl) (by simp) ?_
              refine AllReadyH.cons rfl (fun K hK => ?_) AllReadyH.nil
              rw [if_pos (by kernel_rfl)]
              go_simp
              refine (hcbs _ hS22).mono ?_
              rintro e1 w23 ⟨rfl, hS23⟩
              simp only []
              refine hK.out _ _ hS23 (fun _ => ?_)
              clear hK K
              refine wpAnyH_take (i := 12) (v := .bool o) rfl (by kernel_rfl) (by kernel_rfl) (by kernel_rfl) (fun _ _ _ h => h) (.inl ⟨by kernel_rfl, fun W hW => by go_simp; try simp [*]⟩) hS23 ?_
              refine wpAnyH_take (i := 13) (v := .bool true) rfl (by kernel_rfl) (by kernel_rfl) (by kernel_rfl) (fun _ _ _ h => h) (.inl ⟨by kernel_rfl, fun W hW => by go_simp; try simp [*]⟩) hS23 ?_
              refine wpAnyH_take (i := 14) (v := .bool true) rfl (by kernel_rfl) (by kernel_rfl) (by kernel_rfl) (fun _ _ _ h => h) (.inl ⟨by kernel_rfl, fun W hW => by kernel_rfl⟩) hS23 ?_
              refine wpAnyH_done (by kernel_rfl) ?_ _
              go_simp
              go_wp2_with fail
              go_ret
              exact ⟨rfl, hW1.trans (hS23.mono hW1.size)⟩
end Go.Proofs.Ytanafjbiclicpaa
