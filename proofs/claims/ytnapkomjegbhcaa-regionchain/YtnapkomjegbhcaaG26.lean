/- What awake answers: true. -/
import Derived.Test.YtnapkomjegbhcaaG25
import Derived.Lib.SlBytesConst
namespace Go.Proofs.Ytnapkomjegbhcaa
open Go.RowKit
set_option linter.unusedVariables false
set_option maxRecDepth 100000

theorem perm2 {α : Type} {q : List α} {a b : α} (h : q.Perm [a, b]) : q = [a, b] ∨ q = [b, a] := by
  match q, h.length_eq with
  | [x, y], _ =>
    have hx : x ∈ [a, b] := h.mem_iff.1 (List.mem_cons_self ..)
    simp only [List.mem_cons, List.not_mem_nil, or_false] at hx
    rcases hx with rfl | rfl
    · have := List.perm_singleton.1 (h.cons_inv)
      simp at this; subst this
      exact .inl rfl
    · have := List.perm_singleton.1 ((h.trans (List.Perm.swap _ _ _)).cons_inv)
      simp at this; subst this
      exact .inr rfl
theorem rd_lit1 (w : World) (x : UInt8) (z : Int) (hz : z = (x.toNat : Int)) (g : Nat) (hg : g = w.heap.size) (t : TypeId) : Rd (w.alloc (.cells #[.int .u8 z] t)) (.slice (some ⟨g, 0, none⟩) 1 1) [x] := by
  subst hz; subst hg
  refine Rd.mk rfl (by simp) (by simp [maxLen]) (fun i hi => ?_)
  obtain rfl : i = 0 := by simpa using hi
  rw [Addr.add_lit, Nat.zero_add, World.cell?_alloc_at _ _ _ _ rfl]; rfl
theorem rdpe_lit1 (w : World) (p : Pe) (z : Int) (hz : z = (p.1.toNat : Int)) (g : Nat) (hg : g = w.heap.size) (t : TypeId) : RdPe (w.alloc (.cells #[.int .u64 z, .int .i64 p.2.1, .bool p.2.2] t)) (.slice (some ⟨g, 0, none⟩) 1 1) [p] := by
  subst hz; subst hg
  refine ⟨some ⟨w.heap.size, 0, none⟩, 1, rfl, by simp, by simp [maxLen], (fun e => by cases e), fun i q hi => ?_⟩
  match i with
  | 0 =>
    simp at hi; subst hi
    refine ⟨_, rfl, ?_, ?_, ?_⟩ <;> rw [Addr.add_lit] <;> simp only [Nat.zero_add, Nat.zero_mul] <;> rw [World.cell?_alloc_at _ _ _ _ rfl] <;> rfl
  | i + 1 => simp at hi
theorem at6_of {w : World} {g o : Nat} {u : V6} {cs : Array Value} {t : TypeId} (h : w.heap[g]? = some (.cells cs t (0, 0))) (hc : ∀ (j : Nat) (x : Value), (c6 u)[j]? = some x → cs[o + j]? = some x) : At6 w ⟨g, o, none⟩ u := fun j x e => by
  by_cases hj : j = 0
  · subst hj
    rw [if_pos rfl, cell_of_row _ _ _ _ _ _ h]
    exact hc 0 x e
  · rw [if_neg hj, cell_of_row _ _ _ _ _ _ h]
    exact hc j x e
theorem rdrs_lit1 (w : World) (r : R3) (hr : It w r) (g : Nat) (hg : g = w.heap.size) (t : TypeId) (cs : Array Value) (hcs : cs = (c6 r.1).toArray) : RdRs (w.alloc (.cells cs t)) (.slice (some ⟨g, 0, none⟩) 1 1) [r] := by
  subst hg; subst hcs
  refine ⟨some ⟨w.heap.size, 0, none⟩, 1, rfl, by simp, by simp [maxLen], fun i q hi => ?_⟩
  match i with
  | 0 =>
    simp at hi; subst hi
    refine ⟨hr.below (g_al _ _) (Nat.le_refl _), _, rfl, ?_⟩
    rw [Addr.add_lit, Nat.zero_add, Nat.zero_mul]
    exact at6_of (heap_alloc_new w _) (fun j x e => by rw [Nat.zero_add]; simpa using e)
  | i + 1 => simp at hi
theorem rdrs_lit2 (w : World) (r r' : R3) (hr : It w r) (hr' : It w r') (g : Nat) (hg : g = w.heap.size) (t : TypeId) (cs : Array Value) (hcs : cs = (c6 r.1 ++ c6 r'.1).toArray) : RdRs (w.alloc (.cells cs t)) (.slice (some ⟨g, 0, none⟩) 2 2) [r, r'] := by
  subst hg; subst hcs
  refine ⟨some ⟨w.heap.size, 0, none⟩, 2, rfl, by simp, by simp [maxLen], fun i q hi => ?_⟩
  match i with
  | 0 =>
    simp at hi; subst hi
    refine ⟨hr.below (g_al _ _) (Nat.le_refl _), _, rfl, ?_⟩
    rw [Addr.add_lit, Nat.zero_add, Nat.zero_mul]
    exact at6_of (heap_alloc_new w _) (fun j x e => by
      have hj : j < 6 := (List.getElem?_eq_some_iff.1 e).1
      rw [Nat.zero_add, List.getElem?_toArray, List.getElem?_append_left hj]; exact e)
  | 1 =>
    simp at hi; subst hi
    refine ⟨hr'.below (g_al _ _) (Nat.le_refl _), _, rfl, ?_⟩
    rw [Addr.add_lit, Nat.zero_add, Nat.one_mul]
    exact at6_of (heap_alloc_new w _) (fun j x e => by
      rw [List.getElem?_toArray, List.getElem?_append_right (by rw [c6_len]; omega), c6_len, Nat.add_sub_cancel_left]; exact e)
  | i + 2 => simp at hi
theorem aw_csp : cspE 1 7 1 [] [] [109] [((1 : UInt64), (1 : Int), false)] [4] = 0 := by decide +kernel
theorem aw_full {u u' : V6} : fullR [(u, [], [109]), (u', [109], [])] = [(u, [], [109]), (u', [109], [])] := by
  have h1 : cov [] [109] [] = true := by decide +kernel
  have h2 : cov [109] [] [109] = true := by decide +kernel
  simp [fullR, h1, h2]
theorem aw_full1 {u : V6} : fullR [(u, [], [109])] = [(u, [], [109])] := by
  have h1 : cov [] [109] [] = true := by decide +kernel
  simp [fullR, h1]
theorem aw_two {u u' : V6} {q : List R3} (hp : q.Perm (fullR [(u, [], [109]), (u', [109], [])])) (hs : q.Pairwise (fun a b => 0 ≤ M.cmpL b.2.1 a.2.1)) : chkP 0 [] q = true := by
  rw [aw_full] at hp
  rcases perm2 hp with rfl | rfl
  · simp [chkP]
  · have := List.rel_of_pairwise_cons hs (List.mem_singleton_self _)
    exact absurd this (by show ¬ 0 ≤ M.cmpL [] [109]; decide)
theorem aw_one {u : V6} {q : List R3} (hp : q.Perm (fullR [(u, [], [109])])) : chkP 0 [] q = false := by
  rw [aw_full1] at hp
  rw [List.perm_singleton.1 hp]
  simp [chkP]
theorem aw_cov : cov [109] [] [122] = true := by decide +kernel

theorem conv_at (w : World) (C : Array Value) (n c g : Nat) (hg : g = w.heap.size) : (convert 24 24 (.slice (some ⟨g, 0, none⟩) n c)).run Try.prog (w.alloc (.cells C 5)) = .ok (.slice (some ⟨g, 0, none⟩) n c) (w.alloc (.cells C 5 (C.size, C.size + 1))) := by
  subst hg; exact Lib.run_convert_bytes_const (P := Try.prog) w 24 5 C n c Try.underlying24 Try.underlying5
theorem rd_litH (w : World) (H : Nat) (hH : w.heap.size = H) (b : UInt8) (z : Int) (hz : z = (b.toNat : Int)) (fr : Nat × Nat) (t : TypeId) : Rd (w.alloc (.cells #[.int .u8 z] t fr)) (.slice (some ⟨H, 0, none⟩) 1 1) [b] := by
  subst hH
  subst hz
  refine Rd.mk rfl (by simp) (by simp [maxLen]) (fun i hi => ?_)
  obtain rfl : i = 0 := by simpa using hi
  have e : (w.alloc (.cells #[.int .u8 (b.toNat : Int)] t fr)).heap[w.heap.size]? = some (.cells #[.int .u8 (b.toNat : Int)] t fr) := by
    show (w.heap.push _)[w.heap.size]? = _
    simp
  rw [Addr.add_lit, Nat.zero_add, cell_of_row _ _ _ _ _ _ e]
  rfl
set_option maxHeartbeats 4000000 in
theorem awake_any (w : World) : Calls Try.prog 4 #[] w fun e w' => e = .returned (.bool true) ∧ Below w.heap.size w w' := by
  have hcv := conv_at
  have hb4 : Below w.heap.size w ((((w.alloc (.cells #[.int .u64 1, .int .i64 1, .bool false] 50)).alloc (.cells #[.int .u64 1, .slice none 0 0, .slice none 0 0, .int .u64 1, .int .u64 1, .slice (some ⟨w.heap.size, 0, none⟩) 1 1] 34)).alloc (.cells #[.int .u8 109] 5 (1, 2))).alloc (.cells #[.int .u64 4] 28)) := (((g_al w _).alloc (by simp) _).alloc (by simp; omega) _).alloc (by simp; omega) _
  have hpe : RdPe ((((w.alloc (.cells #[.int .u64 1, .int .i64 1, .bool false] 50)).alloc (.cells #[.int .u64 1, .slice none 0 0, .slice none 0 0, .int .u64 1, .int .u64 1, .slice (some ⟨w.heap.size, 0, none⟩) 1 1] 34)).alloc (.cells #[.int .u8 109] 5 (1, 2))).alloc (.cells #[.int .u64 4] 28)) (.slice (some ⟨w.heap.size, 0, none⟩) 1 1) [((1 : UInt64), (1 : Int), false)] := (((rdpe_lit1 w ((1 : UInt64), (1 : Int), false) 1 rfl w.heap.size rfl 50).below (g_al _ _) (Nat.le_refl _)).below (g_al _ _) (Nat.le_refl _)).below (g_al _ _) (Nat.le_refl _)
  have hkk : Rd ((((w.alloc (.cells #[.int .u64 1, .int .i64 1, .bool false] 50)).alloc (.cells #[.int .u64 1, .slice none 0 0, .slice none 0 0, .int .u64 1, .int .u64 1, .slice (some ⟨w.heap.size, 0, none⟩) 1 1] 34)).alloc (.cells #[.int .u8 109] 5 (1, 2))).alloc (.cells #[.int .u64 4] 28)) (.slice (some ⟨w.heap.size + 1 + 1, 0, none⟩) 1 1) [109] := (rd_litH ((w.alloc (.cells #[.int .u64 1, .int .i64 1, .bool false] 50)).alloc (.cells #[.int .u64 1, .slice none 0 0, .slice none 0 0, .int .u64 1, .int .u64 1, .slice (some ⟨w.heap.size, 0, none⟩) 1 1] 34)) (w.heap.size + 1 + 1) (by simp) 109 109 rfl (1, 2) 5).below (g_al _ _) (Nat.le_refl _)
  have hnn : Ru ((((w.alloc (.cells #[.int .u64 1, .int .i64 1, .bool false] 50)).alloc (.cells #[.int .u64 1, .slice none 0 0, .slice none 0 0, .int .u64 1, .int .u64 1, .slice (some ⟨w.heap.size, 0, none⟩) 1 1] 34)).alloc (.cells #[.int .u8 109] 5 (1, 2))).alloc (.cells #[.int .u64 4] 28)) (.slice (some ⟨w.heap.size + 1 + 1 + 1, 0, none⟩) 1 1) [4] := ru_one (((w.alloc (.cells #[.int .u64 1, .int .i64 1, .bool false] 50)).alloc (.cells #[.int .u64 1, .slice none 0 0, .slice none 0 0, .int .u64 1, .int .u64 1, .slice (some ⟨w.heap.size, 0, none⟩) 1 1] 34)).alloc (.cells #[.int .u8 109] 5 (1, 2))) 4 4 rfl 28 (w.heap.size + 1 + 1 + 1) (by simp)
  have hsp : Calls Try.prog 7 #[.agg #[.int .u64 1, .slice none 0 0, .slice none 0 0, .int .u64 1, .int .u64 1, .slice (some ⟨w.heap.size, 0, none⟩) 1 1], .slice (some ⟨w.heap.size + 1 + 1, 0, none⟩) 1 1, .int .u64 7, .slice (some ⟨w.heap.size + 1 + 1 + 1, 0, none⟩) 1 1] ((((w.alloc (.cells #[.int .u64 1, .int .i64 1, .bool false] 50)).alloc (.cells #[.int .u64 1, .slice none 0 0, .slice none 0 0, .int .u64 1, .int .u64 1, .slice (some ⟨w.heap.size, 0, none⟩) 1 1] 34)).alloc (.cells #[.int .u8 109] 5 (1, 2))).alloc (.cells #[.int .u64 4] 28)) fun x w' => ∃ sv1 kv1 pv1 kv2 ev2 pv2, x = .returned (.tuple #[.agg #[.int .u64 1, sv1, kv1, .int .u64 1, .int .u64 2, pv1], .agg #[.int .u64 7, kv2, ev2, .int .u64 1, .int .u64 2, pv2], .int .i64 0]) ∧ OwR _ w' sv1 kv1 pv1 [] [109] [((1 : UInt64), (1 : Int), false)] ∧ OwR _ w' kv2 ev2 pv2 [109] [] (numP [((1 : UInt64), (1 : Int), false)] [4]) ∧ Below _ _ w' := split_ok (id := 1) (nid := 7) (vr := 1) (cf := 1) (Rd.nil _) (Rd.nil _) hpe hkk hnn aw_csp (by simp) (by simp) (by simp) (by simp) (by decide) rfl
  go_enter Try.func4, Try.ntmps4
  go_wp2_with fail
  refine hsp.mono ?_
  rintro x w5 ⟨sv1, kv1, pv1, kv2, ev2, pv2, rfl, o1, o2, hb5⟩
  have hB5 : Below w.heap.size w w5 := hb4.trans (hb5.mono hb4.size)
  obtain ⟨a1, d1, rfl⟩ := o1.s.shp
  obtain ⟨a2, d2, rfl⟩ := o1.e.shp
  obtain ⟨a3, d3, rfl⟩ := o1.p.shape
  obtain ⟨f1, g1, rfl⟩ := o2.s.shp
  obtain ⟨f2, g2, rfl⟩ := o2.e.shp
  obtain ⟨f3, g3, rfl⟩ := o2.p.shape
  have HI1 : Hid (It w5 ((1, .slice a1 0 d1, .slice a2 1 d2, 1, 2, .slice a3 1 d3), [], [109])) := ⟨o1.s.rd, o1.e.rd, _, _, _, rfl⟩
  have HI2 : Hid (It w5 ((7, .slice f1 1 g1, .slice f2 0 g2, 1, 2, .slice f3 1 g3), [109], [])) := ⟨o2.s.rd, o2.e.rd, _, _, _, rfl⟩
  have hn3 : (numP [((1 : UInt64), (1 : Int), false)] [4]).length = 1 := rfl
  simp only [List.length_nil, List.length_cons, Nat.zero_add, hn3]
  clear hsp hpe hkk hnn o1 o2
  go_wp2_with fail
  have hW6 : Below w5.heap.size w5 ((w5.alloc (.cells #[.int .u64 1, .slice a1 0 d1, .slice a2 1 d2, .int .u64 1, .int .u64 2, .slice a3 1 d3] 34)).alloc (.cells #[.int .u64 7, .slice f1 1 g1, .slice f2 0 g2, .int .u64 1, .int .u64 2, .slice f3 1 g3] 34)) := (g_al w5 _).alloc (by simp) _
  have hz6 : ((w5.alloc (.cells #[.int .u64 1, .slice a1 0 d1, .slice a2 1 d2, .int .u64 1, .int .u64 2, .slice a3 1 d3] 34)).alloc (.cells #[.int .u64 7, .slice f1 1 g1, .slice f2 0 g2, .int .u64 1, .int .u64 2, .slice f3 1 g3] 34)).heap.size = w5.heap.size + 1 + 1 := by simp
  have hl6 : ((w5.alloc (.cells #[.int .u64 1, .slice a1 0 d1, .slice a2 1 d2, .int .u64 1, .int .u64 2, .slice a3 1 d3] 34)).alloc (.cells #[.int .u64 7, .slice f1 1 g1, .slice f2 0 g2, .int .u64 1, .int .u64 2, .slice f3 1 g3] 34)).heap[w5.heap.size]? = some (.cells #[.int .u64 1, .slice a1 0 d1, .slice a2 1 d2, .int .u64 1, .int .u64 2, .slice a3 1 d3] 34 (0, 0)) := (Below.heap_alloc _ _ _ (by simp)).trans (heap_alloc_new w5 _)
  have hh6 : ((w5.alloc (.cells #[.int .u64 1, .slice a1 0 d1, .slice a2 1 d2, .int .u64 1, .int .u64 2, .slice a3 1 d3] 34)).alloc (.cells #[.int .u64 7, .slice f1 1 g1, .slice f2 0 g2, .int .u64 1, .int .u64 2, .slice f3 1 g3] 34)).heap[w5.heap.size + 1]? = some (.cells #[.int .u64 7, .slice f1 1 g1, .slice f2 0 g2, .int .u64 1, .int .u64 2, .slice f3 1 g3] 34 (0, 0)) := by
    have := heap_alloc_new (w5.alloc (.cells #[.int .u64 1, .slice a1 0 d1, .slice a2 1 d2, .int .u64 1, .int .u64 2, .slice a3 1 d3] 34)) (.cells #[.int .u64 7, .slice f1 1 g1, .slice f2 0 g2, .int .u64 1, .int .u64 2, .slice f3 1 g3] 34)
    rw [World.size_alloc] at this
    exact this
  have hrd := rdrs_lit2 ((w5.alloc (.cells #[.int .u64 1, .slice a1 0 d1, .slice a2 1 d2, .int .u64 1, .int .u64 2, .slice a3 1 d3] 34)).alloc (.cells #[.int .u64 7, .slice f1 1 g1, .slice f2 0 g2, .int .u64 1, .int .u64 2, .slice f3 1 g3] 34)) _ _ (HI1.out.below hW6 (Nat.le_refl _)) (HI2.out.below hW6 (Nat.le_refl _)) (w5.heap.size + 1 + 1) (by simp) 34 _ rfl
  have hpt := partition_any hrd (by simp) (by rw [aw_full]; simp)
  generalize ((w5.alloc (.cells #[.int .u64 1, .slice a1 0 d1, .slice a2 1 d2, .int .u64 1, .int .u64 2, .slice a3 1 d3] 34)).alloc (.cells #[.int .u64 7, .slice f1 1 g1, .slice f2 0 g2, .int .u64 1, .int .u64 2, .slice f3 1 g3] 34)) = X6 at *
  refine Calls.mono hpt ?_
  rintro x w7 ⟨q, hqp, hqs, rfl, hb7⟩
  rw [aw_two hqp hqs]
  have hb67 : Below X6.heap.size X6 w7 := (g_al X6 _).trans (hb7.mono (g_al X6 _).size)
  have HL : Hid (∀ W, Below X6.heap.size X6 W → W.heap[w5.heap.size]? = some (.cells #[.int .u64 1, .slice a1 0 d1, .slice a2 1 d2, .int .u64 1, .int .u64 2, .slice a3 1 d3] 34 (0, 0)) ∧ W.heap[w5.heap.size + 1]? = some (.cells #[.int .u64 7, .slice f1 1 g1, .slice f2 0 g2, .int .u64 1, .int .u64 2, .slice f3 1 g3] 34 (0, 0))) := fun W hW => ⟨(hW.block _ (lt_of_some hl6)).trans hl6, (hW.block _ (lt_of_some hh6)).trans hh6⟩
  obtain ⟨l0, l1, l2, l3, l4, l5, _⟩ := cells6 (HL.out w7 hb67).1
  have hrd1 := rdrs_lit1 w7 _ ((HI1.out.below hW6 (Nat.le_refl _)).below hb67 (Nat.le_refl _)) w7.heap.size rfl 34 _ rfl
  have hpt1 := partition_any hrd1 (by simp) (by rw [aw_full1]; simp)
  clear hrd hpt hqp hqs hrd1 hz6 hl6 hh6
  go_wp2_with fail
  refine Calls.mono hpt1 ?_
  rintro x w8 ⟨q1, hq1p, _, rfl, hb8⟩
  rw [aw_one hq1p]
  have hb68 : Below X6.heap.size X6 w8 := hb67.trans (((g_al w7 _).trans (hb8.mono (g_al w7 _).size)).mono hb67.size)
  clear l0 l1 l2 l3 l4 l5
  obtain ⟨m0, m1, m2, m3, m4, m5, _⟩ := cells6 (HL.out w8 hb68).2
  have HI8 := (HI2.out.below hW6 (Nat.le_refl _)).below hb68 (Nat.le_refl _)
  have hb58 : Below w.heap.size w w8 := hB5.trans ((hW6.trans (hb68.mono hW6.size)).mono hB5.size)
  have hcz : Calls Try.prog 15 #[.agg #[.int .u64 7, .slice f1 1 g1, .slice f2 0 g2, .int .u64 1, .int .u64 2, .slice f3 1 g3], .slice (some ⟨w8.heap.size, 0, none⟩) 1 1] (w8.alloc (.cells #[.int .u8 122] 5 (1, 2))) fun x w' => x = .returned (.bool true) ∧ Below (w8.alloc (.cells #[.int .u8 122] 5 (1, 2))).heap.size (w8.alloc (.cells #[.int .u8 122] 5 (1, 2))) w' := by
    have := covers_any (i := 7) (c := 1) (r := 2) (pa := f3) (pn := 1) (pk := g3) (HI8.s.alloc (.cells #[.int .u8 122] 5 (1, 2))) (HI8.e.alloc (.cells #[.int .u8 122] 5 (1, 2))) (rd_litH w8 _ rfl 122 122 rfl (1, 2) 5)
    rw [aw_cov] at this
    exact this
  clear hpt1 hq1p
  go_wp2_with fail
  refine Calls.mono hcz ?_
  rintro x w9 ⟨rfl, hb9⟩
  go_wp2_with fail
  go_ret
  exact ⟨rfl, (hb58.alloc hb58.size _).trans (hb9.mono (Nat.le_trans hb58.size (g_al w8 _).size))⟩
end Go.Proofs.Ytnapkomjegbhcaa
