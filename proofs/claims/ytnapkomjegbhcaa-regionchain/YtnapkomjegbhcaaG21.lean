/- Lists of regions in memory; spansOf. -/
import Derived.Test.YtnapkomjegbhcaaG20
namespace Go.Proofs.Ytnapkomjegbhcaa
open Go.RowKit
set_option linter.unusedVariables false
set_option maxRecDepth 100000

/-- A region's cells. -/
abbrev V6 := Int × Value × Value × Int × Int × Value
def c6 (u : V6) : List Value := [.int .u64 u.1, u.2.1, u.2.2.1, .int .u64 u.2.2.2.1, .int .u64 u.2.2.2.2.1, u.2.2.2.2.2]
def c6s (us : List V6) : List Value := us.flatMap c6
theorem c6_len (u : V6) : (c6 u).length = 6 := rfl
theorem c6s_len (us : List V6) : (c6s us).length = us.length * 6 := fm_len c6_len us
theorem c6s_app (a b : List V6) : c6s (a ++ b) = c6s a ++ c6s b := by simp [c6s]
def Sl (v : Value) : Prop := ∃ a n c, v = .slice a n c
/-- A region's cells, its Start and its End. -/
abbrev R3 := V6 × List UInt8 × List UInt8
structure It (w : World) (r : R3) : Prop where
  s : Rd w r.1.2.1 r.2.1
  e : Rd w r.1.2.2.1 r.2.2
  p : Sl r.1.2.2.2.2.2
theorem It.below {B : Nat} {w w' : World} {r : R3} (h : It w r) (hb : Below B w w') (hB : w.heap.size ≤ B) : It w' r := ⟨h.s.below hb hB, h.e.below hb hB, h.p⟩
theorem It.one {w : World} {r : R3} (h : It w r) : ∀ u ∈ c6 r.1, u.oneCell' = true := by
  obtain ⟨a, c, e1⟩ := h.s.shp
  obtain ⟨a', c', e2⟩ := h.e.shp
  obtain ⟨a'', n'', c'', e3⟩ := h.p
  intro u hu
  simp only [c6, List.mem_cons, List.not_mem_nil, or_false] at hu
  rcases hu with rfl | rfl | rfl | rfl | rfl | rfl
  · rfl
  · rw [e1]; rfl
  · rw [e2]; rfl
  · rfl
  · rfl
  · rw [e3]; rfl
/-- At this address a region lies. -/
def At6 (w : World) (a : Addr) (u : V6) : Prop := ∀ (j : Nat) (x : Value), (c6 u)[j]? = some x → w.cell? (if j = 0 then a else ⟨a.block, a.off + j, none⟩) = some x
/-- The slice value reads as these regions. -/
def RdRs (w : World) (v : Value) (rs : List R3) : Prop :=
  ∃ ao c, v = .slice ao rs.length c ∧ rs.length ≤ c ∧ c ≤ maxLen ∧ ∀ i r, rs[i]? = some r → It w r ∧ ∃ a, ao = some a ∧ At6 w (a.add (i * 6)) r.1
theorem At6.below {B : Nat} {w w' : World} {a : Addr} {u : V6} (h : At6 w a u) (hb : Below B w w') (hB : w.heap.size ≤ B) : At6 w' a u := fun j x e => by
  have := h j x e
  rw [hb.cell (by have := World.block_lt_of_cell? w _ this; omega)]; exact this
theorem RdRs.below {B : Nat} {w w' : World} {v : Value} {rs : List R3} (h : RdRs w v rs) (hb : Below B w w') (hB : w.heap.size ≤ B) : RdRs w' v rs := by
  obtain ⟨ao, c, h0, h1, h2, h4⟩ := h
  refine ⟨ao, c, h0, h1, h2, fun i r hi => ?_⟩
  obtain ⟨q, a, e, hc⟩ := h4 i r hi
  exact ⟨q.below hb hB, a, e, hc.below hb hB⟩
theorem At6.six {w : World} {a : Addr} {u : V6} (h : At6 w a u) : w.cell? a = some (.int .u64 u.1) ∧ w.cell? ⟨a.block, a.off + 1, none⟩ = some u.2.1 ∧ w.cell? ⟨a.block, a.off + 2, none⟩ = some u.2.2.1 ∧ w.cell? ⟨a.block, a.off + 3, none⟩ = some (.int .u64 u.2.2.2.1) ∧ w.cell? ⟨a.block, a.off + 4, none⟩ = some (.int .u64 u.2.2.2.2.1) ∧ w.cell? ⟨a.block, a.off + 5, none⟩ = some u.2.2.2.2.2 :=
  ⟨h 0 _ rfl, h 1 _ rfl, h 2 _ rfl, h 3 _ rfl, h 4 _ rfl, h 5 _ rfl⟩
/-- The regions in which anything lies. -/
def fullR (rs : List R3) : List R3 := rs.filter (fun r => cov r.2.1 r.2.2 r.2.1)
theorem fullR_snoc (rs : List R3) (r : R3) : fullR (rs ++ [r]) = if cov r.2.1 r.2.2 r.2.1 = true then fullR rs ++ [r] else fullR rs := by
  unfold fullR
  rw [List.filter_append]
  by_cases h : cov r.2.1 r.2.2 r.2.1 = true
  · rw [if_pos h]; simp [h]
  · rw [if_neg h]; simp [h]
theorem fullR_len (rs : List R3) : (fullR rs).length ≤ rs.length := List.length_filter_le _ _
/-- A row of spans of the call's own. -/
def OwS (B : Nat) (w : World) (v : Value) (us : List V6) : Prop := w.ownsRow B 63 6 v us.length (c6s us)
theorem Try.infoS : (Try.prog.info? 63).map (fun i => (i.zero, i.size, i.bytes)) = some (some (.agg #[.int .u64 0, .slice none 0 0, .slice none 0 0, .int .u64 0, .int .u64 0, .slice none 0 0]), 6, 96) := by kernel_rfl
theorem wpList_appS6 {w : World} {ops : Array Oper} {rest : List Oper} {o : Oper} {a : Act} {Q : Exit → Act → World → Prop} (hgd : o.guard = none) (s x : Operand)
    (ho : o.op = .call { callee := .builtin .append, args := #[s, x], argTypes := #[60, 60] })
    (B : Nat) (v : Value) (us : List V6) (hs : a.eval s = v) (hown : OwS B w v us) (g c : Nat) (r : R3) (hit : It w r) (hx : a.eval x = .slice (some ⟨g, 0, none⟩) 1 c)
    (hg : w.heap[g]? = some (.cells (c6 r.1).toArray 63 (0, 0))) (hB : B ≤ w.heap.size) (hlen : us.length + 1 ≤ 1099511627776)
    (h : ∀ v' w', OwS B w' v' (us ++ [r.1]) → w.grownBy w' v.ownBlock → (v'.ownBlock = v.ownBlock ∨ v'.ownBlock = some w.heap.size) → wpList Try.prog ops Q rest (a.put o.dst v') w') : wpList Try.prog ops Q (o :: rest) a w := by
  refine wpList_plain hgd fun K hK => ?_
  obtain ⟨v', w', hr, q2, q3, q4⟩ := run_appW (P := Try.prog) w B 60 o.type 63 _ 6 96 Try.underlying60 Try.infoS rfl (by decide) v us.length (c6s us) hown ⟨g, 0, none⟩ 1 c (c6 r.1) rfl (by
    intro j u hu
    rw [Addr.add_lit, Nat.zero_add, cell_of_row _ _ _ _ _ _ hg]
    simpa using hu) hit.one (by unfold maxLen; omega) (by omega) hB
  unfold Oper.wp execOp
  simp only [ho, resolve, invoke, builtin, Sem.run_bind, Sem.run_pure, Result.andThen_ok, List.map_toArray, List.map_cons, List.map_nil, hs, hx, hr]
  refine hK _ _ (h v' w' ?_ q3 q4)
  unfold OwS
  rw [c6s_app, List.length_append]
  simpa [c6s] using q2
set_option maxHeartbeats 2000000 in
theorem spansOf_any {v : Value} {rs : List R3} {w : World} (hr : RdRs w v rs) (hl : rs.length ≤ 1099511627775) :
    Calls Try.prog 26 #[v] w fun x w' => ∃ v', x = .returned v' ∧ OwS w.heap.size w' v' ((fullR rs).map (·.1)) ∧ Below w.heap.size w w' := by
  have HR : Hid (RdRs w v rs) := hr
  obtain ⟨ao, c, rfl, h1, h2, h4⟩ := hr
  unfold maxLen at h2
  clear h4
  go_enter Try.func26, Try.ntmps26
  go_wp2_with fail
  go_loopw [3, 5, 8] (fun u _ i wr => ∃ k : Nat, k ≤ rs.length ∧ i = .int .i64 k ∧ OwS w.heap.size wr u ((fullR (rs.take k)).map (·.1)) ∧ Below w.heap.size w wr) (fun _ _ i _ => rs.length - (intOf i).toNat)
  case atStart => exact ⟨0, Nat.zero_le _, rfl, World.ownsRow_nil _ _ _ _, Below.refl _ _⟩
  case round =>
    obtain ⟨k, hk, rfl, ho, hb⟩ := hrel
    by_cases hlt : k < rs.length
    · obtain ⟨r, hrk⟩ : ∃ r, rs[k]? = some r := ⟨_, List.getElem?_eq_getElem hlt⟩
      obtain ⟨ao', c', e, _, _, h4⟩ := HR.out.below hb (Nat.le_refl _)
      simp only [Value.slice.injEq, true_and] at e
      obtain ⟨rfl, rfl⟩ := e
      obtain ⟨hit, a, rfl, hat⟩ := h4 k r hrk
      obtain ⟨c0, c1, c2, c3, c4, c5⟩ := hat.six
      have HT : Hid (fullR (rs.take (k + 1)) = if cov r.2.1 r.2.2 r.2.1 = true then fullR (rs.take k) ++ [r] else fullR (rs.take k)) := by
        show _ = _
        have e1 : rs.take (k + 1) = rs.take k ++ [r] := by rw [List.take_add_one, hrk]; rfl
        rw [e1, fullR_snoc]
      have hln : ((fullR (rs.take k)).map (·.1)).length + 1 ≤ 1099511627776 := by
        have := fullR_len (rs.take k)
        rw [List.length_take] at this
        rw [List.length_map]; omega
      have HIT : Hid (It wr r) := hit
      obtain ⟨⟨u0, u1, u2, u3, u4, u5⟩, rs0, re0⟩ := r
      obtain ⟨sa, sc, e1⟩ := hit.s.shp
      obtain ⟨ea, ec, e2⟩ := hit.e.shp
      obtain ⟨pa, pn, pk, e3⟩ := hit.p
      simp only [] at e1 e2 e3 c0 c1 c2 c3 c4 c5 HT
      subst e1
      subst e2
      subst e3
      have hB1 : Below w.heap.size w (wr.alloc (.cells #[.int .u64 u0, .slice sa rs0.length sc, .slice ea re0.length ec, .int .u64 u3, .int .u64 u4, .slice pa pn pk] 34)) := hb.alloc hb.size _
      have hcv : Calls Try.prog 15 #[.agg #[.int .u64 u0, .slice sa rs0.length sc, .slice ea re0.length ec, .int .u64 u3, .int .u64 u4, .slice pa pn pk], .slice sa rs0.length sc] (wr.alloc (.cells #[.int .u64 u0, .slice sa rs0.length sc, .slice ea re0.length ec, .int .u64 u3, .int .u64 u4, .slice pa pn pk] 34)) _ := covers_any ((HIT.out.s).alloc _) ((HIT.out.e).alloc _) ((HIT.out.s).alloc _)
      have HBX : Hid (∀ W, Below (wr.alloc (.cells #[.int .u64 u0, .slice sa rs0.length sc, .slice ea re0.length ec, .int .u64 u3, .int .u64 u4, .slice pa pn pk] 34)).heap.size (wr.alloc (.cells #[.int .u64 u0, .slice sa rs0.length sc, .slice ea re0.length ec, .int .u64 u3, .int .u64 u4, .slice pa pn pk] 34)) W → W.heap[wr.heap.size]? = some (.cells #[.int .u64 u0, .slice sa rs0.length sc, .slice ea re0.length ec, .int .u64 u3, .int .u64 u4, .slice pa pn pk] 34 (0, 0))) := fun W hW => box6 hW
      have hoA : OwS w.heap.size (wr.alloc (.cells #[.int .u64 u0, .slice sa rs0.length sc, .slice ea re0.length ec, .int .u64 u3, .int .u64 u4, .slice pa pn pk] 34)) _ ((fullR (rs.take k)).map (·.1)) := ownsRow_belP ho (g_al _ _) (Nat.le_refl _)
      have hszA : wr.heap.size ≤ (wr.alloc (.cells #[.int .u64 u0, .slice sa rs0.length sc, .slice ea re0.length ec, .int .u64 u3, .int .u64 u4, .slice pa pn pk] 34)).heap.size := (g_al _ _).size
      have HIA : Hid (It (wr.alloc (.cells #[.int .u64 u0, .slice sa rs0.length sc, .slice ea re0.length ec, .int .u64 u3, .int .u64 u4, .slice pa pn pk] 34)) ((u0, .slice sa rs0.length sc, .slice ea re0.length ec, u3, u4, .slice pa pn pk), rs0, re0)) := HIT.out.below (g_al _ _) (Nat.le_refl _)
      clear hit hat h4 hrk ho
      generalize (fullR (rs.take k)) = L at *
      go_wp2_with fail
      generalize (wr.alloc (.cells #[.int .u64 u0, .slice sa rs0.length sc, .slice ea re0.length ec, .int .u64 u3, .int .u64 u4, .slice pa pn pk] 34)) = W1 at *
      refine hcv.mono ?_
      rintro x w2 ⟨rfl, hb2⟩
      have hB2 : Below w.heap.size w w2 := hB1.trans (hb2.mono hB1.size)
      have ho2 := ownsRow_belP hoA hb2 (Nat.le_refl _)
      obtain ⟨d0, d1, d2, d3, d4, d5, _⟩ := cells6 (HBX.out w2 hb2)
      have HI2 := HIA.out.below hb2 (Nat.le_refl _)
      by_cases hcq : cov rs0 re0 rs0 = true
      · rw [hcq]
        have HT2 : Hid (fullR (rs.take (k + 1)) = L ++ [((u0, .slice sa rs0.length sc, .slice ea re0.length ec, u3, u4, .slice pa pn pk), rs0, re0)]) := by show _ = _; rw [HT.out, if_pos hcq]
        have hsw := hB2.size
        go_wp2_with (first | (at_builtin; refine wpList_appS6 rfl _ _ rfl w.heap.size _ (L.map (·.1)) rfl (ownsRow_belP ho2 (g_al _ _) (Nat.le_refl _)) w2.heap.size 1 ((u0, .slice sa rs0.length sc, .slice ea re0.length ec, u3, u4, .slice pa pn pk), rs0, re0) (HI2.below (g_al _ _) (Nat.le_refl _)) rfl (heap_alloc_new w2 _) (by simp; omega) hln ?_; intro v4 w4 ho4 hg4 hw4) | fail)
        refine ⟨⟨k + 1, by omega, by go_num, by rw [HT2.out, List.map_append]; exact ho4, ?_⟩, by simp [intOf]; omega⟩
        exact (hB2.alloc hB2.size _).grown hg4 (by simp; omega) (fun j e => (World.ownsRow.lt ho2 j e).1)
      · have hcq2 : cov rs0 re0 rs0 = false := by simpa using hcq
        rw [hcq2]
        have HT2 : Hid (fullR (rs.take (k + 1)) = L) := by show _ = _; rw [HT.out, if_neg hcq]
        clear hcq hcq2
        go_wp2_with fail
        exact ⟨⟨k + 1, by omega, by go_num, by rw [HT2.out]; exact ho2, hB2⟩, by simp [intOf]; omega⟩
    · obtain rfl : k = rs.length := by omega
      rw [List.take_length] at ho
      go_wp2_with fail
      go_ret
      exact ⟨_, rfl, ho, hb⟩
end Go.Proofs.Ytnapkomjegbhcaa
