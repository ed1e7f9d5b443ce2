/- sched.only: those of the peers that are all that is asked. -/
import Derived.Test.YtedfjacmaidhkaaGreatG6
import Derived.Laws.EntriesVeiled
import Derived.Deep.Cut
namespace Go.Proofs.YtedfjacmaidhkaaGreat
open Go.RowKit
set_option linter.unusedVariables false
set_option linter.unusedSimpArgs false
set_option maxRecDepth 100000

/-- A slice of function values, each of which tells what it is asked for. -/
def RdIs (w : World) (v : Value) (oks : List (Pe → Bool)) : Prop := ∃ a c, v = .slice (some a) oks.length c ∧ oks.length ≤ c ∧ c ≤ 9223372036854775807 ∧ ∀ i ok, oks[i]? = some ok → ∃ f, w.cell? (a.add i) = some f ∧ Is w f ok
theorem RdIs.below {w w' : World} {v : Value} {oks : List (Pe → Bool)} (h : RdIs w v oks) (hb : Below w.heap.size w w') : RdIs w' v oks := by
  obtain ⟨a, c, e, h1, h2, h3⟩ := h
  refine ⟨a, c, e, h1, h2, fun i ok hi => ?_⟩
  obtain ⟨f, q1, q2⟩ := h3 i ok hi
  exact ⟨f, by rw [hb.cell (World.block_lt_of_cell? w _ q1)]; exact q1, q2.below hb⟩
theorem ob_al (w : World) (o : Obj) : Below w.heap.size w (w.alloc o) := (Below.refl _ _).alloc (Nat.le_refl _) o
theorem rdpe_1 {w : World} {g : Nat} {p : Pe} (h : w.heap[g]? = some (.cells #[.int .u64 (p.1.toNat : Int), .int .i64 p.2.1, .bool p.2.2] 44 (0, 0))) : RdPe w (.slice (some ⟨g, 0, none⟩) 1 1) [p] := by
  obtain ⟨c0, c1, c2, _⟩ := cells3 h
  refine ⟨some ⟨g, 0, none⟩, 1, rfl, by simp, by simp [maxLen], (fun e => by cases e), fun i q hi => ?_⟩
  match i with
  | 0 =>
    simp at hi; subst hi
    refine ⟨_, rfl, ?_, ?_, ?_⟩ <;> rw [Addr.add_lit] <;> simp only [Nat.zero_add, Nat.zero_mul]
    · exact c0
    · exact c1
    · exact c2
  | i + 1 => simp at hi
set_option maxHeartbeats 1000000 in
theorem isAll_any {p0 : UInt64} {p1 : Int} {p2 : Bool} {v : Value} {oks : List (Pe → Bool)} {w : World} (hr : RdIs w v oks) :
    Calls Tryz.prog 50 #[.agg #[.int .u64 (p0.toNat : Int), .int .i64 p1, .bool p2], v] w fun e w' => e = .returned (.bool (oks.all (fun ok => ok (p0, p1, p2)))) ∧ Below w.heap.size w w' := by
  obtain ⟨a, c, rfl, h1, h2, h3⟩ := hr
  have hb0 := ob_al w (.cells #[.int .u64 (p0.toNat : Int), .int .i64 p1, .bool p2] 44)
  have hk0 := heap_new w (.cells #[.int .u64 (p0.toNat : Int), .int .i64 p1, .bool p2] 44)
  have hz0 : (w.alloc (.cells #[.int .u64 (p0.toNat : Int), .int .i64 p1, .bool p2] 44)).heap.size = w.heap.size + 1 := by simp
  generalize hres : oks.all (fun ok => ok (p0, p1, p2)) = res at *
  have HRES : Hid (res = oks.all (fun ok => ok (p0, p1, p2))) := hres.symm
  clear hres
  have H3 : Hid (∀ i ok, oks[i]? = some ok → ∃ f, w.cell? (a.add i) = some f ∧ Is w f ok) := h3
  generalize hn : oks.length = n at *
  have HN : Hid (oks.length = n) := hn
  clear h3 hn
  go_enter Tryz.func50, Tryz.ntmps50
  go_upto_region 1 with fail
  generalize World.alloc w _ = w0 at *
  go_wp2_with fail
  go_loopw [6, 9] (fun _ i wr => ∃ k : Nat, k ≤ n ∧ i = .int .i64 k ∧ Hid (res = (oks.drop k).all (fun ok => ok (p0, p1, p2))) ∧ Below w0.heap.size w0 wr) (fun _ i _ => n - (intOf i).toNat)
  case atStart => exact ⟨0, Nat.zero_le _, rfl, HRES.out, Below.refl _ _⟩
  case round =>
    obtain ⟨k, hk, rfl, HX, hb⟩ := hrel
    have hbw : Below w.heap.size w wr := hb0.trans (hb.mono hb0.size)
    by_cases hlt : k < n
    · obtain ⟨ok, hok⟩ : ∃ ok, oks[k]? = some ok := ⟨_, List.getElem?_eq_getElem (by rw [HN.out]; exact hlt)⟩
      have HT : Hid (oks.drop k = ok :: oks.drop (k + 1)) := by
        obtain ⟨hl, rfl⟩ := List.getElem?_eq_some_iff.1 hok
        exact List.drop_eq_getElem_cons hl
      obtain ⟨f, hc0, hIs⟩ := H3.out k ok hok
      have hcf : wr.cell? (a.add k) = some f := by rw [hbw.cell (World.block_lt_of_cell? w _ hc0)]; exact hc0
      obtain ⟨F, caps, ⟨rfl, hE, hcp⟩, hx⟩ := hIs
      have hx1 := hx (p0, p1, p2) wr hbw
      simp only [peV] at hx1
      have hkb : wr.heap[w.heap.size]? = some (.cells #[.int .u64 (p0.toNat : Int), .int .i64 p1, .bool p2] 44 (0, 0)) := (hb.block _ (by omega)).trans hk0
      obtain ⟨m0, m1, m2, _⟩ := cells3 hkb
      have hki : (k : Int) < (n : Int) := by omega
      clear hx hc0 hok hkb
      generalize hov : ok (p0, p1, p2) = ov at *
      have HOV : Hid (ok (p0, p1, p2) = ov) := hov
      clear hov
      have HS : Hid (res = (ov && (oks.drop (k + 1)).all (fun ok => ok (p0, p1, p2)))) := by
        show _ = _
        rw [HX.out, HT.out, List.all_cons, HOV.out]
      rcases hcp with rfl | ⟨cv, rfl⟩
      · rw [show ∀ u : Value, (#[] : Array Value) ++ #[u] = #[u] from fun u => by simp] at hx1
        cases ov with
        | true =>
          go_wp2_with fail
          refine hx1.mono ?_
          rintro e w1 ⟨rfl, hb1⟩
          go_wp2_with fail
          exact ⟨⟨k + 1, by omega, by go_num, by show _ = _; rw [HS.out]; rfl, hb.trans (hb1.mono hb.size)⟩, by simp [intOf]; omega⟩
        | false =>
          go_wp2_with fail
          refine hx1.mono ?_
          rintro e w1 ⟨rfl, hb1⟩
          go_wp2_with fail
          go_ret
          exact ⟨by rw [HS.out]; rfl, hbw.trans (hb1.mono hbw.size)⟩
      · rw [show ∀ u : Value, (#[cv] : Array Value) ++ #[u] = #[cv, u] from fun u => by simp] at hx1
        cases ov with
        | true =>
          go_wp2_with fail
          refine hx1.mono ?_
          rintro e w1 ⟨rfl, hb1⟩
          go_wp2_with fail
          exact ⟨⟨k + 1, by omega, by go_num, by show _ = _; rw [HS.out]; rfl, hb.trans (hb1.mono hb.size)⟩, by simp [intOf]; omega⟩
        | false =>
          go_wp2_with fail
          refine hx1.mono ?_
          rintro e w1 ⟨rfl, hb1⟩
          go_wp2_with fail
          go_ret
          exact ⟨by rw [HS.out]; rfl, hbw.trans (hb1.mono hbw.size)⟩
    · have HE : Hid (res = true) := by
        show _ = _
        rw [HX.out, List.drop_of_length_le (by rw [HN.out]; omega)]; rfl
      go_wp2_with fail
      go_ret
      exact ⟨by rw [HE.out]; rfl, hbw⟩
def onlyF (ps : List Pe) (oks : List (Pe → Bool)) : List Pe := ps.filter (fun p => oks.all (fun ok => ok p))
set_option maxHeartbeats 2000000 in
theorem only_any {v u : Value} {ps : List Pe} {oks : List (Pe → Bool)} {w : World} (hp : RdPe w v ps) (hr : RdIs w u oks) (hl : ps.length ≤ 1099511627000) :
    Calls Tryz.prog 25 #[v, u] w fun e w' => ∃ x, e = .returned x ∧ OwPe w.heap.size w' x (onlyF ps oks) ∧ Below w.heap.size w w' := by
  have HP : Hid (RdPe w v ps) := hp
  have HIS : Hid (RdIs w u oks) := hr
  obtain ⟨ao, c, rfl, h1, h2⟩ := hp.shape
  obtain ⟨au, cu, rfl, k1, k2, -⟩ := hr
  have hal := fun (p0 : UInt64) (p1 : Int) (p2 : Bool) W (hW : Below w.heap.size w W) => isAll_any (p0 := p0) (p1 := p1) (p2 := p2) (HIS.out.below hW)
  have HAL : Hid _ := hal
  have hn0 : OwPe w.heap.size w (.slice none 0 0) [] := OwPe.nil _ _
  clear hp hal
  generalize oks.length = no at *
  generalize hnn : ps.length = n at *
  have HN : Hid (ps.length = n) := hnn
  clear hnn
  go_enter Tryz.func25, Tryz.ntmps25
  go_wp2_with fail
  go_loopw [5, 7, 10] (fun ov _ i wr => ∃ k : Nat, k ≤ n ∧ i = .int .i64 k ∧ (∃ a m d, ov = .slice a m d) ∧ OwPe w.heap.size wr ov (onlyF (ps.take k) oks) ∧ Below w.heap.size w wr) (fun _ _ i _ => n - (intOf i).toNat)
  case atStart => exact ⟨0, Nat.zero_le _, rfl, ⟨_, _, _, rfl⟩, hn0, Below.refl _ _⟩
  case round =>
    obtain ⟨k, hk, rfl, ⟨oa, om, od, rfl⟩, hO, hb⟩ := hrel
    clear hn0
    by_cases hlt : k < n
    · have hlt' : k < ps.length := by rw [HN.out]; exact hlt
      have HT : Hid (ps.take (k + 1) = ps.take k ++ [ps[k]]) := by show _ = _; rw [List.take_append_getElem hlt']
      obtain ⟨ao', c', e, _, _, _, h4⟩ := HP.out.below hb (Nat.le_refl _)
      simp only [Value.slice.injEq, true_and] at e
      obtain ⟨rfl, -, rfl⟩ := e
      obtain ⟨a, rfl, hc⟩ := h4 k _ (List.getElem?_eq_getElem hlt')
      clear h4
      obtain ⟨c0, c1, c2⟩ := hc
      have hki : (k : Int) < (n : Int) := by omega
      generalize ps[k] = e at *
      obtain ⟨e0, e1, e2⟩ := e
      simp only [] at c0 c1 c2
      have hbx := ob_al wr (.cells #[.int .u64 (e0.toNat : Int), .int .i64 e1, .bool e2] 44)
      have hkx := heap_new wr (.cells #[.int .u64 (e0.toNat : Int), .int .i64 e1, .bool e2] 44)
      have hzx : (wr.alloc (.cells #[.int .u64 (e0.toNat : Int), .int .i64 e1, .bool e2] 44)).heap.size = wr.heap.size + 1 := by simp
      have HOX : Hid (OwPe w.heap.size (wr.alloc (.cells #[.int .u64 (e0.toNat : Int), .int .i64 e1, .bool e2] 44)) (.slice oa om od) (onlyF (ps.take k) oks)) := hO.below hbx (Nat.le_refl _)
      have hbwx : Below w.heap.size w (wr.alloc (.cells #[.int .u64 (e0.toNat : Int), .int .i64 e1, .bool e2] 44)) := hb.trans (hbx.mono hb.size)
      have hxl : (onlyF (ps.take k) oks).length ≤ n := Nat.le_trans (List.length_filter_le _ _) (by rw [List.length_take]; omega)
      have HLE : Hid ((onlyF (ps.take k) oks).length + 1 ≤ 1099511627776) := by show _ ≤ _; omega
      clear hO hbx hxl
      go_upto_region 5 with fail
      generalize World.alloc wr _ = wx at *
      have hca := HAL.out e0 e1 e2 wx hbwx
      obtain ⟨n0, n1, n2, _⟩ := cells3 hkx
      generalize hov : oks.all (fun ok => ok (e0, e1, e2)) = bv at hca
      have HOV : Hid (oks.all (fun ok => ok (e0, e1, e2)) = bv) := hov
      clear hov
      have hws : w.heap.size ≤ wx.heap.size := hbwx.size
      have hwrx : wr.heap.size < wx.heap.size := by omega
      have HBX : Hid (Below w.heap.size w wx) := hbwx
      clear hbwx
      cases bv with
      | true =>
        have HS : Hid (onlyF (ps.take (k + 1)) oks = onlyF (ps.take k) oks ++ [(e0, e1, e2)]) := by
          show _ = _
          rw [HT.out]; unfold onlyF; rw [List.filter_append]; simp [HOV.out]
        go_wp2_with fail
        refine hca.mono ?_
        rintro e w3 ⟨rfl, hb3⟩
        have hk3 : w3.heap[wr.heap.size]? = some (.cells #[.int .u64 (e0.toNat : Int), .int .i64 e1, .bool e2] 44 (0, 0)) := (hb3.block _ hwrx).trans hkx
        obtain ⟨s0, s1, s2, _⟩ := cells3 hk3
        have HO3 : Hid (OwPe w.heap.size w3 (.slice oa om od) (onlyF (ps.take k) oks)) := HOX.out.below hb3 (Nat.le_refl _)
        have HB3 : Hid (Below w.heap.size w w3) := HBX.out.trans (hb3.mono hws)
        have hs3 : w.heap.size ≤ w3.heap.size := HB3.out.size
        clear hca n0 n1 n2 hkx hk3 hb3
        go_wp2_with (first | (at_builtin; refine wpList_appPe rfl _ _ rfl w.heap.size _ (onlyF (ps.take k) oks) rfl (HO3.out.below (ob_al w3 _) (Nat.le_refl _)) _ [(e0, e1, e2)] rfl (rdpe_1 (heap_new w3 _)) ?hx1 ?hx2 ?_; rotate_right; (intro v7 w7 ho7 hg7 hw7; have hb7 : Below w.heap.size (w3.alloc (.cells #[.int .u64 (e0.toNat : Int), .int .i64 e1, .bool e2] 44)) w7 := (Below.refl _ _).grown hg7 (by rw [World.size_alloc]; omega) (fun j e => (World.ownsRow.lt HO3.out j e).1)); obtain ⟨a7, m7, d7, rfl⟩ := row_shape ho7) | fail)
        case hx1 => rw [World.size_alloc]; omega
        case hx2 => exact HLE.out
        exact ⟨⟨k + 1, by omega, by go_num, ⟨_, _, _, rfl⟩, by rw [HS.out]; exact ho7, (HB3.out.trans ((ob_al w3 _).mono hs3)).trans hb7⟩, by simp [intOf]; omega⟩
      | false =>
        have HS : Hid (onlyF (ps.take (k + 1)) oks = onlyF (ps.take k) oks) := by
          show _ = _
          rw [HT.out]; unfold onlyF; rw [List.filter_append]; simp [HOV.out]
        go_wp2_with fail
        refine hca.mono ?_
        rintro e w3 ⟨rfl, hb3⟩
        have HO3 : Hid (OwPe w.heap.size w3 (.slice oa om od) (onlyF (ps.take k) oks)) := HOX.out.below hb3 (Nat.le_refl _)
        have HB3 : Hid (Below w.heap.size w w3) := HBX.out.trans (hb3.mono hws)
        clear hca n0 n1 n2 hkx hb3
        go_wp2_with fail
        exact ⟨⟨k + 1, by omega, by go_num, ⟨_, _, _, rfl⟩, by rw [HS.out]; exact HO3.out, HB3.out⟩, by simp [intOf]; omega⟩
    · have HE : Hid (OwPe w.heap.size wr (.slice oa om od) (onlyF ps oks)) := by
        show OwPe _ _ _ _
        rw [List.take_of_length_le (by rw [HN.out]; omega)] at hO
        exact hO
      clear hO
      go_wp2_with fail
      go_ret
      exact ⟨_, rfl, HE.out, hb⟩
end Go.Proofs.YtedfjacmaidhkaaGreat
