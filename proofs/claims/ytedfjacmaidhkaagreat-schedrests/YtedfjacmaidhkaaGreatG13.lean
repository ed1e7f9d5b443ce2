/- toldStores: the views of stores that are some, each store once. -/
import Derived.Test.YtedfjacmaidhkaaGreatG9
import Derived.Test.YtedfjacmaidhkaaGreatG7
import Derived.Test.YtedfjacmaidhkaaGreatG3
namespace Go.Proofs.YtedfjacmaidhkaaGreat
open Go.RowKit Go.Maps
set_option linter.unusedVariables false
set_option linter.unusedSimpArgs false
set_option maxRecDepth 100000

theorem keep_blkT {w w' : World} {g : Nat} {ob : Obj} (h : w.heap[g]? = some ob) (hb : Below w.heap.size w w') : w'.heap[g]? = some ob := (hb.block g (Array.getElem?_eq_some_iff.1 h).1).trans h
theorem cells2 {w : World} {g : Nat} {u0 u1 : Value} {t : TypeId} (h : w.heap[g]? = some (.cells #[u0, u1] t (0, 0))) : w.cell? ⟨g, 0, none⟩ = some u0 ∧ w.cell? ⟨g, 1, none⟩ = some u1 := by
  have k : ∀ i v, (#[u0, u1] : Array Value)[i]? = some v → w.cell? ⟨g, i, none⟩ = some v := fun i v hv => by rw [cell_of_row _ _ _ _ _ _ h]; exact hv
  exact ⟨k 0 _ rfl, k 1 _ rfl⟩
theorem sameSt_any {o1 : Int} {o2 : Bool} {v1 : Int} {v2 : Bool} {g : Nat} {w : World} (h : w.heap[g]? = some (.cells #[.int .i64 v1, .bool v2] 48 (0, 0))) :
    Calls Tryz.prog 55 #[.agg #[.int .i64 o1, .bool o2], .pointer (some ⟨g, 0, none⟩)] w fun e w' => e = .returned (.bool (o1 == v1)) ∧ Below w.heap.size w w' := by
  have hb0 := ob_al w (.cells #[.int .i64 o1, .bool o2] 48)
  obtain ⟨m0, _⟩ := cells2 (keep_blkT h hb0)
  go_enter Tryz.func55, Tryz.ntmps55
  go_wp2_with fail
  go_ret
  exact ⟨by simp, hb0⟩
set_option maxHeartbeats 1000000 in
theorem ixSw_any {v : Value} {l : List Sw} {v1 : Int} {v2 : Bool} {g : Nat} {w : World} (hr : RdSw w v l) (hg : w.heap[g]? = some (.cells #[.int .i64 v1, .bool v2] 48 (0, 0))) :
    Calls Tryz.prog 73 #[v, .func (.func 55) #[] #[.pointer (some ⟨g, 0, none⟩)]] w fun e w' => ∃ r : Int, e = .returned (.int .i64 r) ∧ decide (0 ≤ r) = l.any (fun o => o.1 == v1) ∧ Below w.heap.size w w' := by
  have HR : Hid (RdSw w v l) := hr
  have HG : Hid _ := hg
  obtain ⟨ao, c, rfl, h1, h2, h3⟩ := hr
  have HL : Hid (l.any (fun o => o.1 == v1) = (l.drop 0).any (fun o => o.1 == v1)) := rfl
  generalize hres : l.any (fun o => o.1 == v1) = res at *
  clear h3 hres hg
  generalize hn : l.length = n at *
  have HN : Hid (l.length = n) := hn
  clear hn
  go_enter Tryz.func73, Tryz.ntmps73
  go_wp2_with fail
  go_loopw [5, 8] (fun _ i wr => ∃ k : Nat, k ≤ n ∧ i = .int .i64 k ∧ Hid (res = (l.drop k).any (fun o => o.1 == v1)) ∧ Below w.heap.size w wr) (fun _ i _ => n - (intOf i).toNat)
  case atStart => exact ⟨0, Nat.zero_le _, rfl, HL, Below.refl _ _⟩
  case round =>
    obtain ⟨k, hk, rfl, HX, hb⟩ := hrel
    by_cases hlt : k < n
    · have hlt' : k < l.length := by rw [HN.out]; exact hlt
      have HT : Hid (l.drop k = l[k] :: l.drop (k + 1)) := List.drop_eq_getElem_cons hlt'
      obtain ⟨ao', c', e, _, _, h4⟩ := HR.out.below hb (Nat.le_refl _)
      simp only [Value.slice.injEq] at e
      obtain ⟨rfl, -, rfl⟩ := e
      obtain ⟨a, rfl, c0, c1⟩ := h4 k _ (List.getElem?_eq_getElem hlt')
      clear h4
      have hki : (k : Int) < (n : Int) := by omega
      have hlen : n ≤ 9223372036854775807 := by omega
      generalize l[k] = e at *
      obtain ⟨e0, e1⟩ := e
      simp only [] at c0 c1
      have hcl := sameSt_any (o1 := e0) (o2 := e1) (keep_blkT HG.out hb)
      generalize hq : (e0 == v1) = q at *
      have HQ : Hid ((e0 == v1) = q) := hq
      clear hq
      cases q with
      | true =>
        have HS : Hid (res = true) := by
          show _ = _
          rw [HX.out, HT.out, List.any_cons, HQ.out]; rfl
        go_wp2_with fail
        refine hcl.mono ?_
        rintro e w1 ⟨rfl, hb1⟩
        go_wp2_with fail
        go_ret
        exact ⟨_, rfl, by rw [HS.out]; simp, hb.trans (hb1.mono hb.size)⟩
      | false =>
        have HS : Hid (res = (l.drop (k + 1)).any (fun o => o.1 == v1)) := by
          show _ = _
          rw [HX.out, HT.out, List.any_cons, HQ.out]; rfl
        go_wp2_with fail
        refine hcl.mono ?_
        rintro e w1 ⟨rfl, hb1⟩
        go_wp2_with fail
        exact ⟨⟨k + 1, by omega, by go_num, HS.out, hb.trans (hb1.mono hb.size)⟩, by simp [intOf]; omega⟩
    · have HS : Hid (res = false) := by
        show _ = _
        rw [HX.out, List.drop_of_length_le (by rw [HN.out]; omega)]; rfl
      go_wp2_with fail
      go_ret
      exact ⟨_, rfl, by rw [HS.out]; rfl, hb⟩
theorem hasSw_any {v : Value} {l : List Sw} {v1 : Int} {v2 : Bool} {g : Nat} {w : World} (hr : RdSw w v l) (hg : w.heap[g]? = some (.cells #[.int .i64 v1, .bool v2] 48 (0, 0))) :
    Calls Tryz.prog 54 #[v, .func (.func 55) #[] #[.pointer (some ⟨g, 0, none⟩)]] w fun e w' => e = .returned (.bool (l.any (fun o => o.1 == v1))) ∧ Below w.heap.size w w' := by
  have hix := ixSw_any hr hg
  obtain ⟨ao, c, rfl, -⟩ := hr
  generalize l.any (fun o => o.1 == v1) = res at *
  clear hg
  go_enter Tryz.func54, Tryz.ntmps54
  go_wp2_with fail
  refine hix.mono ?_
  rintro e w1 ⟨r, rfl, hr, hb1⟩
  have HR : Hid _ := hr
  clear hr
  go_wp2_with fail
  go_ret
  exact ⟨by rw [← HR.out]; first | rfl | simp, hb1⟩
/-- One view more of a store. -/
def tsS (acc : List Sw) (v : Sw) : List Sw := if acc.any (fun o => o.1 == v.1) = false ∧ 1 ≤ v.1 ∧ v.1 ≤ 5 then acc ++ [v] else acc
def tsF (l : List Sw) : List Sw := l.foldl tsS []
theorem tsS_len (acc : List Sw) (v : Sw) : (tsS acc v).length ≤ acc.length + 1 := by unfold tsS; split <;> simp
theorem ts_len (l : List Sw) : ∀ acc : List Sw, (l.foldl tsS acc).length ≤ acc.length + l.length := by
  induction l with
  | nil => intro acc; simp
  | cons a t ih => intro acc; have := ih (tsS acc a); have := tsS_len acc a; simp only [List.foldl_cons, List.length_cons]; omega
theorem tsF_len (l : List Sw) : (tsF l).length ≤ l.length := by unfold tsF; have := ts_len l []; simpa using this
theorem ts_dom (l : List Sw) : ∀ acc : List Sw, (∀ s ∈ acc, 1 ≤ s.1 ∧ s.1 ≤ 5) → ∀ s ∈ l.foldl tsS acc, 1 ≤ s.1 ∧ s.1 ≤ 5 := by
  induction l with
  | nil => intro acc h; exact h
  | cons a t ih =>
    intro acc h
    refine ih _ (fun s hs => ?_)
    unfold tsS at hs
    split at hs
    · rcases List.mem_append.1 hs with q | q
      · exact h s q
      · rename_i hc; simp only [List.mem_singleton] at q; subst q; exact hc.2
    · exact h s hs
theorem tsF_dom (l : List Sw) : ∀ s ∈ tsF l, 1 ≤ s.1 ∧ s.1 ≤ 5 := ts_dom l [] (by simp)
/-- Views of stores in memory of the call's own. -/
def OwSw (B : Nat) (w : World) (v : Value) (l : List Sw) : Prop := w.ownsRow B 48 2 v l.length (swcs l)
theorem OwSw.nil (B : Nat) (w : World) : OwSw B w (.slice none 0 0) [] := ⟨rfl, .inl ⟨rfl, rfl⟩⟩
theorem OwSw.below {B C : Nat} {w w' : World} {v : Value} {l : List Sw} (h : OwSw B w v l) (hb : Below C w w') (hC : w.heap.size ≤ C) : OwSw B w' v l := ownsRow_belP h hb hC
theorem Tryz.infoSw : (Tryz.prog.info? 48).map (fun i => (i.zero, i.size, i.bytes)) = some (some (.agg #[.int .i64 0, .bool false]), 2, 16) := by kernel_rfl
theorem wpList_appSw {w : World} {ops : Array Oper} {rest : List Oper} {o : Oper} {a : Act} {Q : Exit → Act → World → Prop} (hgd : o.guard = none) (s x : Operand)
    (ho : o.op = .call { callee := .builtin .append, args := #[s, x], argTypes := #[24, 24] })
    (B : Nat) (v : Value) (l : List Sw) (hs : a.eval s = v) (hown : OwSw B w v l) (ad : Addr) (c : Nat) (e : Sw) (hx : a.eval x = .slice (some ad) 1 c) (h0 : ∀ (j : Nat) u, (swc e)[j]? = some u → w.cell? (ad.add j) = some u) (hB : B ≤ w.heap.size) (hlen : l.length + 1 ≤ 1099511627776)
    (h : ∀ v' w', OwSw B w' v' (l ++ [e]) → w.grownBy w' v.ownBlock → (v'.ownBlock = v.ownBlock ∨ v'.ownBlock = some w.heap.size) → wpList Tryz.prog ops Q rest (a.put o.dst v') w') : wpList Tryz.prog ops Q (o :: rest) a w :=
  wpList_appG swc 2 16 24 48 _ Tryz.underlying24 Tryz.infoSw rfl (by decide) swc_len (fun x u hu => swcs_one [x] u (by simpa [swcs] using hu)) (by decide) hgd s x ho B v l hs hown ad c e hx h0 hB hlen h
theorem sw_cells {w : World} {g : Nat} {e : Sw} (h : w.heap[g]? = some (.cells #[.int .i64 e.1, .bool e.2] 48 (0, 0))) : ∀ (j : Nat) u, (swc e)[j]? = some u → w.cell? ((⟨g, 0, none⟩ : Addr).add j) = some u := by
  intro j u hu
  rw [Addr.add_lit, Nat.zero_add, cell_of_row _ _ _ _ _ _ h]
  simpa [swc] using hu
set_option maxHeartbeats 2000000 in
theorem toldStores_any {v : Value} {l : List Sw} {w : World} (hr : RdSw w v l) (hl : l.length ≤ 1099511627000) :
    Calls Tryz.prog 35 #[v] w fun e w' => ∃ x, e = .returned x ∧ OwSw w.heap.size w' x (tsF l) ∧ Below w.heap.size w w' := by
  have HP : Hid (RdSw w v l) := hr
  obtain ⟨ao, c, rfl, h1, h2, -⟩ := hr
  have hn0 : OwSw w.heap.size w (.slice none 0 0) [] := OwSw.nil _ _
  generalize hnn : l.length = n at *
  have HN : Hid (l.length = n) := hnn
  clear hnn
  go_enter Tryz.func35, Tryz.ntmps35
  go_wp2_with fail
  go_loopw [3, 5, 6, 9] (fun ov _ _ i wr => ∃ k : Nat, k ≤ n ∧ i = .int .i64 k ∧ (∃ a m d, ov = .slice a m d) ∧ OwSw w.heap.size wr ov ((l.take k).foldl tsS []) ∧ Below w.heap.size w wr) (fun _ _ _ i _ => n - (intOf i).toNat)
  case atStart => exact ⟨0, Nat.zero_le _, rfl, ⟨_, _, _, rfl⟩, hn0, Below.refl _ _⟩
  case round =>
    obtain ⟨k, hk, rfl, ⟨oa, om, od, rfl⟩, hO, hb⟩ := hrel
    clear hn0
    by_cases hlt : k < n
    · have hlt' : k < l.length := by rw [HN.out]; exact hlt
      have HT : Hid (l.take (k + 1) = l.take k ++ [l[k]]) := by show _ = _; rw [List.take_append_getElem hlt']
      obtain ⟨ao', c', e, _, _, h4⟩ := HP.out.below hb (Nat.le_refl _)
      simp only [Value.slice.injEq, true_and] at e
      obtain ⟨rfl, -, rfl⟩ := e
      obtain ⟨a, rfl, c0, c1⟩ := h4 k _ (List.getElem?_eq_getElem hlt')
      clear h4
      have hki : (k : Int) < (n : Int) := by omega
      generalize l[k] = e at *
      obtain ⟨e0, e1⟩ := e
      simp only [] at c0 c1
      have hbx := ob_al wr (.cells #[.int .i64 e0, .bool e1] 48)
      have hkx := heap_new wr (.cells #[.int .i64 e0, .bool e1] 48)
      have hzx : (wr.alloc (.cells #[.int .i64 e0, .bool e1] 48)).heap.size = wr.heap.size + 1 := by simp
      have HOX : Hid (OwSw w.heap.size (wr.alloc (.cells #[.int .i64 e0, .bool e1] 48)) (.slice oa om od) ((l.take k).foldl tsS [])) := hO.below hbx (Nat.le_refl _)
      have hbwx : Below w.heap.size w (wr.alloc (.cells #[.int .i64 e0, .bool e1] 48)) := hb.trans (hbx.mono hb.size)
      have hxl : ((l.take k).foldl tsS []).length ≤ n := by
        have := ts_len (l.take k) []
        rw [List.length_take] at this
        simp only [List.length_nil] at this
        omega
      have HLE : Hid (((l.take k).foldl tsS []).length + 1 ≤ 1099511627776) := by show _ ≤ _; omega
      clear hO hbx hxl
      go_upto_region 5 with fail
      generalize World.alloc wr _ = wx at *
      have hca := hasSw_any (sw_rd HOX.out) hkx
      obtain ⟨n0, n1⟩ := cells2 hkx
      generalize hacc : (l.take k).foldl tsS [] = acc at *
      have HACC : Hid ((l.take k).foldl tsS [] = acc) := hacc
      clear hacc
      generalize hov : acc.any (fun o => o.1 == e0) = bv at hca
      have HOV : Hid (acc.any (fun o => o.1 == e0) = bv) := hov
      clear hov
      have hws : w.heap.size ≤ wx.heap.size := hbwx.size
      have hwrx : wr.heap.size < wx.heap.size := by omega
      have HBX : Hid (Below w.heap.size w wx) := hbwx
      clear hbwx
      have HNX : Hid ((l.take (k + 1)).foldl tsS [] = tsS acc (e0, e1)) := by
        show _ = _
        rw [HT.out, List.foldl_append, HACC.out]; rfl
      go_wp2_with fail
      refine hca.mono ?_
      rintro e w3 ⟨rfl, hb3⟩
      have hk3 : w3.heap[wr.heap.size]? = some (.cells #[.int .i64 e0, .bool e1] 48 (0, 0)) := (hb3.block _ hwrx).trans hkx
      obtain ⟨s0, s1⟩ := cells2 hk3
      have HO3 : Hid (OwSw w.heap.size w3 (.slice oa om od) acc) := HOX.out.below hb3 (Nat.le_refl _)
      have HB3 : Hid (Below w.heap.size w w3) := HBX.out.trans (hb3.mono hws)
      have hs3 : w.heap.size ≤ w3.heap.size := HB3.out.size
      clear hca n0 n1 hkx hk3 hb3
      by_cases hc : bv = false ∧ 1 ≤ e0 ∧ e0 ≤ 5
      · obtain ⟨rfl, q1, q5⟩ := hc
        have HS : Hid (tsS acc (e0, e1) = acc ++ [(e0, e1)]) := by
          show _ = _
          unfold tsS; rw [if_pos ⟨HOV.out, q1, q5⟩]
        go_wp2_with (first | (at_builtin; refine wpList_appSw rfl _ _ rfl w.heap.size _ acc rfl (HO3.out.below (ob_al w3 _) (Nat.le_refl _)) _ _ (e0, e1) rfl (sw_cells (heap_new w3 _)) ?hx1 ?hx2 ?_; rotate_right; (intro v7 w7 ho7 hg7 hw7; have hb7 : Below w.heap.size (w3.alloc (.cells #[.int .i64 e0, .bool e1] 48)) w7 := (Below.refl _ _).grown hg7 (by rw [World.size_alloc]; omega) (fun j e => (World.ownsRow.lt HO3.out j e).1)); obtain ⟨a7, m7, d7, rfl⟩ := row_shape ho7) | fail)
        case hx1 => rw [World.size_alloc]; omega
        case hx2 => exact HLE.out
        exact ⟨⟨k + 1, by omega, by go_num, ⟨_, _, _, rfl⟩, by rw [HNX.out, HS.out]; exact ho7, (HB3.out.trans ((ob_al w3 _).mono hs3)).trans hb7⟩, by simp [intOf]; omega⟩
      · have HS : Hid (tsS acc (e0, e1) = acc) := by
          show _ = _
          unfold tsS; rw [if_neg (fun q => hc ⟨by rw [← HOV.out]; exact q.1, q.2⟩)]
        by_cases q1 : 1 ≤ e0
        · by_cases q5 : e0 ≤ 5
          · cases bv with
            | true =>
              clear hc
              go_wp2_with fail
              exact ⟨⟨k + 1, by omega, by go_num, ⟨_, _, _, rfl⟩, by rw [HNX.out, HS.out]; exact HO3.out, HB3.out⟩, by simp [intOf]; omega⟩
            | false => exact absurd ⟨rfl, q1, q5⟩ hc
          · clear hc
            go_wp2_with fail
            exact ⟨⟨k + 1, by omega, by go_num, ⟨_, _, _, rfl⟩, by rw [HNX.out, HS.out]; exact HO3.out, HB3.out⟩, by simp [intOf]; omega⟩
        · clear hc
          go_wp2_with fail
          exact ⟨⟨k + 1, by omega, by go_num, ⟨_, _, _, rfl⟩, by rw [HNX.out, HS.out]; exact HO3.out, HB3.out⟩, by simp [intOf]; omega⟩
    · have HE : Hid (OwSw w.heap.size wr (.slice oa om od) (tsF l)) := by
        show OwSw _ _ _ _
        rw [List.take_of_length_le (by rw [HN.out]; omega)] at hO
        exact hO
      clear hO
      go_wp2_with fail
      go_ret
      exact ⟨_, rfl, HE.out, hb⟩
end Go.Proofs.YtedfjacmaidhkaaGreat
