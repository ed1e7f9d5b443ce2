/- The live stores without a peer. -/
import Derived.Test.YtedfjacmaidhkaaGreatG23
import Derived.Test.YtedfjacmaidhkaaGreatG6
namespace Go.Proofs.YtedfjacmaidhkaaGreat
open Go.RowKit Go.Maps
set_option linter.unusedVariables false
set_option linter.unusedSimpArgs false
set_option maxRecDepth 100000

theorem ope_mono {B B' : Nat} {w : World} {v : Value} {ps : List Pe} (h : OwPe B w v ps) (hB : B' ≤ B) : OwPe B' w v ps := by
  obtain ⟨h1, h2⟩ := h
  refine ⟨h1, ?_⟩
  rcases h2 with h2 | ⟨g, cap, cur, hv, hg, r⟩
  · exact .inl h2
  · exact .inr ⟨g, cap, cur, hv, by omega, r⟩
def freF (ss : List Sw) (ps : List Pe) : List Pe := (ss.filter (fun s => s.2 && !(onF ps s.1).isSome)).map (fun s => ((0 : UInt64), s.1, false))
section
variable {x : Nat} {d : PL} {p : PD} {r : RV} {w : World}
set_option maxHeartbeats 4000000 in
theorem free_any (h : Pln x d p w) (hr : It9 w r) (hl : p.ss.length ≤ 1099511627000) :
    Calls Tryz.prog 81 #[.pointer (some ⟨x, 0, none⟩), .agg #[.int .u64 (r.id.toNat : Int), .slice r.sa r.s.length r.sc, .slice r.ea r.e.length r.ec, .int .u64 r.cf, .int .u64 r.vr, .slice r.pa r.ps.length r.pc, .int .i64 r.ld, .int .i64 r.sz, .bool r.bz]] w fun e w' => ∃ v, e = .returned v ∧ OwPe w.heap.size w' v (freF p.ss r.ps) ∧ Below w.heap.size w w' := by
  have hb0 := ob_al w (.cells #[.int .u64 (r.id.toNat : Int), .slice r.sa r.s.length r.sc, .slice r.ea r.e.length r.ec, .int .u64 r.cf, .int .u64 r.vr, .slice r.pa r.ps.length r.pc, .int .i64 r.ld, .int .i64 r.sz, .bool r.bz] 42)
  have hkb := heap_new w (.cells #[.int .u64 (r.id.toNat : Int), .slice r.sa r.s.length r.sc, .slice r.ea r.e.length r.ec, .int .u64 r.cf, .int .u64 r.vr, .slice r.pa r.ps.length r.pc, .int .i64 r.ld, .int .i64 r.sz, .bool r.bz] 42)
  have h0 := h.below hb0
  have hr0 := hr.below hb0 (Nat.le_refl _)
  clear h hr
  have hn0 := fun w0 : World => OwPe.nil w0.heap.size w0
  go_enter Tryz.func81, Tryz.ntmps81
  go_upto_region 1 with fail
  generalize World.alloc w _ = w0 at *
  have x4 : w0.cell? ⟨x, 4, none⟩ = some (sv d.sv) := h0.at_ rfl
  have HSS : Hid (RdSw w0 (sv d.sv) p.ss) := h0.ss
  obtain ⟨sao, scc, esv, s1, s2, -⟩ := h0.ss
  have HI : Hid (It9 w0 r) := hr0
  have HKB : Hid (∀ W, Below w0.heap.size w0 W → W.heap[w.heap.size]? = some (.cells #[.int .u64 (r.id.toNat : Int), .slice r.sa r.s.length r.sc, .slice r.ea r.e.length r.ec, .int .u64 r.cf, .int .u64 r.vr, .slice r.pa r.ps.length r.pc, .int .i64 r.ld, .int .i64 r.sz, .bool r.bz] 42 (0, 0))) := fun W hW => keep_blk hkb hW
  rw [esv] at x4
  have HSV : Hid (sv d.sv = .slice sao p.ss.length scc) := esv
  clear h0 hr0 hkb esv
  generalize hnn : p.ss.length = n at *
  have HN : Hid (p.ss.length = n) := hnn
  clear hnn
  go_wp2_with fail
  go_loopw [5, 7, 8, 9, 15] (fun ov _ _ _ i wr => ∃ k : Nat, k ≤ n ∧ i = .int .i64 k ∧ (∃ a m d, ov = .slice a m d) ∧ OwPe w0.heap.size wr ov (freF (p.ss.take k) r.ps) ∧ Below w0.heap.size w0 wr) (fun _ _ _ _ i _ => n - (intOf i).toNat)
  case atStart => exact ⟨0, Nat.zero_le _, rfl, ⟨_, _, _, rfl⟩, hn0 w0, Below.refl _ _⟩
  case round =>
    obtain ⟨k, hk, rfl, ⟨oa, om, od, rfl⟩, hO, hb⟩ := hrel
    clear hn0 x4
    have hbw : Below w.heap.size w wr := hb0.trans (hb.mono hb0.size)
    by_cases hlt : k < n
    · have hlt' : k < p.ss.length := by rw [HN.out]; exact hlt
      have HT : Hid (p.ss.take (k + 1) = p.ss.take k ++ [p.ss[k]]) := by show _ = _; rw [List.take_append_getElem hlt']
      obtain ⟨ao', c', e, _, _, h4⟩ := HSS.out.below hb (Nat.le_refl _)
      rw [HSV.out] at e
      simp only [Value.slice.injEq] at e
      obtain ⟨rfl, -, rfl⟩ := e
      obtain ⟨a, rfl, c0, c1⟩ := h4 k _ (List.getElem?_eq_getElem hlt')
      clear h4
      have hki : (k : Int) < (n : Int) := by omega
      generalize p.ss[k] = e at *
      obtain ⟨e0, e1⟩ := e
      simp only [] at c0 c1
      have hbx := ob_al wr (.cells #[.int .i64 e0, .bool e1] 48)
      have hkx := heap_new wr (.cells #[.int .i64 e0, .bool e1] 48)
      have hb1 : Below w0.heap.size w0 (wr.alloc (.cells #[.int .i64 e0, .bool e1] 48)) := hb.trans (hbx.mono hb.size)
      have hO1 := OwPe.below hO hbx (Nat.le_refl _)
      have hfl : (freF (p.ss.take k) r.ps).length + 1 ≤ 1099511627776 := by
        unfold freF
        rw [List.length_map]
        have := List.length_filter_le (fun s : Sw => s.2 && !(onF r.ps s.1).isSome) (p.ss.take k)
        rw [List.length_take] at this
        omega
      have HLE : Hid _ := hfl
      clear hO hfl hbx
      go_upto_region 5 with fail
      generalize World.alloc wr _ = wx at *
      obtain ⟨n0, n1, n2, n3, n4, n5, -, -, -⟩ := nine_at (r := r) (HKB.out wx hb1)
      have i0 : wx.cell? ⟨wr.heap.size, 0, none⟩ = some (.int .i64 e0) := by rw [cell_of_row _ _ _ _ _ _ hkx]; rfl
      have I1 : Hid (∀ W, Below wx.heap.size wx W → W.cell? ⟨wr.heap.size, 0, none⟩ = some (.int .i64 e0) ∧ W.cell? ⟨wr.heap.size, 1, none⟩ = some (.bool e1)) := fun W hW => by
        have q := keep_blk hkx hW
        exact ⟨by rw [cell_of_row _ _ _ _ _ _ q]; rfl, by rw [cell_of_row _ _ _ _ _ _ q]; rfl⟩
      have hon := onR_any (i := (r.id.toNat : Int)) (c := r.cf) (r := r.vr) (st := e0) (HI.out.s.below hb1 (Nat.le_refl _)) (HI.out.e.below hb1 (Nat.le_refl _)) (HI.out.p.below hb1 (Nat.le_refl _))
      generalize hob : (onF r.ps e0).isSome = ob at hon
      have HOB : Hid ((onF r.ps e0).isSome = ob) := hob
      generalize (onF r.ps e0).getD noPe = pp at hon
      obtain ⟨y0, y1, y2⟩ := pp
      clear hob hkx
      simp only [peV] at hon
      go_wp2_with fail
      refine hon.mono ?_
      rintro e w3 ⟨rfl, hb3⟩
      clear hon n0 n1 n2 n3 n4 n5 i0
      have hb4 := hb3.trans ((ob_al w3 (.cells #[.int .u64 (y0.toNat : Int), .int .i64 y1, .bool y2] 44)).mono hb3.size)
      go_upto_region 6 with fail
      generalize World.alloc w3 _ = w4 at *
      obtain ⟨i0, i1⟩ := I1.out w4 hb4
      have HO4 : Hid (OwPe w0.heap.size w4 (.slice oa om od) (freF (p.ss.take k) r.ps)) := OwPe.below hO1 hb4 (Nat.le_refl _)
      have HB4 : Hid (Below w0.heap.size w0 w4) := hb1.trans (hb4.mono hb1.size)
      have hs4 : w0.heap.size ≤ w4.heap.size := HB4.out.size
      have HS : Hid (freF (p.ss.take (k + 1)) r.ps = if (e1 && !ob) = true then freF (p.ss.take k) r.ps ++ [((0 : UInt64), e0, false)] else freF (p.ss.take k) r.ps) := by
        show _ = _
        rw [HT.out]; unfold freF; rw [List.filter_append, List.map_append]
        simp only [List.filter_cons, List.filter_nil, HOB.out]
        split <;> simp_all
      have hb02 := hb0.size
      clear hO1 hb1 hb3 hb4
      cases e1 with
      | false =>
        go_wp2_with fail
        exact ⟨⟨k + 1, by omega, by go_num, ⟨_, _, _, rfl⟩, by rw [HS.out]; exact HO4.out, HB4.out⟩, by simp [intOf]; omega⟩
      | true =>
        cases ob with
        | true =>
          go_wp2_with fail
          exact ⟨⟨k + 1, by omega, by go_num, ⟨_, _, _, rfl⟩, by rw [HS.out]; exact HO4.out, HB4.out⟩, by simp [intOf]; omega⟩
        | false =>
          go_wp2_with (first | (at_builtin; refine wpList_appPe rfl _ _ rfl w0.heap.size _ (freF (p.ss.take k) r.ps) rfl (HO4.out.below (ob_al w4 _) (Nat.le_refl _)) _ [((0 : UInt64), e0, false)] rfl (rdpe_1 (heap_new w4 _)) ?hx1 ?hx2 ?_; rotate_right; (intro v7 w7 ho7 hg7 hw7; have hb8 : Below w0.heap.size (w4.alloc (.cells #[.int .u64 0, .int .i64 e0, .bool false] 44)) w7 := (Below.refl _ _).grown hg7 (by rw [World.size_alloc]; omega) (fun j e => (World.ownsRow.lt HO4.out j e).1); obtain ⟨a7, m7, d7, rfl⟩ := row_shape ho7)) | fail)
          case hx1 => rw [World.size_alloc]; omega
          case hx2 => exact HLE.out
          exact ⟨⟨k + 1, by omega, by go_num, ⟨_, _, _, rfl⟩, by rw [HS.out]; exact ho7, (HB4.out.trans ((ob_al w4 _).mono HB4.out.size)).trans hb8⟩, by simp [intOf]; omega⟩
    · have HE : Hid (OwPe w.heap.size wr (.slice oa om od) (freF p.ss r.ps)) := by
        show OwPe _ _ _ _
        rw [List.take_of_length_le (by rw [HN.out]; omega)] at hO
        exact ope_mono hO hb0.size
      clear hO
      go_wp2_with fail
      go_ret
      exact ⟨_, rfl, HE.out, hbw⟩
end
end Go.Proofs.YtedfjacmaidhkaaGreat
