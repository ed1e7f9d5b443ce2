/- The rule balance. -/
import Derived.Test.YtedfjacmaidhkaaGreatG26
namespace Go.Proofs.YtedfjacmaidhkaaGreat
open Go.RowKit Go.Maps
set_option linter.unusedVariables false
set_option linter.unusedSimpArgs false
set_option maxRecDepth 100000

section
variable {x : Nat} {d : PL} {p : PD} {r : RV} {w : World}
set_option maxHeartbeats 4000000 in
theorem balance_any (h : Pln x d p w) (hr : It9 w r) (hdm : ∀ e ∈ r.ps, i64 e.2.1) (hl : r.ps.length ≤ 1099511627000) (hsm : ∀ s ∈ p.ss, i64 s.1) (hsl : p.ss.length ≤ 1099511627000) (hlo : sm62 p.ld) :
    Calls Tryz.prog 43 #[.pointer (some ⟨x, 0, none⟩), .agg #[.int .u64 (r.id.toNat : Int), .slice r.sa r.s.length r.sc, .slice r.ea r.e.length r.ec, .int .u64 r.cf, .int .u64 r.vr, .slice r.pa r.ps.length r.pc, .int .i64 r.ld, .int .i64 r.sz, .bool r.bz]] w fun e w' => RuA w (BalP p r) e w' := by
  obtain ⟨hkb, hk4, hb0⟩ := two_bx w (.cells #[.int .u64 (r.id.toNat : Int), .slice r.sa r.s.length r.sc, .slice r.ea r.e.length r.ec, .int .u64 r.cf, .int .u64 r.vr, .slice r.pa r.ps.length r.pc, .int .i64 r.ld, .int .i64 r.sz, .bool r.bz] 42) (.cells #[.int .i64 0, .int .u64 0, .int .i64 0, .int .u64 0, .int .u64 0] 32)
  have h0 := h.below hb0
  have hr0 := hr.below hb0 (Nat.le_refl _)
  have hmf : ∀ (fn : Fn) (first cap : Array Value) (w : World), (Instr.makeFunc fn first cap).run Tryz.prog w = .ok (.func fn first cap) w := fun _ _ _ _ => rfl
  clear h hr
  go_enter Tryz.func43, Tryz.ntmps43
  go_upto_region 1 with fail
  generalize World.alloc (World.alloc w _) _ = w0 at *
  have HP : Hid (Pln x d p w0) := h0
  have HI : Hid (It9 w0 r) := hr0
  have HN : Hid (∀ W, Below w0.heap.size w0 W → W.cell? ⟨w.heap.size, 0, none⟩ = some (.int .u64 (r.id.toNat : Int)) ∧ W.cell? ⟨w.heap.size, 1, none⟩ = some (.slice r.sa r.s.length r.sc) ∧ W.cell? ⟨w.heap.size, 2, none⟩ = some (.slice r.ea r.e.length r.ec) ∧ W.cell? ⟨w.heap.size, 3, none⟩ = some (.int .u64 r.cf) ∧ W.cell? ⟨w.heap.size, 4, none⟩ = some (.int .u64 r.vr) ∧ W.cell? ⟨w.heap.size, 5, none⟩ = some (.slice r.pa r.ps.length r.pc) ∧ W.cell? ⟨w.heap.size, 6, none⟩ = some (.int .i64 r.ld) ∧ W.cell? ⟨w.heap.size, 7, none⟩ = some (.int .i64 r.sz) ∧ W.cell? ⟨w.heap.size, 8, none⟩ = some (.bool r.bz)) := fun W hW => nine_at (r := r) (keep_blk hkb hW)
  have HK4 : Hid (∀ W, Below w0.heap.size w0 W → W.heap[w.heap.size + 1]? = some (.cells #[.int .i64 0, .int .u64 0, .int .i64 0, .int .u64 0, .int .u64 0] 32 (0, 0))) := fun W hW => keep_blk hk4 hW
  have HB : Hid (∀ W, Below w0.heap.size w0 W → Below w.heap.size w W) := fun W hW => hb0.trans (hW.mono hb0.size)
  have HX : Hid (∀ W, Below w0.heap.size w0 W → W.cell? ⟨x, 0, none⟩ = some (.int .i64 d.pr) ∧ W.cell? ⟨x, 1, none⟩ = some (.int .i64 d.psp) ∧ W.cell? ⟨x, 2, none⟩ = some (.int .i64 d.pmg) ∧ W.cell? ⟨x, 3, none⟩ = some (.int .i64 d.rep)) := fun W hW => ⟨(HP.out.below hW).at_ rfl, (HP.out.below hW).at_ rfl, (HP.out.below hW).at_ rfl, (HP.out.below hW).at_ rfl⟩
  clear h0 hr0 hkb hk4
  obtain ⟨n0, n1, n2, n3, n4, n5, n6, n7, n8⟩ := HN.out w0 (Below.refl _ _)
  have hgr := grow_any HP.out HI.out hdm hl hsm hsl
  have h4b : w.heap.size + 1 < w0.heap.size := (Array.getElem?_eq_some_iff.1 (HK4.out w0 (Below.refl _ _))).1
  go_wp2_with fail
  refine hgr.mono ?_
  rintro e w1 hA
  obtain ⟨⟨o1, o2, o3, o4, o5⟩, b1, rfl, hg, hb1⟩ := hA
  have HG : Hid (GrowP p r ⟨o1, o2, o3, o4, o5⟩ b1) := hg
  have ho3 : i64 o3 := by
    obtain ⟨q, q1, q2, q3⟩ := hg
    have := q1.dom (fre_dom hsm)
    have e3 : o3 = q.1.2.1 := by injection q3
    rw [e3]; exact this
  clear hgr hg n0 n1 n2 n3 n4 n5 n6 n7 n8
  simp only [orV]
  go_upto_region 2 with fail
  have hbo := ob_al w1 (.cells #[.int .i64 o1, .int .u64 (o2 : Int), .int .i64 o3, .int .u64 (o4 : Int), .int .u64 (o5 : Int)] 32)
  have hk6 := heap_new w1 (.cells #[.int .i64 o1, .int .u64 (o2 : Int), .int .i64 o3, .int .u64 (o4 : Int), .int .u64 (o5 : Int)] 32)
  have hS1 := hb1.trans (hbo.mono hb1.size)
  have h6b : w0.heap.size ≤ w1.heap.size := hb1.size
  generalize World.alloc w1 _ = wo at *
  generalize w1.heap.size = b6 at *
  obtain ⟨n0, n1, n2, n3, n4, n5, n6, n7, n8⟩ := HN.out wo hS1
  clear n0 n1 n2 n3 n4 n6 n7 n8
  have hba := ob_al wo (.cells #[.func (.func 26) #[] #[]] 78)
  have hSa := hS1.trans (hba.mono hS1.size)
  have hon := only_any (HI.out.p.below hSa (Nat.le_refl _)) (rdis_1 (heap_new wo (.cells #[.func (.func 26) #[] #[]] 78)) (is_votes _)) hl
  go_wp2_with fail
  refine hon.mono ?_
  rintro e w2 ⟨v2, rfl, ho2, hb2⟩
  have hS2 := hSa.trans (hb2.mono hSa.size)
  have hfi := first_any (ord_gre p.ld) ho2.rd (ah_fuller (HP.out.below hS2)) (fun e he => hdm e (List.mem_filter.1 he).1) (Nat.le_trans (List.length_filter_le _ _) hl)
  have hbo2 := hba.trans (hb2.mono hba.size)
  obtain ⟨a2, d2, rfl, -⟩ := ho2.rd.shape
  clear hon n5 hba
  go_wp2_with fail
  refine hfi.mono ?_
  rintro e w3 ⟨⟨⟨q0, q1, q2⟩, qb⟩, rfl, hq, hb3⟩
  have hS3 := hS2.trans (hb3.mono hS2.size)
  have HQ : Hid (FirstP (fun a b => lesF p.ld b a) (onlyF r.ps [votF]) ((q0, q1, q2), qb)) := hq
  have hq1 : i64 q1 := hq.dom (fun e he => hdm e (List.mem_filter.1 he).1)
  have hbo3 := hbo2.trans (hb3.mono hbo2.size)
  clear hfi hq ho2 hb2 hb3
  simp only [peV]
  go_upto_region 3 with fail
  have hbp := ob_al w3 (.cells #[.int .u64 (q0.toNat : Int), .int .i64 q1, .bool q2] 44)
  have hk8 := heap_new w3 (.cells #[.int .u64 (q0.toNat : Int), .int .i64 q1, .bool q2] 44)
  have hSq := hS3.trans (hbp.mono hS3.size)
  have hk6q := keep_blk hk6 (hbo3.trans (hbp.mono hbo3.size))
  have h8b : w0.heap.size ≤ w3.heap.size := hS3.size
  generalize World.alloc w3 _ = wq at *
  generalize w3.heap.size = b8 at *
  have hk4q := HK4.out wq hSq
  obtain ⟨n, him⟩ := (HP.out.below hSq).ld
  have HLA : Hid (∀ W, Chg (fun b => b = w.heap.size + 1) wq W → (Instr.lookup 68 (.map (some d.ml)) (.int .i64 o3) false).run Tryz.prog W = .ok (.int .i64 (p.ld o3)) W) := fun W hW => (him.keptC hk4q hW).look ho3
  have HLB : Hid (∀ W, Chg (fun b => b = w.heap.size + 1) wq W → (Instr.lookup 68 (.map (some d.ml)) (.int .i64 q1) false).run Tryz.prog W = .ok (.int .i64 (p.ld q1)) W) := fun W hW => (him.keptC hk4q hW).look hq1
  have HC8 : Hid (∀ W, Chg (fun b => b = w.heap.size + 1) wq W → W.cell? ⟨b8, 1, none⟩ = some (.int .i64 q1)) := fun W hW => (cells3 ((hW.block b8 (Array.getElem?_eq_some_iff.1 hk8).1 (by omega)).trans hk8)).2.1
  have HC6 : Hid (∀ W, Chg (fun b => b = w.heap.size + 1) wq W → W.cell? ⟨b6, 0, none⟩ = some (.int .i64 o1) ∧ W.cell? ⟨b6, 1, none⟩ = some (.int .u64 (o2 : Int)) ∧ W.cell? ⟨b6, 2, none⟩ = some (.int .i64 o3) ∧ W.cell? ⟨b6, 3, none⟩ = some (.int .u64 (o4 : Int)) ∧ W.cell? ⟨b6, 4, none⟩ = some (.int .u64 (o5 : Int))) := fun W hW => by
    obtain ⟨y0, y1, y2, y3, y4, _⟩ := cells5 ((hW.block b6 (Array.getElem?_eq_some_iff.1 hk6q).1 (by omega)).trans hk6q)
    exact ⟨y0, y1, y2, y3, y4⟩
  have hblk := (HP.out.below hSq).blk
  have hxne : x ≠ w.heap.size + 1 := fun q => by
    rw [q, hk4q] at hblk
    have := Option.some.inj hblk
    simp only [Obj.cells.injEq] at this
    exact absurd this.2.1 (by decide)
  have HCX : Hid (∀ W, Chg (fun b => b = w.heap.size + 1) wq W → W.cell? ⟨x, 7, none⟩ = some (.map (some d.ml))) := fun W hW => by
    rw [cell_of_row _ _ _ _ _ _ ((hW.block x (Array.getElem?_eq_some_iff.1 hblk).1 hxne).trans hblk)]; rfl
  have hw2 : IntKind.i64.wrap (p.ld o3 + 2) = p.ld o3 + 2 := by have := hlo o3; rw [IntKind.wrap_i64]; omega
  have HW2 : Hid _ := hw2
  have HRES : Hid (∀ z, z = (b1 && decide (p.ld o3 + 2 ≤ p.ld q1)) → BalP p r ⟨o1, o2, o3, o4, o5⟩ z) := fun z hz => ⟨b1, HG.out, ((q0, q1, q2), qb), HQ.out, hz⟩
  clear him hk4q hk6 hk6q hk8 hblk hbp hS3 hS2 hSa hS1 hb1 hbo hbo2 hbo3 hw2 h6b h8b h4b hxne
  generalize p.ld o3 = A at *
  generalize p.ld q1 = C at *
  generalize d.ml = m at *
  cases b1 with
  | true =>
    refine wp_region_heldN (S := fun W => Chg (fun b => b = w.heap.size + 1) wq W) (L := []) (by kernel_rfl) ?_
    have hS0 : Chg (fun b => b = w.heap.size + 1) wq wq.drew := chg_bl (Below.dN wq 1)
    have hkR : wq.drew.heap[w.heap.size + 1]? = _ := HK4.out wq hSq
    have hbW : Below w.heap.size w wq.drew := (HB.out wq hSq).drew
    generalize wq.drew = wd at *
    obtain ⟨m0, m1, m2, m3, m4, m5⟩ := cells5 hkR
    have f0 := m5 0
    have f1 := m5 1
    have f2 := m5 2
    have f3 := m5 3
    have f4 := m5 4
    have hst := set5_block hkR (.int .i64 o1) (.int .u64 (o2 : Int)) (.int .i64 o3) (.int .u64 (o4 : Int)) (.int .u64 (o5 : Int))
    have hch := set5_chg wd (w.heap.size + 1) (.int .i64 o1) (.int .u64 (o2 : Int)) (.int .i64 o3) (.int .u64 (o4 : Int)) (.int .u64 (o5 : Int))
    have hS1 := hS0.trans (hch.mono (fun b _ q => .inl q))
    have HF : Hid _ := hbW.trans (hch.below (fun b q => by omega) hbW.size)
    clear m5 hch
    refine wpAnyN_take (i := 0) (v := .agg #[.int .i64 o1, .int .u64 (o2 : Int), .int .i64 o3, .int .u64 (o4 : Int), .int .u64 (o5 : Int)]) rfl (by kernel_rfl) (by kernel_rfl) (by kernel_rfl) (by kernel_rfl) (fun _ _ _ h => h) (.inl ⟨by kernel_rfl, fun W hW => by obtain ⟨y0, y1, y2, y3, y4⟩ := HC6.out W hW; go_simp⟩) hS0 ?_
    refine wpAnyN_take (i := 1) (v := .bool true) rfl (by kernel_rfl) (by kernel_rfl) (by kernel_rfl) (by kernel_rfl) (fun _ _ _ h => h) (.inl ⟨by kernel_rfl, fun W hW => by kernel_rfl⟩) hS0 ?_
    refine wpAnyN_take (i := 2) (v := .bool true) rfl (by kernel_rfl) (by kernel_rfl) (by kernel_rfl) (by kernel_rfl) (fun _ _ _ h => h) (.inl ⟨by kernel_rfl, fun W hW => by kernel_rfl⟩) hS0 ?_
    refine wpAnyN_take (i := 3) (v := .pointer (some ⟨x, 0, none⟩)) rfl (by kernel_rfl) (by kernel_rfl) (by kernel_rfl) (by kernel_rfl) (fun _ _ _ h => h) (.inl ⟨by kernel_rfl, fun W hW => by kernel_rfl⟩) hS0 ?_
    refine wpAnyN_take (i := 4) (v := .pointer (some ⟨x, 0, none⟩)) rfl (by kernel_rfl) (by kernel_rfl) (by kernel_rfl) (by kernel_rfl) (fun _ _ _ h => h) (.inl ⟨by kernel_rfl, fun W hW => by kernel_rfl⟩) hS0 ?_
    refine wpAnyN_take (i := 5) (v := .pointer (some ⟨x, 7, none⟩)) rfl (by kernel_rfl) (by kernel_rfl) (by kernel_rfl) (by kernel_rfl) (fun _ _ _ h => h) (.inl ⟨by kernel_rfl, fun W hW => by kernel_rfl⟩) hS0 ?_
    refine wpAnyN_take (i := 6) (v := .map (some m)) rfl (by kernel_rfl) (by kernel_rfl) (by kernel_rfl) (by kernel_rfl) (fun _ _ _ h => h) (.inl ⟨by kernel_rfl, fun W hW => by have c := HCX.out W hW; go_simp⟩) hS0 ?_
    refine wpAnyN_take (i := 7) (v := .pointer (some ⟨b6, 2, none⟩)) rfl (by kernel_rfl) (by kernel_rfl) (by kernel_rfl) (by kernel_rfl) (fun _ _ _ h => h) (.inl ⟨by kernel_rfl, fun W hW => by kernel_rfl⟩) hS0 ?_
    refine wpAnyN_take (i := 8) (v := .int .i64 o3) rfl (by kernel_rfl) (by kernel_rfl) (by kernel_rfl) (by kernel_rfl) (fun _ _ _ h => h) (.inl ⟨by kernel_rfl, fun W hW => by obtain ⟨y0, y1, y2, y3, y4⟩ := HC6.out W hW; go_simp⟩) hS0 ?_
    refine wpAnyN_take (i := 9) (v := .int .i64 A) rfl (by kernel_rfl) (by kernel_rfl) (by kernel_rfl) (by kernel_rfl) (fun _ _ _ h => h) (.inl ⟨by kernel_rfl, fun W hW => by have c := HLA.out W hW; go_simp⟩) hS0 ?_
    refine wpAnyN_take (i := 10) (v := .int .i64 (A + 2)) rfl (by kernel_rfl) (by kernel_rfl) (by kernel_rfl) (by kernel_rfl) (fun _ _ _ h => h) (.inl ⟨by kernel_rfl, fun W hW => by have c := HW2.out; go_simp⟩) hS0 ?_
    refine wpAnyN_take (i := 11) (v := .pointer (some ⟨x, 0, none⟩)) rfl (by kernel_rfl) (by kernel_rfl) (by kernel_rfl) (by kernel_rfl) (fun _ _ _ h => h) (.inl ⟨by kernel_rfl, fun W hW => by kernel_rfl⟩) hS0 ?_
    refine wpAnyN_take (i := 12) (v := .pointer (some ⟨x, 0, none⟩)) rfl (by kernel_rfl) (by kernel_rfl) (by kernel_rfl) (by kernel_rfl) (fun _ _ _ h => h) (.inl ⟨by kernel_rfl, fun W hW => by kernel_rfl⟩) hS0 ?_
    refine wpAnyN_take (i := 13) (v := .pointer (some ⟨x, 7, none⟩)) rfl (by kernel_rfl) (by kernel_rfl) (by kernel_rfl) (by kernel_rfl) (fun _ _ _ h => h) (.inl ⟨by kernel_rfl, fun W hW => by kernel_rfl⟩) hS0 ?_
    refine wpAnyN_take (i := 14) (v := .map (some m)) rfl (by kernel_rfl) (by kernel_rfl) (by kernel_rfl) (by kernel_rfl) (fun _ _ _ h => h) (.inl ⟨by kernel_rfl, fun W hW => by have c := HCX.out W hW; go_simp⟩) hS0 ?_
    refine wpAnyN_take (i := 15) (v := .pointer (some ⟨b8, 1, none⟩)) rfl (by kernel_rfl) (by kernel_rfl) (by kernel_rfl) (by kernel_rfl) (fun _ _ _ h => h) (.inl ⟨by kernel_rfl, fun W hW => by kernel_rfl⟩) hS0 ?_
    refine wpAnyN_take (i := 16) (v := .int .i64 q1) rfl (by kernel_rfl) (by kernel_rfl) (by kernel_rfl) (by kernel_rfl) (fun _ _ _ h => h) (.inl ⟨by kernel_rfl, fun W hW => by have c := HC8.out W hW; go_simp⟩) hS0 ?_
    refine wpAnyN_take (i := 17) (v := .int .i64 C) rfl (by kernel_rfl) (by kernel_rfl) (by kernel_rfl) (by kernel_rfl) (fun _ _ _ h => h) (.inl ⟨by kernel_rfl, fun W hW => by have c := HLB.out W hW; go_simp⟩) hS0 ?_
    refine wpAnyN_take (i := 18) (v := .bool (decide (A + 2 ≤ C))) rfl (by kernel_rfl) (by kernel_rfl) (by kernel_rfl) (by kernel_rfl) (fun _ _ _ h => h) (.inl ⟨by kernel_rfl, fun W hW => by go_simp⟩) hS0 ?_
    refine wpAnyN_take (i := 19) (v := .bool (decide (A + 2 ≤ C))) rfl (by kernel_rfl) (by kernel_rfl) (by kernel_rfl) (by kernel_rfl) (fun _ _ _ h => h) (.inl ⟨by kernel_rfl, fun W hW => by kernel_rfl⟩) hS0 ?_
    refine wpAnyN_one (i := 20) (by kernel_rfl) rfl (fun K hK => ?_)
    rw [if_pos (by kernel_rfl)]
    go_simp
    refine hK _ _ (fun _ => hS1) ?_
    clear hK K
    refine wpAnyN_one (i := 21) (by kernel_rfl) rfl (fun K hK => ?_)
    rw [if_pos (by kernel_rfl)]
    go_simp
    refine hK _ _ (fun _ => hS1) ?_
    clear hK K
    refine ⟨by kernel_rfl, ?_⟩
    go_simp
    go_wp2_with fail
    generalize World.setCell _ ⟨_, 4, none⟩ _ = wz at *
    obtain ⟨k0, k1, k2, k3, k4, _⟩ := cells5 hst
    refine bodyPost_ret (v := .tuple #[.agg #[.int .i64 o1, .int .u64 (o2 : Int), .int .i64 o3, .int .u64 (o4 : Int), .int .u64 (o5 : Int)], .bool (decide (A + 2 ≤ C))]) (by simp [results, Tryz.results43, go_sem, k0, k1, k2, k3, k4]; try rfl) rfl ?_
    exact RuA.mk ⟨o1, o2, o3, o4, o5⟩ (decide (A + 2 ≤ C)) rfl (HRES.out _ (by simp)) HF.out
  | false =>
    refine wp_region_heldN (S := fun W => Chg (fun b => b = w.heap.size + 1) wq W) (L := []) (by kernel_rfl) ?_
    have hS0 : Chg (fun b => b = w.heap.size + 1) wq wq.drew := chg_bl (Below.dN wq 1)
    have hkR : wq.drew.heap[w.heap.size + 1]? = _ := HK4.out wq hSq
    have hbW : Below w.heap.size w wq.drew := (HB.out wq hSq).drew
    generalize wq.drew = wd at *
    obtain ⟨m0, m1, m2, m3, m4, m5⟩ := cells5 hkR
    have f0 := m5 0
    have f1 := m5 1
    have f2 := m5 2
    have f3 := m5 3
    have f4 := m5 4
    have hst := set5_block hkR (.int .i64 o1) (.int .u64 (o2 : Int)) (.int .i64 o3) (.int .u64 (o4 : Int)) (.int .u64 (o5 : Int))
    have hch := set5_chg wd (w.heap.size + 1) (.int .i64 o1) (.int .u64 (o2 : Int)) (.int .i64 o3) (.int .u64 (o4 : Int)) (.int .u64 (o5 : Int))
    have hS1 := hS0.trans (hch.mono (fun b _ q => .inl q))
    have HF : Hid _ := hbW.trans (hch.below (fun b q => by omega) hbW.size)
    clear m5 hch
    refine wpAnyN_take (i := 0) (v := .agg #[.int .i64 o1, .int .u64 (o2 : Int), .int .i64 o3, .int .u64 (o4 : Int), .int .u64 (o5 : Int)]) rfl (by kernel_rfl) (by kernel_rfl) (by kernel_rfl) (by kernel_rfl) (fun _ _ _ h => h) (.inl ⟨by kernel_rfl, fun W hW => by obtain ⟨y0, y1, y2, y3, y4⟩ := HC6.out W hW; go_simp⟩) hS0 ?_
    refine wpAnyN_take (i := 1) (v := .bool false) rfl (by kernel_rfl) (by kernel_rfl) (by kernel_rfl) (by kernel_rfl) (fun _ _ _ h => h) (.inl ⟨by kernel_rfl, fun W hW => by kernel_rfl⟩) hS0 ?_
    refine wpAnyN_take (i := 2) (v := .bool false) rfl (by kernel_rfl) (by kernel_rfl) (by kernel_rfl) (by kernel_rfl) (fun _ _ _ h => h) (.inl ⟨by kernel_rfl, fun W hW => by kernel_rfl⟩) hS0 ?_
    refine wpAnyN_take (i := 3) (v := undef) rfl (by kernel_rfl) (by kernel_rfl) (by kernel_rfl) (by kernel_rfl) (fun _ _ _ h => h) (.inr ⟨by kernel_rfl, rfl⟩) hS0 ?_
    refine wpAnyN_take (i := 4) (v := undef) rfl (by kernel_rfl) (by kernel_rfl) (by kernel_rfl) (by kernel_rfl) (fun _ _ _ h => h) (.inr ⟨by kernel_rfl, rfl⟩) hS0 ?_
    refine wpAnyN_take (i := 5) (v := undef) rfl (by kernel_rfl) (by kernel_rfl) (by kernel_rfl) (by kernel_rfl) (fun _ _ _ h => h) (.inr ⟨by kernel_rfl, rfl⟩) hS0 ?_
    refine wpAnyN_take (i := 6) (v := undef) rfl (by kernel_rfl) (by kernel_rfl) (by kernel_rfl) (by kernel_rfl) (fun _ _ _ h => h) (.inr ⟨by kernel_rfl, rfl⟩) hS0 ?_
    refine wpAnyN_take (i := 7) (v := undef) rfl (by kernel_rfl) (by kernel_rfl) (by kernel_rfl) (by kernel_rfl) (fun _ _ _ h => h) (.inr ⟨by kernel_rfl, rfl⟩) hS0 ?_
    refine wpAnyN_take (i := 8) (v := undef) rfl (by kernel_rfl) (by kernel_rfl) (by kernel_rfl) (by kernel_rfl) (fun _ _ _ h => h) (.inr ⟨by kernel_rfl, rfl⟩) hS0 ?_
    refine wpAnyN_take (i := 9) (v := undef) rfl (by kernel_rfl) (by kernel_rfl) (by kernel_rfl) (by kernel_rfl) (fun _ _ _ h => h) (.inr ⟨by kernel_rfl, rfl⟩) hS0 ?_
    refine wpAnyN_take (i := 10) (v := undef) rfl (by kernel_rfl) (by kernel_rfl) (by kernel_rfl) (by kernel_rfl) (fun _ _ _ h => h) (.inr ⟨by kernel_rfl, rfl⟩) hS0 ?_
    refine wpAnyN_take (i := 11) (v := undef) rfl (by kernel_rfl) (by kernel_rfl) (by kernel_rfl) (by kernel_rfl) (fun _ _ _ h => h) (.inr ⟨by kernel_rfl, rfl⟩) hS0 ?_
    refine wpAnyN_take (i := 12) (v := undef) rfl (by kernel_rfl) (by kernel_rfl) (by kernel_rfl) (by kernel_rfl) (fun _ _ _ h => h) (.inr ⟨by kernel_rfl, rfl⟩) hS0 ?_
    refine wpAnyN_take (i := 13) (v := undef) rfl (by kernel_rfl) (by kernel_rfl) (by kernel_rfl) (by kernel_rfl) (fun _ _ _ h => h) (.inr ⟨by kernel_rfl, rfl⟩) hS0 ?_
    refine wpAnyN_take (i := 14) (v := undef) rfl (by kernel_rfl) (by kernel_rfl) (by kernel_rfl) (by kernel_rfl) (fun _ _ _ h => h) (.inr ⟨by kernel_rfl, rfl⟩) hS0 ?_
    refine wpAnyN_take (i := 15) (v := undef) rfl (by kernel_rfl) (by kernel_rfl) (by kernel_rfl) (by kernel_rfl) (fun _ _ _ h => h) (.inr ⟨by kernel_rfl, rfl⟩) hS0 ?_
    refine wpAnyN_take (i := 16) (v := undef) rfl (by kernel_rfl) (by kernel_rfl) (by kernel_rfl) (by kernel_rfl) (fun _ _ _ h => h) (.inr ⟨by kernel_rfl, rfl⟩) hS0 ?_
    refine wpAnyN_take (i := 17) (v := undef) rfl (by kernel_rfl) (by kernel_rfl) (by kernel_rfl) (by kernel_rfl) (fun _ _ _ h => h) (.inr ⟨by kernel_rfl, rfl⟩) hS0 ?_
    refine wpAnyN_take (i := 18) (v := undef) rfl (by kernel_rfl) (by kernel_rfl) (by kernel_rfl) (by kernel_rfl) (fun _ _ _ h => h) (.inr ⟨by kernel_rfl, rfl⟩) hS0 ?_
    refine wpAnyN_take (i := 19) (v := .bool false) rfl (by kernel_rfl) (by kernel_rfl) (by kernel_rfl) (by kernel_rfl) (fun _ _ _ h => h) (.inl ⟨by kernel_rfl, fun W hW => by kernel_rfl⟩) hS0 ?_
    refine wpAnyN_one (i := 20) (by kernel_rfl) rfl (fun K hK => ?_)
    rw [if_pos (by kernel_rfl)]
    go_simp
    refine hK _ _ (fun _ => hS1) ?_
    clear hK K
    refine wpAnyN_one (i := 21) (by kernel_rfl) rfl (fun K hK => ?_)
    rw [if_pos (by kernel_rfl)]
    go_simp
    refine hK _ _ (fun _ => hS1) ?_
    clear hK K
    refine ⟨by kernel_rfl, ?_⟩
    go_simp
    go_wp2_with fail
    generalize World.setCell _ ⟨_, 4, none⟩ _ = wz at *
    obtain ⟨k0, k1, k2, k3, k4, _⟩ := cells5 hst
    refine bodyPost_ret (v := .tuple #[.agg #[.int .i64 o1, .int .u64 (o2 : Int), .int .i64 o3, .int .u64 (o4 : Int), .int .u64 (o5 : Int)], .bool false]) (by simp [results, Tryz.results43, go_sem, k0, k1, k2, k3, k4]; try rfl) rfl ?_
    exact RuA.mk ⟨o1, o2, o3, o4, o5⟩ false rfl (HRES.out _ (by simp)) HF.out
end
end Go.Proofs.YtedfjacmaidhkaaGreat
