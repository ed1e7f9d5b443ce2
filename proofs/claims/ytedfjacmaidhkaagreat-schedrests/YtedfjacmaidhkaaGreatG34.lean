/- The rule promote. -/
import Derived.Test.YtedfjacmaidhkaaGreatG23
import Derived.Test.YtedfjacmaidhkaaGreatG5
import Derived.Deep.CutRange
namespace Go.Proofs.YtedfjacmaidhkaaGreat
open Go.RowKit Go.Maps
set_option linter.unusedVariables false
set_option linter.unusedSimpArgs false
set_option maxRecDepth 100000

/-- What the first rule answers. -/
def PromP (d : PL) (p : PD) (r : RV) (o : Or) (b : Bool) : Prop :=
  if d.rep < (voF p r : Int) then b = false else ∃ q : Pe × Bool, FirstP oldF (onlyF r.ps [livF p.ss, lrnF]) q ∧ b = q.2 ∧ o = ⟨2, r.id.toNat, q.1.2.1, q.1.1.toNat, 0⟩
section
variable {x : Nat} {d : PL} {p : PD} {r : RV} {w : World}
set_option maxHeartbeats 2000000 in
theorem promote_any (h : Pln x d p w) (hr : It9 w r) (hdm : ∀ e ∈ r.ps, i64 e.2.1) (hl : r.ps.length ≤ 1099511627000) :
    Calls Tryz.prog 38 #[.pointer (some ⟨x, 0, none⟩), .agg #[.int .u64 (r.id.toNat : Int), .slice r.sa r.s.length r.sc, .slice r.ea r.e.length r.ec, .int .u64 r.cf, .int .u64 r.vr, .slice r.pa r.ps.length r.pc, .int .i64 r.ld, .int .i64 r.sz, .bool r.bz]] w fun e w' => RuA w (PromP d p r) e w' := by
  obtain ⟨hkb, hk4, hb0⟩ := two_bx w (.cells #[.int .u64 (r.id.toNat : Int), .slice r.sa r.s.length r.sc, .slice r.ea r.e.length r.ec, .int .u64 r.cf, .int .u64 r.vr, .slice r.pa r.ps.length r.pc, .int .i64 r.ld, .int .i64 r.sz, .bool r.bz] 42) (.cells #[.int .i64 0, .int .u64 0, .int .i64 0, .int .u64 0, .int .u64 0] 32)
  have h0 := h.below hb0
  have hr0 := hr.below hb0 (Nat.le_refl _)
  have hmf : ∀ (fn : Fn) (first cap : Array Value) (w : World), (Instr.makeFunc fn first cap).run Tryz.prog w = .ok (.func fn first cap) w := fun _ _ _ _ => rfl
  clear h hr
  go_enter Tryz.func38, Tryz.ntmps38
  go_upto_region 1 with fail
  generalize World.alloc (World.alloc w _) _ = w0 at *
  have HP : Hid (Pln x d p w0) := h0
  have HI : Hid (It9 w0 r) := hr0
  have hvo := fun W (hW : Below w0.heap.size w0 W) => voting_any (HP.out.below hW) (HI.out.below hW (Nat.le_refl _)) hl
  have HN : Hid (∀ W, Below w0.heap.size w0 W → W.cell? ⟨w.heap.size, 0, none⟩ = some (.int .u64 (r.id.toNat : Int)) ∧ W.cell? ⟨w.heap.size, 1, none⟩ = some (.slice r.sa r.s.length r.sc) ∧ W.cell? ⟨w.heap.size, 2, none⟩ = some (.slice r.ea r.e.length r.ec) ∧ W.cell? ⟨w.heap.size, 3, none⟩ = some (.int .u64 r.cf) ∧ W.cell? ⟨w.heap.size, 4, none⟩ = some (.int .u64 r.vr) ∧ W.cell? ⟨w.heap.size, 5, none⟩ = some (.slice r.pa r.ps.length r.pc) ∧ W.cell? ⟨w.heap.size, 6, none⟩ = some (.int .i64 r.ld) ∧ W.cell? ⟨w.heap.size, 7, none⟩ = some (.int .i64 r.sz) ∧ W.cell? ⟨w.heap.size, 8, none⟩ = some (.bool r.bz)) := fun W hW => nine_at (r := r) (keep_blk hkb hW)
  have HX : Hid (∀ W, Below w0.heap.size w0 W → W.cell? ⟨x, 3, none⟩ = some (.int .i64 d.rep)) := fun W hW => (HP.out.below hW).at_ rfl
  have HK4 : Hid (∀ W, Below w0.heap.size w0 W → W.heap[w.heap.size + 1]? = some (.cells #[.int .i64 0, .int .u64 0, .int .i64 0, .int .u64 0, .int .u64 0] 32 (0, 0))) := fun W hW => keep_blk hk4 hW
  have HB : Hid (∀ W, Below w0.heap.size w0 W → Below w.heap.size w W) := fun W hW => hb0.trans (hW.mono hb0.size)
  have HVO : Hid _ := hvo
  clear h0 hr0 hvo hkb hk4
  go_cut [15] from 8 to 38 (fun v wx => v = .bool (decide (d.rep < (voF p r : Int))) ∧ Below w0.heap.size w0 wx)
  case first =>
    refine wp_region_heldN (S := fun W => Below w0.heap.size w0 W) (L := []) (by kernel_rfl) ?_
    have hS0 : Below w0.heap.size w0 w0.drew := (Below.refl _ _).drew
    generalize w0.drew = wd at *
    refine wpAnyN_take (i := 0) (v := .pointer (some ⟨x, 0, none⟩)) rfl (by kernel_rfl) (by kernel_rfl) (by kernel_rfl) (by kernel_rfl) (fun _ _ _ h => h) (.inl ⟨by kernel_rfl, fun W hW => by kernel_rfl⟩) hS0 ?_
    refine wpAnyN_take (i := 1) (v := .agg #[.int .u64 (r.id.toNat : Int), .slice r.sa r.s.length r.sc, .slice r.ea r.e.length r.ec, .int .u64 r.cf, .int .u64 r.vr, .slice r.pa r.ps.length r.pc, .int .i64 r.ld, .int .i64 r.sz, .bool r.bz]) rfl (by kernel_rfl) (by kernel_rfl) (by kernel_rfl) (by kernel_rfl) (fun _ _ _ h => h) (.inl ⟨by kernel_rfl, fun W hW => by obtain ⟨n0, n1, n2, n3, n4, n5, n6, n7, n8⟩ := HN.out W hW; go_simp⟩) hS0 ?_
    refine wpAnyN_take (i := 3) (v := .pointer (some ⟨x, 0, none⟩)) rfl (by kernel_rfl) (by kernel_rfl) (by kernel_rfl) (by kernel_rfl) (fun _ _ _ h => h) (.inl ⟨by kernel_rfl, fun W hW => by kernel_rfl⟩) hS0 ?_
    refine wpAnyN_take (i := 4) (v := .pointer (some ⟨x, 0, none⟩)) rfl (by kernel_rfl) (by kernel_rfl) (by kernel_rfl) (by kernel_rfl) (fun _ _ _ h => h) (.inl ⟨by kernel_rfl, fun W hW => by kernel_rfl⟩) hS0 ?_
    refine wpAnyN_take (i := 5) (v := .pointer (some ⟨x, 3, none⟩)) rfl (by kernel_rfl) (by kernel_rfl) (by kernel_rfl) (by kernel_rfl) (fun _ _ _ h => h) (.inl ⟨by kernel_rfl, fun W hW => by kernel_rfl⟩) hS0 ?_
    refine wpAnyN_take (i := 6) (v := .int .i64 d.rep) rfl (by kernel_rfl) (by kernel_rfl) (by kernel_rfl) (by kernel_rfl) (fun _ _ _ h => h) (.inl ⟨by kernel_rfl, fun W hW => by have c := HX.out W hW; go_simp⟩) hS0 ?_
    refine wpAnyN_one (i := 2) (by kernel_rfl) rfl (fun K hK => ?_)
    rw [if_pos (by kernel_rfl)]
    go_simp
    refine (HVO.out _ hS0).mono ?_
    rintro e w1 ⟨rfl, hb1⟩
    have hS1 := hS0.trans (hb1.mono hS0.size)
    refine hK _ _ (fun _ => hS1) ?_
    clear hK K
    refine wpAnyN_one (i := 7) (by kernel_rfl) rfl (fun K hK => ?_)
    rw [if_pos (by kernel_rfl)]
    go_simp
    refine hK _ _ (fun _ => hS1) ?_
    clear hK K
    refine ⟨by kernel_rfl, ?_⟩
    go_simp
    go_wp2_with fail
    go_meet
    exact ⟨by simp, hS1⟩
  case rest =>
  obtain ⟨rfl, hS⟩ := hcut
  by_cases hc : d.rep < (voF p r : Int)
  · have HC : Hid (d.rep < (voF p r : Int)) := hc
    rw [decide_eq_true hc]
    clear hc
    have hno := none_any wc
    go_wp2_with fail
    refine hno.mono ?_
    rintro e w1 ⟨rfl, hb1⟩
    have hS1 := hS.trans (hb1.mono hS.size)
    have hkR := HK4.out w1 hS1
    have hbW := HB.out w1 hS1
    clear hno
    simp only [orV, noOr]
    obtain ⟨m0, m1, m2, m3, m4, m5⟩ := cells5 hkR
    have f0 := m5 0
    have f1 := m5 1
    have f2 := m5 2
    have f3 := m5 3
    have f4 := m5 4
    have hst := set5_block hkR (.int .i64 0) (.int .u64 0) (.int .i64 0) (.int .u64 0) (.int .u64 0)
    have hch := set5_chg w1 (w.heap.size + 1) (.int .i64 0) (.int .u64 0) (.int .i64 0) (.int .u64 0) (.int .u64 0)
    have HF : Hid _ := (hbW).trans (hch.below (fun b q => by omega) (hbW).size)
    clear m5 hch
    go_wp2_with fail
    generalize World.setCell _ ⟨_, 4, none⟩ _ = wz at *
    obtain ⟨k0, k1, k2, k3, k4, _⟩ := cells5 hst
    refine bodyPost_ret (v := .tuple #[.agg #[.int .i64 0, .int .u64 0, .int .i64 0, .int .u64 0, .int .u64 0], .bool false]) (by simp [results, Tryz.results38, go_sem, k0, k1, k2, k3, k4]; try rfl) rfl ?_
    exact RuA.mk noOr false rfl (by unfold PromP; rw [if_pos HC.out]) HF.out
  · have HC : Hid (¬ d.rep < (voF p r : Int)) := hc
    rw [decide_eq_false hc]
    clear hc
    obtain ⟨n0, n1, n2, n3, n4, n5, n6, n7, n8⟩ := HN.out wc hS
    have hb1 := ob_al wc (.cells #[.func (.func 62) #[.pointer (some ⟨x, 0, none⟩)] #[], .func (.func 63) #[] #[]] 78)
    have hS1 := hS.trans (hb1.mono hS.size)
    have hon := only_any (HI.out.p.below hS1 (Nat.le_refl _)) (rdis_2 (heap_new wc (.cells #[.func (.func 62) #[.pointer (some ⟨x, 0, none⟩)] #[], .func (.func 63) #[] #[]] 78)) (is_lives (HP.out.below hS1)) (is_learns _)) hl
    go_wp2_with fail
    refine hon.mono ?_
    rintro e w1 ⟨v1, rfl, ho1, hb2⟩
    have hS2 := hS1.trans (hb2.mono hS1.size)
    have hfi := first_any ord_old ho1.rd (ah_older w1) (fun e he => hdm e (List.mem_filter.1 he).1) (Nat.le_trans (List.length_filter_le _ _) hl)
    obtain ⟨a1, d1, rfl, -⟩ := ho1.rd.shape
    clear hon n0 n1 n2 n3 n4 n5 n6 n7 n8
    go_wp2_with fail
    refine hfi.mono ?_
    rintro e w3 ⟨⟨⟨q0, q1, q2⟩, qb⟩, rfl, hq, hb3⟩
    have hS3 := hS2.trans (hb3.mono hS2.size)
    have HQ : Hid _ := hq
    clear hfi hq
    simp only [peV]
    go_upto_region 4 with fail
    have hbp := ob_al w3 (.cells #[.int .u64 (q0.toNat : Int), .int .i64 q1, .bool q2] 44)
    obtain ⟨z0, z1, z2, _⟩ := cells3 (heap_new w3 (.cells #[.int .u64 (q0.toNat : Int), .int .i64 q1, .bool q2] 44))
    have hS4 := hS3.trans (hbp.mono hS3.size)
    generalize World.alloc w3 _ = w4 at *
    obtain ⟨n0, n1, n2, n3, n4, n5, n6, n7, n8⟩ := HN.out w4 hS4
    have hkR := HK4.out w4 hS4
    have hbW := HB.out w4 hS4
    clear n1 n2 n3 n4 n5 n6 n7 n8
    obtain ⟨m0, m1, m2, m3, m4, m5⟩ := cells5 hkR
    have f0 := m5 0
    have f1 := m5 1
    have f2 := m5 2
    have f3 := m5 3
    have f4 := m5 4
    have hst := set5_block hkR (.int .i64 2) (.int .u64 (r.id.toNat : Int)) (.int .i64 q1) (.int .u64 (q0.toNat : Int)) (.int .u64 0)
    have hch := set5_chg w4 (w.heap.size + 1) (.int .i64 2) (.int .u64 (r.id.toNat : Int)) (.int .i64 q1) (.int .u64 (q0.toNat : Int)) (.int .u64 0)
    have HF : Hid _ := (hbW).trans (hch.below (fun b q => by omega) (hbW).size)
    clear m5 hch
    go_wp2_with fail
    generalize World.setCell _ ⟨_, 4, none⟩ _ = wz at *
    obtain ⟨k0, k1, k2, k3, k4, _⟩ := cells5 hst
    refine bodyPost_ret (v := .tuple #[.agg #[.int .i64 2, .int .u64 (r.id.toNat : Int), .int .i64 q1, .int .u64 (q0.toNat : Int), .int .u64 0], .bool qb]) (by simp [results, Tryz.results38, go_sem, k0, k1, k2, k3, k4]; try rfl) rfl ?_
    exact RuA.mk ⟨2, r.id.toNat, q1, q0.toNat, 0⟩ qb rfl (by unfold PromP; rw [if_neg (by have := HC.out; omega)]; exact ⟨((q0, q1, q2), qb), HQ.out, rfl, rfl⟩) HF.out
end
end Go.Proofs.YtedfjacmaidhkaaGreat
