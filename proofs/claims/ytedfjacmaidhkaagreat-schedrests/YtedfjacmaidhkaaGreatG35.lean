/- The rule remove. -/
import Derived.Test.YtedfjacmaidhkaaGreatG23
import Derived.Deep.CutRange
namespace Go.Proofs.YtedfjacmaidhkaaGreat
open Go.RowKit Go.Maps
set_option linter.unusedVariables false
set_option linter.unusedSimpArgs false
set_option maxRecDepth 100000

/-- What the third rule answers. -/
def RemP (d : PL) (p : PD) (r : RV) (o : Or) (b : Bool) : Prop :=
  ∃ q : Pe × Bool, FirstP oldF (onlyF r.ps [fun q => !livF p.ss q]) q ∧
    if (voF p r : Int) < d.rep ∨ ((voF p r : Int) = d.rep ∧ q.2 = false) then b = false
    else ∃ u : Pe × Bool, (if q.2 = true then u = q else FirstP (fun a b => lesF p.ld b a) (onlyF r.ps [votF]) u) ∧ b = u.2 ∧ o = ⟨3, r.id.toNat, u.1.2.1, u.1.1.toNat, 0⟩
section
variable {x : Nat} {d : PL} {p : PD} {r : RV} {w : World}
set_option maxHeartbeats 4000000 in
theorem remove_any (h : Pln x d p w) (hr : It9 w r) (hdm : ∀ e ∈ r.ps, i64 e.2.1) (hl : r.ps.length ≤ 1099511627000) :
    Calls Tryz.prog 40 #[.pointer (some ⟨x, 0, none⟩), .agg #[.int .u64 (r.id.toNat : Int), .slice r.sa r.s.length r.sc, .slice r.ea r.e.length r.ec, .int .u64 r.cf, .int .u64 r.vr, .slice r.pa r.ps.length r.pc, .int .i64 r.ld, .int .i64 r.sz, .bool r.bz]] w fun e w' => RuA w (RemP d p r) e w' := by
  obtain ⟨hkb, hk4, hb0⟩ := two_bx w (.cells #[.int .u64 (r.id.toNat : Int), .slice r.sa r.s.length r.sc, .slice r.ea r.e.length r.ec, .int .u64 r.cf, .int .u64 r.vr, .slice r.pa r.ps.length r.pc, .int .i64 r.ld, .int .i64 r.sz, .bool r.bz] 42) (.cells #[.int .i64 0, .int .u64 0, .int .i64 0, .int .u64 0, .int .u64 0] 32)
  have h0 := h.below hb0
  have hr0 := hr.below hb0 (Nat.le_refl _)
  have hmf : ∀ (fn : Fn) (first cap : Array Value) (w : World), (Instr.makeFunc fn first cap).run Tryz.prog w = .ok (.func fn first cap) w := fun _ _ _ _ => rfl
  clear h hr
  go_enter Tryz.func40, Tryz.ntmps40
  go_upto_region 1 with fail
  generalize World.alloc (World.alloc w _) _ = w0 at *
  have HP : Hid (Pln x d p w0) := h0
  have HI : Hid (It9 w0 r) := hr0
  have HN : Hid (∀ W, Below w0.heap.size w0 W → W.cell? ⟨w.heap.size, 0, none⟩ = some (.int .u64 (r.id.toNat : Int)) ∧ W.cell? ⟨w.heap.size, 1, none⟩ = some (.slice r.sa r.s.length r.sc) ∧ W.cell? ⟨w.heap.size, 2, none⟩ = some (.slice r.ea r.e.length r.ec) ∧ W.cell? ⟨w.heap.size, 3, none⟩ = some (.int .u64 r.cf) ∧ W.cell? ⟨w.heap.size, 4, none⟩ = some (.int .u64 r.vr) ∧ W.cell? ⟨w.heap.size, 5, none⟩ = some (.slice r.pa r.ps.length r.pc) ∧ W.cell? ⟨w.heap.size, 6, none⟩ = some (.int .i64 r.ld) ∧ W.cell? ⟨w.heap.size, 7, none⟩ = some (.int .i64 r.sz) ∧ W.cell? ⟨w.heap.size, 8, none⟩ = some (.bool r.bz)) := fun W hW => nine_at (r := r) (keep_blk hkb hW)
  have HK4 : Hid (∀ W, Below w0.heap.size w0 W → W.heap[w.heap.size + 1]? = some (.cells #[.int .i64 0, .int .u64 0, .int .i64 0, .int .u64 0, .int .u64 0] 32 (0, 0))) := fun W hW => keep_blk hk4 hW
  have HB : Hid (∀ W, Below w0.heap.size w0 W → Below w.heap.size w W) := fun W hW => hb0.trans (hW.mono hb0.size)
  have HX : Hid (∀ W, Below w0.heap.size w0 W → W.cell? ⟨x, 0, none⟩ = some (.int .i64 d.pr) ∧ W.cell? ⟨x, 1, none⟩ = some (.int .i64 d.psp) ∧ W.cell? ⟨x, 2, none⟩ = some (.int .i64 d.pmg) ∧ W.cell? ⟨x, 3, none⟩ = some (.int .i64 d.rep)) := fun W hW => ⟨(HP.out.below hW).at_ rfl, (HP.out.below hW).at_ rfl, (HP.out.below hW).at_ rfl, (HP.out.below hW).at_ rfl⟩
  clear h0 hr0 hkb hk4
  obtain ⟨n0, n1, n2, n3, n4, n5, n6, n7, n8⟩ := HN.out w0 (Below.refl _ _)
  have hvo := voting_any HP.out HI.out hl
  go_wp2_with fail
  refine hvo.mono ?_
  rintro e w1 ⟨rfl, hb1⟩
  clear hvo n0 n1 n2 n3 n4 n5 n6 n7 n8
  go_upto_region 2 with fail
  obtain ⟨n0, n1, n2, n3, n4, n5, n6, n7, n8⟩ := HN.out w1 hb1
  clear n0 n1 n2 n3 n4 n6 n7 n8
  have hba := ob_al w1 (.cells #[.func (.func 66) #[.pointer (some ⟨x, 0, none⟩)] #[]] 78)
  have hSa := hb1.trans (hba.mono hb1.size)
  have hon := only_any (HI.out.p.below hSa (Nat.le_refl _)) (rdis_1 (heap_new w1 (.cells #[.func (.func 66) #[.pointer (some ⟨x, 0, none⟩)] #[]] 78)) (is_lost (HP.out.below hSa))) hl
  go_wp2_with fail
  refine hon.mono ?_
  rintro e w2 ⟨v2, rfl, ho2, hb2⟩
  have hS2 := hSa.trans (hb2.mono hSa.size)
  have hfi := first_any ord_old ho2.rd (ah_older w2) (fun e he => hdm e (List.mem_filter.1 he).1) (Nat.le_trans (List.length_filter_le _ _) hl)
  obtain ⟨a2, d2, rfl, -⟩ := ho2.rd.shape
  clear hon n5 hba
  go_wp2_with fail
  refine hfi.mono ?_
  rintro e w3 ⟨⟨⟨q0, q1, q2⟩, qb⟩, rfl, hq, hb3⟩
  have hS3 := hS2.trans (hb3.mono hS2.size)
  have HQ : Hid _ := hq
  clear hfi hq ho2 hb2 hb3
  simp only [peV]
  go_upto_region 3 with fail
  have hbp := ob_al w3 (.cells #[.int .u64 (q0.toNat : Int), .int .i64 q1, .bool q2] 44)
  have hk7 := heap_new w3 (.cells #[.int .u64 (q0.toNat : Int), .int .i64 q1, .bool q2] 44)
  have hS4 := hS3.trans (hbp.mono hS3.size)
  have h7b : w0.heap.size ≤ w3.heap.size := hS3.size
  generalize World.alloc w3 _ = w4 at *
  generalize w3.heap.size = b7 at *
  obtain ⟨-, -, -, x3⟩ := HX.out w4 hS4
  generalize hvv : (voF p r : Int) = vo at *
  have HVV : Hid ((voF p r : Int) = vo) := hvv
  clear hvv hbp hS3 hS2 hSa hb1
  have HNO : Hid ((vo < d.rep ∨ (vo = d.rep ∧ qb = false)) → RemP d p r noOr false) := fun c => ⟨((q0, q1, q2), qb), HQ.out, by rw [HVV.out, if_pos c]⟩
  by_cases c1 : vo < d.rep
  · have HC : Hid (RemP d p r noOr false) := HNO.out (.inl c1)
    clear HNO
    go_upto_region 4 with fail
    have hno := none_any w4
    go_wp2_with fail
    refine hno.mono ?_
    rintro e w1 ⟨rfl, hb1⟩
    have hS1 := hS4.trans (hb1.mono hS4.size)
    have hkR := HK4.out w1 hS1
    have hbW := HB.out w1 hS1
    clear hno
    simp only [orV, noOr]
    obtain ⟨m0, m1, m2, m3, m4, m5⟩ := cells5 hkR
    have f0 := m5 0
    have f1 := m5 1
    have f2 := m5 2
    have f3 := m5 3
    have f4 := m5 4
    have hst := set5_block hkR (.int .i64 0) (.int .u64 0) (.int .i64 0) (.int .u64 0) (.int .u64 0)
    have hch := set5_chg w1 (w.heap.size + 1) (.int .i64 0) (.int .u64 0) (.int .i64 0) (.int .u64 0) (.int .u64 0)
    have HF : Hid _ := (hbW).trans (hch.below (fun b q => by omega) (hbW).size)
    clear m5 hch
    go_wp2_with fail
    generalize World.setCell _ ⟨_, 4, none⟩ _ = wz at *
    obtain ⟨k0, k1, k2, k3, k4, _⟩ := cells5 hst
    refine bodyPost_ret (v := .tuple #[.agg #[.int .i64 0, .int .u64 0, .int .i64 0, .int .u64 0, .int .u64 0], .bool false]) (by simp [results, Tryz.results40, go_sem, k0, k1, k2, k3, k4]; try rfl) rfl ?_
    exact RuA.mk noOr false rfl (HC.out) HF.out
  · by_cases c2 : vo = d.rep
    · have c3 : (vo == d.rep) = true := by rw [beq_iff_eq]; exact c2
      cases qb with
      | false =>
        have HC : Hid (RemP d p r noOr false) := HNO.out (.inr ⟨c2, rfl⟩)
        clear HNO c2
        go_upto_region 4 with fail
        have hno := none_any w4
        go_wp2_with fail
        refine hno.mono ?_
        rintro e w1 ⟨rfl, hb1⟩
        have hS1 := hS4.trans (hb1.mono hS4.size)
        have hkR := HK4.out w1 hS1
        have hbW := HB.out w1 hS1
        clear hno
        simp only [orV, noOr]
        obtain ⟨m0, m1, m2, m3, m4, m5⟩ := cells5 hkR
        have f0 := m5 0
        have f1 := m5 1
        have f2 := m5 2
        have f3 := m5 3
        have f4 := m5 4
        have hst := set5_block hkR (.int .i64 0) (.int .u64 0) (.int .i64 0) (.int .u64 0) (.int .u64 0)
        have hch := set5_chg w1 (w.heap.size + 1) (.int .i64 0) (.int .u64 0) (.int .i64 0) (.int .u64 0) (.int .u64 0)
        have HF : Hid _ := (hbW).trans (hch.below (fun b q => by omega) (hbW).size)
        clear m5 hch
        go_wp2_with fail
        generalize World.setCell _ ⟨_, 4, none⟩ _ = wz at *
        obtain ⟨k0, k1, k2, k3, k4, _⟩ := cells5 hst
        refine bodyPost_ret (v := .tuple #[.agg #[.int .i64 0, .int .u64 0, .int .i64 0, .int .u64 0, .int .u64 0], .bool false]) (by simp [results, Tryz.results40, go_sem, k0, k1, k2, k3, k4]; try rfl) rfl ?_
        exact RuA.mk noOr false rfl (HC.out) HF.out
      | true =>
        have HC : Hid (RemP d p r ⟨3, r.id.toNat, q1, q0.toNat, 0⟩ true) := ⟨((q0, q1, q2), true), HQ.out, by rw [HVV.out, if_neg (by rintro (q | ⟨_, q⟩); exact c1 q; cases q)]; exact ⟨((q0, q1, q2), true), rfl, rfl, rfl⟩⟩
        clear HNO c2
        go_upto_region 7 with fail
        obtain ⟨n0, n1, n2, n3, n4, n5, n6, n7, n8⟩ := HN.out w4 hS4
        clear n1 n2 n3 n4 n5 n6 n7 n8
        obtain ⟨z0, z1, z2, _⟩ := cells3 hk7
        have hkR := HK4.out w4 hS4
        have hbW := HB.out w4 hS4
        obtain ⟨m0, m1, m2, m3, m4, m5⟩ := cells5 hkR
        have f0 := m5 0
        have f1 := m5 1
        have f2 := m5 2
        have f3 := m5 3
        have f4 := m5 4
        have hst := set5_block hkR (.int .i64 3) (.int .u64 (r.id.toNat : Int)) (.int .i64 q1) (.int .u64 (q0.toNat : Int)) (.int .u64 0)
        have hch := set5_chg w4 (w.heap.size + 1) (.int .i64 3) (.int .u64 (r.id.toNat : Int)) (.int .i64 q1) (.int .u64 (q0.toNat : Int)) (.int .u64 0)
        have HF : Hid _ := (hbW).trans (hch.below (fun b q => by omega) (hbW).size)
        clear m5 hch
        go_wp2_with fail
        generalize World.setCell _ ⟨_, 4, none⟩ _ = wz at *
        obtain ⟨k0, k1, k2, k3, k4, _⟩ := cells5 hst
        refine bodyPost_ret (v := .tuple #[.agg #[.int .i64 3, .int .u64 (r.id.toNat : Int), .int .i64 q1, .int .u64 (q0.toNat : Int), .int .u64 0], .bool true]) (by simp [results, Tryz.results40, go_sem, k0, k1, k2, k3, k4]; try rfl) rfl ?_
        exact RuA.mk ⟨3, r.id.toNat, q1, q0.toNat, 0⟩ true rfl HC.out HF.out
    · have c3 : (vo == d.rep) = false := by rw [beq_eq_false_iff_ne]; exact c2
      cases qb with
      | true =>
        have HC : Hid (RemP d p r ⟨3, r.id.toNat, q1, q0.toNat, 0⟩ true) := ⟨((q0, q1, q2), true), HQ.out, by rw [HVV.out, if_neg (by rintro (q | ⟨q, _⟩); exact c1 q; exact c2 q)]; exact ⟨((q0, q1, q2), true), rfl, rfl, rfl⟩⟩
        clear HNO c2
        go_upto_region 7 with fail
        obtain ⟨n0, n1, n2, n3, n4, n5, n6, n7, n8⟩ := HN.out w4 hS4
        clear n1 n2 n3 n4 n5 n6 n7 n8
        obtain ⟨z0, z1, z2, _⟩ := cells3 hk7
        have hkR := HK4.out w4 hS4
        have hbW := HB.out w4 hS4
        obtain ⟨m0, m1, m2, m3, m4, m5⟩ := cells5 hkR
        have f0 := m5 0
        have f1 := m5 1
        have f2 := m5 2
        have f3 := m5 3
        have f4 := m5 4
        have hst := set5_block hkR (.int .i64 3) (.int .u64 (r.id.toNat : Int)) (.int .i64 q1) (.int .u64 (q0.toNat : Int)) (.int .u64 0)
        have hch := set5_chg w4 (w.heap.size + 1) (.int .i64 3) (.int .u64 (r.id.toNat : Int)) (.int .i64 q1) (.int .u64 (q0.toNat : Int)) (.int .u64 0)
        have HF : Hid _ := (hbW).trans (hch.below (fun b q => by omega) (hbW).size)
        clear m5 hch
        go_wp2_with fail
        generalize World.setCell _ ⟨_, 4, none⟩ _ = wz at *
        obtain ⟨k0, k1, k2, k3, k4, _⟩ := cells5 hst
        refine bodyPost_ret (v := .tuple #[.agg #[.int .i64 3, .int .u64 (r.id.toNat : Int), .int .i64 q1, .int .u64 (q0.toNat : Int), .int .u64 0], .bool true]) (by simp [results, Tryz.results40, go_sem, k0, k1, k2, k3, k4]; try rfl) rfl ?_
        exact RuA.mk ⟨3, r.id.toNat, q1, q0.toNat, 0⟩ true rfl HC.out HF.out
      | false =>
        have HC : Hid (∀ u : Pe × Bool, FirstP (fun a b => lesF p.ld b a) (onlyF r.ps [votF]) u → RemP d p r ⟨3, r.id.toNat, u.1.2.1, u.1.1.toNat, 0⟩ u.2) := fun u hu => ⟨((q0, q1, q2), false), HQ.out, by rw [HVV.out, if_neg (by rintro (q | ⟨q, _⟩); exact c1 q; exact c2 q)]; exact ⟨u, by rw [if_neg (by simp)]; exact hu, rfl, rfl⟩⟩
        clear HNO c2
        go_upto_region 6 with fail
        obtain ⟨n0, n1, n2, n3, n4, n5, n6, n7, n8⟩ := HN.out w4 hS4
        clear n0 n1 n2 n3 n4 n6 n7 n8
        have hba := ob_al w4 (.cells #[.func (.func 26) #[] #[]] 78)
        have hSa := hS4.trans (hba.mono hS4.size)
        have hon := only_any (HI.out.p.below hSa (Nat.le_refl _)) (rdis_1 (heap_new w4 (.cells #[.func (.func 26) #[] #[]] 78)) (is_votes _)) hl
        go_wp2_with fail
        refine hon.mono ?_
        rintro e w5 ⟨v5, rfl, ho5, hb5⟩
        have hS5 := hSa.trans (hb5.mono hSa.size)
        have hfi := first_any (ord_gre p.ld) ho5.rd (ah_fuller (HP.out.below hS5)) (fun e he => hdm e (List.mem_filter.1 he).1) (Nat.le_trans (List.length_filter_le _ _) hl)
        have hk75 := keep_blk hk7 (hba.trans (hb5.mono hba.size))
        obtain ⟨a5, d5, rfl, -⟩ := ho5.rd.shape
        clear hon n5
        go_wp2_with fail
        refine hfi.mono ?_
        rintro e w6 ⟨⟨⟨u0, u1, u2⟩, ub⟩, rfl, hu, hb6⟩
        have hS6 := hS5.trans (hb6.mono hS5.size)
        have HU : Hid _ := HC.out _ hu
        have hk76 := keep_blk hk75 hb6
        have hch := set3_chg w6 b7 (.int .u64 (u0.toNat : Int)) (.int .i64 u1) (.bool u2)
        have hk77 := set3_block hk76 (.int .u64 (u0.toNat : Int)) (.int .i64 u1) (.bool u2)
        have hS7 := hS6.trans (hch.below (fun b q => by omega) hS6.size)
        obtain ⟨y0, y1, y2, yf⟩ := cells3 hk76
        have yf0 := yf 0
        have yf1 := yf 1
        have yf2 := yf 2
        clear hfi hu hch yf hk75 hk76 ho5 hb5 hb6 hba HC
        simp only [peV]
        go_upto_region 7 with fail
        clear y0 y1 y2 yf0 yf1 yf2
        generalize World.setCell _ ⟨b7, 2, none⟩ _ = w7 at *
        obtain ⟨n0, n1, n2, n3, n4, n5, n6, n7, n8⟩ := HN.out w7 hS7
        clear n1 n2 n3 n4 n5 n6 n7 n8
        obtain ⟨z0, z1, z2, _⟩ := cells3 hk77
        have hkR := HK4.out w7 hS7
        have hbW := HB.out w7 hS7
        obtain ⟨m0, m1, m2, m3, m4, m5⟩ := cells5 hkR
        have f0 := m5 0
        have f1 := m5 1
        have f2 := m5 2
        have f3 := m5 3
        have f4 := m5 4
        have hst := set5_block hkR (.int .i64 3) (.int .u64 (r.id.toNat : Int)) (.int .i64 u1) (.int .u64 (u0.toNat : Int)) (.int .u64 0)
        have hch := set5_chg w7 (w.heap.size + 1) (.int .i64 3) (.int .u64 (r.id.toNat : Int)) (.int .i64 u1) (.int .u64 (u0.toNat : Int)) (.int .u64 0)
        have HF : Hid _ := (hbW).trans (hch.below (fun b q => by omega) (hbW).size)
        clear m5 hch
        go_wp2_with fail
        generalize World.setCell _ ⟨_, 4, none⟩ _ = wz at *
        obtain ⟨k0, k1, k2, k3, k4, _⟩ := cells5 hst
        refine bodyPost_ret (v := .tuple #[.agg #[.int .i64 3, .int .u64 (r.id.toNat : Int), .int .i64 u1, .int .u64 (u0.toNat : Int), .int .u64 0], .bool ub]) (by simp [results, Tryz.results40, go_sem, k0, k1, k2, k3, k4]; try rfl) rfl ?_
        exact RuA.mk ⟨3, r.id.toNat, u1, u0.toNat, 0⟩ ub rfl HU.out HF.out
end
end Go.Proofs.YtedfjacmaidhkaaGreat
