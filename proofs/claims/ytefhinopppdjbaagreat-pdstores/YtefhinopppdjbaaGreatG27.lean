/- register, where it is well. -/
import Derived.Test.YtefhinopppdjbaaGreatG26
import Derived.Laws.Cover1
namespace Go.Proofs.YtefhinopppdjbaaGreat
open Go.RowKit
set_option linter.unusedVariables false
set_option linter.unusedSimpArgs false
set_option maxRecDepth 100000

section
variable {B p : Nat} {d : DC} {w w' : World} {H : List EN}
theorem Hp.fixX {H : List EN} (hH : M.Hp elt H H.length) {i : Nat} (hi : i < H.length) (e : EN) : M.HpX elt (H.set i e) (H.set i e).length i := by
  rw [List.length_set]
  exact hH.setX (Nat.le_refl _) hi e elt_tr
theorem Tu.of_fix {w1 w2 w3 : World} {G H' : List EN} (hb : Below w.heap.size w w1) (h2 : Chg (RgS p d) w1 w2) (hr : Rg B p d w3 H') (hH : M.Hp elt H' H'.length) (h3 : Chg (RgS p d) w2 w3) : Tu B p d w w3 d.ev H' :=
  ⟨hr, hH, ((chg_bl hb).trans (h2.mono (fun b _ q => .inl q))).trans (h3.mono (fun b _ q => .inl q)), .inl rfl⟩
set_option maxHeartbeats 4000000 in
theorem register_ok (c : PC) (T U : UInt64) (hT : c.ts = T.toNat) (hU : U.toNat = d.c + c.ttl) (h0 : T.toNat ≠ 0) (h1 : 1 ≤ c.ttl) (h2 : c.ttl ≤ 1048576) (h3 : d.s < T.toNat) (h : Rg B p d w H) (hH : M.Hp elt H H.length) (hN : Ndp H) (hl : H.length < 256) :
    Calls Tryz.prog 22 #[.pointer (some ⟨p, 0, none⟩), .agg (pcA c)] w fun e w' => e = .returned (prA 0 0 0) ∧ ∃ x H', Tu B p d w w' x H' ∧ H'.Perm (regE T U H) := by
  have hbx := Bxd.new c w
  have hB0 := (two_new w (.cells (pcA c) 38) (.cells #[.int .i64 0, .int .u64 0, .int .i64 0] 29)).2.2
  have hpx := h.drv.lt
  have hr := h.below hB0 (Nat.le_refl _)
  have hUl := U.toNat_lt
  have g0 : ((T.toNat : Int) == 0) = false := by rw [beq_eq_false_iff_ne]; omega
  have g1 : ¬ (c.ttl : Int) < 1 := by omega
  have g2 : ¬ (c.ttl : Int) > 1048576 := by omega
  have g3 : ¬ (T.toNat : Int) ≤ (d.s : Int) := by omega
  have g4 : (d.c : Int) + (c.ttl : Int) = (U.toNat : Int) := by omega
  have g5 : IntKind.u64.wrap (U.toNat : Int) = (U.toNat : Int) := by rw [IntKind.wrap_u64]; omega
  go_enter Tryz.func22, Tryz.ntmps22
  go_upto_region 1 with fail
  generalize World.alloc (World.alloc w _) _ = W at *
  have c2 : W.cell? ⟨w.heap.size, 2, none⟩ = some (.int .u64 (T.toNat : Int)) := by rw [← hT]; exact hbx.at_ rfl
  have c3 : W.cell? ⟨w.heap.size, 3, none⟩ = some (.int .u64 (c.ttl : Int)) := hbx.at_ rfl
  have p2 : W.cell? ⟨p, 2, none⟩ = some (.int .u64 (d.c : Int)) := hr.drv.at_ rfl
  have p3 : W.cell? ⟨p, 3, none⟩ = some (.int .u64 (d.s : Int)) := hr.drv.at_ rfl
  have p6 : W.cell? ⟨p, 6, none⟩ = some (.slice d.ev.1 d.ev.2.1 d.ev.2.2) := hr.drv.at_ rfl
  clear hU h3 hUl
  generalize c.ttl = ttl at *
  go_wp2_with fail
  go_quiet (fail)
  go_wp2_with fail
  go_quiet (fail)
  clear c3 p2 p3
  generalize hWW : W.drewN _ = W1 at *
  have hbW : Below W.heap.size W W1 := by rw [← hWW]; exact Below.dN W _
  clear hWW
  have hrW := hr.below hbW (Nat.le_refl _)
  have d2 : W1.cell? ⟨w.heap.size, 2, none⟩ = some (.int .u64 (T.toNat : Int)) := by rw [hbW.cell (World.block_lt_of_cell? W _ c2)]; exact c2
  have d6 : W1.cell? ⟨p, 6, none⟩ = some (.slice d.ev.1 d.ev.2.1 d.ev.2.2) := by rw [hbW.cell (World.block_lt_of_cell? W _ p6)]; exact p6
  have hbxW := hbx.below hbW
  have hB1 : Below w.heap.size w W1 := hB0.trans (hbW.mono hB0.size)
  clear c2 p6 hbx hr hB0 hbW
  have hfd := fun n => find_any (hrW.drewN n) (by omega) T
  unfold sv at hfd
  go_wp2_with fail
  go_region_held3 (fun w' => w'.cell? ⟨w.heap.size, 2, none⟩ = some (.int .u64 (T.toNat : Int)) ∧ w'.cell? ⟨p, 6, none⟩ = some (.slice d.ev.1 d.ev.2.1 d.ev.2.2)) (go_keep) (first
    | (go_at_call 44; refine (hfd _).mono ?_; rintro e w1 ⟨iv, rfl, hf, hb1⟩; have hb1' : Below W1.heap.size W1 w1 := (Below.dN W1 _).trans (hb1.mono (Nat.le_refl _)); have k2 : w1.cell? ⟨w.heap.size, 2, none⟩ = some (.int .u64 (T.toNat : Int)) := (by rw [hb1'.cell (World.block_lt_of_cell? W1 _ d2)]; exact d2); have k6 : w1.cell? ⟨p, 6, none⟩ = some (.slice d.ev.1 d.ev.2.1 d.ev.2.2) := (by rw [hb1'.cell (World.block_lt_of_cell? W1 _ d6)]; exact d6))
    | fail)
  have hr1 := hrW.below hb1' (Nat.le_refl _)
  have hbx1 := hbxW.below hb1'
  have hB2 : Below w.heap.size w w1 := hB1.trans (hb1'.mono hB1.size)
  clear hfd d2 d6 hb1 hb1' hrW hbxW hB1
  rcases hf with ⟨i, x, rfl, hi, hx⟩ | ⟨rfl, hno⟩
  · have hil : i < H.length := (List.getElem?_eq_some_iff.1 hi).1
    obtain ⟨g, cc, hd, l1, l2, _, a0, a1, fr⟩ := hr1.at_ hi
    unfold maxLen at l2
    have hm : (if x.2.toNat < U.toNat then (U.toNat : Int) else (x.2.toNat : Int)) = ((mxU x.2 U).toNat : Int) := by unfold mxU; split <;> rfl
    have hx1 := hr1.drewN 1
    have hset : ∀ n, Rg B p d ((w1.drewN n).setCell ⟨g, i * 2 + 1, none⟩ (.int .u64 ((mxU x.2 U).toNat : Int))) (H.set i (x.1, mxU x.2 U)) ∧ Chg (RgS p d) (w1.drewN n) ((w1.drewN n).setCell ⟨g, i * 2 + 1, none⟩ (.int .u64 ((mxU x.2 U).toNat : Int))) := fun n => (hr1.drewN n).set1 hd hi (mxU x.2 U)
    have HRG : Hid (H.set i (x.1, mxU x.2 U) = regE T U H) := reg_known hN hi hx
    have hXX := Hp.fixX hH hil (x.1, mxU x.2 U)
    have hii : (i : Int) < (H.length : Int) := by omega
    have hi0 : (0 : Int) ≤ (i : Int) := by omega
    have hd1 : d.ev.1 = some ⟨g, 0, none⟩ := by rw [hd]
    have hd2 : d.ev.2.1 = H.length := by rw [hd]
    have frz := fr (i * 2 + 1)
    have HS : Hid _ := hset
    generalize (mxU x.2 U).toNat = mz at *
    clear hset hi hx hd hx1 fr
    obtain ⟨x1, x2⟩ := x
    simp only [] at *
    go_wp2_with fail
    go_region
    have hs1 := HS.out 1
    have hs1' : Rg B p d ((w1.setCell ⟨g, i * 2 + 1, none⟩ (.int .u64 (mz : Int))).drew) (H.set i (x1, mxU x2 U)) ∧ Chg (RgS p d) w1 ((w1.setCell ⟨g, i * 2 + 1, none⟩ (.int .u64 (mz : Int))).drew) := ⟨hs1.1, (chg_dN _ w1 1).trans (hs1.2.mono (fun b _ q => .inl q))⟩
    clear hs1 HS
    go_upto_region 10 with fail
    generalize World.drew _ = W5 at *
    obtain ⟨hr5, hc5⟩ := hs1'
    have hfx := hfix_any hr5 (j := i) (by rw [List.length_set]; exact hil) (by rw [List.length_set]; omega) hXX
    have hbx5 := hbx1.ik (hr1.ik hc5)
    clear hXX a0 a1 frz k6 hm
    go_wp2_with fail
    refine hfx.mono ?_
    rintro e w6 ⟨⟨u, rfl⟩, H6, hr6, hH6, hc6, hp6⟩
    have hbx6 := hbx5.ik (hr5.ik hc6)
    obtain ⟨r0, r1, r2, f5, f6, f7⟩ := hbx6.rs
    have HP6 : Hid _ := hp6
    clear hp6 hfx
    go_wp2_with fail
    obtain ⟨⟨k0, k1, k2⟩, hc⟩ := pr_fin hbx6.res (.int .i64 0) (.int .u64 0) (.int .i64 0)
    have hTz := Tu.fin (Below.refl _ _) (Tu.of_fix (G := H) hB2 hc5 hr6 hH6 hc6) hbx6 hpx hc
    clear hc
    generalize World.setCell _ ⟨_, 2, none⟩ _ = wz at *
    refine bodyPost_ret (v := prA 0 0 0) (by simp [results, Tryz.results22, go_sem, k0, k1, k2]; try rfl) rfl ?_
    exact ⟨rfl, d.ev, H6, hTz, by rw [← HRG.out]; exact HP6.out⟩
  · have hln := hr1.len
    have hgl : ¬ (H.length : Int) ≥ 256 := by omega
    have hpu := fun n => hpush_any (T, U) (hr1.drewN n) hH (by omega)
    have HRG : Hid (regE T U H = H ++ [(T, U)]) := reg_new hno
    rw [hln] at k6
    clear hno hln
    go_wp2_with fail
    go_region_held3 (fun w' => w'.cell? ⟨w.heap.size, 2, none⟩ = some (.int .u64 (T.toNat : Int))) (go_keep) (first
      | (go_at_call 46; refine (hpu _).mono ?_; rintro e w6 ⟨⟨u, rfl⟩, x6, H6, hT6, hp6⟩; have hT6' : Tu B p d w1 w6 x6 H6 := Tu.after (Below.dN w1 _) hT6; have hbx6 := Bxd.tu hr1 hbx1 hT6'; have k2' : w6.cell? ⟨w.heap.size, 2, none⟩ = some (.int .u64 (T.toNat : Int)) := (by rw [← hT]; exact hbx6.at_ rfl))
      | fail)
    obtain ⟨r0, r1, r2, f5, f6, f7⟩ := hbx6.rs
    have HP6 : Hid _ := hp6
    clear hp6 hpu hT6
    go_wp2_with fail
    obtain ⟨⟨k0, k1, k2⟩, hc⟩ := pr_fin hbx6.res (.int .i64 0) (.int .u64 0) (.int .i64 0)
    have hTz := Tu.fin (Below.refl _ _) (Tu.after hB2 hT6') hbx6 hpx hc
    clear hc
    generalize World.setCell _ ⟨_, 2, none⟩ _ = wz at *
    refine bodyPost_ret (v := prA 0 0 0) (by simp [results, Tryz.results22, go_sem, k0, k1, k2]; try rfl) rfl ?_
    exact ⟨rfl, x6, H6, hTz, by rw [HRG.out]; exact HP6.out⟩
end
end Go.Proofs.YtefhinopppdjbaaGreat
