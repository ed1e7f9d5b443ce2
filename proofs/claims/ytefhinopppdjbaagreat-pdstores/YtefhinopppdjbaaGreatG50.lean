/- What PdStores answers. -/
import Derived.Test.YtefhinopppdjbaaGreatG49
import Derived.Deep.CutRange
import Derived.Laws.MakeOwn
namespace Go.Proofs.YtefhinopppdjbaaGreat
open Go.RowKit Go.Maps
set_option linter.unusedVariables false
set_option linter.unusedSimpArgs false
set_option maxRecDepth 100000

theorem mask7 (p : Int) : ∃ a : Nat, bits .and .i64 p 7 = (a : Int) ∧ a ≤ 7 := by
  have hle : (BitVec.ofInt 64 p &&& BitVec.ofInt 64 7).toNat ≤ 7 := by
    rw [BitVec.toNat_and, show (BitVec.ofInt 64 7).toNat = 7 by decide]
    exact Nat.and_le_right
  refine ⟨(BitVec.ofInt 64 p &&& BitVec.ofInt 64 7).toNat, ?_, hle⟩
  show IntKind.i64.wrap ((BitVec.ofInt 64 p &&& BitVec.ofInt 64 7).toNat : Int) = _
  rw [IntKind.wrap_i64]
  omega
theorem mask127 (n : Nat) (h : n < 18446744073709551616) : ∃ a : Nat, bits .and .u64 (n : Int) 127 = (a : Int) ∧ a ≤ 127 := by
  have hle : (BitVec.ofInt 64 (n : Int) &&& BitVec.ofInt 64 127).toNat ≤ 127 := by
    rw [BitVec.toNat_and, show (BitVec.ofInt 64 127).toNat = 127 by decide]
    exact Nat.and_le_right
  refine ⟨(BitVec.ofInt 64 (n : Int) &&& BitVec.ofInt 64 127).toNat, ?_, hle⟩
  show IntKind.u64.wrap ((BitVec.ofInt 64 (n : Int) &&& BitVec.ofInt 64 127).toNat : Int) = _
  rw [IntKind.wrap_u64]
  omega
theorem Noted.start : Noted (fun _ => none) (List.replicate 6 (.int .u64 0)) (List.replicate 6 (.bool false)) := by
  intro s h1 h2
  have : s = 1 ∨ s = 2 ∨ s = 3 ∨ s = 4 ∨ s = 5 := by omega
  rcases this with rfl | rfl | rfl | rfl | rfl <;> exact ⟨rfl, rfl⟩
theorem fld0 (er n st : Int) (W : World) : (Instr.field 29 (.agg #[.int .i64 er, .int .u64 n, .int .i64 st]) 0).run Tryz.prog W = .ok (.int .i64 er) W := by kernel_rfl
theorem mk6u (w : World) : (Instr.makeSlice 22 (.int .i64 6) (.int .i64 6)).run Tryz.prog w = .ok (.slice (some ⟨w.heap.size, 0, none⟩) 6 6) (w.alloc (.cells #[.int .u64 0, .int .u64 0, .int .u64 0, .int .u64 0, .int .u64 0, .int .u64 0] 23)) := by
  have hinf : (Tryz.prog.info? 23).map (fun i => (i.zero, i.size, i.bytes)) = some (some (.int .u64 0), 1, 8) := by kernel_rfl
  obtain ⟨i, hi, hz0, hz1, hz2⟩ := info_parts hinf
  have := run_makeSlice (P := Tryz.prog) w 22 23 i (.int .u64 0) Tryz.underlying22 hi hz0 .i64 .i64 6 6 (by omega) (by omega) (by rw [hz1]; decide) (by rw [hz2]; decide) (by omega)
  rw [hz1] at this
  have hR : madeCells (Value.int .u64 0).cells (Int.toNat 6 * 1) = #[.int .u64 0, .int .u64 0, .int .u64 0, .int .u64 0, .int .u64 0, .int .u64 0] := by kernel_rfl
  rw [hR] at this
  exact this
theorem mk6b (w : World) : (Instr.makeSlice 43 (.int .i64 6) (.int .i64 6)).run Tryz.prog w = .ok (.slice (some ⟨w.heap.size, 0, none⟩) 6 6) (w.alloc (.cells #[.bool false, .bool false, .bool false, .bool false, .bool false, .bool false] 4)) := by
  have hinf : (Tryz.prog.info? 4).map (fun i => (i.zero, i.size, i.bytes)) = some (some (.bool false), 1, 1) := by kernel_rfl
  obtain ⟨i, hi, hz0, hz1, hz2⟩ := info_parts hinf
  have := run_makeSlice (P := Tryz.prog) w 43 4 i (.bool false) Tryz.underlying43 hi hz0 .i64 .i64 6 6 (by omega) (by omega) (by rw [hz1]; decide) (by rw [hz2]; decide) (by omega)
  rw [hz1] at this
  have hR : madeCells (Value.bool false).cells (Int.toNat 6 * 1) = #[.bool false, .bool false, .bool false, .bool false, .bool false, .bool false] := by kernel_rfl
  rw [hR] at this
  exact this
set_option maxHeartbeats 8000000 in
theorem pdStores_any {v0 : Value} {l : List Int} (wi : Nat) (hwi : wi < 18446744073709551616) {w : World} (hl : Rj w v0 l) :
    Calls Tryz.prog 4 #[v0, .int .u64 (wi : Int)] w fun e w' => e = .returned (.bool true) ∧ Below w.heap.size w w' := by
  have haw := pdawake_any w
  have hnew := fun W => pnew_any 1 (by omega) (by omega) W
  obtain ⟨ao, co, rfl, l1, l2, l3, l4⟩ := hl
  unfold maxLen at l2
  obtain ⟨wv, hwv, hwl⟩ := mask127 wi hwi
  go_enter Tryz.func4, Tryz.ntmps4
  go_wp2_with fail
  refine haw.mono ?_
  rintro e w1 ⟨rfl, hb1⟩
  go_wp2_with fail
  refine (hnew _).mono ?_
  rintro e w2 ⟨rfl, hd2, hmp, -, -, hb2⟩
  have hbs := hb1.size
  have hs2 := hb2.size
  have hHd : Hd w.heap.size w1.heap.size 0 (fun _ => none) w2 := ⟨.map [], ⟨#[], 0, hmp, ⟨by simp, MapKept.stamped_empty 0, by simp⟩, Nat.le_refl _, rfl⟩, fun x => rfl, fun x c h => (by cases h), fun x h => (by cases h), hbs⟩
  obtain ⟨p, hp⟩ : ∃ p, w1.heap.size + 3 = p := ⟨_, rfl⟩
  rw [hp] at hd2 ⊢
  have hBp : w.heap.size ≤ p := by omega
  have hG0 : ∃ d, d.c = 0 ∧ Hd w.heap.size d.hm 0 (fun _ => none) w2 ∧ GW w.heap.size p d w w2 [] := ⟨_, rfl, hHd, ⟨hd2, World.ownsRow_nil _ _ _ _, hBp⟩, fun i x y _ h => absurd h (by simp), hb1.trans (hb2.mono hbs)⟩
  have hw2 : w.heap.size ≤ w2.heap.size := by omega
  clear hd2 hmp hHd hb1 hb2 haw hnew hp hbs hs2
  have hk1 := mk6u w2
  have hk2 := mk6b (w2.alloc (.cells #[.int .u64 0, .int .u64 0, .int .u64 0, .int .u64 0, .int .u64 0, .int .u64 0] 23))
  rw [show (w2.alloc (.cells #[.int .u64 0, .int .u64 0, .int .u64 0, .int .u64 0, .int .u64 0, .int .u64 0] 23)).heap.size = w2.heap.size + 1 by simp] at hk2
  go_upto_region 6 with fail
  have hz1 : (w2.alloc (.cells #[.int .u64 0, .int .u64 0, .int .u64 0, .int .u64 0, .int .u64 0, .int .u64 0] 23)).heap.size = w2.heap.size + 1 := by simp
  have hS0 : ∃ d, d.c = 0 ∧ SI w.heap.size p w2.heap.size (w2.heap.size + 1) w d (fun _ => none) 0 (List.replicate 6 (.int .u64 0)) (List.replicate 6 (.bool false)) ((w2.alloc (.cells #[.int .u64 0, .int .u64 0, .int .u64 0, .int .u64 0, .int .u64 0, .int .u64 0] 23)).alloc (.cells #[.bool false, .bool false, .bool false, .bool false, .bool false, .bool false] 4)) := by
    obtain ⟨d, q1, q2, q3⟩ := hG0
    have n1 := two_new w2 (.cells #[.int .u64 0, .int .u64 0, .int .u64 0, .int .u64 0, .int .u64 0, .int .u64 0] 23) (.cells #[.bool false, .bool false, .bool false, .bool false, .bool false, .bool false] 4)
    exact ⟨d, q1, (q3.al hw2 _).al (by rw [hz1]; omega) _, q2.below n1.2.2 (Nat.le_refl _), ⟨n1.1, rfl⟩, ⟨n1.2.1, rfl⟩, ⟨hw2, by omega⟩, fun x c h => (by cases h)⟩
  generalize World.alloc (World.alloc w2 _) _ = W3 at *
  obtain ⟨la, hla⟩ : ∃ la, w2.heap.size = la := ⟨_, rfl⟩
  rw [hla] at hS0 ⊢
  obtain ⟨lb, hlb⟩ : ∃ lb, la + 1 = lb := ⟨_, rfl⟩
  rw [hlb] at hS0 ⊢
  clear hk1 hk2 hG0 hz1 hw2 hla hlb
  go_wp2_with fail
  go_loopw [8, 9] (fun is _ wr => ∃ (j n : Nat) (d : DC) (f : Int → Option Nat) (xs ys : List Value), j ≤ l.length ∧ j ≤ 100 ∧ is = .int .i64 j ∧ n ≤ j ∧ d.c ≤ j ∧ SI w.heap.size p la lb w d f n xs ys wr ∧ Hid (Noted f xs ys)) (fun is _ _ => 100 - (intOf is).toNat)
  case atStart =>
    obtain ⟨d, q1, q2⟩ := hS0
    exact ⟨0, 0, d, _, _, _, Nat.zero_le _, by omega, rfl, Nat.le_refl _, by omega, q2, Noted.start⟩
  case round =>
    obtain ⟨j, n, d, f, xs, ys, hj, hj1, rfl, hnj, hdj, hS, HN⟩ := hrel
    clear hS0
    go_upto_region 7 with fail
    go_cut [26] from 19 to 56 (fun s wx => s = .bool (decide (j < l.length ∧ j < 100)) ∧ wx = wr)
    case first =>
      by_cases q1 : j < l.length
      · have g1 : (j : Int) < (l.length : Int) := by omega
        by_cases q2 : j < 100
        · have g2 : (j : Int) < 100 := by omega
          go_wp2_with fail
          go_meet
          exact ⟨by simp [q1, q2], rfl⟩
        · have g2 : decide ((j : Int) < 100) = false := decide_eq_false (by omega)
          go_wp2_with fail
          go_meet
          exact ⟨by simp [q1, q2], rfl⟩
      · have g1 : decide ((j : Int) < (l.length : Int)) = false := decide_eq_false (by omega)
        go_wp2_with fail
        go_meet
        exact ⟨by simp [q1], rfl⟩
    case rest =>
    obtain ⟨rfl, rfl⟩ := hcut
    by_cases hlt : j < l.length ∧ j < 100
    · rw [decide_eq_true hlt]
      obtain ⟨a, rfl, hc0⟩ := l4 j hlt.1
      have hc1 : wc.cell? (a.add j) = some (.int .i64 l[j]) := by rw [hS.gw.bl.cell (World.block_lt_of_cell? w _ hc0)]; exact hc0
      have hki : (j : Int) < (l.length : Int) := by omega
      clear hc0
      generalize l[j] = x at *
      obtain ⟨k, hk, hk7⟩ := mask7 x
      by_cases hko : 1 ≤ k ∧ k ≤ 5
      · have g1 : ((k : Int) == 0) = false := by rw [beq_eq_false_iff_ne]; omega
        have g2 : ¬ (k : Int) > 5 := by omega
        have gz : ¬ k = 0 := by omega
        have hdo := dhear (k : Int) (by omega) hS.gw.rg.drv hS.hd (by omega)
        have HS : Hid _ := hS
        have hk6 : (k : Int) < 6 := by omega
        clear hS
        go_wp2_with fail
        refine hdo.mono ?_
        rintro e w4 ⟨rfl, hd4, hc4⟩
        have hS4 := HS.out.hear hd4 hc4
        obtain ⟨yk, hyk⟩ : ∃ u, ys[k]? = some u := ⟨_, List.getElem?_eq_getElem (by have := hS4.siy.len; omega)⟩
        obtain ⟨xk, hxk⟩ : ∃ u, xs[k]? = some u := ⟨_, List.getElem?_eq_getElem (by have := hS4.six.len; omega)⟩
        have y1 := hS4.siy.cell hyk
        have yf := hS4.siy.froz k
        have hS5 := hS4.setY k (.bool true)
        have hck := clock_any hS5.gw.rg.drv
        have x1 := hS5.six.cell hxk
        have xf := hS5.six.froz k
        have hS6 := hS5.setX k (.int .u64 (d.c : Int))
        have HN6 : Hid (Noted (updF f (k : Int) d.c) (xs.set k (.int .u64 (d.c : Int))) (ys.set k (.bool true))) := HN.out.upd hS4.six.len hS4.siy.len hko d.c
        have HS6 : Hid _ := hS6
        simp only [prA]
        have hfl := fld0
        clear hd4 hc4 hS4 hS5 hS6 HS HN hdo hxk hyk
        go_wp2_with fail
        refine hck.mono ?_
        rintro e w5 ⟨rfl, rfl⟩
        go_wp2_with fail
        exact ⟨⟨j + 1, n + 1, d, _, _, _, by omega, by omega, by go_num, by omega, by omega, HS6.out, HN6⟩, by simp [intOf]; omega⟩
      · have hdo := dtick (by omega) (by simp) hS.gw.rg hS.gw.hp
        have HS : Hid _ := hS
        clear hS
        rcases (show k = 0 ∨ (k ≠ 0 ∧ 5 < k) by omega) with h0 | ⟨h0, h5⟩
        · subst h0
          go_wp2_with fail
          refine hdo.mono ?_
          rintro e w4 ⟨rfl, x4, H4, hT4, hp4⟩
          have hS4 := HS.out.tick hT4 hp4
          clear hT4 hp4 hdo HS
          go_wp2_with fail
          exact ⟨⟨j + 1, n, _, f, xs, ys, by omega, by omega, by go_num, by omega, by show d.c + 1 ≤ j + 1; omega, hS4, HN⟩, by simp [intOf]; omega⟩
        · have g1 : ((k : Int) == 0) = false := by rw [beq_eq_false_iff_ne]; omega
          have g2 : (k : Int) > 5 := by omega
          go_wp2_with fail
          refine hdo.mono ?_
          rintro e w4 ⟨rfl, x4, H4, hT4, hp4⟩
          have hS4 := HS.out.tick hT4 hp4
          clear hT4 hp4 hdo HS
          go_wp2_with fail
          exact ⟨⟨j + 1, n, _, f, xs, ys, by omega, by omega, by go_num, by omega, by show d.c + 1 ≤ j + 1; omega, hS4, HN⟩, by simp [intOf]; omega⟩
    · rw [decide_eq_false hlt]
      have HN2 : Hid (∀ s : Nat, 1 ≤ s → s ≤ 5 → xs[s]? = some (.int .u64 (((f (s : Int)).getD 0 : Nat) : Int)) ∧ ys[s]? = some (.bool (f (s : Int)).isSome)) := HN.out
      have HCL : Hid (∀ x c, f x = some c → c ≤ 100) := fun x c h => Nat.le_trans (hS.cl x c h) (by omega)
      have hc100 : d.c ≤ 100 := by omega
      have hn100 : n ≤ 100 := by omega
      clear HN hlt hj hnj hdj
      go_wp2_with fail
      go_loopw [10, 11, 12, 13] (fun us _ _ _ wr => ∃ u : Nat, wv ≤ u ∧ u ≤ wv + 2 ∧ us = .int .u64 (u : Int) ∧ SI w.heap.size p la lb w d f n xs ys wr) (fun us _ _ _ _ => wv + 2 - (intOf us).toNat)
      case atStart => exact ⟨wv, Nat.le_refl _, by omega, rfl, hS⟩
      case round =>
        obtain ⟨u, hu1, hu2, rfl, hSu⟩ := hrel
        clear hS
        by_cases hul : u ≤ wv + 1
        · have gu : (u : Int) ≤ (wv : Int) + 1 := by omega
          have hst := stores_any (wi := u) (by omega) (by omega) hSu.gw.rg.drv hSu.hd (by omega)
          have HSu : Hid _ := hSu
          clear hSu
          go_wp2_with fail
          refine hst.mono ?_
          rintro e w5 ⟨v5, r, rfl, ho5, hpw, hmem, hb5⟩
          have hS5 := HSu.out.bel hb5
          have HPW : Hid _ := hpw
          have HMEM : Hid (∀ s : Int, s ∈ r ↔ ∃ c, f s = some c ∧ d.c ≤ c + u) := fun s => by
            rw [hmem s]
            unfold sinceF
            cases hf : f s with
            | none => simp
            | some c =>
              simp only [decide_eq_true_eq, Option.some.injEq, exists_eq_left']
              omega
          have HKS : Hid (∀ s ∈ r, 1 ≤ s ∧ s ≤ 5) := fun s hs => by
            obtain ⟨c, hc, _⟩ := (HMEM.out s).1 hs
            obtain ⟨D, hI⟩ := hS5.hd
            exact hI.ks s (by rw [hc]; rfl)
          obtain ⟨ar, cr, rfl, m1, m2, m3, m4⟩ := ho5.rj
          unfold maxLen at m2
          have hstart : Cnt r 1 0 := ⟨Nat.zero_le _, fun i x h => absurd h (by omega), fun i x _ hx => (HKS.out x (List.mem_of_getElem? hx)).1⟩
          clear hpw hmem ho5 hst hb5 HSu
          go_wp2_with fail
          go_loopw [12, 13] (fun avs ss wr => ∃ (at' s : Nat), 1 ≤ s ∧ s ≤ 6 ∧ avs = .int .i64 at' ∧ ss = .int .i64 s ∧ Hid (Cnt r (s : Int) at') ∧ Below w5.heap.size w5 wr) (fun _ ss _ => 6 - (intOf ss).toNat)
          case atStart => exact ⟨0, 1, by omega, by omega, rfl, rfl, hstart, Below.refl _ _⟩
          case round =>
            obtain ⟨at', s, hs1, hs6, rfl, rfl, HC, hbl⟩ := hrel
            clear hstart
            have hS7 := hS5.bel hbl
            have hatl : at' ≤ r.length := HC.out.1
            by_cases hs5 : s ≤ 5
            · obtain ⟨nx, ny⟩ := HN2.out s hs1 hs5
              have cx := hS7.six.cell nx
              have cy := hS7.siy.cell ny
              have hck : ∀ q, Calls Tryz.prog 10 #[.pointer (some ⟨p, 0, none⟩)] (wr.drewN q) fun e w' => e = .returned (.int .u64 (d.c : Int)) ∧ ∃ n, w' = wr.drewN n := fun q => (clock_any (hS7.gw.rg.drv.drewN q)).mono (fun e w' h => ⟨h.1, q, h.2⟩)
              have hsi : (s : Int) < 6 := by omega
              have hsl : (s : Int) ≤ 5 := by omega
              clear nx ny
              cases hf : f (s : Int) with
              | none =>
                rw [hf] at cx cy
                simp only [Option.getD_none, Option.isSome_none] at cx cy
                have HC2 : Hid (Cnt r ((s : Int) + 1) at') := HC.out.miss (fun q => by obtain ⟨c, hc, _⟩ := (HMEM.out _).1 q; rw [hf] at hc; cases hc)
                clear hf hS7
                go_wp2_with fail
                go_quiet (fail)
                go_wp2_with fail
                exact ⟨⟨at', s + 1, by omega, by omega, rfl, by go_num, by exact_mod_cast HC2.out, hbl.trans ((Below.dN wr _).mono hbl.size)⟩, by simp [intOf]; omega⟩
              | some c =>
                rw [hf] at cx cy
                simp only [Option.getD_some, Option.isSome_some] at cx cy
                have hc100' := HCL.out _ _ hf
                by_cases hcu : c + u < d.c
                · have gc : (c : Int) + (u : Int) < (d.c : Int) := by omega
                  have HC2 : Hid (Cnt r ((s : Int) + 1) at') := HC.out.miss (fun q => by obtain ⟨c', hc, _⟩ := (HMEM.out _).1 q; rw [hf] at hc; obtain rfl := Option.some.inj hc; omega)
                  clear hf hS7
                  go_wp2_with fail
                  go_quiet (first | (go_at_call 10; exact hck _) | fail)
                  go_wp2_with fail
                  exact ⟨⟨at', s + 1, by omega, by omega, rfl, by go_num, by exact_mod_cast HC2.out, hbl.trans ((Below.dN wr _).mono hbl.size)⟩, by simp [intOf]; omega⟩
                · have gc : ¬ (c : Int) + (u : Int) < (d.c : Int) := by omega
                  obtain ⟨k1, k2, k3⟩ := HC.out.hit HPW.out ((HMEM.out _).2 ⟨c, hf, by omega⟩)
                  have HC2 : Hid (Cnt r ((s : Int) + 1) (at' + 1)) := k3
                  obtain ⟨ad, rfl, hcr⟩ := m4 at' k1
                  have hrs : r[at'] = (s : Int) := (List.getElem?_eq_some_iff.1 k2).2
                  rw [hrs] at hcr
                  have hcr2 : ∀ q, (wr.drewN q).cell? (ad.add at') = some (.int .i64 (s : Int)) := fun q => by
                    show wr.cell? _ = _
                    rw [hbl.cell (World.block_lt_of_cell? w5 _ hcr)]; exact hcr
                  have hcr3 := hcr2 0
                  have ga : (at' : Int) < (r.length : Int) := by omega
                  have gb : ¬ (at' : Int) ≥ (r.length : Int) := by omega
                  clear hf hS7 k2 k3 hrs hcr
                  go_wp2_with fail
                  go_quiet (first | (go_at_call 10; exact hck _) | fail)
                  go_wp2_with fail
                  exact ⟨⟨at' + 1, s + 1, by omega, by omega, by go_num, by go_num, by exact_mod_cast HC2.out, hbl.trans ((Below.dN wr _).mono hbl.size)⟩, by simp [intOf]; omega⟩
            · have hsl : ¬ (s : Int) ≤ 5 := by omega
              have hat : at' = r.length := HC.out.all (fun x hx => by have := HKS.out x hx; omega)
              subst hat
              clear hS5
              go_wp2_with fail
              exact ⟨⟨u + 1, by omega, by omega, by go_num, hS7⟩, by simp [intOf]; omega⟩
        · have gu : ¬ (u : Int) ≤ (wv : Int) + 1 := by omega
          go_wp2_with fail
          go_ret
          exact ⟨rfl, hSu.gw.bl⟩
end Go.Proofs.YtefhinopppdjbaaGreat
