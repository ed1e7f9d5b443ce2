/- The statement WaitWays, walked. -/
import Derived.Test.YtpckmpnifdpeoaaG48
import Derived.Test.YtpckmpnifdpeoaaG47
namespace Go.Proofs.Ytpckmpnifdpeoaa
open Go.RowKit
set_option linter.unusedVariables false
set_option maxRecDepth 100000

set_option maxHeartbeats 4000000 in
theorem ways_walk {v0 : Value} {EA : List Ed} {w : World} (hA : RdE w v0 EA) (st0 en0 : UInt64) :
    Calls Try.prog 6 #[v0, .int .u64 (st0.toNat : Int), .int .u64 (en0.toNat : Int)] w fun r w' => r = .returned (.bool true) ∧ Below w.heap.size w w' := by
  obtain ⟨a0, c0, rfl, hn1, hn2, hn3, hA4⟩ := hA
  have hnm : EA.length ≤ 9223372036854775807 := by unfold maxLen at hn2; omega
  obtain ⟨n, hn⟩ : ∃ n, n = EA.length := ⟨_, rfl⟩
  have HA : Hid (∀ i, i < n → ∃ p q : UInt64, ∃ a, a0 = some a ∧ ∀ W : World, Below w.heap.size w W → W.cell? (a.add (i * 2)) = some (.int .u64 (p.toNat : Int)) ∧ W.cell? ⟨(a.add (i * 2)).block, (a.add (i * 2)).off + 1, none⟩ = some (.int .u64 (q.toNat : Int))) := fun i hi => by
    obtain ⟨a, e, h⟩ := hA4 i EA[i] (List.getElem?_eq_getElem (by omega))
    exact ⟨EA[i].1, EA[i].2, a, e, fun W hW => ⟨(h.below hW (Nat.le_refl _)).c0, (h.below hW (Nat.le_refl _)).c1⟩⟩
  rw [← hn] at hn1 hnm ⊢
  clear hA4 hn hn2 hn3
  have haw := wtawake_any w
  go_enter Try.func6, Try.ntmps6
  go_wp2_with fail
  refine haw.mono ?_
  rintro r wa ⟨rfl, hba⟩
  have hnew := gnew_any wa
  clear haw
  go_wp2_with fail
  refine hnew.mono ?_
  rintro r wb ⟨x, rfl, hg0, hbb⟩
  have hB : Below w.heap.size w wb := Below.tr hba hbb
  clear hnew hbb
  have hsz : w.heap.size ≤ wa.heap.size := hba.size
  go_wp2_with fail
  go_loopw [8] (fun i wr => ∃ (k : Nat) (v : Value) (E : List Ed), k ≤ n ∧ k ≤ 60 ∧ i = .int .i64 k ∧ Gr wa.heap.size x v E wr ∧ E.length ≤ k ∧ Lt 16 E ∧ Below w.heap.size w wr) (fun i _ => 60 - (intOf i).toNat)
  case atStart => exact ⟨0, _, [], Nat.zero_le _, Nat.zero_le _, rfl, hg0, Nat.le_refl _, (fun e he => by cases he), hB⟩
  case round =>
    obtain ⟨k, v, E, hk, hk6, rfl, hg, hEl, hE16, hb⟩ := hrel
    clear hg0 hB hba
    go_upto_region 5 with fail
    go_cut [23] from 16 to 39 (fun s wx => s = .bool (decide (k < n ∧ k < 60)) ∧ wx = wr)
    case first =>
      by_cases q1 : k < n
      · have l1 : (k : Int) < (n : Int) := by omega
        by_cases q2 : k < 60
        · have l2 : (k : Int) < 60 := by omega
          go_wp2_with fail
          go_meet
          exact ⟨by simp [q1, q2], rfl⟩
        · have l2 : decide ((k : Int) < 60) = false := decide_eq_false (by omega)
          go_wp2_with fail
          go_meet
          exact ⟨by simp [q1, q2], rfl⟩
      · have l1 : decide ((k : Int) < (n : Int)) = false := decide_eq_false (by omega)
        go_wp2_with fail
        go_meet
        exact ⟨by simp [q1], rfl⟩
    case rest =>
    obtain ⟨rfl, rfl⟩ := hcut
    by_cases hlt : k < n ∧ k < 60
    · rw [decide_eq_true hlt]
      obtain ⟨p, q, ad, rfl, hyy⟩ := HA.out k hlt.1
      have HY : Hid _ := hyy
      obtain ⟨y0, y1⟩ := hyy wc hb
      clear hyy
      have hki : (k : Int) < (n : Int) := by omega
      have hwt := fun m => wait_any (hg.below (Below.dN wc m) (Nat.le_refl _)) (p &&& 15) (q &&& 15)
      simp only [← and15] at hwt
      have HNX : Hid (∀ (m : Nat) (v' : Value) (ro : Option (List UInt64)) (w' : World), Gr wa.heap.size x v' (wtE E (p &&& 15) (q &&& 15) ro) w' → Chg (GS x v) (wc.drewN m) w' → (∃ (k' : Nat) (v : Value) (E : List Ed), k' ≤ n ∧ k' ≤ 60 ∧ k' = k + 1 ∧ Gr wa.heap.size x v E w' ∧ E.length ≤ k' ∧ Lt 16 E ∧ Below w.heap.size w w')) := fun m v' ro w' h1 h2 => by
        refine ⟨k + 1, v', _, by omega, by omega, rfl, h1, by have := wtE_len E (p &&& 15) (q &&& 15) ro; omega, fun e he => ?_, ?_⟩
        · rcases wtE_mem he with r | r
          · rw [r]; exact ⟨and15_lt p, and15_lt q⟩
          · exact hE16 e r
        · exact hb.trans ((Below.dN wc m).mono hb.size |>.trans (((hg.below (Below.dN wc m) (Nat.le_refl _)).bel h2).mono hsz))
      clear hg hE16
      go_wp2_with fail
      go_region_held3 (fun w' => w'.cell? (ad.add (k * 2)) = some (.int .u64 (p.toNat : Int)) ∧ w'.cell? ⟨(ad.add (k * 2)).block, (ad.add (k * 2)).off + 1, none⟩ = some (.int .u64 (q.toNat : Int))) (go_keep) (first
        | (go_at_call 9; refine (hwt _).mono ?_; rintro r w3 ⟨vr, v3, ro, rfl, -, -, -, hg3, hc3, -, -⟩; have HE3 : Hid _ := HNX.out _ _ _ w3 hg3 hc3; obtain ⟨u0, u1⟩ := HY.out w3 (by obtain ⟨_, _, _, _, _, _, _, _, _, q⟩ := HE3.out; exact q))
        | fail)
      clear hg3 hc3
      go_wp2_with fail
      obtain ⟨k', v', E', q1, q2, rfl, q3⟩ := HE3.out
      exact ⟨⟨k + 1, v', E', q1, q2, by go_num, q3⟩, by simp [intOf]; omega⟩
    · rw [decide_eq_false hlt]
      have hE60 : E.length ≤ 60 := by omega
      obtain ⟨st, hst⟩ : ∃ st, st = st0 &&& 15 := ⟨_, rfl⟩
      obtain ⟨en, hen⟩ : ∃ en, en = en0 &&& 15 := ⟨_, rfl⟩
      have hand1 : bits .and .u64 (st0.toNat : Int) 15 = (st.toNat : Int) := by rw [hst]; exact and15 st0
      have hand2 : bits .and .u64 (en0.toNat : Int) 15 = (en.toNat : Int) := by rw [hen]; exact and15 en0
      have hs16 : st.toNat < 16 := by rw [hst]; exact and15_lt st0
      have he16 : en.toNat < 16 := by rw [hen]; exact and15_lt en0
      have hed := edges_any hg
      have hris := hg.ris
      clear hlt hst hen HA
      go_wp2_with fail
      refine hed.mono ?_
      rintro r w2 ⟨vA, rfl, hoA, hb2⟩
      have hg2 := hg.below hb2 (Nat.le_refl _)
      have hB2 : Below w.heap.size w w2 := Below.trans hb (hb2.mono hb.size)
      have hwy := way_any hg2 st en
      obtain ⟨aA, cA, eA, -⟩ := hoA.rd.shape
      subst eA
      clear hed hg hb2 hb hand1 hand2
      go_wp2_with fail
      refine hwy.mono ?_
      rintro r w3 ⟨vr, ro, rfl, hbf, hou, hzz, hzn, hb3⟩
      have hB3 : Below w.heap.size w w3 := hB2.trans (hb3.mono hB2.size)
      have hrA := hoA.rd.below hb3 (Nat.le_refl _)
      have hmp := map15_any hrA (by omega) st hs16 hE16
      obtain ⟨ar, cr, er⟩ := hou.shape
      subst er
      clear hwy hg2 hB2 hoA
      go_wp2_with fail
      refine hmp.mono ?_
      rintro r w4 ⟨g4, f, rfl, hf, hfi, hg4, hb4⟩
      have hB4 : Below w.heap.size w w4 := hB3.trans (hb4.mono hB3.size)
      obtain ⟨y0, -⟩ := hf.at_ en.toNat he16
      have hei : (en.toNat : Int) < 16 := by omega
      have hshort := fun z (e : ro = some z) => Bfs.short hris (fun e he => (hE16 e he).2) hs16 hbf (Bj.start E st en) z e
      have htell := hbf.tells (W.Bi.start E st en)
      have hrA4 := hrA.below hb4 (Nat.le_refl _)
      have hou4 := hou.below hb4 (Nat.le_refl _)
      clear hmp hf hbf hb3 hb4 hB3 hrA hou
      by_cases hneg : f en.toNat < 0
      · have hro : ro = none := by
          cases ro with
          | none => rfl
          | some z =>
            exfalso
            obtain ⟨h1, h2⟩ := htell.1 z rfl
            obtain ⟨_, h3⟩ := hshort z rfl
            have hl := List.length_pos_iff.2 h1.ne
            have hw := wk_pth h1 (z.length - 1) en (by rw [← h2, List.getLast?_eq_getElem?])
            obtain ⟨j, j1, _⟩ := hfi.le (z.length - 1) en (by omega) hw
            omega
        subst hro
        have HB : Hid (Below w.heap.size w w4) := hB4
        clear hB4 hfi hshort htell hou4 hrA4
        generalize f en.toNat = fe at *
        go_wp2_with fail
        go_ret
        exact ⟨by simp, HB.out⟩
      · obtain ⟨k0, hk0, hwk, hk17⟩ := hfi.wk en (by omega)
        cases ro with
        | none =>
          exfalso
          obtain ⟨s, h1, h2, h3⟩ := htell.2 rfl
          exact h2 (wk_closed h1 h3 k0 en hwk)
        | some z =>
          obtain ⟨⟨hz0, hzs⟩, hzl⟩ := htell.1 z rfl
          obtain ⟨hmin, hz16⟩ := hshort z rfl
          obtain ⟨hz1, -⟩ := hzz z rfl
          have hlp := List.length_pos_iff.2 hz1
          have hw := wk_pth ⟨hz0, hzs⟩ (z.length - 1) en (by rw [← hzl, List.getLast?_eq_getElem?])
          obtain ⟨j0, hj0, hj1⟩ := hfi.le (z.length - 1) en (by omega) hw
          have hmk := hmin k0 hwk
          obtain ⟨nl, hnl⟩ : ∃ nl, z.length = nl + 1 := ⟨z.length - 1, by omega⟩
          have hfe : f en.toNat = (nl : Int) := by omega
          rw [hfe] at y0 hneg
          have hlast : z[nl]? = some en := by rw [← hzl, List.getLast?_eq_getElem?, hnl]; rfl
          have hou' : Ou w2.heap.size w4 (.slice ar z.length cr) z := hou4
          obtain ⟨g, c, eg, -⟩ := hou'.some_ hz1
          simp only [Value.slice.injEq, true_and] at eg
          obtain ⟨rfl, rfl⟩ := eg
          have hcz : ∀ W : World, Below w4.heap.size w4 W → ∀ j (y : UInt64), z[j]? = some y → W.cell? ⟨g, j, none⟩ = some (.int .u64 (y.toNat : Int)) := fun W hW j y hy => by
            have hr := (hou'.ru).below hW (Nat.le_refl _)
            obtain ⟨ao, c', e, _, _, _, q4⟩ := hr
            simp only [Value.slice.injEq] at e
            obtain ⟨hj, hj2⟩ := List.getElem?_eq_some_iff.1 hy
            obtain ⟨a', ea, q5⟩ := q4 j hj
            rw [← e.1] at ea
            obtain rfl := Option.some.inj ea
            rw [Addr.add_lit, Nat.zero_add] at q5
            rw [q5, hj2]
          have c0' := hcz w4 (Below.refl _ _) 0 st hz0
          have c1' := hcz w4 (Below.refl _ _) nl en hlast
          have hwn : IntKind.i64.wrap ((z.length : Int) - 1) = (nl : Int) := by rw [IntKind.wrap_i64]; omega
          have hwn2 : IntKind.i64.wrap ((nl : Int) + 1) = (z.length : Int) := by rw [IntKind.wrap_i64]; omega
          have hn1' : (nl : Int) < (z.length : Int) := by omega
          have hnlN : nl < z.length := by omega
          have hzp : (0 : Int) < (z.length : Int) := by omega
          have hnn : ¬ (nl : Int) < 0 := by omega
          have HRB : Hid (∀ w5 : World, Below w4.heap.size w4 w5 → RdE w5 (.slice aA E.length cA) E) := fun w5 hb5 => hrA4.below hb5 (Nat.le_refl _)
          have HCZ : Hid (∀ W : World, Below w4.heap.size w4 W → ∀ j (y : UInt64), z[j]? = some y → W.cell? ⟨g, j, none⟩ = some (.int .u64 (y.toNat : Int))) := hcz
          have HZS : Hid (∀ k x y, z[k]? = some x → z[k + 1]? = some y → (x, y) ∈ E) := hzs
          have HZL : Hid (z.length = nl + 1) := hnl
          have HB : Hid (∀ W : World, Below w4.heap.size w4 W → Below w.heap.size w W) := fun W hW => hB4.trans (hW.mono hB4.size)
          clear hB4 hfi hshort htell hou4 hrA4 hou' hcz hzs hnl hz0 hzl hlast hz1 hmin hw hwk hk0 hj0 hfe hneg hzz hzn
          go_wp2_with fail
          go_loopw [12] (fun i wr => ∃ j : Nat, 1 ≤ j ∧ j ≤ z.length ∧ i = .int .i64 j ∧ Below w4.heap.size w4 wr) (fun i _ => z.length - (intOf i).toNat)
          case atStart => exact ⟨1, Nat.le_refl _, by rw [HZL.out]; omega, rfl, Below.refl _ _⟩
          case round =>
            obtain ⟨j, hj1, hj2, rfl, hbj⟩ := hrel
            by_cases hltj : j < z.length
            · obtain ⟨jm, hjm⟩ : ∃ jm, j = jm + 1 := ⟨j - 1, by omega⟩
              obtain ⟨y1', hy1⟩ : ∃ y, z[jm]? = some y := ⟨_, List.getElem?_eq_getElem (by omega)⟩
              obtain ⟨y2', hy2⟩ : ∃ y, z[j]? = some y := ⟨_, List.getElem?_eq_getElem hltj⟩
              have l1 := HCZ.out wr hbj jm y1' hy1
              have l2 := HCZ.out wr hbj j y2' hy2
              have hhw := fun m => has_w (HRB.out wr hbj) (by omega) y1' y2' (HZS.out jm y1' y2' hy1 (by rw [← hjm]; exact hy2)) m
              have hwj : IntKind.i64.wrap ((j : Int) - 1) = (jm : Int) := by rw [IntKind.wrap_i64]; omega
              have hjmi : (jm : Int) < (z.length : Int) := by omega
              have hji : (j : Int) < (z.length : Int) := by omega
              have HJM : Hid (j = jm + 1) := hjm
              clear hjm hy1 hy2 y0 c0' c1'
              go_wp2_with fail
              go_quiet (first | (go_at_call 15; exact hhw _) | fail)
              go_wp2_with fail
              exact ⟨⟨j + 1, by omega, by omega, by go_num, Below.tr hbj (Below.dN wr _)⟩, by simp [intOf]; omega⟩
            · have HE : Hid (Below w.heap.size w wr) := HB.out wr hbj
              clear y0 c0' c1'
              go_wp2_with fail
              go_ret
              exact ⟨rfl, HE.out⟩
end Go.Proofs.Ytpckmpnifdpeoaa
