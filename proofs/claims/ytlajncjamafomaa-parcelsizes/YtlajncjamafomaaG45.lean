/- Proved here: ParcelSizes answers true for all bytes, every size and every piece that is left out. No condition. -/
import Derived.Test.YtlajncjamafomaaG44
import Derived.Deep.CutRange
namespace Go.Proofs.Ytlajncjamafomaa
open Go.RowKit Go.Maps
set_option linter.unusedVariables false
set_option maxRecDepth 100000

set_option maxHeartbeats 8000000 in
theorem sizes_walk {vb : Value} {b : List UInt8} {w : World} (hrb : Rd w vb b) (hlb : b.length ≤ 140737488351232) (z : Int) (hz : -9223372036854775808 ≤ z ∧ z ≤ 9223372036854775807) (z2 : Int) (hz2 : -9223372036854775808 ≤ z2 ∧ z2 ≤ 9223372036854775807) :
    Calls Try.prog 7 #[vb, .int .i64 z, .int .i64 z2] w fun e w' => e = .returned (.bool true) ∧ Below w.heap.size w w' := by
  obtain ⟨ab, cb, rfl, _⟩ := id hrb
  have haw := pawake_any w
  by_cases c1 : 4000 < b.length
  · have d1 : (4000 : Int) < (b.length : Int) := by omega
    go_enter Try.func7, Try.ntmps7
    go_wp2_with fail
    refine haw.mono ?_
    rintro e w1 ⟨rfl, hb1⟩
    go_wp2_with fail
    go_ret
    exact ⟨rfl, hb1⟩
  have d1 : ¬ (4000 : Int) < (b.length : Int) := by omega
  obtain ⟨m, hm, hand⟩ := and62 z
  obtain ⟨m2, hm2, hand2⟩ := and62 z2
  obtain ⟨sz, hsz⟩ : ∃ sz, 1 + m % 200 = sz := ⟨_, rfl⟩
  have hsz1 : 0 < sz := by omega
  have hsz2 : sz ≤ 200 := by omega
  have hrem : (m : Int) % 200 = ((m % 200 : Nat) : Int) := by omega
  have hadd : (1 : Int) + ((m % 200 : Nat) : Int) = (sz : Int) := by omega
  generalize m % 200 = r at *
  have hr200 : r < 200 := by omega
  have HSZ : Hid _ := hsz
  clear hsz
  have hMb := pkM_le b.length sz hsz1
  have hM1 : 1 ≤ pkM b.length sz := by unfold pkM; omega
  have hcr := M.crc_lt b
  obtain ⟨Q, hQ⟩ : ∃ Q, (b.length + sz - 1) / sz = Q := ⟨_, rfl⟩
  have hq : ((b.length : Int) + (sz : Int) - 1) / (sz : Int) = (Q : Int) := by
    have : (b.length : Int) + (sz : Int) - 1 = ((b.length + sz - 1 : Nat) : Int) := by omega
    rw [this, ← Int.natCast_ediv, hQ]
  have hMQ : pkM b.length sz = max 1 Q := by unfold pkM; rw [hQ]
  generalize hMe : pkM b.length sz = Mb at *
  have HM : Hid (pkM b.length sz = Mb) := hMe
  have HQ : Hid (Mb = max 1 Q) := hMQ
  have HMB : Hid (Mb ≤ 4001) := by show Mb ≤ 4001; omega
  clear hMe hQ hMQ
  obtain ⟨sk, hsk⟩ : ∃ sk, m2 % Mb = sk := ⟨_, rfl⟩
  have hskl : sk < Mb := by rw [← hsk]; exact Nat.mod_lt _ (by omega)
  have hski : (m2 : Int) % (Mb : Int) = (sk : Int) := by rw [← hsk, Int.natCast_emod]
  clear hsk
  go_enter Try.func7, Try.ntmps7
  go_wp2_with fail
  refine haw.mono ?_
  rintro e w1 ⟨rfl, hb1⟩
  have hpb := pack_ok (hrb.below hb1 (Nat.le_refl _)) (by omega) (size := sz) hsz1 (by omega)
  go_wp2_with fail
  refine hpb.mono ?_
  rintro e wp ⟨pv, us, rfl, hos, hbp⟩
  obtain ⟨gp, cp, ev, hgp, hcp1, hcp2, hpsb⟩ := hos.pieces
  rw [HM.out] at ev hcp1
  subst ev
  have hBp := hb1.trans (hbp.mono hb1.size)
  clear hos hpb haw hbp hb1
  go_upto_if 46 with fail
  go_cut [9] from 23 to 182 (fun v wx => v = .int .i64 (Mb : Int) ∧ wx = wp)
  case first =>
    by_cases hQ0 : Q < 1
    · have e0 : ((Q : Int) == 0) = true := by simp; omega
      have eM : Mb = 1 := by have := HQ.out; omega
      have HEM : Hid _ := eM
      clear eM
      go_wp2_with fail
      go_meet
      exact ⟨by rw [HEM.out]; rfl, rfl⟩
    · have e0 : ((Q : Int) == 0) = false := by simp; omega
      have eM : Mb = Q := by have := HQ.out; omega
      have HEM : Hid _ := eM
      clear eM
      go_wp2_with fail
      go_meet
      exact ⟨by rw [HEM.out, hq], rfl⟩
  case rest =>
    obtain ⟨rfl, hwc⟩ := hcut
    subst hwc
    have hsm := sum_any (hrb.below hBp (Nat.le_refl _))
    clear hq HQ
    go_wp2_with fail
    refine hsm.mono ?_
    rintro e ws ⟨rfl, js, rfl⟩
    have hB3 := below_drewN hBp js
    have HPS : Hid (PsAt b sz gp (wc.drewN js) ∧ Rd (wc.drewN js) (.slice ab b.length cb) b ∧ Below w.heap.size w (wc.drewN js)) := ⟨hpsb.below (Below.dN _ _) (Nat.le_refl _), hrb.below hB3 (Nat.le_refl _), hB3⟩
    generalize wc.drewN js = W3 at *
    clear hpsb hsm hB3 hBp hrb
    have hnb := newBox_ok (M.crc b) b.length hcr (by omega) W3
    go_wp2_with fail
    refine hnb.mono ?_
    rintro e w4 ⟨d, rfl, HBX, HBW⟩
    have HZ3 : Hid (W3.heap.size ≤ w4.heap.size) := HBW.size
    have hmi := missing_any HBX (by simp)
    rw [msP_nil] at hmi
    clear hnb
    go_wp2_with fail
    refine hmi.mono ?_
    rintro e w5 ⟨v5, rfl, ho5, hb5⟩
    have ha5 := pk_al w5 (.cells #[.int .i64 0] 3)
    have hsi := sameJ_any (ho5.rj.below ha5 (Nat.le_refl _)) (rj_one w5 0 0 rfl 3 _ rfl)
    rw [decide_eq_true rfl] at hsi
    clear hmi
    go_wp2_with fail
    refine hsi.mono ?_
    rintro e w6 ⟨rfl, j6, rfl⟩
    have hb6 := HBW.trans ((hb5.trans ((below_drewN ha5 j6).mono hb5.size)).mono HBW.size)
    have hBX6 := (HBX.any.below hb5 (Nat.le_refl _)).below (below_drewN ha5 j6) (Nat.le_refl _)
    have hz6 : w4.heap.size ≤ ((w5.alloc (.cells #[.int .i64 0] 3)).drewN j6).heap.size := by have := hb5.size; have := (below_drewN ha5 j6).size; omega
    generalize (w5.alloc (.cells #[.int .i64 0] 3)).drewN j6 = W6 at *
    clear hsi ha5 ho5 hb5 HBX HBW
    have hst : BxT (fun q => W6.heap.size ≤ q ∧ (Value.slice none 0 0).ownBlock ≠ some q) W3.heap.size w4.heap.size d (M.crc b) b.length 0 [] W6 := by
      obtain ⟨m, D, fv, h, _⟩ := hBX6
      exact ⟨m, D, fv, h, fun i l e => by cases e⟩
    clear hBX6
    go_wp2_with fail
    simp only [hski]
    clear hski
    go_loopw [12, 13, 14, 15, 16, 17, 18] (fun wh x _ _ _ _ _ wr => ∃ (k kk : Nat) (ps : List (Nat × List UInt8)), k ≤ Mb ∧ x = .int .i64 k ∧ Hid (SzI b sz sk k kk ps) ∧ BxT (fun q => W6.heap.size ≤ q ∧ wh.ownBlock ≠ some q) W3.heap.size w4.heap.size d (M.crc b) b.length kk ps wr ∧ Ow W6.heap.size wr wh (b.take (k * sz)) ∧ Below W3.heap.size W3 wr ∧ W6.heap.size ≤ wr.heap.size) (fun _ x _ _ _ _ _ _ => Mb - (intOf x).toNat)
    case atStart => exact ⟨0, 0, [], Nat.zero_le _, rfl, SzI.nil _ _ _, hst, by simpa using Ow.nil W6.heap.size W6, hb6, Nat.le_refl _⟩
    case round =>
      obtain ⟨k, kk, ps, hk, rfl, HSI, hbx, how, hbw, hszr⟩ := hrel
      clear hst hb6
      by_cases hlt : k < Mb
      · have hlt' : (k : Int) < (Mb : Int) := by omega
        have hbl4 : b.length ≤ 1048576 := by omega
        obtain ⟨a1, n1, x1, hc1, hr1⟩ := (HPS.out.1.below hbw (Nat.le_refl _)) k (by rw [HM.out]; exact hlt)
        obtain ⟨ah, ch, eh⟩ := how.shape
        have hpl := pkP_len b sz k
        have htl : (b.take (k * sz)).length ≤ 4000 := by rw [List.length_take]; omega
        have hstep := pkP_step b sz k
        generalize htk : b.take (k * sz) = tk at *
        subst eh
        have htf := tframe_any hr1 (by have := pkI_len b sz k hbl4; omega)
        rw [pkI_tf b sz k hbl4] at htf
        have htr := fun (W : World) (v : Value) (h : Rd W v (pkRow b sz k)) => takerow_any h (pkRow_le b sz k hbl4)
        rw [pkI_tr b sz k hbl4] at htr
        have hpi := pkI_len b sz k hbl4
        generalize pkRow b sz k = rw0 at *
        have HST : Hid _ := And.intro hstep htk
        clear hstep htk
        go_wp2_with fail
        refine htf.mono ?_
        rintro e wa ⟨v1, v2, rfl, hoa1, hoa2, _, hba⟩
        go_wp2_with fail
        refine (htr wa v1 hoa1.rd).mono ?_
        rintro e wb ⟨v3, us, rfl, hofs, hbb⟩
        obtain ⟨aa2, ca2, ea2⟩ := hoa2.shape
        subst ea2
        have hbab : Below wr.heap.size wr wb := hba.trans (hbb.mono hba.size)
        have hul : us.length = 5 := hofs.len
        obtain ⟨g, cap, hv3, hgc, hg5, hg6, hcl⟩ : ∃ g cap, v3 = .slice (some ⟨g, 0, none⟩) 5 cap ∧ wa.heap.size ≤ g ∧ 5 ≤ cap ∧ cap ≤ 9223372036854775807 ∧ ∀ j u, us[j]? = some u → wb.cell? ⟨g, j, none⟩ = some u := by
          have hrow := hofs.row
          rcases hrow.2 with ⟨_, q⟩ | ⟨g, cap, cur, q, hg, hh, q1, q2, q3, q4⟩
          · omega
          · subst q
            refine ⟨g, cap, by rw [hul], hg, by omega, by unfold maxLen at q2; omega, fun j u e => ?_⟩
            rw [hrow.cellAt j (by have := (List.getElem?_eq_some_iff.1 e).1; omega)]
            exact e
        subst hv3
        obtain ⟨u4, hu4⟩ : ∃ u4, us[4]? = some u4 := ⟨us[4], by simp [hul]⟩
        have ho4 := hofs.el 4 u4 (pkP b sz k) hu4 rfl
        have hc4 := hcl 4 u4 hu4
        obtain ⟨a4, d4, e4⟩ := ho4.shape
        subst e4
        have hobw := how.below hbab (Nat.le_refl _)
        have hbxb := hbx.below hbab (Nat.le_refl _)
        have hszb : W6.heap.size ≤ wb.heap.size := Nat.le_trans hszr hbab.size
        have hbwb := hbw.trans (hbab.mono hbw.size)
        have hr4 := ho4.rd
        clear hofs hu4 hcl hul hoa1 hba hbb htf hbx how
        have hap : ∀ (v7 : Value) (wd : World), Ow W6.heap.size wd v7 (tk ++ pkP b sz k) → wb.grownBy wd (Value.slice ah tk.length ch).ownBlock → (v7.ownBlock = (Value.slice ah tk.length ch).ownBlock ∨ v7.ownBlock = some wb.heap.size) →
            ∃ a7 n7 x7, wd.cell? ⟨gp, k, none⟩ = some (.slice a7 n7 x7) ∧ Rd wd (.slice a7 n7 x7) (pkI b sz k) ∧ BxT (fun q => W6.heap.size ≤ q ∧ v7.ownBlock ≠ some q) W3.heap.size w4.heap.size d (M.crc b) b.length kk ps wd ∧ Below W3.heap.size W3 wd ∧ W6.heap.size ≤ wd.heap.size := fun v7 wd ho7 hg7 hv7 => by
          have hbd : Below W6.heap.size wb wd := (Below.refl _ _).grown hg7 hszb (fun q hq => (World.ownsRow.lt hobw q hq).1)
          have hz36 : W3.heap.size ≤ W6.heap.size := Nat.le_trans HZ3.out hz6
          have hbwd : Below W3.heap.size W3 wd := hbwb.trans (hbd.mono hz36)
          obtain ⟨a7, n7, x7, hc7, hr7⟩ := (HPS.out.1.below hbwd (Nat.le_refl _)) k (by rw [HM.out]; exact hlt)
          refine ⟨a7, n7, x7, hc7, hr7, ?_, hbwd, Nat.le_trans hszb hbd.size⟩
          have h1 : BxT (fun q => W6.heap.size ≤ q ∧ q < wb.heap.size ∧ (Value.slice ah tk.length ch).ownBlock ≠ some q) W3.heap.size w4.heap.size d (M.crc b) b.length kk ps wb := hbxb.mono (fun q hq h => ⟨h.1, hq, h.2⟩)
          have hcg : Chg (fun q => (Value.slice ah tk.length ch).ownBlock = some q) wb wd := Chg.of_grown hg7 (fun q e _ => e)
          refine (h1.next hcg (fun q hq e => by have := (World.ownsRow.lt hobw q e).1; omega) (fun q _ h e => h.2.2 e)).mono (fun q _ h => ⟨h.1, fun e => ?_⟩)
          rcases hv7 with e7 | e7
          · exact h.2.2 (e7 ▸ e)
          · rw [e7] at e
            have := Option.some.inj e
            omega
        have HAP : Hid _ := hap
        clear hap
        have hlt4 : tk.length + (pkP b sz k).length ≤ 140737488355328 := by omega
        by_cases hks : k = sk
        · have eks : ((k : Int) != (sk : Int)) = false := by simp [hks]
          have HKS : Hid _ := hks
          clear hks
          go_wp2_with (first | (at_builtin; refine wpList_appN rfl _ _ rfl W6.heap.size _ tk rfl hobw _ (pkP b sz k) rfl hr4 hszb hlt4 ?_; intro v7 wd ho7 hg7 hv7; obtain ⟨a7, n7, x7, hc7, hr7, hbx7, hbw7, hsz7⟩ := HAP.out v7 wd ho7 hg7 hv7) | fail)
          rw [HST.out.1] at ho7
          refine ⟨⟨k + 1, kk, ps, by omega, by go_num, ?_, hbx7, ho7, hbw7, hsz7⟩, by simp [intOf]; omega⟩
          have h0 := HSI.out
          rw [HKS.out] at h0 ⊢
          exact h0.skip
        · have eks : ((k : Int) != (sk : Int)) = true := by simp; omega
          obtain ⟨eput, hsi2⟩ := HSI.out.put hks hsz1 hbl4 (by rw [HM.out]; exact hlt)
          have hpsl : ps.length < 2199023255552 := by have := HSI.out.len; split at this <;> omega
          have HKS : Hid _ := And.intro eput hsi2
          clear hks eput hsi2
          go_wp2_with (first | (at_builtin; refine wpList_appN rfl _ _ rfl W6.heap.size _ tk rfl hobw _ (pkP b sz k) rfl hr4 hszb hlt4 ?_; intro v7 wd ho7 hg7 hv7; obtain ⟨a7, n7, x7, hc7, hr7, hbx7, hbw7, hsz7⟩ := HAP.out v7 wd ho7 hg7 hv7) | fail)
          have hput := put_anyT hbx7 hr7 hpi hpsl
          rw [HKS.out.1] at hput
          refine hput.mono ?_
          rintro e we ⟨rfl, hbxe, hche⟩
          rw [HST.out.1] at ho7
          have hoe := ho7.keptC hche (fun q e h => by have := (World.ownsRow.lt ho7 q e).1; omega)
          have hbxf := hbxe.mono (T' := fun q => W6.heap.size ≤ q ∧ v7.ownBlock ≠ some q) (fun q _ h => by
            rcases h with h | h
            · exact h
            · exact ⟨Nat.le_trans hsz7 h, fun e => by have := (World.ownsRow.lt ho7 q e).2; omega⟩)
          go_wp2_with fail
          exact ⟨⟨k + 1, _, _, by omega, by go_num, HKS.out.2, hbxf, hoe, hbw7.trans (hche.below (fun q h => h.1) hbw7.size), Nat.le_trans hsz7 hche.size⟩, by simp [intOf]; omega⟩
      · obtain rfl : k = Mb := by omega
        have hbl4 : b.length ≤ 1048576 := by omega
        have h0 := HSI.out
        have hl0 := h0.len
        rw [if_pos hskl] at hl0
        rw [← HM.out] at h0 hskl
        have hL := h0.last hskl hsz1 hbl4
        have hU := h0.undone hskl hsz1
        have hMi := h0.miss hskl
        have hW := whole_all b sz hsz1
        rw [HM.out] at hskl hMi hW hL
        rw [hW] at how
        replace hbx := hbx.bx
        have hpsl : ps.length < 2199023255552 := by omega
        have hpn : ∀ W, Below wr.heap.size wr W → Calls Try.prog 24 #[.pointer (some ⟨d, 0, none⟩)] W fun e w' => ∃ v, e = .returned (.tuple #[v, .bool false]) ∧ Ow W.heap.size w' v [] ∧ Below W.heap.size W w' := fun W hW => by
          have := done_any14 (hbx.below hW (Nat.le_refl _)) hpsl
          rw [hU] at this
          exact this
        have HL : Hid _ := hL
        have HXX : Hid (∀ W9 : World, (Below wr.heap.size wr W9 → Calls Try.prog 24 #[.pointer (some ⟨d, 0, none⟩)] W9 fun e w' => ∃ v, e = .returned (.tuple #[v, .bool false]) ∧ Ow W9.heap.size w' v [] ∧ Below W9.heap.size W9 w') ∧ True) := fun W9 => ⟨hpn W9, trivial⟩
        have HMI : Hid _ := hMi
        clear hL hU hMi hW h0 hl0 hM1 hMb
        go_wp2_with fail
        refine (hpn wr (Below.refl _ _)).mono ?_
        rintro e w7 ⟨v7, rfl, ho7, hb7⟩
        have hsw := same_any (how.rd.below hb7 (Nat.le_refl _)) (HPS.out.2.1.below (hbw.trans (hb7.mono hbw.size)) (Nat.le_refl _))
        rw [decide_eq_true rfl] at hsw
        obtain ⟨ah, ch, eh⟩ := how.shape
        subst eh
        clear hpn
        by_cases hM2 : 1 < k
        · have hM2i : (1 : Int) < (k : Int) := by omega
          go_wp2_with fail
          refine hsw.mono ?_
          rintro e w8 ⟨rfl, j8, rfl⟩
          have hB8 : Below wr.heap.size wr (w7.drewN j8) := below_drewN hb7 j8
          have hms := missing_any (hbx.below hB8 (Nat.le_refl _)) hpsl
          rw [HMI.out hM2] at hms
          generalize w7.drewN j8 = W8 at *
          clear hsw
          go_wp2_with fail
          refine hms.mono ?_
          rintro e wm ⟨vm, rfl, hom, hbm⟩
          have ham := pk_al wm (.cells #[.int .i64 (sk : Int)] 3)
          have hsi := sameJ_any (hom.rj.below ham (Nat.le_refl _)) (rj_one wm (sk : Int) (sk : Int) rfl 3 _ rfl)
          rw [decide_eq_true rfl] at hsi
          clear hms
          go_wp2_with fail
          refine hsi.mono ?_
          rintro e wn ⟨rfl, jn, rfl⟩
          have hB9 : Below wr.heap.size wr ((wm.alloc (.cells #[.int .i64 (sk : Int)] 3)).drewN jn) := hB8.trans ((hbm.trans ((below_drewN ham jn).mono hbm.size)).mono hB8.size)
          generalize (wm.alloc (.cells #[.int .i64 (sk : Int)] 3)).drewN jn = W9 at *
          clear hsi ham hom hbm
          obtain ⟨HPB, HBD⟩ := HXX.out W9
          go_wp2_with fail
          refine (HPB hB9).mono ?_
          rintro e w10 ⟨v10, rfl, ho10, hb10⟩
          obtain ⟨a10, c10, e10⟩ := ho10.shape
          subst e10
          have hbwx := hB9.trans (hb10.mono hB9.size)
          obtain ⟨a11, n11, x11, hc11, hr11⟩ := (HPS.out.1.below (hbw.trans (hbwx.mono hbw.size)) (Nat.le_refl _)) sk (by rw [HM.out]; exact hskl)
          have hput := put_any (hbx.below hbwx (Nat.le_refl _)) hr11 (pkI_len b sz sk hbl4) (by omega)
          rw [HL.out.1] at hput
          go_wp2_with fail
          refine hput.mono ?_
          rintro e w12 ⟨rfl, hbx12, hch12⟩
          have hdo12 := done_any14 hbx12 (by have := HL.out.2.2; have := HMB.out; omega)
          rw [HL.out.2.1] at hdo12
          go_wp2_with fail
          refine hdo12.mono ?_
          rintro e w13 ⟨v13, rfl, ho13, hb13⟩
          have hbf := (hbw.trans (hbwx.mono hbw.size)).trans ((hch12.below (fun b q => q.1) (Nat.le_trans hbw.size hbwx.size)).trans (hb13.mono (Nat.le_trans hbw.size (Nat.le_trans hbwx.size hch12.size))))
          have hsf := same_any ho13.rd (HPS.out.2.1.below hbf (Nat.le_refl _))
          rw [decide_eq_true (show (some b : Option (List UInt8)).getD [] = b from rfl)] at hsf
          go_wp2_with fail
          refine hsf.mono ?_
          rintro e w14 ⟨rfl, j14, rfl⟩
          go_wp2_with fail
          go_ret
          exact ⟨rfl, below_drewN (HPS.out.2.2.trans (hbf.mono HPS.out.2.2.size)) j14⟩
        · have hM2i : ¬ (1 : Int) < (k : Int) := by omega
          go_wp2_with fail
          refine hsw.mono ?_
          rintro e w8 ⟨rfl, j8, rfl⟩
          have hB9 : Below wr.heap.size wr (w7.drewN j8) := below_drewN hb7 j8
          generalize w7.drewN j8 = W9 at *
          clear hsw
          obtain ⟨HPB, HBD⟩ := HXX.out W9
          go_wp2_with fail
          refine (HPB hB9).mono ?_
          rintro e w10 ⟨v10, rfl, ho10, hb10⟩
          obtain ⟨a10, c10, e10⟩ := ho10.shape
          subst e10
          have hbwx := hB9.trans (hb10.mono hB9.size)
          obtain ⟨a11, n11, x11, hc11, hr11⟩ := (HPS.out.1.below (hbw.trans (hbwx.mono hbw.size)) (Nat.le_refl _)) sk (by rw [HM.out]; exact hskl)
          have hput := put_any (hbx.below hbwx (Nat.le_refl _)) hr11 (pkI_len b sz sk hbl4) (by omega)
          rw [HL.out.1] at hput
          go_wp2_with fail
          refine hput.mono ?_
          rintro e w12 ⟨rfl, hbx12, hch12⟩
          have hdo12 := done_any14 hbx12 (by have := HL.out.2.2; have := HMB.out; omega)
          rw [HL.out.2.1] at hdo12
          go_wp2_with fail
          refine hdo12.mono ?_
          rintro e w13 ⟨v13, rfl, ho13, hb13⟩
          have hbf := (hbw.trans (hbwx.mono hbw.size)).trans ((hch12.below (fun b q => q.1) (Nat.le_trans hbw.size hbwx.size)).trans (hb13.mono (Nat.le_trans hbw.size (Nat.le_trans hbwx.size hch12.size))))
          have hsf := same_any ho13.rd (HPS.out.2.1.below hbf (Nat.le_refl _))
          rw [decide_eq_true (show (some b : Option (List UInt8)).getD [] = b from rfl)] at hsf
          go_wp2_with fail
          refine hsf.mono ?_
          rintro e w14 ⟨rfl, j14, rfl⟩
          go_wp2_with fail
          go_ret
          exact ⟨rfl, below_drewN (HPS.out.2.2.trans (hbf.mono HPS.out.2.2.size)) j14⟩
end Go.Proofs.Ytlajncjamafomaa
