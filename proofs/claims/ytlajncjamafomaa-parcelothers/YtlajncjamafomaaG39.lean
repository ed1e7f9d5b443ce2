/- Proved here: ParcelOthers answers true for all bytes b and c and every size: a piece of other bytes does not come into a box, and what is done is done. No condition. -/
import Derived.Test.YtlajncjamafomaaG38
import Derived.Test.YtlajncjamafomaaG32
namespace Go.Proofs.Ytlajncjamafomaa
open Go.RowKit Go.Maps
set_option linter.unusedVariables false
set_option maxRecDepth 100000

set_option maxHeartbeats 8000000 in
theorem others_walk {vb vc : Value} {b c : List UInt8} {w : World} (hrb : Rd w vb b) (hlb : b.length ≤ 140737488351232) (hrc : Rd w vc c) (hlc : c.length ≤ 140737488351232) (z : Int) (hz : -9223372036854775808 ≤ z ∧ z ≤ 9223372036854775807) :
    Calls Try.prog 6 #[vb, vc, .int .i64 z] w fun e w' => e = .returned (.bool true) ∧ Below w.heap.size w w' := by
  obtain ⟨ab, cb, rfl, _⟩ := id hrb
  obtain ⟨ac, cc, rfl, _⟩ := id hrc
  have haw := pawake_any w
  by_cases c1 : 2000 < b.length
  · have d1 : (2000 : Int) < (b.length : Int) := by omega
    go_enter Try.func6, Try.ntmps6
    go_wp2_with fail
    refine haw.mono ?_
    rintro e w1 ⟨rfl, hb1⟩
    go_wp2_with fail
    go_ret
    exact ⟨rfl, hb1⟩
  have d1 : ¬ (2000 : Int) < (b.length : Int) := by omega
  by_cases c2 : 2000 < c.length
  · have d2 : (2000 : Int) < (c.length : Int) := by omega
    go_enter Try.func6, Try.ntmps6
    go_wp2_with fail
    refine haw.mono ?_
    rintro e w1 ⟨rfl, hb1⟩
    go_wp2_with fail
    go_ret
    exact ⟨rfl, hb1⟩
  have d2 : ¬ (2000 : Int) < (c.length : Int) := by omega
  by_cases c3 : b = c
  · have H3 : Hid (b = c) := c3
    clear c3
    go_enter Try.func6, Try.ntmps6
    go_wp2_with fail
    refine haw.mono ?_
    rintro e w1 ⟨rfl, hb1⟩
    have hsame := same_any (hrb.below hb1 (Nat.le_refl _)) (hrc.below hb1 (Nat.le_refl _))
    rw [decide_eq_true H3.out] at hsame
    go_wp2_with fail
    refine hsame.mono ?_
    rintro e w2 ⟨rfl, j2, rfl⟩
    go_wp2_with fail
    go_ret
    exact ⟨rfl, below_drewN hb1 j2⟩
  have H3 : Hid (¬ b = c) := c3
  clear c3
  obtain ⟨m, hm, hand⟩ := and62 z
  obtain ⟨sz, hsz⟩ : ∃ sz, 1 + m % 300 = sz := ⟨_, rfl⟩
  have hsz1 : 0 < sz := by omega
  have hsz2 : sz ≤ 300 := by omega
  have hrem : (m : Int) % 300 = ((m % 300 : Nat) : Int) := by omega
  have hadd : (1 : Int) + ((m % 300 : Nat) : Int) = (sz : Int) := by omega
  generalize m % 300 = r at *
  have hr300 : r < 300 := by omega
  have HSZ : Hid _ := hsz
  clear hsz
  have hMb := pkM_le b.length sz hsz1
  have hMc := pkM_le c.length sz hsz1
  have hM1 : 1 ≤ pkM b.length sz := by unfold pkM; omega
  have hM2 : 1 ≤ pkM c.length sz := by unfold pkM; omega
  have hcr := M.crc_lt b
  have hcrc := M.crc_lt c
  go_enter Try.func6, Try.ntmps6
  go_wp2_with fail
  refine haw.mono ?_
  rintro e w1 ⟨rfl, hb1⟩
  have hsame := same_any (hrb.below hb1 (Nat.le_refl _)) (hrc.below hb1 (Nat.le_refl _))
  rw [decide_eq_false H3.out] at hsame
  clear haw
  go_wp2_with fail
  refine hsame.mono ?_
  rintro e w2 ⟨rfl, j2, rfl⟩
  have hB2 := below_drewN hb1 j2
  generalize w1.drewN j2 = W2 at *
  clear hsame hb1
  have hpb := pack_ok (hrb.below hB2 (Nat.le_refl _)) (by omega) (size := sz) hsz1 (by omega)
  go_wp2_with fail
  refine hpb.mono ?_
  rintro e wp ⟨pv, us, rfl, hos, hbp⟩
  obtain ⟨gp, cp, ev, hgp, hcp1, hcp2, hpsb⟩ := hos.pieces
  have hBp := hB2.trans (hbp.mono hB2.size)
  have hqb := pack_ok (hrc.below hBp (Nat.le_refl _)) (by omega) (size := sz) hsz1 (by omega)
  generalize hMe : pkM b.length sz = Mb at *
  generalize hMf : pkM c.length sz = Mc at *
  have HM : Hid (pkM b.length sz = Mb ∧ pkM c.length sz = Mc) := ⟨hMe, hMf⟩
  subst ev
  clear hos hpb hMe hMf
  go_wp2_with fail
  refine hqb.mono ?_
  rintro e wq ⟨qv, us2, rfl, hos2, hbq⟩
  obtain ⟨gq, cq, ev2, hgq, hcq1, hcq2, hpsc⟩ := hos2.pieces
  rw [HM.out.2] at ev2 hcq1
  subst ev2
  have hBq := hBp.trans (hbq.mono hBp.size)
  have hsm := sum_any (hrb.below hBq (Nat.le_refl _))
  clear hos2 hqb
  go_wp2_with fail
  refine hsm.mono ?_
  rintro e ws ⟨rfl, js, rfl⟩
  have hB3 := below_drewN hBq js
  have HPS : Hid (PsAt b sz gp (wq.drewN js) ∧ PsAt c sz gq (wq.drewN js) ∧ Rd (wq.drewN js) (.slice ab b.length cb) b) := ⟨(hpsb.below hbq (Nat.le_refl _)).below (Below.dN _ _) (Nat.le_refl _), hpsc.below (Below.dN _ _) (Nat.le_refl _), hrb.below hB3 (Nat.le_refl _)⟩
  have hrc3 := hrc.below hB3 (Nat.le_refl _)
  have HPS0 : Hid (Below w.heap.size w (wq.drewN js)) := hB3
  generalize wq.drewN js = W3 at *
  clear hpsb hpsc hsm hB3 hBq hBp hbp hbq hB2 hrb hrc
  have hnb := newBox_ok (M.crc b) b.length hcr (by omega) W3
  go_wp2_with fail
  refine hnb.mono ?_
  rintro e w4 ⟨d, rfl, HBX, HBW⟩
  have HX4 : Hid (∀ j i, Bx W3.heap.size w4.heap.size d (M.crc b) b.length 0 [] ((w4.drewN j).drewN i) ∧ Below W3.heap.size W3 ((w4.drewN j).drewN i)) := fun j i => ⟨(HBX.below (Below.dN _ _) (Nat.le_refl _)).below (Below.dN _ _) (Nat.le_refl _), below_drewN (below_drewN HBW j) i⟩
  have hsb := sum_any (HPS.out.2.2.below HBW (Nat.le_refl _))
  have hsc := fun j => sum_any ((hrc3.below HBW (Nat.le_refl _)).drewN j)
  clear hnb
  by_cases s1 : b.length = c.length
  · have e1 : ((b.length : Int) == (c.length : Int)) = true := by simp [s1]
    by_cases s2 : M.crc b = M.crc c
    · have e2 : ((M.crc b : Int) == (M.crc c : Int)) = true := by simp [s2]
      have HS : Hid _ := And.intro s1 s2
      clear s1 s2 HBX HBW
      go_wp2_with fail
      refine hsb.mono ?_
      rintro e w5 ⟨rfl, j5, rfl⟩
      go_wp2_with fail
      refine (hsc j5).mono ?_
      rintro e w6 ⟨rfl, j6, rfl⟩
      obtain ⟨HBX, HBW⟩ := HX4.out j5 j6
      generalize (w4.drewN j5).drewN j6 = W6 at *
      clear hsb hsc
      go_wp2_with fail
      refine wp_loop_rounds 1 ?_
      rw [rounds_succ]
      go_wp2_with fail
      -- the bytes' own pieces
      go_loopw [15] (fun x wr => ∃ (k kk : Nat) (ps : List (Nat × List UInt8)), k ≤ Mb ∧ x = .int .i64 k ∧ Hid (PB b sz kk ps ∧ ps.length = k ∧ ∀ x ∈ ps, x.1 < k) ∧ Bx W3.heap.size w4.heap.size d (M.crc b) b.length kk ps wr ∧ Below W3.heap.size W3 wr) (fun x _ => Mb - (intOf x).toNat)
      case atStart => exact ⟨0, 0, [], Nat.zero_le _, rfl, ⟨PB.nil _ _, rfl, fun x hx => by cases hx⟩, HBX, HBW⟩
      case round =>
        obtain ⟨k, kk, ps, hk, rfl, HPB, hbx, hbw⟩ := hrel
        clear HBX HBW
        by_cases hlt : k < Mb
        · have hlt' : (k : Int) < (Mb : Int) := by omega
          obtain ⟨a1, n1, x1, hc1, hr1⟩ := (HPS.out.1.below hbw (Nat.le_refl _)) k (by rw [HM.out.1]; exact hlt)
          obtain ⟨hpb, hpl, hpk⟩ := HPB.out
          obtain ⟨e1, b1⟩ := hpb.put (i := k) hsz1 (by omega) (by rw [HM.out.1]; exact hlt)
          have hput := put_any hbx hr1 (pkI_len b sz k (by omega)) (by omega)
          rw [e1] at hput
          have hnone : lkP ps k = none := by
            cases q : lkP ps k with
            | none => rfl
            | some p => have := hpk _ (lkP_mem q); simp only [] at this; omega
          have hlen2 : (putP ps k (pkP b sz k)).length = k + 1 := by rw [putP_len, hnone]; simp [hpl]
          have hmem2 : ∀ x ∈ putP ps k (pkP b sz k), x.1 < k + 1 := fun x hx => by
            rcases putP_mem ps k _ x hx with rfl | hx
            · exact Nat.lt_succ_self _
            · have := hpk x hx; omega
          have HN : Hid (PB b sz (pkM b.length sz) (putP ps k (pkP b sz k)) ∧ (putP ps k (pkP b sz k)).length = k + 1 ∧ ∀ x ∈ putP ps k (pkP b sz k), x.1 < k + 1) := ⟨b1, hlen2, hmem2⟩
          clear hpb hpl hpk e1 b1 hnone hlen2 hmem2 hbx
          go_wp2_with fail
          refine hput.mono ?_
          rintro e w5 ⟨rfl, hbx5, hch5⟩
          go_wp2_with fail
          exact ⟨⟨k + 1, _, _, by omega, by go_num, HN.out, hbx5, hbw.trans (hch5.below (fun b q => q.1) hbw.size)⟩, by simp [intOf]; omega⟩
        · obtain rfl : k = Mb := by omega
          obtain ⟨hpb, hpl, hpk⟩ := HPB.out
          have hdo := done_any14 hbx (by omega)
          rw [hpb.done hsz1, if_pos (by rw [HM.out.1]; exact hpl)] at hdo
          clear hpb hpl hpk
          go_wp2_with fail
          refine hdo.mono ?_
          rintro e w5 ⟨v5, rfl, ho5, hb5⟩
          have hB5 := hbw.trans (hb5.mono hbw.size)
          have hsame := same_any ho5.rd (HPS.out.2.2.below hB5 (Nat.le_refl _))
          rw [decide_eq_true (show (some b : Option (List UInt8)).getD [] = b from rfl)] at hsame
          go_wp2_with fail
          refine hsame.mono ?_
          rintro e w6 ⟨rfl, j6, rfl⟩
          go_wp2_with fail
          go_ret
          exact ⟨rfl, below_drewN (HPS0.out.trans (hB5.mono HPS0.out.size)) j6⟩
    · have e2 : ((M.crc b : Int) == (M.crc c : Int)) = false := by simp; omega
      have HNE : Hid (¬ (M.crc c = M.crc b ∧ c.length = b.length)) := fun q => s2 q.1.symm
      have HS : Hid _ := And.intro s1 s2
      clear s1 s2 HBX HBW
      go_wp2_with fail
      refine hsb.mono ?_
      rintro e w5 ⟨rfl, j5, rfl⟩
      go_wp2_with fail
      refine (hsc j5).mono ?_
      rintro e w6 ⟨rfl, j6, rfl⟩
      obtain ⟨HBX, HBW⟩ := HX4.out j5 j6
      generalize (w4.drewN j5).drewN j6 = W6 at *
      clear hsb hsc
      go_wp2_with fail
      have hne : ¬ (M.crc c = M.crc b ∧ c.length = b.length) := HNE.out
      go_loopw [14] (fun x wr => ∃ k : Nat, k ≤ Mc ∧ x = .int .i64 k ∧ Bx W3.heap.size w4.heap.size d (M.crc b) b.length 0 [] wr ∧ Below W3.heap.size W3 wr) (fun x _ => Mc - (intOf x).toNat)
      case atStart => exact ⟨0, Nat.zero_le _, rfl, HBX, HBW⟩
      case round =>
        clear HBX HBW
        obtain ⟨k1, hk1, rfl, HBX, HBW⟩ := hrel
        by_cases hlt : k1 < Mc
        · have hlt' : (k1 : Int) < (Mc : Int) := by omega
          obtain ⟨a1, n1, x1, hc1, hr1⟩ := (HPS.out.2.1.below HBW (Nat.le_refl _)) k1 (by rw [HM.out.2]; exact hlt)
          have hput := put_any HBX hr1 (pkI_len c sz k1 (by omega)) (by simp)
          rw [put_other (b := b) (k := 0) (ps := []) hsz1 (by omega) (by rw [HM.out.2]; exact hlt) hne] at hput
          clear HBX
          go_wp2_with fail
          refine hput.mono ?_
          rintro e w5 ⟨rfl, hbx5, hch5⟩
          go_wp2_with fail
          exact ⟨⟨k1 + 1, by omega, by go_num, hbx5, HBW.trans (hch5.below (fun b q => q.1) HBW.size)⟩, by simp [intOf]; omega⟩
        · obtain rfl : k1 = Mc := by omega
          clear hne
          go_wp2_with fail
          -- the bytes' own pieces
          go_loopw [15] (fun x wr => ∃ (k kk : Nat) (ps : List (Nat × List UInt8)), k ≤ Mb ∧ x = .int .i64 k ∧ Hid (PB b sz kk ps ∧ ps.length = k ∧ ∀ x ∈ ps, x.1 < k) ∧ Bx W3.heap.size w4.heap.size d (M.crc b) b.length kk ps wr ∧ Below W3.heap.size W3 wr) (fun x _ => Mb - (intOf x).toNat)
          case atStart => exact ⟨0, 0, [], Nat.zero_le _, rfl, ⟨PB.nil _ _, rfl, fun x hx => by cases hx⟩, HBX, HBW⟩
          case round =>
            obtain ⟨k, kk, ps, hk, rfl, HPB, hbx, hbw⟩ := hrel
            clear HBX HBW
            by_cases hlt : k < Mb
            · have hlt' : (k : Int) < (Mb : Int) := by omega
              obtain ⟨a1, n1, x1, hc1, hr1⟩ := (HPS.out.1.below hbw (Nat.le_refl _)) k (by rw [HM.out.1]; exact hlt)
              obtain ⟨hpb, hpl, hpk⟩ := HPB.out
              obtain ⟨e1, b1⟩ := hpb.put (i := k) hsz1 (by omega) (by rw [HM.out.1]; exact hlt)
              have hput := put_any hbx hr1 (pkI_len b sz k (by omega)) (by omega)
              rw [e1] at hput
              have hnone : lkP ps k = none := by
                cases q : lkP ps k with
                | none => rfl
                | some p => have := hpk _ (lkP_mem q); simp only [] at this; omega
              have hlen2 : (putP ps k (pkP b sz k)).length = k + 1 := by rw [putP_len, hnone]; simp [hpl]
              have hmem2 : ∀ x ∈ putP ps k (pkP b sz k), x.1 < k + 1 := fun x hx => by
                rcases putP_mem ps k _ x hx with rfl | hx
                · exact Nat.lt_succ_self _
                · have := hpk x hx; omega
              have HN : Hid (PB b sz (pkM b.length sz) (putP ps k (pkP b sz k)) ∧ (putP ps k (pkP b sz k)).length = k + 1 ∧ ∀ x ∈ putP ps k (pkP b sz k), x.1 < k + 1) := ⟨b1, hlen2, hmem2⟩
              clear hpb hpl hpk e1 b1 hnone hlen2 hmem2 hbx
              go_wp2_with fail
              refine hput.mono ?_
              rintro e w5 ⟨rfl, hbx5, hch5⟩
              go_wp2_with fail
              exact ⟨⟨k + 1, _, _, by omega, by go_num, HN.out, hbx5, hbw.trans (hch5.below (fun b q => q.1) hbw.size)⟩, by simp [intOf]; omega⟩
            · obtain rfl : k = Mb := by omega
              obtain ⟨hpb, hpl, hpk⟩ := HPB.out
              have hdo := done_any14 hbx (by omega)
              rw [hpb.done hsz1, if_pos (by rw [HM.out.1]; exact hpl)] at hdo
              clear hpb hpl hpk
              go_wp2_with fail
              refine hdo.mono ?_
              rintro e w5 ⟨v5, rfl, ho5, hb5⟩
              have hB5 := hbw.trans (hb5.mono hbw.size)
              have hsame := same_any ho5.rd (HPS.out.2.2.below hB5 (Nat.le_refl _))
              rw [decide_eq_true (show (some b : Option (List UInt8)).getD [] = b from rfl)] at hsame
              go_wp2_with fail
              refine hsame.mono ?_
              rintro e w6 ⟨rfl, j6, rfl⟩
              go_wp2_with fail
              go_ret
              exact ⟨rfl, below_drewN (HPS0.out.trans (hB5.mono HPS0.out.size)) j6⟩
  · have e1 : ((b.length : Int) == (c.length : Int)) = false := by simp; omega
    have HNE : Hid (¬ (M.crc c = M.crc b ∧ c.length = b.length)) := fun q => s1 q.2.symm
    have HS : Hid _ := s1
    clear s1 hsb hsc
    go_wp2_with fail
    have hne : ¬ (M.crc c = M.crc b ∧ c.length = b.length) := HNE.out
    go_loopw [14] (fun x wr => ∃ k : Nat, k ≤ Mc ∧ x = .int .i64 k ∧ Bx W3.heap.size w4.heap.size d (M.crc b) b.length 0 [] wr ∧ Below W3.heap.size W3 wr) (fun x _ => Mc - (intOf x).toNat)
    case atStart => exact ⟨0, Nat.zero_le _, rfl, HBX, HBW⟩
    case round =>
      clear HBX HBW
      obtain ⟨k1, hk1, rfl, HBX, HBW⟩ := hrel
      by_cases hlt : k1 < Mc
      · have hlt' : (k1 : Int) < (Mc : Int) := by omega
        obtain ⟨a1, n1, x1, hc1, hr1⟩ := (HPS.out.2.1.below HBW (Nat.le_refl _)) k1 (by rw [HM.out.2]; exact hlt)
        have hput := put_any HBX hr1 (pkI_len c sz k1 (by omega)) (by simp)
        rw [put_other (b := b) (k := 0) (ps := []) hsz1 (by omega) (by rw [HM.out.2]; exact hlt) hne] at hput
        clear HBX
        go_wp2_with fail
        refine hput.mono ?_
        rintro e w5 ⟨rfl, hbx5, hch5⟩
        go_wp2_with fail
        exact ⟨⟨k1 + 1, by omega, by go_num, hbx5, HBW.trans (hch5.below (fun b q => q.1) HBW.size)⟩, by simp [intOf]; omega⟩
      · obtain rfl : k1 = Mc := by omega
        clear hne
        go_wp2_with fail
        -- the bytes' own pieces
        go_loopw [15] (fun x wr => ∃ (k kk : Nat) (ps : List (Nat × List UInt8)), k ≤ Mb ∧ x = .int .i64 k ∧ Hid (PB b sz kk ps ∧ ps.length = k ∧ ∀ x ∈ ps, x.1 < k) ∧ Bx W3.heap.size w4.heap.size d (M.crc b) b.length kk ps wr ∧ Below W3.heap.size W3 wr) (fun x _ => Mb - (intOf x).toNat)
        case atStart => exact ⟨0, 0, [], Nat.zero_le _, rfl, ⟨PB.nil _ _, rfl, fun x hx => by cases hx⟩, HBX, HBW⟩
        case round =>
          obtain ⟨k, kk, ps, hk, rfl, HPB, hbx, hbw⟩ := hrel
          clear HBX HBW
          by_cases hlt : k < Mb
          · have hlt' : (k : Int) < (Mb : Int) := by omega
            obtain ⟨a1, n1, x1, hc1, hr1⟩ := (HPS.out.1.below hbw (Nat.le_refl _)) k (by rw [HM.out.1]; exact hlt)
            obtain ⟨hpb, hpl, hpk⟩ := HPB.out
            obtain ⟨e1, b1⟩ := hpb.put (i := k) hsz1 (by omega) (by rw [HM.out.1]; exact hlt)
            have hput := put_any hbx hr1 (pkI_len b sz k (by omega)) (by omega)
            rw [e1] at hput
            have hnone : lkP ps k = none := by
              cases q : lkP ps k with
              | none => rfl
              | some p => have := hpk _ (lkP_mem q); simp only [] at this; omega
            have hlen2 : (putP ps k (pkP b sz k)).length = k + 1 := by rw [putP_len, hnone]; simp [hpl]
            have hmem2 : ∀ x ∈ putP ps k (pkP b sz k), x.1 < k + 1 := fun x hx => by
              rcases putP_mem ps k _ x hx with rfl | hx
              · exact Nat.lt_succ_self _
              · have := hpk x hx; omega
            have HN : Hid (PB b sz (pkM b.length sz) (putP ps k (pkP b sz k)) ∧ (putP ps k (pkP b sz k)).length = k + 1 ∧ ∀ x ∈ putP ps k (pkP b sz k), x.1 < k + 1) := ⟨b1, hlen2, hmem2⟩
            clear hpb hpl hpk e1 b1 hnone hlen2 hmem2 hbx
            go_wp2_with fail
            refine hput.mono ?_
            rintro e w5 ⟨rfl, hbx5, hch5⟩
            go_wp2_with fail
            exact ⟨⟨k + 1, _, _, by omega, by go_num, HN.out, hbx5, hbw.trans (hch5.below (fun b q => q.1) hbw.size)⟩, by simp [intOf]; omega⟩
          · obtain rfl : k = Mb := by omega
            obtain ⟨hpb, hpl, hpk⟩ := HPB.out
            have hdo := done_any14 hbx (by omega)
            rw [hpb.done hsz1, if_pos (by rw [HM.out.1]; exact hpl)] at hdo
            clear hpb hpl hpk
            go_wp2_with fail
            refine hdo.mono ?_
            rintro e w5 ⟨v5, rfl, ho5, hb5⟩
            have hB5 := hbw.trans (hb5.mono hbw.size)
            have hsame := same_any ho5.rd (HPS.out.2.2.below hB5 (Nat.le_refl _))
            rw [decide_eq_true (show (some b : Option (List UInt8)).getD [] = b from rfl)] at hsame
            go_wp2_with fail
            refine hsame.mono ?_
            rintro e w6 ⟨rfl, j6, rfl⟩
            go_wp2_with fail
            go_ret
            exact ⟨rfl, below_drewN (HPS0.out.trans (hB5.mono HPS0.out.size)) j6⟩
end Go.Proofs.Ytlajncjamafomaa
