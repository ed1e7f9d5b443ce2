/- WalRotates, walked. -/
import Derived.Test.YtgdgnkmjoiholaaGreatDoorG6
import Derived.Deep.Cut
import Derived.Deep.CutRange
namespace Go.Proofs.YtgdgnkmjoiholaaGreatDoor
open Go.RowKit
set_option linter.unusedVariables false
set_option maxRecDepth 100000

/-- What the first loop keeps. -/
def RotL (B l d size : Nat) (nm : ByteArray) (rs : List (List UInt8)) (w1 : World) (j : Nat) (W : World) : Prop :=
  j ≤ rs.length ∧ RotE B l d size nm 1 0 (fun _ => none) (rs.take j) W ∧ (∀ r ∈ rs.take j, r.length ≤ 5000) ∧ Below B w1 W

set_option maxHeartbeats 4000000 in
theorem walRotates_any {x y : Int} (hx : -9223372036854775808 ≤ x ∧ x ≤ 9223372036854775807) (hy : -9223372036854775808 ≤ y ∧ y ≤ 9223372036854775807) {bv : Value} {rs : List (List UInt8)} {w : World} (hr : Rds w bv rs) :
    Calls Tryz.prog 6 #[.int .i64 x, bv, .int .i64 y] w fun e w' => e = .returned (.bool true) ∧ Below w.heap.size w w' := by
  obtain ⟨ao, c, ebv, hl1, hl2, hcells⟩ := id hr
  subst ebv
  obtain ⟨s0, hs0, hs0l⟩ := mask_mod x 300 (by omega)
  obtain ⟨cu, hcu, hcul⟩ := mask_mod y 70 (by omega)
  obtain ⟨s, hsd⟩ : ∃ s, s = 1 + s0 := ⟨_, rfl⟩
  have hs : wrap64 (1 + (bits BinOp.and IntKind.i64 x 4611686018427387903).tmod 300) = (s : Int) := by
    rw [show ((bits BinOp.and IntKind.i64 x 4611686018427387903).tmod 300) = (s0 : Int) from hs0]
    unfold wrap64; omega
  have hcu2 : (bits BinOp.and IntKind.i64 y 4611686018427387903).tmod 70 = (cu : Int) := hcu
  have hs1 : 1 ≤ s ∧ s ≤ 300 := by omega
  have hR : Rds w (.slice ao rs.length c) rs := hr
  have hl3 : rs.length ≤ 9223372036854775807 := by unfold maxLen at hl2; omega
  clear hr hcells hs0 hcu hsd hs0l
  have HR : Hid (Rds w (.slice ao rs.length c) rs) := hR
  clear hR
  go_enter Tryz.func6, Tryz.ntmps6
  go_wp2_with fail
  refine (wawake_any w).mono ?_
  rintro e w1 ⟨rfl, hb1⟩
  go_wp2_with fail
  refine (new_any w1).mono ?_
  rintro e w2 ⟨d, own, rfl, hd2, hb2⟩
  go_wp2_with fail
  refine (open_rot (size := s) (nm := ⟨#[115, 101, 103]⟩) hd2 hb2.size (by decide) (by decide) (by omega) (by omega)).mono ?_
  rintro e w3 ⟨l, rfl, hE3, hb3⟩
  have hb13 : Below w1.heap.size w1 w3 := hb2.trans hb3
  clear hb2 hb3 hd2
  obtain ⟨B, hB⟩ : ∃ B, B = w1.heap.size := ⟨_, rfl⟩
  rw [← hB] at hE3 hb13
  have hwB : w.heap.size ≤ B := by rw [hB]; exact hb1.size
  have HB : Hid _ := hB
  clear hB
  by_cases h60 : 60 < rs.length
  · have g1 : (60 : Int) < (rs.length : Int) := by omega
    go_wp2_with fail
    go_ret
    exact ⟨rfl, hb1.trans (hb13.mono hwB)⟩
  have g1 : decide ((60 : Int) < (rs.length : Int)) = false := decide_eq_false (by omega)
  have HL : Hid (RotL B l d s ⟨#[115, 101, 103]⟩ rs w1 0 w3) := ⟨by omega, hE3, fun r hr => by simp at hr, hb13⟩
  clear hE3 hb13
  go_wp2_with fail
  go_loopw [10] (fun i W => ∃ j : Nat, i = .int .i64 (j : Int) ∧ RotL B l d s ⟨#[115, 101, 103]⟩ rs w1 j W) (fun i _ => rs.length - (intOf i).toNat)
  case atStart => exact ⟨0, rfl, HL.out⟩
  case round =>
    obtain ⟨j, rfl, hj, hE, h5, hbW⟩ := hrel
    clear HL
    by_cases hlt : j < rs.length
    · have hg : (j : Int) < (rs.length : Int) := by omega
      have hbw : Below w.heap.size w wr := hb1.trans (hbW.mono hwB)
      obtain ⟨ao', c', e1, _, _, hcs⟩ := HR.out.below hbw (Nat.le_refl _)
      obtain ⟨a, u, ea, hcell, hrd⟩ := hcs j hlt
      simp only [Value.slice.injEq, true_and] at e1
      obtain ⟨rfl, rfl⟩ := e1
      subst ea
      obtain ⟨_, _, e1, _, _, hcs0⟩ := HR.out
      simp only [Value.slice.injEq, true_and] at e1
      obtain ⟨rfl, rfl⟩ := e1
      obtain ⟨_, u0, ea, hcell0, hrd0⟩ := hcs0 j hlt
      obtain rfl := Option.some.inj ea
      have hu : u0 = u := by
        have := hbw.cell (p := a.add j) (by exact World.block_lt_of_cell? w _ hcell0)
        rw [hcell, hcell0] at this
        exact (Option.some.inj this).symm
      subst hu
      obtain ⟨r, hrj⟩ : ∃ r, r = rs[j] := ⟨_, rfl⟩
      rw [← hrj] at hrd hrd0
      have hkp : ∀ w3, Below B wr w3 → Rd w3 u0 r := fun w3 hb => hrd0.below (hbw.trans (hb.mono hwB)) (Nat.le_refl _)
      clear hcs hcs0 hcell0 hrd0 ea
      obtain ⟨ua, uc, eu, hu1, hu2, _⟩ := id hrd
      subst eu
      have htk : rs.take (j + 1) = rs.take j ++ [r] := by rw [List.take_add_one, List.getElem?_eq_getElem hlt, hrj]; rfl
      have hw1w : Below w.heap.size w wr := hbw
      by_cases h5k : 5000 < r.length
      · have g2 : (5000 : Int) < (r.length : Int) := by omega
        clear hrj htk hE h5 hkp hrd
        go_wp2_with fail
        go_ret
        exact ⟨rfl, hw1w⟩
      · have g2 : ¬ (5000 : Int) < (r.length : Int) := by omega
        obtain ⟨sv, P, U, own, n, od, st, hRo⟩ := hE
        have hz := frs_le (rs.take j) 5000 h5
        have hfl := frame_le r
        have htl : (rs.take j).length = j := by rw [List.length_take]; omega
        have hap := append_rot hRo (by omega) (by omega) (by omega) (by omega) hrd hkp (by omega) (by rw [htl] at hz; omega)
        rw [htl, ← htk] at hap
        have H : Hid _ := And.intro hrj (And.intro htk (And.intro h5 hbW))
        have g3 : ((j : Int) + 1) = ((j + 1 : Nat) : Int) := by omega
        clear hrj htk h5 hbW hRo hkp hrd hz htl
        generalize j + 1 = j1 at *
        go_wp2_with fail
        refine hap.mono ?_
        rintro e w4 ⟨rfl, hE4, hb4⟩
        clear hap
        go_wp2_with fail
        obtain ⟨hrj, htk, h5, hbW⟩ := H.out
        refine ⟨⟨j1, rfl, by omega, hE4, fun q hq => ?_, hbW.trans hb4⟩, by simp [intOf]; omega⟩
        rw [htk, List.mem_append, List.mem_singleton] at hq
        rcases hq with hq | rfl
        · exact h5 q hq
        · omega
    · obtain rfl : j = rs.length := by omega
      rw [List.take_length] at hE h5
      obtain ⟨sv, P, U, own, n, od, st, hRo⟩ := hE
      have hpl : (sgs P).length = P.length := by simp
      have hln := hRo.2.1.len (by omega)
      have hne := hRo.1.ne
      have hz := frs_le rs 5000 h5
      have HZ : Hid ((frs rs).length ≤ rs.length * 5014) := hz
      have H5 : Hid (∀ r ∈ rs, r.length ≤ 5000) := h5
      have HRo : Hid (Rot B l d s ⟨#[115, 101, 103]⟩ 1 0 (fun _ => none) rs sv P U own n od st wr) := hRo
      have hP : P.length ≤ 61 := by omega
      have hseg := segments_any hRo.1.lg (by omega)
      clear hRo hz h5 hpl hln
      go_wp2_with fail
      refine hseg.mono ?_
      rintro e w5 ⟨v5, rfl, ho5, hb5⟩
      obtain ⟨g5, c5, rfl, v51, v52, hg5, hc5⟩ := begins_cell ho5 hne
      have HO5 : Hid _ := ho5
      have HC5 : Hid _ := hc5
      clear hseg ho5 hc5
      unfold maxLen at v52
      go_wp2_with fail
      generalize wr = wA at *
      have HW1 : Hid (Below w.heap.size w wA) := hb1.trans (hbW.mono hwB)
      have HBA : Hid (Below B w1 wA) := hbW
      clear hbW hb1
      go_loopw [14] (fun i W => ∃ j : Nat, i = .int .i64 (j : Int) ∧ j < P.length ∧ Below w5.heap.size w5 W) (fun i _ => P.length - (intOf i).toNat)
      case atStart => exact ⟨0, rfl, hne, Below.refl _ _⟩
      case round =>
        obtain ⟨j, rfl, hj, hbj⟩ := hrel
        obtain ⟨j1, hj1⟩ : ∃ j1, j1 = j + 1 := ⟨_, rfl⟩
        have g3 : (j : Int) + 1 = (j1 : Int) := by omega
        obtain ⟨p, ep⟩ : ∃ p, P[j]? = some p := ⟨_, List.getElem?_eq_getElem hj⟩
        have hRW : Rot B l d s ⟨#[115, 101, 103]⟩ 1 0 (fun _ => none) rs sv P U own n od st wr := (HRo.out.below hb5).below hbj
        have hcells : ∀ (i : Nat) p, P[i]? = some p → wr.cell? ⟨g5, i, none⟩ = some (.int .u64 (p.1.1 : Int)) := fun i p e => by
          have := HC5.out i p e
          rw [hbj.cell (World.block_lt_of_cell? _ _ this)]; exact this
        have HJ : Hid (j1 = j + 1) := hj1
        by_cases hlt : j1 < P.length
        · obtain ⟨q, eq⟩ : ∃ q, P[j1]? = some q := ⟨_, List.getElem?_eq_getElem hlt⟩
          have k0 := hcells j p ep
          have k1 := hcells j1 q eq
          have hch := hRW.2.1.chain j p.1 q.1 (sgs_at ep) (by rw [← hj1]; exact sgs_at eq)
          have hfull := hRW.2.1.full j p.1 (by simp; omega) (sgs_at ep)
          have hsm := hRW.2.1.small j p.1 (sgs_at ep)
          have hhas := hRW.2.1.has (by omega) j p.1 (by simp; omega) (sgs_at ep)
          have hat := hRW.2.1.at_ j p.1 (sgs_at ep)
          have hle := hRW.2.1.le j p.1 (sgs_at ep)
          have hlq := hRW.2.1.le j1 q.1 (sgs_at eq)
          obtain ⟨la, hla⟩ : ∃ la, p.1.2[p.1.2.length - 1]? = some la := ⟨_, List.getElem?_eq_getElem (by omega)⟩
          have hmem := hRW.2.1.gets j p.1 (p.1.2.length - 1) la (sgs_at ep) hla
          have hl5 := H5.out la (List.mem_of_getElem? hmem)
          have hsp : p.1.2 = p.1.2.dropLast ++ [la] := by
            have hx : p.1.2 ≠ [] := fun h => by rw [h] at hhas; simp at hhas
            rw [List.getElem?_eq_getElem (by omega)] at hla
            have h2 := List.dropLast_concat_getLast hx
            rw [List.getLast_eq_getElem, Option.some.inj hla] at h2
            exact h2.symm
          have hfl : (frs p.1.2).length = (frs p.1.2.dropLast).length + (M.frame la).length := by
            conv => lhs; rw [hsp]
            rw [frs_snoc, List.length_append]
          have hsm2 : (frs p.1.2.dropLast).length < s := by
            rcases hsm with h | h
            · rw [h] at hhas; simp at hhas
            · exact h
          have hsix := frame_six la (by omega)
          have hp100 : p.1.1 < 100 := by unfold sgNext at hle; omega
          have hq1 : p.1.1 - 1 + (p.1.2.length - 1) + 1 = q.1.1 - 1 := by unfold sgNext at hch; omega
          have hqb : 1 ≤ q.1.1 ∧ q.1.1 ≤ 100 := by unfold sgNext at hlq hch; omega
          obtain ⟨q0, hq0⟩ : ∃ q0, q0 = q.1.1 - 1 := ⟨_, rfl⟩
          have hq2 : (q.1.1 : Int) - 1 = (q0 : Int) := by omega
          obtain ⟨p00, ep00⟩ : ∃ p, P[0]? = some p := ⟨_, List.getElem?_eq_getElem hne⟩
          have hat0 := hRW.2.1.at_ 0 p00.1 (sgs_at ep00)
          have hget := fun W (hW : Below wr.heap.size wr W) => get_rot (k := 0) (hRW.below hW).1.lg hRW.2.1 (by omega) (by omega) ep00 hmem (by rw [hat0]; simp [recsOf] <;> omega) (by omega)
          rw [hq1, ← hq0] at hget
          have hnm : (⟨#[115, 101, 103, 46]⟩ : ByteArray) ++ lowD 20 p.1.1 = fname ⟨#[115, 101, 103]⟩ p.1.1 := name_of ⟨#[115, 101, 103]⟩ p.1.1 hp100
          obtain ⟨sy, hst⟩ := hRW.1.fl j p ep
          have hfs := fname_size ⟨#[115, 101, 103]⟩ p.1.1 hp100
          have hfz := HZ.out
          have hfle := (seg_le hRW.2.1 j p.1 (sgs_at ep)).1
          have hread := fun W (hW : Below wr.heap.size wr W) => read_alive (hRW.below hW).1.dk (fname ⟨#[115, 101, 103]⟩ p.1.1) (by rw [hfs]; decide) _ hst (show (frs p.1.2).length ≤ _ by omega)
          have hlow := lowD_size 20 p.1.1
          have hLB : (frs p.1.2).length ≤ 400000 := by omega
          have c1 : ¬ ((frs p.1.2).length : Int) < (s : Int) := by omega
          have c2 : ¬ (s : Int) + 5 ≤ ((frs p.1.2).length : Int) - (la.length : Int) - 5 := by omega
          clear hRW hcells hch hfull hsm hhas hat hle hlq hla hmem hsp hfl hsm2 hsix hq0 hq1 hat0 hst hfz hfle hj1 ep eq
          go_wp2_with fail
          refine (digits_any p.1.1 (by omega) wr).mono ?_
          rintro e w6 ⟨rfl, q6, rfl⟩
          go_wp2_with fail
          refine (hread _ (Below.dN wr q6)).mono ?_
          rintro e w7 ⟨v7, rfl, ho7, hb7⟩
          have hb7' : Below wr.heap.size wr w7 := Below.tr (Below.dN wr q6) hb7
          have k1' : w7.cell? ⟨g5, j1, none⟩ = some (.int .u64 (q.1.1 : Int)) := by rw [hb7'.cell (World.block_lt_of_cell? _ _ k1)]; exact k1
          obtain ⟨a7, c7, e7, _⟩ := ho7.rd
          subst e7
          clear hread ho7 k0 k1
          go_wp2_with fail
          refine (hget _ hb7').mono ?_
          rintro e w8 ⟨⟨v8, rfl, ho8⟩, hb8⟩
          obtain ⟨a8, c8, e8, _⟩ := ho8.rd
          subst e8
          have hb8' : Below wr.heap.size wr w8 := Below.tr hb7' hb8
          clear hget ho8 k1'
          go_wp2_with fail
          exact ⟨⟨j1, rfl, hlt, Below.tr hbj hb8'⟩, by have := HJ.out; simp [intOf]; omega⟩
        · have g4 : (j : Int) + 1 = (P.length : Int) := by omega
          obtain ⟨k, hk, hlo0, hhi0⟩ := cut_at (fun i => ((P[i]?).map (fun p => p.1.1)).getD 0) P.length cu hne
          have hlo : ∀ (i : Nat) p, i < k → P[i + 1]? = some p → p.1.1 ≤ cu := fun i p hi e => by have := hlo0 i hi; simpa [e] using this
          have hhi : ∀ p, P[k + 1]? = some p → cu < p.1.1 := fun p e => by have := hhi0 (List.getElem?_eq_some_iff.1 e).1; simpa [e] using this
          have hz0 : 0 + (frs rs).length = szD (sgs P) 0 := by unfold szD; rw [List.drop_zero, hRW.2.1.all, Nat.zero_add]
          have hz1 := HZ.out
          have hcut := lcut_any hRW.1 hz0 (by omega) (by omega) (hRW.mono (by omega)) (show cu < 18446744073709551616 by omega) hk hlo hhi
          have HRW : Hid (Rot B l d s ⟨#[115, 101, 103]⟩ 1 0 (fun _ => none) rs sv P U own n od st wr) := hRW
          have HLO : Hid _ := And.intro hlo hhi
          have HCE : Hid _ := hcells
          clear hcells ep hj1 HJ g3 hRW hlo hhi hlo0 hhi0 hz0 hz1 hlt
          go_wp2_with fail
          refine hcut.mono ?_
          rintro e w9 ⟨rfl, ⟨sv9, od9, st9, hI9⟩, hc9⟩
          have hb9 : Below B wr w9 := HRW.out.1.chg hc9
          have HC9 : Hid (∀ (i : Nat) p, P[i]? = some p → w9.cell? ⟨g5, i, none⟩ = some (.int .u64 (p.1.1 : Int))) := fun i p e => by
            have h1 := HCE.out i p e
            have hn1 : own g5 = none := by
              by_cases q : own g5 = none
              · exact q
              · have := (HRo.out.1.lg.lo g5 q).2; omega
            have hn2 : od g5 = none := by
              by_cases q : od g5 = none
              · exact q
              · have := (HRo.out.1.dk.blo q).2; omega
            rw [World.cell?_of_block (hc9.block g5 (World.block_lt_of_cell? _ _ h1) (by simp [hn1, hn2]))]
            exact h1
          clear hcut hc9
          obtain ⟨Q, hQ⟩ : ∃ Q, Q = P.drop k := ⟨_, rfl⟩
          rw [← hQ] at hI9
          have hQl : Q.length + k = P.length := by rw [hQ, List.length_drop]; omega
          have HQ : Hid (Q.length + k = P.length ∧ ∀ (i : Nat) p, Q[i]? = some p → P[k + i]? = some p) := ⟨hQl, fun i p e => by rw [hQ, List.getElem?_drop] at e; exact e⟩
          have hQ0 : 0 < Q.length := by omega
          have hQ6 : Q.length ≤ 61 := by omega
          have hse := segments_any hI9.lg (by omega)
          have HI9 : Hid _ := And.intro hI9 hQ
          have g5' : (P.length : Int) - (Q.length : Int) = (k : Int) := by omega
          clear hQl hI9 hQ
          go_wp2_with fail
          refine hse.mono ?_
          rintro e w10 ⟨v10, rfl, ho10, hb10⟩
          obtain ⟨g10, c10, rfl, v101, v102, _, hc10⟩ := begins_cell ho10 hQ0
          unfold maxLen at v102
          have HC10 : Hid (∀ (i : Nat) p, Q[i]? = some p → w10.cell? ⟨g10, i, none⟩ = some (.int .u64 (p.1.1 : Int))) := hc10
          have HCA : Hid (∀ (i : Nat) p, P[i]? = some p → w10.cell? ⟨g5, i, none⟩ = some (.int .u64 (p.1.1 : Int))) := fun i p e => by rw [hb10.cell (World.block_lt_of_cell? _ _ (HC9.out i p e))]; exact HC9.out i p e
          clear hse ho10 hc10
          go_wp2_with fail
          generalize wr = wZ at *
          go_loopw [21] (fun i W => ∃ j : Nat, i = .int .i64 (j : Int) ∧ j ≤ Q.length ∧ Below w10.heap.size w10 W) (fun i _ => Q.length - (intOf i).toNat)
          case atStart => exact ⟨0, rfl, by omega, Below.refl _ _⟩
          case round =>
            obtain ⟨j3, rfl, hj3, hbj3⟩ := hrel
            by_cases hlt : j3 < Q.length
            · obtain ⟨p, ep⟩ : ∃ p, Q[j3]? = some p := ⟨_, List.getElem?_eq_getElem hlt⟩
              have k0 : wr.cell? ⟨g10, j3, none⟩ = some (.int .u64 (p.1.1 : Int)) := by rw [hbj3.cell (World.block_lt_of_cell? _ _ (HC10.out j3 p ep))]; exact HC10.out j3 p ep
              obtain ⟨kj, hkj⟩ : ∃ kj, kj = k + j3 := ⟨_, rfl⟩
              have ep2 := HQ.out.2 j3 p ep
              rw [← hkj] at ep2
              have k1 : wr.cell? ⟨g5, kj, none⟩ = some (.int .u64 (p.1.1 : Int)) := by rw [hbj3.cell (World.block_lt_of_cell? _ _ (HCA.out kj p ep2))]; exact HCA.out kj p ep2
              have l1 : (k : Int) + (j3 : Int) = (kj : Int) := by omega
              have l2 : (j3 : Int) < (Q.length : Int) := by omega
              have l3 : (kj : Int) < (P.length : Int) := by have := HQ.out.1; omega
              clear hkj ep ep2
              go_wp2_with fail
              go_quiet (fail)
              go_wp2_with fail
              exact ⟨⟨j3 + 1, by go_num, by omega, Below.tr hbj3 (Below.dN wr _)⟩, by simp [intOf]; omega⟩
            · obtain rfl : j3 = Q.length := by omega
              go_upto_region 33 with fail
              have hI : WI B l d s ⟨#[115, 101, 103]⟩ sv9 Q (fun i => U (i + k)) (ownCut own k) n od9 st9 (szD (sgs P) k) wr := HI9.out.1.below (Below.tr hb10 hbj3)
              have HI : Hid (WI B l d s ⟨#[115, 101, 103]⟩ sv9 Q (fun i => U (i + k)) (ownCut own k) n od9 st9 (szD (sgs P) k) wr) := hI
              obtain ⟨q0, eq0⟩ : ∃ q, Q[0]? = some q := ⟨_, List.getElem?_eq_getElem hQ0⟩
              have HWR : Hid (Below w.heap.size w wr) := (((HW1.out.trans (hb5.mono HW1.out.size)).trans (hbj.mono (Nat.le_trans HW1.out.size hb5.size))).trans (hb9.mono hwB)).trans ((Below.tr hb10 hbj3).mono (Nat.le_trans (Nat.le_trans (Nat.le_trans HW1.out.size hb5.size) hbj.size) hb9.size))
              clear hI
              go_cut [185] from 162 (fun s wx => s = .bool false ∧ wx = wr)
              case first =>
                have k0 : wr.cell? ⟨g10, 0, none⟩ = some (.int .u64 (q0.1.1 : Int)) := by rw [hbj3.cell (World.block_lt_of_cell? _ _ (HC10.out 0 q0 eq0))]; exact HC10.out 0 q0 eq0
                have l0 : (0 : Int) < (Q.length : Int) := by omega
                have f0 : Q.length < P.length → q0.1.1 ≤ cu := fun h => HLO.out.1 (k - 1) q0 (by have := HQ.out.1; omega) (by have h2 := HQ.out.2 0 q0 eq0; have := HQ.out.1; rw [show k - 1 + 1 = k + 0 by omega]; exact h2)
                by_cases h1 : 1 < Q.length
                · obtain ⟨q1, eq1⟩ : ∃ q, Q[1]? = some q := ⟨_, List.getElem?_eq_getElem h1⟩
                  have k1 : wr.cell? ⟨g10, 1, none⟩ = some (.int .u64 (q1.1.1 : Int)) := by rw [hbj3.cell (World.block_lt_of_cell? _ _ (HC10.out 1 q1 eq1))]; exact HC10.out 1 q1 eq1
                  have f1 : cu < q1.1.1 := HLO.out.2 q1 (HQ.out.2 1 q1 eq1)
                  have a1 : ¬ (q1.1.1 : Int) ≤ (cu : Int) := by omega
                  have b1 : (1 : Int) < (Q.length : Int) := by omega
                  by_cases h0 : Q.length < P.length
                  · have a0 : ¬ (cu : Int) < (q0.1.1 : Int) := by have := f0 h0; omega
                    have b0 : (Q.length : Int) < (P.length : Int) := by omega
                    clear f0 f1 eq0 eq1
                    go_wp2_with fail
                    go_meet
                    exact ⟨rfl, rfl⟩
                  · have b0 : ¬ (Q.length : Int) < (P.length : Int) := by omega
                    clear f0 f1 eq0 eq1
                    go_wp2_with fail
                    go_meet
                    exact ⟨rfl, rfl⟩
                · have b1 : ¬ (1 : Int) < (Q.length : Int) := by omega
                  by_cases h0 : Q.length < P.length
                  · have a0 : ¬ (cu : Int) < (q0.1.1 : Int) := by have := f0 h0; omega
                    have b0 : (Q.length : Int) < (P.length : Int) := by omega
                    clear f0 eq0
                    go_wp2_with fail
                    go_meet
                    exact ⟨rfl, rfl⟩
                  · have b0 : ¬ (Q.length : Int) < (P.length : Int) := by omega
                    clear f0 eq0
                    go_wp2_with fail
                    go_meet
                    exact ⟨rfl, rfl⟩
              case rest =>
                obtain ⟨rfl, hwc⟩ := hcut
                obtain rfl : wr = wc := hwc.symm
                have hq0 := HRo.out.2.1.le k q0.1 (sgs_at (by have := HQ.out.2 0 q0 eq0; rwa [Nat.add_zero] at this))
                have hq01 : q0.1.1 ≤ 1 + rs.length := by unfold sgNext at hq0; omega
                have hfi := first_any HI.out.lg q0 eq0
                clear hq0
                go_wp2_with fail
                refine hfi.mono ?_
                rintro e w11 ⟨rfl, rfl⟩
                clear hfi
                go_wp2_with fail
                have eqk : P[k]? = some q0 := by have := HQ.out.2 0 q0 eq0; rwa [Nat.add_zero] at this
                have HLD : Hid (LgI B l d s ⟨#[115, 101, 103]⟩ false sv9 (P.drop k) (fun i => U (i + k)) (ownCut own k) w11) := by rw [← HI9.out.2]; exact HI.out.lg
                go_loopw [22] (fun i W => ∃ j : Nat, i = .int .i64 (j : Int) ∧ q0.1.1 ≤ j ∧ j ≤ 1 + rs.length ∧ Below w11.heap.size w11 W) (fun i _ => 1 + rs.length - (intOf i).toNat)
                case atStart => exact ⟨q0.1.1, rfl, Nat.le_refl _, hq01, Below.refl _ _⟩
                case round =>
                  obtain ⟨j4, rfl, hj4, hj41, hbj4⟩ := hrel
                  have hat := HRo.out.2.1.at_ k q0.1 (sgs_at eqk)
                  by_cases hlt : j4 ≤ rs.length
                  · obtain ⟨m, hm⟩ : ∃ m, j4 = m + 1 := ⟨j4 - 1, by omega⟩
                    obtain ⟨r, hr⟩ : ∃ r, rs[m]? = some r := ⟨_, List.getElem?_eq_getElem (by omega)⟩
                    have hget := get_rot (HLD.out.below hbj4) HRo.out.2.1 (by omega) (by omega) eqk hr (by omega) (by have := H5.out r (List.mem_of_getElem? hr); omega)
                    rw [← hm] at hget
                    have hbw : Below w.heap.size w wr := HWR.out.trans (hbj4.mono HWR.out.size)
                    have hml : m < rs.length := by omega
                    have hRd : ∀ W, Below wr.heap.size wr W → ∃ a u, ao = some a ∧ W.cell? (a.add m) = some u ∧ Rd W u r := fun W hW => by
                      obtain ⟨ao', c', e1, _, _, hcs⟩ := HR.out.below (hbw.trans (hW.mono hbw.size)) (Nat.le_refl _)
                      obtain ⟨a, u, ea, hcell, hrd⟩ := hcs m hml
                      simp only [Value.slice.injEq, true_and] at e1
                      obtain ⟨rfl, rfl⟩ := e1
                      have : rs[m] = r := by rw [List.getElem?_eq_getElem hml] at hr; exact Option.some.inj hr
                      rw [this] at hrd
                      exact ⟨a, u, ea, hcell, hrd⟩
                    have n1 : (j4 : Int) ≤ (rs.length : Int) := by omega
                    have n2 : (j4 : Int) - 1 = (m : Int) := by omega
                    have n3 : (m : Int) < (rs.length : Int) := by omega
                    have HM : Hid (j4 = m + 1) := hm
                    clear hat hr hm hbw
                    go_wp2_with fail
                    refine hget.mono ?_
                    rintro e w12 ⟨⟨v12, rfl, ho12⟩, hb12⟩
                    obtain ⟨a, u, ea, hcell, hrd⟩ := hRd w12 hb12
                    subst ea
                    have hsame := same_any ho12.rd hrd
                    rw [decide_eq_true rfl] at hsame
                    obtain ⟨a12, c12, e12, _⟩ := ho12.rd
                    subst e12
                    obtain ⟨au, cu', eu, _⟩ := id hrd
                    subst eu
                    clear hRd hrd ho12 hget
                    go_wp2_with fail
                    refine hsame.mono ?_
                    rintro e w13 ⟨rfl, q13, rfl⟩
                    clear hsame
                    go_wp2_with fail
                    exact ⟨⟨j4 + 1, by go_num, by omega, by omega, Below.tr hbj4 (Below.tr hb12 (Below.dN w12 q13))⟩, by simp [intOf]; omega⟩
                  · obtain ⟨J, hJ⟩ : ∃ J, j4 = J := ⟨_, rfl⟩
                    have n1 : ¬ (j4 : Int) ≤ (rs.length : Int) := by omega
                    obtain ⟨lq, elq⟩ : ∃ q, Q[Q.length - 1]? = some q := ⟨_, List.getElem?_eq_getElem (by omega)⟩
                    have hlq : sgNext lq.1 = 1 + rs.length := HRo.out.2.1.next (k := P.length - 1) (by simp; omega) lq.1 (sgs_at (by have h2 := HQ.out.2 _ lq elq; have := HQ.out.1; rwa [show k + (Q.length - 1) = P.length - 1 by omega] at h2))
                    have hIr := HI.out.below hbj4
                    have hsy := lsync_any hIr (k := Q.length - 1) (by omega) elq
                    obtain ⟨R1, hR1⟩ : ∃ R1, R1 = 1 + rs.length := ⟨_, rfl⟩
                    have n2 : (rs.length : Int) + 1 = (R1 : Int) := by omega
                    have n4 : R1 ≤ 61 := by omega
                    have HIR : Hid _ := And.intro hIr hR1
                    have hbw : Below w.heap.size w wr := HWR.out.trans (hbj4.mono HWR.out.size)
                    have HBW : Hid _ := hbw
                    have HLQ : Hid _ := And.intro hlq elq
                    clear hat hIr hR1 hlq elq hbw hJ
                    go_wp2_with fail
                    refine hsy.mono ?_
                    rintro e w14 ⟨rfl, ⟨od14, hI14⟩, hc14⟩
                    have hnx := lnext_any hI14.lg (k := Q.length - 1) (by omega) lq HLQ.out.2 (by rw [HLQ.out.1]; omega)
                    rw [HLQ.out.1, ← HIR.out.2] at hnx
                    have hb14 : Below B wr w14 := HIR.out.1.chg hc14
                    clear hsy hI14 hc14
                    go_wp2_with fail
                    refine hnx.mono ?_
                    rintro e w15 ⟨rfl, q15, rfl⟩
                    go_wp2_with fail
                    go_ret
                    exact ⟨rfl, (HBW.out.trans (hb14.mono hwB)).trans ((Below.dN w14 q15).mono (Nat.le_trans HBW.out.size hb14.size))⟩
end Go.Proofs.YtgdgnkmjoiholaaGreatDoor
