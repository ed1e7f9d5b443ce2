/- What WalAgain's loops begin with and hand on. -/
import Derived.Test.YtcielagfajdbeaaGreatDoorG8
namespace Go.Proofs.YtcielagfajdbeaaGreatDoor
open Go.RowKit
set_option linter.unusedVariables false
set_option maxRecDepth 100000

section
variable {C : Nat} {v8 vb vr : Value} {L0 t : List UInt8} {trs : List (List UInt8)} {w0 w8 W : World} {j : Nat}
/-- The frame that the tail's rest begins with. -/
theorem TlI.tf (h : TlI C v8 L0 trs t w0 w8 j vb vr W) (hj : j < trs.length) (hl : (frs trs ++ t).length ≤ 1048576) : ∃ r, trs[j]? = some r ∧ M.tf (frs (trs.drop j) ++ t) = (r, frs (trs.drop (j + 1)) ++ t, 0) ∧ frs (trs.drop j) ++ t = M.frame r ++ (frs (trs.drop (j + 1)) ++ t) ∧ frs (trs.take (j + 1)) = frs (trs.take j) ++ M.frame r := by
  obtain ⟨r, er⟩ : ∃ r, trs[j]? = some r := ⟨_, List.getElem?_eq_getElem hj⟩
  have e1 : trs.drop j = r :: trs.drop (j + 1) := by
    obtain ⟨h, rfl⟩ := List.getElem?_eq_some_iff.1 er
    rw [List.drop_eq_getElem_cons h]
  have e2 : trs.take (j + 1) = trs.take j ++ [r] := by rw [List.take_add_one, er]; rfl
  have e3 : frs (trs.drop j) ++ t = M.frame r ++ (frs (trs.drop (j + 1)) ++ t) := by rw [e1, frs_consL, List.append_assoc]
  have hrl : r.length ≤ (frs trs ++ t).length := by
    have e4 : frs trs = frs (trs.take j) ++ frs (trs.drop j) := by rw [← frs_app, List.take_append_drop]
    rw [e4, e1, frs_consL]
    have : r.length ≤ (M.frame r).length := by unfold M.frame; simp only [List.length_append]; omega
    simp only [List.length_append]
    omega
  refine ⟨r, er, ?_, e3, by rw [e2, frs_snoc]⟩
  rw [e3]
  exact M.tf_back r _ (by omega)
/-- A round of the loop over the tail's frames. -/
theorem TlI.step (h : TlI C v8 L0 trs t w0 w8 j vb vr W) {r : List UInt8} (er : trs[j]? = some r) (e3 : frs (trs.take (j + 1)) = frs (trs.take j) ++ M.frame r) {w11 w12 : World} (hb : Below W.heap.size W w11) {v2 v12 : Value} (o2 : Ow W.heap.size w11 v2 (frs (trs.drop (j + 1)) ++ t)) (ho : Ow C w12 v12 (L0 ++ frs (trs.take j) ++ M.frame r)) (hg : w11.grownBy w12 vb.ownBlock) (hv : v12.ownBlock = vb.ownBlock ∨ v12.ownBlock = some w11.heap.size) (hC0 : w0.heap.size ≤ C) (hC8 : C ≤ w8.heap.size) :
    TlI C v8 L0 trs t w0 w8 (j + 1) v12 v2 w12 := by
  obtain ⟨h1, h2, h3, h4, h5, h6⟩ := h
  have hlt := (List.getElem?_eq_some_iff.1 er).1
  have hs5 := h5.size
  have hvb : ∀ x, vb.ownBlock = some x → C ≤ x ∧ x < W.heap.size := fun x e => World.ownsRow.lt h2 x e
  have hv2 : ∀ x, v2.ownBlock = some x → W.heap.size ≤ x := fun x e => (World.ownsRow.lt o2 x e).1
  have c1 : Chg (fun b => vb.ownBlock = some b ∨ W.heap.size ≤ b) W w12 := by
    have a1 : Chg (fun b => vb.ownBlock = some b) W w11 := (Chg.of_below hb).mono (fun b q1 q2 => by omega)
    have a2 : Chg (fun b => vb.ownBlock = some b ∨ W.heap.size ≤ b) w11 w12 := Chg.of_grown hg (fun b e _ => .inl e)
    exact (a1.trans a2).mono (fun b _ q => .inl q)
  refine ⟨by omega, ?_, ?_, fun x e => ?_, ?_, ?_⟩
  · rw [e3, ← List.append_assoc]; exact ho
  · exact o2.rd.keptC (Chg.of_grown (S := fun b => vb.ownBlock = some b) hg (fun b e _ => e)) (fun b e q => by have := hvb b q; have := hv2 b e; omega)
  · rcases hv with q | q
    · exact h4 x (q ▸ e)
    · have q2 : w11.heap.size = x := Option.some.inj (q.symm.trans e)
      have := hb.size
      exact .inr (by omega)
  · exact h5.trans (c1.mono (fun b hb2 q => by
      rcases q with q | q
      · exact h4 b q
      · omega))
  · refine h6.trans (c1.below (fun b q => ?_) (Nat.le_trans hC0 (by omega)))
    rcases q with q | q
    · have := (hvb b q).1; omega
    · omega
end
/-- The log's segments, the last with the tail's frames. -/
def GofL (P : List (Sg × Value)) (k : Nat) (p : Sg × Value) (trs : List (List UInt8)) : List Sg := (sgs P).set k (p.1.1, p.1.2 ++ trs)
section
variable {B l d : Nat} {tail t : List UInt8} {rs trs : List (List UInt8)} {sv : Value} {P : List (Sg × Value)} {U : Nat → List Value} {own : Nat → Option LRole} {n : Nat} {od : Nat → Option Role} {st : Nm → Option (List UInt8 × Nat)} {w5 : World} {k : Nat} {p : Sg × Value}
theorem GofL_len (hk : P.length = k + 1) : (GofL P k p trs).length = k + 1 := by unfold GofL; simp [hk]
theorem GofL_last (hk : P.length = k + 1) : (GofL P k p trs)[k]? = some (p.1.1, p.1.2 ++ trs) := by
  unfold GofL
  rw [List.getElem?_set_self (by simp [hk])]
theorem GofL_first (h : Chn 40 rs (sgs P)) (hk : P.length = k + 1) (ep : P[k]? = some p) : ∃ g, (GofL P k p trs)[0]? = some g ∧ g.1 = 1 := by
  have hat : ∀ q, (sgs P)[0]? = some q → q.1 = 1 := fun q e => by
    have := h.at_ 0 q e
    rw [this]; simp [recsOf]
  by_cases hk0 : k = 0
  · subst hk0
    exact ⟨_, GofL_last hk, hat p.1 (sgs_at ep)⟩
  · obtain ⟨q, eq⟩ : ∃ q, (sgs P)[0]? = some q := ⟨_, List.getElem?_eq_getElem (by simp [hk])⟩
    refine ⟨q, ?_, hat q eq⟩
    unfold GofL
    rw [List.getElem?_set_ne hk0]; exact eq
theorem AgW.start (hRo : Rot B l d 40 NML 2 tail.length (exL tail) rs sv P U own n od st w5) (hrs : rs.length ≤ 40) (hz2 : (frs rs).length ≤ 100000) (htl : tail.length ≤ 1048576) (hk : P.length = k + 1) (ep : P[k]? = some p) (hpt : tail = frs trs ++ t) {od10 : Nat → Option Role} {st10 : Nm → Option (List UInt8 × Nat)} {w0 w10 W W' : World} {C : Nat} {s9 : Nat} {v9 vb vr : Value}
    (hAg : Ag B d tail ((filesOf P).set k (p.1.1, p.1.2 ++ trs, t)) n od10 st10 (tail.length + (frs rs).length + tail.length) w10) (hod : ∀ b, od10 b ≠ none → b < w5.heap.size ∨ s9 ≤ b) (hl9 : ∀ x, v9.ownBlock = some x → C ≤ x ∧ x < s9) (h5C : w5.heap.size ≤ C) {j : Nat} (hTl : TlI C v9 (frs p.1.2) trs t w0 w10 j vb vr W) (hj : j = trs.length) (hb : Below W.heap.size W W') (hB : B ≤ w5.heap.size) (hC : C ≤ w10.heap.size) :
    AgW B d tail (GofL P k p trs) C vb (frs (p.1.2 ++ trs)) w0 0 W' := by
  obtain ⟨h1, h2, h3, h4, h5, h6⟩ := hTl
  have hs5 := h5.size
  have key : ∀ x, v9.ownBlock = some x → od10 x = none := fun x e => by
    by_cases q : od10 x = none
    · exact q
    · have := hod x q; have := hl9 x e; omega
  have hA1 : Ag B d tail ((filesOf P).set k (p.1.1, p.1.2 ++ trs, t)) n od10 st10 (tail.length + (frs rs).length + tail.length) W := hAg.next h5 (fun b q e => q (key b e))
  have hsl := seg_le hRo.2.1 k p.1 (sgs_at ep)
  have hfe : frs (p.1.2 ++ trs) ++ t = frs p.1.2 ++ tail := by rw [frs_app, List.append_assoc, ← hpt]
  have hn := hRo.2.2.1
  have e9 : frs (p.1.2 ++ trs) = frs p.1.2 ++ frs (trs.take j) := by rw [hj, List.take_length, frs_app]
  have hle : ((filesOf P).set k (p.1.1, p.1.2 ++ trs, t)).length = k + 1 := by unfold filesOf; simp [hk]
  refine AgW.below ⟨_, n, od10, st10, _, hA1, ?_, by omega, by omega, fun f ef => ?_, by rw [e9]; exact h2, fun x e => ?_, h6, by omega⟩ hb
  · unfold GofL filesOf
    rw [List.map_set, List.map_map]
    rfl
  · rw [hle, Nat.add_sub_cancel, List.getElem?_set_self (by unfold filesOf; simp [hk])] at ef
    obtain rfl := Option.some.inj ef
    show (frs (p.1.2 ++ trs) ++ t).length ≤ _
    rw [hfe, List.length_append]
    omega
  · rcases h4 x e with q | q
    · exact key x q
    · by_cases q2 : od10 x = none
      · exact q2
      · have := (hAg.dk.blo q2).2; omega
end
end Go.Proofs.YtcielagfajdbeaaGreatDoor

/- WalAgain's walk. -/
namespace Go.Proofs.YtcielagfajdbeaaGreatDoor
open Go.RowKit
set_option linter.unusedVariables false
set_option maxRecDepth 100000

set_option maxHeartbeats 8000000 in
theorem walAgain_any {bv tv : Value} {rs : List (List UInt8)} {tail : List UInt8} {w : World} (hr : Rds w bv rs) (ht : Rd w tv tail) :
    Calls Tryz.prog 4 #[bv, tv] w fun e w' => e = .returned (.bool true) ∧ Below w.heap.size w w' := by
  obtain ⟨ao, c, ebv, hl1, hl2, hcells⟩ := id hr
  subst ebv
  have hl3 : rs.length ≤ 9223372036854775807 := by unfold maxLen at hl2; omega
  have HR : Hid (Rds w (.slice ao rs.length c) rs) := hr
  obtain ⟨ta, tc, etv, ht1, ht2, -⟩ := id ht
  subst etv
  unfold maxLen at ht2
  have HT : Hid (Rd w (.slice ta tail.length tc) tail) := ht
  clear hr hcells ht
  go_enter Tryz.func4, Tryz.ntmps4
  go_wp2_with fail
  refine (wawake_any w).mono ?_
  rintro e w1 ⟨rfl, hb1⟩
  by_cases h00 : 1048576 < tail.length
  · have g0 : (1048576 : Int) < (tail.length : Int) := by omega
    go_wp2_with fail
    go_ret
    exact ⟨rfl, hb1⟩
  have g0 : ¬ (1048576 : Int) < (tail.length : Int) := by omega
  go_wp2_with fail
  refine (new_any w1).mono ?_
  rintro e w2 ⟨d, own, rfl, hd2, hb2⟩
  go_wp2_with fail
  refine (open_rot (size := 40) (nm := NML) hd2 hb2.size (by decide) (by decide) (by omega) (by omega)).mono ?_
  rintro e w3 ⟨l, rfl, hE3, hb3⟩
  have hb13 : Below w1.heap.size w1 w3 := hb2.trans hb3
  clear hb2 hb3 hd2
  obtain ⟨B, hB⟩ : ∃ B, B = w1.heap.size := ⟨_, rfl⟩
  rw [← hB] at hE3 hb13
  have hwB : w.heap.size ≤ B := by rw [hB]; exact hb1.size
  have HB : Hid _ := hB
  clear hB
  have hwl := write_logs hE3 (HT.out.below (hb1.trans (hb13.mono hwB)) (Nat.le_refl _)) (by omega)
  clear hE3
  go_wp2_with fail
  refine hwl.mono ?_
  rintro e w4 ⟨rfl, hE4, hb4⟩
  have hb14 := hb13.trans hb4
  have HL : Hid (RotA B l d tail rs w1 0 w4) := ⟨by omega, by omega, hE4, fun r hr => by simp at hr, hb14⟩
  clear hwl hE4 hb14 hb13 hb4
  go_wp2_with fail
  go_loopw [8] (fun i W => ∃ j : Nat, i = .int .i64 (j : Int) ∧ RotA B l d tail rs w1 j W) (fun i _ => rs.length - (intOf i).toNat)
  case atStart => exact ⟨0, rfl, HL.out⟩
  case round =>
    obtain ⟨j, rfl, hj, hj40, hE, h5, hbW⟩ := hrel
    clear HL
    by_cases hlt0 : j < rs.length ∧ j < 40
    · obtain ⟨hlt, hlt40⟩ := hlt0
      have hg : (j : Int) < (rs.length : Int) := by omega
      have hg2 : decide ((j : Int) < 40) = true := decide_eq_true (by omega)
      have hbw : Below w.heap.size w wr := hb1.trans (hbW.mono hwB)
      obtain ⟨ao', c', e1, _, _, hcs⟩ := HR.out.below hbw (Nat.le_refl _)
      obtain ⟨a, u, ea, hcell, hrd⟩ := hcs j hlt
      simp only [Value.slice.injEq, true_and] at e1
      obtain ⟨rfl, rfl⟩ := e1
      subst ea
      obtain ⟨_, _, e1, _, _, hcs0⟩ := HR.out
      simp only [Value.slice.injEq, true_and] at e1
      obtain ⟨rfl, rfl⟩ := e1
      obtain ⟨_, u0, ea, hcell0, hrd0⟩ := hcs0 j hlt
      obtain rfl := Option.some.inj ea
      have hu : u0 = u := by
        have := hbw.cell (p := a.add j) (by exact World.block_lt_of_cell? w _ hcell0)
        rw [hcell, hcell0] at this
        exact (Option.some.inj this).symm
      subst hu
      obtain ⟨r, hrj⟩ : ∃ r, r = rs[j] := ⟨_, rfl⟩
      rw [← hrj] at hrd hrd0
      have hkp : ∀ w3, Below B wr w3 → Rd w3 u0 r := fun w3 hb => hrd0.below (hbw.trans (hb.mono hwB)) (Nat.le_refl _)
      clear hcs hcs0 hcell0 hrd0 ea
      obtain ⟨ua, uc, eu, hu1, hu2, _⟩ := id hrd
      subst eu
      have htk : rs.take (j + 1) = rs.take j ++ [r] := by rw [List.take_add_one, List.getElem?_eq_getElem hlt, hrj]; rfl
      have hw1w : Below w.heap.size w wr := hbw
      by_cases h5k : 100 < r.length
      · have g2 : (100 : Int) < (r.length : Int) := by omega
        clear hrj htk hE h5 hkp hrd
        go_wp2_with fail
        go_ret
        exact ⟨rfl, hw1w⟩
      · have g2 : ¬ (100 : Int) < (r.length : Int) := by omega
        obtain ⟨sv, P, U, own, n, od, st, hRo⟩ := hE
        have hz := frs_le (rs.take j) 100 h5
        have hfl := frame_le r
        have htl : (rs.take j).length = j := by rw [List.length_take]; omega
        have hap := append_rot hRo (by omega) (by omega) (by omega) (by omega) hrd hkp (by omega) (by rw [htl] at hz; omega)
        rw [htl, ← htk] at hap
        have H : Hid _ := And.intro hrj (And.intro htk (And.intro h5 hbW))
        have g3 : ((j : Int) + 1) = ((j + 1 : Nat) : Int) := by omega
        clear hrj htk h5 hbW hRo hkp hrd hz htl
        generalize j + 1 = j1 at *
        go_wp2_with fail
        refine hap.mono ?_
        rintro e w4 ⟨rfl, hE4, hb4⟩
        clear hap
        go_wp2_with fail
        obtain ⟨hrj, htk, h5, hbW⟩ := H.out
        refine ⟨⟨j1, rfl, by omega, by omega, hE4, fun q hq => ?_, hbW.trans hb4⟩, by simp [intOf]; omega⟩
        rw [htk, List.mem_append, List.mem_singleton] at hq
        rcases hq with hq | rfl
        · exact h5 q hq
        · omega
    · have hgx : ¬ ((j : Int) < (rs.length : Int)) ∨ ((j : Int) < (rs.length : Int) ∧ decide ((j : Int) < 40) = false) := by
        by_cases q : j < rs.length
        · exact .inr ⟨by omega, decide_eq_false (by omega)⟩
        · exact .inl (by omega)
      have hrl : (rs.take j).length ≤ 40 := by rw [List.length_take]; omega
      obtain ⟨sv, P, U, own, n, od, st, hRo⟩ := hE
      have hz := frs_le (rs.take j) 100 h5
      have hz2 : (frs (rs.take j)).length ≤ 100000 := by omega
      have HW1 : Hid (Below w.heap.size w wr) := hb1.trans (hbW.mono hwB)
      have hsy := sync_rot hRo
      generalize rs.take j = rs1 at *
      clear hRo hz h5 hb1 hbW
      rcases hgx with hg | ⟨hg, hg2⟩
      all_goals
        go_wp2_with fail
        refine hsy.mono ?_
        rintro e w5 ⟨rfl, ⟨od5, st5, hRo⟩, hb5⟩
        obtain ⟨k, p, hk, ep, hnx⟩ := hRo.last
        have hpl : (sgs P).length = P.length := by simp
        have hln := hRo.2.1.len (by omega)
        have hnb := hRo.1.nb k p ep
        have hseg := segments_any hRo.1.lg (by omega)
        have HRo : Hid (Rot B l d 40 NML 2 tail.length (exL tail) rs1 sv P U own n od5 st5 w5) := hRo
        have HW5 : Hid (Below w.heap.size w w5) := HW1.out.trans (hb5.mono hwB)
        have hB5 := hRo.1.leB
        clear hsy hb5 hRo
        go_wp2_with fail
        refine hseg.mono ?_
        rintro e w6 ⟨v6, rfl, ho6, hb6⟩
        obtain ⟨g6, c6, rfl, v61, v62, hg6, hc6⟩ := begins_cell ho6 (by omega)
        have k0 := hc6 k p ep
        unfold maxLen at v62
        have hnext := lnext_any (HRo.out.1.below hb6).lg hk p ep (by omega)
        rw [hnx] at hnext
        clear hseg ho6 hc6
        obtain ⟨nx, hnxe⟩ : ∃ nx, nx = 1 + rs1.length := ⟨_, rfl⟩
        rw [← hnxe] at hnext hnx
        have HNX : Hid _ := hnxe
        clear hnxe
        go_wp2_with fail
        refine hnext.mono ?_
        rintro e w7 ⟨rfl, q7, rfl⟩
        have k0' : (w6.drewN q7).cell? ⟨g6, k, none⟩ = some (.int .u64 (p.1.1 : Int)) := k0
        have gk : (P.length : Int) - 1 = (k : Int) := by omega
        have gk2 : (k : Int) < (P.length : Int) := by omega
        have hnm : (⟨#[108, 111, 103, 46]⟩ : ByteArray) ++ lowD 20 p.1.1 = fname NML p.1.1 := name_of NML p.1.1 hnb
        have hlow := lowD_size 20 p.1.1
        have HK : Hid _ := And.intro hk ep
        clear hk ep hnext k0
        go_wp2_with fail
        refine (digits_any p.1.1 (by omega) _).mono ?_
        rintro e w8 ⟨rfl, q8, rfl⟩
        obtain ⟨s, hst⟩ := HRo.out.1.fl k p HK.out.2
        have hbA : Below w5.heap.size w5 (w6.drewN (q7 + q8)) := Below.tr hb6 (Below.dN w6 _)
        have hsl := (seg_le HRo.out.2.1 k p.1 (sgs_at HK.out.2)).1
        have hrd := read_alive (HRo.out.1.below hbA).dk (fname NML p.1.1) (by unfold maxLen; rw [fname_size NML p.1.1 hnb]; decide) _ hst (by simp only []; omega)
        clear hst
        go_wp2_with fail
        refine hrd.mono ?_
        rintro e w9 ⟨v9, rfl, ho9, hb9⟩
        have hb59 : Below w5.heap.size w5 w9 := Below.tr hbA hb9
        obtain ⟨trs, t, hpt, htk, htr⟩ := parse_any _ tail (Nat.le_refl _)
        have hwt := again_start HRo.out (by omega) (by omega) hz2 HK.out.1 HK.out.2 hb59 (HT.out.below (HW5.out.trans (hb59.mono HW5.out.size)) (Nat.le_refl _)) (by omega) hpt htk htr
        have HPT : Hid _ := And.intro hpt (And.intro htk htr)
        clear hrd hpt htk htr
        go_wp2_with fail
        refine hwt.mono ?_
        rintro e w10 ⟨rfl, ⟨od10, st10, hAg, hod10⟩, hc10⟩
        have hAs : (w6.drewN (q7 + q8)).heap.size = w6.heap.size := rfl
        have ho10 : Ow w6.heap.size w10 v9 (frs p.1.2) := ho9.keptC hc10 (fun b e q => by
          have h1 := (HRo.out.1.dk.blo q).2
          have h2 := (World.ownsRow.lt ho9 b e).1
          have h3 := hb6.size
          omega)
        have hl9 : ∀ x, v9.ownBlock = some x → w6.heap.size ≤ x ∧ x < w9.heap.size := fun x e => World.ownsRow.lt ho9 x e
        have hb010 : Below w.heap.size w w10 := (HW5.out.trans (hb59.mono HW5.out.size)).trans ((hc10.below (fun b q => (HRo.out.1.dk.blo q).1) (by have := hb59.size; omega)).mono hwB)
        have HT0 : Hid (TlI w6.heap.size v9 (frs p.1.2) trs t w w10 0 v9 (.slice ta tail.length tc) w10) := ⟨by omega, by simpa [frs] using ho10, by have := HT.out.below hb010 (Nat.le_refl _); rw [List.drop_zero, ← HPT.out.1]; exact this, fun x e => .inl e, Chg.refl _ _, hb010⟩
        have HAG : Hid _ := And.intro hAg (And.intro hod10 hl9)
        have hsz6 : w6.heap.size ≤ w10.heap.size := by have := hb9.size; have := hc10.size; omega
        have hsz9 := hc10.size
        have hw06 : w.heap.size ≤ w6.heap.size := by have := HW5.out.size; have := hb6.size; omega
        clear hwt hAg hod10 hl9 ho10 ho9 hb9 hc10 hb59 hbA
        go_wp2_with fail
        go_loopw [14, 16, 17] (fun vb nv vr W => ∃ j : Nat, nv = .int .u64 ((nx + j : Nat) : Int) ∧ TlI w6.heap.size v9 (frs p.1.2) trs t w w10 j vb vr W) (fun _ nv _ _ => nx + trs.length - (intOf nv).toNat)
        case atStart => exact ⟨0, rfl, HT0.out⟩
        case round =>
          obtain ⟨j, rfl, hTl⟩ := hrel
          have HTl : Hid _ := hTl
          have htf := tframe_any hTl.2.2.1 (by have := HPT.out.1; have h7 := congrArg List.length (show frs trs = frs (trs.take j) ++ frs (trs.drop j) by rw [← frs_app, List.take_append_drop]); have h8 := congrArg List.length this; simp only [List.length_append] at h7 h8 ⊢; omega)
          by_cases hj : j < trs.length
          · obtain ⟨r, er, e1, e2, e3⟩ := hTl.tf hj (by rw [← HPT.out.1]; omega)
            rw [e1] at htf
            dsimp only at htf
            obtain ⟨ao, c, ev, q1, q2, -, -⟩ := id hTl.2.2.1
            unfold maxLen at q2
            have hRs : (frs (trs.drop j) ++ t).length = (M.frame r).length + (frs (trs.drop (j + 1)) ++ t).length := by rw [e2, List.length_append]
            have hlen : (frs p.1.2 ++ frs (trs.take j)).length + (M.frame r).length ≤ 140737488355328 := by
              have h7 := congrArg List.length (show frs trs = frs (trs.take j) ++ frs (trs.drop j) by rw [← frs_app, List.take_append_drop])
              have h8 := congrArg List.length HPT.out.1
              simp only [List.length_append] at h7 h8 hRs ⊢
              omega
            have hrd := hTl.2.2.1
            obtain ⟨R, hR⟩ : ∃ R, R = (frs (trs.drop j) ++ t).length := ⟨_, rfl⟩
            obtain ⟨R1, hR1⟩ : ∃ R1, R1 = (frs (trs.drop (j + 1)) ++ t).length := ⟨_, rfl⟩
            obtain ⟨F, hF⟩ : ∃ F, F = (M.frame r).length := ⟨_, rfl⟩
            rw [← hR, ← hF, ← hR1] at hRs
            rw [← hR] at ev q1
            subst ev
            have hpre : Rd wr (.slice ao F c) (M.frame r) := by
              rw [e2] at hrd
              have h9 := hrd.pre F (by rw [List.length_append]; omega)
              have e8 : (M.frame r ++ (frs (trs.drop (j + 1)) ++ t)).take F = M.frame r := by rw [hF]; exact List.take_left
              rw [e8] at h9
              exact h9
            obtain ⟨n0, hn0⟩ : ∃ n0, n0 = nx + j := ⟨_, rfl⟩
            obtain ⟨n1, hn1⟩ : ∃ n1, n1 = nx + (j + 1) := ⟨_, rfl⟩
            have g1 : (R : Int) - (R1 : Int) = (F : Int) := by omega
            have g2 : F ≤ c := by omega
            have g3 : (n0 : Int) + 1 = (n1 : Int) := by omega
            have g4 : n1 < 18446744073709551616 := by have := HPT.out.2.2; have := HNX.out; omega
            rw [← hn0]
            have HX : Hid (trs[j]? = some r ∧ frs (trs.take (j + 1)) = frs (trs.take j) ++ M.frame r ∧ n0 = nx + j ∧ n1 = nx + (j + 1) ∧ R = F + R1 ∧ j < trs.length) := ⟨er, e3, hn0, hn1, hRs, hj⟩
            have hOw := hTl.2.1
            have hC8 := hsz6
            have HR1 : Hid (R1 = (frs (trs.drop (j + 1)) ++ t).length) := hR1
            clear er e1 e2 e3 hn0 hn1 hRs hR hF hTl hrd hj hR1
            go_wp2_with fail
            refine htf.mono ?_
            rintro e w11 ⟨v1, v2, rfl, o1, o2, -, hb11⟩
            obtain ⟨ao2, c2, ev2, s1, s2, -, -⟩ := id o2.rd
            rw [← HR1.out] at ev2 s1
            subst ev2
            unfold maxLen at s2
            have hpre11 : Rd w11 (.slice ao F c) (M.frame r) := hpre.below hb11 (Nat.le_refl _)
            have hOw11 := hOw.below hb11 (Nat.le_refl _)
            have hB11 : w6.heap.size ≤ w11.heap.size := by have := HTl.out.2.2.2.2.1.size; have := hb11.size; omega
            clear htf hpre hOw
            go_wp2_with (first | (at_builtin; refine wpList_appN rfl _ _ rfl w6.heap.size _ (frs p.1.2 ++ frs (trs.take j)) rfl hOw11 _ (M.frame r) rfl hpre11 hB11 hlen ?_; intro v12 w12 ho12 hg12 hw12) | fail)
            refine ⟨⟨j + 1, by rw [HX.out.2.2.2.1], TlI.step HTl.out HX.out.1 HX.out.2.1 hb11 o2 ho12 hg12 hw12 hw06 hsz6⟩, ?_⟩
            have := HX.out
            simp [intOf]; omega
          · have hj2 : j = trs.length := by have := hTl.1; omega
            have hno := tf_no HPT.out.2.1
            have e1 : frs (trs.drop j) ++ t = t := by rw [hj2, List.drop_length]; rfl
            rw [e1] at htf
            obtain ⟨cn, hcn⟩ : ∃ cn, cn = nx + j := ⟨_, rfl⟩
            rw [← hcn]
            have HJ : Hid (j = trs.length ∧ cn = nx + j) := ⟨hj2, hcn⟩
            clear hj2 hcn e1 hj
            generalize (M.tf t).2.2 = ef at htf hno
            have hno2 : ((ef : Int) != 0) = true := by have h9 : (ef : Int) ≠ 0 := by omega
                                                       simpa using h9
            go_wp2_with fail
            refine htf.mono ?_
            rintro e w11 ⟨v1, v2, rfl, o1, o2, -, hb11⟩
            have hG0 := GofL_first (trs := trs) HRo.out.2.1 HK.out.1 HK.out.2
            obtain ⟨g0, eg0, hg01⟩ := hG0
            have hGl := GofL_len (p := p) (trs := trs) HK.out.1
            have hGm := GofL_last (p := p) (trs := trs) HK.out.1
            have hsn : sgNext (p.1.1, p.1.2 ++ trs) = cn := by
              have h7 := HJ.out
              have h8 := hnx
              unfold sgNext at h8 ⊢
              simp only [List.length_append]
              omega
            have hLl : (frs (p.1.2 ++ trs)).length ≤ 16777216 := by
              rw [frs_app, List.length_append]
              have h8 := congrArg List.length HPT.out.1
              rw [List.length_append] at h8
              omega
            have hk41 : k + 1 ≤ 100 := by have := HK.out.1; omega
            have hcn : cn < 18446744073709551616 := by have := HPT.out.2.2; have := HNX.out; have := HJ.out; omega
            have hrnd := fun (i : Nat) (W : World) (hi : i < 2) (hA : AgW B d tail (GofL P k p trs) w6.heap.size u14 (frs (p.1.2 ++ trs)) w i W) => again_round hA hi hwB hGl eg0 hGm hg01 (by rw [hsn]; exact hcn) rfl (by rw [hGl]; exact hk41) hLl
            simp only [hsn, hGl] at hrnd
            have HA : Hid (AgW B d tail (GofL P k p trs) w6.heap.size u14 (frs (p.1.2 ++ trs)) w 0 w11) := AgW.start HRo.out hrl hz2 (by omega) HK.out.1 HK.out.2 HPT.out.1 HAG.out.1 HAG.out.2.1 HAG.out.2.2 (by have := hb6.size; omega) HTl.out HJ.out.1 hb11 hB5 hsz6
            clear hsn hGl hGm eg0 hg01 htf o1 o2 hb11
            go_wp2_with fail
            go_loopw [21] (fun i W => ∃ j : Nat, i = .int .i64 (j : Int) ∧ j ≤ 2 ∧ AgW B d tail (GofL P k p trs) w6.heap.size u14 (frs (p.1.2 ++ trs)) w j W) (fun i _ => 2 - (intOf i).toNat)
            case atStart => exact ⟨0, rfl, by omega, HA.out⟩
            case round =>
              obtain ⟨i, rfl, hi2, hA⟩ := hrel
              by_cases hi : i < 2
              · have gi : (i : Int) < 2 := by omega
                have hr1 := hrnd i wr hi hA
                clear hrnd hA
                go_wp2_with fail
                refine hr1.mono ?_
                rintro e w12 ⟨l2, rfl, hN, hF, hS⟩
                clear hr1
                go_wp2_with fail
                refine hN.mono ?_
                rintro e w13 ⟨rfl, q13, rfl⟩
                have hF1 := hF q13
                go_wp2_with fail
                refine hF1.mono ?_
                rintro e w14 ⟨rfl, rfl⟩
                have hS1 := hS q13
                go_wp2_with fail
                refine hS1.mono ?_
                rintro e w15 ⟨g, c, rfl, c1, c2, hb15, hR⟩
                go_wp2_with fail
                refine hR.mono ?_
                rintro e w16 ⟨v, rfl, rv, rvb, hA'⟩
                have hsm := same_any rv rvb
                rw [decide_eq_true rfl] at hsm
                go_wp2_with fail
                refine hsm.mono ?_
                rintro e w17 ⟨rfl, q17, rfl⟩
                go_wp2_with fail
                exact ⟨⟨i + 1, by go_num, by omega, hA'.below (Below.dN _ _)⟩, by simp [intOf]; omega⟩
              · have gi : ¬ (i : Int) < 2 := by omega
                obtain ⟨F, n', od', st', sz', hAg, -, -, -, -, -, -, hbw, -⟩ := hA
                have hrl := read_alive hAg.dk ⟨#[108, 111, 103, 115]⟩ (by unfold maxLen; decide) _ hAg.lg (by simp only []; omega)
                have htl := HT.out.below hbw (Nat.le_refl _)
                clear hrnd
                go_wp2_with fail
                refine hrl.mono ?_
                rintro e w12 ⟨v, rfl, hv, hb12⟩
                have hsm := same_any hv.rd (htl.below hb12 (Nat.le_refl _))
                rw [decide_eq_true rfl] at hsm
                go_wp2_with fail
                refine hsm.mono ?_
                rintro e w13 ⟨rfl, q13, rfl⟩
                go_wp2_with fail
                go_ret
                exact ⟨rfl, hbw.trans ((Below.tr hb12 (Below.dN _ _)).mono hbw.size)⟩
end Go.Proofs.YtcielagfajdbeaaGreatDoor
